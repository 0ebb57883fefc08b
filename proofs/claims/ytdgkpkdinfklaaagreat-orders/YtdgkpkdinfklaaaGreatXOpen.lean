import Derived.Test.YtdgkpkdinfklaaaGreatGE
import Derived.ProofKit
import Derived.Lib.SmallJoins
import Derived.ChangeOld
namespace Go.Proofs.YtdgkpkdinfklaaaGreat
open Go.ChangeShapes Go.WideShapes Go.ChangeAt Go.RowKit Go.Deep Go.Joins
theorem Tryz.cellsOp : Tryz.prog.cellsOf 32 = 4 := by kernel_rfl
theorem Tryz.cellsInt : Tryz.prog.cellsOf 3 = 1 := by kernel_rfl
theorem Tryz.cellsStr : Tryz.prog.cellsOf 9 = 1 := by kernel_rfl
theorem Tryz.cellsInts : Tryz.prog.cellsOf 30 = 1 := by kernel_rfl
def IsScript (W : World) (a0 : Option Addr) (len : Nat) : Prop :=
 len = 0 ∨ ∃ b off K S P L, a0 = some ⟨b, off, none⟩ ∧ len ≤ maxLen ∧ Script W b off len K S P L
set_option maxRecDepth 100000 in
theorem open_script {H : Type} {enc : TypeId × Value → H} {W : World} {fuel : Nat} {a0 : Option Addr} {len cap : Nat} {x : DataW H × List MemPlace}
  (hf : DataW.trod enc Tryz.prog W 0 (fun _ => true) true fuel 22 [.slice a0 len cap] = some x) : IsScript W a0 len := by
 rcases open_slice Tryz.underlying22 hf with ⟨hcs, _⟩ | ⟨a, len', cap', m, n, D, Pl, hcs, _, hl, hm, hmm, _, hel⟩
 ·left
  simp at hcs; exact hcs.2.1
 ·simp only [List.cons.injEq, Value.slice.injEq, and_true] at hcs
  obtain ⟨rfl, rfl, rfl⟩ := hcs
  by_cases h0 : len = 0
  ·exact .inl h0
  right
  simp only [if_true] at hmm
  subst hmm
  obtain ⟨b, off, spot⟩ := a
  have hspot : spot = none := by
   obtain ⟨cs, h1, _⟩ := hel 0 (by omega)
   rw [Tryz.cellsOp] at h1
   obtain ⟨_, hlen, hcell⟩ := World.cells?_some h1
   match cs, hlen with
   | [c0, c1, c2, c3], _ =>
    have q0 := hcell 0 (by decide)
    have hsp := World.cell?_spot (w := W) (v := c0) (a := ((⟨b, off, spot⟩ : Addr).add (0 * 4)).add 0) q0
    simpa [Addr.add] using hsp
  subst hspot
  have hel' : ∀ i, i < len → ∃ (k : Int) (s p : ByteArray) (v : Value), W.cell? ⟨b, off + i * 4, none⟩ = some (.int .i64 k) ∧ W.cell? ⟨b, off + i * 4 + 1, none⟩ = some (.string s) ∧ W.cell? ⟨b, off + i * 4 + 2, none⟩ = some (.string p) ∧ W.cell? ⟨b, off + i * 4 + 3, none⟩ = some v ∧
    s.size ≤ maxLen ∧ p.size ≤ maxLen ∧ ∃ a n c, v = .slice a n c := by
   intro i hi
   obtain ⟨cs, h1, h2⟩ := hel i (by omega)
   rw [Tryz.cellsOp] at h1
   obtain ⟨_, hlen, hcell⟩ := World.cells?_some h1
   match cs, hlen with
   | [c0, c1, c2, c3], _ =>
    obtain ⟨y0, y1, y2, y3, n', _, _, t0, t1, t2, t3⟩ := trod_struct4 Tryz.underlying32 h2
    simp only [Tryz.cellsInt] at t0
    simp only [Tryz.cellsStr] at t1 t2
    simp only [Tryz.cellsInts] at t3
    obtain ⟨k, e0, _, _⟩ := DataW.trod_int Tryz.underlying3 t0
    obtain ⟨s, e1, _, hs⟩ := DataW.trod_string Tryz.underlying9 t1
    obtain ⟨p, e2, _, hp⟩ := DataW.trod_string Tryz.underlying9 t2
    obtain ⟨la, ln, lc, e3⟩ := slice_form Tryz.underlying30 t3
    simp at e0 e1 e2 e3
    subst e0 e1 e2 e3
    have q0 := hcell 0 (by decide)
    have q1 := hcell 1 (by decide)
    have q2 := hcell 2 (by decide)
    have q3 := hcell 3 (by decide)
    rw [add_plain, add_plain] at q0 q1 q2 q3
    exact ⟨k, s, p, _, q0, q1, q2, q3, hs, hp, la, ln, lc, rfl⟩
  obtain ⟨K, hK⟩ := choose_lt (fun i hi => (hel' i hi))
  obtain ⟨S, hS⟩ := choose_lt (α := ByteArray) (fun i hi => (hK i hi))
  obtain ⟨P, hP⟩ := choose_lt (α := ByteArray) (fun i hi => (hS i hi))
  obtain ⟨L, hL⟩ := choose_lt (α := Value) (fun i hi => (hP i hi))
  refine ⟨b, off, K, S, P, L, rfl, by omega, ?_⟩
  exact ⟨fun h => World.block_lt_of_cell? W _ (hL 0 h).1, fun j hj => (hL j hj).1, fun j hj => (hL j hj).2.1, fun j hj => (hL j hj).2.2.1, fun j hj => (hL j hj).2.2.2.1, fun j hj => (hL j hj).2.2.2.2.1, fun j hj => (hL j hj).2.2.2.2.2.1, fun j hj => (hL j hj).2.2.2.2.2.2⟩
theorem Tryz.own : ownKnob Tryz.prog.godebug = none := by kernel_rfl
theorem Tryz.laidOut : laidOutB Tryz.prog = true := by kernel_rfl
set_option maxHeartbeats 800000 in
set_option maxRecDepth 100000 in
theorem upto_none (a0 : Option Addr) (cap : Nat) (lo hi : Int) (w : World) :
  Calls Tryz.prog 10 #[.slice a0 0 cap, .int .i64 lo, .int .i64 hi] w fun e w' => e = .returned (.int .i64 (-1)) ∧ Below w.heap.size w w' := by
 go_enter Tryz.func10, Tryz.ntmps10
 go_wp2
 refine wp_loop_rounds 1 ?_
 rw [rounds_succ]
 go_wp2
 go_ret
 exact ⟨rfl, (Below.refl _ _).alloc (Nat.le_refl _) _⟩
end Go.Proofs.YtdgkpkdinfklaaaGreat
