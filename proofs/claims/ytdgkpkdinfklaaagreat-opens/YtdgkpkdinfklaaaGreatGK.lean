import Derived.Test.YtdgkpkdinfklaaaGreatGB
import Derived.Deep.RegionWith
namespace Go.Proofs.YtdgkpkdinfklaaaGreat
open Go.RowKit

/-! ### Blocks, and what has turned -/

/-- A block of the call's own, and what it holds. -/
def Blk (w : World) (k : Nat) (l : List Value) (ty : Nat) : Prop := w.heap[k]? = some (.cells l.toArray ty)

theorem Blk.cell {w : World} {k : Nat} {l : List Value} {ty : Nat} (h : Blk w k l ty) (i : Nat) (v : Value) (hv : l[i]? = some v) : w.cell? ⟨k, i, none⟩ = some v := by
  have h' : w.heap[k]? = some (.cells l.toArray ty) := h
  simp [World.cell?, h', hv]
theorem Blk.fz {w : World} {k : Nat} {l : List Value} {ty : Nat} (h : Blk w k l ty) (i : Nat) : w.frozen? ⟨k, i, none⟩ = false := frozen_of_row w k i _ _ h
theorem Blk.lt {w : World} {k : Nat} {l : List Value} {ty : Nat} (h : Blk w k l ty) : k < w.heap.size := (Array.getElem?_eq_some_iff.1 h).1
theorem Blk.set {w : World} {k : Nat} {l : List Value} {ty : Nat} (h : Blk w k l ty) (i : Nat) (u : Value) : Blk (w.setCell ⟨k, i, none⟩ u) k (l.set i u) ty := by
  have := heap_setCell_same w k i l.toArray ty u h
  show _ = some (Obj.cells (l.set i u).toArray ty)
  rw [this]; simp
theorem Blk.other {w : World} {k : Nat} {l : List Value} {ty : Nat} (h : Blk w k l ty) {a : Addr} (hne : k ≠ a.block) (u : Value) : Blk (w.setCell a u) k l ty := by
  show _ = _
  rw [heap_setCell_other w a k u hne]; exact h
theorem Blk.alloc {w : World} {k : Nat} {l : List Value} {ty : Nat} (h : Blk w k l ty) (o : Obj) : Blk (w.alloc o) k l ty := by
  show _ = _
  rw [Below.heap_alloc w o k h.lt]; exact h
theorem Blk.drew {w : World} {k : Nat} {l : List Value} {ty : Nat} (h : Blk w k l ty) : Blk w.drew k l ty := h
theorem Blk.drewN {w : World} {k : Nat} {l : List Value} {ty : Nat} (h : Blk w k l ty) (n : Nat) : Blk (w.drewN n) k l ty := h
theorem Blk.new {w : World} {l : List Value} {ty : Nat} : Blk (w.alloc (.cells l.toArray ty)) w.heap.size l ty := heap_alloc_new _ _

/-- Of the blocks that were there, those of S alone may have turned. -/
structure Chg (S : List Nat) (w w' : World) : Prop where
  os : w'.os = w.os
  tape : w'.tape = w.tape
  output : w'.output = w.output
  size : w.heap.size ≤ w'.heap.size
  block : ∀ k, k < w.heap.size → k ∉ S → w'.heap[k]? = w.heap[k]?

theorem Chg.refl (S : List Nat) (w : World) : Chg S w w := ⟨rfl, rfl, rfl, Nat.le_refl _, fun _ _ _ => rfl⟩
theorem Chg.trans {S : List Nat} {x y z : World} (h : Chg S x y) (k : Chg S y z) : Chg S x z :=
  ⟨k.os.trans h.os, k.tape.trans h.tape, k.output.trans h.output, Nat.le_trans h.size k.size, fun i hi hs => (k.block i (Nat.lt_of_lt_of_le hi h.size) hs).trans (h.block i hi hs)⟩
/-- What the second turned was made by the first, or is of S. -/
theorem Chg.trans' {S T : List Nat} {x y z : World} (h : Chg S x y) (k : Chg T y z) (hT : ∀ i ∈ T, i ∈ S ∨ x.heap.size ≤ i) : Chg S x z :=
  ⟨k.os.trans h.os, k.tape.trans h.tape, k.output.trans h.output, Nat.le_trans h.size k.size, fun i hi hs => (k.block i (Nat.lt_of_lt_of_le hi h.size) (fun ht => by rcases hT i ht with h1 | h1; exact hs h1; omega)).trans (h.block i hi hs)⟩
theorem Chg.mono {S T : List Nat} {x y : World} (h : Chg S x y) (hT : ∀ i ∈ S, i ∈ T) : Chg T x y := ⟨h.os, h.tape, h.output, h.size, fun i hi hs => h.block i hi (fun e => hs (hT i e))⟩
theorem Chg.drew {S : List Nat} {x y : World} (h : Chg S x y) : Chg S x y.drew := ⟨h.os, h.tape, h.output, h.size, h.block⟩
theorem Chg.drewN {S : List Nat} {x y : World} (h : Chg S x y) (n : Nat) : Chg S x (y.drewN n) := ⟨h.os, h.tape, h.output, h.size, h.block⟩
theorem Chg.alloc {S : List Nat} {x y : World} (h : Chg S x y) (o : Obj) : Chg S x (y.alloc o) :=
  ⟨h.os, h.tape, h.output, by have := h.size; simp; omega, fun i hi hs => by rw [Below.heap_alloc y o i (Nat.lt_of_lt_of_le hi h.size)]; exact h.block i hi hs⟩
theorem Chg.set {S : List Nat} {x y : World} (h : Chg S x y) {a : Addr} (ha : a.block ∈ S ∨ x.heap.size ≤ a.block) (u : Value) : Chg S x (y.setCell a u) :=
  ⟨h.os, h.tape, h.output, by simpa [World.setCell] using h.size, fun i hi hs => by
    rw [heap_setCell_other y a i u (fun e => by subst e; rcases ha with h1 | h1; exact hs h1; omega)]; exact h.block i hi hs⟩
theorem Chg.below {S : List Nat} {x y : World} {B : Nat} (h : Chg S x y) (hB : ∀ k ∈ S, B ≤ k) (hs : B ≤ x.heap.size) : Below B x y :=
  ⟨h.os, h.tape, h.output, h.size, fun k hk => h.block k (by omega) (fun e => by have := hB k e; omega)⟩
theorem Blk.chg {S : List Nat} {w w' : World} {k : Nat} {l : List Value} {ty : Nat} (h : Blk w k l ty) (hc : Chg S w w') (hs : k ∉ S) : Blk w' k l ty := by
  show _ = _
  rw [hc.block k h.lt hs]; exact h
theorem chg_of_below {w w' : World} (h : Below w.heap.size w w') (S : List Nat) : Chg S w w' := ⟨h.os, h.tape, h.output, h.size, fun k hk _ => h.block k hk⟩

/-! ### The machine -/
structure CK where
  c0 : Int
  c1 : Int
  c2 : Int
  c3 : Int

def CK.get (c : CK) : Nat → Int
  | 0 => c.c0
  | 1 => c.c1
  | 2 => c.c2
  | _ => c.c3
def CK.set (c : CK) (i : Nat) (x : Int) : CK := match i with
  | 0 => { c with c0 := x }
  | 1 => { c with c1 := x }
  | 2 => { c with c2 := x }
  | _ => { c with c3 := x }
def mx (a b : Int) : Int := if a < b then b else a
def CK.learn (c d : CK) : CK := ⟨mx c.c0 d.c0, mx c.c1 d.c1, mx c.c2 d.c2, mx c.c3 d.c3⟩
def CK.misses (c d : CK) : Bool := decide (c.c0 < d.c0) || decide (c.c1 < d.c1) || decide (c.c2 < d.c2) || decide (c.c3 < d.c3)
def CK.zero : CK := ⟨0, 0, 0, 0⟩

structure TH where
  name : Int
  next : Int
  reg : Int
  kn : CK
structure GB where
  val : Int
  gets : CK
  puts : CK
structure LK where
  holder : Int
  kn : CK
structure MS where
  th : List TH
  gl : List GB
  lk : List LK
  pr : List UInt8
  raced : Bool

def ckV (c : CK) : List Value := [.int .i64 c.c0, .int .i64 c.c1, .int .i64 c.c2, .int .i64 c.c3]
def thV (t : TH) : List Value := [.int .i64 t.name, .int .i64 t.next, .int .i64 t.reg, .int .i64 t.kn.c0, .int .i64 t.kn.c1, .int .i64 t.kn.c2, .int .i64 t.kn.c3]
def gbV (g : GB) : List Value := [.int .i64 g.val, .int .i64 g.gets.c0, .int .i64 g.gets.c1, .int .i64 g.gets.c2, .int .i64 g.gets.c3, .int .i64 g.puts.c0, .int .i64 g.puts.c1, .int .i64 g.puts.c2, .int .i64 g.puts.c3]
def lkV (l : LK) : List Value := [.int .i64 l.holder, .int .i64 l.kn.c0, .int .i64 l.kn.c1, .int .i64 l.kn.c2, .int .i64 l.kn.c3]
def thsV (l : List TH) : List Value := l.flatMap thV

/-- The machine's own cells; the slices' values stand for themselves. -/
def mV (vs vt vp : Value) (gl : List GB) (lk : List LK) (raced : Bool) : List Value := vs :: vt :: (gl.flatMap gbV ++ (lk.flatMap lkV ++ [vp, .bool raced]))

def TH.ix (t : TH) : Nat := (t.name - 1).toNat

theorem name_cases {n : Int} (h1 : 1 ≤ n) (h4 : n ≤ 4) : n = 1 ∨ n = 2 ∨ n = 3 ∨ n = 4 := by omega

/-! ### The clocks -/
set_option maxHeartbeats 1600000 in
set_option maxRecDepth 100000 in
theorem tick_any (k : Nat) (t : TH) (w : World) (h : Blk w k (thV t) 153) (h1 : 1 ≤ t.name) (h4 : t.name ≤ 4) (hb : ∀ i, 0 ≤ t.kn.get i ∧ t.kn.get i ≤ 1000000) :
    Calls Tryz.prog 99 #[.pointer (some ⟨k, 3, none⟩), .int .i64 t.name] w fun e w' => e = .returned (.tuple #[]) ∧ Blk w' k (thV { t with kn := t.kn.set t.ix (t.kn.get t.ix + 1) }) 153 ∧ Chg [k] w w' := by
  obtain ⟨name, next, reg, c0, c1, c2, c3⟩ := t
  simp only at h1 h4 hb ⊢
  have q3 := h.cell 3 _ rfl
  have q4 := h.cell 4 _ rfl
  have q5 := h.cell 5 _ rfl
  have q6 := h.cell 6 _ rfl
  have z3 := h.fz 3
  have z4 := h.fz 4
  have z5 := h.fz 5
  have z6 := h.fz 6
  have b0 := hb 0
  have b1 := hb 1
  have b2 := hb 2
  have b3 := hb 3
  simp only [CK.get] at b0 b1 b2 b3
  have HH : Hid (Blk w k (thV ⟨name, next, reg, c0, c1, c2, c3⟩) 153) := h
  clear h hb
  rcases name_cases h1 h4 with rfl | rfl | rfl | rfl
  all_goals
    clear h1 h4
    go_enter Tryz.func99, Tryz.ntmps99
    go_wp2
    go_region
    all_goals
      go_wp2
      go_end0
      exact ⟨rfl, (HH.out.set _ _).drew, ((Chg.refl _ w).set (.inl (by simp)) _).drew⟩

set_option maxHeartbeats 1600000 in
set_option maxRecDepth 100000 in
theorem note_any (k gk o : Nat) (t : TH) (l : List Value) (w : World) (h : Blk w k (thV t) 153) (hg : Blk w gk l 122) (_hne : gk ≠ k) (h1 : 1 ≤ t.name) (h4 : t.name ≤ 4) (hl : ∀ i, i < 4 → ∃ v, l[o + i]? = some v) :
    Calls Tryz.prog 130 #[.pointer (some ⟨gk, o, none⟩), .pointer (some ⟨k, 0, none⟩)] w fun e w' => e = .returned (.tuple #[]) ∧ Blk w' gk (l.set (o + t.ix) (.int .i64 (t.kn.get t.ix))) 122 ∧ Chg [gk] w w' := by
  obtain ⟨name, next, reg, c0, c1, c2, c3⟩ := t
  simp only at h1 h4 ⊢
  have q0 := h.cell 0 _ rfl
  have q3 := h.cell 3 _ rfl
  have q4 := h.cell 4 _ rfl
  have q5 := h.cell 5 _ rfl
  have q6 := h.cell 6 _ rfl
  obtain ⟨v0, e0⟩ := hl 0 (by decide)
  obtain ⟨v1, e1⟩ := hl 1 (by decide)
  obtain ⟨v2, e2⟩ := hl 2 (by decide)
  obtain ⟨v3, e3⟩ := hl 3 (by decide)
  have g0 := hg.cell _ _ e0
  have g1 := hg.cell _ _ e1
  have g2 := hg.cell _ _ e2
  have g3 := hg.cell _ _ e3
  rw [Nat.add_zero] at g0
  have z0 := hg.fz o
  have z1 := hg.fz (o + 1)
  have z2 := hg.fz (o + 2)
  have z3 := hg.fz (o + 3)
  have HG : Hid (Blk w gk l 122) := hg
  clear h hg hl e0 e1 e2 e3
  rcases name_cases h1 h4 with rfl | rfl | rfl | rfl
  all_goals
    clear h1 h4
    go_enter Tryz.func130, Tryz.ntmps130
    go_wp2
    go_region
    all_goals
      go_wp2
      go_end0
      exact ⟨rfl, (HG.out.set _ _).drew, ((Chg.refl _ w).set (.inl (by simp)) _).drew⟩

end Go.Proofs.YtdgkpkdinfklaaaGreat
