import Derived.Test.YtdgkpkdinfklaabGW
import Derived.Test.YtdgkpkdinfklaabGK
namespace Go.Proofs.Ytdgkpkdinfklaab
open Go.RowKit

def meetB (f g : Nat → Bool) : Bool := (List.range 5).any fun i => f i && g i
/-- Are two accesses open? -/
def opMK (a b : MK) : Bool := (!meetB (hOf a) (hOf b)) && ((a.thread != b.thread) && ((a.num == b.num) && (a.kind == 2 || b.kind == 2)))

def opAt (l : List MK) (i k : Nat) : Bool := match l[i]?, l[k]? with
  | some a, some b => opMK a b
  | _, _ => false
def prI (l : List MK) (i : Nat) : Nat → List Nat
  | 0 => []
  | c + 1 => prI l i c ++ (if opAt l i (i + 1 + c) then [i, i + 1 + c] else [])
def prL (l : List MK) : Nat → List Nat
  | 0 => []
  | i + 1 => prL l i ++ prI l i (l.length - (i + 1))
end Go.Proofs.Ytdgkpkdinfklaab

namespace Go.Proofs.Ytdgkpkdinfklaab
open Go.RowKit

def hOfT (s : ST) : Nat → Bool
  | 0 => s.h0
  | 1 => s.h1
  | 2 => s.h2
  | 3 => s.h3
  | _ => s.h4
theorem hOfT_mk (s : ST) : hOfT s = hOf (mkAcc s) := by
  funext i
  match i with
  | 0 => rfl
  | 1 => rfl
  | 2 => rfl
  | 3 => rfl
  | _ + 4 => rfl

/-- The accesses among the steps. -/
def accS (F : List ST) : List ST := F.filter fun s => s.kind == 1 || s.kind == 2
theorem accS_mks (F : List ST) : accL (mksS F) = (accS F).map mkAcc := by
  induction F with
  | nil => rfl
  | cons s r ih =>
    have hc : mksS (s :: r) = (match mkS s with | some m => [m] | none => []) ++ mksS r := by
      rw [mksS, List.filterMap_cons]
      cases mkS s <;> rfl
    rw [hc, accL, List.filter_append]
    have ih' : List.filter isAcc (mksS r) = (accS r).map mkAcc := ih
    rw [ih']
    by_cases h6 : s.kind = 6
    · have h12 : (s.kind == 1 || s.kind == 2) = false := by simp; omega
      have : accS (s :: r) = accS r := by rw [accS, List.filter_cons]; simp only [h12]; rfl
      rw [this]
      simp [mkS, h6, isAcc]
    · by_cases h1 : s.kind = 1 ∨ s.kind = 2
      · have h12 : (s.kind == 1 || s.kind == 2) = true := by simpa using h1
        have h3 : s.kind ≠ 3 := by omega
        have : accS (s :: r) = s :: accS r := by rw [accS, List.filter_cons]; simp only [h12]; rfl
        rw [this]
        simp [mkS, h6, h1, isAcc, h3, mkAcc, List.filter_cons]
      · have h12 : (s.kind == 1 || s.kind == 2) = false := by simpa using h1
        have : accS (s :: r) = accS r := by rw [accS, List.filter_cons]; simp only [h12]; rfl
        rw [this]
        simp [mkS, h6, h1]
theorem accS_snoc {F : List ST} {k : Nat} {m : ST} (h : F[k]? = some m) : accS (F.take (k + 1)) = accS (F.take k) ++ (if (m.kind == 1 || m.kind == 2) = true then [m] else []) := by
  obtain ⟨hk, rfl⟩ := List.getElem?_eq_some_iff.1 h
  rw [List.take_succ_eq_append_getElem hk, accS, List.filter_append]
  congr 1
  rw [List.filter_cons, List.filter_nil]

set_option maxHeartbeats 800000 in
theorem conflict_any (a b : ST) (w : World) :
    Calls Try.prog 63 #[.agg #[.int .i64 a.kind, .int .i64 a.place, .int .i64 a.thread, .int .i64 a.num, .bool a.mend, .int .i64 a.nx, .int .i64 a.el, .bool a.h0, .bool a.h1, .bool a.h2, .bool a.h3, .bool a.h4], .agg #[.int .i64 b.kind, .int .i64 b.place, .int .i64 b.thread, .int .i64 b.num, .bool b.mend, .int .i64 b.nx, .int .i64 b.el, .bool b.h0, .bool b.h1, .bool b.h2, .bool b.h3, .bool b.h4]] w fun e w' => e = .returned (.bool ((a.thread != b.thread) && ((a.num == b.num) && (a.kind == 2 || b.kind == 2)))) ∧ Below w.heap.size w w' := by
  have B1 : Hid (∀ o o', Below w.heap.size w ((w.alloc o).alloc o')) := fun o o' => ((Below.refl _ _).alloc (Nat.le_refl _) o).alloc (by simp) o'
  go_enter Try.func63, Try.ntmps63
  by_cases ht : a.thread = b.thread
  · have h1 : (a.thread == b.thread) = true := by simpa using ht
    have h2 : (a.thread != b.thread) = false := by simpa using ht
    rw [h2]
    clear ht
    go_wp2
    go_ret
    exact ⟨rfl, B1.out _ _⟩
  · have h1 : (a.thread == b.thread) = false := by simpa using ht
    have h2 : (a.thread != b.thread) = true := by simpa using ht
    rw [h2]
    clear ht
    by_cases hn : a.num = b.num
    · have h3 : (a.num != b.num) = false := by simpa using hn
      have h4 : (a.num == b.num) = true := by simpa using hn
      rw [h4]
      clear hn
      cases hk : (a.kind == 2) with
      | true =>
        go_wp2
        go_ret
        exact ⟨rfl, B1.out _ _⟩
      | false =>
        go_wp2
        go_ret
        exact ⟨rfl, B1.out _ _⟩
    · have h3 : (a.num != b.num) = true := by simpa using hn
      have h4 : (a.num == b.num) = false := by simpa using hn
      rw [h4]
      clear hn
      go_wp2
      go_ret
      exact ⟨rfl, B1.out _ _⟩

set_option maxHeartbeats 1600000 in
theorem open_any (a b : ST) (w : World) :
    Calls Try.prog 47 #[.agg #[.int .i64 a.kind, .int .i64 a.place, .int .i64 a.thread, .int .i64 a.num, .bool a.mend, .int .i64 a.nx, .int .i64 a.el, .bool a.h0, .bool a.h1, .bool a.h2, .bool a.h3, .bool a.h4], .agg #[.int .i64 b.kind, .int .i64 b.place, .int .i64 b.thread, .int .i64 b.num, .bool b.mend, .int .i64 b.nx, .int .i64 b.el, .bool b.h0, .bool b.h1, .bool b.h2, .bool b.h3, .bool b.h4]] w fun e w' => e = .returned (.bool (opMK (mkAcc a) (mkAcc b))) ∧ Below w.heap.size w w' := by
  have B1 : Hid (∀ o o', Below w.heap.size w ((w.alloc o).alloc o')) := fun o o' => ((Below.refl _ _).alloc (Nat.le_refl _) o).alloc (by simp) o'
  obtain ⟨C, hC⟩ : ∃ C, C = ((a.thread != b.thread) && ((a.num == b.num) && (a.kind == 2 || b.kind == 2))) := ⟨_, rfl⟩
  have HR : Hid (opMK (mkAcc a) (mkAcc b) = (!meetB (hOfT a) (hOfT b) && C)) := by
    show _ = _
    rw [hC, hOfT_mk, hOfT_mk]; rfl
  obtain ⟨R, hR⟩ : ∃ R, R = opMK (mkAcc a) (mkAcc b) := ⟨_, rfl⟩
  rw [← hR] at HR ⊢
  have HC : Hid (∀ wx, Calls Try.prog 63 #[.agg #[.int .i64 a.kind, .int .i64 a.place, .int .i64 a.thread, .int .i64 a.num, .bool a.mend, .int .i64 a.nx, .int .i64 a.el, .bool a.h0, .bool a.h1, .bool a.h2, .bool a.h3, .bool a.h4], .agg #[.int .i64 b.kind, .int .i64 b.place, .int .i64 b.thread, .int .i64 b.num, .bool b.mend, .int .i64 b.nx, .int .i64 b.el, .bool b.h0, .bool b.h1, .bool b.h2, .bool b.h3, .bool b.h4]] wx fun e w' => e = .returned (.bool C) ∧ Below wx.heap.size wx w') := by
    intro wx
    rw [hC]; exact conflict_any a b wx
  clear hC hR
  have HBa : Hid (∀ o o', Blk ((w.alloc (.cells #[.int .i64 a.kind, .int .i64 a.place, .int .i64 a.thread, .int .i64 a.num, .bool a.mend, .int .i64 a.nx, .int .i64 a.el, .bool a.h0, .bool a.h1, .bool a.h2, .bool a.h3, .bool a.h4] o)).alloc o') w.heap.size (stV a) o) := fun o o' => Blk.alloc (heap_alloc_new _ _) _
  have HBb : Hid (∀ o o', Blk ((w.alloc o).alloc (.cells #[.int .i64 b.kind, .int .i64 b.place, .int .i64 b.thread, .int .i64 b.num, .bool b.mend, .int .i64 b.nx, .int .i64 b.el, .bool b.h0, .bool b.h1, .bool b.h2, .bool b.h3, .bool b.h4] o')) (w.heap.size + 1) (stV b) o') := fun o o' => by
    have e : (w.alloc o).heap.size = w.heap.size + 1 := by simp
    rw [← e]; exact heap_alloc_new _ _
  go_enter Try.func47, Try.ntmps47
  go_wp2_with fail
  refine (HC.out _).mono ?_
  rintro e w1 ⟨rfl, hb1⟩
  have hba := (HBa.out _ _).chg (chg_of_below hb1 []) (by simp)
  have hbb := (HBb.out _ _).chg (chg_of_below hb1 []) (by simp)
  have HA : Hid (Blk w1 w.heap.size (stV a) 80) := hba
  have HB : Hid (Blk w1 (w.heap.size + 1) (stV b) 80) := hbb
  have HW : Hid (Below w.heap.size w w1) := (B1.out _ _).trans (hb1.mono (by simp; omega))
  clear hba hbb hb1
  cases C with
  | false =>
    go_wp2
    go_ret
    refine ⟨?_, HW.out⟩
    rw [HR.out]; simp
  | true =>
    go_wp2
    go_loopw [5] (fun iv wr => ∃ (i q : Nat), i ≤ 5 ∧ iv = .int .i64 i ∧ wr = w1.drewN q ∧ ((List.range i).any fun i => hOfT a i && hOfT b i) = false) (fun iv _ => 5 - (intOf iv).toNat)
    case atStart => exact ⟨0, 0, by omega, rfl, rfl, rfl⟩
    case round =>
      obtain ⟨i, q, hi, rfl, rfl, hno⟩ := hrel
      have HNO : Hid (((List.range i).any fun i => hOfT a i && hOfT b i) = false) := hno
      clear hno
      by_cases hi5 : i < 5
      · have ca : w1.cell? ⟨w.heap.size, 7 + i, none⟩ = some (.bool (hOfT a i)) := by
          refine HA.out.cell (7 + i) _ ?_
          have : i = 0 ∨ i = 1 ∨ i = 2 ∨ i = 3 ∨ i = 4 := by omega
          rcases this with rfl | rfl | rfl | rfl | rfl <;> rfl
        have cb : w1.cell? ⟨w.heap.size + 1, 7 + i, none⟩ = some (.bool (hOfT b i)) := by
          refine HB.out.cell (7 + i) _ ?_
          have : i = 0 ∨ i = 1 ∨ i = 2 ∨ i = 3 ∨ i = 4 := by omega
          rcases this with rfl | rfl | rfl | rfl | rfl <;> rfl
        have HSN : Hid (((List.range (i + 1)).any fun i => hOfT a i && hOfT b i) = (hOfT a i && hOfT b i)) := by
          show _ = _
          rw [List.range_succ, List.any_append, HNO.out]; simp
        have hi5' : (i : Int) < 5 := by omega
        cases h1 : hOfT a i with
        | false =>
          rw [h1] at ca HSN
          have HN2 : Hid (((List.range (i + 1)).any fun i => hOfT a i && hOfT b i) = false) := by
            show _ = _
            rw [HSN.out]; rfl
          clear h1 HSN
          go_wp2
          exact ⟨⟨i + 1, q, by omega, by go_num, rfl, HN2.out⟩, by simp [intOf]; omega⟩
        | true =>
          cases h2 : hOfT b i with
          | false =>
            rw [h1, h2] at HSN
            rw [h1] at ca
            rw [h2] at cb
            have HN2 : Hid (((List.range (i + 1)).any fun i => hOfT a i && hOfT b i) = false) := by
              show _ = _
              rw [HSN.out]; rfl
            clear h1 h2 HSN
            go_wp2
            exact ⟨⟨i + 1, q, by omega, by go_num, rfl, HN2.out⟩, by simp [intOf]; omega⟩
          | true =>
            have HT : Hid (meetB (hOfT a) (hOfT b) = true) := by
              show _ = _
              rw [meetB, List.any_eq_true]
              exact ⟨i, by simpa using hi5, by rw [h1, h2]; rfl⟩
            rw [h1] at ca
            rw [h2] at cb
            clear h1 h2 HSN
            go_wp2
            go_ret
            refine ⟨?_, HW.out.trans (below_drewN' _ _ _)⟩
            rw [HR.out, HT.out]; rfl
      · have hi' : i = 5 := by omega
        subst hi'
        go_wp2
        go_ret
        refine ⟨?_, HW.out.trans (below_drewN' _ _ _)⟩
        rw [HR.out, meetB, HNO.out]; rfl

end Go.Proofs.Ytdgkpkdinfklaab

namespace Go.Proofs.Ytdgkpkdinfklaab
open Go.RowKit

def imsV (k c : Nat) : List Value := List.replicate c (.int .i64 (1048576 + (k : Int)))

structure BB (w : World) (bk : Nat) (gs : List (Option Addr × Nat)) (ga : Option Addr) (gc : Nat) (fs : List (Option Addr × Nat)) (aa : Option Addr) (ca : Nat) : Prop where
  lt : bk < w.heap.size
  c0 : w.cell? ⟨bk, 0, none⟩ = some (.slice ga gs.length gc)
  c1 : w.cell? ⟨bk, 1, none⟩ = some (.slice aa fs.length ca)
  f0 : w.frozen? ⟨bk, 0, none⟩ = false
  f1 : w.frozen? ⟨bk, 1, none⟩ = false
  irow : w.ownsRow (bk + 1) 22 1 (.slice ga gs.length gc) gs.length (gs.map fun f => .slice f.1 f.2 f.2)
  arow : w.ownsRow (bk + 1) 45 1 (.slice aa fs.length ca) fs.length (fs.map fun f => .slice f.1 f.2 f.2)
  ieach : ∀ k f, gs[k]? = some f → w.ownsRow (bk + 1) 3 1 (.slice f.1 f.2 f.2) f.2 (imsV k f.2)
  aeach : ∀ k f, fs[k]? = some f → w.ownsRow (bk + 1) 50 5 (.slice f.1 f.2 f.2) f.2 (bmsV k f.2)

end Go.Proofs.Ytdgkpkdinfklaab
