import Derived.Test.YtdgkpkdinfklaabGW
import Derived.Test.YtdgkpkdinfklaabGK
import Derived.Deep.RegionWith
namespace Go.Proofs.Ytdgkpkdinfklaab
open Go.RowKit
theorem Try.infoIntP : (Try.prog.info? 3).map (fun i => (i.zero, i.size, i.bytes)) = some (some (.int .i64 0), 1, 8) := by kernel_rfl
def meetB (f g : Nat → Bool) : Bool := (List.range 5).any fun i => f i && g i
def opMK (a b : MK) : Bool := (!meetB (hOf a) (hOf b)) && ((a.thread != b.thread) && ((a.num == b.num) && (a.kind == 2 || b.kind == 2)))
def opAt (l : List MK) (i k : Nat) : Bool := match l[i]?, l[k]? with
 | some a, some b => opMK a b
 | _, _ => false
def prI (l : List MK) (i : Nat) : Nat → List Nat
 | 0 => []
 | c + 1 => prI l i c ++ (if opAt l i (i + 1 + c) then [i, i + 1 + c] else [])
def prL (l : List MK) : Nat → List Nat
 | 0 => []
 | i + 1 => prL l i ++ prI l i (l.length - (i + 1))
def idV (l : List Nat) : List Value := l.map fun (n : Nat) => .int .i64 (n : Int)
theorem prI_len (l : List MK) (i c : Nat) : (prI l i c).length ≤ 2 * c := by
 induction c with
 | zero => exact Nat.le_refl _
 | succ c ih => rw [prI]; split <;> simp <;> omega
theorem prL_len (l : List MK) (i : Nat) (h : l.length ≤ 1000) : (prL l i).length ≤ 2000 * i := by
 induction i with
 | zero => exact Nat.le_refl _
 | succ i ih => have := prI_len l i (l.length - (i + 1)); rw [prL, List.length_append]; omega
def PairsIs (w w' : World) (s : ByteArray) (v : Value) (a : Int) : Prop :=
 ∃ b, ChkIs s a b ∧ ((a ≠ 0 ∧ v = .slice none 0 0) ∨ (a = 0 ∧ s.size ≤ 240 ∧ ∃ mks x c, Acc s.data.toList mks ∧ mks.length ≤ 1000 ∧ v = .slice x (prL (accL mks) (accL mks).length).length c ∧ w'.ownsRow w.heap.size 3 1 (.slice x (prL (accL mks) (accL mks).length).length c) (prL (accL mks) (accL mks).length).length (idV (prL (accL mks) (accL mks).length))))
end Go.Proofs.Ytdgkpkdinfklaab

namespace Go.Proofs.Ytdgkpkdinfklaab
open Go.RowKit
theorem Try.infoStepP : (Try.prog.info? 80).map (fun i => (i.zero, i.size, i.bytes)) = some (some (.agg #[.int .i64 0, .int .i64 0, .int .i64 0, .int .i64 0, .bool false, .int .i64 0, .int .i64 0, .bool false, .bool false, .bool false, .bool false, .bool false]), 12, 64) := by kernel_rfl
def hOfT (s : ST) : Nat → Bool
 | 0 => s.h0
 | 1 => s.h1
 | 2 => s.h2
 | 3 => s.h3
 | _ => s.h4
theorem hOfT_mk (s : ST) : hOfT s = hOf (mkAcc s) := by
 funext i
 match i with
 | 0 => rfl
 | 1 => rfl
 | 2 => rfl
 | 3 => rfl
 | _ + 4 => rfl
def accS (F : List ST) : List ST := F.filter fun s => s.kind == 1 || s.kind == 2
theorem accS_mks (F : List ST) : accL (mksS F) = (accS F).map mkAcc := by
 induction F with
 | nil => rfl
 | cons s r ih =>
  have hc : mksS (s :: r) = (match mkS s with | some m => [m] | none => []) ++ mksS r := by
   rw [mksS, List.filterMap_cons]
   cases mkS s <;> rfl
  rw [hc, accL, List.filter_append]
  have ih' : List.filter isAcc (mksS r) = (accS r).map mkAcc := ih
  rw [ih']
  by_cases h6 : s.kind = 6
  ·have h12 : (s.kind == 1 || s.kind == 2) = false := by simp; omega
   have : accS (s :: r) = accS r := by rw [accS, List.filter_cons]; simp only [h12]; rfl
   rw [this]
   simp [mkS, h6, isAcc]
  ·by_cases h1 : s.kind = 1 ∨ s.kind = 2
   ·have h12 : (s.kind == 1 || s.kind == 2) = true := by simpa using h1
    have h3 : s.kind ≠ 3 := by omega
    have : accS (s :: r) = s :: accS r := by rw [accS, List.filter_cons]; simp only [h12]; rfl
    rw [this]
    simp [mkS, h6, h1, isAcc, h3, mkAcc, List.filter_cons]
   ·have h12 : (s.kind == 1 || s.kind == 2) = false := by simpa using h1
    have : accS (s :: r) = accS r := by rw [accS, List.filter_cons]; simp only [h12]; rfl
    rw [this]
    simp [mkS, h6, h1]
theorem accS_snoc {F : List ST} {k : Nat} {m : ST} (h : F[k]? = some m) : accS (F.take (k + 1)) = accS (F.take k) ++ (if (m.kind == 1 || m.kind == 2) = true then [m] else []) := by
 obtain ⟨hk, rfl⟩ := List.getElem?_eq_some_iff.1 h
 rw [List.take_succ_eq_append_getElem hk, accS, List.filter_append]
 congr 1
 rw [List.filter_cons, List.filter_nil]
set_option maxHeartbeats 800000 in
theorem conflict_any (a b : ST) (w : World) :
  Calls Try.prog 63 #[.agg #[.int .i64 a.kind, .int .i64 a.place, .int .i64 a.thread, .int .i64 a.num, .bool a.mend, .int .i64 a.nx, .int .i64 a.el, .bool a.h0, .bool a.h1, .bool a.h2, .bool a.h3, .bool a.h4], .agg #[.int .i64 b.kind, .int .i64 b.place, .int .i64 b.thread, .int .i64 b.num, .bool b.mend, .int .i64 b.nx, .int .i64 b.el, .bool b.h0, .bool b.h1, .bool b.h2, .bool b.h3, .bool b.h4]] w fun e w' => e = .returned (.bool ((a.thread != b.thread) && ((a.num == b.num) && (a.kind == 2 || b.kind == 2)))) ∧ Below w.heap.size w w' := by
 have B1 : Hid (∀ o o', Below w.heap.size w ((w.alloc o).alloc o')) := fun o o' => ((Below.refl _ _).alloc (Nat.le_refl _) o).alloc (by simp) o'
 go_enter Try.func63, Try.ntmps63
 by_cases ht : a.thread = b.thread
 ·have h1 : (a.thread == b.thread) = true := by simpa using ht
  have h2 : (a.thread != b.thread) = false := by simpa using ht
  rw [h2]
  clear ht
  go_wp2
  go_ret
  exact ⟨rfl, B1.out _ _⟩
 ·have h1 : (a.thread == b.thread) = false := by simpa using ht
  have h2 : (a.thread != b.thread) = true := by simpa using ht
  rw [h2]
  clear ht
  by_cases hn : a.num = b.num
  ·have h3 : (a.num != b.num) = false := by simpa using hn
   have h4 : (a.num == b.num) = true := by simpa using hn
   rw [h4]
   clear hn
   cases hk : (a.kind == 2) with
   | true =>
    go_wp2
    go_ret
    exact ⟨rfl, B1.out _ _⟩
   | false =>
    go_wp2
    go_ret
    exact ⟨rfl, B1.out _ _⟩
  ·have h3 : (a.num != b.num) = true := by simpa using hn
   have h4 : (a.num == b.num) = false := by simpa using hn
   rw [h4]
   clear hn
   go_wp2
   go_ret
   exact ⟨rfl, B1.out _ _⟩
set_option maxHeartbeats 1600000 in
theorem open_any (a b : ST) (w : World) :
  Calls Try.prog 47 #[.agg #[.int .i64 a.kind, .int .i64 a.place, .int .i64 a.thread, .int .i64 a.num, .bool a.mend, .int .i64 a.nx, .int .i64 a.el, .bool a.h0, .bool a.h1, .bool a.h2, .bool a.h3, .bool a.h4], .agg #[.int .i64 b.kind, .int .i64 b.place, .int .i64 b.thread, .int .i64 b.num, .bool b.mend, .int .i64 b.nx, .int .i64 b.el, .bool b.h0, .bool b.h1, .bool b.h2, .bool b.h3, .bool b.h4]] w fun e w' => e = .returned (.bool (opMK (mkAcc a) (mkAcc b))) ∧ Below w.heap.size w w' := by
 have B1 : Hid (∀ o o', Below w.heap.size w ((w.alloc o).alloc o')) := fun o o' => ((Below.refl _ _).alloc (Nat.le_refl _) o).alloc (by simp) o'
 obtain ⟨C, hC⟩ : ∃ C, C = ((a.thread != b.thread) && ((a.num == b.num) && (a.kind == 2 || b.kind == 2))) := ⟨_, rfl⟩
 have HR : Hid (opMK (mkAcc a) (mkAcc b) = (!meetB (hOfT a) (hOfT b) && C)) := by
  show _ = _
  rw [hC, hOfT_mk, hOfT_mk]; rfl
 obtain ⟨R, hR⟩ : ∃ R, R = opMK (mkAcc a) (mkAcc b) := ⟨_, rfl⟩
 rw [← hR] at HR ⊢
 have HC : Hid (∀ wx, Calls Try.prog 63 #[.agg #[.int .i64 a.kind, .int .i64 a.place, .int .i64 a.thread, .int .i64 a.num, .bool a.mend, .int .i64 a.nx, .int .i64 a.el, .bool a.h0, .bool a.h1, .bool a.h2, .bool a.h3, .bool a.h4], .agg #[.int .i64 b.kind, .int .i64 b.place, .int .i64 b.thread, .int .i64 b.num, .bool b.mend, .int .i64 b.nx, .int .i64 b.el, .bool b.h0, .bool b.h1, .bool b.h2, .bool b.h3, .bool b.h4]] wx fun e w' => e = .returned (.bool C) ∧ Below wx.heap.size wx w') := by
  intro wx
  rw [hC]; exact conflict_any a b wx
 clear hC hR
 have HBa : Hid (∀ o o', Blk ((w.alloc (.cells #[.int .i64 a.kind, .int .i64 a.place, .int .i64 a.thread, .int .i64 a.num, .bool a.mend, .int .i64 a.nx, .int .i64 a.el, .bool a.h0, .bool a.h1, .bool a.h2, .bool a.h3, .bool a.h4] o)).alloc o') w.heap.size (stV a) o) := fun o o' => Blk.alloc (heap_alloc_new _ _) _
 have HBb : Hid (∀ o o', Blk ((w.alloc o).alloc (.cells #[.int .i64 b.kind, .int .i64 b.place, .int .i64 b.thread, .int .i64 b.num, .bool b.mend, .int .i64 b.nx, .int .i64 b.el, .bool b.h0, .bool b.h1, .bool b.h2, .bool b.h3, .bool b.h4] o')) (w.heap.size + 1) (stV b) o') := fun o o' => by
  have e : (w.alloc o).heap.size = w.heap.size + 1 := by simp
  rw [← e]; exact heap_alloc_new _ _
 go_enter Try.func47, Try.ntmps47
 go_wp2_with fail
 refine (HC.out _).mono ?_
 rintro e w1 ⟨rfl, hb1⟩
 have hba := (HBa.out _ _).chg (chg_of_below hb1 []) (by simp)
 have hbb := (HBb.out _ _).chg (chg_of_below hb1 []) (by simp)
 have HA : Hid (Blk w1 w.heap.size (stV a) 80) := hba
 have HB : Hid (Blk w1 (w.heap.size + 1) (stV b) 80) := hbb
 have HW : Hid (Below w.heap.size w w1) := (B1.out _ _).trans (hb1.mono (by simp; omega))
 clear hba hbb hb1
 cases C with
 | false =>
  go_wp2
  go_ret
  refine ⟨?_, HW.out⟩
  rw [HR.out]; simp
 | true =>
  go_wp2
  go_loopw [5] (fun iv wr => ∃ (i q : Nat), i ≤ 5 ∧ iv = .int .i64 i ∧ wr = w1.drewN q ∧ ((List.range i).any fun i => hOfT a i && hOfT b i) = false) (fun iv _ => 5 - (intOf iv).toNat)
  case atStart => exact ⟨0, 0, by omega, rfl, rfl, rfl⟩
  case round =>
   obtain ⟨i, q, hi, rfl, rfl, hno⟩ := hrel
   have HNO : Hid (((List.range i).any fun i => hOfT a i && hOfT b i) = false) := hno
   clear hno
   by_cases hi5 : i < 5
   ·have ca : w1.cell? ⟨w.heap.size, 7 + i, none⟩ = some (.bool (hOfT a i)) := by
     refine HA.out.cell (7 + i) _ ?_
     have : i = 0 ∨ i = 1 ∨ i = 2 ∨ i = 3 ∨ i = 4 := by omega
     rcases this with rfl | rfl | rfl | rfl | rfl <;> rfl
    have cb : w1.cell? ⟨w.heap.size + 1, 7 + i, none⟩ = some (.bool (hOfT b i)) := by
     refine HB.out.cell (7 + i) _ ?_
     have : i = 0 ∨ i = 1 ∨ i = 2 ∨ i = 3 ∨ i = 4 := by omega
     rcases this with rfl | rfl | rfl | rfl | rfl <;> rfl
    have HSN : Hid (((List.range (i + 1)).any fun i => hOfT a i && hOfT b i) = (hOfT a i && hOfT b i)) := by
     show _ = _
     rw [List.range_succ, List.any_append, HNO.out]; simp
    have hi5' : (i : Int) < 5 := by omega
    cases h1 : hOfT a i with
    | false =>
     rw [h1] at ca HSN
     have HN2 : Hid (((List.range (i + 1)).any fun i => hOfT a i && hOfT b i) = false) := by
      show _ = _
      rw [HSN.out]; rfl
     clear h1 HSN
     go_wp2
     exact ⟨⟨i + 1, q, by omega, by go_num, rfl, HN2.out⟩, by simp [intOf]; omega⟩
    | true =>
     cases h2 : hOfT b i with
     | false =>
      rw [h1, h2] at HSN
      rw [h1] at ca
      rw [h2] at cb
      have HN2 : Hid (((List.range (i + 1)).any fun i => hOfT a i && hOfT b i) = false) := by
       show _ = _
       rw [HSN.out]; rfl
      clear h1 h2 HSN
      go_wp2
      exact ⟨⟨i + 1, q, by omega, by go_num, rfl, HN2.out⟩, by simp [intOf]; omega⟩
     | true =>
      have HT : Hid (meetB (hOfT a) (hOfT b) = true) := by
       show _ = _
       rw [meetB, List.any_eq_true]
       exact ⟨i, by simpa using hi5, by rw [h1, h2]; rfl⟩
      rw [h1] at ca
      rw [h2] at cb
      clear h1 h2 HSN
      go_wp2
      go_ret
      refine ⟨?_, HW.out.trans (below_drewN' _ _ _)⟩
      rw [HR.out, HT.out]; rfl
   ·have hi' : i = 5 := by omega
    subst hi'
    go_wp2
    go_ret
    refine ⟨?_, HW.out.trans (below_drewN' _ _ _)⟩
    rw [HR.out, meetB, HNO.out]; rfl
end Go.Proofs.Ytdgkpkdinfklaab

namespace Go.Proofs.Ytdgkpkdinfklaab
open Go.RowKit
set_option maxHeartbeats 1600000 in
set_option maxRecDepth 100000 in
theorem locksAcc_any (B : Nat) (am : Option Addr) (cm : Nat) (F : List ST) (w : World) (h : w.ownsRow B 80 12 (.slice am F.length cm) F.length (stsV F)) (hlen : F.length ≤ 1000) :
  Calls Try.prog 46 #[.slice am F.length cm] w fun e w' => (∃ x c, e = .returned (.slice x (accS F).length c) ∧ w'.ownsRow w.heap.size 80 12 (.slice x (accS F).length c) (accS F).length (stsV (accS F))) ∧ Below w.heap.size w w' := by
 obtain ⟨i0, hi0, hz0, hz1, hz2⟩ := info_parts Try.infoStepP
 have HM : Hid (w.ownsRow B 80 12 (.slice am F.length cm) F.length (stsV F)) := h
 clear h
 obtain ⟨n, hn⟩ : ∃ n, n = F.length := ⟨_, rfl⟩
 have HN : Hid (n = F.length) := hn
 rw [← hn] at hlen ⊢
 clear hn
 go_enter Try.func46, Try.ntmps46
 go_wp2
 go_loopw [3, 4] (fun v iv wr => ∃ k : Nat, k ≤ n ∧ iv = .int .i64 k ∧ wr.ownsRow w.heap.size 80 12 v (accS (F.take k)).length (stsV (accS (F.take k))) ∧ Below w.heap.size w wr) (fun _ iv _ => n - (intOf iv).toNat)
 case atStart => exact ⟨0, Nat.zero_le _, rfl, World.ownsRow_nil _ _ _ _, Below.refl _ _⟩
 case round =>
  obtain ⟨k, hk, rfl, hown, hbe⟩ := hrel
  have HO : Hid (wr.ownsRow w.heap.size 80 12 u3 (accS (F.take k)).length (stsV (accS (F.take k)))) := hown
  have HB : Hid (Below w.heap.size w wr) := hbe
  have hsz := hbe.size
  have hll : (accS (F.take k)).length ≤ k := Nat.le_trans (List.length_filter_le _ _) (List.length_take_le _ _)
  have hm' := ownsRow_later HM.out hbe
  clear hown hbe
  by_cases hlt : k < n
  ·obtain ⟨m, hm⟩ : ∃ m, F[k]? = some m := ⟨F[k]'(by rw [← HN.out]; exact hlt), List.getElem?_eq_getElem _⟩
   obtain ⟨g, cap', hv, hb, _⟩ := HM.out.form (by rw [← HN.out]; omega)
   cases hv
   have q0 := markAt (n := 0) hm' k m hm 0 (by decide) _ rfl rfl
   have q1 := markAt (n := 0) hm' k m hm 1 (by decide) _ rfl rfl
   have q2 := markAt (n := 0) hm' k m hm 2 (by decide) _ rfl rfl
   have q3 := markAt (n := 0) hm' k m hm 3 (by decide) _ rfl rfl
   have q4 := markAt (n := 0) hm' k m hm 4 (by decide) _ rfl rfl
   have q5 := markAt (n := 0) hm' k m hm 5 (by decide) _ rfl rfl
   have q6 := markAt (n := 0) hm' k m hm 6 (by decide) _ rfl rfl
   have q7 := markAt (n := 0) hm' k m hm 7 (by decide) _ rfl rfl
   have q8 := markAt (n := 0) hm' k m hm 8 (by decide) _ rfl rfl
   have q9 := markAt (n := 0) hm' k m hm 9 (by decide) _ rfl rfl
   have q10 := markAt (n := 0) hm' k m hm 10 (by decide) _ rfl rfl
   have q11 := markAt (n := 0) hm' k m hm 11 (by decide) _ rfl rfl
   rw [Nat.add_zero] at q0
   have hs := accS_snoc hm
   clear hm'
   have HMM : Hid (F[k]? = some m) := hm
   clear hm
   go_wp2_with fail
   refine (isAccess_any m _).mono ?_
   rintro e w0 ⟨rfl, hb0⟩
   have hm0 := ownsRow_later HM.out (HB.out.trans (hb0.mono hsz))
   have HO0 : Hid (w0.ownsRow w.heap.size 80 12 u3 (accS (F.take k)).length (stsV (accS (F.take k)))) := ownsRow_later HO.out hb0
   have B0 : Hid (Below w.heap.size w w0) := HB.out.trans (hb0.mono hsz)
   have hsz0 := B0.out.size
   clear hb0 q0 q1 q2 q3 q4 q5 q6 q7 q8 q9 q10 q11
   cases h12 : (m.kind == 1 || m.kind == 2) with
   | false =>
    have HS : Hid (accS (F.take (k + 1)) = accS (F.take k)) := by
     show _ = _
     rw [hs, h12]; simp
    clear hs hm0
    go_wp2
    go_roundw
    case rel => exact ⟨k + 1, by omega, by go_num, by rw [HS.out]; exact HO0.out, B0.out⟩
    case measure => simp [intOf]; omega
   | true =>
    have HS : Hid (accS (F.take (k + 1)) = accS (F.take k) ++ [m]) := by
     show _ = _
     rw [hs, h12]; simp
    have q0 := markAt (n := 0) hm0 k m HMM.out 0 (by decide) _ rfl rfl
    have q1 := markAt (n := 0) hm0 k m HMM.out 1 (by decide) _ rfl rfl
    have q2 := markAt (n := 0) hm0 k m HMM.out 2 (by decide) _ rfl rfl
    have q3 := markAt (n := 0) hm0 k m HMM.out 3 (by decide) _ rfl rfl
    have q4 := markAt (n := 0) hm0 k m HMM.out 4 (by decide) _ rfl rfl
    have q5 := markAt (n := 0) hm0 k m HMM.out 5 (by decide) _ rfl rfl
    have q6 := markAt (n := 0) hm0 k m HMM.out 6 (by decide) _ rfl rfl
    have q7 := markAt (n := 0) hm0 k m HMM.out 7 (by decide) _ rfl rfl
    have q8 := markAt (n := 0) hm0 k m HMM.out 8 (by decide) _ rfl rfl
    have q9 := markAt (n := 0) hm0 k m HMM.out 9 (by decide) _ rfl rfl
    have q10 := markAt (n := 0) hm0 k m HMM.out 10 (by decide) _ rfl rfl
    have q11 := markAt (n := 0) hm0 k m HMM.out 11 (by decide) _ rfl rfl
    rw [Nat.add_zero] at q0
    clear hs hm0 h12
    obtain ⟨L, hL⟩ : ∃ L, L = accS (F.take k) := ⟨_, rfl⟩
    rw [← hL] at HO0 HS hll
    clear hL
    go_wp2_with (at_builtin; refine wpList_append_own _ rfl (.tmp 16) (.tmp 21) 58 rfl w.heap.size 80 i0 _ 12 64 Try.underlying58 hi0 hz0 hz1 hz2 rfl (by decide) u3 L.length (stsV L) rfl (HO0.out.alloc _) ⟨w0.heap.size, 0, none⟩ 1 1 [.int .i64 m.kind, .int .i64 m.place, .int .i64 m.thread, .int .i64 m.num, .bool m.mend, .int .i64 m.nx, .int .i64 m.el, .bool m.h0, .bool m.h1, .bool m.h2, .bool m.h3, .bool m.h4] rfl rfl ?hnews ?h1 ?h63 ?hby ?hbase ?next)
    case hnews => exact World.news_of_block (heap_alloc_new _ _)
    case h1 => intro u hu; simp at hu; rcases hu with rfl | rfl | rfl | rfl | rfl | rfl | rfl | rfl | rfl | rfl | rfl | rfl <;> rfl
    case h63 => unfold maxLen; omega
    case hby => omega
    case hbase => simp; omega
    case next =>
     intro v' w2 hown2 hgrow _
     have B3 : Hid (Below w.heap.size w w2) := (B0.out.alloc (by omega) _).grown hgrow (by simp; omega) (fun q hq => (HO0.out.lt q hq).1)
     have HO2 : Hid (w2.ownsRow w.heap.size 80 12 v' (accS (F.take (k + 1))).length (stsV (accS (F.take (k + 1))))) := by
      show World.ownsRow _ _ _ _ _ _ _
      rw [HS.out, stsV_append, List.length_append]
      exact hown2
     clear hown2 hgrow
     go_wp2
     go_roundw
     case rel => exact ⟨k + 1, by omega, by go_num, HO2.out, B3.out⟩
     case measure => simp [intOf]; omega
  ·have hkn : F.take k = F := List.take_of_length_le (by rw [← HN.out]; omega)
   have HO' : Hid (wr.ownsRow w.heap.size 80 12 u3 (accS F).length (stsV (accS F))) := by
    have := HO.out; rw [hkn] at this; exact this
   clear hkn HO hll hm'
   have hform : ∃ a c, u3 = .slice a (accS F).length c := by
    rcases HO'.out.2 with ⟨hv, h0⟩ | ⟨g, cap, cur, hv, _⟩
    ·exact ⟨none, 0, by rw [hv, h0]⟩
    ·exact ⟨_, _, hv⟩
   obtain ⟨a, c, rfl⟩ := hform
   go_wp2
   go_ret
   exact ⟨⟨a, c, rfl, HO'.out⟩, HB.out⟩
set_option maxHeartbeats 1600000 in
set_option maxRecDepth 100000 in
theorem Open_any (B : Nat) (am : Option Addr) (cm : Nat) (F : List ST) (w : World) (h : w.ownsRow B 80 12 (.slice am F.length cm) F.length (stsV F)) (hlen : F.length ≤ 1000) :
  Calls Try.prog 32 #[.slice am F.length cm] w fun e w' => (∃ x c, e = .returned (.slice x (prL (accL (mksS F)) (accL (mksS F)).length).length c) ∧ w'.ownsRow w.heap.size 3 1 (.slice x (prL (accL (mksS F)) (accL (mksS F)).length).length c) (prL (accL (mksS F)) (accL (mksS F)).length).length (idV (prL (accL (mksS F)) (accL (mksS F)).length))) ∧ Below w.heap.size w w' := by
 obtain ⟨i0, hi0, hz0, hz1, hz2⟩ := info_parts Try.infoIntP
 have HE : Hid (accL (mksS F) = (accS F).map mkAcc) := accS_mks F
 have hal : (accS F).length ≤ 1000 := Nat.le_trans (List.length_filter_le _ _) hlen
 obtain ⟨L, hL⟩ : ∃ L, L = accL (mksS F) := ⟨_, rfl⟩
 have HL : Hid (L = (accS F).map mkAcc) := by show _ = _; rw [hL]; exact HE.out
 rw [← hL]
 clear hL HE
 go_enter Try.func32, Try.ntmps32
 go_wp2_with fail
 refine (locksAcc_any B am cm F w h hlen).mono ?_
 rintro e w1 ⟨⟨x, c, rfl, hown⟩, hb1⟩
 obtain ⟨G, hG⟩ : ∃ G, G = accS F := ⟨_, rfl⟩
 rw [← hG] at HL hal hown ⊢
 have HR : Hid (w1.ownsRow w.heap.size 80 12 (.slice x G.length c) G.length (stsV G)) := hown
 have HB1 : Hid (Below w.heap.size w w1) := hb1
 clear hown hb1 hG h
 obtain ⟨n, hn⟩ : ∃ n, n = G.length := ⟨_, rfl⟩
 have HN : Hid (n = G.length) := hn
 have HNL : Hid (L.length = n) := by show _ = _; rw [HL.out, hn]; simp
 rw [← hn] at hal ⊢
 clear hn
 go_wp2
 go_loopw [4, 5] (fun v iv wr => ∃ i : Nat, i ≤ n ∧ iv = .int .i64 i ∧ wr.ownsRow w1.heap.size 3 1 v (prL L i).length (idV (prL L i)) ∧ Below w1.heap.size w1 wr) (fun _ iv _ => n - (intOf iv).toNat)
 case atStart => exact ⟨0, Nat.zero_le _, rfl, World.ownsRow_nil _ _ _ _, Below.refl _ _⟩
 case round =>
  obtain ⟨i, hi, rfl, hown, hbe⟩ := hrel
  have HO : Hid (wr.ownsRow w1.heap.size 3 1 u4 (prL L i).length (idV (prL L i))) := hown
  have HB : Hid (Below w1.heap.size w1 wr) := hbe
  have hpl := prL_len L i (by rw [HNL.out]; exact hal)
  clear hown hbe
  by_cases hlt : i < n
  ·obtain ⟨ma, hma⟩ : ∃ m, G[i]? = some m := ⟨G[i]'(by rw [← HN.out]; exact hlt), List.getElem?_eq_getElem _⟩
   have HMA : Hid (G[i]? = some ma) := hma
   clear hma
   have hii : decide ((i : Int) < (n : Int)) = true := by simp; omega
   obtain ⟨wa, rfl⟩ : ∃ wa, wa = wr := ⟨_, rfl⟩
   go_wp2
   go_loopw [4, 6] (fun v kv wr => ∃ q : Nat, i + 1 + q ≤ n ∧ kv = .int .i64 (i + 1 + q : Nat) ∧ wr.ownsRow w1.heap.size 3 1 v (prL L i ++ prI L i q).length (idV (prL L i ++ prI L i q)) ∧ Below w1.heap.size w1 wr) (fun _ kv _ => n - (intOf kv).toNat)
   case atStart => exact ⟨0, by omega, by go_num, by simpa [prI] using HO.out, HB.out⟩
   case round =>
    obtain ⟨q, hq, rfl, hown, hbe⟩ := hrel
    obtain ⟨k, hk⟩ : ∃ k, k = i + 1 + q := ⟨_, rfl⟩
    rw [← hk] at hq ⊢
    have HKK : Hid (k = i + 1 + q) := hk
    have HO2 : Hid (wr.ownsRow w1.heap.size 3 1 u4 (prL L i ++ prI L i q).length (idV (prL L i ++ prI L i q))) := hown
    have HB2 : Hid (Below w1.heap.size w1 wr) := hbe
    have hsz := hbe.size
    have hlen2 : (prL L i ++ prI L i q).length ≤ 3000000 := by
     have := prI_len L i q
     rw [List.length_append]; omega
    clear hown
    by_cases hkn : k < n
    ·obtain ⟨mb, hmb⟩ : ∃ m, G[k]? = some m := ⟨G[k]'(by rw [← HN.out]; exact hkn), List.getElem?_eq_getElem _⟩
     have HOP : Hid (opAt L i (i + 1 + q) = opMK (mkAcc ma) (mkAcc mb)) := by
      show opAt L i (i + 1 + q) = _
      have e1 : L[i]? = some (mkAcc ma) := by rw [HL.out, List.getElem?_map, HMA.out]; rfl
      have e2 : L[k]? = some (mkAcc mb) := by rw [HL.out, List.getElem?_map, hmb]; rfl
      rw [← hk, opAt, e1, e2]
     have hrow := ownsRow_later HR.out hbe
     obtain ⟨g, cap', hv, _, _⟩ := HR.out.form (by rw [← HN.out]; omega)
     rw [← HN.out] at hv
     cases hv
     have p0 := markAt (n := 0) hrow i ma HMA.out 0 (by decide) _ rfl rfl
     have p1 := markAt (n := 0) hrow i ma HMA.out 1 (by decide) _ rfl rfl
     have p2 := markAt (n := 0) hrow i ma HMA.out 2 (by decide) _ rfl rfl
     have p3 := markAt (n := 0) hrow i ma HMA.out 3 (by decide) _ rfl rfl
     have p4 := markAt (n := 0) hrow i ma HMA.out 4 (by decide) _ rfl rfl
     have p5 := markAt (n := 0) hrow i ma HMA.out 5 (by decide) _ rfl rfl
     have p6 := markAt (n := 0) hrow i ma HMA.out 6 (by decide) _ rfl rfl
     have p7 := markAt (n := 0) hrow i ma HMA.out 7 (by decide) _ rfl rfl
     have p8 := markAt (n := 0) hrow i ma HMA.out 8 (by decide) _ rfl rfl
     have p9 := markAt (n := 0) hrow i ma HMA.out 9 (by decide) _ rfl rfl
     have p10 := markAt (n := 0) hrow i ma HMA.out 10 (by decide) _ rfl rfl
     have p11 := markAt (n := 0) hrow i ma HMA.out 11 (by decide) _ rfl rfl
     have r0 := markAt (n := 0) hrow k mb hmb 0 (by decide) _ rfl rfl
     have r1 := markAt (n := 0) hrow k mb hmb 1 (by decide) _ rfl rfl
     have r2 := markAt (n := 0) hrow k mb hmb 2 (by decide) _ rfl rfl
     have r3 := markAt (n := 0) hrow k mb hmb 3 (by decide) _ rfl rfl
     have r4 := markAt (n := 0) hrow k mb hmb 4 (by decide) _ rfl rfl
     have r5 := markAt (n := 0) hrow k mb hmb 5 (by decide) _ rfl rfl
     have r6 := markAt (n := 0) hrow k mb hmb 6 (by decide) _ rfl rfl
     have r7 := markAt (n := 0) hrow k mb hmb 7 (by decide) _ rfl rfl
     have r8 := markAt (n := 0) hrow k mb hmb 8 (by decide) _ rfl rfl
     have r9 := markAt (n := 0) hrow k mb hmb 9 (by decide) _ rfl rfl
     have r10 := markAt (n := 0) hrow k mb hmb 10 (by decide) _ rfl rfl
     have r11 := markAt (n := 0) hrow k mb hmb 11 (by decide) _ rfl rfl
     rw [Nat.add_zero] at p0 r0
     have hik : i < k := by omega
     clear hrow hmb hbe hk
     have hkn' : (k : Int) < (n : Int) := by omega
     have hin' : (i : Int) < (n : Int) := by omega
     have hkd : decide ((k : Int) < (n : Int)) = true := by simp; omega
     obtain ⟨P, hP⟩ : ∃ P, P = prL L i ++ prI L i q := ⟨_, rfl⟩
     have HP : Hid (P = prL L i ++ prI L i q) := hP
     rw [← hP] at HO2 hlen2
     clear hP
     have HPN : Hid (prL L i ++ prI L i (q + 1) = P ++ (if opMK (mkAcc ma) (mkAcc mb) then [i, k] else [])) := by
      show _ = _
      rw [prI, HOP.out, HP.out, ← HKK.out, List.append_assoc]
     have OA : Hid (∀ wx, Calls Try.prog 47 #[.agg #[.int .i64 ma.kind, .int .i64 ma.place, .int .i64 ma.thread, .int .i64 ma.num, .bool ma.mend, .int .i64 ma.nx, .int .i64 ma.el, .bool ma.h0, .bool ma.h1, .bool ma.h2, .bool ma.h3, .bool ma.h4], .agg #[.int .i64 mb.kind, .int .i64 mb.place, .int .i64 mb.thread, .int .i64 mb.num, .bool mb.mend, .int .i64 mb.nx, .int .i64 mb.el, .bool mb.h0, .bool mb.h1, .bool mb.h2, .bool mb.h3, .bool mb.h4]] wx fun e w' => e = .returned (.bool (opMK (mkAcc ma) (mkAcc mb))) ∧ Below wx.heap.size wx w') := fun wx => open_any ma mb wx
     obtain ⟨R, hR⟩ : ∃ R, R = opMK (mkAcc ma) (mkAcc mb) := ⟨_, rfl⟩
     rw [← hR] at HPN OA
     clear hR HOP
     go_wp2_with fail
     go_region_with (
      go_at_call 47
      refine (OA.out _).mono ?_
      rintro e w2 ⟨rfl, hb2⟩)
     all_goals
      have HB3 : Hid (Below w1.heap.size w1 w2) := HB2.out.trans ((below_drewN' _ _ 1).trans (hb2.mono (by simp; omega)))
      have HO3 : Hid (w2.ownsRow w1.heap.size 3 1 u4 P.length (idV P)) := ownsRow_later (ownsRow_later HO2.out (below_drewN' _ _ 1)) hb2
      have hsz3 := HB3.out.size
      clear hb2 p0 p1 p2 p3 p4 p5 p6 p7 p8 p9 p10 p11 r0 r1 r2 r3 r4 r5 r6 r7 r8 r9 r10 r11
      cases R with
      | false =>
       have HPN2 : Hid (prL L i ++ prI L i (q + 1) = P) := by
        show _ = _
        rw [HPN.out]; simp
       go_wp2
       have hkk := HKK.out
       exact ⟨⟨q + 1, by omega, by rw [hkk]; go_num, by rw [HPN2.out]; exact HO3.out, HB3.out⟩, by simp [intOf]; omega⟩
      | true =>
       have HPN2 : Hid (idV (prL L i ++ prI L i (q + 1)) = idV P ++ [.int .i64 (i : Int), .int .i64 (k : Int)] ∧ (prL L i ++ prI L i (q + 1)).length = P.length + 2) := by
        show _ ∧ _
        rw [HPN.out]; simp [idV]
       go_wp2_with (at_builtin; refine wpList_append_own _ rfl (.tmp 32) (.tmp 35) 22 rfl w1.heap.size 3 i0 _ 1 8 Try.underlying22 hi0 hz0 hz1 hz2 rfl (by decide) u4 P.length (idV P) rfl (HO3.out.alloc _) ⟨w2.heap.size, 0, none⟩ 2 2 [.int .i64 (i : Int), .int .i64 (k : Int)] rfl rfl (World.news_of_block (heap_alloc_new _ _)) ?h1 ?h63 ?hby ?hbase ?next)
       case h1 => exact ⟨rfl, rfl⟩
       case h63 => unfold maxLen; omega
       case hby => omega
       case hbase => omega
       case next =>
        intro v2 w3 hown2 hgrow2 _
        have HB4 : Hid (Below w1.heap.size w1 w3) := (HB3.out.alloc (by omega) _).grown hgrow2 (by simp; omega) (fun q hq => (HO3.out.lt q hq).1)
        have HO4 : Hid (w3.ownsRow w1.heap.size 3 1 v2 (prL L i ++ prI L i (q + 1)).length (idV (prL L i ++ prI L i (q + 1)))) := by
         show World.ownsRow _ _ _ _ _ _ _
         rw [HPN2.out.1, HPN2.out.2]
         exact hown2
        clear hown2 hgrow2
        go_wp2
        have hkk := HKK.out
        exact ⟨⟨q + 1, by omega, by rw [hkk]; go_num, HO4.out, HB4.out⟩, by simp [intOf]; omega⟩
    ·have hqn : q = n - (i + 1) := by omega
     subst hqn
     have HPN : Hid (wr.ownsRow w1.heap.size 3 1 u4 (prL L (i + 1)).length (idV (prL L (i + 1)))) := by
      show World.ownsRow _ _ _ _ _ _ _
      rw [prL, HNL.out]; exact HO2.out
     clear hbe
     go_wp2
     exact ⟨⟨i + 1, by omega, by go_num, HPN.out, HB2.out⟩, by simp [intOf]; omega⟩
  ·have hin : i = n := by omega
   subst hin
   have hform : ∃ a c, u4 = .slice a (prL L i).length c := by
    rcases HO.out.2 with ⟨hv, h0⟩ | ⟨g, cap, cur, hv, _⟩
    ·exact ⟨none, 0, by rw [hv, h0]⟩
    ·exact ⟨_, _, hv⟩
   obtain ⟨a', c', rfl⟩ := hform
   have HH : Hid (wr.ownsRow w.heap.size 3 1 (.slice a' (prL L L.length).length c') (prL L L.length).length (idV (prL L L.length))) := by
    show World.ownsRow _ _ _ _ _ _ _
    rw [HNL.out]; exact ownsRow_lower HO.out HB1.out.size
   have HBF : Hid (Below w.heap.size w wr) := HB1.out.trans (HB.out.mono HB1.out.size)
   go_wp2
   go_ret
   exact ⟨⟨a', c', by rw [HNL.out]; rfl, HH.out⟩, HBF.out⟩
end Go.Proofs.Ytdgkpkdinfklaab

namespace Go.Proofs.Ytdgkpkdinfklaab
open Go.RowKit
def imsV (k c : Nat) : List Value := List.replicate c (.int .i64 (1048576 + (k : Int)))
structure BB (w : World) (bk : Nat) (gs : List (Option Addr × Nat)) (ga : Option Addr) (gc : Nat) (fs : List (Option Addr × Nat)) (aa : Option Addr) (ca : Nat) : Prop where
 lt : bk < w.heap.size
 c0 : w.cell? ⟨bk, 0, none⟩ = some (.slice ga gs.length gc)
 c1 : w.cell? ⟨bk, 1, none⟩ = some (.slice aa fs.length ca)
 f0 : w.frozen? ⟨bk, 0, none⟩ = false
 f1 : w.frozen? ⟨bk, 1, none⟩ = false
 irow : w.ownsRow (bk + 1) 22 1 (.slice ga gs.length gc) gs.length (gs.map fun f => .slice f.1 f.2 f.2)
 arow : w.ownsRow (bk + 1) 45 1 (.slice aa fs.length ca) fs.length (fs.map fun f => .slice f.1 f.2 f.2)
 ieach : ∀ k f, gs[k]? = some f → w.ownsRow (bk + 1) 3 1 (.slice f.1 f.2 f.2) f.2 (imsV k f.2)
 aeach : ∀ k f, fs[k]? = some f → w.ownsRow (bk + 1) 50 5 (.slice f.1 f.2 f.2) f.2 (bmsV k f.2)
end Go.Proofs.Ytdgkpkdinfklaab

namespace Go.Proofs.Ytdgkpkdinfklaab
open Go.RowKit
set_option maxHeartbeats 800000 in
theorem Pairs_any (s : ByteArray) (w : World) (hs : s.size ≤ maxLen) :
  Calls Try.prog 12 #[.string s] w fun e w' => ∃ v a, e = .returned (.tuple #[v, .int .i64 a]) ∧ PairsIs w w' s v a ∧ Below w.heap.size w w' := by
 go_enter Try.func12, Try.ntmps12
 go_wp2_with fail
 refine (read_any s w hs).mono ?_
 intro e w1 hout
 obtain ⟨hb, v, a, b, rfl, hc, hcase⟩ := hout.says
 clear hout
 rcases hcase with ⟨ha, rfl⟩ | ⟨rfl, hz, am, cm, F, rfl, hst, _, hown⟩
 ·have ha' : (a != 0) = true := by simpa using ha
  have HH : Hid (PairsIs w w1 s (.slice none 0 0) a) := ⟨b, hc, .inl ⟨ha, rfl⟩⟩
  clear hc ha
  go_wp2
  go_ret2
  exact ⟨_, a, rfl, HH.out, hb⟩
 ·have hacc := hst.acc
  have hcnt := acc_count hacc
  have hF := hst.len
  rw [len_eq] at hcnt hF
  clear hst
  have HC : Hid (ChkIs s 0 b) := hc
  have HA : Hid (Acc s.data.toList (mksS F)) := hacc
  clear hc hacc
  go_wp2_with fail
  refine (Open_any w.heap.size am cm F w1 hown (by omega)).mono ?_
  rintro e w2 ⟨⟨x, c, rfl, hown2⟩, hb2⟩
  have HH : Hid (PairsIs w w2 s (.slice x (prL (accL (mksS F)) (accL (mksS F)).length).length c) 0) := ⟨b, HC.out, .inr ⟨rfl, hz, mksS F, x, c, HA.out, by omega, rfl, ownsRow_lower hown2 hb.size⟩⟩
  have HB : Hid (Below w.heap.size w w2) := hb.trans (hb2.mono hb.size)
  clear hown hown2 hb hb2
  obtain ⟨N, hN⟩ : ∃ N, N = (prL (accL (mksS F)) (accL (mksS F)).length).length := ⟨_, rfl⟩
  rw [← hN] at HH ⊢
  clear hN
  go_wp2
  go_ret2
  exact ⟨_, 0, rfl, HH.out, HB.out⟩
end Go.Proofs.Ytdgkpkdinfklaab
