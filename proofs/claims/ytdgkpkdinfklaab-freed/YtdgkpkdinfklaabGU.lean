import Derived.Test.YtdgkpkdinfklaabGD
import Derived.Test.YtdgkpkdinfklaabGI
import Derived.Test.YtdgkpkdinfklaabGE
import Derived.Test.YtdgkpkdinfklaabGG
import Derived.Test.YtdgkpkdinfklaabGK
import Derived.Test.YtdgkpkdinfklaabRows
namespace Go.Proofs.Ytdgkpkdinfklaab
open Go.RowKit
def hOfS (s : ST) : Nat → Bool
 | 0 => s.h0
 | 1 => s.h1
 | 2 => s.h2
 | 3 => s.h3
 | _ => s.h4
def edS (F : List ST) (i k : Nat) : Bool := F.any fun s => s.kind == 6 && (s.num == (k : Int) && hOfS s i)
def OV (f : Nat → Nat → Bool) (l : List Value) : Prop := l.length = 25 ∧ ∀ i k, i < 5 → k < 5 → l[i * 5 + k]? = some (.bool (f i k))
theorem OV.set {f g : Nat → Nat → Bool} {l : List Value} (h : OV f l) (a b : Nat) (ha : a < 5) (hb : b < 5) (x : Bool) (hg : ∀ i k, i < 5 → k < 5 → g i k = if i = a ∧ k = b then x else f i k) : OV g (l.set (a * 5 + b) (.bool x)) := by
 refine ⟨by simpa using h.1, fun i k hi hk => ?_⟩
 rw [List.getElem?_set, hg i k hi hk]
 by_cases e : i = a ∧ k = b
 ·rw [if_pos (by omega), if_pos e, if_pos (by have := h.1; omega)]
 ·rw [if_neg (by omega), if_neg e]; exact h.2 i k hi hk
theorem OV.congr {f g : Nat → Nat → Bool} {l : List Value} (h : OV f l) (hg : ∀ i k, i < 5 → k < 5 → g i k = f i k) : OV g l := ⟨h.1, fun i k hi hk => by rw [hg i k hi hk]; exact h.2 i k hi hk⟩
def OrderOut (F : List ST) (e : Ending) : Prop := ∃ l : List Value, e = .returned (.agg l.toArray) ∧ OV (edS F) l
theorem edS_snoc {F : List ST} {j : Nat} {m : ST} (h : F[j]? = some m) (i k : Nat) : edS (F.take (j + 1)) i k = (edS (F.take j) i k || (m.kind == 6 && (m.num == (k : Int) && hOfS m i))) := by
 obtain ⟨hk, rfl⟩ := List.getElem?_eq_some_iff.1 h
 rw [List.take_succ_eq_append_getElem hk, edS, List.any_append]
 simp [edS]
theorem Try.infoOrder : (Try.prog.info? 84).map (·.size) = some 25 := by kernel_rfl
theorem OV.one {f : Nat → Nat → Bool} {l : List Value} (h : OV f l) : l.toArray.all (·.oneCell') = true := by
 refine all_oneCell_toArray fun v hv => ?_
 obtain ⟨q, hq⟩ := List.getElem?_of_mem hv
 have hl : q < 25 := by have := (List.getElem?_eq_some_iff.1 hq).1; rw [h.1] at this; exact this
 have := h.2 (q / 5) (q % 5) (by omega) (by omega)
 rw [show q / 5 * 5 + q % 5 = q by omega, hq] at this
 cases this; rfl
def Z25 : List Value := List.replicate 25 (.bool false)
theorem OV.zero {f : Nat → Nat → Bool} (hf : ∀ i k, i < 5 → k < 5 → f i k = false) : OV f Z25 := ⟨by simp [Z25], fun i k hi hk => by rw [hf i k hi hk, Z25, List.getElem?_replicate, if_pos (by omega)]⟩
def addF (f : Nat → Nat → Bool) (h : Nat → Bool) (lk : Int) (a b : Nat) : Bool := f a b || (h a && lk == (b : Int))
set_option maxHeartbeats 1600000 in
set_option maxRecDepth 100000 in
theorem ordAdd_any (k : Nat) (l : List Value) (f : Nat → Nat → Bool) (h0 h1 h2 h3 h4 : Bool) (h : Nat → Bool) (hh : h 0 = h0 ∧ h 1 = h1 ∧ h 2 = h2 ∧ h 3 = h3 ∧ h 4 = h4) (lk : Int) (w : World) (hb : Blk w k l 84) (ho : OV f l) :
  Calls Try.prog 64 #[.pointer (some ⟨k, 0, none⟩), .agg #[.bool h0, .bool h1, .bool h2, .bool h3, .bool h4], .int .i64 lk] w fun e w' => e = .returned (.tuple #[]) ∧ (∃ l', OV (addF f h lk) l' ∧ Blk w' k l' 84) ∧ Chg [k] w w' := by
 have HB : Hid (Blk w k l 84) := hb
 have HO : Hid (OV f l) := ho
 have HH : Hid (h 0 = h0 ∧ h 1 = h1 ∧ h 2 = h2 ∧ h 3 = h3 ∧ h 4 = h4) := hh
 have hkl := hb.lt
 clear hb ho hh
 have HC : Hid (∀ o, Chg [k] w (w.alloc o)) := fun o => (Chg.refl _ w).alloc o
 by_cases hlo : lk < 0
 ·have b0 : decide (lk < 0) = true := by simpa using hlo
  have HR : Hid (OV (addF f h lk) l) := HO.out.congr fun i j _ _ => by
   have : (lk == (j : Int)) = false := by simp; omega
   rw [addF, this]; simp
  clear hlo
  go_enter Try.func64, Try.ntmps64
  go_wp2
  (try simp only [Exit.inBlock, Exit.then])
  refine bodyPost_ret (results_none rfl _ _ _) rfl ?_
  exact ⟨rfl, ⟨l, HR.out, HB.out.alloc _⟩, HC.out _⟩
 ·by_cases hhi : 5 ≤ lk
  ·have b0 : decide (lk < 0) = false := by simpa using hlo
   have b5 : decide (5 ≤ lk) = true := by simpa using hhi
   have HR : Hid (OV (addF f h lk) l) := HO.out.congr fun i j _ _ => by
    have : (lk == (j : Int)) = false := by simp; omega
    rw [addF, this]; simp
   clear hlo hhi
   go_enter Try.func64, Try.ntmps64
   go_wp2
   (try simp only [Exit.inBlock, Exit.then])
   refine bodyPost_ret (results_none rfl _ _ _) rfl ?_
   exact ⟨rfl, ⟨l, HR.out, HB.out.alloc _⟩, HC.out _⟩
  ·obtain ⟨q, rfl⟩ : ∃ q : Nat, lk = q := ⟨lk.toNat, by omega⟩
   have hq : q < 5 := by omega
   have b0 : decide ((q : Int) < 0) = false := by simp
   have b5 : decide (5 ≤ (q : Int)) = false := by simp; omega
   clear hlo hhi
   go_enter Try.func64, Try.ntmps64
   go_wp2
   go_loopw [6] (fun iv W2 => ∃ (i : Nat) (l' : List Value), i ≤ 5 ∧ iv = .int .i64 i ∧ OV (fun a b => f a b || (decide (a < i) && (b == q && h a))) l' ∧ Blk W2 k l' 84 ∧ Blk W2 w.heap.size [.bool h0, .bool h1, .bool h2, .bool h3, .bool h4] 78 ∧ Chg [k] w W2) (fun iv _ => 5 - (intOf iv).toNat)
   case atStart => exact ⟨0, l, by omega, rfl, HO.out.congr (fun a b _ _ => by simp), HB.out.alloc _, heap_alloc_new _ _, HC.out _⟩
   case round =>
    obtain ⟨i, l', hi, rfl, hov, hblk, hst, hbe⟩ := hrel
    have HOV2 : Hid (OV (fun a b => f a b || (decide (a < i) && (b == q && h a))) l') := hov
    have HBK2 : Hid (Blk wr k l' 84) := hblk
    have HBE2 : Hid (Chg [k] w wr) := hbe
    have HST : Hid (Blk wr w.heap.size [.bool h0, .bool h1, .bool h2, .bool h3, .bool h4] 78) := hst
    clear hov hblk hbe hst
    by_cases hi5 : i < 5
    ·have ch : wr.cell? ⟨w.heap.size, i, none⟩ = some (.bool (h i)) := by
      obtain ⟨e0, e1, e2, e3, e4⟩ := HH.out
      refine HST.out.cell i _ ?_
      have : i = 0 ∨ i = 1 ∨ i = 2 ∨ i = 3 ∨ i = 4 := by omega
      rcases this with rfl | rfl | rfl | rfl | rfl
      ·rw [e0]; rfl
      ·rw [e1]; rfl
      ·rw [e2]; rfl
      ·rw [e3]; rfl
      ·rw [e4]; rfl
     have co := HBK2.out.cell (i * 5 + q) _ (HOV2.out.2 i q hi5 hq)
     have fo := HBK2.out.fz (i * 5 + q)
     have hi5' : (i : Int) < 5 := by omega
     have hq' : (q : Int) < 5 := by omega
     cases hh : h i with
     | true =>
      rw [hh] at ch
      have N1 : Hid (OV (fun a b => f a b || (decide (a < i + 1) && (b == q && h a))) (l'.set (i * 5 + q) (.bool true))) := by
       refine HOV2.out.set i q hi5 hq true fun a b ha hb => ?_
       by_cases e : a = i ∧ b = q
       ·obtain ⟨rfl, rfl⟩ := e; simp [hh]
       ·rw [if_neg e]
        by_cases eb : b = q
        ·have : (decide (a < i + 1)) = decide (a < i) := by
          have : a ≠ i := fun h => e ⟨h, eb⟩
          rw [decide_eq_decide]; omega
         rw [this]
        ·have : (b == q) = false := by simpa using eb
         rw [this]; simp
      clear hh
      go_wp2
      exact ⟨⟨i + 1, _, by omega, by go_num, N1.out, HBK2.out.set _ _, HST.out.other (by simp; omega) _, HBE2.out.set (.inl (by simp)) _⟩, by simp [intOf]; omega⟩
     | false =>
      rw [hh] at ch
      have N1 : Hid (OV (fun a b => f a b || (decide (a < i + 1) && (b == q && h a))) l') := by
       refine HOV2.out.congr fun a b ha hb => ?_
       by_cases e : a = i
       ·subst e; simp [hh]
       ·have : (decide (a < i + 1)) = decide (a < i) := by rw [decide_eq_decide]; omega
        rw [this]
      clear hh
      go_wp2
      exact ⟨⟨i + 1, l', by omega, by go_num, N1.out, HBK2.out, HST.out, HBE2.out⟩, by simp [intOf]; omega⟩
    ·have hi' : i = 5 := by omega
     subst hi'
     have N2 : Hid (OV (addF f h q) l') := by
      refine HOV2.out.congr fun a b ha hb => ?_
      have : decide (a < 5) = true := by simpa using ha
      rw [addF, this]
      have : ((q : Int) == (b : Int)) = (b == q) := by rw [Bool.eq_iff_iff]; simp; omega
      rw [this, Bool.true_and, Bool.and_comm (h a)]
     go_wp2
     go_end0
     exact ⟨rfl, ⟨l', N2.out, HBK2.out⟩, HBE2.out⟩
end Go.Proofs.Ytdgkpkdinfklaab

namespace Go.Proofs.Ytdgkpkdinfklaab
def fwW (f : Nat → Nat → Bool) : Nat → Nat → Nat → Bool
 | 0, i, j => f i j
 | k + 1, i, j => fwW f k i j || (fwW f k i k && fwW f k k j)
theorem fwW_col (f : Nat → Nat → Bool) (k i : Nat) : fwW f (k + 1) i k = fwW f k i k := by
 rw [fwW]; cases fwW f k i k <;> simp
theorem fwW_row (f : Nat → Nat → Bool) (k j : Nat) : fwW f (k + 1) k j = fwW f k k j := by
 rw [fwW]; cases fwW f k k j <;> simp
inductive WayN (N : Nat) (f : Nat → Nat → Bool) : Nat → Nat → Prop
 | one {a b : Nat} : a < N → b < N → f a b = true → WayN N f a b
 | more {a b c : Nat} : WayN N f a b → c < N → f b c = true → WayN N f a c
theorem WayN.lt {N : Nat} {f : Nat → Nat → Bool} {a b : Nat} (h : WayN N f a b) : a < N ∧ b < N := by
 induction h with
 | one h1 h2 _ => exact ⟨h1, h2⟩
 | more _ h2 _ ih => exact ⟨ih.1, h2⟩
theorem WayN.trans {N : Nat} {f : Nat → Nat → Bool} {a b c : Nat} (h : WayN N f a b) (h' : WayN N f b c) : WayN N f a c := by
 induction h' with
 | one _ h2 h3 => exact .more h h2 h3
 | more _ h2 h3 ih => exact .more ih h2 h3
theorem WayN.mono {N : Nat} {f g : Nat → Nat → Bool} {a b : Nat} (h : WayN N f a b) (hg : ∀ i j, i < N → j < N → f i j = true → g i j = true) : WayN N g a b := by
 induction h with
 | one h1 h2 h3 => exact .one h1 h2 (hg _ _ h1 h2 h3)
 | more h1 h2 h3 ih => exact .more ih h2 (hg _ _ h1.lt.2 h2 h3)
theorem fwW_sound {N : Nat} {f : Nat → Nat → Bool} : ∀ k, k ≤ N → ∀ i j, i < N → j < N → fwW f k i j = true → WayN N f i j := by
 intro k
 induction k with
 | zero => intro _ i j hi hj h; exact .one hi hj h
 | succ k ih =>
  intro hk i j hi hj h
  rw [fwW, Bool.or_eq_true, Bool.and_eq_true] at h
  rcases h with h | ⟨h1, h2⟩
  ·exact ih (by omega) i j hi hj h
  ·exact (ih (by omega) i k hi (by omega) h1).trans (ih (by omega) k j (by omega) hj h2)
theorem fwW_mono {f : Nat → Nat → Bool} {i j : Nat} (h : f i j = true) : ∀ k, fwW f k i j = true := by
 intro k
 induction k with
 | zero => exact h
 | succ k ih => rw [fwW, ih]; rfl
theorem fwW_closed {f : Nat → Nat → Bool} : ∀ k m i j, m < k → fwW f k i m = true → fwW f k m j = true → fwW f k i j = true := by
 intro k
 induction k with
 | zero => intro m i j hm; omega
 | succ k ih =>
  intro m i j hm h1 h2
  by_cases hmk : m = k
  ·subst hmk
   rw [fwW_col] at h1
   rw [fwW_row] at h2
   rw [fwW, h1, h2]; simp
  ·have hm' : m < k := by omega
   rw [fwW, Bool.or_eq_true, Bool.and_eq_true] at h1 h2 ⊢
   rcases h1 with h1 | ⟨h1, h1'⟩ <;> rcases h2 with h2 | ⟨h2, h2'⟩
   ·exact .inl (ih m i j hm' h1 h2)
   ·exact .inr ⟨ih m i k hm' h1 h2, h2'⟩
   ·exact .inr ⟨h1, ih m k j hm' h1' h2⟩
   ·exact .inr ⟨h1, h2'⟩
theorem fwW_way {N : Nat} {f : Nat → Nat → Bool} {i j : Nat} : i < N → j < N → (fwW f N i j = true ↔ WayN N f i j) := by
 intro hi hj
 constructor
 ·exact fwW_sound N (Nat.le_refl _) i j hi hj
 ·intro h
  induction h with
  | one h1 h2 h3 => exact fwW_mono h3 N
  | more h1 h2 h3 ih =>
   exact fwW_closed N _ _ _ h1.lt.2 (ih h1.lt.2) (fwW_mono h3 N)
end Go.Proofs.Ytdgkpkdinfklaab

namespace Go.Proofs.Ytdgkpkdinfklaab
open Go.RowKit
set_option maxHeartbeats 1600000 in
set_option maxRecDepth 100000 in
theorem leads_any (l : List Value) (f : Nat → Nat → Bool) (h0 h1 h2 h3 h4 : Bool) (h : Nat → Bool) (hh : h 0 = h0 ∧ h 1 = h1 ∧ h 2 = h2 ∧ h 3 = h3 ∧ h 4 = h4) (lk : Int) (w : World) (ho : OV f l) (r : Bool) (hr : r = true ↔ 0 ≤ lk ∧ lk < 5 ∧ ∃ t, t < 5 ∧ f lk.toNat t = true ∧ h t = true) :
  Calls Try.prog 109 #[.agg l.toArray, .int .i64 lk, .agg #[.bool h0, .bool h1, .bool h2, .bool h3, .bool h4]] w fun e w' => e = .returned (.bool r) ∧ Below w.heap.size w w' := by
 have HO : Hid (OV f l) := ho
 have hl : l.length = 25 := ho.1
 have HR : Hid (r = true ↔ 0 ≤ lk ∧ lk < 5 ∧ ∃ t, t < 5 ∧ f lk.toNat t = true ∧ h t = true) := hr
 have HH : Hid (h 0 = h0 ∧ h 1 = h1 ∧ h 2 = h2 ∧ h 3 = h3 ∧ h 4 = h4) := hh
 have B1 : Hid (∀ o o', Below w.heap.size w ((w.alloc o).alloc o')) := fun o o' => ((Below.refl _ _).alloc (Nat.le_refl _) o).alloc (by simp) o'
 clear ho hr hh
 by_cases hlo : lk < 0
 ·have b0 : decide (lk < 0) = true := by simpa using hlo
  have HF : Hid (r = false) := by
   cases h : r with
   | false => rfl
   | true => have := HR.out.1 h; omega
  clear hlo
  go_enter Try.func109, Try.ntmps109
  go_wp2
  go_ret
  rw [HF.out]; exact ⟨rfl, B1.out _ _⟩
 ·by_cases hhi : 5 ≤ lk
  ·have b0 : decide (lk < 0) = false := by simpa using hlo
   have b5 : decide (5 ≤ lk) = true := by simpa using hhi
   have HF : Hid (r = false) := by
    cases h : r with
    | false => rfl
    | true => have := HR.out.1 h; omega
   clear hlo hhi
   go_enter Try.func109, Try.ntmps109
   go_wp2
   go_ret
   rw [HF.out]; exact ⟨rfl, B1.out _ _⟩
  ·obtain ⟨q, rfl⟩ : ∃ q : Nat, lk = q := ⟨lk.toNat, by omega⟩
   have hq : q < 5 := by omega
   have b0 : decide ((q : Int) < 0) = false := by simp
   have b5 : decide (5 ≤ (q : Int)) = false := by simp; omega
   have HQ : Hid (r = true ↔ ∃ t, t < 5 ∧ f q t = true ∧ h t = true) := by
    show r = true ↔ _
    rw [HR.out]
    constructor
    ·rintro ⟨_, _, t, h1, h2, h3⟩; exact ⟨t, h1, by simpa using h2, h3⟩
    ·rintro ⟨t, h1, h2, h3⟩; exact ⟨by omega, by omega, t, h1, by simpa using h2, h3⟩
   clear hlo hhi HR
   have HB1 : Hid (∀ o', Blk ((w.alloc (.cells l.toArray 84)).alloc o') w.heap.size l 84) := fun o' => Blk.alloc (heap_alloc_new _ _) o'
   have HB2 : Hid (∀ o, Blk ((w.alloc o).alloc (.cells #[.bool h0, .bool h1, .bool h2, .bool h3, .bool h4] 78)) (w.heap.size + 1) [.bool h0, .bool h1, .bool h2, .bool h3, .bool h4] 78) := fun o => by
    have e : (w.alloc o).heap.size = w.heap.size + 1 := by simp
    rw [← e]; exact heap_alloc_new _ _
   go_enter Try.func109, Try.ntmps109
   go_wp2
   go_loopw [7] (fun iv wr => ∃ (i k : Nat), i ≤ 5 ∧ iv = .int .i64 i ∧ wr = ((w.alloc (.cells l.toArray 84)).alloc (.cells #[.bool h0, .bool h1, .bool h2, .bool h3, .bool h4] 78)).drewN k ∧ ∀ t, t < i → ¬ (f q t = true ∧ h t = true)) (fun iv _ => 5 - (intOf iv).toNat)
   case atStart => exact ⟨0, 0, by omega, rfl, rfl, fun t ht => by omega⟩
   case round =>
    obtain ⟨i, k, hi, rfl, rfl, hno⟩ := hrel
    have HNO : Hid (∀ t, t < i → ¬ (f q t = true ∧ h t = true)) := hno
    clear hno
    have HBB := B1.out (.cells l.toArray 84) (.cells #[.bool h0, .bool h1, .bool h2, .bool h3, .bool h4] 78)
    have hk1 := HB1.out (.cells #[.bool h0, .bool h1, .bool h2, .bool h3, .bool h4] 78)
    have hk2 := HB2.out (.cells l.toArray 84)
    generalize (w.alloc (.cells l.toArray 84)).alloc (.cells #[.bool h0, .bool h1, .bool h2, .bool h3, .bool h4] 78) = W at HBB hk1 hk2 ⊢
    have HW : Hid (Below w.heap.size w W) := HBB
    clear HBB
    by_cases hi5 : i < 5
    ·have ch : W.cell? ⟨w.heap.size + 1, i, none⟩ = some (.bool (h i)) := by
      obtain ⟨e0, e1, e2, e3, e4⟩ := HH.out
      refine hk2.cell i _ ?_
      have : i = 0 ∨ i = 1 ∨ i = 2 ∨ i = 3 ∨ i = 4 := by omega
      rcases this with rfl | rfl | rfl | rfl | rfl
      ·rw [e0]; rfl
      ·rw [e1]; rfl
      ·rw [e2]; rfl
      ·rw [e3]; rfl
      ·rw [e4]; rfl
     have co := hk1.cell (q * 5 + i) _ (HO.out.2 q i hq hi5)
     have hi5' : (i : Int) < 5 := by omega
     have hq' : (q : Int) < 5 := by omega
     clear hk1 hk2
     have HNX : Hid (¬ (f q i = true ∧ h i = true) → ∀ t, t < i + 1 → ¬ (f q t = true ∧ h t = true)) := fun hn t ht => by
      by_cases e : t = i
      ·rw [e]; exact hn
      ·exact HNO.out t (by omega)
     have HT : Hid (f q i = true ∧ h i = true → r = true) := fun hx => HQ.out.2 ⟨i, hi5, hx.1, hx.2⟩
     generalize f q i = x at co HNX HT
     generalize h i = y at ch HNX HT
     cases x <;> cases y
     all_goals
      go_wp2
      first
       | exact ⟨⟨i + 1, _, by omega, by go_num, rfl, HNX.out (by decide)⟩, by simp [intOf]; omega⟩
       | (go_ret; rw [HT.out (by decide)]; exact ⟨rfl, HW.out.trans (below_drewN' _ _ _)⟩)
    ·have HF : Hid (r = false) := by
      cases h : r with
      | false => rfl
      | true =>
       obtain ⟨t, t1, t2, t3⟩ := HQ.out.1 h
       exact absurd ⟨t2, t3⟩ (HNO.out t (by omega))
     go_wp2
     go_ret
     rw [HF.out]; exact ⟨rfl, HW.out.trans (below_drewN' _ _ _)⟩
end Go.Proofs.Ytdgkpkdinfklaab

namespace Go.Proofs.Ytdgkpkdinfklaab
open Go.RowKit
def fwM (f : Nat → Nat → Bool) (k i j : Nat) (a b : Nat) : Bool := if a < i ∨ (a = i ∧ b < j) then fwW f (k + 1) a b else fwW f k a b
theorem fwM_col (f : Nat → Nat → Bool) (k i j a : Nat) : fwM f k i j a k = fwW f k a k := by
 rw [fwM]; split
 ·exact fwW_col f k a
 ·rfl
theorem fwM_row (f : Nat → Nat → Bool) (k i j b : Nat) : fwM f k i j k b = fwW f k k b := by
 rw [fwM]; split
 ·exact fwW_row f k b
 ·rfl
set_option maxHeartbeats 1600000 in
set_option maxRecDepth 100000 in
theorem ways_any (l : List Value) (f : Nat → Nat → Bool) (w : World) (ho : OV f l) :
  Calls Try.prog 108 #[.agg l.toArray] w fun e w' => (∃ l' : List Value, e = .returned (.agg l'.toArray) ∧ OV (fwW f 5) l') ∧ Below w.heap.size w w' := by
 have HO : Hid (OV f l) := ho
 have hl : l.length = 25 := ho.1
 have hl1 : l.toArray.all (·.oneCell') = true := ho.one
 obtain ⟨W0, hW0⟩ : ∃ W0, W0 = (w.alloc (.cells l.toArray 84)).alloc (.cells Z25.toArray 84) := ⟨_, rfl⟩
 have HW0 : Hid (W0 = (w.alloc (.cells l.toArray 84)).alloc (.cells Z25.toArray 84)) := hW0
 have B1 : Hid (Below w.heap.size w W0) := by show Below _ _ _; rw [hW0]; exact ((Below.refl _ _).alloc (Nat.le_refl _) _).alloc (by simp) _
 have hW0s : W0.heap.size = w.heap.size + 2 := by rw [hW0]; simp
 have HZ0 : Hid (Blk W0 (w.heap.size + 1) Z25 84) := by
  show Blk _ _ _ _
  have e : (w.alloc (.cells l.toArray 84)).heap.size = w.heap.size + 1 := by simp
  rw [hW0, ← e]; exact heap_alloc_new _ _
 have HL0 : Hid (Blk W0 w.heap.size l 84) := by
  show Blk _ _ _ _
  rw [hW0]; exact Blk.alloc (heap_alloc_new _ _) _
 clear ho hW0
 go_enter Try.func108, Try.ntmps108
 go_wp2
 go_loopw [3] (fun iv wr => ∃ (k : Nat) (l' : List Value), k ≤ 5 ∧ iv = .int .i64 k ∧ OV (fwW f k) l' ∧ Blk wr w.heap.size l' 84 ∧ Chg [w.heap.size] W0 wr) (fun iv _ => 5 - (intOf iv).toNat)
 case atStart =>
  have e1 := HL0.out
  have e2 := Chg.refl [w.heap.size] W0
  refine ⟨0, l, by omega, rfl, HO.out, ?_, ?_⟩
  ·rw [HW0.out] at e1; exact e1
  ·rw [HW0.out] at e2 ⊢; exact e2
 case round =>
  obtain ⟨k, l1, hk, rfl, hov, hblk, hbe⟩ := hrel
  have HOV : Hid (OV (fwW f k) l1) := hov
  have HBK : Hid (Blk wr w.heap.size l1 84) := hblk
  have HBE : Hid (Chg [w.heap.size] W0 wr) := hbe
  clear hov hblk hbe
  by_cases hk5 : k < 5
  ·have hk5' : (k : Int) < 5 := by omega
   have hkd : decide ((k : Int) < 5) = true := by simp; omega
   obtain ⟨wa, rfl⟩ : ∃ wa, wa = wr := ⟨_, rfl⟩
   go_wp2
   go_loopw [4] (fun iv wr => ∃ (i : Nat) (l' : List Value), i ≤ 5 ∧ iv = .int .i64 i ∧ OV (fwM f k i 0) l' ∧ Blk wr w.heap.size l' 84 ∧ Chg [w.heap.size] W0 wr) (fun iv _ => 5 - (intOf iv).toNat)
   case atStart => exact ⟨0, l1, by omega, rfl, HOV.out.congr (fun a b _ _ => by rw [fwM, if_neg (by omega)]), HBK.out, HBE.out⟩
   case round =>
    obtain ⟨i, l2, hi, rfl, hov, hblk, hbe⟩ := hrel
    have HOV2 : Hid (OV (fwM f k i 0) l2) := hov
    have HBK2 : Hid (Blk wr w.heap.size l2 84) := hblk
    have HBE2 : Hid (Chg [w.heap.size] W0 wr) := hbe
    clear hov hblk hbe
    by_cases hi5 : i < 5
    ·have hi5' : (i : Int) < 5 := by omega
     have hid : decide ((i : Int) < 5) = true := by simp; omega
     obtain ⟨wb, rfl⟩ : ∃ wb, wb = wr := ⟨_, rfl⟩
     go_wp2
     go_loopw [5] (fun iv wr => ∃ (j : Nat) (l' : List Value), j ≤ 5 ∧ iv = .int .i64 j ∧ OV (fwM f k i j) l' ∧ Blk wr w.heap.size l' 84 ∧ Chg [w.heap.size] W0 wr) (fun iv _ => 5 - (intOf iv).toNat)
     case atStart => exact ⟨0, l2, by omega, rfl, HOV2.out, HBK2.out, HBE2.out⟩
     case round =>
      obtain ⟨j, l3, hj, rfl, hov, hblk, hbe⟩ := hrel
      have HOV3 : Hid (OV (fwM f k i j) l3) := hov
      have HBK3 : Hid (Blk wr w.heap.size l3 84) := hblk
      have HBE3 : Hid (Chg [w.heap.size] W0 wr) := hbe
      clear hov hblk hbe
      by_cases hj5 : j < 5
      ·have c1 := HBK3.out.cell (i * 5 + k) _ (HOV3.out.2 i k hi5 hk5)
       have c2 := HBK3.out.cell (k * 5 + j) _ (HOV3.out.2 k j hk5 hj5)
       have c3 := HBK3.out.cell (i * 5 + j) _ (HOV3.out.2 i j hi5 hj5)
       have f3 := HBK3.out.fz (i * 5 + j)
       rw [fwM_col] at c1
       rw [fwM_row] at c2
       have hj5' : (j : Int) < 5 := by omega
       have HV : Hid (∀ a b, a < 5 → b < 5 → fwM f k i (j + 1) a b = if a = i ∧ b = j then (fwW f k i j || (fwW f k i k && fwW f k k j)) else fwM f k i j a b) := by
        intro a b _ _
        by_cases e : a = i ∧ b = j
        ·obtain ⟨rfl, rfl⟩ := e
         rw [if_pos ⟨rfl, rfl⟩, fwM, if_pos (by omega), fwW]
        ·rw [if_neg e, fwM, fwM]
         by_cases e2 : a < i ∨ (a = i ∧ b < j)
         ·rw [if_pos e2, if_pos (by omega)]
         ·rw [if_neg e2, if_neg (by omega)]
       have HOld : Hid (fwM f k i j i j = fwW f k i j) := by
        show _ = _
        rw [fwM, if_neg (by omega)]
       have HSet : Hid ((fwW f k i k && fwW f k k j) = true → OV (fwM f k i (j + 1)) (l3.set (i * 5 + j) (.bool true))) := fun hx => by
        refine HOV3.out.set i j hi5 hj5 true fun a b ha hb => ?_
        rw [HV.out a b ha hb, hx]
        simp
       have HNo : Hid ((fwW f k i k && fwW f k k j) = false → OV (fwM f k i (j + 1)) l3) := fun hx => by
        refine HOV3.out.congr fun a b ha hb => ?_
        rw [HV.out a b ha hb, hx]
        split
        ·next e => rw [e.1, e.2, HOld.out]; simp
        ·rfl
       generalize fwW f k i k = x at c1 HSet HNo
       generalize fwW f k k j = y at c2 HSet HNo
       clear HV HOld
       cases x <;> cases y
       all_goals
        go_wp2
        first
         | exact ⟨⟨j + 1, _, by omega, by go_num, HNo.out (by decide), HBK3.out, HBE3.out⟩, by simp [intOf]; omega⟩
         | exact ⟨⟨j + 1, _, by omega, by go_num, HSet.out (by decide), HBK3.out.set _ _, HBE3.out.set (.inl (by simp)) _⟩, by simp [intOf]; omega⟩
      ·have HN : Hid (OV (fwM f k (i + 1) 0) l3) := HOV3.out.congr fun a b ha hb => by
        rw [fwM, fwM]
        by_cases e : a < i + 1
        ·rw [if_pos (.inl e), if_pos (by omega)]
        ·rw [if_neg (by omega), if_neg (by omega)]
       go_wp2
       exact ⟨⟨i + 1, l3, by omega, by go_num, HN.out, HBK3.out, HBE3.out⟩, by simp [intOf]; omega⟩
    ·have HN : Hid (OV (fwW f (k + 1)) l2) := HOV2.out.congr fun a b ha hb => by
      rw [fwM, if_pos (by omega)]
     go_wp2
     exact ⟨⟨k + 1, l2, by omega, by go_num, HN.out, HBK2.out, HBE2.out⟩, by simp [intOf]; omega⟩
  ·have hk' : k = 5 := by omega
   subst hk'
   have HX : Hid (Blk wr (w.heap.size + 1) Z25 84) := HZ0.out.chg HBE.out (by simp)
   have hXl : l1.length = 25 := HOV.out.1
   have hX1 : l1.toArray.all (·.oneCell') = true := HOV.out.one
   have W2b : Hid (Blk (wr.setCells (w.heap.size + 1) 0 l1) (w.heap.size + 1) l1 84) := by
    have := setCells_blk l1 Z25 0 HX.out (by rw [hXl]; rfl)
    show Blk _ _ _ _
    simpa [Z25, hXl] using this
   have W2c : Hid (Below w.heap.size w (wr.setCells (w.heap.size + 1) 0 l1)) := by
    have h1 : Below w.heap.size w wr := B1.out.trans (HBE.out.below (by simp) (by omega))
    have hs : w.heap.size + 1 ≤ wr.heap.size := by have := HBE.out.size; omega
    exact h1.trans ((setCells_chg wr (w.heap.size + 1) l1 0 wr (Chg.refl _ _)).below (by simp) (by omega))
   go_wp2_with (first
    | refine wpList_load_mid (by rfl) 84 (.tmp 1) (by rfl) w.heap.size 0 (by rfl) l1 _ HBK.out.range Try.underlying84 (by rfl) (by rw [hXl]; exact Try.infoOrder) ?_
    | refine wpList_store_mid (by rfl) 84 (.tmp 2) (.tmp 34) (by rfl) (w.heap.size + 1) 0 l1.toArray (by rfl) (by rfl) (by have := HX.out.there; rw [show Z25.length = l1.toArray.size by rw [List.size_toArray, hXl]; rfl] at this; exact this) (by rw [List.size_toArray, hXl]; exact Try.infoOrder) hX1 ?_)
   (try simp only [Exit.inBlock, Exit.then])
   refine bodyPost_ret (v := .agg l1.toArray) ?_ rfl ⟨⟨l1, rfl, HOV.out⟩, W2c.out⟩
   rw [results_cell rfl]
   have := run_loadVar_mid (P := Try.prog) _ (w.heap.size + 1) 0 84 l1 _ W2b.out.range Try.underlying84 (by rfl) (by rw [hXl]; exact Try.infoOrder)
   show ((asAddr (.pointer (some ⟨w.heap.size + 1, 0, none⟩))).run Try.prog _).andThen (fun a w₁ => (loadVar 84 a).run Try.prog w₁) = _
   simp [asAddr, Result.andThen, this]
end Go.Proofs.Ytdgkpkdinfklaab

namespace Go.Proofs.Ytdgkpkdinfklaab
open Go.RowKit
set_option maxHeartbeats 1600000 in
set_option maxRecDepth 100000 in
theorem orderOf_any (B : Nat) (am : Option Addr) (cm : Nat) (F : List ST) (w : World) (h : w.ownsRow B 80 12 (.slice am F.length cm) F.length (stsV F)) (hlen : F.length ≤ 1000) :
  Calls Try.prog 48 #[.slice am F.length cm] w fun e w' => OrderOut F e ∧ Below w.heap.size w w' := by
 have HM : Hid (w.ownsRow B 80 12 (.slice am F.length cm) F.length (stsV F)) := h
 clear h
 obtain ⟨n, hn⟩ : ∃ n, n = F.length := ⟨_, rfl⟩
 have HN : Hid (n = F.length) := hn
 rw [← hn] at hlen ⊢
 clear hn
 have B1 : Hid (∀ o, Below w.heap.size w (w.alloc o)) := fun o => (Below.refl _ _).alloc (Nat.le_refl _) o
 obtain ⟨w0, hw0⟩ : ∃ w0, w0 = w.alloc (.cells Z25.toArray 84) := ⟨_, rfl⟩
 have hs0 : w0.heap.size = w.heap.size + 1 := by rw [hw0]; simp
 have HZ : Hid (Blk w0 w.heap.size Z25 84) := by show Blk _ _ _ _; rw [hw0]; exact heap_alloc_new _ _
 have HM0 : Hid (w0.ownsRow B 80 12 (.slice am F.length cm) F.length (stsV F)) := by show World.ownsRow _ _ _ _ _ _ _; rw [hw0]; exact HM.out.alloc _
 have HB0 : Hid (Below w.heap.size w w0) := by show Below _ _ _; rw [hw0]; exact B1.out _
 have HW0 : Hid (w0 = w.alloc (.cells Z25.toArray 84)) := hw0
 clear hw0
 go_enter Try.func48, Try.ntmps48
 go_wp2
 go_loopw [4] (fun iv wr => ∃ (j : Nat) (l : List Value), j ≤ n ∧ iv = .int .i64 j ∧ OV (edS (F.take j)) l ∧ Blk wr (w.heap.size + 1) l 84 ∧ Below (w.heap.size + 1) w0 wr) (fun iv _ => n - (intOf iv).toNat)
 case atStart =>
  refine ⟨0, Z25, Nat.zero_le _, rfl, .zero (fun _ _ _ _ => rfl), ?_, ?_⟩
  ·have e : (w.alloc (.cells Z25.toArray 84)).heap.size = w.heap.size + 1 := by simp
   rw [← e]; exact heap_alloc_new _ _
  ·have := (Below.refl (w.heap.size + 1) w0).alloc (by omega) (.cells Z25.toArray 84)
   rw [HW0.out] at this ⊢
   exact this
 case round =>
  obtain ⟨j, l, hj, rfl, hov, hblk, hbe⟩ := hrel
  have hm' := ownsRow_later HM0.out (by rw [hs0]; exact hbe)
  have hsz := hbe.size
  rw [hs0] at hsz
  have hob := hblk.lt
  have HOV : Hid (OV (edS (F.take j)) l) := hov
  have HBK : Hid (Blk wr (w.heap.size + 1) l 84) := hblk
  have HBE : Hid (Below (w.heap.size + 1) w0 wr) := hbe
  clear hov hblk hbe
  by_cases hlt : j < n
  ·obtain ⟨m, hm⟩ : ∃ m, F[j]? = some m := ⟨F[j]'(by rw [← HN.out]; exact hlt), List.getElem?_eq_getElem _⟩
   obtain ⟨g, cap', hv, hb, _⟩ := HM.out.form (by rw [← HN.out]; omega)
   cases hv
   have q0 := markAt (n := 0) hm' j m hm 0 (by decide) _ rfl rfl
   have q3 := markAt (n := 0) hm' j m hm 3 (by decide) _ rfl rfl
   have q7 := markAt (n := 0) hm' j m hm 7 (by decide) _ rfl rfl
   have q8 := markAt (n := 0) hm' j m hm 8 (by decide) _ rfl rfl
   have q9 := markAt (n := 0) hm' j m hm 9 (by decide) _ rfl rfl
   have q10 := markAt (n := 0) hm' j m hm 10 (by decide) _ rfl rfl
   have q11 := markAt (n := 0) hm' j m hm 11 (by decide) _ rfl rfl
   rw [Nat.add_zero] at q0
   have HS : Hid (∀ i k, edS (F.take (j + 1)) i k = (edS (F.take j) i k || (m.kind == 6 && (m.num == (k : Int) && hOfS m i)))) := edS_snoc hm
   clear hm hm'
   by_cases h6 : m.kind = 6
   ·have b6 : (m.kind == 6) = true := by simpa using h6
    have HY : Hid (∀ i k, edS (F.take (j + 1)) i k = addF (edS (F.take j)) (hOfS m) m.num i k) := by
     intro i k
     rw [HS.out, b6, addF, Bool.true_and, Bool.and_comm (m.num == _)]
    clear h6 HS
    go_wp2_with fail
    go_region_with (
     go_at_call 64
     refine (ordAdd_any (w.heap.size + 1) l (edS (F.take j)) m.h0 m.h1 m.h2 m.h3 m.h4 (hOfS m) ⟨rfl, rfl, rfl, rfl, rfl⟩ m.num _ (HBK.out.drewN _) HOV.out).mono ?_
     rintro e w1 ⟨rfl, ⟨l', hov', hbk'⟩, hc'⟩)
    all_goals
     have HO1 : Hid (OV (edS (F.take (j + 1))) l') := hov'.congr fun i k _ _ => HY.out i k
     have HK1 : Hid (Blk w1 (w.heap.size + 1) l' 84) := hbk'
     have HB1 : Hid (Below (w.heap.size + 1) w0 w1) := HBE.out.trans ((below_drewN' _ _ _).trans (hc'.below (by simp) (by simp; omega)))
     clear hov' hbk' hc'
     go_wp2
     exact ⟨⟨j + 1, l', by omega, by go_num, HO1.out, HK1.out, HB1.out⟩, by simp [intOf]; omega⟩
   ·have b6 : (m.kind == 6) = false := by simpa using h6
    have HY : Hid (OV (edS (F.take (j + 1))) l) := HOV.out.congr fun i k _ _ => by rw [HS.out, b6]; simp
    clear h6 HS
    go_wp2
    exact ⟨⟨j + 1, l, by omega, by go_num, HY.out, HBK.out, HBE.out⟩, by simp [intOf]; omega⟩
  ·have hjn : F.take j = F := List.take_of_length_le (by rw [← HN.out]; omega)
   rw [hjn] at HOV
   have HX : Hid (Blk wr w.heap.size Z25 84) := by
    show _ = _
    rw [HBE.out.block w.heap.size (by omega)]; exact HZ.out
   have hXl : l.length = 25 := HOV.out.1
   have hX1 : l.toArray.all (·.oneCell') = true := HOV.out.one
   have W2b : Hid (Blk (wr.setCells w.heap.size 0 l) w.heap.size l 84) := by
    have := setCells_blk l Z25 0 HX.out (by rw [hXl]; rfl)
    show Blk _ _ _ _
    simpa [Z25, hXl] using this
   have W2c : Hid (Below w.heap.size w (wr.setCells w.heap.size 0 l)) := by
    have h1 : Below w.heap.size w wr := HB0.out.trans (HBE.out.mono (by omega))
    exact h1.trans ((setCells_chg wr w.heap.size l 0 wr (Chg.refl _ _)).below (by simp) (by omega))
   clear hjn hm'
   go_wp2_with (first
    | refine wpList_load_mid (by rfl) 84 (.tmp 3) (by rfl) (w.heap.size + 1) 0 (by rfl) l _ HBK.out.range Try.underlying84 (by rfl) (by rw [hXl]; exact Try.infoOrder) ?_
    | refine wpList_store_mid (by rfl) 84 (.tmp 2) (.tmp 28) (by rfl) w.heap.size 0 l.toArray (by rfl) (by rfl) (by have := HX.out.there; rw [show Z25.length = l.toArray.size by rw [List.size_toArray, hXl]; rfl] at this; exact this) (by rw [List.size_toArray, hXl]; exact Try.infoOrder) hX1 ?_)
   (try simp only [Exit.inBlock, Exit.then])
   refine bodyPost_ret (v := .agg l.toArray) ?_ rfl ⟨⟨l, rfl, HOV.out⟩, W2c.out⟩
   rw [results_cell rfl]
   have := run_loadVar_mid (P := Try.prog) _ w.heap.size 0 84 l _ W2b.out.range Try.underlying84 (by rfl) (by rw [hXl]; exact Try.infoOrder)
   show ((asAddr (.pointer (some ⟨w.heap.size, 0, none⟩))).run Try.prog _).andThen (fun a w₁ => (loadVar 84 a).run Try.prog w₁) = _
   simp [asAddr, Result.andThen, this]
end Go.Proofs.Ytdgkpkdinfklaab
