import Derived.Test.YtdgkpkdinfklaabGU
import Derived.Test.YtdgkpkdinfklaabGLY
import Derived.Test.YtdgkpkdinfklaabGSP
namespace Go.Proofs.Ytdgkpkdinfklaab
open Go.RowKit
def choN (c : Int) : Nat := ((if c < 0 then -(c + 1) else c) % 6).toNat
theorem choN_lt (c : Int) : choN c < 6 := by
 unfold choN; split <;> omega
end Go.Proofs.Ytdgkpkdinfklaab

namespace Go.Proofs.Ytdgkpkdinfklaab
open Go.RowKit
def prs : List UInt8 → List (UInt8 × UInt8)
 | a :: b :: l => (a, b) :: prs l
 | _ => []
theorem prs_next {l : List UInt8} {i : Nat} (h : i + 1 < l.length) : prs (l.drop i) = (l[i], l[i + 1]) :: prs (l.drop (i + 2)) := by
 rw [List.drop_eq_getElem_cons (by omega : i < l.length), List.drop_eq_getElem_cons h, prs]
theorem prs_end {l : List UInt8} {i : Nat} (h : ¬ i + 1 < l.length) : prs (l.drop i) = [] := by
 have : (l.drop i).length ≤ 1 := by rw [List.length_drop]; omega
 match l.drop i, this with
 | [], _ => rfl
 | [_], _ => rfl
 | _ :: _ :: _, h => simp at h
theorem prs_len (l : List UInt8) : 2 * (prs l).length ≤ l.length := by
 match l with
 | [] => simp [prs]
 | [_] => simp [prs]
 | a :: b :: l => have := prs_len l; simp only [prs, List.length_cons]; omega
def nfE (E : List (UInt8 × UInt8)) (to : List UInt8) : Nat := (E.filter (fun e => !inU to e.2)).length
theorem nfE_cons (e : UInt8 × UInt8) (E : List (UInt8 × UInt8)) (to : List UInt8) : nfE (e :: E) to = nfE E to + (if inU to e.2 = true then 0 else 1) := by
 unfold nfE
 cases h : inU to e.2 <;> simp [h]
theorem nfE_le (E : List (UInt8 × UInt8)) (to : List UInt8) (x : UInt8) : nfE E (to ++ [x]) ≤ nfE E to := by
 induction E with
 | nil => exact Nat.le_refl _
 | cons e E ih =>
  rw [nfE_cons, nfE_cons]
  by_cases h : inU to e.2 = true
  ·have : inU (to ++ [x]) e.2 = true := by rw [inU_mem] at h ⊢; simp [h]
   rw [if_pos h, if_pos this]; omega
  ·rw [if_neg h]; split <;> omega
theorem nfE_lt {E : List (UInt8 × UInt8)} {to : List UInt8} {e : UInt8 × UInt8} (he : e ∈ E) (h : inU to e.2 = false) : nfE E (to ++ [e.2]) + 1 ≤ nfE E to := by
 induction E with
 | nil => cases he
 | cons f E ih =>
  rw [nfE_cons, nfE_cons]
  rcases List.mem_cons.1 he with rfl | he
  ·have := nfE_le E to e.2
   have h1 : inU (to ++ [e.2]) e.2 = true := by rw [inU_mem]; simp
   rw [if_pos h1, if_neg (by rw [h]; simp)]; omega
  ·have := ih he
   by_cases h2 : inU to f.2 = true
   ·have : inU (to ++ [e.2]) f.2 = true := by rw [inU_mem] at h2 ⊢; simp [h2]
    rw [if_pos h2, if_pos this]; omega
   ·rw [if_neg h2]; split <;> omega
theorem nfE_start (E : List (UInt8 × UInt8)) : nfE E [] ≤ E.length := List.length_filter_le _ _
theorem pas_hit {a : UInt8} {e : UInt8 × UInt8} {E : List (UInt8 × UInt8)} {to : List UInt8} (h1 : e.1 = a ∨ inU to e.1 = true) (h2 : inU to e.2 = false) : pas a (e :: E) to = pas a E (to ++ [e.2]) := by
 rw [pas, if_pos]
 refine ⟨h1.imp id inU_mem.1, fun h => ?_⟩
 rw [← inU_mem, h2] at h; exact Bool.noConfusion h
theorem pas_miss {a : UInt8} {e : UInt8 × UInt8} {E : List (UInt8 × UInt8)} {to : List UInt8} (h : ¬ (e.1 = a ∨ inU to e.1 = true) ∨ inU to e.2 = true) : pas a (e :: E) to = pas a E to := by
 rw [pas, if_neg]
 rintro ⟨h1, h2⟩
 rcases h with h | h
 ·exact h (h1.imp id inU_mem.2)
 ·exact h2 (inU_mem.1 h)
end Go.Proofs.Ytdgkpkdinfklaab

namespace Go.Proofs.Ytdgkpkdinfklaab
open Go.RowKit
def WI (E : List (UInt8 × UInt8)) (a : UInt8) (to : List UInt8) (ag : Bool) : Prop :=
 (∀ x ∈ to, WayE E a x) ∧ to.length + nfE E to ≤ E.length ∧ (ag = false → pas a E to = to)
def WJ (L : List UInt8) (a : UInt8) (t0 to : List UInt8) (ag : Bool) (i : Nat) : Prop :=
 pas a (prs (L.drop i)) to = pas a (prs L) t0 ∧ (∀ e ∈ prs (L.drop i), e ∈ prs L) ∧ to.length + nfE (prs L) to ≤ (prs L).length ∧
  ((ag = false ∧ to = t0) ∨ (ag = true ∧ nfE (prs L) to < nfE (prs L) t0))
theorem WI.start {E : List (UInt8 × UInt8)} {a : UInt8} : WI E a [] true := ⟨fun x hx => absurd hx List.not_mem_nil, by have := nfE_start E; simpa using this, fun h => Bool.noConfusion h⟩
theorem WI.pass {L : List UInt8} {a : UInt8} {to : List UInt8} {ag : Bool} (h : WI (prs L) a to ag) : WJ L a to to false 0 :=
 ⟨by rw [List.drop_zero], by rw [List.drop_zero]; exact fun e he => he, h.2.1, .inl ⟨rfl, rfl⟩⟩
theorem WJ.hit {L : List UInt8} {a : UInt8} {t0 to : List UInt8} {ag : Bool} {i : Nat} (h : WJ L a t0 to ag i) {x y : UInt8} (hi : i + 1 < L.length) (hx : L[i] = x) (hy : L[i + 1] = y)
  (h1 : x = a ∨ inU to x = true) (h2 : inU to y = false) : WJ L a t0 (to ++ [y]) true (i + 2) := by
 obtain ⟨p1, p2, p3, p4⟩ := h
 rw [prs_next hi, hx, hy] at p1 p2
 have hl := nfE_lt (E := prs L) (to := to) (e := (x, y)) (p2 _ List.mem_cons_self) h2
 rw [pas_hit (e := (x, y)) h1 h2] at p1
 refine ⟨p1, fun e he => p2 e (List.mem_cons_of_mem _ he), ?_, .inr ⟨rfl, ?_⟩⟩
 ·rw [List.length_append, List.length_singleton]; simp only at hl; omega
 ·simp only at hl
  rcases p4 with ⟨_, rfl⟩ | ⟨_, h⟩ <;> omega
theorem WJ.miss {L : List UInt8} {a : UInt8} {t0 to : List UInt8} {ag : Bool} {i : Nat} (h : WJ L a t0 to ag i) {x y : UInt8} (hi : i + 1 < L.length) (hx : L[i] = x) (hy : L[i + 1] = y)
  (h1 : ¬ (x = a ∨ inU to x = true) ∨ inU to y = true) : WJ L a t0 to ag (i + 2) := by
 obtain ⟨p1, p2, p3, p4⟩ := h
 rw [prs_next hi, hx, hy] at p1 p2
 rw [pas_miss (e := (x, y)) h1] at p1
 exact ⟨p1, fun e he => p2 e (List.mem_cons_of_mem _ he), p3, p4⟩
theorem WJ.done {L : List UInt8} {a : UInt8} {t0 to : List UInt8} {ag ag0 : Bool} {i : Nat} (h : WJ L a t0 to ag i) (hw : WI (prs L) a t0 ag0) (hi : ¬ i + 1 < L.length) :
  WI (prs L) a to ag ∧ (ag = true → nfE (prs L) to < nfE (prs L) t0) ∧ nfE (prs L) to ≤ nfE (prs L) t0 := by
 obtain ⟨p1, p2, p3, p4⟩ := h
 rw [prs_end hi, pas] at p1
 refine ⟨⟨?_, p3, ?_⟩, ?_, ?_⟩
 ·rw [p1]; exact pas_sound _ _ _ (fun e he => he) _ hw.1
 ·intro hag
  rcases p4 with ⟨_, h⟩ | ⟨h, _⟩
  ·rw [h]; rw [h] at p1; exact p1.symm
  ·rw [hag] at h; exact Bool.noConfusion h
 ·intro hag
  rcases p4 with ⟨h, _⟩ | ⟨_, h⟩
  ·rw [hag] at h; exact Bool.noConfusion h
  ·exact h
 ·rcases p4 with ⟨_, h⟩ | ⟨_, h⟩
  ·rw [h]; exact Nat.le_refl _
  ·omega
theorem cut_one (s : ByteArray) (j : Nat) (h : j < s.size) : (s.extract j (j + 1)).data.toList = [s[j]] := by
 have hk : j < s.data.toList.length := by rw [len_eq]; exact h
 rw [ByteArray.data_extract, Array.toList_extract, List.extract_eq_take_drop, List.drop_eq_getElem_cons hk]
 simp; rfl
def wayM (E : List (UInt8 × UInt8)) (to : List UInt8) (ag : Bool) : Nat := 2 * nfE E to + (if ag = true then 1 else 0)
def strOf : Value → List UInt8
 | .string s => s.data.toList
 | _ => []
def boolOf : Value → Bool
 | .bool b => b
 | _ => false
end Go.Proofs.Ytdgkpkdinfklaab

namespace Go.Proofs.Ytdgkpkdinfklaab
open Go.RowKit
theorem tks_walk {p : List UInt8} {mks : List MK} (ha : Acc p mks) {k : Nat} {c : UInt8} (hlt : (tw p k).i < p.length) (hc : p[(tw p k).i]? = some c) :
  tks (tw p k).now (p.drop (tw p k).i) = (if c = 91 ∨ c = 60 then [(c, (p[(tw p k).i + 1]?).getD 0, (tw p k).now)] else []) ++ tks (tw p (k + 1)).now (p.drop (tw p (k + 1)).i) := by
 obtain ⟨hroom, _⟩ := acc_room ha hlt hc
 obtain ⟨t1, t2, _, _⟩ := tw_at hlt hc
 rw [t1, t2]
 have hd : p.drop (tw p k).i = c :: p.drop ((tw p k).i + 1) := by
  rw [List.drop_eq_getElem_cons hlt]
  rw [List.getElem?_eq_getElem hlt] at hc
  rw [Option.some.inj hc]
 rw [hd]
 by_cases h2 : sizeU c = 2
 ·have hlt2 : (tw p k).i + 1 < p.length := by omega
  have hd2 : p.drop ((tw p k).i + 1) = p[(tw p k).i + 1] :: p.drop ((tw p k).i + 2) := by rw [List.drop_eq_getElem_cons hlt2]
  have hg : p[(tw p k).i + 1]? = some p[(tw p k).i + 1] := List.getElem?_eq_getElem hlt2
  rw [hd2, h2]
  have hcase : (c = 103 ∨ c = 112 ∨ c = 105) ∨ (c = 91 ∨ c = 60) := by
   by_cases h3 : inU [103, 112, 105, 91, 60] c = true
   ·simp [inU] at h3
    rcases h3 with rfl | rfl | rfl | rfl | rfl <;> simp
   ·rw [sizeU, if_neg h3] at h2
    exact absurd h2 (by decide)
  rcases hcase with h3 | h3
  ·have nt : ¬ (c = 91 ∨ c = 60) := by rcases h3 with rfl | rfl | rfl <;> decide
   have ng : ¬ (c = 93 ∨ c = 62) := by rcases h3 with rfl | rfl | rfl <;> decide
   have hh : heldU (tw p k).now p (tw p k).i = (tw p k).now := by
    rw [heldU, hc]; simp only; rw [if_neg nt, if_neg ng]
   rw [hh, tks_two h3, if_neg nt]; rfl
  ·have hh : heldU (tw p k).now p (tw p k).i = (tw p k).now ++ [p[(tw p k).i + 1]] := by
    rw [heldU, hc]; simp only; rw [if_pos h3, hg]; rfl
   rw [hh, tks_take h3, if_pos h3, hg]; rfl
 ·have h1 : sizeU c = 1 := by
   unfold sizeU at h2 ⊢
   split <;> simp_all
  have nt : ¬ (c = 91 ∨ c = 60) := by rintro (rfl | rfl) <;> exact absurd h1 (by decide)
  rw [h1, if_neg nt, List.nil_append]
  by_cases h3 : c = 93 ∨ c = 62
  ·have hh : heldU (tw p k).now p (tw p k).i = (tw p k).now.dropLast := by
    rw [heldU, hc]; simp only; rw [if_neg nt, if_pos h3]
   rw [hh, tks_give h3]
  ·have hh : heldU (tw p k).now p (tw p k).i = (tw p k).now := by
    rw [heldU, hc]; simp only; rw [if_neg nt, if_neg h3]
   rw [hh, tks_skip h1 (fun e => h3 (.inl e)) (fun e => h3 (.inr e))]
def FP (E : List (UInt8 × UInt8)) (x : UInt8 × UInt8 × List UInt8) : Prop := x.1 = 60 → ∀ l ∈ x.2.2, ¬ WayE E x.2.1 l
theorem ordI_len (mks : List MK) (i : Nat) : ∀ k, (ordI mks i k).length ≤ 2 * k := by
 intro k
 induction k with
 | zero => exact Nat.le_refl _
 | succ k ih =>
  rw [ordI, List.length_append]
  split <;> simp <;> omega
theorem ordL_len (mks : List MK) : ∀ i, (ordL mks i).length ≤ 10 * i := by
 intro i
 induction i with
 | zero => exact Nat.le_refl _
 | succ i ih =>
  rw [ordL, List.length_append]
  have := ordI_len mks i 5
  omega
def FW (E : List (UInt8 × UInt8)) (p : List UInt8) (j : Nat) : Prop :=
 (∀ x ∈ tks [] p, FP E x) ↔ (∀ x ∈ tks (tw p j).now (p.drop (tw p j).i), FP E x)
theorem FW.start (E : List (UInt8 × UInt8)) (p : List UInt8) : FW E p 0 := by
 show _ ↔ (∀ x ∈ tks [] (p.drop 0), FP E x)
 rw [List.drop_zero]
theorem FW.pass {E : List (UInt8 × UInt8)} {p : List UInt8} {mks : List MK} (ha : Acc p mks) {k : Nat} {c : UInt8} (hlt : (tw p k).i < p.length) (hc : p[(tw p k).i]? = some c) (h : FW E p k)
  (h6 : c = 60 → ∀ l ∈ (tw p k).now, ¬ WayE E ((p[(tw p k).i + 1]?).getD 0) l) : FW E p (k + 1) := by
 unfold FW at h ⊢
 rw [h, tks_walk ha hlt hc]
 constructor
 ·intro hx x hm; exact hx x (List.mem_append_right _ hm)
 ·intro hx x hm
  rcases List.mem_append.1 hm with hm | hm
  ·split at hm
   ·rw [List.mem_singleton] at hm
    rw [hm]
    intro e
    exact h6 e
   ·cases hm
  ·exact hx x hm
theorem FW.stop {E : List (UInt8 × UInt8)} {p : List UInt8} {mks : List MK} (ha : Acc p mks) {k : Nat} (hlt : (tw p k).i < p.length) (hc : p[(tw p k).i]? = some 60) (h : FW E p k)
  {l : UInt8} (hl : l ∈ (tw p k).now) (hw : WayE E ((p[(tw p k).i + 1]?).getD 0) l) : ¬ (∀ x ∈ tks [] p, FP E x) := by
 unfold FW at h
 rw [h, tks_walk ha hlt hc]
 intro hx
 refine hx (60, (p[(tw p k).i + 1]?).getD 0, (tw p k).now) (List.mem_append_left _ ?_) rfl l hl hw
 rw [if_pos (by decide)]
 exact List.mem_singleton.2 rfl
theorem FW.done {E : List (UInt8 × UInt8)} {p : List UInt8} {k : Nat} (hlt : ¬ (tw p k).i < p.length) (h : FW E p k) : ∀ x ∈ tks [] p, FP E x := by
 unfold FW at h
 rw [h, List.drop_eq_nil_of_le (by omega)]
 intro x hx
 simp [tks] at hx
end Go.Proofs.Ytdgkpkdinfklaab

namespace Go.Proofs.Ytdgkpkdinfklaab
theorem prs_append_two (l m : List UInt8) (n : Nat) (h : l.length = 2 * n) : prs (l ++ m) = prs l ++ prs m := by
 induction n generalizing l with
 | zero =>
  have : l = [] := List.length_eq_zero_iff.1 (by omega)
  subst this; rfl
 | succ n ih =>
  match l, h with
  | a :: b :: l, h =>
   simp only [List.length_cons] at h
   show (a, b) :: prs (l ++ m) = (a, b) :: prs l ++ prs m
   rw [ih l (by omega)]; rfl
theorem ordI_even (mks : List MK) (i : Nat) : ∀ k, ∃ n, (ordI mks i k).length = 2 * n := by
 intro k
 induction k with
 | zero => exact ⟨0, rfl⟩
 | succ k ih =>
  obtain ⟨n, hn⟩ := ih
  rw [ordI, List.length_append]
  split
  ·exact ⟨n + 1, by simp; omega⟩
  ·exact ⟨n, by simp; omega⟩
theorem ordL_even (mks : List MK) : ∀ i, ∃ n, (ordL mks i).length = 2 * n := by
 intro i
 induction i with
 | zero => exact ⟨0, rfl⟩
 | succ i ih =>
  obtain ⟨n, hn⟩ := ih
  obtain ⟨m, hm⟩ := ordI_even mks i 5
  rw [ordL, List.length_append]
  exact ⟨n + m, by omega⟩
theorem ordI_prs (mks : List MK) (i : Nat) : ∀ k (e : UInt8 × UInt8), e ∈ prs (ordI mks i k) ↔ ∃ j, j < k ∧ edgeN mks i j = true ∧ e = (UInt8.ofNat (65 + i), UInt8.ofNat (65 + j)) := by
 intro k
 induction k with
 | zero => intro e; simp [ordI, prs]
 | succ k ih =>
  intro e
  obtain ⟨n, hn⟩ := ordI_even mks i k
  rw [ordI, prs_append_two _ _ n hn, List.mem_append, ih e]
  constructor
  ·rintro (⟨j, h1, h2⟩ | h)
   ·exact ⟨j, by omega, h2⟩
   ·split at h
    ·rename_i he
     exact ⟨k, by omega, he, by simpa [prs] using h⟩
    ·cases h
  ·rintro ⟨j, h1, h2, h3⟩
   by_cases hj : j = k
   ·subst hj
    right
    rw [if_pos h2, h3]; simp [prs]
   ·exact .inl ⟨j, by omega, h2, h3⟩
theorem ordL_prs (mks : List MK) : ∀ i (e : UInt8 × UInt8), e ∈ prs (ordL mks i) ↔ ∃ n j, n < i ∧ j < 5 ∧ edgeN mks n j = true ∧ e = (UInt8.ofNat (65 + n), UInt8.ofNat (65 + j)) := by
 intro i
 induction i with
 | zero => intro e; simp [ordL, prs]
 | succ i ih =>
  intro e
  obtain ⟨n, hn⟩ := ordL_even mks i
  rw [ordL, prs_append_two _ _ n hn, List.mem_append, ih e, ordI_prs]
  constructor
  ·rintro (⟨a, j, h1, h2, h3⟩ | ⟨j, h1, h2⟩)
   ·exact ⟨a, j, by omega, h2, h3⟩
   ·exact ⟨i, j, by omega, h1, h2⟩
  ·rintro ⟨a, j, h1, h2, h3⟩
   by_cases ha : a = i
   ·subst ha; exact .inr ⟨j, h2, h3⟩
   ·exact .inl ⟨a, j, by omega, h2, h3⟩
theorem lock_num {a : UInt8} (h : inU [65, 66, 67, 68, 69] a = true) : ∃ n, n < 5 ∧ a = UInt8.ofNat (65 + n) := by
 rw [inU_mem] at h
 simp only [List.mem_cons, List.not_mem_nil, or_false] at h
 rcases h with rfl | rfl | rfl | rfl | rfl
 ·exact ⟨0, by omega, rfl⟩
 ·exact ⟨1, by omega, rfl⟩
 ·exact ⟨2, by omega, rfl⟩
 ·exact ⟨3, by omega, rfl⟩
 ·exact ⟨4, by omega, rfl⟩
theorem edges_iff {p : List UInt8} {mks : List MK} (ha : Acc p mks) (h : ∀ a ∈ splitBar p, TD [] [] a) (a b : UInt8) : (a, b) ∈ prs (ordL mks 5) ↔ edgeT (TKp p) a b := by
 have key : ∀ n j, n < 5 → (edgeN mks n j = true ↔ edgeT (TKp p) (UInt8.ofNat (65 + n)) (UInt8.ofNat (65 + j))) := by
  intro n j hn
  rw [← edge_iff ha (abcde n hn).2.1, edgeN, List.any_eq_true]
  constructor
  ·rintro ⟨m, hm, he⟩
   simp only [edgeB, Bool.and_eq_true, beq_iff_eq] at he
   exact ⟨m, hm, he.1, he.2.1, he.2.2⟩
  ·rintro ⟨m, hm, h1, h2, h3⟩
   refine ⟨m, hm, ?_⟩
   simp only [edgeB, Bool.and_eq_true, beq_iff_eq]
   exact ⟨h1, h2, h3⟩
 rw [ordL_prs]
 constructor
 ·rintro ⟨n, j, hn, hj, he, e⟩
  obtain ⟨rfl, rfl⟩ := Prod.mk.inj e
  exact (key n j hn).1 he
 ·intro he
  obtain ⟨c, H, hx, hk⟩ := he
  have := tks_locks h (c, b, H) hx
  obtain ⟨n, hn, rfl⟩ := lock_num (this.2 a hk)
  obtain ⟨j, hj, rfl⟩ := lock_num this.1
  exact ⟨n, j, hn, hj, (key n j hn).2 ⟨c, H, hx, hk⟩, rfl⟩
theorem fairT_iff {p : List UInt8} {mks : List MK} (ha : Acc p mks) (h : ∀ a ∈ splitBar p, TD [] [] a) : (∀ x ∈ tks [] p, FP (prs (ordL mks 5)) x) ↔ FairT (TKp p) := by
 have hw := wayE_iff (edges_iff ha h)
 constructor
 ·intro hx v H hm k hk hw'
  exact hx (60, v, H) hm rfl k hk ((hw v k).2 hw')
 ·rintro hf ⟨c, v, H⟩ hx hc l hl hw'
  simp only at hc hl hw'
  subst hc
  exact hf v H hx l hl ((hw v l).1 hw')
end Go.Proofs.Ytdgkpkdinfklaab
