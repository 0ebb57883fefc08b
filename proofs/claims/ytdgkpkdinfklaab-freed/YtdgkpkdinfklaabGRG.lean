import Derived.Test.YtdgkpkdinfklaabGMD
namespace Go.Proofs.Ytdgkpkdinfklaab
def tks : List UInt8 → List UInt8 → List (UInt8 × UInt8 × List UInt8)
 | _, [] => []
 | _, [_] => []
 | now, c :: v :: s =>
  if c = 91 ∨ c = 60 then (c, v, now) :: tks (now ++ [v]) s
  else if c = 103 ∨ c = 112 ∨ c = 105 then tks now s
  else if c = 93 ∨ c = 62 then tks now.dropLast (v :: s)
  else tks now (v :: s)
theorem tks_two {now : List UInt8} {c v : UInt8} {s : List UInt8} (h : c = 103 ∨ c = 112 ∨ c = 105) : tks now (c :: v :: s) = tks now s := by
 rw [tks, if_neg (by rcases h with rfl | rfl | rfl <;> decide), if_pos h]
theorem tks_take {now : List UInt8} {c v : UInt8} {s : List UInt8} (h : c = 91 ∨ c = 60) : tks now (c :: v :: s) = (c, v, now) :: tks (now ++ [v]) s := by rw [tks, if_pos h]
theorem tks_give {now : List UInt8} {c : UInt8} {s : List UInt8} (h : c = 93 ∨ c = 62) : tks now (c :: s) = tks now.dropLast s := by
 cases s with
 | nil => rfl
 | cons v s => rw [tks, if_neg (by rcases h with rfl | rfl <;> decide), if_neg (by rcases h with rfl | rfl <;> decide), if_pos h]
theorem tks_skip {now : List UInt8} {c : UInt8} {s : List UInt8} (h : sizeU c = 1) (h1 : c ≠ 93) (h2 : c ≠ 62) : tks now (c :: s) = tks now s := by
 cases s with
 | nil => rfl
 | cons v s =>
  have n1 : ¬ (c = 91 ∨ c = 60) := by rintro (rfl | rfl) <;> exact absurd h (by decide)
  have n2 : ¬ (c = 103 ∨ c = 112 ∨ c = 105) := by rintro (rfl | rfl | rfl) <;> exact absurd h (by decide)
  rw [tks, if_neg n1, if_neg n2, if_neg (by simp [h1, h2])]
theorem tks_test {l : List UInt8} {c : UInt8} {t : List UInt8} (hc : c = 63 ∨ c = 33 ∨ c = 123 ∨ c = 125 ∨ c = 111) : tks l (c :: t) = tks l t :=
 tks_skip (by rcases hc with rfl | rfl | rfl | rfl | rfl <;> decide) (by rcases hc with rfl | rfl | rfl | rfl | rfl <;> decide) (by rcases hc with rfl | rfl | rfl | rfl | rfl <;> decide)
theorem tks_cat {X J a : List UInt8} (h : TD X J a) : ∀ (base s : List UInt8), tks (base ++ J.reverse) (a ++ s) = tks (base ++ J.reverse) a ++ tks base s := by
 induction h with
 | nil X => intro base s; simp [tks]
 | acc c v hc hv _ ih => intro base s; rw [List.cons_append, List.cons_append, tks_two (by rcases hc with h | h <;> simp [h]), tks_two (by rcases hc with h | h <;> simp [h]), ih]
 | add d hd _ ih => intro base s; rw [List.cons_append, List.cons_append, tks_two (by simp), tks_two (by simp), ih]
 | out _ ih => intro base s; rw [List.cons_append, tks_test (by simp), tks_test (by simp), ih]
 | take c l hc hl hn _ ih =>
  intro base s
  have := ih base s
  rw [List.reverse_cons, ← List.append_assoc] at this
  rw [List.cons_append, List.cons_append, tks_take hc, tks_take hc, this, List.cons_append]
 | give c l hc _ ih =>
  intro base s
  rw [List.cons_append, tks_give hc, tks_give hc, List.reverse_cons, ← List.append_assoc, List.dropLast_concat]
  exact ih base s
 | @branch H K a b s' ha hb hs iha ihb ihs =>
  intro base s
  have ea := fun t => iha (base ++ K.reverse) t
  have eb := fun t => ihb (base ++ K.reverse) t
  simp only [List.reverse_nil, List.append_nil] at ea eb
  simp only [List.cons_append, List.append_assoc]
  rw [tks_test (c := 63) (by simp), tks_test (c := 123) (by simp), ea, tks_test (c := 125) (by simp), tks_test (c := 123) (by simp), eb, tks_test (c := 125) (by simp), ihs, tks_test (c := 63) (by simp), tks_test (c := 123) (by simp), ea, tks_test (c := 125) (by simp), tks_test (c := 123) (by simp), eb, tks_test (c := 125) (by simp)]
  simp [List.append_assoc]
 | @loop H K a s' hm ha hs iha ihs =>
  intro base s
  have ea := fun t => iha (base ++ K.reverse) t
  simp only [List.reverse_nil, List.append_nil] at ea
  simp only [List.cons_append, List.append_assoc]
  rw [tks_test (c := 33) (by simp), tks_test (c := 123) (by simp), ea, tks_test (c := 125) (by simp), ihs, tks_test (c := 33) (by simp), tks_test (c := 123) (by simp), ea, tks_test (c := 125) (by simp)]
  simp [List.append_assoc]
theorem tks_body {X a : List UInt8} (h : TD X [] a) (l s : List UInt8) : tks l (a ++ s) = tks l a ++ tks l s := by
 have := tks_cat h l s
 simpa using this
structure LI (TK : UInt8 × UInt8 × List UInt8 → Prop) (P : PS) : Prop where
 ok : ∃ N, P.Ok N
 ts : ∀ (t : Nat) (s h : List UInt8), P.todo[t]? = some s → P.held[t]? = some h → ∀ x ∈ tks h s, TK x
 me : ∀ (t t' : Nat) (h h' : List UInt8) (l : UInt8), P.held[t]? = some h → P.held[t']? = some h' → l ∈ h → l ∈ h' → t = t'
theorem LI.step {TK : UInt8 × UInt8 × List UInt8 → Prop} {P Q : PS} (h : LI TK P) {t : Nat} {s l s' l' : List UInt8} (hs : P.todo[t]? = some s) (hl : P.held[t]? = some l) (e1 : Q.todo = P.todo.set t s') (e2 : Q.held = P.held.set t l') (hok : ∃ N, Q.Ok N)
  (hsub : ∀ x ∈ tks l' s', x ∈ tks l s) (hnew : ∀ v ∈ l', v ∈ l ∨ ∀ (k : Nat) (w : List UInt8), P.held[k]? = some w → v ∉ w) : LI TK Q := by
 refine ⟨hok, ?_, ?_⟩
 ·intro k u w hu hw x hx
  rw [e1] at hu
  rw [e2] at hw
  rcases set_get hu with ⟨rfl, rfl, _⟩ | ⟨hk, hu'⟩
  ·rcases set_get hw with ⟨_, rfl, _⟩ | ⟨hk, _⟩
   ·exact h.ts _ s l hs hl x (hsub x hx)
   ·exact absurd rfl hk
  ·rcases set_get hw with ⟨e, _, _⟩ | ⟨_, hw'⟩
   ·exact absurd e hk
   ·exact h.ts k u w hu' hw' x hx
 ·intro k k' w w' x hw hw' hx hx'
  rw [e2] at hw hw'
  rcases set_get hw with ⟨rfl, rfl, _⟩ | ⟨hk, g⟩
  ·rcases set_get hw' with ⟨rfl, _, _⟩ | ⟨hk', g'⟩
   ·rfl
   ·rcases hnew x hx with hx | hx
    ·exact h.me _ _ _ _ x hl g' hx hx'
    ·exact absurd hx' (hx _ _ g')
  ·rcases set_get hw' with ⟨rfl, rfl, _⟩ | ⟨hk', g'⟩
   ·rcases hnew x hx' with hx' | hx'
    ·exact h.me _ _ _ _ x g hl hx hx'
    ·exact absurd hx (hx' _ _ g)
   ·exact h.me _ _ _ _ x g g' hx hx'
theorem LI.pick {TK : UInt8 × UInt8 × List UInt8 → Prop} {P : PS} (h : LI TK P) (n : Int) (x : UInt8) : LI TK (P.pick n x).1 := by
 rcases pick_two P n x with e | ⟨i, s, hef⟩
 ·rw [e]; exact h
 ·obtain ⟨N, hq⟩ := h.ok
  obtain ⟨l, r0, hat, htd, e, okQ⟩ := hef.pick hq n
  obtain ⟨hx, hs, hne, hw⟩ := hef
  have qh : P.held.set i l = P.held := set_same hat.l
  rw [e] at okQ ⊢
  have keep : ∀ v ∈ l, v ∈ l ∨ ∀ (k : Nat) (w : List UInt8), P.held[k]? = some w → v ∉ w := fun v hv => .inl hv
  have sh := sh_of hne htd
  cases sh with
  | get v r hv hr =>
   rw [doesP_get hat] at okQ ⊢
   exact h.step hs hat.l rfl qh.symm okQ (fun y hy => by rw [tks_two (by simp)]; exact hy) keep
  | put v r hv hr =>
   rw [doesP_put hat] at okQ ⊢
   exact h.step hs hat.l rfl qh.symm okQ (fun y hy => by rw [tks_two (by simp)]; exact hy) keep
  | add v r hv hr =>
   rw [doesP_add hat] at okQ ⊢
   exact h.step hs hat.l rfl qh.symm okQ (fun y hy => by rw [tks_two (by simp)]; exact hy) keep
  | out r hr =>
   rw [doesP_out hat] at okQ ⊢
   exact h.step hs hat.l rfl qh.symm okQ (fun y hy => by rw [tks_test (by simp)]; exact hy) keep
  | opens v r hv hnv hr =>
   rw [doesP_opens hat] at okQ ⊢
   refine h.step hs hat.l rfl rfl okQ (fun y hy => by rw [tks_take (.inl rfl)]; exact List.mem_cons_of_mem _ hy) (fun u hu => ?_)
   rw [List.mem_append, List.mem_singleton] at hu
   rcases hu with hu | rfl
   ·exact .inl hu
   ·exact .inr (holder_free (by simpa [waitsL] using hw))
  | mended v r hv hnv hr =>
   rw [doesP_mended hat] at okQ ⊢
   refine h.step hs hat.l rfl rfl okQ (fun y hy => by rw [tks_take (.inr rfl)]; exact List.mem_cons_of_mem _ hy) (fun u hu => ?_)
   rw [List.mem_append, List.mem_singleton] at hu
   rcases hu with hu | rfl
   ·exact .inl hu
   ·exact .inr (holder_free (by simpa [waitsL] using hw))
  | shut v m r em hr =>
   subst em
   rw [doesP_shut hat] at okQ ⊢
   exact h.step hs hat.l rfl rfl okQ (fun y hy => by rw [tks_give (.inl rfl), List.dropLast_concat]; exact hy) (fun u hu => .inl (List.mem_append_left _ hu))
  | mend v m r em hr =>
   subst em
   rw [doesP_mend hat] at okQ ⊢
   exact h.step hs hat.l rfl rfl okQ (fun y hy => by rw [tks_give (.inr rfl), List.dropLast_concat]; exact hy) (fun u hu => .inl (List.mem_append_left _ hu))
  | branch a b r hta htb hr =>
   rw [doesP_test (.inl rfl) hat, testP_branch hta htb] at okQ ⊢
   refine h.step hs hat.l rfl qh.symm okQ (fun y hy => ?_) keep
   rw [tks_test (c := 63) (by simp), tks_test (c := 123) (by simp), tks_body hta, tks_test (c := 125) (by simp), tks_test (c := 123) (by simp), tks_body htb, tks_test (c := 125) (by simp)]
   split at hy
   ·rw [tks_body hta] at hy
    rcases List.mem_append.1 hy with hy | hy
    ·exact List.mem_append_left _ hy
    ·exact List.mem_append_right _ (List.mem_append_right _ hy)
   ·rw [tks_body htb] at hy
    exact List.mem_append_right _ hy
  | loop a r hm hta hr =>
   rw [doesP_test (.inr rfl) hat, testP_loop hta] at okQ ⊢
   refine h.step hs hat.l rfl qh.symm okQ (fun y hy => ?_) keep
   have el : tks l (33 :: 123 :: (a ++ 125 :: r)) = tks l a ++ tks l r := by
    rw [tks_test (c := 33) (by simp), tks_test (c := 123) (by simp), tks_body hta, tks_test (c := 125) (by simp)]
   rw [el]
   split at hy
   ·rw [tks_body hta, el] at hy
    rcases List.mem_append.1 hy with hy | hy
    ·exact List.mem_append_left _ hy
    ·exact hy
   ·exact List.mem_append_right _ hy
theorem LI.run {TK : UInt8 × UInt8 × List UInt8 → Prop} {P : PS} (h : LI TK P) (q : List UInt8) : ∀ k, LI TK (P.upK q k) := by
 intro k
 induction k with
 | zero => exact h
 | succ k ih =>
  rw [PS.upK]
  cases q[k]? with
  | none => exact ih
  | some c => exact ih.pick _ c
theorem LI.start {TK : UInt8 × UInt8 × List UInt8 → Prop} {p : List UInt8} (h4 : (splitBar p).length ≤ 4) (htd : ∀ a ∈ splitBar p, TD [] [] a) (hT : ∀ a ∈ splitBar p, ∀ x ∈ tks [] a, TK x) : LI TK (PS.start p) := by
 have hh : ∀ (t : Nat) (h : List UInt8), (PS.start p).held[t]? = some h → h = [] := by
  intro t h hh
  have hh' : ((splitBar p).map fun _ => ([] : List UInt8))[t]? = some h := hh
  rw [List.getElem?_map] at hh'
  cases hs : (splitBar p)[t]? with
  | none => rw [hs] at hh'; cases hh'
  | some y => rw [hs] at hh'; exact (Option.some.inj hh').symm
 refine ⟨start_fit h4 htd, ?_, ?_⟩
 ·intro t s h hs hl x hx
  rw [hh t h hl] at hx
  have hs' : (splitBar p)[t]? = some s := hs
  exact hT s (List.mem_of_getElem? hs') x hx
 ·intro t t' h h' l h1 _ h3 _; rw [hh t h h1] at h3; cases h3
end Go.Proofs.Ytdgkpkdinfklaab

namespace Go.Proofs.Ytdgkpkdinfklaab
def edgeT (TK : UInt8 × UInt8 × List UInt8 → Prop) (k v : UInt8) : Prop := ∃ c H, TK (c, v, H) ∧ k ∈ H
inductive Way (TK : UInt8 × UInt8 × List UInt8 → Prop) : UInt8 → UInt8 → Prop
 | one {a b : UInt8} : edgeT TK a b → Way TK a b
 | more {a b c : UInt8} : Way TK a b → edgeT TK b c → Way TK a c
def FairT (TK : UInt8 × UInt8 × List UInt8 → Prop) : Prop := ∀ v H, TK (60, v, H) → ∀ k ∈ H, ¬ Way TK v k
def nxtW (P : PS) (a : Nat) : Nat := (P.waits a).toNat
def itW (P : PS) (a : Nat) : Nat → Nat
 | 0 => a
 | n + 1 => nxtW P (itW P a n)
theorem itW_add (P : PS) (a m : Nat) : ∀ n, itW P a (m + n) = itW P (itW P a m) n := by
 intro n
 induction n with
 | zero => rfl
 | succ n ih => rw [← Nat.add_assoc, itW, itW, ih]
theorem waits_form {P : PS} {a : Nat} (h : 0 ≤ P.waits a) : ∃ c v s w, (c = 91 ∨ c = 60) ∧ P.todo[a]? = some (c :: v :: s) ∧ P.held[nxtW P a]? = some w ∧ v ∈ w := by
 unfold nxtW
 have hw : P.waits a = waitsL P.held (P.todo.getD a []) := rfl
 cases ht : P.todo[a]? with
 | none =>
  rw [hw, List.getD_eq_getElem?_getD, ht] at h
  simp [waitsL] at h
 | some s =>
  have hs : P.todo.getD a [] = s := by rw [List.getD_eq_getElem?_getD, ht]; rfl
  rw [hs] at hw
  rw [hw] at h ⊢
  match s with
  | [] => simp [waitsL] at h
  | [c] => simp [waitsL] at h
  | c :: v :: r =>
   rw [waitsL] at h ⊢
   by_cases hc : c = 91 ∨ c = 60
   ·rw [if_pos hc] at h ⊢
    unfold holderP at h ⊢
    cases hf : P.held.findIdx? (fun h => inU h v) with
    | none => rw [hf] at h; simp at h
    | some t =>
     simp only
     rw [List.findIdx?_eq_some_iff_getElem] at hf
     obtain ⟨hlt, hin, _⟩ := hf
     refine ⟨c, v, r, P.held[t], hc, rfl, ?_, inU_mem.1 hin⟩
     rw [Int.toNat_natCast]; exact List.getElem?_eq_getElem hlt
   ·rw [if_neg hc] at h
    exact absurd h (by decide)
structure Ring (P : PS) (S : Nat → Prop) : Prop where
 cl : ∀ a, S a → a < P.todo.length ∧ 0 ≤ P.waits a ∧ S (nxtW P a)
theorem Ring.it {P : PS} {S : Nat → Prop} (h : Ring P S) {a : Nat} (ha : S a) : ∀ n, S (itW P a n) := by
 intro n
 induction n with
 | zero => exact ha
 | succ n ih => exact (h.cl _ ih).2.2
theorem Ring.round {P : PS} {S : Nat → Prop} (h : Ring P S) (h4 : P.todo.length ≤ 4) {a : Nat} (ha : S a) : ∃ c d, S c ∧ 1 ≤ d ∧ itW P c d = c := by
 have hb : ∀ n, itW P a n < 4 := fun n => Nat.lt_of_lt_of_le (h.cl _ (h.it ha n)).1 h4
 have pig : ∃ m n, m < n ∧ itW P a m = itW P a n := by
  have b0 := hb 0
  have b1 := hb 1
  have b2 := hb 2
  have b3 := hb 3
  have b4 := hb 4
  generalize itW P a 0 = x0 at b0
  by_cases e01 : itW P a 0 = itW P a 1
  ·exact ⟨0, 1, by omega, e01⟩
  by_cases e02 : itW P a 0 = itW P a 2
  ·exact ⟨0, 2, by omega, e02⟩
  by_cases e03 : itW P a 0 = itW P a 3
  ·exact ⟨0, 3, by omega, e03⟩
  by_cases e04 : itW P a 0 = itW P a 4
  ·exact ⟨0, 4, by omega, e04⟩
  by_cases e12 : itW P a 1 = itW P a 2
  ·exact ⟨1, 2, by omega, e12⟩
  by_cases e13 : itW P a 1 = itW P a 3
  ·exact ⟨1, 3, by omega, e13⟩
  by_cases e14 : itW P a 1 = itW P a 4
  ·exact ⟨1, 4, by omega, e14⟩
  by_cases e23 : itW P a 2 = itW P a 3
  ·exact ⟨2, 3, by omega, e23⟩
  by_cases e24 : itW P a 2 = itW P a 4
  ·exact ⟨2, 4, by omega, e24⟩
  by_cases e34 : itW P a 3 = itW P a 4
  ·exact ⟨3, 4, by omega, e34⟩
  exfalso
  have c0 := hb 0
  omega
 obtain ⟨m, n, hmn, e⟩ := pig
 refine ⟨itW P a m, n - m, h.it ha m, by omega, ?_⟩
 rw [← itW_add, show m + (n - m) = n by omega]; exact e.symm
def lkW (P : PS) (a : Nat) : UInt8 := (P.todo.getD a []).getD 1 0
theorem lkW_of {P : PS} {a : Nat} {c v : UInt8} {s : List UInt8} (h : P.todo[a]? = some (c :: v :: s)) : lkW P a = v := by
 unfold lkW
 rw [List.getD_eq_getElem?_getD (l := P.todo), h]; rfl
theorem LI.edge {TK : UInt8 × UInt8 × List UInt8 → Prop} {P : PS} (h : LI TK P) {a : Nat} (h1 : 0 ≤ P.waits a) (h2 : 0 ≤ P.waits (nxtW P a)) : edgeT TK (lkW P a) (lkW P (nxtW P a)) := by
 obtain ⟨c, v, s, w, _, ht, hw, hv⟩ := waits_form h1
 obtain ⟨c', v', s', w', hc', ht', _, _⟩ := waits_form h2
 rw [lkW_of ht, lkW_of ht']
 exact ⟨c', w, h.ts _ _ _ ht' hw _ (by rw [tks_take hc']; exact List.mem_cons_self), hv⟩
theorem LI.way {TK : UInt8 × UInt8 × List UInt8 → Prop} {P : PS} (h : LI TK P) {S : Nat → Prop} (hr : Ring P S) {a : Nat} (ha : S a) : ∀ n, Way TK (lkW P a) (lkW P (itW P a (n + 1))) := by
 intro n
 induction n with
 | zero => exact .one (h.edge (hr.cl _ ha).2.1 (hr.cl _ (hr.it ha 1)).2.1)
 | succ n ih => exact .more ih (h.edge (hr.cl _ (hr.it ha (n + 1))).2.1 (hr.cl _ (hr.it ha (n + 2))).2.1)
theorem LI.plainRing {TK : UInt8 × UInt8 × List UInt8 → Prop} {P : PS} (h : LI TK P) (hf : FairT TK) {S : Nat → Prop} (hr : Ring P S) {a d : Nat} (ha : S a) (hd : 1 ≤ d) (e : itW P a d = a) : ∃ v s, P.todo[a]? = some (91 :: v :: s) := by
 obtain ⟨c, v, s, w, hc, ht, _, _⟩ := waits_form (hr.cl _ ha).2.1
 rcases hc with rfl | rfl
 ·exact ⟨v, s, ht⟩
 ·exfalso
  -- who waits for this thread
  have hb := hr.it ha (d - 1)
  obtain ⟨c', v', s', w', _, ht', hw', hv'⟩ := waits_form (hr.cl _ hb).2.1
  have eb : nxtW P (itW P a (d - 1)) = a := by
   have : itW P a (d - 1 + 1) = nxtW P (itW P a (d - 1)) := rfl
   rw [← this, show d - 1 + 1 = d by omega]; exact e
  rw [eb] at hw'
  have htk : TK (60, v, w') := h.ts _ _ _ ht hw' _ (by rw [tks_take (.inr rfl)]; exact List.mem_cons_self)
  refine hf v w' htk v' hv' ?_
  have ea : lkW P a = v := lkW_of ht
  have eb' : lkW P (itW P a (d - 1)) = v' := lkW_of ht'
  rw [← ea, ← eb']
  by_cases h1 : d = 1
  ·subst h1
   have := h.way hr ha 0
   rw [show itW P a (0 + 1) = itW P a 1 from rfl, e] at this
   exact this
  ·have := h.way hr ha (d - 2)
   rw [show d - 2 + 1 = d - 1 by omega] at this
   exact this
def Cyc (P : PS) (S : Nat → Prop) (a : Nat) : Prop := S a ∧ ∃ d, 1 ≤ d ∧ itW P a d = a
theorem itW_one (P : PS) (a n : Nat) : itW P (nxtW P a) n = nxtW P (itW P a n) := by
 have h1 := itW_add P a 1 n
 have h2 : itW P a (1 + n) = itW P a (n + 1) := by rw [Nat.add_comm]
 have h3 : itW P a 1 = nxtW P a := rfl
 rw [← h3, ← h1, h2]; rfl
theorem Cyc.next {P : PS} {S : Nat → Prop} (hr : Ring P S) {a : Nat} (h : Cyc P S a) : Cyc P S (nxtW P a) := by
 obtain ⟨ha, d, hd, e⟩ := h
 exact ⟨(hr.cl _ ha).2.2, d, hd, by rw [itW_one, e]⟩
theorem kept_stuck {TK : UInt8 × UInt8 × List UInt8 → Prop} {Q P : PS} (h : LI TK Q) (hf : FairT TK) (hp : PRel Q P) {i : Nat} (hs : StuckP Q i) : ∃ j, StuckP P j := by
 obtain ⟨hi, S, hSi, hcl⟩ := hs
 have hr : Ring Q S := ⟨hcl⟩
 obtain ⟨N, hq⟩ := h.ok
 obtain ⟨M, hpo⟩ := hp.okp
 obtain ⟨c, d, hc, hd, e⟩ := hr.round hq.n4 hSi
 have hcy : Cyc Q S c := ⟨hc, d, hd, e⟩
 have same : ∀ a, Cyc Q S a → a < P.todo.length ∧ P.waits a = (nxtW Q a : Int) := by
  intro a ha
  obtain ⟨v, s, ht⟩ := h.plainRing hf hr ha.1 ha.2.choose_spec.1 ha.2.choose_spec.2
  have hlt := (hr.cl _ ha.1).1
  refine ⟨by rw [← hp.len]; exact hlt, ?_⟩
  -- this thread, in both
  have hah : a < Q.held.length := by rw [hq.nh]; exact hlt
  obtain ⟨s', h', g1, g2, g3⟩ := hp.th a _ _ ht (List.getElem?_eq_getElem hah)
  obtain ⟨s'', hs''⟩ : ∃ s'', s' = 91 :: v :: s'' := by
   generalize hw : Q.held[a] = w at g3
   cases g3 with
   | whole hmd =>
    cases msh_of (by simp) hmd with
    | opens _ _ hv _ _ => exact ⟨stp s, stp_two (by decide) (lck_keep hv) s⟩
   | mid l c u hc _ _ => rcases hc with hc | hc <;> cases hc
  -- the one that has the lock
  have hn := ha.next hr
  obtain ⟨v2, s2, ht2⟩ := h.plainRing hf hr hn.1 hn.2.choose_spec.1 hn.2.choose_spec.2
  obtain ⟨c0, v0, s0, w, _, ht0, hw, hv⟩ := waits_form (hr.cl _ ha.1).2.1
  rw [ht] at ht0
  cases ht0
  obtain ⟨t', w', k1, k2, k3⟩ := hp.th _ _ _ ht2 hw
  have hww : w' = w := by
   cases k3 with
   | whole _ => rfl
   | mid l c u hc _ _ => rcases hc with hc | hc <;> cases hc
  subst hww
  have hwt : P.waits a = holderP P.held v := by
   have : P.waits a = waitsL P.held (P.todo.getD a []) := rfl
   rw [this, List.getD_eq_getElem?_getD, g1, hs'']
   simp [waitsL]
  rw [hwt]
  unfold holderP
  have hsome : ∃ t, P.held.findIdx? (fun h => inU h v) = some t := by
   cases hfi : P.held.findIdx? (fun h => inU h v) with
   | some t => exact ⟨t, rfl⟩
   | none =>
    rw [List.findIdx?_eq_none_iff] at hfi
    have := hfi _ (List.mem_of_getElem? k2)
    rw [inU_mem.2 hv] at this
    cases this
  obtain ⟨t, hfi⟩ := hsome
  rw [hfi]
  rw [List.findIdx?_eq_some_iff_getElem] at hfi
  obtain ⟨htl, hin, _⟩ := hfi
  have htq : t < Q.todo.length := by rw [hp.len, ← hpo.nh]; exact htl
  have hth : t < Q.held.length := by rw [hq.nh]; exact htq
  obtain ⟨z, z', q1, q2, q3⟩ := hp.th t _ _ (List.getElem?_eq_getElem htq) (List.getElem?_eq_getElem hth)
  rw [List.getElem?_eq_getElem htl] at q2
  cases q2
  have hmem := q3.sub v (inU_mem.1 hin)
  have := h.me _ _ _ _ v (List.getElem?_eq_getElem hth) hw hmem hv
  simp only
  rw [this]
 refine ⟨c, (same c hcy).1, Cyc Q S, hcy, fun a ha => ?_⟩
 obtain ⟨h1, h2⟩ := same a ha
 refine ⟨h1, by rw [h2]; omega, ?_⟩
 rw [h2, Int.toNat_natCast]; exact ha.next hr
theorem order_free {TK : UInt8 × UInt8 × List UInt8 → Prop} {P : PS} (h : LI TK P) (ho : ∀ c v H, TK (c, v, H) → ∀ k ∈ H, k.toNat < v.toNat) (i : Nat) : ¬ StuckP P i := by
 rintro ⟨hi, S, hSi, hcl⟩
 have hr : Ring P S := ⟨hcl⟩
 obtain ⟨N, hq⟩ := h.ok
 obtain ⟨c, d, hc, hd, e⟩ := hr.round hq.n4 hSi
 have up : ∀ a b, Way TK a b → a.toNat < b.toNat := by
  intro a b hw
  induction hw with
  | one he => obtain ⟨c, H, h1, h2⟩ := he; exact ho c _ H h1 _ h2
  | more _ he ih => obtain ⟨c, H, h1, h2⟩ := he; have := ho c _ H h1 _ h2; omega
 have := up _ _ (h.way hr hc (d - 1))
 rw [show d - 1 + 1 = d by omega, e] at this
 omega
end Go.Proofs.Ytdgkpkdinfklaab
