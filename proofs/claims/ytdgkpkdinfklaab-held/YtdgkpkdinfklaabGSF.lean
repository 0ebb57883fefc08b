import Derived.Test.YtdgkpkdinfklaabGI
import Derived.Test.YtdgkpkdinfklaabGTA
import Derived.Test.YtdgkpkdinfklaabGV
namespace Go.Proofs.Ytdgkpkdinfklaab
def acs : Int → List UInt8 → List UInt8 → List (Int × UInt8 × UInt8 × List UInt8)
 | _, _, [] => []
 | _, _, [_] => []
 | th, now, c :: v :: s =>
  if c = 103 ∨ c = 112 then (th, c, v, now) :: acs th now s
  else if c = 105 then acs th now s
  else if c = 91 ∨ c = 60 then acs th (now ++ [v]) s
  else if c = 93 ∨ c = 62 then acs th now.dropLast (v :: s)
  else if c = 124 then acs (th + 1) now (v :: s)
  else acs th now (v :: s)
theorem acs_acc {th : Int} {now : List UInt8} {c v : UInt8} {s : List UInt8} (h : c = 103 ∨ c = 112) : acs th now (c :: v :: s) = (th, c, v, now) :: acs th now s := by rw [acs, if_pos h]
theorem acs_add {th : Int} {now : List UInt8} {v : UInt8} {s : List UInt8} : acs th now (105 :: v :: s) = acs th now s := by rw [acs, if_neg (by decide), if_pos rfl]
theorem acs_take {th : Int} {now : List UInt8} {c v : UInt8} {s : List UInt8} (h : c = 91 ∨ c = 60) : acs th now (c :: v :: s) = acs th (now ++ [v]) s := by
 rw [acs, if_neg (by rcases h with rfl | rfl <;> decide), if_neg (by rcases h with rfl | rfl <;> decide), if_pos h]
theorem acs_give {th : Int} {now : List UInt8} {c : UInt8} {s : List UInt8} (h : c = 93 ∨ c = 62) : acs th now (c :: s) = acs th now.dropLast s := by
 cases s with
 | nil => rfl
 | cons v s => rw [acs, if_neg (by rcases h with rfl | rfl <;> decide), if_neg (by rcases h with rfl | rfl <;> decide), if_neg (by rcases h with rfl | rfl <;> decide), if_pos h]
theorem acs_bar {th : Int} {now : List UInt8} {s : List UInt8} : acs th now (124 :: s) = acs (th + 1) now s := by
 cases s with
 | nil => rfl
 | cons v s => rw [acs, if_neg (by decide), if_neg (by decide), if_neg (by decide), if_neg (by decide), if_pos rfl]
theorem acs_skip {th : Int} {now : List UInt8} {c : UInt8} {s : List UInt8} (h : sizeU c = 1) (h1 : c ≠ 93) (h2 : c ≠ 62) (h3 : c ≠ 124) : acs th now (c :: s) = acs th now s := by
 cases s with
 | nil => rfl
 | cons v s =>
  have n1 : ¬ (c = 103 ∨ c = 112) := by rintro (rfl | rfl) <;> exact absurd h (by decide)
  have n2 : ¬ c = 105 := by rintro rfl; exact absurd h (by decide)
  have n3 : ¬ (c = 91 ∨ c = 60) := by rintro (rfl | rfl) <;> exact absurd h (by decide)
  rw [acs, if_neg n1, if_neg n2, if_neg n3, if_neg (by simp [h1, h2]), if_neg h3]
theorem acs_cat {X J a : List UInt8} (h : TD X J a) : ∀ (th : Int) (base s : List UInt8), acs th (base ++ J.reverse) (a ++ s) = acs th (base ++ J.reverse) a ++ acs th base s := by
 induction h with
 | nil X => intro th base s; simp [acs]
 | acc c v hc hv _ ih => intro th base s; rw [List.cons_append, List.cons_append, acs_acc hc, acs_acc hc, ih, List.cons_append]
 | add d hd _ ih => intro th base s; rw [List.cons_append, List.cons_append, acs_add, acs_add, ih]
 | out _ ih => intro th base s; rw [List.cons_append, acs_skip (by decide) (by decide) (by decide) (by decide), acs_skip (by decide) (by decide) (by decide) (by decide), ih]
 | take c l hc hl hn _ ih =>
  intro th base s
  have := ih th base s
  rw [List.reverse_cons, ← List.append_assoc] at this
  rw [List.cons_append, List.cons_append, acs_take hc, acs_take hc, this]
 | give c l hc _ ih =>
  intro th base s
  rw [List.cons_append, acs_give hc, acs_give hc, List.reverse_cons, ← List.append_assoc, List.dropLast_concat]
  exact ih th base s
 | @branch H K a b s' ha hb hs iha ihb ihs =>
  intro th base s
  have ea := fun t => iha th (base ++ K.reverse) t
  have eb := fun t => ihb th (base ++ K.reverse) t
  simp only [List.reverse_nil, List.append_nil] at ea eb
  have sk : ∀ (c : UInt8) (t : List UInt8), (c = 63 ∨ c = 123 ∨ c = 125) → acs th (base ++ K.reverse) (c :: t) = acs th (base ++ K.reverse) t := fun c t hc => acs_skip (by rcases hc with rfl | rfl | rfl <;> decide) (by rcases hc with rfl | rfl | rfl <;> decide) (by rcases hc with rfl | rfl | rfl <;> decide) (by rcases hc with rfl | rfl | rfl <;> decide)
  simp only [List.cons_append, List.append_assoc]
  rw [sk 63 _ (by simp), sk 123 _ (by simp), ea, sk 125 _ (by simp), sk 123 _ (by simp), eb, sk 125 _ (by simp), ihs, sk 63 _ (by simp), sk 123 _ (by simp), ea, sk 125 _ (by simp), sk 123 _ (by simp), eb, sk 125 _ (by simp)]
  simp [List.append_assoc]
 | @loop H K a s' hm ha hs iha ihs =>
  intro th base s
  have ea := fun t => iha th (base ++ K.reverse) t
  simp only [List.reverse_nil, List.append_nil] at ea
  have sk : ∀ (c : UInt8) (t : List UInt8), (c = 33 ∨ c = 123 ∨ c = 125) → acs th (base ++ K.reverse) (c :: t) = acs th (base ++ K.reverse) t := fun c t hc => acs_skip (by rcases hc with rfl | rfl | rfl <;> decide) (by rcases hc with rfl | rfl | rfl <;> decide) (by rcases hc with rfl | rfl | rfl <;> decide) (by rcases hc with rfl | rfl | rfl <;> decide)
  simp only [List.cons_append, List.append_assoc]
  rw [sk 33 _ (by simp), sk 123 _ (by simp), ea, sk 125 _ (by simp), ihs, sk 33 _ (by simp), sk 123 _ (by simp), ea, sk 125 _ (by simp)]
  simp [List.append_assoc]
theorem acs_split (p : List UInt8) (h : ∀ a ∈ splitBar p, TD [] [] a) : ∀ (th : Int) (t : Nat) (a : List UInt8), (splitBar p)[t]? = some a → ∀ x ∈ acs (th + t) [] a, x ∈ acs th [] p := by
 have key : ∀ n p, p.length ≤ n → (∀ a ∈ splitBar p, TD [] [] a) → ∀ (th : Int) (t : Nat) (a : List UInt8), (splitBar p)[t]? = some a → ∀ x ∈ acs (th + t) [] a, x ∈ acs th [] p := by
  intro n
  induction n with
  | zero =>
   intro p hp _ th t a ha x hx
   have : p = [] := List.eq_nil_of_length_eq_zero (by omega)
   subst this
   have hs : splitBar [] = [[]] := rfl
   rw [hs] at ha
   cases t with
   | zero => simp at ha; subst ha; simp [acs] at hx
   | succ t => simp at ha
  | succ n ih =>
   intro p hp h th t a ha x hx
   by_cases hb : (124 : UInt8) ∈ p
   ·obtain ⟨u, v, rfl, hu⟩ := List.eq_append_cons_of_mem hb
    rw [split_bar hu] at h ha
    have hcat := acs_cat (h u (by simp)) th [] (124 :: v)
    simp only [List.reverse_nil, List.append_nil] at hcat
    rw [hcat, acs_bar]
    cases t with
    | zero =>
     simp at ha
     subst ha
     simp at hx
     exact List.mem_append_left _ hx
    | succ t =>
     simp at ha
     have e : th + 1 + (t : Int) = th + ((t + 1 : Nat) : Int) := by omega
     rw [← e] at hx
     have := ih v (by simp at hp; omega) (fun a' ha' => h a' (by simp [ha'])) (th + 1) t a ha x hx
     exact List.mem_append_right _ this
   ·have hs : splitBar p = [p] := by
     clear hp h ha hx ih
     induction p with
     | nil => rfl
     | cons c s ih2 =>
      have h1 : c ≠ 124 := fun e => hb (by rw [e]; exact List.mem_cons_self)
      rw [splitBar, if_neg h1, ih2 (fun h' => hb (List.mem_cons_of_mem _ h'))]
    rw [hs] at ha
    cases t with
    | zero => simp at ha; subst ha; simpa using hx
    | succ t => simp at ha
 exact key p.length p (Nat.le_refl _) h
def MarkOf (m : MK) (x : Int × UInt8 × UInt8 × List UInt8) : Prop := m.thread = x.1 ∧ m.kind = (if x.2.1 = 112 then 2 else 1) ∧ m.num = (x.2.2.1.toNat : Int) - 120 ∧ m.h0 = inU x.2.2.2 65 ∧ m.h1 = inU x.2.2.2 66 ∧ m.h2 = inU x.2.2.2 67 ∧ m.h3 = inU x.2.2.2 68 ∧ m.h4 = inU x.2.2.2 69
theorem tw_next {p : List UInt8} {k : Nat} {c : UInt8} (hlt : (tw p k).i < p.length) (hc : p[(tw p k).i]? = some c) : tw p (k + 1) = ⟨(tw p k).i + sizeU c, heldU (tw p k).now p (tw p k).i, if c = 124 then (tw p k).th + 1 else (tw p k).th,
  if c = 91 ∨ c = 60 then (tw p k).mks ++ [mkN 3 (tw p k).i (tw p k).th (((p[(tw p k).i + 1]?).getD 0).toNat - 65) (tw p k).now]
   else if c = 103 ∨ c = 112 then (tw p k).mks ++ [mkN (if c = 112 then 2 else 1) (tw p k).i (tw p k).th (((p[(tw p k).i + 1]?).getD 0).toNat - 120) (tw p k).now] else (tw p k).mks⟩ := by
 rw [tw, if_pos hlt, tstep, hc]
theorem acs_marks {p : List UInt8} {mks : List MK} (ha : Acc p mks) : ∀ x ∈ acs 1 [] p, ∃ m ∈ mks, MarkOf m x := by
 have key : ∀ n k, p.length - (tw p k).i ≤ n → ∀ x ∈ acs (tw p k).th (tw p k).now (p.drop (tw p k).i), ∃ m ∈ mks, MarkOf m x := by
  intro n
  induction n with
  | zero =>
   intro k hk x hx
   rw [List.drop_eq_nil_of_le (by omega)] at hx
   simp [acs] at hx
  | succ n ih =>
   intro k hk x hx
   by_cases hlt : (tw p k).i < p.length
   ·have hc := List.getElem?_eq_getElem hlt
    obtain ⟨hroom, l, hl⟩ := acc_room ha hlt hc
    have hst := tw_next hlt hc
    have hpos := sizeU_pos p[(tw p k).i]
    have hi := ih (k + 1) (by rw [hst]; simp only; omega)
    rw [hst] at hi
    simp only at hi
    generalize hcc : p[(tw p k).i] = c at *
    have hd : p.drop (tw p k).i = c :: p.drop ((tw p k).i + 1) := by rw [List.drop_eq_getElem_cons hlt, hcc]
    rw [hd] at hx
    by_cases h2 : sizeU c = 2
    ·have hlt2 : (tw p k).i + 1 < p.length := by omega
     have hd2 : p.drop ((tw p k).i + 1) = p[(tw p k).i + 1] :: p.drop ((tw p k).i + 2) := by rw [List.drop_eq_getElem_cons hlt2]
     have hg : p[(tw p k).i + 1]? = some p[(tw p k).i + 1] := List.getElem?_eq_getElem hlt2
     rw [hd2] at hx
     rw [h2] at hi
     have hcase : (c = 103 ∨ c = 112) ∨ c = 105 ∨ (c = 91 ∨ c = 60) := by
      by_cases h3 : inU [103, 112, 105, 91, 60] c = true
      ·simp [inU] at h3
       rcases h3 with rfl | rfl | rfl | rfl | rfl <;> simp
      ·rw [sizeU, if_neg h3] at h2
       exact absurd h2 (by decide)
     rcases hcase with h3 | h3 | h3
     ·have nb : ¬ c = 124 := by rintro rfl; rcases h3 with h3 | h3 <;> exact absurd h3 (by decide)
      have nt : ¬ (c = 91 ∨ c = 60) := by rcases h3 with rfl | rfl <;> decide
      have ng : ¬ (c = 93 ∨ c = 62) := by rcases h3 with rfl | rfl <;> decide
      have hh : heldU (tw p k).now p (tw p k).i = (tw p k).now := by
       rw [heldU, hc]; simp only; rw [if_neg nt, if_neg ng]
      rw [if_neg nb, hh] at hi
      rw [acs_acc h3, List.mem_cons] at hx
      rcases hx with rfl | hx
      ·refine ⟨mkN (if c = 112 then 2 else 1) (tw p k).i (tw p k).th ((p[(tw p k).i + 1].toNat : Int) - 120) (tw p k).now, ?_, ?_⟩
       ·rw [hl, hst]
        simp only
        rw [if_neg nt, if_pos h3, hg]
        simp
       ·exact ⟨rfl, rfl, rfl, rfl, rfl, rfl, rfl, rfl⟩
      ·exact hi x hx
     ·subst h3
      have hh : heldU (tw p k).now p (tw p k).i = (tw p k).now := by
       rw [heldU, hc]; simp only; rw [if_neg (by decide), if_neg (by decide)]
      rw [if_neg (by decide), hh] at hi
      rw [acs_add] at hx
      exact hi x hx
     ·have nb : ¬ c = 124 := by rintro rfl; rcases h3 with h3 | h3 <;> exact absurd h3 (by decide)
      have hh : heldU (tw p k).now p (tw p k).i = (tw p k).now ++ [p[(tw p k).i + 1]] := by
       rw [heldU, hc]; simp only; rw [if_pos h3, hg]; rfl
      rw [if_neg nb, hh] at hi
      rw [acs_take h3] at hx
      exact hi x hx
    ·have h1 : sizeU c = 1 := by
      unfold sizeU at h2 ⊢
      split <;> simp_all
     have nt : ¬ (c = 91 ∨ c = 60) := by rintro (rfl | rfl) <;> exact absurd h1 (by decide)
     rw [h1] at hi
     by_cases hg : c = 93 ∨ c = 62
     ·have nb : ¬ c = 124 := by rintro rfl; rcases hg with h3 | h3 <;> exact absurd h3 (by decide)
      have hh : heldU (tw p k).now p (tw p k).i = (tw p k).now.dropLast := by
       rw [heldU, hc]; simp only; rw [if_neg nt, if_pos hg]
      rw [if_neg nb, hh] at hi
      rw [acs_give hg] at hx
      exact hi x hx
     ·have hh : heldU (tw p k).now p (tw p k).i = (tw p k).now := by
       rw [heldU, hc]; simp only; rw [if_neg nt, if_neg hg]
      rw [hh] at hi
      by_cases hb : c = 124
      ·subst hb
       rw [if_pos rfl] at hi
       rw [acs_bar] at hx
       exact hi x hx
      ·rw [if_neg hb] at hi
       rw [acs_skip h1 (fun e => hg (.inl e)) (fun e => hg (.inr e)) hb] at hx
       exact hi x hx
   ·rw [List.drop_eq_nil_of_le (by omega)] at hx
    simp [acs] at hx
 exact key p.length 0 (by simp [tw])
end Go.Proofs.Ytdgkpkdinfklaab

namespace Go.Proofs.Ytdgkpkdinfklaab
def lkM (m : MK) (a : UInt8) : Bool := (a == 65 && m.h0) || (a == 66 && m.h1) || (a == 67 && m.h2) || (a == 68 && m.h3) || (a == 69 && m.h4)
theorem MarkOf.mem {m : MK} {th : Int} {c v : UInt8} {H : List UInt8} (h : MarkOf m (th, c, v, H)) {l : UInt8} (hl : lkM m l = true) : l ∈ H := by
 obtain ⟨_, _, _, h0, h1, h2, h3, h4⟩ := h
 simp only at h0 h1 h2 h3 h4
 simp only [lkM, Bool.or_eq_true, Bool.and_eq_true, beq_iff_eq] at hl
 rcases hl with (((hl | hl) | hl) | hl) | hl
 ·rw [h0] at hl; rw [hl.1]; exact inU_mem.1 hl.2
 ·rw [h1] at hl; rw [hl.1]; exact inU_mem.1 hl.2
 ·rw [h2] at hl; rw [hl.1]; exact inU_mem.1 hl.2
 ·rw [h3] at hl; rw [hl.1]; exact inU_mem.1 hl.2
 ·rw [h4] at hl; rw [hl.1]; exact inU_mem.1 hl.2
def NoOpen (mks : List MK) : Prop := ∀ m ∈ mks, ∀ m' ∈ mks, m.kind ≠ 3 → m'.kind ≠ 3 → m.thread ≠ m'.thread → m.num = m'.num → (m.kind = 2 ∨ m'.kind = 2) → ∃ l, lkM m l = true ∧ lkM m' l = true
def StepMark (mks : List MK) (st : List Did) (held : List (List UInt8)) (i : Nat) (a : Did) : Prop :=
 ∃ m ∈ mks, m.thread = a.thread + 1 ∧ m.kind = (if a.what = 112 then 2 else 1) ∧ m.num = (a.of.toNat : Int) - 120 ∧
  ∀ l, lkM m l = true → (∃ h, held[a.thread.toNat]? = some h ∧ l ∈ h) ∨ ∃ (g : Nat) (e : Did), i < g ∧ st[g]? = some e ∧ e.thread = a.thread ∧ givesD e = true ∧ e.of = l
structure SI (mks : List MK) (P : PS) : Prop where
 ok : ∃ N, P.Ok N
 ac : ∀ (t : Nat) (s h : List UInt8), P.todo[t]? = some s → P.held[t]? = some h → ∀ x ∈ acs ((t : Int) + 1) h s, ∃ m ∈ mks, MarkOf m x
 nd : ∀ (t : Nat) (h : List UInt8), P.held[t]? = some h → h.Nodup
 me : ∀ (t t' : Nat) (h h' : List UInt8) (l : UInt8), P.held[t]? = some h → P.held[t']? = some h' → l ∈ h → l ∈ h' → t = t'
 tk : ∀ (t : Nat) (h : List UInt8) (l : UInt8), P.held[t]? = some h → l ∈ h → ∃ (u : Nat) (d : Did), P.st[u]? = some d ∧ d.thread = (t : Int) ∧ takesD d = true ∧ d.of = l ∧ ∀ (g : Nat) (e : Did), P.st[g]? = some e → givesD e = true → e.of = l → g < u
 sm : ∀ (i : Nat) (a : Did), P.st[i]? = some a → (a.what = 103 ∨ a.what = 112) → StepMark mks P.st P.held i a
 th : ∀ d ∈ P.st, 0 ≤ d.thread
 no : ∀ j, ¬ RaceAt P.st j
theorem set_get {α : Type} {l : List α} {t k : Nat} {x y : α} (h : (l.set t x)[k]? = some y) : (k = t ∧ y = x ∧ t < l.length) ∨ (k ≠ t ∧ l[k]? = some y) := by
 rw [List.getElem?_set] at h
 by_cases e : t = k
 ·subst e
  rw [if_pos rfl] at h
  split at h
  ·rename_i hl
   exact .inl ⟨rfl, (Option.some.inj h).symm, hl⟩
  ·cases h
 ·rw [if_neg e] at h
  exact .inr ⟨fun e' => e e'.symm, h⟩
theorem no_race_more {st : List Did} {d : Did} (h : ∀ j, ¬ RaceAt st j) (hd : ¬ (d.what = 103 ∨ d.what = 112)) : ∀ j, ¬ RaceAt (st ++ [d]) j := by
 intro j hr
 by_cases hj : j < st.length
 ·exact h j ((RaceAt.old hj).1 hr)
 ·have hlt := hr.lt
  simp at hlt
  have hje : j = st.length := by omega
  subst hje
  obtain ⟨i, a, b, _, _, h3, h4, _⟩ := hr
  rw [some_new] at h3
  cases h3
  rcases h4.2.2 with ⟨_, h5⟩ | ⟨_, h5⟩
  ·exact hd h5
  ·exact hd (.inr h5)
theorem SI.acPart {mks : List MK} {P : PS} (h : SI mks P) {t : Nat} {s l s' l' : List UInt8} (hs : P.todo[t]? = some s) (hl : P.held[t]? = some l) (hsub : ∀ x ∈ acs ((t : Int) + 1) l' s', x ∈ acs ((t : Int) + 1) l s) :
  ∀ (k : Nat) (u w : List UInt8), (P.todo.set t s')[k]? = some u → (P.held.set t l')[k]? = some w → ∀ x ∈ acs ((k : Int) + 1) w u, ∃ m ∈ mks, MarkOf m x := by
 intro k u w hu hw x hx
 rcases set_get hu with ⟨rfl, rfl, _⟩ | ⟨hk, hu'⟩
 ·rcases set_get hw with ⟨_, rfl, _⟩ | ⟨hk, _⟩
  ·exact h.ac _ s l hs hl x (hsub x hx)
  ·exact absurd rfl hk
 ·rcases set_get hw with ⟨e, _, _⟩ | ⟨_, hw'⟩
  ·exact absurd e hk
  ·exact h.ac k u w hu' hw' x hx
theorem okSt {P : PS} {N : Nat} (h : P.Ok N) (st : List Did) : ({ P with st := st } : PS).Ok N := ⟨h.n4, h.nh, h.nr, h.ng, h.td, h.rg, h.gg⟩
theorem SI.plain {mks : List MK} {P Q : PS} (hopen : NoOpen mks) (h : SI mks P) {t : Nat} {s l s' : List UInt8} {d : Did} (hs : P.todo[t]? = some s) (hl : P.held[t]? = some l) (e1 : Q.todo = P.todo.set t s') (e2 : Q.held = P.held) (e3 : Q.st = P.st ++ [d]) (hok : ∃ N, Q.Ok N)
  (hsub : ∀ x ∈ acs ((t : Int) + 1) l s', x ∈ acs ((t : Int) + 1) l s) (hd : d.thread = t) (hn : takesD d = false) (hg : givesD d = false)
  (hacc : (d.what = 103 ∨ d.what = 112) → ((t : Int) + 1, d.what, d.of, l) ∈ acs ((t : Int) + 1) l s) : SI mks Q := by
 have hset : P.held.set t l = P.held := set_same hl
 refine ⟨hok, ?_, ?_, ?_, ?_, ?_, ?_, ?_⟩
 ·intro k u w hu hw
  rw [e1] at hu
  rw [e2, ← hset] at hw
  exact h.acPart hs hl hsub k u w hu hw
 ·rw [e2]; exact h.nd
 ·rw [e2]; exact h.me
 ·intro k w x hw hx
  rw [e2] at hw
  obtain ⟨u, b, h1, h2, h3, h4, h5⟩ := h.tk k w x hw hx
  rw [e3]
  refine ⟨u, b, some_app h1, h2, h3, h4, fun g e hge he ho => ?_⟩
  by_cases hlt : g < P.st.length
  ·exact h5 g e (some_old hge hlt) he ho
  ·have : g = P.st.length := by
    have := (List.getElem?_eq_some_iff.1 hge).1
    simp at this; omega
   subst this
   rw [some_new] at hge
   cases hge
   rw [hg] at he
   cases he
 ·intro i a hi ha
  rw [e3] at hi ⊢
  rw [e2]
  by_cases hlt : i < P.st.length
  ·obtain ⟨m, m1, m2, m3, m4, m5⟩ := h.sm i a (some_old hi hlt) ha
   refine ⟨m, m1, m2, m3, m4, fun x hx => ?_⟩
   rcases m5 x hx with h1 | ⟨g, e, g1, g2, g3⟩
   ·exact .inl h1
   ·exact .inr ⟨g, e, g1, some_app g2, g3⟩
  ·have : i = P.st.length := by
    have := (List.getElem?_eq_some_iff.1 hi).1
    simp at this; omega
   subst this
   rw [some_new] at hi
   cases hi
   obtain ⟨m, m1, m2⟩ := h.ac t s l hs hl _ (hacc ha)
   have m3 := m2
   obtain ⟨q1, q2, q3, _⟩ := m3
   refine ⟨m, m1, by rw [q1, hd], q2, q3, fun x hx => .inl ⟨l, ?_, m2.mem hx⟩⟩
   rw [hd, Int.toNat_natCast]; exact hl
 ·rw [e3]
  intro x hx
  rw [List.mem_append, List.mem_singleton] at hx
  rcases hx with hx | rfl
  ·exact h.th x hx
  ·rw [hd]; omega
 ·rw [e3]
  by_cases hac : d.what = 103 ∨ d.what = 112
  ·intro j hr
   by_cases hj : j < P.st.length
   ·exact h.no j ((RaceAt.old hj).1 hr)
   ·have hlt := hr.lt
    simp at hlt
    have hje : j = P.st.length := by omega
    subst hje
    obtain ⟨i, a, b, h1, h2, h3, h4, h5⟩ := hr
    rw [some_new] at h3
    cases h3
    have hi := some_old h2 h1
    have haw : a.what = 103 ∨ a.what = 112 := by
     rcases h4.2.2 with ⟨e, _⟩ | ⟨e, _⟩
     ·exact .inr e
     ·exact .inl e
    obtain ⟨m, m1, m2, m3, m4, m5⟩ := h.sm i a hi haw
    obtain ⟨m', n1, n2⟩ := h.ac t s l hs hl _ (hacc hac)
    have n3 := n2
    obtain ⟨q1, q2, q3, _⟩ := n3
    simp only at q1 q2 q3
    obtain ⟨k, k1, k2⟩ := hopen m m1 m' n1 (by rw [m3]; split <;> decide) (by rw [q2]; split <;> decide) (by rw [m2, q1]; have := h4.2.1; rw [hd] at this; omega) (by rw [m4, q3, h4.1]) (by
     rw [m3, q2]
     rcases h4.2.2 with ⟨e, _⟩ | ⟨_, e⟩
     ·left; rw [if_pos e]
     ·right; rw [if_pos e])
    have hk := n2.mem k2
    rcases m5 k k1 with ⟨w, w1, w2⟩ | ⟨g, e, g1, g2, g3, g4, g5⟩
    ·have := h.me _ _ _ _ k w1 hl w2 hk
     have ha0 := h.th a (List.mem_of_getElem? hi)
     have := h4.2.1
     rw [hd] at this
     omega
    ·obtain ⟨u, b, u1, u2, u3, u4, u5⟩ := h.tk t l k hl hk
     have hgu := u5 g e g2 g4 g5
     have hul := (List.getElem?_eq_some_iff.1 u1).1
     have k1' : Kn P.st i g := .one g1 hi g2 (by unfold tellD; rw [g3]; simp)
     have k2' : Kn P.st i u := .more k1' hgu g2 u1 (by unfold tellD; rw [g4, u3, g5, u4]; simp)
     exact h5 (.more k2'.app hul (some_app u1) some_new (by unfold tellD; rw [u2, hd]; simp))
  ·exact no_race_more h.no hac
end Go.Proofs.Ytdgkpkdinfklaab

namespace Go.Proofs.Ytdgkpkdinfklaab
theorem holder_free {held : List (List UInt8)} {l : UInt8} (h : holderP held l < 0) : ∀ (t : Nat) (w : List UInt8), held[t]? = some w → l ∉ w := by
 intro t w hw hl
 unfold holderP at h
 split at h
 ·omega
 ·rename_i hn
  rw [List.findIdx?_eq_none_iff] at hn
  have := hn w (List.mem_of_getElem? hw)
  rw [inU_mem.2 hl] at this
  cases this
theorem SI.take {mks : List MK} {P Q : PS} (h : SI mks P) {t : Nat} {s l s' : List UInt8} {d : Did} {v : UInt8} (hs : P.todo[t]? = some s) (hl : P.held[t]? = some l) (e1 : Q.todo = P.todo.set t s') (e2 : Q.held = P.held.set t (l ++ [v])) (e3 : Q.st = P.st ++ [d]) (hok : ∃ N, Q.Ok N)
  (hsub : ∀ x ∈ acs ((t : Int) + 1) (l ++ [v]) s', x ∈ acs ((t : Int) + 1) l s) (hd : d.thread = t) (ht : takesD d = true) (hv : d.of = v) (hfree : ∀ (k : Nat) (w : List UInt8), P.held[k]? = some w → v ∉ w) : SI mks Q := by
 have hna : ¬ (d.what = 103 ∨ d.what = 112) := by
  rintro (e | e) <;> (unfold takesD at ht; rw [e] at ht; exact absurd ht (by decide))
 have hng : givesD d = false := by
  unfold takesD at ht
  simp at ht
  unfold givesD
  rcases ht with e | e <;> rw [e] <;> decide
 refine ⟨hok, ?_, ?_, ?_, ?_, ?_, ?_, ?_⟩
 ·rw [e1, e2]; exact h.acPart hs hl hsub
 ·intro k w hw
  rw [e2] at hw
  rcases set_get hw with ⟨_, rfl, _⟩ | ⟨_, hw'⟩
  ·rw [List.nodup_append]
   refine ⟨h.nd t l hl, by simp, fun a ha b hb => ?_⟩
   rw [List.mem_singleton] at hb
   subst hb
   rintro rfl
   exact hfree t l hl ha
  ·exact h.nd k w hw'
 ·intro k k' w w' x hw hw' hx hx'
  rw [e2] at hw hw'
  rcases set_get hw with ⟨rfl, rfl, _⟩ | ⟨hk, g⟩
  ·rcases set_get hw' with ⟨rfl, _, _⟩ | ⟨hk', g'⟩
   ·rfl
   ·rw [List.mem_append, List.mem_singleton] at hx
    rcases hx with hx | rfl
    ·exact h.me _ _ _ _ x hl g' hx hx'
    ·exact absurd hx' (hfree _ _ g')
  ·rcases set_get hw' with ⟨rfl, rfl, _⟩ | ⟨hk', g'⟩
   ·rw [List.mem_append, List.mem_singleton] at hx'
    rcases hx' with hx' | rfl
    ·exact h.me _ _ _ _ x g hl hx hx'
    ·exact absurd hx (hfree _ _ g)
   ·exact h.me _ _ _ _ x g g' hx hx'
 ·intro k w x hw hx
  rw [e2] at hw
  have old : ∀ (k : Nat) (w : List UInt8), P.held[k]? = some w → x ∈ w → ∃ (u : Nat) (b : Did), Q.st[u]? = some b ∧ b.thread = (k : Int) ∧ takesD b = true ∧ b.of = x ∧ ∀ (g : Nat) (e : Did), Q.st[g]? = some e → givesD e = true → e.of = x → g < u := by
   intro k w hw hx
   obtain ⟨u, b, h1, h2, h3, h4, h5⟩ := h.tk k w x hw hx
   rw [e3]
   refine ⟨u, b, some_app h1, h2, h3, h4, fun g e hge he ho => ?_⟩
   by_cases hlt : g < P.st.length
   ·exact h5 g e (some_old hge hlt) he ho
   ·have : g = P.st.length := by
     have := (List.getElem?_eq_some_iff.1 hge).1
     simp at this; omega
    subst this
    rw [some_new] at hge
    cases hge
    rw [hng] at he
    cases he
  rcases set_get hw with ⟨rfl, rfl, _⟩ | ⟨_, hw'⟩
  ·rw [List.mem_append, List.mem_singleton] at hx
   rcases hx with hx | rfl
   ·exact old _ l hl hx
   ·rw [e3]
    refine ⟨P.st.length, d, some_new, hd, ht, hv, fun g e hge he ho => ?_⟩
    by_cases hlt : g < P.st.length
    ·exact hlt
    ·have : g = P.st.length := by
      have := (List.getElem?_eq_some_iff.1 hge).1
      simp at this; omega
     subst this
     rw [some_new] at hge
     cases hge
     rw [hng] at he
     cases he
  ·exact old k w hw' hx
 ·intro i a hi ha
  rw [e3] at hi ⊢
  rw [e2]
  by_cases hlt : i < P.st.length
  ·obtain ⟨m, m1, m2, m3, m4, m5⟩ := h.sm i a (some_old hi hlt) ha
   refine ⟨m, m1, m2, m3, m4, fun x hx => ?_⟩
   rcases m5 x hx with ⟨w, w1, w2⟩ | ⟨g, e, g1, g2, g3⟩
   ·left
    by_cases hk : a.thread.toNat = t
    ·rw [hk] at w1 ⊢
     rw [hl] at w1
     cases w1
     exact ⟨l ++ [v], List.getElem?_set_self (List.getElem?_eq_some_iff.1 hl).1, List.mem_append_left _ w2⟩
    ·exact ⟨w, by rw [List.getElem?_set_ne (fun e => hk e.symm)]; exact w1, w2⟩
   ·exact .inr ⟨g, e, g1, some_app g2, g3⟩
  ·have : i = P.st.length := by
    have := (List.getElem?_eq_some_iff.1 hi).1
    simp at this; omega
   subst this
   rw [some_new] at hi
   cases hi
   exact absurd ha hna
 ·rw [e3]
  intro x hx
  rw [List.mem_append, List.mem_singleton] at hx
  rcases hx with hx | rfl
  ·exact h.th x hx
  ·rw [hd]; omega
 ·rw [e3]; exact no_race_more h.no hna
theorem SI.give {mks : List MK} {P Q : PS} (h : SI mks P) {t : Nat} {s l s' : List UInt8} {d : Did} {v : UInt8} (hs : P.todo[t]? = some s) (hl : P.held[t]? = some (l ++ [v])) (e1 : Q.todo = P.todo.set t s') (e2 : Q.held = P.held.set t l) (e3 : Q.st = P.st ++ [d]) (hok : ∃ N, Q.Ok N)
  (hsub : ∀ x ∈ acs ((t : Int) + 1) l s', x ∈ acs ((t : Int) + 1) (l ++ [v]) s) (hd : d.thread = t) (ht : givesD d = true) (hv : d.of = v) : SI mks Q := by
 have hna : ¬ (d.what = 103 ∨ d.what = 112) := by
  rintro (e | e) <;> (unfold givesD at ht; rw [e] at ht; exact absurd ht (by decide))
 have hnd := h.nd t _ hl
 rw [List.nodup_append] at hnd
 have hvl : v ∉ l := fun hm => hnd.2.2 v hm v (by simp) rfl
 refine ⟨hok, ?_, ?_, ?_, ?_, ?_, ?_, ?_⟩
 ·rw [e1, e2]; exact h.acPart hs hl hsub
 ·intro k w hw
  rw [e2] at hw
  rcases set_get hw with ⟨_, rfl, _⟩ | ⟨_, hw'⟩
  ·exact hnd.1
  ·exact h.nd k w hw'
 ·intro k k' w w' x hw hw' hx hx'
  rw [e2] at hw hw'
  rcases set_get hw with ⟨rfl, rfl, _⟩ | ⟨hk, g⟩
  ·rcases set_get hw' with ⟨rfl, _, _⟩ | ⟨hk', g'⟩
   ·rfl
   ·exact h.me _ _ _ _ x hl g' (List.mem_append_left _ hx) hx'
  ·rcases set_get hw' with ⟨rfl, rfl, _⟩ | ⟨hk', g'⟩
   ·exact h.me _ _ _ _ x g hl hx (List.mem_append_left _ hx')
   ·exact h.me _ _ _ _ x g g' hx hx'
 ·intro k w x hw hx
  rw [e2] at hw
  have old : ∀ (k : Nat) (w : List UInt8), P.held[k]? = some w → x ∈ w → x ≠ v → ∃ (u : Nat) (b : Did), Q.st[u]? = some b ∧ b.thread = (k : Int) ∧ takesD b = true ∧ b.of = x ∧ ∀ (g : Nat) (e : Did), Q.st[g]? = some e → givesD e = true → e.of = x → g < u := by
   intro k w hw hx hxv
   obtain ⟨u, b, h1, h2, h3, h4, h5⟩ := h.tk k w x hw hx
   rw [e3]
   refine ⟨u, b, some_app h1, h2, h3, h4, fun g e hge he ho => ?_⟩
   by_cases hlt : g < P.st.length
   ·exact h5 g e (some_old hge hlt) he ho
   ·have : g = P.st.length := by
     have := (List.getElem?_eq_some_iff.1 hge).1
     simp at this; omega
    subst this
    rw [some_new] at hge
    cases hge
    rw [hv] at ho
    exact absurd ho.symm hxv
  rcases set_get hw with ⟨rfl, rfl, _⟩ | ⟨hk, hw'⟩
  ·exact old _ _ hl (List.mem_append_left _ hx) (fun e => hvl (e ▸ hx))
  ·refine old k w hw' hx (fun e => ?_)
   subst e
   exact hk (h.me _ _ _ _ x hw' hl hx (by simp))
 ·intro i a hi ha
  rw [e3] at hi ⊢
  rw [e2]
  by_cases hlt : i < P.st.length
  ·obtain ⟨m, m1, m2, m3, m4, m5⟩ := h.sm i a (some_old hi hlt) ha
   refine ⟨m, m1, m2, m3, m4, fun x hx => ?_⟩
   rcases m5 x hx with ⟨w, w1, w2⟩ | ⟨g, e, g1, g2, g3⟩
   ·by_cases hk : a.thread.toNat = t
    ·rw [hk] at w1 ⊢
     rw [hl] at w1
     cases w1
     rw [List.mem_append, List.mem_singleton] at w2
     rcases w2 with w2 | rfl
     ·exact .inl ⟨l, List.getElem?_set_self (List.getElem?_eq_some_iff.1 hl).1, w2⟩
     ·refine .inr ⟨P.st.length, d, hlt, some_new, ?_, ht, hv⟩
      have := h.th a (List.mem_of_getElem? (some_old hi hlt))
      rw [hd]; omega
    ·exact .inl ⟨w, by rw [List.getElem?_set_ne (fun e => hk e.symm)]; exact w1, w2⟩
   ·exact .inr ⟨g, e, g1, some_app g2, g3⟩
  ·have : i = P.st.length := by
    have := (List.getElem?_eq_some_iff.1 hi).1
    simp at this; omega
   subst this
   rw [some_new] at hi
   cases hi
   exact absurd ha hna
 ·rw [e3]
  intro x hx
  rw [List.mem_append, List.mem_singleton] at hx
  rcases hx with hx | rfl
  ·exact h.th x hx
  ·rw [hd]; omega
 ·rw [e3]; exact no_race_more h.no hna
end Go.Proofs.Ytdgkpkdinfklaab

namespace Go.Proofs.Ytdgkpkdinfklaab
theorem acs_test {th : Int} {l : List UInt8} {c : UInt8} {t : List UInt8} (hc : c = 63 ∨ c = 33 ∨ c = 123 ∨ c = 125) : acs th l (c :: t) = acs th l t :=
 acs_skip (by rcases hc with rfl | rfl | rfl | rfl <;> decide) (by rcases hc with rfl | rfl | rfl | rfl <;> decide) (by rcases hc with rfl | rfl | rfl | rfl <;> decide) (by rcases hc with rfl | rfl | rfl | rfl <;> decide)
theorem acs_body {X a : List UInt8} (h : TD X [] a) (th : Int) (l s : List UInt8) : acs th l (a ++ s) = acs th l a ++ acs th l s := by
 have := acs_cat h th l s
 simpa using this
theorem acs_branch {X Y a b : List UInt8} (ha : TD X [] a) (hb : TD Y [] b) (th : Int) (l r : List UInt8) : acs th l (63 :: 123 :: (a ++ 125 :: 123 :: (b ++ 125 :: r))) = acs th l a ++ (acs th l b ++ acs th l r) := by
 rw [acs_test (by simp), acs_test (by simp), acs_body ha, acs_test (by simp), acs_test (by simp), acs_body hb, acs_test (by simp)]
theorem acs_loop {X a : List UInt8} (ha : TD X [] a) (th : Int) (l r : List UInt8) : acs th l (33 :: 123 :: (a ++ 125 :: r)) = acs th l a ++ acs th l r := by
 rw [acs_test (by simp), acs_test (by simp), acs_body ha, acs_test (by simp)]
theorem SI.pick {mks : List MK} {P : PS} (hopen : NoOpen mks) (h : SI mks P) (n : Int) (x : UInt8) : SI mks (P.pick n x).1 := by
 unfold PS.pick
 simp only
 by_cases c1 : (x.toNat : Int) - 49 < 0 ∨ (P.todo.length : Int) ≤ (x.toNat : Int) - 49 ∨ P.todo.getD ((x.toNat : Int) - 49).toNat [] = []
 ·rw [if_pos c1]; exact h
 ·rw [if_neg c1]
  simp only [not_or] at c1
  obtain ⟨a1, a2, a3⟩ := c1
  obtain ⟨i, hi⟩ : ∃ i : Nat, (x.toNat : Int) - 49 = i := Int.eq_ofNat_of_zero_le (by omega)
  rw [hi] at a2 a3 ⊢
  rw [Int.toNat_natCast] at a3 ⊢
  by_cases c2 : 0 ≤ P.waits i
  ·rw [if_pos c2]; exact h
  ·rw [if_neg c2]
   obtain ⟨N, hN⟩ := h.ok
   have hlt : i < P.todo.length := by omega
   obtain ⟨s, hs⟩ : ∃ s, P.todo[i]? = some s := ⟨_, List.getElem?_eq_getElem hlt⟩
   have hsd : P.todo.getD i [] = s := by rw [List.getD_eq_getElem?_getD, hs]; rfl
   rw [hsd] at a3
   obtain ⟨l, r0, hat, htd, hsN, x0, x9⟩ := hN.at hs
   have hsh := sh_of a3 htd
   have hok2 := does_ok hN hat hsh hsN x0 x9
   have hst := (does_pr hat hsh).2.1
   have hw : waitsL P.held s < 0 := by
    have : P.waits i = waitsL P.held s := by unfold PS.waits; rw [hsd]
    omega
   have hokQ : ∃ N, ({ (P.does i).1 with st := (P.does i).1.st ++ [⟨n, (i : Int), (P.does i).2.1, (P.does i).2.2⟩] } : PS).Ok N := ⟨_, okSt hok2 _⟩
   cases hsh with
   | get v r hv hr =>
    rw [doesP_get hat] at hokQ ⊢
    exact h.plain hopen hs hat.l rfl rfl rfl hokQ (fun y hy => by rw [acs_acc (.inl rfl)]; exact List.mem_cons_of_mem _ hy) rfl rfl rfl (fun _ => by rw [acs_acc (.inl rfl)]; exact List.mem_cons_self)
   | put v r hv hr =>
    rw [doesP_put hat] at hokQ ⊢
    exact h.plain hopen hs hat.l rfl rfl rfl hokQ (fun y hy => by rw [acs_acc (.inr rfl)]; exact List.mem_cons_of_mem _ hy) rfl rfl rfl (fun _ => by rw [acs_acc (.inr rfl)]; exact List.mem_cons_self)
   | add v r hv hr =>
    rw [doesP_add hat] at hokQ ⊢
    exact h.plain hopen hs hat.l rfl rfl rfl hokQ (fun y hy => by rw [acs_add]; exact hy) rfl rfl rfl (fun e => by simp only at e; rcases e with e | e <;> exact absurd e (by decide))
   | out r hr =>
    rw [doesP_out hat] at hokQ ⊢
    exact h.plain hopen hs hat.l rfl rfl rfl hokQ (fun y hy => by rw [acs_skip (by decide) (by decide) (by decide) (by decide)]; exact hy) rfl rfl rfl (fun e => by simp only at e; rcases e with e | e <;> exact absurd e (by decide))
   | opens v r hv hnv hr =>
    rw [doesP_opens hat] at hokQ ⊢
    exact h.take hs hat.l rfl rfl rfl hokQ (fun y hy => by rw [acs_take (.inl rfl)]; exact hy) rfl rfl rfl (holder_free (by simpa [waitsL] using hw))
   | mended v r hv hnv hr =>
    rw [doesP_mended hat] at hokQ ⊢
    exact h.take hs hat.l rfl rfl rfl hokQ (fun y hy => by rw [acs_take (.inr rfl)]; exact hy) rfl rfl rfl (holder_free (by simpa [waitsL] using hw))
   | shut v m r e hr =>
    subst e
    rw [doesP_shut hat] at hokQ ⊢
    exact h.give hs hat.l rfl rfl rfl hokQ (fun y hy => by rw [acs_give (.inl rfl), List.dropLast_concat]; exact hy) rfl rfl rfl
   | mend v m r e hr =>
    subst e
    rw [doesP_mend hat] at hokQ ⊢
    exact h.give hs hat.l rfl rfl rfl hokQ (fun y hy => by rw [acs_give (.inr rfl), List.dropLast_concat]; exact hy) rfl rfl rfl
   | branch a b r hta htb hr =>
    rw [doesP_test (.inl rfl) hat] at hokQ ⊢
    refine h.plain hopen hs hat.l rfl rfl rfl hokQ (fun y hy => ?_) rfl ?_ ?_ (fun e => ?_)
    ·rw [testP_branch hta htb] at hy
     rw [acs_branch hta htb]
     split at hy
     ·rw [acs_body hta] at hy
      rcases List.mem_append.1 hy with hy | hy
      ·exact List.mem_append_left _ hy
      ·exact List.mem_append_right _ (List.mem_append_right _ hy)
     ·rw [acs_body htb] at hy
      exact List.mem_append_right _ hy
    ·simp only [takesD]; split <;> decide
    ·simp only [givesD]; split <;> decide
    ·simp only at e
     split at e <;> rcases e with e | e <;> exact absurd e (by decide)
   | loop a r hm hta hr =>
    rw [doesP_test (.inr rfl) hat] at hokQ ⊢
    refine h.plain hopen hs hat.l rfl rfl rfl hokQ (fun y hy => ?_) rfl ?_ ?_ (fun e => ?_)
    ·rw [testP_loop hta] at hy
     split at hy
     ·rw [acs_body hta, acs_loop hta] at hy
      rw [acs_loop hta]
      rcases List.mem_append.1 hy with hy | hy
      ·exact List.mem_append_left _ hy
      ·exact hy
     ·rw [acs_loop hta]
      exact List.mem_append_right _ hy
    ·simp only [takesD]; split <;> decide
    ·simp only [givesD]; split <;> decide
    ·simp only at e
     split at e <;> rcases e with e | e <;> exact absurd e (by decide)
theorem start_fit {p : List UInt8} (h4 : (splitBar p).length ≤ 4) (htd : ∀ a ∈ splitBar p, TD [] [] a) : ∃ N, (PS.start p).Ok N := by
 have hN : ∃ N, ∀ a ∈ splitBar p, a.length ≤ N := by
  clear h4 htd
  induction splitBar p with
  | nil => exact ⟨0, fun a ha => by cases ha⟩
  | cons x r ih =>
   obtain ⟨N, hN⟩ := ih
   refine ⟨N + x.length, fun a ha => ?_⟩
   rcases List.mem_cons.1 ha with rfl | ha
   ·omega
   ·have := hN a ha; omega
 obtain ⟨N, hN⟩ := hN
 refine ⟨N, ⟨h4, by simp [PS.start], by simp [PS.start], rfl, ?_, ?_, ?_⟩⟩
 ·intro t s hs
  have hs' : (splitBar p)[t]? = some s := hs
  refine ⟨[], ?_, htd s (List.mem_of_getElem? hs'), hN s (List.mem_of_getElem? hs')⟩
  show ((splitBar p).map fun _ => ([] : List UInt8))[t]? = some []
  rw [List.getElem?_map, hs']; rfl
 ·intro r hr
  have hr' : r ∈ (splitBar p).map fun _ => (0 : Int) := hr
  rw [List.mem_map] at hr'
  obtain ⟨_, _, rfl⟩ := hr'
  omega
 ·intro r hr
  simp only [PS.start, List.mem_cons, List.not_mem_nil, or_false] at hr
  rcases hr with rfl | rfl | rfl <;> omega
theorem SI.start {p : List UInt8} {mks : List MK} (ha : Acc p mks) (h4 : (splitBar p).length ≤ 4) (htd : ∀ a ∈ splitBar p, TD [] [] a) : SI mks (PS.start p) := by
 have hh : ∀ (t : Nat) (h : List UInt8), (PS.start p).held[t]? = some h → h = [] := by
  intro t h hh
  have hh' : ((splitBar p).map fun _ => ([] : List UInt8))[t]? = some h := hh
  rw [List.getElem?_map] at hh'
  cases hs : (splitBar p)[t]? with
  | none => rw [hs] at hh'; cases hh'
  | some y => rw [hs] at hh'; exact (Option.some.inj hh').symm
 refine ⟨start_fit h4 htd, ?_, ?_, ?_, ?_, ?_, ?_, ?_⟩
 ·intro t s h hs hl x hx
  rw [hh t h hl] at hx
  have e : (t : Int) + 1 = 1 + (t : Int) := by omega
  rw [e] at hx
  exact acs_marks ha x (acs_split p htd 1 t s hs x hx)
 ·intro t h hl; rw [hh t h hl]; exact List.nodup_nil
 ·intro t t' h h' l h1 _ h3 _; rw [hh t h h1] at h3; cases h3
 ·intro t h l h1 h2; rw [hh t h h1] at h2; cases h2
 ·intro i a hi; simp [PS.start] at hi
 ·intro d hd; simp [PS.start] at hd
 ·intro j hr
  have := hr.lt
  simp [PS.start] at this
theorem SI.run {p : List UInt8} {mks : List MK} (hopen : NoOpen mks) (ha : Acc p mks) (h4 : (splitBar p).length ≤ 4) (htd : ∀ a ∈ splitBar p, TD [] [] a) (q : List UInt8) : ∀ k, SI mks ((PS.start p).upK q k) := by
 intro k
 induction k with
 | zero => exact SI.start ha h4 htd
 | succ k ih =>
  rw [PS.upK]
  cases q[k]? with
  | none => exact ih
  | some c => exact ih.pick hopen _ c
theorem no_race {p : List UInt8} {F : List ST} {ts : List (Nat × List UInt8)} {mks : List MK} (h : Prog p F ts) (hopen : NoOpen mks) (ha : Acc p mks) (htd : ∀ a ∈ splitBar p, TD [] [] a) (q : List UInt8) (k : Nat) : (runU F q k).race = 0 := by
 have h4 : (splitBar p).length ≤ 4 := by rw [h.spl, List.length_map]; exact h.n4
 have hs := SI.run hopen ha h4 htd q k
 rcases (Ckd.run h h.n4 htd q k).2 with ⟨e, _⟩ | ⟨_, j, d, _, _, hr, _⟩
 ·exact e
 ·exact absurd hr (hs.no j)
end Go.Proofs.Ytdgkpkdinfklaab

namespace Go.Proofs.Ytdgkpkdinfklaab
theorem prL_none {l : List MK} : ∀ n, prL l n = [] → ∀ i k, i < n → i < k → k < l.length → opAt l i k = false := by
 have inner : ∀ i c, prI l i c = [] → ∀ q, q < c → opAt l i (i + 1 + q) = false := by
  intro i c
  induction c with
  | zero => intro _ q hq; omega
  | succ c ih =>
   intro h q hq
   rw [prI] at h
   have h1 := List.append_eq_nil_iff.1 h
   by_cases e : q = c
   ·subst e
    cases ho : opAt l i (i + 1 + q) with
    | false => rfl
    | true => rw [ho, if_pos rfl] at h1; exact absurd h1.2 (by simp)
   ·exact ih h1.1 q (by omega)
 intro n
 induction n with
 | zero => intro _ i k hi; omega
 | succ n ih =>
  intro h i k hi hk hl
  rw [prL] at h
  have h1 := List.append_eq_nil_iff.1 h
  by_cases e : i = n
  ·subst e
   have := inner i _ h1.2 (k - (i + 1)) (by omega)
   rw [show i + 1 + (k - (i + 1)) = k by omega] at this
   exact this
  ·exact ih h1.1 i k (by omega) hk hl
theorem meet_lock {m m' : MK} (h : meetB (hOf m) (hOf m') = true) : ∃ l, lkM m l = true ∧ lkM m' l = true := by
 rw [meetB, List.any_eq_true] at h
 obtain ⟨i, hi, h⟩ := h
 simp at hi h
 have : i = 0 ∨ i = 1 ∨ i = 2 ∨ i = 3 ∨ i = 4 := by omega
 rcases this with rfl | rfl | rfl | rfl | rfl
 ·exact ⟨65, by simpa [lkM, hOf] using h⟩
 ·exact ⟨66, by simpa [lkM, hOf] using h⟩
 ·exact ⟨67, by simpa [lkM, hOf] using h⟩
 ·exact ⟨68, by simpa [lkM, hOf] using h⟩
 ·exact ⟨69, by simpa [lkM, hOf] using h⟩
theorem noOpen_of {mks : List MK} (h : prL (accL mks) (accL mks).length = []) : NoOpen mks := by
 intro m hm m' hm' k3 k3' ht hn hp
 have mem : ∀ m ∈ mks, m.kind ≠ 3 → m ∈ accL mks := fun m hm k => by
  rw [accL, List.mem_filter]
  exact ⟨hm, by simp [isAcc, k]⟩
 obtain ⟨i, hi⟩ := List.getElem?_of_mem (mem m hm k3)
 obtain ⟨k, hk⟩ := List.getElem?_of_mem (mem m' hm' k3')
 have li := (List.getElem?_eq_some_iff.1 hi).1
 have lk := (List.getElem?_eq_some_iff.1 hk).1
 have hne : i ≠ k := fun e => by
  subst e
  rw [hi] at hk
  cases hk
  exact ht rfl
 by_cases hlt : i < k
 ·have := prL_none _ h i k li hlt lk
  rw [opAt, hi, hk] at this
  simp only [opMK] at this
  have ht' : (m.thread != m'.thread) = true := by simpa using ht
  have hn' : (m.num == m'.num) = true := by simpa using hn
  have hp' : (m.kind == 2 || m'.kind == 2) = true := by simpa using hp
  rw [ht', hn', hp'] at this
  exact meet_lock (by simpa using this)
 ·have := prL_none _ h k i lk (by omega) li
  rw [opAt, hi, hk] at this
  simp only [opMK] at this
  have ht' : (m'.thread != m.thread) = true := by simpa using fun e : m'.thread = m.thread => ht e.symm
  have hn' : (m'.num == m.num) = true := by simpa using hn.symm
  have hp' : (m'.kind == 2 || m.kind == 2) = true := by simpa [or_comm] using hp
  rw [ht', hn', hp'] at this
  obtain ⟨l, l1, l2⟩ := meet_lock (m := m') (m' := m) (by simpa using this)
  exact ⟨l, l2, l1⟩
end Go.Proofs.Ytdgkpkdinfklaab
