import Derived.Test.YtnpkambjlfkhgaaPure2
namespace Go.Proofs.Ytnpkambjlfkhgaa

def encS : List (Int × Int) → List UInt8
  | [] => []
  | x :: o => (if x.1 = 1 then [93, 66] else if x.1 = 3 then [125, 123, 66, 125, 66] else [125, 66]) ++ encS o

def encT (op : List (Int × Int)) (th : Int) : List UInt8 := encS op ++ List.replicate (4 - th).toNat 109
def encR (r : RS) : List UInt8 := 66 :: encT r.op r.th

def nowOf : List (Int × Int) → List UInt8
  | [] => []
  | x :: o => nowOf o ++ (if 0 ≤ x.2 then [UInt8.ofNat (65 + x.2.toNat)] else [])

/-- The lists of what is open that come up between pieces. -/
def KindsOk (op : List (Int × Int)) : Prop := ∀ x ∈ op, (x.1 = 1 ∧ 0 ≤ x.2 ∧ x.2 < 4) ∨ ((x.1 = 3 ∨ x.1 = 4) ∧ x.2 = -1)
def LocksOk (op : List (Int × Int)) : Prop := ∀ x ∈ op, -1 ≤ x.2 ∧ x.2 < 5

theorem KindsOk.locks {op : List (Int × Int)} (h : KindsOk op) : LocksOk op := fun x hx => by
  rcases h x hx with ⟨_, h1, h2⟩ | ⟨_, h1⟩ <;> omega

theorem inU_append (a b : List UInt8) (c : UInt8) : inU (a ++ b) c = (inU a c || inU b c) := by simp [inU]

theorem hld_now {op : List (Int × Int)} (h : LocksOk op) (i : Nat) (hi : i < 5) : hld op i = inU (nowOf op) (UInt8.ofNat (65 + i)) := by
  induction op with
  | nil => rfl
  | cons x o ih =>
    have ih' := ih (fun y hy => h y (List.mem_cons_of_mem _ hy))
    have hx := h x (List.mem_cons_self ..)
    obtain ⟨k, l⟩ := x
    simp only at hx
    rw [nowOf, inU_append, ← ih']
    simp only [hld, List.any_cons] at *
    rw [Bool.or_comm]
    congr 1
    by_cases hl : 0 ≤ l
    · rw [if_pos hl]
      have h5 : l = 0 ∨ l = 1 ∨ l = 2 ∨ l = 3 ∨ l = 4 := by omega
      have h6 : i = 0 ∨ i = 1 ∨ i = 2 ∨ i = 3 ∨ i = 4 := by omega
      rcases h5 with rfl | rfl | rfl | rfl | rfl <;> rcases h6 with rfl | rfl | rfl | rfl | rfl <;> decide
    · rw [if_neg hl]
      simp [inU]; omega

theorem mark_eq {op : List (Int × Int)} (h : LocksOk op) (kind place th num : Int) :
    (⟨kind, place, th, num, hld op 0, hld op 1, hld op 2, hld op 3, hld op 4⟩ : MK) = mkN kind place th num (nowOf op) := by
  have h0 := hld_now h 0 (by decide)
  have h1 := hld_now h 1 (by decide)
  have h2 := hld_now h 2 (by decide)
  have h3 := hld_now h 3 (by decide)
  have h4 := hld_now h 4 (by decide)
  simp only [mkN, MK.mk.injEq, true_and]
  exact ⟨h0, h1, h2, h3, h4⟩

theorem nxt_B {c : UInt8} {more X : List UInt8} (h : opnL c = some more) : nxt (66 :: X) c = (more ++ 66 :: X, true) := by simp [nxt, h]
theorem nxt_skip {c : UInt8} {X : List UInt8} (h : opnL c = none) : nxt (66 :: X) c = nxt X c := by rw [nxt]; simp [h]
theorem nxt_e {e c : UInt8} {X : List UInt8} (h1 : e ≠ 66) (h2 : e ≠ 109) : nxt (e :: X) c = (X, stB e c) := by simp [nxt, h1, h2]
theorem nxt_m {c : UInt8} {X : List UInt8} : nxt (109 :: X) c = (66 :: X, c == 124) := by simp [nxt]

theorem fw_step {p : List UInt8} {k : Nat} {f f' : List UInt8} {c : UInt8} (h : fw p k = some f) (hc : p[k]? = some c) (hn : nxt f c = (f', true)) : fw p (k + 1) = some f' := by
  simp [fw, h, hc, hn]

/-- The form ends at a place: a byte that cannot stand there, or the text's end. -/
def Fail (p : List UInt8) (q : Nat) : Prop :=
  (∃ f c, q < p.length ∧ fw p q = some f ∧ p[q]? = some c ∧ (nxt f c).2 = false) ∨ (q = p.length ∧ ∃ f, fw p q = some f ∧ wholeF f = false)

theorem nxI_char {p : List UInt8} {q i : Nat} {al : List UInt8} (h : nxI p q al = some i) : ∃ c, p[q]? = some c ∧ al[i]? = some c := by
  unfold nxI at h
  cases hc : p[q]? with
  | none => rw [hc] at h; cases h
  | some c =>
    rw [hc] at h
    simp only [Option.bind_some] at h
    obtain ⟨hl, hp, _⟩ := List.findIdx?_eq_some_iff_getElem.1 h
    exact ⟨c, rfl, by rw [List.getElem?_eq_getElem hl]; simpa using hp⟩

theorem nxI_in {p : List UInt8} {q : Nat} {c : UInt8} {al : List UInt8} (hc : p[q]? = some c) : (nxI p q al).isSome = inU al c := by
  simp [nxI, hc, inU, List.findIdx?_isSome]

theorem fail_at {p : List UInt8} {q : Nat} {e : UInt8} {X al : List UInt8} (hf : fw p q = some (e :: X)) (h1 : e ≠ 66) (h2 : e ≠ 109) (hs : ∀ c, stB e c = inU al c) (hx : nxI p q al = none) (hq : q ≤ p.length) : Fail p q := by
  by_cases hlt : q < p.length
  · left
    refine ⟨_, p[q], hlt, hf, List.getElem?_eq_getElem hlt, ?_⟩
    rw [nxt_e h1 h2, hs, ← nxI_in (List.getElem?_eq_getElem hlt), hx]; rfl
  · right
    refine ⟨by omega, _, hf, ?_⟩
    simp [wholeF, h1]

theorem ok_at {p : List UInt8} {q i : Nat} {e : UInt8} {X al : List UInt8} (hf : fw p q = some (e :: X)) (h1 : e ≠ 66) (h2 : e ≠ 109) (hs : ∀ c, stB e c = inU al c) (hx : nxI p q al = some i) : fw p (q + 1) = some X := by
  obtain ⟨c, hc, _⟩ := nxI_char hx
  refine fw_step hf hc ?_
  rw [nxt_e h1 h2, hs, ← nxI_in hc, hx]; rfl

theorem st_v (c : UInt8) : stB 118 c = inU [120, 121, 122] c := rfl
theorem st_n (c : UInt8) : stB 110 c = inU [48, 49, 50, 51, 52, 53, 54, 55, 56, 57] c := rfl
theorem st_l (c : UInt8) : stB 108 c = inU [65, 66, 67, 68] c := rfl
theorem st_k (c : UInt8) : stB 107 c = inU [65, 66, 67, 68, 69] c := rfl
theorem st_a (c : UInt8) : stB 97 c = inU [103, 112] c := rfl
theorem st_lc (c : UInt8) : stB 123 c = inU [123] c := by show (c == 123) = ((123 == c) || false); rw [Bool.or_false, BEq.comm]
theorem st_gt (c : UInt8) : stB 62 c = inU [62] c := by show (c == 62) = ((62 == c) || false); rw [Bool.or_false, BEq.comm]

theorem tw_step {p : List UInt8} {k i : Nat} {now : List UInt8} {th : Int} {mk : List MK} {c : UInt8} (h : tw p k = ⟨i, now, th, mk⟩) (hc : p[i]? = some c) : tw p (k + 1) = tstep p ⟨i, now, th, mk⟩ := by
  have hlt : i < p.length := (List.getElem?_eq_some_iff.1 hc).1
  simp [tw, h, hlt]

theorem step_access {p : List UInt8} {k i : Nat} {now : List UInt8} {th : Int} {mk : List MK} {c d : UInt8} (h : tw p k = ⟨i, now, th, mk⟩) (hc : p[i]? = some c) (hd : p[i + 1]? = some d) (hg : c = 103 ∨ c = 112) :
    tw p (k + 1) = ⟨i + 2, now, th, mk ++ [mkN (if c = 112 then 2 else 1) i th (d.toNat - 120) now]⟩ := by
  rw [tw_step h hc]
  rcases hg with rfl | rfl <;> simp [tstep, hc, hd, heldU, sizeU, inU]

theorem step_take {p : List UInt8} {k i : Nat} {now : List UInt8} {th : Int} {mk : List MK} {c d : UInt8} (h : tw p k = ⟨i, now, th, mk⟩) (hc : p[i]? = some c) (hd : p[i + 1]? = some d) (hg : c = 91 ∨ c = 60) :
    tw p (k + 1) = ⟨i + 2, now ++ [d], th, mk ++ [mkN 3 i th (d.toNat - 65) now]⟩ := by
  rw [tw_step h hc]
  rcases hg with rfl | rfl <;> simp [tstep, hc, hd, heldU, sizeU, inU]

theorem step_give {p : List UInt8} {k i : Nat} {now : List UInt8} {th : Int} {mk : List MK} {c : UInt8} (h : tw p k = ⟨i, now, th, mk⟩) (hc : p[i]? = some c) (hg : c = 93 ∨ c = 62) :
    tw p (k + 1) = ⟨i + 1, now.dropLast, th, mk⟩ := by
  rw [tw_step h hc]
  rcases hg with rfl | rfl <;> simp [tstep, hc, heldU, sizeU, inU]

theorem step_two {p : List UInt8} {k i : Nat} {now : List UInt8} {th : Int} {mk : List MK} (h : tw p k = ⟨i, now, th, mk⟩) (hc : p[i]? = some 105) : tw p (k + 1) = ⟨i + 2, now, th, mk⟩ := by
  rw [tw_step h hc]
  simp [tstep, hc, heldU, sizeU, inU]

theorem step_one {p : List UInt8} {k i : Nat} {now : List UInt8} {th : Int} {mk : List MK} {c : UInt8} (h : tw p k = ⟨i, now, th, mk⟩) (hc : p[i]? = some c) (hg : c = 111 ∨ c = 63 ∨ c = 33 ∨ c = 123 ∨ c = 125) : tw p (k + 1) = ⟨i + 1, now, th, mk⟩ := by
  rw [tw_step h hc]
  rcases hg with rfl | rfl | rfl | rfl | rfl <;> simp [tstep, hc, heldU, sizeU, inU]

theorem step_bar {p : List UInt8} {k i : Nat} {now : List UInt8} {th : Int} {mk : List MK} (h : tw p k = ⟨i, now, th, mk⟩) (hc : p[i]? = some 124) : tw p (k + 1) = ⟨i + 1, now, th + 1, mk⟩ := by
  rw [tw_step h hc]
  simp [tstep, hc, heldU, sizeU, inU]

/-- The reader and the document's machine, side by side. -/
structure Sim (p : List UInt8) (r : RS) : Prop where
  kinds : KindsOk r.op
  th1 : 1 ≤ r.th
  th4 : r.th ≤ 4
  form : fw p r.pl = some (encR r)
  toks : ∃ k, tw p k = ⟨r.pl, nowOf r.op, r.th, r.mks⟩

theorem lock_char {i : Nat} {d : UInt8} (h : ([65, 66, 67, 68, 69] : List UInt8)[i]? = some d) : d = UInt8.ofNat (65 + i) ∧ (d.toNat : Int) - 65 = i ∧ i < 5 := by
  have h5 : i < 5 := (List.getElem?_eq_some_iff.1 h).1
  have h6 : i = 0 ∨ i = 1 ∨ i = 2 ∨ i = 3 ∨ i = 4 := by omega
  rcases h6 with rfl | rfl | rfl | rfl | rfl <;> (simp at h; subst h; decide)

theorem lock_char4 {i : Nat} {d : UInt8} (h : ([65, 66, 67, 68] : List UInt8)[i]? = some d) : d = UInt8.ofNat (65 + i) ∧ (d.toNat : Int) - 65 = i ∧ i < 4 := by
  have h5 : i < 4 := (List.getElem?_eq_some_iff.1 h).1
  have h6 : i = 0 ∨ i = 1 ∨ i = 2 ∨ i = 3 := by omega
  rcases h6 with rfl | rfl | rfl | rfl <;> (simp at h; subst h; decide)

theorem glob_char {i : Nat} {d : UInt8} (h : ([120, 121, 122] : List UInt8)[i]? = some d) : (d.toNat : Int) - 120 = i := by
  have h5 : i < 3 := (List.getElem?_eq_some_iff.1 h).1
  have h6 : i = 0 ∨ i = 1 ∨ i = 2 := by omega
  rcases h6 with rfl | rfl | rfl <;> (simp at h; subst h; decide)

theorem gp_char {i : Nat} {c : UInt8} (h : ([103, 112] : List UInt8)[i]? = some c) : (c = 103 ∨ c = 112) ∧ ((if i = 1 then (2 : Int) else 1) = if c = 112 then 2 else 1) := by
  have h5 : i < 2 := (List.getElem?_eq_some_iff.1 h).1
  have h6 : i = 0 ∨ i = 1 := by omega
  rcases h6 with rfl | rfl <;> (simp at h; subst h; decide)

/-- The access, wherever it stands: from a form that begins with what allows it. -/
theorem access_sim {p : List UInt8} {r : RS} {k : Nat} {f X : List UInt8} (hl : LocksOk r.op) (hq : r.pl ≤ p.length) (hf : fw p r.pl = some f) (hfw : wholeF f = false ∨ r.pl < p.length)
    (hg : ∀ c, c = 103 ∨ c = 112 → nxt f c = (118 :: X, true)) (hb : ∀ c, p[r.pl]? = some c → inU [103, 112] c = false → (nxt f c).2 = false) (ht : tw p k = ⟨r.pl, nowOf r.op, r.th, r.mks⟩) :
    ((r.access p).2 = false → Fail p (r.access p).1.pl) ∧
    ((r.access p).2 = true → (r.access p).1.pl = r.pl + 2 ∧ (r.access p).1.op = r.op ∧ (r.access p).1.th = r.th ∧ fw p (r.pl + 2) = some X ∧ tw p (k + 1) = ⟨r.pl + 2, nowOf r.op, r.th, (r.access p).1.mks⟩) := by
  unfold RS.access
  cases hx : nxI p r.pl [103, 112] with
  | none =>
    refine ⟨fun _ => ?_, by simp⟩
    by_cases hlt : r.pl < p.length
    · left
      have hc := List.getElem?_eq_getElem hlt
      exact ⟨f, p[r.pl], hlt, hf, hc, hb _ hc (by rw [← nxI_in hc, hx]; rfl)⟩
    · right
      exact ⟨by simp; omega, f, hf, by rcases hfw with h | h; exact h; exact absurd h hlt⟩
  | some i =>
    obtain ⟨c, hc, hci⟩ := nxI_char hx
    obtain ⟨hcg, hck⟩ := gp_char hci
    have hf1 := fw_step hf hc (hg c hcg)
    have hlt := nxI_lt hx
    cases hy : nxI p (r.pl + 1) [120, 121, 122] with
    | none =>
      refine ⟨fun _ => ?_, by simp⟩
      exact fail_at (q := r.pl + 1) hf1 (by decide) (by decide) st_v hy (by omega)
    | some g =>
      refine ⟨by simp, fun _ => ?_⟩
      obtain ⟨d, hd, hdi⟩ := nxI_char hy
      have hf2 := ok_at hf1 (by decide) (by decide) st_v hy
      have hs := step_access ht hc hd hcg
      refine ⟨rfl, rfl, rfl, hf2, ?_⟩
      rw [hs]
      simp only [RS.to, RS.mark, TS.mk.injEq, true_and]
      rw [mark_eq hl, hck, glob_char hdi]

end Go.Proofs.Ytnpkambjlfkhgaa
