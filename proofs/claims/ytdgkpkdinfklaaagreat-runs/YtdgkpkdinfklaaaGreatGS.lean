import Derived.Test.YtdgkpkdinfklaaaGreatGQ
namespace Go.Proofs.YtdgkpkdinfklaaaGreat

/-! One thread alone. -/

abbrev Bal (a : List UInt8) : Prop := ∀ d z, blkG d (a ++ z) = (a ++ (blkG d z).1, (blkG d z).2)

theorem Bal.cut {a a' x x' : List UInt8} (h : Bal a) (h' : Bal a') (e : a ++ 125 :: x = a' ++ 125 :: x') : a = a' ∧ x = x' := by
  have h1 : blkG 0 (a ++ 125 :: x) = (a, x) := by rw [h, blk_end]; simp
  have h2 : blkG 0 (a' ++ 125 :: x') = (a', x') := by rw [h', blk_end]; simp
  rw [e, h2] at h1
  exact ⟨(congrArg Prod.fst h1).symm, (congrArg Prod.snd h1).symm⟩

theorem TD.get_inv {K s : List UInt8} {c v : UInt8} (h : TD [] K (c :: v :: s)) (hc : c = 103 ∨ c = 112 ∨ c = 105) : TD [] K s := by
  generalize hs : c :: v :: s = x at h
  cases h with
  | nil => cases hs
  | acc _ _ _ _ h => injection hs with _ hs; injection hs with _ hs; subst hs; exact h
  | add _ _ h => injection hs with _ hs; injection hs with _ hs; subst hs; exact h
  | out h => injection hs with e _; subst e; rcases hc with hc | hc | hc <;> cases hc
  | take _ _ h => injection hs with e _; subst e; rcases h with rfl | rfl <;> (rcases hc with hc | hc | hc <;> cases hc)
  | give _ _ h => injection hs with e _; subst e; rcases h with rfl | rfl <;> (rcases hc with hc | hc | hc <;> cases hc)
  | branch _ _ _ => injection hs with e _; subst e; rcases hc with hc | hc | hc <;> cases hc
  | loop _ _ _ => injection hs with e _; subst e; rcases hc with hc | hc | hc <;> cases hc

theorem TD.out_inv {K s : List UInt8} (h : TD [] K (111 :: s)) : TD [] K s := by
  generalize hs : 111 :: s = x at h
  cases h with
  | nil => cases hs
  | acc _ _ h => injection hs with e _; rcases h with rfl | rfl <;> cases e
  | add _ _ h => injection hs with e _; cases e
  | out h => injection hs with _ hs; subst hs; exact h
  | take _ _ h => injection hs with e _; rcases h with rfl | rfl <;> cases e
  | give _ _ h => injection hs with e _; rcases h with rfl | rfl <;> cases e
  | branch _ _ _ => injection hs with e _; cases e
  | loop _ _ _ => injection hs with e _; cases e

theorem TD.take_inv {K s : List UInt8} {c l : UInt8} (h : TD [] K (c :: l :: s)) (hc : c = 91 ∨ c = 60) : inU K l = false ∧ TD [] (l :: K) s := by
  generalize hs : c :: l :: s = x at h
  cases h with
  | nil => cases hs
  | acc _ _ h => injection hs with e _; subst e; rcases h with rfl | rfl <;> (rcases hc with hc | hc <;> cases hc)
  | add _ _ h => injection hs with e _; subst e; rcases hc with hc | hc <;> cases hc
  | out h => injection hs with e _; subst e; rcases hc with hc | hc <;> cases hc
  | take _ _ _ _ hn h => injection hs with _ hs; injection hs with e hs; subst e; subst hs; rw [List.append_nil] at hn; exact ⟨hn, h⟩
  | give _ _ h => injection hs with e _; subst e; rcases h with rfl | rfl <;> (rcases hc with hc | hc <;> cases hc)
  | branch _ _ _ => injection hs with e _; subst e; rcases hc with hc | hc <;> cases hc
  | loop _ _ _ => injection hs with e _; subst e; rcases hc with hc | hc <;> cases hc

theorem TD.give_inv {K s : List UInt8} {c l : UInt8} (h : TD [] (l :: K) (c :: s)) (hc : c = 93 ∨ c = 62) : TD [] K s := by
  generalize hs : c :: s = x at h
  generalize hk : l :: K = y at h
  cases h with
  | nil => cases hs
  | acc _ _ h => injection hs with e _; subst e; rcases h with rfl | rfl <;> (rcases hc with hc | hc <;> cases hc)
  | add _ _ h => injection hs with e _; subst e; rcases hc with hc | hc <;> cases hc
  | out h => injection hs with e _; subst e; rcases hc with hc | hc <;> cases hc
  | take _ _ h => injection hs with e _; subst e; rcases h with rfl | rfl <;> (rcases hc with hc | hc <;> cases hc)
  | give _ _ _ h => injection hs with _ hs; injection hk with _ hk; subst hs; subst hk; exact h
  | branch _ _ _ => injection hs with e _; subst e; rcases hc with hc | hc <;> cases hc
  | loop _ _ _ => injection hs with e _; subst e; rcases hc with hc | hc <;> cases hc

theorem TD.branch_inv {K a b s : List UInt8} (h : TD [] K (63 :: 123 :: (a ++ 125 :: 123 :: (b ++ 125 :: s)))) (ha : Bal a) (hb : Bal b) : TD [] K (a ++ s) ∧ TD [] K (b ++ s) := by
  generalize hs : 63 :: 123 :: (a ++ 125 :: 123 :: (b ++ 125 :: s)) = x at h
  cases h with
  | nil => cases hs
  | acc _ _ h => injection hs with e _; rcases h with rfl | rfl <;> cases e
  | add _ _ h => injection hs with e _; cases e
  | out h => injection hs with e _; cases e
  | take _ _ h => injection hs with e _; rcases h with rfl | rfl <;> cases e
  | give _ _ h => injection hs with e _; rcases h with rfl | rfl <;> cases e
  | @branch _ _ a' b' s' h1 h2 h3 =>
    injection hs with _ hs
    injection hs with _ hs
    obtain ⟨rfl, e⟩ := Bal.cut ha h1.blk hs
    injection e with _ e
    obtain ⟨rfl, rfl⟩ := Bal.cut hb h2.blk e
    exact ⟨TD.body h1 h3, TD.body h2 h3⟩
  | loop _ _ _ => injection hs with e _; cases e

theorem TD.loop_inv {K a s : List UInt8} (h : TD [] K (33 :: 123 :: (a ++ 125 :: s))) (ha : Bal a) : TD [] K (a ++ 33 :: 123 :: (a ++ 125 :: s)) ∧ TD [] K s := by
  have H := h
  generalize hs : 33 :: 123 :: (a ++ 125 :: s) = x at h
  cases h with
  | nil => cases hs
  | acc _ _ h => injection hs with e _; rcases h with rfl | rfl <;> cases e
  | add _ _ h => injection hs with e _; cases e
  | out h => injection hs with e _; cases e
  | take _ _ h => injection hs with e _; rcases h with rfl | rfl <;> cases e
  | give _ _ h => injection hs with e _; rcases h with rfl | rfl <;> cases e
  | branch _ _ _ => injection hs with e _; cases e
  | @loop _ _ a' s' h0 h1 h2 =>
    injection hs with _ hs
    injection hs with _ hs
    obtain ⟨rfl, rfl⟩ := Bal.cut ha h1.blk hs
    exact ⟨TD.body h1 H, h2⟩

/-! Clocks of one thread. -/
def sole (k : Nat) (x : Int) : CK := CK.zero.set k x
theorem sole_zero {k : Nat} : sole k 0 = CK.zero := by
  match k with
  | 0 => rfl
  | 1 => rfl
  | 2 => rfl
  | (n + 3) => rfl
theorem sole_get {k : Nat} (x : Int) : (sole k x).get k = x := by
  match k with
  | 0 => rfl
  | 1 => rfl
  | 2 => rfl
  | (n + 3) => rfl
theorem sole_set {k : Nat} (x y : Int) : (sole k x).set k y = sole k y := by
  match k with
  | 0 => rfl
  | 1 => rfl
  | 2 => rfl
  | (n + 3) => rfl
theorem sole_learn {k : Nat} (x y : Int) : (sole k x).learn (sole k y) = sole k (mx x y) := by
  match k with
  | 0 => rfl
  | 1 => rfl
  | 2 => rfl
  | (n + 3) => rfl
theorem sole_miss {k : Nat} {x y : Int} (h : y ≤ x) : (sole k x).misses (sole k y) = false := by
  have hn : ¬ x < y := by omega
  match k with
  | 0 => simp [sole, CK.set, CK.misses, CK.zero, hn]
  | 1 => simp [sole, CK.set, CK.misses, CK.zero, hn]
  | 2 => simp [sole, CK.set, CK.misses, CK.zero, hn]
  | (n + 3) => simp [sole, CK.set, CK.misses, CK.zero, hn]

/-- A clock that counts thread k alone, up to x. -/
def Sole (k : Nat) (x : Int) (c : CK) : Prop := ∃ y, 0 ≤ y ∧ y ≤ x ∧ c = sole k y
theorem Sole.mono {k : Nat} {x z : Int} {c : CK} (h : Sole k x c) (hz : x ≤ z) : Sole k z c := by
  obtain ⟨y, h1, h2, h3⟩ := h
  exact ⟨y, h1, by omega, h3⟩

/-- The machine, where thread k alone was picked: x its count, K its locks, s what is left of it. -/
structure AI (F : List ST) (ts : List (Nat × List UInt8)) (k : Nat) (ths : List TH) (c : CS) (t : TH) (x : Int) (K s : List UInt8) : Prop where
  len : ths.length = ts.length
  at' : ths[k]? = some t
  nm : t.name = (k : Int) + 1
  kn : t.kn = sole k x
  x0 : 0 ≤ x
  oth : ∀ (i : Nat) (u : TH), i ≠ k → ths[i]? = some u → u.name = (i : Int) + 1
  lf : ∃ m : Nat, t.next = m ∧ Lf F K m s
  td : TD [] K s
  nd : K.Nodup
  ks : ∀ l ∈ K, inU [65, 66, 67, 68, 69] l = true
  gl3 : c.gl.length = 3
  lk5 : c.lk.length = 5
  gk : ∀ g ∈ c.gl, Sole k x g.gets ∧ Sole k x g.puts
  lkk : ∀ l ∈ c.lk, Sole k x l.kn
  hold : ∀ j : Nat, j < 5 → (c.lk.getD j lk0).holder = if inU K (UInt8.ofNat (65 + j)) then (k : Int) + 1 else 0
  nr : c.raced = false

end Go.Proofs.YtdgkpkdinfklaaaGreat

namespace Go.Proofs.YtdgkpkdinfklaaaGreat

theorem ofNat_inj5 {i j : Nat} (hi : i < 5) (hj : j < 5) (h : UInt8.ofNat (65 + i) = UInt8.ofNat (65 + j)) : i = j := by
  have h1 := congrArg UInt8.toNat h
  rw [UInt8.toNat_ofNat_of_lt' (by show 65 + i < 256; omega), UInt8.toNat_ofNat_of_lt' (by show 65 + j < 256; omega)] at h1
  omega

theorem lock_no {l : UInt8} {u : Int} (h : inU [65, 66, 67, 68, 69] l = true) (hu : u = (l.toNat : Int) - 65) : ∃ n : Nat, n < 5 ∧ u = n ∧ u.toNat = n ∧ l = UInt8.ofNat (65 + n) := by
  have := inU_range h
  refine ⟨l.toNat - 65, by omega, by omega, by omega, ?_⟩
  apply UInt8.toNat_inj.1
  rw [UInt8.toNat_ofNat_of_lt' (by show 65 + (l.toNat - 65) < 256; omega)]
  omega

theorem inU_cons (l c : UInt8) (K : List UInt8) : inU (l :: K) c = (l == c || inU K c) := by simp [inU]

section
variable {F : List ST} {ts : List (Nat × List UInt8)} {k : Nat} {ths : List TH} {c : CS} {t : TH} {x : Int} {K s : List UInt8}

theorem AI.upd (h : AI F ts k ths c t x K s) {c' : CS} {t' : TH} {x' : Int} {K' s' : List UInt8} (e1 : t'.name = t.name) (e2 : t'.kn = sole k x') (hx : x ≤ x') (e3 : ∃ m : Nat, t'.next = m ∧ Lf F K' m s') (e4 : TD [] K' s') (e5 : K'.Nodup) (e6 : ∀ l ∈ K', inU [65, 66, 67, 68, 69] l = true)
    (e7 : c'.gl.length = 3) (e8 : c'.lk.length = 5) (e9 : ∀ g ∈ c'.gl, Sole k x' g.gets ∧ Sole k x' g.puts) (e10 : ∀ l ∈ c'.lk, Sole k x' l.kn) (e11 : ∀ j : Nat, j < 5 → (c'.lk.getD j lk0).holder = if inU K' (UInt8.ofNat (65 + j)) then (k : Int) + 1 else 0) (e12 : c'.raced = false) : AI F ts k (ths.set k t') c' t' x' K' s' := by
  have hlt := (List.getElem?_eq_some_iff.1 h.at').1
  refine ⟨by simpa using h.len, by rw [List.getElem?_set_self hlt], by rw [e1]; exact h.nm, e2, by have := h.x0; omega, ?_, e3, e4, e5, e6, e7, e8, e9, e10, e11, e12⟩
  intro i u hi hu
  rw [List.getElem?_set_ne (fun e => hi e.symm)] at hu
  exact h.oth i u hi hu

theorem AI.gm (h : AI F ts k ths c t x K s) : ∀ g ∈ c.gl, Sole k (x + 1) g.gets ∧ Sole k (x + 1) g.puts := fun g hg => ⟨(h.gk g hg).1.mono (by omega), (h.gk g hg).2.mono (by omega)⟩
theorem AI.lm (h : AI F ts k ths c t x K s) : ∀ l ∈ c.lk, Sole k (x + 1) l.kn := fun l hl => (h.lkk l hl).mono (by omega)

theorem AI.pick (hj : JOk F) (hl : LastEnd F) (hk4 : k < 4) (h : AI F ts k ths c t x K s) :
    ((upc F t.next).kind = 9 ∧ pickM F ths c (UInt8.ofNat (49 + k)) = (ths, c, 46)) ∨
    ((upc F t.next).kind ≠ 9 ∧ ∃ t' x' K' s', AI F ts k (pickM F ths c (UInt8.ofNat (49 + k))).1 (pickM F ths c (UInt8.ofNat (49 + k))).2.1 t' x' K' s' ∧ (pickM F ths c (UInt8.ofNat (49 + k))).2.2 ≠ 46) := by
  have hnv : (UInt8.ofNat (49 + k)).toNat = 49 + k := UInt8.toNat_ofNat_of_lt' (by show 49 + k < 256; omega)
  obtain ⟨m, e1, e2⟩ := h.lf
  have hx := e2.next hj hl
  rw [← e1] at hx
  obtain ⟨u, hu⟩ : ∃ u, u = upc F t.next := ⟨_, rfl⟩
  have hix : t.ix = k := by unfold TH.ix; rw [h.nm]; omega
  have hkn1 : t.kn.set t.ix (t.kn.get t.ix + 1) = sole k (x + 1) := by rw [hix, h.kn, sole_get, sole_set]
  have hpm : pickM F ths c (UInt8.ofNat (49 + k)) = if u.kind = 9 ∨ awaitedM c.lk u ≠ 0 then (ths, c, 46) else (ths.set k (c.does { t with next := u.nx, kn := sole k (x + 1) } u).2.1, (c.does { t with next := u.nx, kn := sole k (x + 1) } u).1, (c.does { t with next := u.nx, kn := sole k (x + 1) } u).2.2) := by
    unfold pickM
    rw [hnv, if_neg (by omega), show 49 + k - 49 = k by omega, h.at']
    simp only
    rw [← hu, hkn1]
  by_cases h9 : u.kind = 9
  · left
    exact ⟨by rw [← hu]; exact h9, by rw [hpm, if_pos (.inl h9)]⟩
  right
  refine ⟨by rw [← hu]; exact h9, ?_⟩
  rw [← hu] at hx
  have go : awaitedM c.lk u = 0 → pickM F ths c (UInt8.ofNat (49 + k)) = (ths.set k (c.does { t with next := u.nx, kn := sole k (x + 1) } u).2.1, (c.does { t with next := u.nx, kn := sole k (x + 1) } u).1, (c.does { t with next := u.nx, kn := sole k (x + 1) } u).2.2) := fun ha => by
    rw [hpm, if_neg (by rw [not_or]; exact ⟨h9, by simp [ha]⟩)]
  have aw : u.kind ≠ 6 → awaitedM c.lk u = 0 := fun h6 => if_neg (fun e => h6 e.1)
  have hxx : x ≤ x + 1 := by omega
  cases hx with
  | fin h' => exact absurd h' h9
  | get v k' hk hv hn' hq hr =>
    rw [go (aw (by omega))]
    have hv' := glob_range hv
    have hnn : u.num.toNat < c.gl.length := by rw [h.gl3]; omega
    have hg := h.gk _ (getD_mem (d := gb0) hnn)
    obtain ⟨y, y0, y1, y2⟩ := hg.2
    have hd : c.does { t with next := u.nx, kn := sole k (x + 1) } u = ({ c with gl := c.gl.set u.num.toNat (noteG (c.g u.num.toNat) { t with next := u.nx, kn := sole k (x + 1) }), raced := c.raced || (sole k (x + 1)).misses (c.g u.num.toNat).puts }, { t with next := u.nx, kn := sole k (x + 1), reg := (c.g u.num.toNat).val }, 103) := by unfold CS.does; rw [if_pos hk]
    rw [hd]
    refine ⟨_, x + 1, K, _, h.upd (c' := { c with gl := c.gl.set u.num.toNat (noteG (c.g u.num.toNat) { t with next := u.nx, kn := sole k (x + 1) }), raced := c.raced || (sole k (x + 1)).misses (c.g u.num.toNat).puts }) rfl rfl hxx ⟨k', hq, hr⟩ (h.td.get_inv (.inl rfl)) h.nd h.ks (by simpa using h.gl3) h.lk5 ?_ h.lm h.hold ?_, by show (103 : UInt8) ≠ 46; decide⟩
    · intro g hg'
      rcases List.mem_or_eq_of_mem_set hg' with h1 | rfl
      · exact h.gm g h1
      · refine ⟨⟨x + 1, by have := h.x0; omega, by omega, ?_⟩, hg.2.mono hxx⟩
        obtain ⟨z, _, _, z2⟩ := hg.1
        show ((c.g u.num.toNat).gets).set (TH.ix { t with next := u.nx, kn := sole k (x + 1) }) ((sole k (x + 1)).get (TH.ix { t with next := u.nx, kn := sole k (x + 1) })) = _
        have : TH.ix { t with next := u.nx, kn := sole k (x + 1) } = k := hix
        rw [this, sole_get]
        show ((c.gl.getD u.num.toNat gb0).gets).set k (x + 1) = _
        rw [z2, sole_set]
    · show (c.raced || (sole k (x + 1)).misses (c.gl.getD u.num.toNat gb0).puts) = false
      rw [h.nr, y2, sole_miss (by omega)]; rfl
  | put v k' hk hv hn' hq hr =>
    rw [go (aw (by omega))]
    have hv' := glob_range hv
    have hnn : u.num.toNat < c.gl.length := by rw [h.gl3]; omega
    have hg := h.gk _ (getD_mem (d := gb0) hnn)
    obtain ⟨y, y0, y1, y2⟩ := hg.2
    obtain ⟨z, z0, z1, z2⟩ := hg.1
    have hd : c.does { t with next := u.nx, kn := sole k (x + 1) } u = ({ c with gl := c.gl.set u.num.toNat (noteP (c.g u.num.toNat) { t with next := u.nx, kn := sole k (x + 1) }), raced := (c.raced || (sole k (x + 1)).misses (c.g u.num.toNat).puts) || (sole k (x + 1)).misses (c.g u.num.toNat).gets }, { t with next := u.nx, kn := sole k (x + 1) }, 112) := by unfold CS.does; rw [if_neg (by omega), if_pos hk]
    rw [hd]
    refine ⟨_, x + 1, K, _, h.upd (c' := { c with gl := c.gl.set u.num.toNat (noteP (c.g u.num.toNat) { t with next := u.nx, kn := sole k (x + 1) }), raced := (c.raced || (sole k (x + 1)).misses (c.g u.num.toNat).puts) || (sole k (x + 1)).misses (c.g u.num.toNat).gets }) rfl rfl hxx ⟨k', hq, hr⟩ (h.td.get_inv (.inr (.inl rfl))) h.nd h.ks (by simpa using h.gl3) h.lk5 ?_ h.lm h.hold ?_, by show (112 : UInt8) ≠ 46; decide⟩
    · intro g hg'
      rcases List.mem_or_eq_of_mem_set hg' with h1 | rfl
      · exact h.gm g h1
      · refine ⟨hg.1.mono hxx, ⟨x + 1, by have := h.x0; omega, by omega, ?_⟩⟩
        show ((c.g u.num.toNat).puts).set (TH.ix { t with next := u.nx, kn := sole k (x + 1) }) ((sole k (x + 1)).get (TH.ix { t with next := u.nx, kn := sole k (x + 1) })) = _
        have : TH.ix { t with next := u.nx, kn := sole k (x + 1) } = k := hix
        rw [this, sole_get]
        show ((c.gl.getD u.num.toNat gb0).puts).set k (x + 1) = _
        rw [y2, sole_set]
    · show ((c.raced || (sole k (x + 1)).misses (c.gl.getD u.num.toNat gb0).puts) || (sole k (x + 1)).misses (c.gl.getD u.num.toNat gb0).gets) = false
      rw [h.nr, y2, z2, sole_miss (by omega), sole_miss (by omega)]; rfl
  | add d k' hk hv hn' hq hr =>
    rw [go (aw (by omega))]
    have hd : c.does { t with next := u.nx, kn := sole k (x + 1) } u = (c, TH.add { t with next := u.nx, kn := sole k (x + 1) } u.num, 105) := by unfold CS.does; rw [if_neg (by omega), if_neg (by omega), if_pos hk]
    rw [hd]
    exact ⟨_, x + 1, K, _, h.upd rfl rfl hxx ⟨k', hq, hr⟩ (h.td.get_inv (.inr (.inr rfl))) h.nd h.ks h.gl3 h.lk5 h.gm h.lm h.hold h.nr, by show (105 : UInt8) ≠ 46; decide⟩
  | out k' hk hq hr =>
    rw [go (aw (by omega))]
    have hd : c.does { t with next := u.nx, kn := sole k (x + 1) } u = ({ c with pr := c.pr ++ [UInt8.ofNat (48 + t.reg.toNat)] }, { t with next := u.nx, kn := sole k (x + 1) }, 111) := by unfold CS.does; rw [if_neg (by omega), if_neg (by omega), if_neg (by omega), if_pos hk]
    rw [hd]
    exact ⟨_, x + 1, K, _, h.upd (c' := { c with pr := c.pr ++ [UInt8.ofNat (48 + t.reg.toNat)] }) rfl rfl hxx ⟨k', hq, hr⟩ h.td.out_inv h.nd h.ks h.gl3 h.lk5 h.gm h.lm h.hold h.nr, by show (111 : UInt8) ≠ 46; decide⟩
  | take cc l k' hk hc hv hn' hq hr =>
    obtain ⟨n, n5, en, en2, el⟩ := lock_no hv hn'
    have hti := h.td.take_inv (by rcases hc with ⟨rfl, _⟩ | ⟨rfl, _⟩ <;> simp)
    have ha : awaitedM c.lk u = 0 := by
      unfold awaitedM
      rw [if_pos ⟨hk, by omega, by omega⟩, en2, h.hold n n5, ← el, hti.1]; rfl
    rw [go ha]
    have hnn : n < c.lk.length := by rw [h.lk5]; exact n5
    have hlb := h.lkk _ (getD_mem (d := lk0) hnn)
    obtain ⟨y, y0, y1, y2⟩ := hlb
    have hd : c.does { t with next := u.nx, kn := sole k (x + 1) } u = ({ c with lk := c.lk.set n { c.l n with holder := t.name } }, { t with next := u.nx, kn := sole k (x + 1) }, if u.mend then 60 else 91) := by
      unfold CS.does
      rw [if_neg (by omega), if_neg (by omega), if_neg (by omega), if_neg (by omega), if_neg (by omega), if_pos hk, en2]
      have : (sole k (x + 1)).learn (c.l n).kn = sole k (x + 1) := by
        show (sole k (x + 1)).learn (c.lk.getD n lk0).kn = _
        rw [y2, sole_learn, mx_ge (by omega)]
      simp only [this]
    rw [hd]
    refine ⟨_, x + 1, l :: K, _, h.upd (c' := { c with lk := c.lk.set n { c.l n with holder := t.name } }) rfl rfl hxx ⟨k', hq, hr⟩ hti.2 ?_ ?_ h.gl3 (by simpa using h.lk5) h.gm ?_ ?_ h.nr, by show (if u.mend = true then (60 : UInt8) else 91) ≠ 46; split <;> decide⟩
    · refine List.nodup_cons.2 ⟨fun e => ?_, h.nd⟩
      have := inU_mem.2 e
      rw [hti.1] at this; cases this
    · intro z hz
      rcases List.mem_cons.1 hz with rfl | hz
      · exact hv
      · exact h.ks z hz
    · intro z hz
      rcases List.mem_or_eq_of_mem_set hz with h1 | rfl
      · exact h.lm z h1
      · exact ⟨y, y0, by omega, y2⟩
    · intro j hj5
      show ((c.lk.set n { c.l n with holder := t.name }).getD j lk0).holder = _
      rw [inU_cons]
      by_cases hjn : n = j
      · subst hjn
        rw [List.getD_eq_getElem?_getD, List.getElem?_set_self hnn, el]
        simp [h.nm]
      · rw [List.getD_eq_getElem?_getD, List.getElem?_set_ne hjn, ← List.getD_eq_getElem?_getD, h.hold j hj5]
        have hne : (l == UInt8.ofNat (65 + j)) = false := by
          rw [beq_eq_false_iff_ne, el]
          exact fun e => hjn (ofNat_inj5 n5 hj5 e)
        rw [hne, Bool.false_or]
  | @give K' s' cc l k' hk hc hn' hq hr =>
    rw [go (aw (by omega))]
    have hv := h.ks l (by simp)
    obtain ⟨n, n5, en, en2, el⟩ := lock_no hv hn'
    have hnn : n < c.lk.length := by rw [h.lk5]; exact n5
    have hnd := List.nodup_cons.1 h.nd
    have hd : c.does { t with next := u.nx, kn := sole k (x + 1) } u = ({ c with lk := c.lk.set n ⟨0, sole k (x + 1)⟩ }, { t with next := u.nx, kn := sole k (x + 1) }, if u.mend then 62 else 93) := by unfold CS.does; rw [if_neg (by omega), if_neg (by omega), if_neg (by omega), if_neg (by omega), if_neg (by omega), if_neg (by omega), if_pos hk, en2]
    rw [hd]
    refine ⟨_, x + 1, K', _, h.upd (c' := { c with lk := c.lk.set n ⟨0, sole k (x + 1)⟩ }) rfl rfl hxx ⟨k', hq, hr⟩ (h.td.give_inv (by rcases hc with ⟨rfl, _⟩ | ⟨rfl, _⟩ <;> simp)) hnd.2 (fun z hz => h.ks z (List.mem_cons_of_mem _ hz)) h.gl3 (by simpa using h.lk5) h.gm ?_ ?_ h.nr, by show (if u.mend = true then (62 : UInt8) else 93) ≠ 46; split <;> decide⟩
    · intro z hz
      rcases List.mem_or_eq_of_mem_set hz with h1 | rfl
      · exact h.lm z h1
      · exact ⟨x + 1, by have := h.x0; omega, by omega, rfl⟩
    · intro j hj5
      show ((c.lk.set n ⟨0, sole k (x + 1)⟩).getD j lk0).holder = _
      by_cases hjn : n = j
      · subst hjn
        have hno : inU K' (UInt8.ofNat (65 + n)) = false := by
          cases hi : inU K' (UInt8.ofNat (65 + n)) with
          | false => rfl
          | true => exact absurd (by rw [el]; exact inU_mem.1 hi) hnd.1
        rw [List.getD_eq_getElem?_getD, List.getElem?_set_self hnn, hno]; rfl
      · have hh := h.hold j hj5
        have hne : (l == UInt8.ofNat (65 + j)) = false := by
          rw [beq_eq_false_iff_ne, el]
          exact fun e => hjn (ofNat_inj5 n5 hj5 e)
        rw [inU_cons, hne, Bool.false_or] at hh
        rw [List.getD_eq_getElem?_getD, List.getElem?_set_ne hjn, ← List.getD_eq_getElem?_getD, hh]
  | branch k' e hk hq he ha hb hr hr2 =>
    rw [go (aw (by omega))]
    have hti := h.td.branch_inv ha hb
    have hd : c.does { t with next := u.nx, kn := sole k (x + 1) } u = (c, TH.test { t with next := u.nx, kn := sole k (x + 1) } u.el, TH.tested { t with next := u.nx, kn := sole k (x + 1) }) := by unfold CS.does; rw [if_neg (by omega), if_neg (by omega), if_neg (by omega), if_neg (by omega), if_pos hk]
    rw [hd]
    unfold TH.test TH.tested
    simp only
    by_cases hz : t.reg = 0
    · rw [if_pos hz, if_pos hz]
      exact ⟨_, x + 1, K, _, h.upd rfl rfl hxx ⟨e, he, hr2⟩ hti.2 h.nd h.ks h.gl3 h.lk5 h.gm h.lm h.hold h.nr, by show (102 : UInt8) ≠ 46; decide⟩
    · rw [if_neg hz, if_neg hz]
      exact ⟨_, x + 1, K, _, h.upd rfl rfl hxx ⟨k', hq, hr⟩ hti.1 h.nd h.ks h.gl3 h.lk5 h.gm h.lm h.hold h.nr, by show (116 : UInt8) ≠ 46; decide⟩
  | loop k' e hk hq he ha hr hr2 =>
    rw [go (aw (by omega))]
    have hti := h.td.loop_inv ha
    have hd : c.does { t with next := u.nx, kn := sole k (x + 1) } u = (c, TH.test { t with next := u.nx, kn := sole k (x + 1) } u.el, TH.tested { t with next := u.nx, kn := sole k (x + 1) }) := by unfold CS.does; rw [if_neg (by omega), if_neg (by omega), if_neg (by omega), if_neg (by omega), if_pos hk]
    rw [hd]
    unfold TH.test TH.tested
    simp only
    by_cases hz : t.reg = 0
    · rw [if_pos hz, if_pos hz]
      exact ⟨_, x + 1, K, _, h.upd rfl rfl hxx ⟨e, he, hr2⟩ hti.2 h.nd h.ks h.gl3 h.lk5 h.gm h.lm h.hold h.nr, by show (102 : UInt8) ≠ 46; decide⟩
    · rw [if_neg hz, if_neg hz]
      exact ⟨_, x + 1, K, _, h.upd rfl rfl hxx ⟨k', hq, hr⟩ hti.1 h.nd h.ks h.gl3 h.lk5 h.gm h.lm h.hold h.nr, by show (116 : UInt8) ≠ 46; decide⟩
end

end Go.Proofs.YtdgkpkdinfklaaaGreat

namespace Go.Proofs.YtdgkpkdinfklaaaGreat

def DoneOk (D : List UInt8) : Prop := ∀ i : Nat, D[i]? = some 46 → ∀ y : UInt8, D[i + 1]? = some y → y = 46

theorem DoneOk.snoc {D : List UInt8} {y : UInt8} (h : DoneOk D) (hy : D.getLast? = some 46 → y = 46) : DoneOk (D ++ [y]) := by
  intro i hi z hz
  by_cases h1 : i + 1 < D.length
  · rw [List.getElem?_append_left (by omega)] at hi
    rw [List.getElem?_append_left h1] at hz
    exact h i hi z hz
  · by_cases h2 : i + 1 = D.length
    · rw [List.getElem?_append_left (by omega)] at hi
      rw [List.getElem?_append_right (by omega), h2] at hz
      simp at hz
      rw [← hz]
      refine hy ?_
      rw [List.getLast?_eq_getElem?, ← h2]
      simpa using hi
    · have := (List.getElem?_eq_some_iff.1 hz).1
      simp at this
      omega

/-- A run of thread k alone. -/
structure AR (F : List ST) (ts : List (Nat × List UInt8)) (k : Nat) (u : RU) : Prop where
  ai : ∃ t x K s, AI F ts k u.ths u.c t x K s ∧ (u.done.getLast? = some 46 → (upc F t.next).kind = 9)
  race : u.race = 0
  ok : DoneOk u.done

theorem AR.start {p : List UInt8} {F : List ST} {ts : List (Nat × List UInt8)} (h : Prog p F ts) (htd : ∀ a ∈ splitBar p, TD [] [] a) {k : Nat} (hk : k < ts.length) (q : List UInt8) : AR F ts k (runU F q 0) := by
  have e : (runU F q 0).ths = ts.mapIdx fun i x => th0 i x.1 := h.thr.start
  have hg : ts[k]? = some ts[k] := List.getElem?_eq_getElem hk
  refine ⟨⟨th0 k ts[k].1, 0, [], ts[k].2, ⟨?_, ?_, rfl, by rw [sole_zero]; rfl, Int.le_refl _, ?_, ⟨ts[k].1, rfl, h.thr.lf (Nat.le_refl _) _ (List.getElem_mem hk)⟩, ?_, List.nodup_nil, by simp, rfl, rfl, ?_, ?_, ?_, rfl⟩, by simp [runU]⟩, rfl, by intro i hi; simp [runU] at hi⟩
  · rw [e]; simp
  · rw [e, List.getElem?_mapIdx, hg]; rfl
  · intro i u _ hu
    rw [e, List.getElem?_mapIdx] at hu
    cases hx : ts[i]? with
    | none => rw [hx] at hu; cases hu
    | some x => rw [hx] at hu; rw [← Option.some.inj hu]; rfl
  · refine htd _ ?_
    rw [h.spl]
    exact List.mem_map.2 ⟨ts[k], List.getElem_mem hk, rfl⟩
  · intro g hg'
    simp [runU, cs0] at hg'
    subst hg'
    exact ⟨⟨0, Int.le_refl _, Int.le_refl _, by rw [sole_zero]; rfl⟩, ⟨0, Int.le_refl _, Int.le_refl _, by rw [sole_zero]; rfl⟩⟩
  · intro l hl
    simp [runU, cs0] at hl
    subst hl
    exact ⟨0, Int.le_refl _, Int.le_refl _, by rw [sole_zero]; rfl⟩
  · intro j hj
    rcases less5 hj with rfl | rfl | rfl | rfl | rfl <;> rfl

theorem AR.step {F : List ST} {ts : List (Nat × List UInt8)} {k : Nat} {u : RU} (hj : JOk F) (hl : LastEnd F) (hk4 : k < 4) (h : AR F ts k u) (m : Nat) : AR F ts k (u.step F m (UInt8.ofNat (49 + k))) := by
  obtain ⟨⟨t, x, K, s, hai, hend⟩, hr, hok⟩ := h
  rcases hai.pick hj hl hk4 with ⟨h9, hp⟩ | ⟨h9, t', x', K', s', hai', hne⟩
  · have e : u.step F m (UInt8.ofNat (49 + k)) = ⟨u.ths, u.c, u.done ++ [46], u.race⟩ := by
      unfold RU.step
      rw [hp]
      simp [hai.nr]
    rw [e]
    exact ⟨⟨t, x, K, s, hai, fun _ => h9⟩, hr, hok.snoc (fun _ => rfl)⟩
  · have hn := hai'.nr
    refine ⟨⟨t', x', K', s', hai', fun hg => ?_⟩, ?_, hok.snoc (fun hg => absurd (hend hg) h9)⟩
    · simp only [RU.step, List.getLast?_concat] at hg
      exact absurd (Option.some.inj hg) hne
    · unfold RU.step
      simp only
      rw [hn]
      simpa using hr

theorem AR.run {p : List UInt8} {F : List ST} {ts : List (Nat × List UInt8)} (h : Prog p F ts) (htd : ∀ a ∈ splitBar p, TD [] [] a) {k : Nat} (hk : k < ts.length) (n : Nat) : ∀ m, AR F ts k (runU F (List.replicate n (UInt8.ofNat (49 + k))) m) := by
  intro m
  induction m with
  | zero => exact AR.start h htd hk _
  | succ m ih =>
    rw [runU]
    split
    · rename_i x hx
      have : x = UInt8.ofNat (49 + k) := by
        rw [List.getElem?_replicate] at hx
        split at hx
        · exact (Option.some.inj hx).symm
        · cases hx
      rw [this]
      exact ih.step h.jok h.thr.lastEnd (by have := h.n4; omega) m
    · exact ih

theorem waitM_mem {F : List ST} {lk : List LK} {S : List TH} {u : TH} (h : u ∈ waitM F lk S) : u ∈ S ∧ ∃ v ∈ S, v.name = awaitedM lk (upc F u.next) := by
  obtain ⟨h1, h2⟩ := List.mem_filter.1 h
  obtain ⟨v, hv, e⟩ := List.any_eq_true.1 h2
  exact ⟨h1, v, hv, by simpa using e⟩

theorem AI.names {F : List ST} {ts : List (Nat × List UInt8)} {k : Nat} {ths : List TH} {c : CS} {t : TH} {x : Int} {K s : List UInt8} (h : AI F ts k ths c t x K s) : ∀ u ∈ ths, 1 ≤ u.name ∧ (u.name = (k : Int) + 1 → u = t) := by
  intro u hu
  obtain ⟨i, hi⟩ := List.mem_iff_getElem?.1 hu
  by_cases hik : i = k
  · subst hik
    rw [h.at'] at hi
    have := Option.some.inj hi
    subst this
    exact ⟨by rw [h.nm]; omega, fun _ => rfl⟩
  · have := h.oth i u hik hi
    exact ⟨by omega, fun e => by omega⟩

theorem AI.aw {F : List ST} {ts : List (Nat × List UInt8)} {k : Nat} {ths : List TH} {c : CS} {t : TH} {x : Int} {K s : List UInt8} (h : AI F ts k ths c t x K s) (u : ST) : awaitedM c.lk u = 0 ∨ awaitedM c.lk u = (k : Int) + 1 := by
  unfold awaitedM
  split
  · rename_i hc
    have := h.hold u.num.toNat (by omega)
    rw [this]
    split
    · exact .inr rfl
    · exact .inl rfl
  · exact .inl rfl

theorem AI.free {F : List ST} {ts : List (Nat × List UInt8)} {k : Nat} {ths : List TH} {c : CS} {t : TH} {x : Int} {K s : List UInt8} (hj : JOk F) (hl : LastEnd F) (h : AI F ts k ths c t x K s) : awaitedM c.lk (upc F t.next) = 0 := by
  obtain ⟨m, e1, e2⟩ := h.lf
  have hx := e2.next hj hl
  rw [← e1] at hx
  generalize upc F t.next = u at hx
  have aw : u.kind ≠ 6 → awaitedM c.lk u = 0 := fun h6 => if_neg (fun e => h6 e.1)
  cases hx with
  | take cc l k' hk hc hv hn' hq hr =>
    obtain ⟨n, n5, en, en2, el⟩ := lock_no hv hn'
    have hti := h.td.take_inv (by rcases hc with ⟨rfl, _⟩ | ⟨rfl, _⟩ <;> simp)
    unfold awaitedM
    rw [if_pos ⟨hk, by omega, by omega⟩, en2, h.hold n n5, ← el, hti.1]; rfl
  | fin hk => exact aw (by omega)
  | get _ _ hk => exact aw (by omega)
  | put _ _ hk => exact aw (by omega)
  | add _ _ hk => exact aw (by omega)
  | out _ hk => exact aw (by omega)
  | give _ _ _ hk => exact aw (by omega)
  | branch _ _ hk => exact aw (by omega)
  | loop _ _ hk => exact aw (by omega)

theorem iterM_nil (F : List ST) (lk : List LK) (S : List TH) (m : Nat) (h : iterM F lk S m = []) : ∀ n, m ≤ n → iterM F lk S n = [] := by
  intro n hn
  induction n with
  | zero => have : m = 0 := by omega
            subst this; exact h
  | succ n ih =>
    by_cases he : m = n + 1
    · subst he; exact h
    · rw [iterM, ih (by omega)]; rfl

/-- Nobody is stuck. -/
theorem AI.unstuck {F : List ST} {ts : List (Nat × List UInt8)} {k : Nat} {ths : List TH} {c : CS} {t : TH} {x : Int} {K s : List UInt8} (hj : JOk F) (hl : LastEnd F) (h : AI F ts k ths c t x K s) : stuckM F c.lk ths = [] := by
  have h1 : ∀ u ∈ iterM F c.lk ths 1, u ∈ ths ∧ u.name ≠ (k : Int) + 1 ∧ 1 ≤ u.name := by
    intro u hu
    obtain ⟨hu1, v, hv, e⟩ := waitM_mem (S := ths) hu
    refine ⟨hu1, fun e' => ?_, (h.names u hu1).1⟩
    have := (h.names u hu1).2 e'
    subst this
    rw [h.free hj hl] at e
    have := (h.names v hv).1
    omega
  have h2 : iterM F c.lk ths 2 = [] := by
    apply List.eq_nil_iff_forall_not_mem.2
    intro u hu
    obtain ⟨hu1, v, hv, e⟩ := waitM_mem (S := iterM F c.lk ths 1) hu
    obtain ⟨_, v2, v3⟩ := h1 v hv
    rcases h.aw (upc F u.next) with h0 | h0
    · rw [h0] at e; omega
    · rw [h0] at e; exact v2 e
  have hlt := (List.getElem?_eq_some_iff.1 h.at').1
  unfold stuckM
  by_cases hn : ths.length = 1
  · have : iterM F c.lk ths 1 = [] := by
      apply List.eq_nil_iff_forall_not_mem.2
      intro u hu
      obtain ⟨hu1, hu2, _⟩ := h1 u hu
      obtain ⟨i, hi⟩ := List.mem_iff_getElem?.1 hu1
      have hi' := (List.getElem?_eq_some_iff.1 hi).1
      have : i = k := by omega
      subst this
      rw [h.at'] at hi
      rw [← Option.some.inj hi, h.nm] at hu2
      exact hu2 rfl
    rw [hn, this]; rfl
  · rw [iterM_nil F c.lk ths 2 h2 ths.length (by omega)]; rfl

end Go.Proofs.YtdgkpkdinfklaaaGreat
