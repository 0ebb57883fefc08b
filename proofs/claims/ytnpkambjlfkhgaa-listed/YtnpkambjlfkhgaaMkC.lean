import Derived.Test.YtnpkambjlfkhgaaMkB
namespace Go.Proofs.Ytnpkambjlfkhgaa
open Go.RowKit

/-- What command gives. -/
def Commanded (w w' : World) (mb : Nat) (la : Option Addr) (ln lc : Nat) (text opn : ByteArray) (e : Ending) : Prop :=
  ∃ (s more opn' : ByteArray) (at_ ac : Nat), e = .returned (.tuple #[.string s, .string more]) ∧ MM w' mb la ln lc at_ text opn' ac ∧ Below mb w w' ∧ s.size ≤ 2 ∧ more.size ≤ 6 ∧
    ((s.data.toList = [] ∧ opn' = opn) ∨ (text.size ≤ 70 ∧ s.data.toList ≠ [] ∧ Cmd opn.data.toList s.data.toList more.data.toList opn'.data.toList))

set_option maxHeartbeats 3200000 in
set_option maxRecDepth 100000 in
theorem command_any (mb : Nat) (la : Option Addr) (ln lc at_ : Nat) (text opn : ByteArray) (ac : Nat) (w : World) (h : MM w mb la ln lc at_ text opn ac) (ho : opn.size ≤ 200) :
    Calls Try.prog 30 #[.pointer (some ⟨mb, 0, none⟩)] w fun e w' => Commanded w w' mb la ln lc text opn e := by
  have HM : Hid (MM w mb la ln lc at_ text opn ac) := h
  clear h
  go_enter Try.func30, Try.ntmps30
  go_wp2_with fail
  refine (mpick_any mb 12 la ln lc at_ text opn ac w HM.out (by decide) (by decide)).mono ?_
  rintro e w1 ⟨r, at1, hr, h70, rfl, hm1, hb1⟩
  have HM1 : Hid (MM w1 mb la ln lc at1 text opn ac) := hm1
  have HB1 : Hid (Below mb w w1) := hb1
  have H70 : Hid (r ≠ 0 → text.size ≤ 70) := h70
  have c5 := hm1.c5
  have f5 := hm1.fz 5
  have hac := hm1.ac10
  clear hm1 hb1 h70 HM
  have h12 : r = 0 ∨ r = 1 ∨ r = 2 ∨ r = 3 ∨ r = 4 ∨ r = 5 ∨ r = 6 ∨ r = 7 ∨ r = 8 ∨ r = 9 ∨ r = 10 ∨ r = 11 := by omega
  rcases h12 with rfl | rfl | rfl | rfl | rfl | rfl | rfl | rfl | rfl | rfl | rfl | rfl
  · go_wp2
    go_ret2
    exact ⟨⟨#[]⟩, ⟨#[]⟩, opn, at1, ac, rfl, HM1.out, HB1.out, by decide, by decide, .inl ⟨rfl, rfl⟩⟩
  · by_cases h10 : 10 ≤ ac
    · go_wp2
      go_ret2
      exact ⟨⟨#[111]⟩, ⟨#[]⟩, opn, at1, ac, rfl, HM1.out, HB1.out, by decide, by decide, .inr ⟨H70.out (by decide), by decide, .out⟩⟩
    · have hm2 : Hid (MM (w1.setCell ⟨mb, 5, none⟩ (.int .i64 ((ac : Int) + 1))) mb la ln lc at1 text opn (ac + 1)) := HM1.out.setAcc (ac + 1) (by omega)
      go_wp2_with fail
      refine (mpick_any mb 3 la ln lc at1 text opn (ac + 1) _ hm2.out (by decide) (by decide)).mono ?_
      rintro e w2 ⟨j, at2, hj, _, rfl, hm3, hb3⟩
      have HM3 : Hid (MM w2 mb la ln lc at2 text opn (ac + 1)) := hm3
      have HB3 : Hid (Below mb w w2) := (HB1.out.setCell (by simp) _).trans hb3
      clear hm3 hb3 c5 f5
      have h3 : j = 0 ∨ j = 1 ∨ j = 2 := by omega
      rcases h3 with rfl | rfl | rfl
      all_goals
        go_wp2_with fail
        go_quiet (fail)
        go_wp2
        go_ret2
        exact ⟨_, ⟨#[]⟩, opn, at2, ac + 1, rfl, HM3.out.drewN _, HB3.out.trans (below_drewN' _ _ _), by decide, by decide, .inr ⟨H70.out (by decide), by decide, .acc (.inl rfl) (by decide)⟩⟩
  · by_cases h10 : 10 ≤ ac
    · go_wp2
      go_ret2
      exact ⟨⟨#[111]⟩, ⟨#[]⟩, opn, at1, ac, rfl, HM1.out, HB1.out, by decide, by decide, .inr ⟨H70.out (by decide), by decide, .out⟩⟩
    · have hm2 : Hid (MM (w1.setCell ⟨mb, 5, none⟩ (.int .i64 ((ac : Int) + 1))) mb la ln lc at1 text opn (ac + 1)) := HM1.out.setAcc (ac + 1) (by omega)
      go_wp2_with fail
      refine (mpick_any mb 3 la ln lc at1 text opn (ac + 1) _ hm2.out (by decide) (by decide)).mono ?_
      rintro e w2 ⟨j, at2, hj, _, rfl, hm3, hb3⟩
      have HM3 : Hid (MM w2 mb la ln lc at2 text opn (ac + 1)) := hm3
      have HB3 : Hid (Below mb w w2) := (HB1.out.setCell (by simp) _).trans hb3
      clear hm3 hb3 c5 f5
      have h3 : j = 0 ∨ j = 1 ∨ j = 2 := by omega
      rcases h3 with rfl | rfl | rfl
      all_goals
        go_wp2_with fail
        go_quiet (fail)
        go_wp2
        go_ret2
        exact ⟨_, ⟨#[]⟩, opn, at2, ac + 1, rfl, HM3.out.drewN _, HB3.out.trans (below_drewN' _ _ _), by decide, by decide, .inr ⟨H70.out (by decide), by decide, .acc (.inr rfl) (by decide)⟩⟩
  · by_cases h10 : 10 ≤ ac
    · go_wp2
      go_ret2
      exact ⟨⟨#[111]⟩, ⟨#[]⟩, opn, at1, ac, rfl, HM1.out, HB1.out, by decide, by decide, .inr ⟨H70.out (by decide), by decide, .out⟩⟩
    · have hm2 : Hid (MM (w1.setCell ⟨mb, 5, none⟩ (.int .i64 ((ac : Int) + 1))) mb la ln lc at1 text opn (ac + 1)) := HM1.out.setAcc (ac + 1) (by omega)
      go_wp2_with fail
      refine (mpick_any mb 3 la ln lc at1 text opn (ac + 1) _ hm2.out (by decide) (by decide)).mono ?_
      rintro e w2 ⟨j, at2, hj, _, rfl, hm3, hb3⟩
      have HM3 : Hid (MM w2 mb la ln lc at2 text opn (ac + 1)) := hm3
      have HB3 : Hid (Below mb w w2) := (HB1.out.setCell (by simp) _).trans hb3
      clear hm3 hb3 c5 f5
      have h3 : j = 0 ∨ j = 1 ∨ j = 2 := by omega
      rcases h3 with rfl | rfl | rfl
      all_goals
        go_wp2_with fail
        go_quiet (fail)
        go_wp2
        go_ret2
        exact ⟨_, ⟨#[]⟩, opn, at2, ac + 1, rfl, HM3.out.drewN _, HB3.out.trans (below_drewN' _ _ _), by decide, by decide, .inr ⟨H70.out (by decide), by decide, .acc (.inl rfl) (by decide)⟩⟩
  · by_cases h10 : 10 ≤ ac
    · go_wp2
      go_ret2
      exact ⟨⟨#[111]⟩, ⟨#[]⟩, opn, at1, ac, rfl, HM1.out, HB1.out, by decide, by decide, .inr ⟨H70.out (by decide), by decide, .out⟩⟩
    · have hm2 : Hid (MM (w1.setCell ⟨mb, 5, none⟩ (.int .i64 ((ac : Int) + 1))) mb la ln lc at1 text opn (ac + 1)) := HM1.out.setAcc (ac + 1) (by omega)
      go_wp2_with fail
      refine (mpick_any mb 3 la ln lc at1 text opn (ac + 1) _ hm2.out (by decide) (by decide)).mono ?_
      rintro e w2 ⟨j, at2, hj, _, rfl, hm3, hb3⟩
      have HM3 : Hid (MM w2 mb la ln lc at2 text opn (ac + 1)) := hm3
      have HB3 : Hid (Below mb w w2) := (HB1.out.setCell (by simp) _).trans hb3
      clear hm3 hb3 c5 f5
      have h3 : j = 0 ∨ j = 1 ∨ j = 2 := by omega
      rcases h3 with rfl | rfl | rfl
      all_goals
        go_wp2_with fail
        go_quiet (fail)
        go_wp2
        go_ret2
        exact ⟨_, ⟨#[]⟩, opn, at2, ac + 1, rfl, HM3.out.drewN _, HB3.out.trans (below_drewN' _ _ _), by decide, by decide, .inr ⟨H70.out (by decide), by decide, .acc (.inr rfl) (by decide)⟩⟩
  · go_wp2_with fail
    refine (free_any mb la ln lc at1 text opn ac w1 HM1.out).mono ?_
    rintro e w2 ⟨o, hos, hfr, rfl, hm2, hb2⟩
    have HM2 : Hid (MM w2 mb la ln lc at1 text opn ac) := hm2
    have HB2 : Hid (Below mb w w2) := HB1.out.trans hb2
    have HFR : Hid (FreeAt opn.data.toList 4 o) := hfr
    clear hm2 hb2 hfr c5 f5
    by_cases h0 : o.size = 0
    · have hf0 : o = ⟨#[]⟩ := by
        apply ByteArray.ext
        exact Array.eq_empty_of_size_eq_zero h0
      subst hf0
      go_wp2
      go_ret2
      exact ⟨⟨#[105, 49]⟩, ⟨#[]⟩, opn, at1, ac, rfl, HM2.out, HB2.out, by decide, by decide, .inr ⟨H70.out (by decide), by decide, .add (by decide)⟩⟩
    · have hne := ne_empty o (by omega)
      have hop : 0 < o.size := by omega
      go_wp2_with fail
      refine (mpick_any mb o.size la ln lc at1 text opn ac w2 HM2.out hop (by omega)).mono ?_
      rintro e w3 ⟨j, at3, hj, _, rfl, hm3, hb3⟩
      have c3 := hm3.c3
      have f3 := hm3.fz 3
      have HM3 : Hid (MM w3 mb la ln lc at3 text opn ac) := hm3
      have HB3 : Hid (Below mb w w3) := HB2.out.trans hb3
      have HX : Hid ((o.extract j (j + 1)).data.toList = [o[j]]) := by
        show (o.extract j (j + 1)).data.toList = [o[j]]
        rw [mid_data, List.drop_eq_getElem_cons (by simpa using hj)]
        rfl
      have hxs : (o.extract j (j + 1)).size = 1 := by
        have e1 := len_eq (o.extract j (j + 1))
        rw [HX.out] at e1
        exact e1.symm
      have HMEM : Hid (inU [65, 66, 67, 68] o[j] = true ∧ inU opn.data.toList o[j] = false) := by
        refine fr_mem opn.data.toList 4 (Nat.le_refl _) o[j] ?_
        rw [← show o.data.toList = fr opn.data.toList 4 from HFR.out]
        simp [ByteArray.getElem_eq_getElem_data]
      have HM4 : Hid (MM (w3.setCell ⟨mb, 3, none⟩ (.string (opn ++ o.extract j (j + 1)))) mb la ln lc at3 text (opn ++ o.extract j (j + 1)) ac) := HM3.out.setOpen _ (by rw [ByteArray.size_append, hxs]; omega)
      clear hm3 hb3
      go_wp2_with fail
      go_region
      all_goals
        go_wp2
        go_ret2
        refine ⟨(⟨#[91]⟩ : ByteArray) ++ o.extract j (j + 1), ⟨#[66, 93]⟩, opn ++ o.extract j (j + 1), at3, ac, rfl, HM4.out.drew, (HB3.out.setCell (p := ⟨mb, 3, none⟩) (Nat.le_refl _) _).drew, ?_, by decide, .inr ⟨H70.out (by decide), ?_, ?_⟩⟩
        · rw [ByteArray.size_append, hxs]; decide
        · rw [cat_data, HX.out]; simp
        · rw [cat_data, cat_data, HX.out]
          exact .reg HMEM.out.1 HMEM.out.2
  · go_wp2_with fail
    refine (free_any mb la ln lc at1 text opn ac w1 HM1.out).mono ?_
    rintro e w2 ⟨o, hos, hfr, rfl, hm2, hb2⟩
    have HM2 : Hid (MM w2 mb la ln lc at1 text opn ac) := hm2
    have HB2 : Hid (Below mb w w2) := HB1.out.trans hb2
    have HFR : Hid (FreeAt opn.data.toList 4 o) := hfr
    clear hm2 hb2 hfr c5 f5
    by_cases h0 : o.size = 0
    · have hf0 : o = ⟨#[]⟩ := by
        apply ByteArray.ext
        exact Array.eq_empty_of_size_eq_zero h0
      subst hf0
      go_wp2
      go_ret2
      exact ⟨⟨#[105, 49]⟩, ⟨#[]⟩, opn, at1, ac, rfl, HM2.out, HB2.out, by decide, by decide, .inr ⟨H70.out (by decide), by decide, .add (by decide)⟩⟩
    · have hne := ne_empty o (by omega)
      have hop : 0 < o.size := by omega
      go_wp2_with fail
      refine (mpick_any mb o.size la ln lc at1 text opn ac w2 HM2.out hop (by omega)).mono ?_
      rintro e w3 ⟨j, at3, hj, _, rfl, hm3, hb3⟩
      have c3 := hm3.c3
      have f3 := hm3.fz 3
      have HM3 : Hid (MM w3 mb la ln lc at3 text opn ac) := hm3
      have HB3 : Hid (Below mb w w3) := HB2.out.trans hb3
      have HX : Hid ((o.extract j (j + 1)).data.toList = [o[j]]) := by
        show (o.extract j (j + 1)).data.toList = [o[j]]
        rw [mid_data, List.drop_eq_getElem_cons (by simpa using hj)]
        rfl
      have hxs : (o.extract j (j + 1)).size = 1 := by
        have e1 := len_eq (o.extract j (j + 1))
        rw [HX.out] at e1
        exact e1.symm
      have HMEM : Hid (inU [65, 66, 67, 68] o[j] = true ∧ inU opn.data.toList o[j] = false) := by
        refine fr_mem opn.data.toList 4 (Nat.le_refl _) o[j] ?_
        rw [← show o.data.toList = fr opn.data.toList 4 from HFR.out]
        simp [ByteArray.getElem_eq_getElem_data]
      have HM4 : Hid (MM (w3.setCell ⟨mb, 3, none⟩ (.string (opn ++ o.extract j (j + 1)))) mb la ln lc at3 text (opn ++ o.extract j (j + 1)) ac) := HM3.out.setOpen _ (by rw [ByteArray.size_append, hxs]; omega)
      clear hm3 hb3
      go_wp2_with fail
      go_region
      all_goals
        go_wp2
        go_ret2
        refine ⟨(⟨#[91]⟩ : ByteArray) ++ o.extract j (j + 1), ⟨#[66, 93]⟩, opn ++ o.extract j (j + 1), at3, ac, rfl, HM4.out.drew, (HB3.out.setCell (p := ⟨mb, 3, none⟩) (Nat.le_refl _) _).drew, ?_, by decide, .inr ⟨H70.out (by decide), ?_, ?_⟩⟩
        · rw [ByteArray.size_append, hxs]; decide
        · rw [cat_data, HX.out]; simp
        · rw [cat_data, cat_data, HX.out]
          exact .reg HMEM.out.1 HMEM.out.2
  · go_wp2_with fail
    refine (free_any mb la ln lc at1 text opn ac w1 HM1.out).mono ?_
    rintro e w2 ⟨o, hos, hfr, rfl, hm2, hb2⟩
    have HM2 : Hid (MM w2 mb la ln lc at1 text opn ac) := hm2
    have HB2 : Hid (Below mb w w2) := HB1.out.trans hb2
    have HFR : Hid (FreeAt opn.data.toList 4 o) := hfr
    clear hm2 hb2 hfr c5 f5
    by_cases h0 : o.size = 0
    · have hf0 : o = ⟨#[]⟩ := by
        apply ByteArray.ext
        exact Array.eq_empty_of_size_eq_zero h0
      subst hf0
      go_wp2
      go_ret2
      exact ⟨⟨#[105, 49]⟩, ⟨#[]⟩, opn, at1, ac, rfl, HM2.out, HB2.out, by decide, by decide, .inr ⟨H70.out (by decide), by decide, .add (by decide)⟩⟩
    · have hne := ne_empty o (by omega)
      have hop : 0 < o.size := by omega
      go_wp2_with fail
      refine (mpick_any mb o.size la ln lc at1 text opn ac w2 HM2.out hop (by omega)).mono ?_
      rintro e w3 ⟨j, at3, hj, _, rfl, hm3, hb3⟩
      have c3 := hm3.c3
      have f3 := hm3.fz 3
      have HM3 : Hid (MM w3 mb la ln lc at3 text opn ac) := hm3
      have HB3 : Hid (Below mb w w3) := HB2.out.trans hb3
      have HX : Hid ((o.extract j (j + 1)).data.toList = [o[j]]) := by
        show (o.extract j (j + 1)).data.toList = [o[j]]
        rw [mid_data, List.drop_eq_getElem_cons (by simpa using hj)]
        rfl
      have hxs : (o.extract j (j + 1)).size = 1 := by
        have e1 := len_eq (o.extract j (j + 1))
        rw [HX.out] at e1
        exact e1.symm
      have HMEM : Hid (inU [65, 66, 67, 68] o[j] = true ∧ inU opn.data.toList o[j] = false) := by
        refine fr_mem opn.data.toList 4 (Nat.le_refl _) o[j] ?_
        rw [← show o.data.toList = fr opn.data.toList 4 from HFR.out]
        simp [ByteArray.getElem_eq_getElem_data]
      have HM4 : Hid (MM (w3.setCell ⟨mb, 3, none⟩ (.string (opn ++ o.extract j (j + 1)))) mb la ln lc at3 text (opn ++ o.extract j (j + 1)) ac) := HM3.out.setOpen _ (by rw [ByteArray.size_append, hxs]; omega)
      clear hm3 hb3
      go_wp2_with fail
      go_region
      all_goals
        go_wp2
        go_ret2
        refine ⟨(⟨#[91]⟩ : ByteArray) ++ o.extract j (j + 1), ⟨#[66, 93]⟩, opn ++ o.extract j (j + 1), at3, ac, rfl, HM4.out.drew, (HB3.out.setCell (p := ⟨mb, 3, none⟩) (Nat.le_refl _) _).drew, ?_, by decide, .inr ⟨H70.out (by decide), ?_, ?_⟩⟩
        · rw [ByteArray.size_append, hxs]; decide
        · rw [cat_data, HX.out]; simp
        · rw [cat_data, cat_data, HX.out]
          exact .reg HMEM.out.1 HMEM.out.2
  · go_wp2
    go_ret2
    exact ⟨⟨#[63]⟩, ⟨#[123, 66, 125, 123, 66, 125]⟩, opn, at1, ac, rfl, HM1.out, HB1.out, by decide, by decide, .inr ⟨H70.out (by decide), by decide, .ask⟩⟩
  · go_wp2
    go_ret2
    exact ⟨⟨#[33]⟩, ⟨#[123, 66, 125]⟩, opn, at1, ac, rfl, HM1.out, HB1.out, by decide, by decide, .inr ⟨H70.out (by decide), by decide, .rep⟩⟩
  · go_wp2
    go_ret2
    exact ⟨⟨#[111]⟩, ⟨#[]⟩, opn, at1, ac, rfl, HM1.out, HB1.out, by decide, by decide, .inr ⟨H70.out (by decide), by decide, .out⟩⟩
  · go_wp2_with fail
    refine (mpick_any mb 10 la ln lc at1 text opn ac w1 HM1.out (by decide) (by decide)).mono ?_
    rintro e w2 ⟨j, at2, hj, _, rfl, hm3, hb3⟩
    have HM3 : Hid (MM w2 mb la ln lc at2 text opn ac) := hm3
    have HB3 : Hid (Below mb w w2) := HB1.out.trans hb3
    clear hm3 hb3 c5 f5
    have h3 : j = 0 ∨ j = 1 ∨ j = 2 ∨ j = 3 ∨ j = 4 ∨ j = 5 ∨ j = 6 ∨ j = 7 ∨ j = 8 ∨ j = 9 := by omega
    rcases h3 with rfl | rfl | rfl | rfl | rfl | rfl | rfl | rfl | rfl | rfl
    all_goals
      go_wp2
      go_ret2
      exact ⟨_, ⟨#[]⟩, opn, at2, ac, rfl, HM3.out, HB3.out, by decide, by decide, .inr ⟨H70.out (by decide), by decide, .add (by decide)⟩⟩

end Go.Proofs.Ytnpkambjlfkhgaa
