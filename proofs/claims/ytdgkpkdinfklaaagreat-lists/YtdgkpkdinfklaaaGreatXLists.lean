import Derived.Test.YtdgkpkdinfklaaaGreatRows
import Derived.Test.YtdgkpkdinfklaaaGreatXUpI
import Derived.Test.YtdgkpkdinfklaaaGreatGW
import Derived.SizedLaws
namespace Go.Proofs.YtdgkpkdinfklaaaGreat
open Go.ChangeShapes Go.WideShapes Go.ChangeAt Go.RowKit

/-- The book, behind some steps. -/
def BookAt (W0 : World) (k : Nat) (W : World) : Prop := (∃ fs aa ca, BK W W0.heap.size fs aa ca ∧ fs.length ≤ k) ∧ Below W0.heap.size W0 W

set_option maxHeartbeats 800000 in
set_option maxRecDepth 100000 in
theorem upto_lists (a0 : Option Addr) (len cap : Nat) (w : World) (h : IsScript w a0 len) (hsz : len * 64 ≤ 140737488351232) :
    Calls Tryz.prog 10 #[.slice a0 len cap, .int .i64 3, .int .i64 3] w fun e w' => e = .returned (.int .i64 (-1)) ∧ Below w.heap.size w w' := by
  rcases h with rfl | ⟨b, off, K, S, P, L, rfl, hlen, hsc⟩
  · exact upto_none a0 cap 3 3 w
  · refine (upto_idx (BookAt w) b off len cap 3 3 K S P L w hlen hsc ?_ ?_ ?_ ?_ ?_ ?_).mono fun e w' ⟨he, _, hI⟩ => ⟨he, hI.2⟩
    · refine ⟨⟨[], none, 0, ⟨by simp, ?_, ?_, World.frozen?_alloc_at _ _ _ _ rfl, World.ownsRow_nil _ _ _ _, fun k f hf => by simp at hf⟩, Nat.le_refl _⟩, (Below.refl _ _).alloc (Nat.le_refl _) _⟩
      all_goals (rw [World.cell?_alloc_at _ _ _ _ rfl]; rfl)
    · intro k W o hI
      obtain ⟨⟨fs, aa, ca, hk, hl⟩, hb⟩ := hI
      exact ⟨⟨fs, aa, ca, hk.below ((Below.refl _ _).alloc (Nat.le_refl _) o), hl⟩, hb.alloc hb.size o⟩
    · intro k W hI
      obtain ⟨⟨fs, aa, ca, hk, hl⟩, hb⟩ := hI
      exact ⟨⟨fs, aa, ca, hk, by omega⟩, hb⟩
    · exact fun k W hI => hI.2
    · intro j W hj h1 h2 hI
      have hK : K j = 3 := by omega
      rw [hK]
      obtain ⟨la, ln, lc, hL⟩ := hsc.s2 j hj
      rw [hL]
      obtain ⟨⟨fs, aa, ca, hk, hl⟩, hb⟩ := hI
      refine (plays_lists w.heap.size (S j) (P j) la ln lc fs aa ca W (hsc.s0 j hj) hk (by omega)).mono ?_
      rintro e w' ⟨he, ⟨fs', aa', ca', hk', hl'⟩, hb'⟩
      exact ⟨he, ⟨fs', aa', ca', hk', by omega⟩, hb.trans hb'⟩
    · intro k W hkl hI
      obtain ⟨⟨fs, aa, ca, hk, hl⟩, hb⟩ := hI
      refine (holds_book w.heap.size fs aa ca W hk (by omega)).mono ?_
      rintro e w' ⟨he, hb'⟩
      exact ⟨he, ⟨fs, aa, ca, hk.below hb', hl⟩, hb.trans (hb'.mono hb.size)⟩

set_option maxHeartbeats 400000 in
theorem lists_law (a0 : Option Addr) (len cap : Nat) (w : World) (h : IsScript w a0 len) (hsz : len * 64 ≤ 140737488351232) :
    Calls Tryz.prog 5 #[.slice a0 len cap] w fun e w' => e = .returned (.bool true) ∧ Below w.heap.size w w' := by
  go_enter Tryz.func5, Tryz.ntmps5
  go_wp2_with fail
  refine (upto_lists a0 len cap w h hsz).mono ?_
  rintro e w1 ⟨rfl, hb⟩
  go_wp2
  go_ret
  exact ⟨rfl, hb⟩

set_option maxRecDepth 100000 in
theorem lists_lifted (os : Os) (started : os.Started) (H : Type) (enc : TypeId × Value → H) :
    ReturnsInHanded {} Tryz.checked os 5 .any (Rows.listsSpec.pre6 enc Tryz.prog Tryz.f5 Rows.listsRow.domain false) (Rows.listsSpec.post enc Tryz.prog Tryz.f5 false true false false) := by
  refine returnsInHanded_of_change_sized (C := Tryz.checked) Tryz.own started (by kernel_rfl) Tryz.func5
    (ChangeSpec.witness6 (enc := enc) (C := Tryz.checked) false ⟨#[], #[.slice none 0 0], []⟩ 8 (by kernel_rfl) (by kernel_rfl) (by kernel_rfl) (by kernel_rfl)) ?_
  intro W base args ds gs before hval0 hW _ hsz0 _
  have hsz : (DataW.weightsEach Tryz.prog (Tryz.f5.params.toList ++ Rows.listsSpec.plain.varTypes Tryz.prog) (ds ++ gs)).all (· ≤ reachBytes) = true := hsz0
  clear hsz0
  have hval : ∀ (j : Nat) t v, Tryz.f5.params[j]? = some t → args[j]? = some v → Value.okWide Tryz.prog W .any base t v := hval0
  have hW' := hW
  obtain ⟨p, q, hA0, hV, rfl, _, _⟩ := hW
  have hA : DataW.TrodAll enc Tryz.prog W 0 (fun _ => true) true Tryz.f5.params.toList args.toList ds p := hA0
  rw [Tryz.params5] at hA hval hsz
  obtain ⟨v0, d0, rfl, rfl, h0⟩ := trodAll_one hA
  obtain ⟨rfl, rfl⟩ := trodVars_none hV
  obtain ⟨a0, len, cap, rfl⟩ := okWide_slice Tryz.underlying22 (hval 0 22 v0 rfl rfl)
  have h0k := h0
  obtain ⟨fuel, hf⟩ := h0
  clear hA0 hval0
  simp only [List.append_nil] at hW'
  have hlt : ∀ x ∈ p, x.block < W.heap.size := fun x hx => by simpa using hW'.lt x hx
  have hf' : DataW.trod enc Tryz.prog W 0 (fun _ => true) true fuel 22 [.slice a0 len cap] = some (d0, p) := by simpa [Value.cells] using hf
  have hlen64 : len * 64 ≤ 140737488351232 := by
    rcases Deep.open_slice Tryz.underlying22 hf' with ⟨hcs, _⟩ | ⟨a, len', cap', m, n, D, Pl, hcs, _, hl, hm, hmm, hx, _⟩
    · simp at hcs
      rw [hcs.2.1]; decide
    · simp only [List.cons.injEq, Value.slice.injEq, and_true] at hcs
      obtain ⟨rfl, rfl, rfl⟩ := hcs
      simp only [Prod.mk.injEq] at hx
      obtain ⟨rfl, _⟩ := hx
      have := sized_slice hsz (j := 0) (t := 22) (e := 32) rfl rfl Tryz.underlying22
      rw [Tryz.bytesOp] at this
      simp only [List.length_map, List.length_range, reachBytes] at this
      omega
  refine (lists_law a0 len cap W (open_script hf') hlen64).mono fun e W' ⟨he, hnx⟩ => ?_
  subst he
  refine ⟨_, rfl, ?_⟩
  refine ⟨_, _, _, [], p, [], hW', ?_, ?_, rfl, hnx.frame _, fun h => by cases h⟩
  · exact trodAll_mk1 (shut_bool Tryz.underlying4 true)
  · exact trodAll_mk1 (Below.trod Tryz.laidOut (by kernel_rfl) (of_decide_eq_true (by kernel_rfl)) h0k hnx hlt)

theorem lists_holds : Rows.ListsSaid :=
  OpenClaim.holds_of_wide 5 Tryz.f5 rfl rfl rfl rfl rfl rfl rfl ⟨rfl, rfl, rfl, rfl, rfl⟩ rfl rfl rfl rfl rfl (by kernel_rfl) Tryz.func5 (by kernel_rfl)
    (of_decide_eq_true (by kernel_rfl)) (by unfold Func.isWrapper; rw [if_neg (of_decide_eq_false (by kernel_rfl))]; exact ⟨rfl, rfl⟩)
    (fun os started H enc _ => lists_lifted os started H enc)

#print axioms lists_holds
end Go.Proofs.YtdgkpkdinfklaaaGreat
