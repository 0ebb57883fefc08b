import Derived.Test.YtdgkpkdinfklaaaGreatRows
import Derived.Test.YtdgkpkdinfklaaaGreatXUpI
import Derived.Test.YtdgkpkdinfklaaaGreatGV
import Derived.SizedLaws
namespace Go.Proofs.YtdgkpkdinfklaaaGreat
open Go.ChangeShapes Go.WideShapes Go.ChangeAt Go.RowKit

set_option maxHeartbeats 800000 in
set_option maxRecDepth 100000 in
theorem upto_opens (a0 : Option Addr) (len cap : Nat) (w : World) (h : IsScript w a0 len) (hsz : len * 64 ≤ 140737488351232) :
    Calls Tryz.prog 10 #[.slice a0 len cap, .int .i64 5, .int .i64 5] w fun e w' => e = .returned (.int .i64 (-1)) ∧ Below w.heap.size w w' := by
  rcases h with rfl | ⟨b, off, K, S, P, L, rfl, hlen, hsc⟩
  · exact upto_none a0 cap 5 5 w
  · refine (upto_idx (BookIn w) b off len cap 5 5 K S P L w hlen hsc ?_ ?_ ?_ ?_ ?_ ?_).mono fun e w' ⟨he, _, hI⟩ => ⟨he, hI.2⟩
    · exact ⟨⟨[], none, 0, [], none, 0, .start w, Nat.le_refl _, Nat.le_refl _⟩, (Below.refl _ _).alloc (Nat.le_refl _) _⟩
    · intro k W o hI
      obtain ⟨⟨gs, ga, gc, fs, aa, ca, hk, hl, hm⟩, hb⟩ := hI
      exact ⟨⟨gs, ga, gc, fs, aa, ca, hk.below ((Below.refl _ _).alloc (Nat.le_refl _) o), hl, hm⟩, hb.alloc hb.size o⟩
    · intro k W hI
      obtain ⟨⟨gs, ga, gc, fs, aa, ca, hk, hl, hm⟩, hb⟩ := hI
      exact ⟨⟨gs, ga, gc, fs, aa, ca, hk, by omega, by omega⟩, hb⟩
    · exact fun k W hI => hI.2
    · intro j W hj h1 h2 hI
      have hK : K j = 5 := by omega
      rw [hK]
      obtain ⟨la, ln, lc, hL⟩ := hsc.s2 j hj
      rw [hL]
      obtain ⟨⟨gs, ga, gc, fs, aa, ca, hk, hl, hm⟩, hb⟩ := hI
      refine (plays_pairs w.heap.size (S j) (P j) la ln lc gs ga gc fs aa ca W (hsc.s0 j hj) hk (by omega)).mono ?_
      rintro e w' ⟨he, ⟨gs', ga', gc', hk', hl'⟩, hb'⟩
      exact ⟨he, ⟨gs', ga', gc', fs, aa, ca, hk', by omega, by omega⟩, hb.trans hb'⟩
    · intro k W hkl hI
      obtain ⟨⟨gs, ga, gc, fs, aa, ca, hk, hl, hm⟩, hb⟩ := hI
      refine (holds_bb w.heap.size gs ga gc fs aa ca W hk (by omega) (by omega)).mono ?_
      rintro e w' ⟨he, hb'⟩
      exact ⟨he, ⟨gs, ga, gc, fs, aa, ca, hk.below hb', hl, hm⟩, hb.trans (hb'.mono hb.size)⟩

set_option maxHeartbeats 400000 in
theorem opens_law (a0 : Option Addr) (len cap : Nat) (w : World) (h : IsScript w a0 len) (hsz : len * 64 ≤ 140737488351232) :
    Calls Tryz.prog 7 #[.slice a0 len cap] w fun e w' => e = .returned (.bool true) ∧ Below w.heap.size w w' := by
  go_enter Tryz.func7, Tryz.ntmps7
  go_wp2_with fail
  refine (upto_opens a0 len cap w h hsz).mono ?_
  rintro e w1 ⟨rfl, hb⟩
  go_wp2
  go_ret
  exact ⟨rfl, hb⟩

set_option maxRecDepth 100000 in
theorem opens_lifted (os : Os) (started : os.Started) (H : Type) (enc : TypeId × Value → H) :
    ReturnsInHanded {} Tryz.checked os 7 .any (Rows.opensSpec.pre6 enc Tryz.prog Tryz.f7 Rows.opensRow.domain false) (Rows.opensSpec.post enc Tryz.prog Tryz.f7 false true false false) := by
  refine returnsInHanded_of_change_sized (C := Tryz.checked) Tryz.own started (by kernel_rfl) Tryz.func7
    (ChangeSpec.witness6 (enc := enc) (C := Tryz.checked) false ⟨#[], #[.slice none 0 0], []⟩ 8 (by kernel_rfl) (by kernel_rfl) (by kernel_rfl) (by kernel_rfl)) ?_
  intro W base args ds gs before hval0 hW _ hsz0 _
  have hsz : (DataW.weightsEach Tryz.prog (Tryz.f7.params.toList ++ Rows.opensSpec.plain.varTypes Tryz.prog) (ds ++ gs)).all (· ≤ reachBytes) = true := hsz0
  clear hsz0
  have hval : ∀ (j : Nat) t v, Tryz.f7.params[j]? = some t → args[j]? = some v → Value.okWide Tryz.prog W .any base t v := hval0
  have hW' := hW
  obtain ⟨p, q, hA0, hV, rfl, _, _⟩ := hW
  have hA : DataW.TrodAll enc Tryz.prog W 0 (fun _ => true) true Tryz.f7.params.toList args.toList ds p := hA0
  rw [Tryz.params7] at hA hval hsz
  obtain ⟨v0, d0, rfl, rfl, h0⟩ := trodAll_one hA
  obtain ⟨rfl, rfl⟩ := trodVars_none hV
  obtain ⟨a0, len, cap, rfl⟩ := okWide_slice Tryz.underlying22 (hval 0 22 v0 rfl rfl)
  have h0k := h0
  obtain ⟨fuel, hf⟩ := h0
  clear hA0 hval0
  simp only [List.append_nil] at hW'
  have hlt : ∀ x ∈ p, x.block < W.heap.size := fun x hx => by simpa using hW'.lt x hx
  have hf' : DataW.trod enc Tryz.prog W 0 (fun _ => true) true fuel 22 [.slice a0 len cap] = some (d0, p) := by simpa [Value.cells] using hf
  have hlen64 : len * 64 ≤ 140737488351232 := by
    rcases Deep.open_slice Tryz.underlying22 hf' with ⟨hcs, _⟩ | ⟨a, len', cap', m, n, D, Pl, hcs, _, hl, hm, hmm, hx, _⟩
    · simp at hcs
      rw [hcs.2.1]; decide
    · simp only [List.cons.injEq, Value.slice.injEq, and_true] at hcs
      obtain ⟨rfl, rfl, rfl⟩ := hcs
      simp only [Prod.mk.injEq] at hx
      obtain ⟨rfl, _⟩ := hx
      have := sized_slice hsz (j := 0) (t := 22) (e := 32) rfl rfl Tryz.underlying22
      rw [Tryz.bytesOp] at this
      simp only [List.length_map, List.length_range, reachBytes] at this
      omega
  refine (opens_law a0 len cap W (open_script hf') hlen64).mono fun e W' ⟨he, hnx⟩ => ?_
  subst he
  refine ⟨_, rfl, ?_⟩
  refine ⟨_, _, _, [], p, [], hW', ?_, ?_, rfl, hnx.frame _, fun h => by cases h⟩
  · exact trodAll_mk1 (shut_bool Tryz.underlying4 true)
  · exact trodAll_mk1 (Below.trod Tryz.laidOut (by kernel_rfl) (of_decide_eq_true (by kernel_rfl)) h0k hnx hlt)

theorem opens_holds : Rows.OpensSaid :=
  OpenClaim.holds_of_wide 7 Tryz.f7 rfl rfl rfl rfl rfl rfl rfl ⟨rfl, rfl, rfl, rfl, rfl⟩ rfl rfl rfl rfl rfl (by kernel_rfl) Tryz.func7 (by kernel_rfl)
    (of_decide_eq_true (by kernel_rfl)) (by unfold Func.isWrapper; rw [if_neg (of_decide_eq_false (by kernel_rfl))]; exact ⟨rfl, rfl⟩)
    (fun os started H enc _ => opens_lifted os started H enc)

#print axioms opens_holds
end Go.Proofs.YtdgkpkdinfklaaaGreat
