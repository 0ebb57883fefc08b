import Derived.Test.YtdgkpkdinfklaaaGreatRows
import Derived.Test.YtdgkpkdinfklaaaGreatXOpen
import Derived.Test.YtdgkpkdinfklaaaGreatGU
namespace Go.Proofs.YtdgkpkdinfklaaaGreat
open Go.ChangeShapes Go.WideShapes Go.ChangeAt Go.RowKit
set_option maxHeartbeats 800000 in
set_option maxRecDepth 100000 in
theorem upto_order (a0 : Option Addr) (len cap : Nat) (w : World) (h : IsScript w a0 len) :
  Calls Tryz.prog 10 #[.slice a0 len cap, .int .i64 6, .int .i64 6] w fun e w' => e = .returned (.int .i64 (-1)) ∧ Below w.heap.size w w' := by
 rcases h with rfl | ⟨b, off, K, S, P, L, rfl, hlen, hsc⟩
 ·exact upto_none a0 cap 6 6 w
 ·refine (upto_any (fun W => NoBook W w.heap.size ∧ Below w.heap.size w W) b off len cap 6 6 K S P L w hlen hsc ?_ ?_ ?_ ?_ ?_).mono fun e w' ⟨he, hI⟩ => ⟨he, hI.2⟩
  ·refine ⟨⟨by simp, ?_, ?_⟩, (Below.refl _ _).alloc (Nat.le_refl _) _⟩
   all_goals (rw [World.cell?_alloc_at _ _ _ _ rfl]; rfl)
  ·intro W o hI
   exact ⟨hI.1.below ((Below.refl _ _).alloc (Nat.le_refl _) o), hI.2.alloc (by have := hI.2.size; omega) o⟩
  ·exact fun W hI => hI.2
  ·intro j W hj h1 h2 hI
   have hK : K j = 6 := by omega
   rw [hK]
   obtain ⟨la, ln, lc, hL⟩ := hsc.s2 j hj
   rw [hL]
   refine (plays_order w.heap.size (S j) (P j) (.slice la ln lc) rfl W (hsc.s0 j hj)).mono fun e w' ⟨he, hb⟩ => ⟨he, hI.1.below hb, hI.2.trans (hb.mono (by have := hI.2.size; omega))⟩
  ·intro W hI
   refine (holds_none w.heap.size W hI.1).mono fun e w' ⟨he, hw⟩ => ⟨he, ?_⟩
   rw [hw]; exact hI
set_option maxHeartbeats 400000 in
theorem orders_any (a0 : Option Addr) (len cap : Nat) (w : World) (h : IsScript w a0 len) :
  Calls Tryz.prog 8 #[.slice a0 len cap] w fun e w' => e = .returned (.bool true) ∧ Below w.heap.size w w' := by
 go_enter Tryz.func8, Tryz.ntmps8
 go_wp2_with fail
 refine (upto_order a0 len cap w h).mono ?_
 rintro e w1 ⟨rfl, hb⟩
 go_wp2
 go_ret
 exact ⟨rfl, hb⟩
set_option maxRecDepth 100000 in
theorem orders_lifted (os : Os) (started : os.Started) (H : Type) (enc : TypeId × Value → H) :
  ReturnsInHanded {} Tryz.checked os 8 .any (Rows.ordersSpec.pre6 enc Tryz.prog Tryz.f8 Rows.ordersRow.domain false) (Rows.ordersSpec.post enc Tryz.prog Tryz.f8 false true false false) := by
 refine returnsInHanded_of_change (C := Tryz.checked) Tryz.own started (by kernel_rfl) Tryz.func8
  (ChangeSpec.witness6 (enc := enc) (C := Tryz.checked) false ⟨#[], #[.slice none 0 0], []⟩ 8 (by kernel_rfl) (by kernel_rfl) (by kernel_rfl) (by kernel_rfl)) ?_
 intro W base args ds gs before hval0 hW hcnd _
 have hval : ∀ (j : Nat) t v, Tryz.f8.params[j]? = some t → args[j]? = some v → Value.okWide Tryz.prog W .any base t v := hval0
 have hW' := hW
 obtain ⟨p, q, hA0, hV, rfl, hfz, hnd⟩ := hW
 have hA : DataW.TrodAll enc Tryz.prog W 0 (fun _ => true) true Tryz.f8.params.toList args.toList ds p := hA0
 rw [Tryz.params8] at hA hval
 obtain ⟨v0, d0, rfl, rfl, h0⟩ := trodAll_one hA
 obtain ⟨rfl, rfl⟩ := trodVars_none hV
 obtain ⟨a0, len, cap, rfl⟩ := okWide_slice Tryz.underlying22 (hval 0 22 v0 rfl rfl)
 have h0k := h0
 obtain ⟨fuel, hf⟩ := h0
 clear hA0 hval0
 simp only [List.append_nil] at hW'
 have hlt : ∀ x ∈ p, x.block < W.heap.size := fun x hx => by simpa using hW'.lt x hx
 refine (orders_any a0 len cap W (open_script (by simpa [Value.cells] using hf))).mono fun e W' ⟨he, hnx⟩ => ?_
 subst he
 refine ⟨_, rfl, ?_⟩
 refine ⟨_, _, _, [], p, [], hW', ?_, ?_, rfl, hnx.frame _, fun h => by cases h⟩
 ·exact trodAll_mk1 (shut_bool Tryz.underlying4 true)
 ·exact trodAll_mk1 (Below.trod Tryz.laidOut (by kernel_rfl) (of_decide_eq_true (by kernel_rfl)) h0k hnx hlt)
theorem orders_holds : Rows.OrdersSaid :=
 OpenClaim.holds_of_wide 8 Tryz.f8 rfl rfl rfl rfl rfl rfl rfl ⟨rfl, rfl, rfl, rfl, rfl⟩ rfl rfl rfl rfl rfl (by kernel_rfl) Tryz.func8 (by kernel_rfl)
  (of_decide_eq_true (by kernel_rfl)) (by unfold Func.isWrapper; rw [if_neg (of_decide_eq_false (by kernel_rfl))]; exact ⟨rfl, rfl⟩)
  (fun os started H enc _ => orders_lifted os started H enc)
#print axioms orders_holds
end Go.Proofs.YtdgkpkdinfklaaaGreat
