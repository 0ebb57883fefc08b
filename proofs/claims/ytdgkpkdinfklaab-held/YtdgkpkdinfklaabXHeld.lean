import Derived.Test.YtdgkpkdinfklaabRows
import Derived.Test.YtdgkpkdinfklaabXOpen
import Derived.Test.YtdgkpkdinfklaabXKqHeld
namespace Go.Proofs.Ytdgkpkdinfklaab
open Go.ChangeShapes Go.WideShapes Go.ChangeAt Go.RowKit
theorem open_intlist {H : Type} {enc : TypeId × Value → H} {W : World} {fuel : Nat} {a0 : Option Addr} {len cap : Nat} {x : DataW H × List MemPlace}
  (hf : DataW.trod enc Try.prog W 0 (fun _ => true) true fuel 22 [.slice a0 len cap] = some x) : IsInts W W.heap.size a0 len ∧ len ≤ maxLen := by
 rcases open_ints Try.underlying22 Try.underlying3 Try.cellsInt hf with ⟨hcs, hx⟩ | ⟨a, len', cap', zs, hcs, _, hl, hm, hz, hx, hcell, hwz⟩
 ·simp at hcs
  exact ⟨.inl hcs.2.1, by rw [hcs.2.1]; exact Nat.zero_le _⟩
 ·simp only [List.cons.injEq, Value.slice.injEq, and_true] at hcs
  obtain ⟨rfl, rfl, rfl⟩ := hcs
  refine ⟨?_, by omega⟩
  by_cases h0 : len = 0
  ·exact .inl h0
  ·right
   simp only [if_true] at hz
   obtain ⟨b, off, spot⟩ := a
   have hspot : spot = none := by simpa [Addr.add] using World.cell?_spot (hcell 0 (by omega))
   subst hspot
   refine ⟨b, off, rfl, World.block_lt_of_cell? W _ (by simpa [Addr.add] using hcell 0 (by omega) : W.cell? ⟨b, off, none⟩ = some (.int .i64 (zs.getD 0 0))), fun j hj => ?_⟩
   have hw : (Lit.int .i64 (zs.getD j 0)).wf = true := by
    apply hwz
    have hjl : j < zs.length := by omega
    simp [List.getD, List.getElem?_eq_getElem hjl]
   have h1 : IntKind.i64.min = -9223372036854775808 := rfl
   have h2 : IntKind.i64.max = 9223372036854775807 := rfl
   simp only [Lit.wf, Bool.and_eq_true, decide_eq_true_eq] at hw
   refine ⟨zs.getD j 0, by rw [← add_plain]; exact hcell j (by omega), by omega, by omega⟩
set_option maxRecDepth 100000 in
theorem held_lifted (os : Os) (started : os.Started) (H : Type) (enc : TypeId × Value → H) :
  ReturnsInHanded {} Try.checked os 7 .any (Rows.heldSpec.pre6 enc Try.prog Try.f7 Rows.heldRow.domain false) (Rows.heldSpec.post enc Try.prog Try.f7 false true false false) := by
 refine returnsInHanded_of_change (C := Try.checked) Try.own started (by kernel_rfl) Try.func7
  (ChangeSpec.witness6 (enc := enc) (C := Try.checked) false ⟨#[], #[.slice none 0 0, .slice none 0 0], []⟩ 8 (by kernel_rfl) (by kernel_rfl) (by kernel_rfl) (by kernel_rfl)) ?_
 intro W base args ds gs before hval0 hW hcnd _
 have hval : ∀ (j : Nat) t v, Try.f7.params[j]? = some t → args[j]? = some v → Value.okWide Try.prog W .any base t v := hval0
 have hW' := hW
 obtain ⟨p, q, hA0, hV, rfl, hfz, hnd⟩ := hW
 have hA : DataW.TrodAll enc Try.prog W 0 (fun _ => true) true Try.f7.params.toList args.toList ds p := hA0
 rw [Try.params7] at hA hval
 obtain ⟨v0, v1, d0, d1, p0, p1, rfl, rfl, rfl, h0, h1⟩ := trodAll_two hA
 obtain ⟨rfl, rfl⟩ := trodVars_none hV
 obtain ⟨a0, len, cap, rfl⟩ := okWide_slice Try.underlying22 (hval 0 22 v0 rfl rfl)
 obtain ⟨a1, len1, cap1, rfl⟩ := okWide_slice Try.underlying22 (hval 1 22 v1 rfl rfl)
 have h0k := h0
 have h1k := h1
 obtain ⟨fuel, hf⟩ := h0
 obtain ⟨fuel1, hf1⟩ := h1
 clear hA0 hval0
 simp only [List.append_nil] at hW'
 have hlt : ∀ x ∈ p0 ++ p1, x.block < W.heap.size := fun x hx => by simpa using hW'.lt x hx
 obtain ⟨hi, hl⟩ := open_intlist (enc := enc) (W := W) (fuel := fuel) (a0 := a0) (len := len) (cap := cap) (x := (d0, p0)) (by simpa [Value.cells] using hf)
 obtain ⟨hi1, hl1⟩ := open_intlist (enc := enc) (W := W) (fuel := fuel1) (a0 := a1) (len := len1) (cap := cap1) (x := (d1, p1)) (by simpa [Value.cells] using hf1)
 refine (kheld_any a0 len cap a1 len1 cap1 W hi hl hi1 hl1).mono fun e W' ⟨he, hnx⟩ => ?_
 subst he
 refine ⟨_, rfl, ?_⟩
 refine ⟨_, _, _, [], p0 ++ p1, [], hW', ?_, ?_, rfl, hnx.frame _, fun h => by cases h⟩
 ·exact trodAll_mk1 (shut_bool Try.underlying4 true)
 ·exact trodAll_mk2 (Below.trod Try.laidOut (by kernel_rfl) (of_decide_eq_true (by kernel_rfl)) h0k hnx (fun x hx => hlt x (by simp [hx]))) (Below.trod Try.laidOut (by kernel_rfl) (of_decide_eq_true (by kernel_rfl)) h1k hnx (fun x hx => hlt x (by simp [hx])))
theorem held_holds : Rows.HeldSaid :=
 OpenClaim.holds_of_wide 7 Try.f7 rfl rfl rfl rfl rfl rfl rfl ⟨rfl, rfl, rfl, rfl, rfl⟩ rfl rfl rfl rfl rfl (by kernel_rfl) Try.func7 (by kernel_rfl)
  (of_decide_eq_true (by kernel_rfl)) (by unfold Func.isWrapper; rw [if_neg (of_decide_eq_false (by kernel_rfl))]; exact ⟨rfl, rfl⟩)
  (fun os started H enc _ => held_lifted os started H enc)
#print axioms held_holds
end Go.Proofs.Ytdgkpkdinfklaab
