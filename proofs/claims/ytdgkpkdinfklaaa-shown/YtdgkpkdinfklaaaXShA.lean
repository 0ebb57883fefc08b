import Derived.Test.YtdgkpkdinfklaaaGKQ
import Derived.Test.YtdgkpkdinfklaaaXKwB
namespace Go.Proofs.Ytdgkpkdinfklaaa
open Go.RowKit
structure TwoA (c1 v1 c2 v2 : UInt8) : Prop where
 c1 : c1 = 103 ∨ c1 = 112
 c2 : c2 = 103 ∨ c2 = 112
 v1 : inU [120, 121, 122] v1 = true
 v2 : inU [120, 121, 122] v2 = true
theorem xyz_ne {v : UInt8} (h : inU [120, 121, 122] v = true) : v ≠ 124 ∧ v ≠ 60 ∧ v ≠ 62 := by
 refine ⟨?_, ?_, ?_⟩ <;> (rintro rfl; exact absurd h (by decide))
theorem gp_ne {c : UInt8} (h : c = 103 ∨ c = 112) : c ≠ 124 ∧ c ≠ 60 := by rcases h with rfl | rfl <;> decide
theorem two_split {c1 v1 c2 v2 : UInt8} (h : TwoA c1 v1 c2 v2) : splitBar [c1, v1, 124, c2, v2] = [[c1, v1], [c2, v2]] := by
 have e1 : (124 : UInt8) ∉ [c1, v1] := by simp [(gp_ne h.c1).1.symm, (xyz_ne h.v1).1.symm]
 have e2 : (124 : UInt8) ∉ [c2, v2] := by simp [(gp_ne h.c2).1.symm, (xyz_ne h.v2).1.symm]
 have := split_bar (s := [c2, v2]) e1
 rw [split_none e2] at this
 exact this
theorem two_acs {c1 v1 c2 v2 : UInt8} (h : TwoA c1 v1 c2 v2) : acs 1 [] [c1, v1, 124, c2, v2] = [(1, c1, v1, []), (2, c2, v2, [])] := by
 rw [acs_acc h.c1, acs_bar, acs_acc h.c2]; rfl
theorem two_md {c1 v1 c2 v2 : UInt8} (h : TwoA c1 v1 c2 v2) : ∀ a ∈ splitBar [c1, v1, 124, c2, v2], MD [] [] a := by
 rw [two_split h]
 intro a ha
 rcases List.mem_cons.1 ha with rfl | ha
 ·exact .acc c1 v1 h.c1 h.v1 (.nil [])
 ·rw [List.mem_singleton] at ha
  subst ha
  exact .acc c2 v2 h.c2 h.v2 (.nil [])
def Meet (c1 v1 c2 v2 : UInt8) : Prop := v1 = v2 ∧ (c1 = 112 ∨ c2 = 112)
theorem two_good {p : ByteArray} {c1 v1 c2 v2 : UInt8} (h : TwoA c1 v1 c2 v2) (hp : p.data.toList = [c1, v1, 124, c2, v2]) : ∃ mks, GoodP p mks ∧
  (Meet c1 v1 c2 v2 → prL (accL mks) (accL mks).length = [0, 1]) ∧ (¬ Meet c1 v1 c2 v2 → prL (accL mks) (accL mks).length = []) := by
 obtain ⟨mks, ha, hn⟩ := md_prog (p := [c1, v1, 124, c2, v2]) (by rw [two_split h]; exact Nat.le_of_ble_eq_true rfl) (two_md h)
 have hs : p.size = 5 := by rw [← len_eq, hp]; rfl
 have hi := marks_idx ha
 rw [two_acs h] at hi
 have hl : (accL mks).length = 2 := hi.1.symm
 refine ⟨mks, ⟨chk_of (by omega) (by rw [hp]; exact ha) hn, by rw [hp]; exact ha, ?_, by omega, by omega⟩, ?_, fun hm => ?_⟩
 ·rw [hp]
  simp [(gp_ne h.c1).2.symm, (gp_ne h.c2).2.symm, (xyz_ne h.v1).2.1.symm, (xyz_ne h.v2).2.1.symm]
 ·rintro ⟨rfl, hc⟩
  obtain ⟨m0, hm0⟩ : ∃ m, (accL mks)[0]? = some m := ⟨(accL mks)[0], List.getElem?_eq_getElem _⟩
  obtain ⟨m1, hm1⟩ : ∃ m, (accL mks)[1]? = some m := ⟨(accL mks)[1], List.getElem?_eq_getElem _⟩
  obtain ⟨x0, _, hx0, _, k0, _⟩ := hi.2.2 0 m0 hm0
  obtain ⟨x1, _, hx1, _, k1, _⟩ := hi.2.2 1 m1 hm1
  simp at hx0 hx1
  subst hx0 hx1
  have ho : opMK m0 m1 = true := by
   obtain ⟨a1, a2, a3, a4, a5, a6, a7, a8⟩ := k0
   obtain ⟨b1, b2, b3, b4, b5, b6, b7, b8⟩ := k1
   have z : ∀ c : UInt8, inU [] c = false := fun c => rfl
   rw [opMK, a1, a2, a3, b1, b2, b3]
   have hm : meetB (hOf m0) (hOf m1) = false := by
    simp [meetB, hOf, List.range, List.range.loop, a4, a5, a6, a7, a8, z]
   rw [hm]
   rcases hc with rfl | rfl <;> simp
  have h01 : opAt (accL mks) 0 1 = true := by rw [opAt, hm0, hm1]; exact ho
  rw [hl]
  simp [prL, prI, hl, h01]
 ·refine of_noOpen ((noOpen_iff ha).2 ?_)
  rw [two_acs h]
  intro x hx y hy ht hv hc
  exfalso
  apply hm
  simp at hx hy
  rcases hx with rfl | rfl <;> rcases hy with rfl | rfl
  ·exact absurd rfl ht
  ·exact ⟨hv, hc⟩
  ·exact ⟨hv.symm, hc.symm⟩
  ·exact absurd rfl ht
theorem two_mended {p t : ByteArray} {c1 v1 c2 v2 : UInt8} (h : TwoA c1 v1 c2 v2) (hp : p.data.toList = [c1, v1, 124, c2, v2]) (hm : Meet c1 v1 c2 v2) {ch : Nat → Option UInt8} (ho : MendOf p t ch) (h60 : (60 : UInt8) ∉ p.data.toList) : cntC 60 t.data.toList = 2 := by
 have hg := ho.least.good
 rw [hp, two_acs h] at hg
 have h2 := hg.2.1
 obtain ⟨rfl, hc⟩ := hm
 have e := lay_cost ch (ch_lt ho.least.rng) _ _ 0 (Nat.le_refl _) h60
 rw [← ho.text] at e
 show ltC _ = 2
 rw [e, hp]
 have hna : na [c1, v1, 124, c2, v1] = 2 := by
  rw [na, if_pos h.c1, na, if_neg (by decide), if_neg (by decide), na, if_pos h.c2]; rfl
 rw [hna]
 cases h0 : ch 0 with
 | none =>
  exfalso
  obtain ⟨y, hy, e1, e2, e3⟩ : ∃ y, y ∈ layA ch 0 [(1, c1, v1, []), (2, c2, v1, [])] ∧ y.1 = 2 ∧ y.2.1 = c2 ∧ y.2.2.1 = v1 := by
   cases h1 : ch 1 with
   | none => exact ⟨(2, c2, v1, []), by simp [layA, h1], rfl, rfl, rfl⟩
   | some l => exact ⟨(2, c2, v1, [l]), by simp [layA, h1], rfl, rfl, rfl⟩
  obtain ⟨l, _, hl, _⟩ := h2 (1, c1, v1, []) (by simp [layA, h0]) y hy (by rw [e1]; simp) (by rw [e3]) (by rw [e2]; exact hc)
  simp at hl
 | some l0 =>
  cases h1 : ch 1 with
  | none =>
   exfalso
   obtain ⟨l, _, _, hl⟩ := h2 (1, c1, v1, [l0]) (by simp [layA, h0]) (2, c2, v1, []) (by simp [layA, h1]) (by simp) rfl hc
   simp at hl
  | some l1 => simp [cst, h0, h1]
end Go.Proofs.Ytdgkpkdinfklaaa
