import Derived.Test.YtdgkpkdinfklaaaGH
import Derived.Test.YtdgkpkdinfklaaaXMade2
import Derived.Test.YtdgkpkdinfklaaaGW
namespace Go.Proofs.Ytdgkpkdinfklaaa
open Go.RowKit

theorem nm_mem {h : Nat → Bool} {k : Nat} {c : UInt8} (hc : c ∈ nm h k) : ∃ j, j < k ∧ c = UInt8.ofNat (65 + j) ∧ h j = true := by
  induction k with
  | zero => simp [nm] at hc
  | succ k ih =>
    cases e : h k with
    | true =>
      rw [nm_yes e] at hc
      rcases List.mem_append.1 hc with hc | hc
      · obtain ⟨j, hj, r⟩ := ih hc; exact ⟨j, by omega, r⟩
      · rw [List.mem_singleton] at hc; exact ⟨k, by omega, hc, e⟩
    | false =>
      rw [nm_no e] at hc
      obtain ⟨j, hj, r⟩ := ih hc; exact ⟨j, by omega, r⟩

theorem nm_sorted (h : Nat → Bool) (k : Nat) (hk : k ≤ 5) : (nm h k).Pairwise (fun a b => a.toNat < b.toNat) := by
  induction k with
  | zero => simp [nm]
  | succ k ih =>
    cases e : h k with
    | true =>
      rw [nm_yes e, List.pairwise_append]
      refine ⟨ih (by omega), by simp, ?_⟩
      intro a ha b hb
      rw [List.mem_singleton] at hb
      subst hb
      obtain ⟨j, hj, rfl, _⟩ := nm_mem ha
      rw [UInt8.toNat_ofNat_of_lt' (by show 65 + j < 256; omega), UInt8.toNat_ofNat_of_lt' (by show 65 + k < 256; omega)]
      omega
    | false => rw [nm_no e]; exact ih (by omega)

/-- The locks of an access: each stands ahead of it in its thread; they rise. -/
structure Names (p : ByteArray) (fr i : Nat) (st : ByteArray) : Prop where
  small : st.size ≤ 5
  ahead : ∀ n (h : n < st.size), inU (p.extract fr i).data.toList st[n] = true
  rise : ∀ n (h : n + 1 < st.size), (st[n].toNat : Int) < (st[n + 1].toNat : Int)

theorem names_of {p : ByteArray} {mks : List MK} (ha : Acc p.data.toList mks) (j : Nat) : Names p (frm p.data.toList j) (tw p.data.toList j).i ⟨(nm (sortF (tw p.data.toList j).now) 5).toArray⟩ := by
  refine ⟨nm_len _ 5, ?_, ?_⟩
  · intro n h
    have hn : n < (nm (sortF (tw p.data.toList j).now) 5).length := h
    have hmem : (nm (sortF (tw p.data.toList j).now) 5)[n] ∈ nm (sortF (tw p.data.toList j).now) 5 := List.getElem_mem hn
    obtain ⟨q, hq, he, hs⟩ := nm_mem hmem
    have hin : (nm (sortF (tw p.data.toList j).now) 5)[n] ∈ (tw p.data.toList j).now := by
      rw [he]
      unfold sortF inU at hs
      rw [List.any_eq_true] at hs
      obtain ⟨x, hx, hxe⟩ := hs
      rw [← (by simpa using hxe : x = UInt8.ofNat (65 + q))]
      exact hx
    obtain ⟨r, h1, h2, h3⟩ := now_ahead ha j _ hin
    show inU (p.extract (frm p.data.toList j) (tw p.data.toList j).i).data.toList (nm (sortF (tw p.data.toList j).now) 5)[n] = true
    rw [Lib.extract_data]
    unfold inU
    rw [List.any_eq_true]
    refine ⟨(nm (sortF (tw p.data.toList j).now) 5)[n], ?_, by simp⟩
    rw [List.mem_iff_getElem?]
    refine ⟨r - frm p.data.toList j, ?_⟩
    rw [List.getElem?_take, if_pos (by omega), List.getElem?_drop, show frm p.data.toList j + (r - frm p.data.toList j) = r by omega]
    exact h3
  · intro n h
    have hp := nm_sorted (sortF (tw p.data.toList j).now) 5 (Nat.le_refl _)
    have := (List.pairwise_iff_getElem.1 hp) n (n + 1) (show n < (nm _ 5).length from by have : n + 1 < (nm (sortF (tw p.data.toList j).now) 5).length := h; omega) h (by omega)
    show (((nm (sortF (tw p.data.toList j).now) 5)[n]'_).toNat : Int) < (((nm (sortF (tw p.data.toList j).now) 5)[n + 1]'_).toNat : Int)
    omega

def aliveMks : List MK := [mkN 3 0 1 0 [], mkN 1 2 1 0 [65]]
theorem alive_acc : Acc (ByteArray.mk #[91, 65, 103, 120, 93]).data.toList aliveMks := by
  refine ⟨⟨_, rfl, rfl⟩, ⟨3, [], 1, rfl⟩, ?_⟩
  intro m hm
  simp only [aliveMks, List.mem_cons, List.not_mem_nil, or_false] at hm
  rcases hm with rfl | rfl
  · exact .inl ⟨rfl, by decide, by decide⟩
  · exact .inr ⟨.inl rfl, by decide, by decide⟩

theorem alive_chk : ChkIs (ByteArray.mk #[91, 65, 103, 120, 93]) 0 0 := .inr ⟨by decide, .inr ⟨aliveMks, alive_acc, rfl, rfl⟩⟩

set_option maxHeartbeats 800000 in
set_option maxRecDepth 100000 in
theorem alive_any (w : World) : Calls Try.prog 12 #[] w fun e w' => e = .returned (.bool true) ∧ Below w.heap.size w w' := by
  go_enter Try.func12, Try.ntmps12
  go_wp2_with fail
  refine (Accesses_any _ w (by unfold maxLen; decide)).mono ?_
  rintro e w1 ⟨v, a, rfl, ⟨b, hc, hcase⟩, hb⟩
  obtain ⟨rfl, rfl⟩ := hc.unique alive_chk
  rcases hcase with ⟨h0, _⟩ | ⟨_, _, mks, x, c, hacc, _, rfl, hown⟩
  · exact absurd rfl h0
  · have := acc_unique hacc alive_acc
    subst this
    have hl : (accL aliveMks).length = 1 := rfl
    rw [hl] at hown ⊢
    obtain ⟨g, cap, hv, _, _⟩ := hown.form (by decide)
    cases hv
    have q1 : w1.cell? ⟨g, 1, none⟩ = some (.int .i64 2) := (hown.cellAt 1 (by decide)).trans rfl
    have q4 : w1.cell? ⟨g, 4, none⟩ = some (.string ⟨#[65]⟩) := (hown.cellAt 4 (by decide)).trans rfl
    have HB : Hid (Below w.heap.size w w1) := hb
    clear hb hown hacc hc
    go_wp2
    go_ret
    exact ⟨rfl, HB.out⟩

end Go.Proofs.Ytdgkpkdinfklaaa
