import Derived.Test.YtnpkambjlfkhgaaGreatAccB
namespace Go.Proofs.YtnpkambjlfkhgaaGreat
open Go.RowKit

/-- Which of the five locks stand in a text. -/
def sortF (now : List UInt8) (j : Nat) : Bool := inU now (UInt8.ofNat (65 + j))

theorem nm_congr {h h' : Nat → Bool} (k : Nat) (e : ∀ j, j < k → h j = h' j) : nm h k = nm h' k := by
  induction k with
  | zero => rfl
  | succ k ih => rw [nm, nm, ih (fun j hj => e j (by omega)), e k (by omega)]

theorem nm_yes {h : Nat → Bool} {k : Nat} (e : h k = true) : nm h (k + 1) = nm h k ++ [UInt8.ofNat (65 + k)] := by rw [nm, e]; rfl
theorem nm_no {h : Nat → Bool} {k : Nat} (e : h k = false) : nm h (k + 1) = nm h k := by rw [nm, e]; simp

def SortedAt (now : List UInt8) (k : Nat) (o : ByteArray) : Prop := o.data.toList = nm (sortF now) k

set_option maxHeartbeats 1600000 in
set_option maxRecDepth 100000 in
theorem sorted_any (now : ByteArray) (w : World) (hn : now.size ≤ 100000) :
    Calls Tryz.prog 59 #[.string now] w fun e w' => e = .returned (.string ⟨(nm (sortF now.data.toList) 5).toArray⟩) ∧ w' = w := by
  go_enter Tryz.func59, Tryz.ntmps59
  go_wp2
  go_loop [3, 4] (fun ov i => ∃ (k : Nat) (o : ByteArray), k ≤ 5 ∧ i = .int .i64 k ∧ ov = .string o ∧ o.size ≤ k ∧ SortedAt now.data.toList k o) (fun _ i => 5 - (intOf i).toNat)
  case atStart => exact ⟨0, ⟨#[]⟩, by decide, rfl, rfl, by decide, rfl⟩
  case round =>
    obtain ⟨k, o, hk, rfl, rfl, hos, hon⟩ := hrel
    have h6 : k = 0 ∨ k = 1 ∨ k = 2 ∨ k = 3 ∨ k = 4 ∨ k = 5 := by omega
    rcases h6 with rfl | rfl | rfl | rfl | rfl | rfl
    · have HON : Hid (SortedAt now.data.toList 0 o) := hon
      clear hon
      cases hin : sortF now.data.toList 0 with
      | true =>
        have HN : Hid (nm (sortF now.data.toList) 1 = nm (sortF now.data.toList) 0 ++ [UInt8.ofNat (65 + 0)]) := nm_yes hin
        have HIN : Hid (sortF now.data.toList 0 = true) := hin
        clear hin
        go_wp2_with fail
        refine (in_any now _ _ (by unfold maxLen; omega)).mono ?_
        rintro e w' ⟨rfl, rfl⟩
        rw [show inU now.data.toList (ByteArray.mk #[65, 66, 67, 68, 69])[0] = true from HIN.out]
        go_wp2
        go_round
        case rel =>
          refine ⟨1, o ++ (ByteArray.mk #[65, 66, 67, 68, 69]).extract 0 1, by decide, rfl, rfl, ?_, ?_⟩
          · rw [ByteArray.size_append]
            have : ((ByteArray.mk #[65, 66, 67, 68, 69]).extract 0 1).size = 1 := by decide
            omega
          · show (o ++ (ByteArray.mk #[65, 66, 67, 68, 69]).extract 0 1).data.toList = _
            rw [cat_data, HN.out, show o.data.toList = nm (sortF now.data.toList) 0 from HON.out]
            rfl
        case measure => simp [intOf]
      | false =>
        have HN : Hid (nm (sortF now.data.toList) 1 = nm (sortF now.data.toList) 0) := nm_no hin
        have HIN : Hid (sortF now.data.toList 0 = false) := hin
        clear hin
        go_wp2_with fail
        refine (in_any now _ _ (by unfold maxLen; omega)).mono ?_
        rintro e w' ⟨rfl, rfl⟩
        rw [show inU now.data.toList (ByteArray.mk #[65, 66, 67, 68, 69])[0] = false from HIN.out]
        go_wp2
        go_round
        case rel =>
          refine ⟨1, o, by decide, rfl, rfl, by omega, ?_⟩
          show o.data.toList = _
          rw [HN.out]; exact HON.out
        case measure => simp [intOf]
    · have HON : Hid (SortedAt now.data.toList 1 o) := hon
      clear hon
      cases hin : sortF now.data.toList 1 with
      | true =>
        have HN : Hid (nm (sortF now.data.toList) 2 = nm (sortF now.data.toList) 1 ++ [UInt8.ofNat (65 + 1)]) := nm_yes hin
        have HIN : Hid (sortF now.data.toList 1 = true) := hin
        clear hin
        go_wp2_with fail
        refine (in_any now _ _ (by unfold maxLen; omega)).mono ?_
        rintro e w' ⟨rfl, rfl⟩
        rw [show inU now.data.toList (ByteArray.mk #[65, 66, 67, 68, 69])[1] = true from HIN.out]
        go_wp2
        go_round
        case rel =>
          refine ⟨2, o ++ (ByteArray.mk #[65, 66, 67, 68, 69]).extract 1 2, by decide, rfl, rfl, ?_, ?_⟩
          · rw [ByteArray.size_append]
            have : ((ByteArray.mk #[65, 66, 67, 68, 69]).extract 1 2).size = 1 := by decide
            omega
          · show (o ++ (ByteArray.mk #[65, 66, 67, 68, 69]).extract 1 2).data.toList = _
            rw [cat_data, HN.out, show o.data.toList = nm (sortF now.data.toList) 1 from HON.out]
            rfl
        case measure => simp [intOf]
      | false =>
        have HN : Hid (nm (sortF now.data.toList) 2 = nm (sortF now.data.toList) 1) := nm_no hin
        have HIN : Hid (sortF now.data.toList 1 = false) := hin
        clear hin
        go_wp2_with fail
        refine (in_any now _ _ (by unfold maxLen; omega)).mono ?_
        rintro e w' ⟨rfl, rfl⟩
        rw [show inU now.data.toList (ByteArray.mk #[65, 66, 67, 68, 69])[1] = false from HIN.out]
        go_wp2
        go_round
        case rel =>
          refine ⟨2, o, by decide, rfl, rfl, by omega, ?_⟩
          show o.data.toList = _
          rw [HN.out]; exact HON.out
        case measure => simp [intOf]
    · have HON : Hid (SortedAt now.data.toList 2 o) := hon
      clear hon
      cases hin : sortF now.data.toList 2 with
      | true =>
        have HN : Hid (nm (sortF now.data.toList) 3 = nm (sortF now.data.toList) 2 ++ [UInt8.ofNat (65 + 2)]) := nm_yes hin
        have HIN : Hid (sortF now.data.toList 2 = true) := hin
        clear hin
        go_wp2_with fail
        refine (in_any now _ _ (by unfold maxLen; omega)).mono ?_
        rintro e w' ⟨rfl, rfl⟩
        rw [show inU now.data.toList (ByteArray.mk #[65, 66, 67, 68, 69])[2] = true from HIN.out]
        go_wp2
        go_round
        case rel =>
          refine ⟨3, o ++ (ByteArray.mk #[65, 66, 67, 68, 69]).extract 2 3, by decide, rfl, rfl, ?_, ?_⟩
          · rw [ByteArray.size_append]
            have : ((ByteArray.mk #[65, 66, 67, 68, 69]).extract 2 3).size = 1 := by decide
            omega
          · show (o ++ (ByteArray.mk #[65, 66, 67, 68, 69]).extract 2 3).data.toList = _
            rw [cat_data, HN.out, show o.data.toList = nm (sortF now.data.toList) 2 from HON.out]
            rfl
        case measure => simp [intOf]
      | false =>
        have HN : Hid (nm (sortF now.data.toList) 3 = nm (sortF now.data.toList) 2) := nm_no hin
        have HIN : Hid (sortF now.data.toList 2 = false) := hin
        clear hin
        go_wp2_with fail
        refine (in_any now _ _ (by unfold maxLen; omega)).mono ?_
        rintro e w' ⟨rfl, rfl⟩
        rw [show inU now.data.toList (ByteArray.mk #[65, 66, 67, 68, 69])[2] = false from HIN.out]
        go_wp2
        go_round
        case rel =>
          refine ⟨3, o, by decide, rfl, rfl, by omega, ?_⟩
          show o.data.toList = _
          rw [HN.out]; exact HON.out
        case measure => simp [intOf]
    · have HON : Hid (SortedAt now.data.toList 3 o) := hon
      clear hon
      cases hin : sortF now.data.toList 3 with
      | true =>
        have HN : Hid (nm (sortF now.data.toList) 4 = nm (sortF now.data.toList) 3 ++ [UInt8.ofNat (65 + 3)]) := nm_yes hin
        have HIN : Hid (sortF now.data.toList 3 = true) := hin
        clear hin
        go_wp2_with fail
        refine (in_any now _ _ (by unfold maxLen; omega)).mono ?_
        rintro e w' ⟨rfl, rfl⟩
        rw [show inU now.data.toList (ByteArray.mk #[65, 66, 67, 68, 69])[3] = true from HIN.out]
        go_wp2
        go_round
        case rel =>
          refine ⟨4, o ++ (ByteArray.mk #[65, 66, 67, 68, 69]).extract 3 4, by decide, rfl, rfl, ?_, ?_⟩
          · rw [ByteArray.size_append]
            have : ((ByteArray.mk #[65, 66, 67, 68, 69]).extract 3 4).size = 1 := by decide
            omega
          · show (o ++ (ByteArray.mk #[65, 66, 67, 68, 69]).extract 3 4).data.toList = _
            rw [cat_data, HN.out, show o.data.toList = nm (sortF now.data.toList) 3 from HON.out]
            rfl
        case measure => simp [intOf]
      | false =>
        have HN : Hid (nm (sortF now.data.toList) 4 = nm (sortF now.data.toList) 3) := nm_no hin
        have HIN : Hid (sortF now.data.toList 3 = false) := hin
        clear hin
        go_wp2_with fail
        refine (in_any now _ _ (by unfold maxLen; omega)).mono ?_
        rintro e w' ⟨rfl, rfl⟩
        rw [show inU now.data.toList (ByteArray.mk #[65, 66, 67, 68, 69])[3] = false from HIN.out]
        go_wp2
        go_round
        case rel =>
          refine ⟨4, o, by decide, rfl, rfl, by omega, ?_⟩
          show o.data.toList = _
          rw [HN.out]; exact HON.out
        case measure => simp [intOf]
    · have HON : Hid (SortedAt now.data.toList 4 o) := hon
      clear hon
      cases hin : sortF now.data.toList 4 with
      | true =>
        have HN : Hid (nm (sortF now.data.toList) 5 = nm (sortF now.data.toList) 4 ++ [UInt8.ofNat (65 + 4)]) := nm_yes hin
        have HIN : Hid (sortF now.data.toList 4 = true) := hin
        clear hin
        go_wp2_with fail
        refine (in_any now _ _ (by unfold maxLen; omega)).mono ?_
        rintro e w' ⟨rfl, rfl⟩
        rw [show inU now.data.toList (ByteArray.mk #[65, 66, 67, 68, 69])[4] = true from HIN.out]
        go_wp2
        go_round
        case rel =>
          refine ⟨5, o ++ (ByteArray.mk #[65, 66, 67, 68, 69]).extract 4 5, by decide, rfl, rfl, ?_, ?_⟩
          · rw [ByteArray.size_append]
            have : ((ByteArray.mk #[65, 66, 67, 68, 69]).extract 4 5).size = 1 := by decide
            omega
          · show (o ++ (ByteArray.mk #[65, 66, 67, 68, 69]).extract 4 5).data.toList = _
            rw [cat_data, HN.out, show o.data.toList = nm (sortF now.data.toList) 4 from HON.out]
            rfl
        case measure => simp [intOf]
      | false =>
        have HN : Hid (nm (sortF now.data.toList) 5 = nm (sortF now.data.toList) 4) := nm_no hin
        have HIN : Hid (sortF now.data.toList 4 = false) := hin
        clear hin
        go_wp2_with fail
        refine (in_any now _ _ (by unfold maxLen; omega)).mono ?_
        rintro e w' ⟨rfl, rfl⟩
        rw [show inU now.data.toList (ByteArray.mk #[65, 66, 67, 68, 69])[4] = false from HIN.out]
        go_wp2
        go_round
        case rel =>
          refine ⟨5, o, by decide, rfl, rfl, by omega, ?_⟩
          show o.data.toList = _
          rw [HN.out]; exact HON.out
        case measure => simp [intOf]
    · have HON : Hid (SortedAt now.data.toList 5 o) := hon
      clear hon
      go_wp2
      go_ret
      refine ⟨?_, rfl⟩
      rw [← show o.data.toList = nm (sortF now.data.toList) 5 from HON.out]; rfl

end Go.Proofs.YtnpkambjlfkhgaaGreat
