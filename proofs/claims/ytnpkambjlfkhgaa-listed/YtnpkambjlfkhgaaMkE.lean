import Derived.Test.YtnpkambjlfkhgaaMkD
namespace Go.Proofs.Ytnpkambjlfkhgaa
open Go.RowKit

/-- The maker between two threads. -/
def Between (w wr : World) (mb : Nat) (la : Option Addr) (ln lc k : Nat) : Prop :=
  ∃ text opn at_ ac, MM wr mb la ln lc at_ text opn ac ∧ ((k = 0 ∧ text = ⟨#[]⟩ ∧ opn = ⟨#[]⟩) ∨ (1 ≤ k ∧ Gen k text.data.toList [] opn.data.toList)) ∧ Below w.heap.size w wr

def ProgramOut (e : Ending) : Prop := ∃ (p : ByteArray) (t : Nat) (opn : List UInt8), e = .returned (.string p) ∧ Gen t p.data.toList [] opn

set_option maxHeartbeats 1600000 in
set_option maxRecDepth 100000 in
theorem program_any (la : Option Addr) (ln lc : Nat) (w : World) (hi : IsInts w w.heap.size la ln) (hl : ln ≤ maxLen) :
    Calls Try.prog 19 #[.slice la ln lc, .string ⟨#[65, 66, 67, 68]⟩] w fun e w' => ProgramOut e ∧ Below w.heap.size w w' := by
  have HS : Hid (MM (w.alloc (.cells #[.slice la ln lc, .int .i64 0, .string ⟨#[]⟩, .string ⟨#[]⟩, .string ⟨#[65, 66, 67, 68]⟩, .int .i64 0] 57)) w.heap.size la ln lc 0 ⟨#[]⟩ ⟨#[]⟩ 0) := by
    refine ⟨by simp, ?_, ?_, ?_, ?_, ?_, ?_, fun i => World.frozen?_alloc_at _ _ _ _ rfl, hi.below ((Below.refl _ _).alloc (Nat.le_refl _) _), hl, Nat.zero_le _, by decide, by decide, by decide⟩
    all_goals (rw [World.cell?_alloc_at _ _ _ _ rfl]; rfl)
  have HB0 : Hid (Below w.heap.size w (w.alloc (.cells #[.slice la ln lc, .int .i64 0, .string ⟨#[]⟩, .string ⟨#[]⟩, .string ⟨#[65, 66, 67, 68]⟩, .int .i64 0] 57))) := (Below.refl _ _).alloc (Nat.le_refl _) _
  clear hi hl
  go_enter Try.func19, Try.ntmps19
  go_wp2_with fail
  refine (mpick_any w.heap.size 4 la ln lc 0 ⟨#[]⟩ ⟨#[]⟩ 0 _ HS.out (by decide) (by decide)).mono ?_
  rintro e w1 ⟨r, at1, hr, _, rfl, hm1, hb1⟩
  have HM1 : Hid (MM w1 w.heap.size la ln lc at1 ⟨#[]⟩ ⟨#[]⟩ 0) := hm1
  have HB1 : Hid (Below w.heap.size w w1) := HB0.out.trans hb1
  clear hm1 hb1 HS
  go_wp2
  go_loopw [7] (fun i wr => ∃ k : Nat, k ≤ r + 1 ∧ i = .int .i64 k ∧ Between w wr w.heap.size la ln lc k) (fun i _ => r + 1 - (intOf i).toNat)
  case atStart => exact ⟨0, Nat.zero_le _, rfl, ⟨#[]⟩, ⟨#[]⟩, at1, 0, HM1.out, .inl ⟨rfl, rfl, rfl⟩, HB1.out⟩
  case round =>
    obtain ⟨k, hk, rfl, text, opn, at2, ac, hm, hcase, hbe⟩ := hrel
    have HM2 : Hid (MM wr w.heap.size la ln lc at2 text opn ac) := hm
    have HB2 : Hid (Below w.heap.size w wr) := hbe
    have c2 := hm.c2
    have f2 := hm.fz 2
    have hts := hm.ts
    clear hm hbe
    by_cases hlt : k < r + 1
    · rcases hcase with ⟨rfl, rfl, rfl⟩ | ⟨h1, hg⟩
      · go_wp2_with fail
        refine (thread_any w.heap.size la ln lc at2 1 ⟨#[]⟩ ⟨#[]⟩ ac wr HM2.out Gen.start).mono ?_
        rintro e w2 ⟨rfl, hout⟩
        have HT : Hid (ThreadOut wr w2 w.heap.size la ln lc 1) := hout
        clear hout c2 f2
        go_wp2
        go_roundw
        case rel =>
          obtain ⟨tx, op, a3, ac3, m3, g3, b3⟩ := HT.out
          exact ⟨1, by omega, rfl, tx, op, a3, ac3, m3, .inr ⟨by decide, g3⟩, HB2.out.trans b3⟩
        case measure => simp [intOf]
      · have HG : Hid (Gen (k + 1) (text ++ (⟨#[124]⟩ : ByteArray)).data.toList [66] opn.data.toList) := by
          show Gen (k + 1) (text ++ (⟨#[124]⟩ : ByteArray)).data.toList [66] opn.data.toList
          rw [cat_data]
          exact hg.bar (by omega)
        have hsz := hg.acc.1
        rw [len_eq] at hsz
        have hcat : (text ++ (⟨#[124]⟩ : ByteArray)).size = text.size + 1 := by rw [ByteArray.size_append]; rfl
        have HM3 : Hid (MM (wr.setCell ⟨w.heap.size, 2, none⟩ (.string (text ++ (⟨#[124]⟩ : ByteArray)))) w.heap.size la ln lc at2 (text ++ (⟨#[124]⟩ : ByteArray)) opn ac) := HM2.out.setText _ (by omega)
        have hk0 : (0 : Int) < (k : Int) := by omega
        clear hg hcat
        go_wp2_with fail
        refine (thread_any w.heap.size la ln lc at2 (k + 1) _ opn ac _ HM3.out HG.out).mono ?_
        rintro e w2 ⟨rfl, hout⟩
        have HT : Hid (ThreadOut (wr.setCell ⟨w.heap.size, 2, none⟩ (.string (text ++ (⟨#[124]⟩ : ByteArray)))) w2 w.heap.size la ln lc (k + 1)) := hout
        clear hout c2 f2
        go_wp2
        go_roundw
        case rel =>
          obtain ⟨tx, op, a3, ac3, m3, g3, b3⟩ := HT.out
          exact ⟨k + 1, by omega, by go_num, tx, op, a3, ac3, m3, .inr ⟨by omega, g3⟩, (HB2.out.setCell (p := ⟨w.heap.size, 2, none⟩) (Nat.le_refl _) _).trans b3⟩
        case measure => simp [intOf]; omega
    · have HC : Hid (Gen k text.data.toList [] opn.data.toList) := by
        rcases hcase with ⟨h0, _⟩ | ⟨_, hg⟩
        · omega
        · exact hg
      clear hcase
      go_wp2
      go_ret
      exact ⟨⟨text, k, _, rfl, HC.out⟩, HB2.out⟩

set_option maxHeartbeats 400000 in
theorem Any_any (la : Option Addr) (ln lc : Nat) (w : World) (hi : IsInts w w.heap.size la ln) (hl : ln ≤ maxLen) :
    Calls Try.prog 7 #[.slice la ln lc] w fun e w' => ProgramOut e ∧ Below w.heap.size w w' := by
  go_enter Try.func7, Try.ntmps7
  go_wp2_with fail
  refine (program_any la ln lc w hi hl).mono ?_
  rintro e w1 ⟨⟨p, t, opn, rfl, hg⟩, hb⟩
  have HG : Hid (Gen t p.data.toList [] opn) := hg
  clear hg
  go_wp2
  go_ret
  exact ⟨⟨p, t, opn, rfl, HG.out⟩, hb⟩

set_option maxHeartbeats 400000 in
theorem ksize_any (c : UInt8) (w : World) :
    Calls Try.prog 9 #[.int .u8 (c.toNat : Int)] w fun e w' => e = .returned (.int .i64 (sizeU c)) ∧ w' = w := by
  cases hi : inU [103, 112, 105, 91, 60] c with
  | true =>
    have hz : sizeU c = 2 := by simp [sizeU, hi]
    rw [hz]
    go_enter Try.func9, Try.ntmps9
    go_wp2_with fail
    refine (kstands_any _ c w (by unfold maxLen; decide)).mono ?_
    rintro e w' ⟨rfl, rfl⟩
    rw [show inU (ByteArray.mk #[103, 112, 105, 91, 60]).data.toList c = true from hi]
    go_wp2
    go_ret
    exact ⟨rfl, rfl⟩
  | false =>
    have hz : sizeU c = 1 := by simp [sizeU, hi]
    rw [hz]
    go_enter Try.func9, Try.ntmps9
    go_wp2_with fail
    refine (kstands_any _ c w (by unfold maxLen; decide)).mono ?_
    rintro e w' ⟨rfl, rfl⟩
    rw [show inU (ByteArray.mk #[103, 112, 105, 91, 60]).data.toList c = false from hi]
    go_wp2
    go_ret
    exact ⟨rfl, rfl⟩

end Go.Proofs.Ytnpkambjlfkhgaa
