import Derived.Test.YtnpkambjlfkhgaaGreatRows
import Derived.Test.YtnpkambjlfkhgaaGreatOpen
import Derived.Test.YtnpkambjlfkhgaaGreatAccH
import Derived.SizedLaws
namespace Go.Proofs.YtnpkambjlfkhgaaGreat
open Go.ChangeShapes Go.WideShapes Go.ChangeAt Go.RowKit

theorem Tryz.bytesOp : Tryz.prog.bytesOf 32 = 64 := by kernel_rfl

set_option maxHeartbeats 1600000 in
set_option maxRecDepth 100000 in
/-- UpTo, whatever is known of the book from step to step, by their number. -/
theorem upto_idx (I : Nat → World → Prop) (b off len cap : Nat) (lo hi : Int) (K : Nat → Int) (S P : Nat → ByteArray) (L : Nat → Value) (w : World) (hlen : len ≤ maxLen) (hsc : Script w b off len K S P L)
    (h0 : I 0 (w.alloc (.cells #[.slice none 0 0, .slice none 0 0] 29)))
    (hal : ∀ k W o, I k W → I k (W.alloc o)) (hup : ∀ k W, I k W → I (k + 1) W) (hbel : ∀ k W, I k W → Below w.heap.size w W)
    (hpl : ∀ j W, j < len → lo ≤ K j → K j ≤ hi → I j W → Calls Tryz.prog 8 #[.pointer (some ⟨w.heap.size, 0, none⟩), .agg #[.int .i64 (K j), .string (S j), .string (P j), L j]] W fun e w' => e = .returned (.bool true) ∧ I (j + 1) w')
    (hho : ∀ k W, k ≤ len → I k W → Calls Tryz.prog 9 #[.pointer (some ⟨w.heap.size, 0, none⟩)] W fun e w' => e = .returned (.bool true) ∧ I k w') :
    Calls Tryz.prog 7 #[.slice (some ⟨b, off, none⟩) len cap, .int .i64 lo, .int .i64 hi] w fun e w' => e = .returned (.int .i64 (-1)) ∧ ∃ k, I k w' := by
  have SC : Hid (Script w b off len K S P L) := hsc
  have AL : Hid (∀ k W o, I k W → I k (W.alloc o)) := hal
  have UP : Hid (∀ k W, I k W → I (k + 1) W) := hup
  have BL : Hid (∀ k W, I k W → Below w.heap.size w W) := hbel
  have HP : Hid (∀ j W, j < len → lo ≤ K j → K j ≤ hi → I j W → Calls Tryz.prog 8 #[.pointer (some ⟨w.heap.size, 0, none⟩), .agg #[.int .i64 (K j), .string (S j), .string (P j), L j]] W fun e w' => e = .returned (.bool true) ∧ I (j + 1) w') := hpl
  have HH : Hid (∀ k W, k ≤ len → I k W → Calls Tryz.prog 9 #[.pointer (some ⟨w.heap.size, 0, none⟩)] W fun e w' => e = .returned (.bool true) ∧ I k w') := hho
  clear hsc hal hup hbel hpl hho
  unfold maxLen at hlen
  go_enter Tryz.func7, Tryz.ntmps7
  go_wp2
  go_loopw [8] (fun i wr => ∃ k : Nat, k ≤ len ∧ i = .int .i64 k ∧ I k wr) (fun i _ => len - (intOf i).toNat)
  case atStart => exact ⟨0, Nat.zero_le _, rfl, h0⟩
  case round =>
    obtain ⟨k, hk, rfl, hI⟩ := hrel
    by_cases hlt : k < len
    · have hb := SC.out.lt (by omega)
      have hbw := BL.out _ _ hI
      have q0 := (hbw.cell (p := ⟨b, off + k * 4, none⟩) hb).trans (SC.out.c0 k hlt)
      have q1 := (hbw.cell (p := ⟨b, off + k * 4 + 1, none⟩) hb).trans (SC.out.c1 k hlt)
      have q2 := (hbw.cell (p := ⟨b, off + k * 4 + 2, none⟩) hb).trans (SC.out.c2 k hlt)
      have q3 := (hbw.cell (p := ⟨b, off + k * 4 + 3, none⟩) hb).trans (SC.out.c3 k hlt)
      obtain ⟨la, ln, lc, hL⟩ := SC.out.s2 k hlt
      have HI : Hid (I k wr) := hI
      have HL : Hid (L k = .slice la ln lc) := hL
      rw [hL] at q3
      clear hI hbw hL
      have hI1 : Hid (I k (wr.alloc (.cells #[.int .i64 (K k), .string (S k), .string (P k), .slice la ln lc] 32))) := AL.out _ _ _ HI.out
      by_cases h1 : lo ≤ K k
      · by_cases h2 : K k ≤ hi
        · go_wp2_with fail
          have hp := HP.out k _ hlt h1 h2 hI1.out
          rw [HL.out] at hp
          refine hp.mono ?_
          rintro e w1 ⟨rfl, hI2⟩
          clear hp
          have HI2 : Hid (I (k + 1) w1) := hI2
          clear hI2
          go_wp2_with fail
          refine (HH.out _ _ (by omega) HI2.out).mono ?_
          rintro e w2 ⟨rfl, hI3⟩
          go_wp2
          go_roundw
          case rel => exact ⟨k + 1, by omega, by go_num, hI3⟩
          case measure => simp [intOf]; omega
        · have h2' : decide (K k ≤ hi) = false := by simpa using h2
          go_wp2
          go_roundw
          case rel => exact ⟨k + 1, by omega, by go_num, UP.out _ _ hI1.out⟩
          case measure => simp [intOf]; omega
      · have h1' : decide (lo ≤ K k) = false := by simpa using h1
        go_wp2
        go_roundw
        case rel => exact ⟨k + 1, by omega, by go_num, UP.out _ _ hI1.out⟩
        case measure => simp [intOf]; omega
    · go_wp2
      go_ret
      exact ⟨rfl, k, hI⟩


/-- The book, behind some steps. -/
def BookAt (W0 : World) (k : Nat) (W : World) : Prop := (∃ fs aa ca, BK W W0.heap.size fs aa ca ∧ fs.length ≤ k) ∧ Below W0.heap.size W0 W

set_option maxHeartbeats 800000 in
set_option maxRecDepth 100000 in
theorem upto_lists (a0 : Option Addr) (len cap : Nat) (w : World) (h : IsScript w a0 len) (hsz : len * 64 ≤ 140737488351232) :
    Calls Tryz.prog 7 #[.slice a0 len cap, .int .i64 3, .int .i64 3] w fun e w' => e = .returned (.int .i64 (-1)) ∧ Below w.heap.size w w' := by
  rcases h with rfl | ⟨b, off, K, S, P, L, rfl, hlen, hsc⟩
  · exact upto_none a0 cap 3 3 w
  · refine (upto_idx (BookAt w) b off len cap 3 3 K S P L w hlen hsc ?_ ?_ ?_ ?_ ?_ ?_).mono fun e w' ⟨he, _, hI⟩ => ⟨he, hI.2⟩
    · refine ⟨⟨[], none, 0, ⟨by simp, ?_, ?_, World.frozen?_alloc_at _ _ _ _ rfl, World.ownsRow_nil _ _ _ _, fun k f hf => by simp at hf⟩, Nat.le_refl _⟩, (Below.refl _ _).alloc (Nat.le_refl _) _⟩
      all_goals (rw [World.cell?_alloc_at _ _ _ _ rfl]; rfl)
    · intro k W o hI
      obtain ⟨⟨fs, aa, ca, hk, hl⟩, hb⟩ := hI
      exact ⟨⟨fs, aa, ca, hk.below ((Below.refl _ _).alloc (Nat.le_refl _) o), hl⟩, hb.alloc hb.size o⟩
    · intro k W hI
      obtain ⟨⟨fs, aa, ca, hk, hl⟩, hb⟩ := hI
      exact ⟨⟨fs, aa, ca, hk, by omega⟩, hb⟩
    · exact fun k W hI => hI.2
    · intro j W hj h1 h2 hI
      have hK : K j = 3 := by omega
      rw [hK]
      obtain ⟨la, ln, lc, hL⟩ := hsc.s2 j hj
      rw [hL]
      obtain ⟨⟨fs, aa, ca, hk, hl⟩, hb⟩ := hI
      refine (plays_lists w.heap.size (S j) (P j) la ln lc fs aa ca W (hsc.s0 j hj) hk (by omega)).mono ?_
      rintro e w' ⟨he, ⟨fs', aa', ca', hk', hl'⟩, hb'⟩
      exact ⟨he, ⟨fs', aa', ca', hk', by omega⟩, hb.trans hb'⟩
    · intro k W hkl hI
      obtain ⟨⟨fs, aa, ca, hk, hl⟩, hb⟩ := hI
      refine (holds_book w.heap.size fs aa ca W hk (by omega)).mono ?_
      rintro e w' ⟨he, hb'⟩
      exact ⟨he, ⟨fs, aa, ca, hk.below hb', hl⟩, hb.trans (hb'.mono hb.size)⟩

set_option maxHeartbeats 400000 in
theorem lists_law (a0 : Option Addr) (len cap : Nat) (w : World) (h : IsScript w a0 len) (hsz : len * 64 ≤ 140737488351232) :
    Calls Tryz.prog 5 #[.slice a0 len cap] w fun e w' => e = .returned (.bool true) ∧ Below w.heap.size w w' := by
  go_enter Tryz.func5, Tryz.ntmps5
  go_wp2_with fail
  refine (upto_lists a0 len cap w h hsz).mono ?_
  rintro e w1 ⟨rfl, hb⟩
  go_wp2
  go_ret
  exact ⟨rfl, hb⟩

set_option maxRecDepth 100000 in
theorem lists_lifted (os : Os) (started : os.Started) (H : Type) (enc : TypeId × Value → H) :
    ReturnsInHanded {} Tryz.checked os 5 .any (Rows.listsSpec.pre6 enc Tryz.prog Tryz.f5 Rows.listsRow.domain false) (Rows.listsSpec.post enc Tryz.prog Tryz.f5 false true false false) := by
  refine returnsInHanded_of_change_sized (C := Tryz.checked) Tryz.own started (by kernel_rfl) Tryz.func5
    (ChangeSpec.witness6 (enc := enc) (C := Tryz.checked) false ⟨#[], #[.slice none 0 0], []⟩ 8 (by kernel_rfl) (by kernel_rfl) (by kernel_rfl) (by kernel_rfl)) ?_
  intro W base args ds gs before hval0 hW _ hsz0 _
  have hsz : (DataW.weightsEach Tryz.prog (Tryz.f5.params.toList ++ Rows.listsSpec.plain.varTypes Tryz.prog) (ds ++ gs)).all (· ≤ reachBytes) = true := hsz0
  clear hsz0
  have hval : ∀ (j : Nat) t v, Tryz.f5.params[j]? = some t → args[j]? = some v → Value.okWide Tryz.prog W .any base t v := hval0
  have hW' := hW
  obtain ⟨p, q, hA0, hV, rfl, _, _⟩ := hW
  have hA : DataW.TrodAll enc Tryz.prog W 0 (fun _ => true) true Tryz.f5.params.toList args.toList ds p := hA0
  rw [Tryz.params5] at hA hval hsz
  obtain ⟨v0, d0, rfl, rfl, h0⟩ := trodAll_one hA
  obtain ⟨rfl, rfl⟩ := trodVars_none hV
  obtain ⟨a0, len, cap, rfl⟩ := okWide_slice Tryz.underlying22 (hval 0 22 v0 rfl rfl)
  have h0k := h0
  obtain ⟨fuel, hf⟩ := h0
  clear hA0 hval0
  simp only [List.append_nil] at hW'
  have hlt : ∀ x ∈ p, x.block < W.heap.size := fun x hx => by simpa using hW'.lt x hx
  have hf' : DataW.trod enc Tryz.prog W 0 (fun _ => true) true fuel 22 [.slice a0 len cap] = some (d0, p) := by simpa [Value.cells] using hf
  have hlen64 : len * 64 ≤ 140737488351232 := by
    rcases Deep.open_slice Tryz.underlying22 hf' with ⟨hcs, _⟩ | ⟨a, len', cap', m, n, D, Pl, hcs, _, hl, hm, hmm, hx, _⟩
    · simp at hcs
      rw [hcs.2.1]; decide
    · simp only [List.cons.injEq, Value.slice.injEq, and_true] at hcs
      obtain ⟨rfl, rfl, rfl⟩ := hcs
      simp only [Prod.mk.injEq] at hx
      obtain ⟨rfl, _⟩ := hx
      have := sized_slice hsz (j := 0) (t := 22) (e := 32) rfl rfl Tryz.underlying22
      rw [Tryz.bytesOp] at this
      simp only [List.length_map, List.length_range, reachBytes] at this
      omega
  refine (lists_law a0 len cap W (open_script hf') hlen64).mono fun e W' ⟨he, hnx⟩ => ?_
  subst he
  refine ⟨_, rfl, ?_⟩
  refine ⟨_, _, _, [], p, [], hW', ?_, ?_, rfl, hnx.frame _, fun h => by cases h⟩
  · exact trodAll_mk1 (shut_bool Tryz.underlying4 true)
  · exact trodAll_mk1 (Below.trod Tryz.laidOut (by kernel_rfl) (of_decide_eq_true (by kernel_rfl)) h0k hnx hlt)

theorem lists_holds : Rows.ListsSaid :=
  OpenClaim.holds_of_wide 5 Tryz.f5 rfl rfl rfl rfl rfl rfl rfl ⟨rfl, rfl, rfl, rfl, rfl⟩ rfl rfl rfl rfl rfl (by kernel_rfl) Tryz.func5 (by kernel_rfl)
    (of_decide_eq_true (by kernel_rfl)) (by unfold Func.isWrapper; rw [if_neg (of_decide_eq_false (by kernel_rfl))]; exact ⟨rfl, rfl⟩)
    (fun os started H enc _ => lists_lifted os started H enc)

#print axioms lists_holds
end Go.Proofs.YtnpkambjlfkhgaaGreat
