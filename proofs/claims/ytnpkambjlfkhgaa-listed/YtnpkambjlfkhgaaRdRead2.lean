import Derived.Test.YtnpkambjlfkhgaaRdRead
namespace Go.Proofs.Ytnpkambjlfkhgaa
open Go.RowKit

/-- What Read answers. -/
def ReadOut (w : World) (s : ByteArray) (e : Ending) (w' : World) : Prop :=
  Below w.heap.size w w' ∧
  ((240 < s.size ∧ e = .returned (.tuple #[.slice none 0 0, .int .i64 1, .int .i64 0])) ∨
   (s.size ≤ 240 ∧ ∃ r, ReachT s.data.toList r ∧
    ((r.pl = s.size ∧ r.op ≠ [] ∧ e = .returned (.tuple #[.slice none 0 0, .int .i64 2, .int .i64 r.pl])) ∨
     (r.pl < s.size ∧ (r.piece s.data.toList).2 = false ∧ e = .returned (.tuple #[.slice none 0 0, .int .i64 2, .int .i64 (r.piece s.data.toList).1.pl])) ∨
     (r.pl = s.size ∧ r.op = [] ∧ ∃ m, (r.step 9 r.pl 0 false).st.find? nestS = some m ∧ e = .returned (.tuple #[.slice none 0 0, .int .i64 3, .int .i64 m.place])) ∨
     (r.pl = s.size ∧ r.op = [] ∧ (r.step 9 r.pl 0 false).st.find? nestS = none ∧ ∃ am cm, e = .returned (.tuple #[.slice am (r.step 9 r.pl 0 false).st.length cm, .int .i64 0, .int .i64 0]) ∧
        w'.ownsRow w.heap.size 64 12 (.slice am (r.step 9 r.pl 0 false).st.length cm) (r.step 9 r.pl 0 false).st.length (stsV (r.step 9 r.pl 0 false).st)))))

theorem find_none_step {l : List ST} {k : Nat} {m : ST} (h : l[k]? = some m) (h0 : (l.take k).find? nestS = none) (h1 : nestS m = false) : (l.take (k + 1)).find? nestS = none := by
  obtain ⟨hk, rfl⟩ := List.getElem?_eq_some_iff.1 h
  rw [List.take_succ_eq_append_getElem hk, List.find?_append, h0]
  simp [h1]

theorem find_hit_step {l : List ST} {k : Nat} {m : ST} (h : l[k]? = some m) (h0 : (l.take k).find? nestS = none) (h1 : nestS m = true) : l.find? nestS = some m := by
  obtain ⟨hk, rfl⟩ := List.getElem?_eq_some_iff.1 h
  have : l = l.take k ++ l[k] :: l.drop (k + 1) := by rw [List.getElem_cons_drop, List.take_append_drop]
  refine (congrArg (List.find? nestS) this).trans ?_
  rw [List.find?_append, h0, List.find?_cons, h1]
  rfl

theorem ownsRow_lower {w : World} {base base' : Nat} {e : TypeId} {size : Nat} {v : Value} {n : Nat} {xs : List Value} (h : w.ownsRow base e size v n xs) (hb : base' ≤ base) : w.ownsRow base' e size v n xs := by
  refine ⟨h.1, ?_⟩
  rcases h.2 with h0 | ⟨g, cap, cur, hv, hg, r⟩
  · exact .inl h0
  · exact .inr ⟨g, cap, cur, hv, by omega, r⟩

theorem rr_start (w : World) (s : ByteArray) : RR (w.alloc (.cells #[.string s, .int .i64 0, .int .i64 1, .slice none 0 0, .slice none 0 0] 61)) w.heap.size s RT.start := by
  refine ⟨none, 0, none, 0, by simp, ?_, ?_, ?_, ?_, ?_, fun i => World.frozen?_alloc_at _ _ _ _ rfl, World.ownsRow_nil _ _ _ _, World.ownsRow_nil _ _ _ _⟩
  all_goals (rw [World.cell?_alloc_at _ _ _ _ rfl]; rfl)

set_option maxHeartbeats 1600000 in
set_option maxRecDepth 100000 in
theorem read_long (s : ByteArray) (w : World) (h : 240 < s.size) (hs : s.size ≤ maxLen) :
    Calls Try.prog 20 #[.string s] w fun e w' => ReadOut w s e w' := by
  unfold maxLen at hs
  have hX : Hid (240 < s.size) := h
  go_enter Try.func20, Try.ntmps20
  go_wp2
  go_ret3
  exact ⟨Below.refl _ _, .inl ⟨hX.out, rfl⟩⟩

set_option maxHeartbeats 1600000 in
set_option maxRecDepth 100000 in
theorem read_short (s : ByteArray) (w : World) (h : s.size ≤ 240) :
    Calls Try.prog 20 #[.string s] w fun e w' => ReadOut w s e w' := by
  have hst := rr_start w s
  have hbs : Below w.heap.size w (w.alloc (.cells #[.string s, .int .i64 0, .int .i64 1, .slice none 0 0, .slice none 0 0] 61)) := (Below.refl _ _).alloc (Nat.le_refl _) _
  go_enter Try.func20, Try.ntmps20
  go_wp2_with fail
  refine (programR _ s _ hst h).mono ?_
  rintro e w1 ⟨r, hre, hcase, hbe⟩
  obtain ⟨b1, b2, b3, b4⟩ := hre.bd
  have hl : s.data.toList.length = s.size := by simp
  rw [hl] at b1
  clear hl hst
  have HB : Hid (Below w.heap.size w w1) := hbs.trans hbe
  clear hbs hbe
  rcases hcase with ⟨hend, rfl, hr⟩ | ⟨hlt, hpf, rfl, hr⟩
  · by_cases ho : r.op = []
    · have e0 : ((r.op.length : Int) == 0) = true := by rw [ho]; rfl
      rw [e0]
      obtain ⟨ao, co, am, cm, hd⟩ := hr
      have RE : Hid (ReachT s.data.toList r) := hre
      have HO : Hid (r.op = []) := ho
      have HE : Hid (r.pl = s.size) := hend
      have c4 := hd.c4
      have HD : Hid (RD w1 w.heap.size s r.pl r.th r.op.reverse (r.step 9 r.pl 0 false).st ao co am cm) := hd
      clear hre ho hend hd e0
      have b5 : (r.step 9 r.pl 0 false).st.length ≤ 241 := by simp [RT.step]; omega
      obtain ⟨n, hn⟩ : ∃ n, n = (r.step 9 r.pl 0 false).st.length := ⟨_, rfl⟩
      rw [← hn] at c4 b5
      have HN : Hid (n = (r.step 9 r.pl 0 false).st.length) := hn
      clear hn
      go_wp2
      go_loopw [7] (fun i wr => ∃ k : Nat, k ≤ n ∧ i = .int .i64 k ∧ RD wr w.heap.size s r.pl r.th r.op.reverse (r.step 9 r.pl 0 false).st ao co am cm ∧ Below w.heap.size w wr ∧ ((r.step 9 r.pl 0 false).st.take k).find? nestS = none) (fun i _ => n - (intOf i).toNat)
      case atStart => exact ⟨0, Nat.zero_le _, rfl, HD.out, HB.out, rfl⟩
      case round =>
        obtain ⟨k, hk, rfl, hrd, hbw, hf⟩ := hrel
        have HF : Hid (((r.step 9 r.pl 0 false).st.take k).find? nestS = none) := hf
        clear hf
        have d4 := hrd.c4
        rw [← HN.out] at d4
        by_cases hkn : k < n
        · obtain ⟨m, hm⟩ : ∃ m, (r.step 9 r.pl 0 false).st[k]? = some m := ⟨(r.step 9 r.pl 0 false).st[k]'(by rw [← HN.out]; exact hkn), List.getElem?_eq_getElem _⟩
          obtain ⟨g, rfl, _⟩ := hrd.stepForm (by rw [← HN.out]; omega)
          have q0 := (hrd.stepCell rfl k m hm 0 (by decide) _ rfl).1
          have q1 := (hrd.stepCell rfl k m hm 1 (by decide) _ rfl).1
          have q2 := (hrd.stepCell rfl k m hm 2 (by decide) _ rfl).1
          have q3 := (hrd.stepCell rfl k m hm 3 (by decide) _ rfl).1
          have q4 := (hrd.stepCell rfl k m hm 4 (by decide) _ rfl).1
          have q5 := (hrd.stepCell rfl k m hm 5 (by decide) _ rfl).1
          have q6 := (hrd.stepCell rfl k m hm 6 (by decide) _ rfl).1
          have q7 := (hrd.stepCell rfl k m hm 7 (by decide) _ rfl).1
          have q8 := (hrd.stepCell rfl k m hm 8 (by decide) _ rfl).1
          have q9 := (hrd.stepCell rfl k m hm 9 (by decide) _ rfl).1
          have q10 := (hrd.stepCell rfl k m hm 10 (by decide) _ rfl).1
          have q11 := (hrd.stepCell rfl k m hm 11 (by decide) _ rfl).1
          rw [Nat.add_zero] at q0
          have HM : Hid ((r.step 9 r.pl 0 false).st[k]? = some m) := hm
          have HRD : Hid (RD wr w.heap.size s r.pl r.th r.op.reverse (r.step 9 r.pl 0 false).st ao co (some ⟨g, 0, none⟩) cm) := hrd
          clear hm hrd
          go_wp2_with fail
          refine (nested_any m _).mono ?_
          rintro e w2 ⟨rfl, o, hw2⟩
          have d4' : w2.cell? ⟨w.heap.size, 4, none⟩ = some (.slice (some ⟨g, 0, none⟩) n cm) := by rw [hw2]; have := (HRD.out.alloc o).c4; rw [← HN.out] at this; exact this
          have q1' : w2.cell? ⟨g, k * 12 + 1, none⟩ = some (.int .i64 m.place) := by rw [hw2]; exact ((HRD.out.alloc o).stepCell rfl k m HM.out 1 (by decide) _ rfl).1
          have RD2 : Hid (RD w2 w.heap.size s r.pl r.th r.op.reverse (r.step 9 r.pl 0 false).st ao co (some ⟨g, 0, none⟩) cm) := by rw [hw2]; exact HRD.out.alloc o
          have BE2 : Hid (Below w.heap.size w w2) := by rw [hw2]; exact hbw.alloc (by have := HRD.out.hb; omega) o
          clear hw2 q0 q1 q2 q3 q4 q5 q6 q7 q8 q9 q10 q11 hbw d4
          cases hnb : nestS m with
          | true =>
            go_wp2_with fail
            go_quiet (fail)
            go_wp2
            go_ret3
            exact ⟨BE2.out.trans (below_drewN' _ _ _), .inr ⟨h, r, RE.out, .inr (.inr (.inl ⟨HE.out, HO.out, m, find_hit_step HM.out HF.out hnb, rfl⟩))⟩⟩
          | false =>
            go_wp2
            go_roundw
            case rel => exact ⟨k + 1, by omega, by go_num, RD2.out, BE2.out, find_none_step HM.out HF.out hnb⟩
            case measure => simp [intOf]; omega
        · have hkk : k = n := by omega
          have HRD : Hid (RD wr w.heap.size s r.pl r.th r.op.reverse (r.step 9 r.pl 0 false).st ao co am cm) := hrd
          have BE2 : Hid (Below w.heap.size w wr) := hbw
          have HKK : Hid (k = n) := hkk
          clear hrd hbw hkk
          go_wp2
          go_ret3
          refine ⟨BE2.out, .inr ⟨h, r, RE.out, .inr (.inr (.inr ⟨HE.out, HO.out, ?_, am, cm, ?_, ownsRow_lower HRD.out.rm (by omega)⟩))⟩⟩
          · have := HF.out
            rw [HKK.out, HN.out, List.take_length] at this
            exact this
          · rw [← HN.out]; rfl
    · have hlen : r.op.length ≠ 0 := by simpa using ho
      have e0 : ((r.op.length : Int) == 0) = false := by rw [beq_eq_false_iff_ne]; omega
      rw [e0]
      have c1 := hr.c1
      have HE : Hid (r.pl = s.size) := hend
      clear e0 hend
      go_wp2_with fail
      go_quiet (fail)
      go_wp2
      go_ret3
      exact ⟨HB.out.trans (below_drewN' _ _ _), .inr ⟨h, r, hre, .inl ⟨HE.out, ho, rfl⟩⟩⟩
  · have c1 := hr.c1
    have HPF : Hid ((r.piece s.data.toList).2 = false) := hpf
    clear hpf
    go_wp2_with fail
    go_quiet (fail)
    go_wp2
    go_ret3
    exact ⟨HB.out.trans (below_drewN' _ _ _), .inr ⟨h, r, hre, .inr (.inl ⟨hlt, HPF.out, rfl⟩)⟩⟩

end Go.Proofs.Ytnpkambjlfkhgaa
