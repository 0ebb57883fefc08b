import Derived.Test.YtnpkambjlfkhgaaRdW4
import Derived.Test.YtnpkambjlfkhgaaRdW3
namespace Go.Proofs.Ytnpkambjlfkhgaa
open Go.RowKit

theorem byte_at (s : ByteArray) (k : Nat) (h : k < s.size) : s.data.toList[k]? = some s[k] := by
  rw [List.getElem?_eq_getElem (by simpa using h)]; rfl

theorem u8_ne {c d : UInt8} (h : c ≠ d) : ((c.toNat : Int) == (d.toNat : Int)) = false := by
  rw [beq_eq_false_iff_ne]
  intro e
  apply h
  apply UInt8.toNat_inj.1
  omega

set_option maxHeartbeats 800000 in
set_option maxRecDepth 100000 in
theorem piece_g (b : Nat) (s : ByteArray) (r : RT) (w : World) (h : RR w b s r) (_hs : s.size ≤ 240) (hp : r.pl < s.size) (_ho : r.op.length ≤ 240) (_hm : r.st.length ≤ 240) (_ht : 0 ≤ r.th) (hc : s[r.pl] = 103) :
    Calls Try.prog 31 #[.pointer (some ⟨b, 0, none⟩)] w fun e w' => e = .returned (.bool (r.piece s.data.toList).2) ∧ RR w' b s (r.piece s.data.toList).1 ∧ Below b w w' := by
  have hb := byte_at s r.pl hp
  rw [hc] at hb
  have hr : r.piece s.data.toList = r.access s.data.toList := by simp [RT.piece, hb]
  rw [hr]
  clear hr hb
  have c0 := h.c0
  have c1 := h.c1
  go_enter Try.func31, Try.ntmps31
  go_wp2_with fail
  go_quiet (fail)
  go_wp2_with fail
  go_quiet (fail)
  go_wp2_with fail
  refine (accessR b s r _ (h.drewN _) _hs (by omega) (by omega) (by omega)).mono ?_
  rintro e w1 ⟨rfl, h1, b1⟩
  go_wp2
  go_ret
  exact ⟨rfl, h1, (below_drewN' _ _ _).trans b1⟩

set_option maxHeartbeats 800000 in
set_option maxRecDepth 100000 in
theorem piece_p (b : Nat) (s : ByteArray) (r : RT) (w : World) (h : RR w b s r) (_hs : s.size ≤ 240) (hp : r.pl < s.size) (_ho : r.op.length ≤ 240) (_hm : r.st.length ≤ 240) (_ht : 0 ≤ r.th) (hc : s[r.pl] = 112) :
    Calls Try.prog 31 #[.pointer (some ⟨b, 0, none⟩)] w fun e w' => e = .returned (.bool (r.piece s.data.toList).2) ∧ RR w' b s (r.piece s.data.toList).1 ∧ Below b w w' := by
  have hb := byte_at s r.pl hp
  rw [hc] at hb
  have hr : r.piece s.data.toList = r.access s.data.toList := by simp [RT.piece, hb]
  rw [hr]
  clear hr hb
  have c0 := h.c0
  have c1 := h.c1
  go_enter Try.func31, Try.ntmps31
  go_wp2_with fail
  go_quiet (fail)
  go_wp2_with fail
  go_quiet (fail)
  go_wp2_with fail
  refine (accessR b s r _ (h.drewN _) _hs (by omega) (by omega) (by omega)).mono ?_
  rintro e w1 ⟨rfl, h1, b1⟩
  go_wp2
  go_ret
  exact ⟨rfl, h1, (below_drewN' _ _ _).trans b1⟩

set_option maxHeartbeats 800000 in
set_option maxRecDepth 100000 in
theorem piece_i (b : Nat) (s : ByteArray) (r : RT) (w : World) (h : RR w b s r) (_hs : s.size ≤ 240) (hp : r.pl < s.size) (_ho : r.op.length ≤ 240) (_hm : r.st.length ≤ 240) (_ht : 0 ≤ r.th) (hc : s[r.pl] = 105) :
    Calls Try.prog 31 #[.pointer (some ⟨b, 0, none⟩)] w fun e w' => e = .returned (.bool (r.piece s.data.toList).2) ∧ RR w' b s (r.piece s.data.toList).1 ∧ Below b w w' := by
  have hb := byte_at s r.pl hp
  rw [hc] at hb
  have hr : r.piece s.data.toList = r.addition s.data.toList := by simp [RT.piece, hb]
  rw [hr]
  clear hr hb
  have c0 := h.c0
  have c1 := h.c1
  go_enter Try.func31, Try.ntmps31
  go_wp2_with fail
  go_quiet (fail)
  go_wp2_with fail
  go_quiet (fail)
  go_wp2_with fail
  refine (additionR b s r _ (h.drewN _) _hs (by omega) (by omega) (by omega)).mono ?_
  rintro e w1 ⟨rfl, h1, b1⟩
  go_wp2
  go_ret
  exact ⟨rfl, h1, (below_drewN' _ _ _).trans b1⟩

set_option maxHeartbeats 800000 in
set_option maxRecDepth 100000 in
theorem piece_lb (b : Nat) (s : ByteArray) (r : RT) (w : World) (h : RR w b s r) (_hs : s.size ≤ 240) (hp : r.pl < s.size) (_ho : r.op.length ≤ 240) (_hm : r.st.length ≤ 240) (_ht : 0 ≤ r.th) (hc : s[r.pl] = 91) :
    Calls Try.prog 31 #[.pointer (some ⟨b, 0, none⟩)] w fun e w' => e = .returned (.bool (r.piece s.data.toList).2) ∧ RR w' b s (r.piece s.data.toList).1 ∧ Below b w w' := by
  have hb := byte_at s r.pl hp
  rw [hc] at hb
  have hr : r.piece s.data.toList = r.regionBegin s.data.toList := by simp [RT.piece, hb]
  rw [hr]
  clear hr hb
  have c0 := h.c0
  have c1 := h.c1
  go_enter Try.func31, Try.ntmps31
  go_wp2_with fail
  go_quiet (fail)
  go_wp2_with fail
  go_quiet (fail)
  go_wp2_with fail
  refine (regionBeginR b s r _ (h.drewN _) _hs (by omega) (by omega) (by omega)).mono ?_
  rintro e w1 ⟨rfl, h1, b1⟩
  go_wp2
  go_ret
  exact ⟨rfl, h1, (below_drewN' _ _ _).trans b1⟩

set_option maxHeartbeats 800000 in
set_option maxRecDepth 100000 in
theorem piece_rb (b : Nat) (s : ByteArray) (r : RT) (w : World) (h : RR w b s r) (_hs : s.size ≤ 240) (hp : r.pl < s.size) (_ho : r.op.length ≤ 240) (_hm : r.st.length ≤ 240) (_ht : 0 ≤ r.th) (hc : s[r.pl] = 93) :
    Calls Try.prog 31 #[.pointer (some ⟨b, 0, none⟩)] w fun e w' => e = .returned (.bool (r.piece s.data.toList).2) ∧ RR w' b s (r.piece s.data.toList).1 ∧ Below b w w' := by
  have hb := byte_at s r.pl hp
  rw [hc] at hb
  have hr : r.piece s.data.toList = r.regionEnd := by simp [RT.piece, hb]
  rw [hr]
  clear hr hb
  have c0 := h.c0
  have c1 := h.c1
  go_enter Try.func31, Try.ntmps31
  go_wp2_with fail
  go_quiet (fail)
  go_wp2_with fail
  go_quiet (fail)
  go_wp2_with fail
  refine (regionEndR b s r _ (h.drewN _) (by omega) (by omega) (by omega)).mono ?_
  rintro e w1 ⟨rfl, h1, b1⟩
  go_wp2
  go_ret
  exact ⟨rfl, h1, (below_drewN' _ _ _).trans b1⟩

set_option maxHeartbeats 800000 in
set_option maxRecDepth 100000 in
theorem piece_lt (b : Nat) (s : ByteArray) (r : RT) (w : World) (h : RR w b s r) (_hs : s.size ≤ 240) (hp : r.pl < s.size) (_ho : r.op.length ≤ 240) (_hm : r.st.length ≤ 240) (_ht : 0 ≤ r.th) (hc : s[r.pl] = 60) :
    Calls Try.prog 31 #[.pointer (some ⟨b, 0, none⟩)] w fun e w' => e = .returned (.bool (r.piece s.data.toList).2) ∧ RR w' b s (r.piece s.data.toList).1 ∧ Below b w w' := by
  have hb := byte_at s r.pl hp
  rw [hc] at hb
  have hr : r.piece s.data.toList = r.mended s.data.toList := by simp [RT.piece, hb]
  rw [hr]
  clear hr hb
  have c0 := h.c0
  have c1 := h.c1
  go_enter Try.func31, Try.ntmps31
  go_wp2_with fail
  go_quiet (fail)
  go_wp2_with fail
  go_quiet (fail)
  go_wp2_with fail
  refine (mendedR b s r _ (h.drewN _) _hs (by omega) (by omega) (by omega)).mono ?_
  rintro e w1 ⟨rfl, h1, b1⟩
  go_wp2
  go_ret
  exact ⟨rfl, h1, (below_drewN' _ _ _).trans b1⟩

set_option maxHeartbeats 800000 in
set_option maxRecDepth 100000 in
theorem piece_q (b : Nat) (s : ByteArray) (r : RT) (w : World) (h : RR w b s r) (_hs : s.size ≤ 240) (hp : r.pl < s.size) (_ho : r.op.length ≤ 240) (_hm : r.st.length ≤ 240) (_ht : 0 ≤ r.th) (hc : s[r.pl] = 63) :
    Calls Try.prog 31 #[.pointer (some ⟨b, 0, none⟩)] w fun e w' => e = .returned (.bool (r.piece s.data.toList).2) ∧ RR w' b s (r.piece s.data.toList).1 ∧ Below b w w' := by
  have hb := byte_at s r.pl hp
  rw [hc] at hb
  have hr : r.piece s.data.toList = r.test s.data.toList 3 := by simp [RT.piece, hb]
  rw [hr]
  clear hr hb
  have c0 := h.c0
  have c1 := h.c1
  go_enter Try.func31, Try.ntmps31
  go_wp2_with fail
  go_quiet (fail)
  go_wp2_with fail
  go_quiet (fail)
  go_wp2_with fail
  refine (testR b 3 s r _ (h.drewN _) _hs (by omega) (by omega) (by omega)).mono ?_
  rintro e w1 ⟨rfl, h1, b1⟩
  go_wp2
  go_ret
  exact ⟨rfl, h1, (below_drewN' _ _ _).trans b1⟩

set_option maxHeartbeats 800000 in
set_option maxRecDepth 100000 in
theorem piece_x (b : Nat) (s : ByteArray) (r : RT) (w : World) (h : RR w b s r) (_hs : s.size ≤ 240) (hp : r.pl < s.size) (_ho : r.op.length ≤ 240) (_hm : r.st.length ≤ 240) (_ht : 0 ≤ r.th) (hc : s[r.pl] = 33) :
    Calls Try.prog 31 #[.pointer (some ⟨b, 0, none⟩)] w fun e w' => e = .returned (.bool (r.piece s.data.toList).2) ∧ RR w' b s (r.piece s.data.toList).1 ∧ Below b w w' := by
  have hb := byte_at s r.pl hp
  rw [hc] at hb
  have hr : r.piece s.data.toList = r.test s.data.toList 5 := by simp [RT.piece, hb]
  rw [hr]
  clear hr hb
  have c0 := h.c0
  have c1 := h.c1
  go_enter Try.func31, Try.ntmps31
  go_wp2_with fail
  go_quiet (fail)
  go_wp2_with fail
  go_quiet (fail)
  go_wp2_with fail
  refine (testR b 5 s r _ (h.drewN _) _hs (by omega) (by omega) (by omega)).mono ?_
  rintro e w1 ⟨rfl, h1, b1⟩
  go_wp2
  go_ret
  exact ⟨rfl, h1, (below_drewN' _ _ _).trans b1⟩

set_option maxHeartbeats 800000 in
set_option maxRecDepth 100000 in
theorem piece_rc (b : Nat) (s : ByteArray) (r : RT) (w : World) (h : RR w b s r) (_hs : s.size ≤ 240) (hp : r.pl < s.size) (_ho : r.op.length ≤ 240) (_hm : r.st.length ≤ 240) (_ht : 0 ≤ r.th) (hc : s[r.pl] = 125) :
    Calls Try.prog 31 #[.pointer (some ⟨b, 0, none⟩)] w fun e w' => e = .returned (.bool (r.piece s.data.toList).2) ∧ RR w' b s (r.piece s.data.toList).1 ∧ Below b w w' := by
  have hb := byte_at s r.pl hp
  rw [hc] at hb
  have hr : r.piece s.data.toList = r.bodyEnd s.data.toList := by simp [RT.piece, hb]
  rw [hr]
  clear hr hb
  have c0 := h.c0
  have c1 := h.c1
  go_enter Try.func31, Try.ntmps31
  go_wp2_with fail
  go_quiet (fail)
  go_wp2_with fail
  go_quiet (fail)
  go_wp2_with fail
  refine (bodyEndR b s r _ (h.drewN _) _hs (by omega) (by omega) (by omega)).mono ?_
  rintro e w1 ⟨rfl, h1, b1⟩
  go_wp2
  go_ret
  exact ⟨rfl, h1, (below_drewN' _ _ _).trans b1⟩

set_option maxHeartbeats 800000 in
set_option maxRecDepth 100000 in
theorem piece_bar (b : Nat) (s : ByteArray) (r : RT) (w : World) (h : RR w b s r) (_hs : s.size ≤ 240) (hp : r.pl < s.size) (_ho : r.op.length ≤ 240) (_hm : r.st.length ≤ 240) (_ht : 0 ≤ r.th) (hc : s[r.pl] = 124) :
    Calls Try.prog 31 #[.pointer (some ⟨b, 0, none⟩)] w fun e w' => e = .returned (.bool (r.piece s.data.toList).2) ∧ RR w' b s (r.piece s.data.toList).1 ∧ Below b w w' := by
  have hb := byte_at s r.pl hp
  rw [hc] at hb
  have hr : r.piece s.data.toList = r.nextThread := by simp [RT.piece, hb]
  rw [hr]
  clear hr hb
  have c0 := h.c0
  have c1 := h.c1
  go_enter Try.func31, Try.ntmps31
  go_wp2_with fail
  go_quiet (fail)
  go_wp2_with fail
  go_quiet (fail)
  go_wp2_with fail
  refine (nextThreadR b s r _ (h.drewN _) (by omega) (by omega) (by omega) _ht).mono ?_
  rintro e w1 ⟨rfl, h1, b1⟩
  go_wp2
  go_ret
  exact ⟨rfl, h1, (below_drewN' _ _ _).trans b1⟩

set_option maxHeartbeats 800000 in
set_option maxRecDepth 100000 in
theorem piece_o (b : Nat) (s : ByteArray) (r : RT) (w : World) (h : RR w b s r) (_hs : s.size ≤ 240) (hp : r.pl < s.size) (_ho : r.op.length ≤ 240) (_hm : r.st.length ≤ 240) (_ht : 0 ≤ r.th) (hc : s[r.pl] = 111) :
    Calls Try.prog 31 #[.pointer (some ⟨b, 0, none⟩)] w fun e w' => e = .returned (.bool (r.piece s.data.toList).2) ∧ RR w' b s (r.piece s.data.toList).1 ∧ Below b w w' := by
  have hb := byte_at s r.pl hp
  rw [hc] at hb
  have hr : r.piece s.data.toList = (r.print, true) := by simp [RT.piece, hb]
  rw [hr]
  clear hr hb
  have c0 := h.c0
  have c1 := h.c1
  go_enter Try.func31, Try.ntmps31
  go_wp2_with fail
  go_quiet (fail)
  go_wp2_with fail
  go_quiet (fail)
  go_wp2_with fail
  refine (printR b s r _ (h.drewN _) (by omega) (by omega) (by omega)).mono ?_
  rintro e w1 ⟨rfl, h1, b1⟩
  go_wp2
  go_ret
  exact ⟨rfl, h1, (below_drewN' _ _ _).trans b1⟩

set_option maxHeartbeats 800000 in
set_option maxRecDepth 100000 in
theorem piece_no (b : Nat) (s : ByteArray) (r : RT) (w : World) (h : RR w b s r) (_hs : s.size ≤ 240) (hp : r.pl < s.size) (hc : ¬ (s[r.pl] = 103 ∨ s[r.pl] = 112 ∨ s[r.pl] = 105 ∨ s[r.pl] = 111 ∨ s[r.pl] = 91 ∨ s[r.pl] = 93 ∨ s[r.pl] = 60 ∨ s[r.pl] = 63 ∨ s[r.pl] = 33 ∨ s[r.pl] = 125 ∨ s[r.pl] = 124)) :
    Calls Try.prog 31 #[.pointer (some ⟨b, 0, none⟩)] w fun e w' => e = .returned (.bool (r.piece s.data.toList).2) ∧ RR w' b s (r.piece s.data.toList).1 ∧ Below b w w' := by
  have hb := byte_at s r.pl hp
  simp only [not_or] at hc
  obtain ⟨n103, n112, n105, n111, n91, n93, n60, n63, n33, n125, n124⟩ := hc
  have hr : r.piece s.data.toList = (r, false) := by simp [RT.piece, hb, n103, n112, n105, n111, n91, n93, n60, n63, n33, n125, n124]
  rw [hr]
  clear hr hb
  have m103 : ((s[r.pl].toNat : Int) == 103) = false := u8_ne n103
  have m112 : ((s[r.pl].toNat : Int) == 112) = false := u8_ne n112
  have m105 : ((s[r.pl].toNat : Int) == 105) = false := u8_ne n105
  have m111 : ((s[r.pl].toNat : Int) == 111) = false := u8_ne n111
  have m91 : ((s[r.pl].toNat : Int) == 91) = false := u8_ne n91
  have m93 : ((s[r.pl].toNat : Int) == 93) = false := u8_ne n93
  have m60 : ((s[r.pl].toNat : Int) == 60) = false := u8_ne n60
  have m63 : ((s[r.pl].toNat : Int) == 63) = false := u8_ne n63
  have m33 : ((s[r.pl].toNat : Int) == 33) = false := u8_ne n33
  have m125 : ((s[r.pl].toNat : Int) == 125) = false := u8_ne n125
  have m124 : ((s[r.pl].toNat : Int) == 124) = false := u8_ne n124
  clear n103 n112 n105 n111 n91 n93 n60 n63 n33 n125 n124
  have c0 := h.c0
  have c1 := h.c1
  go_enter Try.func31, Try.ntmps31
  go_wp2_with fail
  go_quiet (fail)
  go_wp2_with fail
  go_quiet (fail)
  go_wp2
  go_ret
  exact ⟨rfl, h.drewN _, below_drewN' _ _ _⟩

theorem pieceR (b : Nat) (s : ByteArray) (r : RT) (w : World) (h : RR w b s r) (hs : s.size ≤ 240) (hp : r.pl < s.size) (ho : r.op.length ≤ 240) (hm : r.st.length ≤ 240) (ht : 0 ≤ r.th) :
    Calls Try.prog 31 #[.pointer (some ⟨b, 0, none⟩)] w fun e w' => e = .returned (.bool (r.piece s.data.toList).2) ∧ RR w' b s (r.piece s.data.toList).1 ∧ Below b w w' := by
  by_cases hc : s[r.pl] = 103 ∨ s[r.pl] = 112 ∨ s[r.pl] = 105 ∨ s[r.pl] = 111 ∨ s[r.pl] = 91 ∨ s[r.pl] = 93 ∨ s[r.pl] = 60 ∨ s[r.pl] = 63 ∨ s[r.pl] = 33 ∨ s[r.pl] = 125 ∨ s[r.pl] = 124
  · rcases hc with hc | hc | hc | hc | hc | hc | hc | hc | hc | hc | hc
    · exact piece_g b s r w h hs hp ho hm ht hc
    · exact piece_p b s r w h hs hp ho hm ht hc
    · exact piece_i b s r w h hs hp ho hm ht hc
    · exact piece_o b s r w h hs hp ho hm ht hc
    · exact piece_lb b s r w h hs hp ho hm ht hc
    · exact piece_rb b s r w h hs hp ho hm ht hc
    · exact piece_lt b s r w h hs hp ho hm ht hc
    · exact piece_q b s r w h hs hp ho hm ht hc
    · exact piece_x b s r w h hs hp ho hm ht hc
    · exact piece_rc b s r w h hs hp ho hm ht hc
    · exact piece_bar b s r w h hs hp ho hm ht hc
  · exact piece_no b s r w h hs hp hc

end Go.Proofs.Ytnpkambjlfkhgaa
