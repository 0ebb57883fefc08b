import Derived.Test.YtnpkambjlfkhgaaRdW2
namespace Go.Proofs.Ytnpkambjlfkhgaa
open Go.RowKit

/-- The variable that holds what was on top, through calls that leave it. -/
structure Box (w : World) (k : Nat) (x y z : Int) : Prop where
  heap : w.heap[k]? = some (.cells #[.int .i64 x, .int .i64 y, .int .i64 z] 87)
theorem Box.later {w w' : World} {b k : Nat} {x y z : Int} (h : Box w k x y z) (hk : Kp b w w') (hb : b < k) : Box w' k x y z := ⟨hk k _ _ hb h.heap⟩
theorem Box.c0 {w : World} {k : Nat} {x y z : Int} (h : Box w k x y z) : w.cell? ⟨k, 0, none⟩ = some (.int .i64 x) := by simp [World.cell?, h.heap]
theorem Box.c1 {w : World} {k : Nat} {x y z : Int} (h : Box w k x y z) : w.cell? ⟨k, 1, none⟩ = some (.int .i64 y) := by simp [World.cell?, h.heap]
theorem Box.c2 {w : World} {k : Nat} {x y z : Int} (h : Box w k x y z) : w.cell? ⟨k, 2, none⟩ = some (.int .i64 z) := by simp [World.cell?, h.heap]

set_option maxHeartbeats 1600000 in
set_option maxRecDepth 100000 in
theorem bodyEnd_3 (b : Nat) (s : ByteArray) (r : RT) (w : World) (h : RR w b s r) (hs : s.size ≤ 240) (hp : r.pl ≤ 900) (ho : r.op.length ≤ 900) (hm0 : r.st.length ≤ 800) (ht : r.top.1 = 3) :
    Calls Try.prog 46 #[.pointer (some ⟨b, 0, none⟩)] w fun e w' => e = .returned (.bool (r.bodyEnd s.data.toList).2) ∧ RR w' b s (r.bodyEnd s.data.toList).1 ∧ Below b w w' := by
  obtain ⟨l, hl⟩ : ∃ l, l = r.top.2.1 := ⟨_, rfl⟩
  obtain ⟨f, hf⟩ : ∃ f, f = r.top.2.2 := ⟨_, rfl⟩
  have hr : r.bodyEnd s.data.toList = ((r.pop.step 8 r.pl 0 false).els f).bodyBegin s.data.toList 4 := by simp [RT.bodyEnd, ht, hf]
  rw [hr]
  clear hr
  have h0 : r.op ≠ [] := op_ne_of_top (by omega)
  go_enter Try.func46, Try.ntmps46
  go_wp2_with fail
  refine (topR b s r w h (by omega)).mono ?_
  rintro e w1 ⟨rfl, h1, b1⟩
  have hlt1 := h1.lt
  have HB : Hid (∀ o, Below b w (w1.alloc o)) := fun o => b1.alloc (by omega) o
  rw [← hl, ← hf, ht]
  clear ht b1 h hl hf
  have BX : Hid (Box (w1.alloc (.cells #[.int .i64 3, .int .i64 l, .int .i64 f] 87)) w1.heap.size 3 l f) := ⟨heap_alloc_new _ _⟩
  go_wp2_with fail
  refine (popR b s r _ (h1.alloc _) (by omega) h0).mono ?_
  rintro e w2 ⟨rfl, h2, b2, k2⟩
  have BX2 : Hid (Box w2 w1.heap.size 3 l f) := BX.out.later k2 hlt1
  have c1 := h2.c1
  have hpp : r.pop.pl = r.pl := rfl
  rw [hpp] at c1
  have HB2 : Hid (Below b w w2) := (HB.out _).trans b2
  clear k2 b2 BX HB h1
  go_wp2_with fail
  refine (stepR b _ _ _ _ _ _ s r.pop _ h2 (by simp [RT.pop]; omega) (by simp [RT.pop]; omega)).mono ?_
  rintro e w3 ⟨rfl, h3, b3, k3⟩
  have BX3 : Hid (Box w3 w1.heap.size 3 l f) := BX2.out.later k3 hlt1
  have HB3 : Hid (Below b w w3) := HB2.out.trans b3
  have q2 := BX3.out.c2
  clear k3 b3 BX2 h2 HB2 c1
  go_wp2_with fail
  refine (elseR b f s _ _ h3 (by simp [RT.pop, RT.step]; omega)).mono ?_
  rintro e w4 ⟨rfl, h4, b4, _⟩
  clear q2
  go_wp2_with fail
  refine (bodyBeginR b 4 s _ w4 h4 hs (by simpa [RT.pop, RT.step, RT.els] using hp) (by simp [RT.pop, RT.step, RT.els]; omega) (by simp [RT.pop, RT.step, RT.els, else_len]; omega)).mono ?_
  rintro e w5 ⟨rfl, h5, b5⟩
  go_wp2
  go_ret
  exact ⟨rfl, h5, (HB3.out.trans b4).trans b5⟩

set_option maxHeartbeats 1600000 in
set_option maxRecDepth 100000 in
theorem bodyEnd_4 (b : Nat) (s : ByteArray) (r : RT) (w : World) (h : RR w b s r) (_hs : s.size ≤ 240) (hp : r.pl ≤ 900) (ho : r.op.length ≤ 900) (hm0 : r.st.length ≤ 800) (ht : r.top.1 = 4) :
    Calls Try.prog 46 #[.pointer (some ⟨b, 0, none⟩)] w fun e w' => e = .returned (.bool (r.bodyEnd s.data.toList).2) ∧ RR w' b s (r.bodyEnd s.data.toList).1 ∧ Below b w w' := by
  obtain ⟨l, hl⟩ : ∃ l, l = r.top.2.1 := ⟨_, rfl⟩
  obtain ⟨f, hf⟩ : ∃ f, f = r.top.2.2 := ⟨_, rfl⟩
  have hr : r.bodyEnd s.data.toList = ((r.pop.lead f r.st.length).to 1, true) := by simp [RT.bodyEnd, ht, hf]
  rw [hr]
  clear hr
  have h0 : r.op ≠ [] := op_ne_of_top (by omega)
  go_enter Try.func46, Try.ntmps46
  go_wp2_with fail
  refine (topR b s r w h (by omega)).mono ?_
  rintro e w1 ⟨rfl, h1, b1⟩
  have hlt1 := h1.lt
  have HB : Hid (∀ o, Below b w (w1.alloc o)) := fun o => b1.alloc (by omega) o
  rw [← hl, ← hf, ht]
  clear ht b1 h hl hf
  have BX : Hid (Box (w1.alloc (.cells #[.int .i64 4, .int .i64 l, .int .i64 f] 87)) w1.heap.size 4 l f) := ⟨heap_alloc_new _ _⟩
  go_wp2_with fail
  refine (popR b s r _ (h1.alloc _) (by omega) h0).mono ?_
  rintro e w2 ⟨rfl, h2, b2, k2⟩
  have BX2 : Hid (Box w2 w1.heap.size 4 l f) := BX.out.later k2 hlt1
  have q2 := BX2.out.c2
  obtain ⟨am, cm, c4⟩ := h2.c4
  have hst : r.pop.st.length = r.st.length := rfl
  rw [hst] at c4
  have HB2 : Hid (Below b w w2) := (HB.out _).trans b2
  clear k2 b2 BX HB h1 BX2 hst
  go_wp2_with fail
  refine (leadR b f _ s r.pop _ h2 (by simp [RT.pop]; omega)).mono ?_
  rintro e w3 ⟨rfl, h3, b3, _⟩
  have d1 := h3.c1
  have f1 := h3.fz 1
  have hm := h3.moved
  have hpl : (r.pop.lead f r.st.length).pl = r.pl := rfl
  rw [hpl] at d1 hm
  have HB3 : Hid (Below b w w3) := HB2.out.trans b3
  clear q2 c4 b3
  go_wp2
  go_ret
  exact ⟨rfl, hm, HB3.out.trans (moved_below _ _ _)⟩

set_option maxHeartbeats 1600000 in
set_option maxRecDepth 100000 in
theorem bodyEnd_5 (b : Nat) (s : ByteArray) (r : RT) (w : World) (h : RR w b s r) (_hs : s.size ≤ 240) (hp : r.pl ≤ 900) (ho : r.op.length ≤ 900) (hm0 : r.st.length ≤ 800) (ht : r.top.1 = 5) :
    Calls Try.prog 46 #[.pointer (some ⟨b, 0, none⟩)] w fun e w' => e = .returned (.bool (r.bodyEnd s.data.toList).2) ∧ RR w' b s (r.bodyEnd s.data.toList).1 ∧ Below b w w' := by
  obtain ⟨l, hl⟩ : ∃ l, l = r.top.2.1 := ⟨_, rfl⟩
  obtain ⟨f, hf⟩ : ∃ f, f = r.top.2.2 := ⟨_, rfl⟩
  have hr : r.bodyEnd s.data.toList = ((((r.pop.step 8 r.pl 0 false).lead r.st.length f).els f).to 1, true) := by simp [RT.bodyEnd, ht, hf]
  rw [hr]
  clear hr
  have h0 : r.op ≠ [] := op_ne_of_top (by omega)
  go_enter Try.func46, Try.ntmps46
  go_wp2_with fail
  refine (topR b s r w h (by omega)).mono ?_
  rintro e w1 ⟨rfl, h1, b1⟩
  have hlt1 := h1.lt
  have HB : Hid (∀ o, Below b w (w1.alloc o)) := fun o => b1.alloc (by omega) o
  rw [← hl, ← hf, ht]
  clear ht b1 h hl hf
  have BX : Hid (Box (w1.alloc (.cells #[.int .i64 5, .int .i64 l, .int .i64 f] 87)) w1.heap.size 5 l f) := ⟨heap_alloc_new _ _⟩
  go_wp2_with fail
  refine (popR b s r _ (h1.alloc _) (by omega) h0).mono ?_
  rintro e w2 ⟨rfl, h2, b2, k2⟩
  have BX2 : Hid (Box w2 w1.heap.size 5 l f) := BX.out.later k2 hlt1
  obtain ⟨am, cm, c4⟩ := h2.c4
  have c1 := h2.c1
  have hst : r.pop.st.length = r.st.length := rfl
  have hpp : r.pop.pl = r.pl := rfl
  rw [hst] at c4
  rw [hpp] at c1
  have HB2 : Hid (Below b w w2) := (HB.out _).trans b2
  clear k2 b2 BX HB h1 hst hpp
  go_wp2_with fail
  refine (stepR b _ _ _ _ _ _ s r.pop _ h2 (by simp [RT.pop]; omega) (by simp [RT.pop]; omega)).mono ?_
  rintro e w3 ⟨rfl, h3, b3, k3⟩
  have BX3 : Hid (Box w3 w1.heap.size 5 l f) := BX2.out.later k3 hlt1
  have HB3 : Hid (Below b w w3) := HB2.out.trans b3
  have q2 := BX3.out.c2
  clear k3 b3 BX2 h2 HB2 c1 c4
  go_wp2_with fail
  refine (leadR b _ f s _ _ h3 (by simp [RT.pop, RT.step]; omega)).mono ?_
  rintro e w4 ⟨rfl, h4, b4, k4⟩
  have BX4 : Hid (Box w4 w1.heap.size 5 l f) := BX3.out.later k4 hlt1
  have HB4 : Hid (Below b w w4) := HB3.out.trans b4
  have q4 := BX4.out.c2
  clear q2 k4 b4 BX3 h3 HB3
  go_wp2_with fail
  refine (elseR b f s _ _ h4 (by simp [RT.pop, RT.step, RT.lead, lead_len]; omega)).mono ?_
  rintro e w5 ⟨rfl, h5, b5, _⟩
  have d1 := h5.c1
  have f1 := h5.fz 1
  have hm := h5.moved
  have hpl : (((r.pop.step 8 r.pl 0 false).lead r.st.length f).els f).pl = r.pl := rfl
  rw [hpl] at d1 hm
  clear q4
  go_wp2
  go_ret
  exact ⟨rfl, hm, (HB4.out.trans b5).trans (moved_below _ _ _)⟩

set_option maxHeartbeats 1600000 in
set_option maxRecDepth 100000 in
theorem bodyEndR (b : Nat) (s : ByteArray) (r : RT) (w : World) (h : RR w b s r) (hs : s.size ≤ 240) (hp : r.pl ≤ 900) (ho : r.op.length ≤ 900) (hm0 : r.st.length ≤ 800) :
    Calls Try.prog 46 #[.pointer (some ⟨b, 0, none⟩)] w fun e w' => e = .returned (.bool (r.bodyEnd s.data.toList).2) ∧ RR w' b s (r.bodyEnd s.data.toList).1 ∧ Below b w w' := by
  by_cases h3 : r.top.1 = 3
  · exact bodyEnd_3 b s r w h hs hp ho hm0 h3
  by_cases h4 : r.top.1 = 4
  · exact bodyEnd_4 b s r w h hs hp ho hm0 h4
  by_cases h5 : r.top.1 = 5
  · exact bodyEnd_5 b s r w h hs hp ho hm0 h5
  have hr : r.bodyEnd s.data.toList = (r, false) := by simp [RT.bodyEnd, h3, h4, h5]
  rw [hr]
  clear hr
  have e3 : (r.top.1 == 3) = false := by simpa using h3
  have e4 : (r.top.1 == 4) = false := by simpa using h4
  have e5 : (r.top.1 == 5) = false := by simpa using h5
  clear h3 h4 h5
  go_enter Try.func46, Try.ntmps46
  go_wp2_with fail
  refine (topR b s r w h (by omega)).mono ?_
  rintro e w1 ⟨rfl, h1, b1⟩
  have hlt1 := h1.lt
  have HB : Hid (∀ o, Below b w (w1.alloc o)) := fun o => b1.alloc (by omega) o
  go_wp2
  go_ret
  exact ⟨rfl, h1.alloc _, HB.out _⟩

end Go.Proofs.Ytnpkambjlfkhgaa
