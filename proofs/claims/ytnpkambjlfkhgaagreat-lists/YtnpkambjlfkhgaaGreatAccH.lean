import Derived.Test.YtnpkambjlfkhgaaGreatAccG
namespace Go.Proofs.YtnpkambjlfkhgaaGreat
open Go.RowKit

theorem keep_any (bk B n0 c : Nat) (x : Option Addr) (xs : List Value) (fs : List (Option Addr × Nat)) (aa : Option Addr) (ca : Nat) (w : World) (h : BK w bk fs aa ca) (hb : (fs.length + 1) * 24 ≤ 140737488355328)
    (hl : w.ownsRow B 47 5 (.slice x n0 c) n0 xs) (hB : bk < B) (hrB : ∀ k, (Value.slice aa fs.length ca).ownBlock = some k → k < B) (hfB : ∀ f ∈ fs, ∀ k, (Value.slice f.1 f.2 f.2).ownBlock = some k → k < B) :
    Calls Tryz.prog 30 #[.pointer (some ⟨bk, 0, none⟩), .slice x n0 c] w fun e w' => e = .returned (.tuple #[]) ∧ (∃ fs' aa' ca', BK w' bk fs' aa' ca' ∧ fs'.length = fs.length + 1) ∧ Below bk w w' := by
  have hl' := hl
  rcases hl.2 with ⟨hv, hn⟩ | ⟨g, cap, cur, hv, _⟩
  · cases hv
    refine (keep_nil bk fs aa ca w h hb).mono ?_
    rintro e w' ⟨he, ⟨aa', ca', hk⟩, hbe⟩
    exact ⟨he, ⟨_, aa', ca', hk, by simp⟩, hbe⟩
  · cases hv
    refine (keep_some bk B g n0 c xs fs aa ca w h hb hl' hB hrB hfB).mono ?_
    rintro e w' ⟨he, ⟨aa', ca', hk⟩, hbe⟩
    exact ⟨he, ⟨_, aa', ca', hk, by simp⟩, hbe⟩

/-- Two lists of one text: the same. -/
theorem ListIs.both {w w1 w2 w3 : World} {s : ByteArray} {v v' : Value} {a a' : Int} (h : ListIs w w1 s v a) (h' : ListIs w2 w3 s v' a') :
    a = a' ∧ ∃ (l : List MK) (x x' : Option Addr) (n c c' : Nat), n = l.length ∧ n ≤ 1000 ∧ v = .slice x n c ∧ v' = .slice x' n c' ∧ w1.ownsRow w.heap.size 47 5 (.slice x n c) n (accsV l) ∧ w3.ownsRow w2.heap.size 47 5 (.slice x' n c') n (accsV l) := by
  obtain ⟨b, hc, h⟩ := h
  obtain ⟨b', hc', h'⟩ := h'
  obtain ⟨rfl, rfl⟩ := hc.unique hc'
  refine ⟨rfl, ?_⟩
  rcases h with ⟨h0, rfl⟩ | ⟨h0, hz, mks, x, c, hacc, hlen, rfl, hown⟩
  · rcases h' with ⟨_, rfl⟩ | ⟨h1, _⟩
    · exact ⟨[], none, none, 0, 0, 0, rfl, by decide, rfl, rfl, World.ownsRow_nil _ _ _ _, World.ownsRow_nil _ _ _ _⟩
    · exact absurd h1 h0
  · rcases h' with ⟨h1, _⟩ | ⟨_, _, mks', x', c', hacc', _, rfl, hown'⟩
    · exact absurd h0 h1
    · have := acc_unique hacc hacc'
      subst this
      refine ⟨accL mks, x, x', _, c, c', rfl, Nat.le_trans (List.length_filter_le _ _) hlen, rfl, rfl, hown, hown'⟩

set_option maxHeartbeats 3200000 in
set_option maxRecDepth 100000 in
theorem lists_any (bk : Nat) (s t : ByteArray) (la : Option Addr) (ln lc : Nat) (fs : List (Option Addr × Nat)) (aa : Option Addr) (ca : Nat) (w : World) (hs : s.size ≤ maxLen) (h : BK w bk fs aa ca) (hb : (fs.length + 1) * 24 ≤ 140737488355328) :
    Calls Tryz.prog 15 #[.pointer (some ⟨bk, 0, none⟩), .agg #[.int .i64 3, .string s, .string t, .slice la ln lc]] w fun e w' => e = .returned (.bool true) ∧ (∃ fs' aa' ca', BK w' bk fs' aa' ca' ∧ fs'.length = fs.length + 1) ∧ Below bk w w' := by
  have B1 : Hid (∀ o, Below w.heap.size w (w.alloc o)) := fun o => (Below.refl _ _).alloc (Nat.le_refl _) o
  have HK : Hid (BK w bk fs aa ca) := h
  have hlt := h.lt
  clear h
  go_enter Tryz.func15, Tryz.ntmps15
  go_wp2_with fail
  refine (Accesses_any s _ hs).mono ?_
  rintro e w1 ⟨v, a, rfl, hl1, hb1⟩
  have hcell := (hb1.cell (p := ⟨w.heap.size, 1, none⟩) (by simp))
  have HL1 : Hid (ListIs _ w1 s v a) := hl1
  have HB1 : Hid (Below _ _ w1) := hb1
  clear hl1 hb1
  go_wp2_with fail
  refine (refAccesses_any s _ hs).mono ?_
  rintro e w2 ⟨v', a', rfl, hl2, hb2⟩
  obtain ⟨ea, l, x, x', n, c, c', hn, hn1, rfl, rfl, ho1, ho2⟩ := HL1.out.both hl2
  subst ea
  have HB2 : Hid (Below w1.heap.size w1 w2) := hb2
  have HN : Hid (n = l.length) := hn
  have HO1 : Hid (w2.ownsRow (w.heap.size + 1) 47 5 (.slice x n c) n (accsV l)) := by
    have := ownsRow_later ho1 hb2
    exact ownsRow_lower this (by simp)
  have HO2 : Hid (w2.ownsRow w1.heap.size 47 5 (.slice x' n c') n (accsV l)) := ho2
  clear hl2 hb2 ho1 ho2 HL1 hn
  go_wp2_with fail
  refine (same_any _ _ x x' c c' n l _ HN.out hn1 HO1.out HO2.out).mono ?_
  rintro e w3 ⟨rfl, q, rfl⟩
  have hbw : Below w.heap.size w (w2.drewN q) := ((B1.out _).trans (HB1.out.mono (by simp))).trans ((HB2.out.mono (by have := HB1.out.size; simp at this; omega)).trans (below_drewN' _ _ _))
  have HBW : Hid (Below w.heap.size w (w2.drewN q)) := hbw
  clear hbw
  go_wp2_with fail
  refine (keep_any bk (w.heap.size + 1) n c x (accsV l) fs aa ca _ (HK.out.below HBW.out) hb HO1.out (by omega) (fun k hk => by have := (HK.out.row.lt k hk).2; omega) (fun f hf k hk => by
    obtain ⟨i, hi⟩ := List.getElem?_of_mem hf
    have := ((HK.out.each i f hi).lt k hk).2
    omega)).mono ?_
  rintro e w4 ⟨rfl, hk4, hb4⟩
  have HK4 : Hid (∃ fs' aa' ca', BK w4 bk fs' aa' ca' ∧ fs'.length = fs.length + 1) := hk4
  have HB4 : Hid (Below bk w w4) := (HBW.out.mono (by omega)).trans hb4
  clear hk4 hb4
  go_wp2_with fail
  refine (num_any a _).mono ?_
  rintro e w5 ⟨rfl, hw5⟩
  rw [hw5]
  clear hw5
  go_wp2
  go_ret
  exact ⟨rfl, HK4.out, HB4.out⟩

set_option maxHeartbeats 1600000 in
set_option maxRecDepth 100000 in
theorem plays_lists (bk : Nat) (s t : ByteArray) (la : Option Addr) (ln lc : Nat) (fs : List (Option Addr × Nat)) (aa : Option Addr) (ca : Nat) (w : World) (hs : s.size ≤ maxLen) (h : BK w bk fs aa ca) (hb : (fs.length + 1) * 24 ≤ 140737488355328) :
    Calls Tryz.prog 8 #[.pointer (some ⟨bk, 0, none⟩), .agg #[.int .i64 3, .string s, .string t, .slice la ln lc]] w fun e w' => e = .returned (.bool true) ∧ (∃ fs' aa' ca', BK w' bk fs' aa' ca' ∧ fs'.length = fs.length + 1) ∧ Below bk w w' := by
  have B1 : Hid (∀ o, Below w.heap.size w (w.alloc o)) := fun o => (Below.refl _ _).alloc (Nat.le_refl _) o
  have HK : Hid (BK w bk fs aa ca) := h
  have hlt := h.lt
  clear h
  go_enter Tryz.func8, Tryz.ntmps8
  go_wp2_with fail
  refine (lists_any bk s t la ln lc fs aa ca _ hs (HK.out.below (B1.out _)) hb).mono ?_
  rintro e w1 ⟨rfl, hk1, hb1⟩
  have HK1 : Hid (∃ fs' aa' ca', BK w1 bk fs' aa' ca' ∧ fs'.length = fs.length + 1) := hk1
  have HB1 : Hid (Below bk w w1) := ((B1.out _).mono (by omega)).trans hb1
  clear hk1 hb1
  go_wp2
  go_ret
  exact ⟨rfl, HK1.out, HB1.out⟩

end Go.Proofs.YtnpkambjlfkhgaaGreat
