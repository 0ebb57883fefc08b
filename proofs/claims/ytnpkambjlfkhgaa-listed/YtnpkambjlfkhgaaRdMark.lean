import Derived.Test.YtnpkambjlfkhgaaRdTop
namespace Go.Proofs.Ytnpkambjlfkhgaa
open Go.RowKit

theorem hldT_step (op : List OP) (k : Nat) (x : OP) (h : op[k]? = some x) (i : Int) : hldT (op.take (k + 1)) i = (hldT (op.take k) i || x.2.1 == i) := by
  obtain ⟨hk, rfl⟩ := List.getElem?_eq_some_iff.1 h
  rw [hldT, hldT, List.take_succ_eq_append_getElem hk, List.any_append]
  simp only [List.any_cons, List.any_nil, Bool.or_false]

theorem cells5 {a b c d e a' b' c' d' e' : Bool} {x0 x1 x2 x3 x4 x5 x6 : Value} {t : Nat} (w : World) (h0 : a = a') (h1 : b = b') (h2 : c = c') (h3 : d = d') (h4 : e = e') :
    w.alloc (.cells #[x0, x1, x2, x3, x4, x5, x6, .bool a, .bool b, .bool c, .bool d, .bool e] t) = w.alloc (.cells #[x0, x1, x2, x3, x4, x5, x6, .bool a', .bool b', .bool c', .bool d', .bool e'] t) := by
  subst h0 h1 h2 h3 h4; rfl

set_option maxHeartbeats 3200000 in
set_option maxRecDepth 100000 in
theorem step_any (b : Nat) (kind start num tt nn ee : Int) (mend : Bool) (s : ByteArray) (pl : Nat) (th : Int) (op : List OP) (mk : List ST) (ao co am cm) (w : World) (h : RD w b s pl th op mk ao co am cm) (hn : op.length ≤ 1000) (hm : mk.length ≤ 1000) :
    Calls Try.prog 32 #[.pointer (some ⟨b, 0, none⟩), .agg #[.int .i64 kind, .int .i64 start, .int .i64 tt, .int .i64 num, .bool mend, .int .i64 nn, .int .i64 ee, .bool false, .bool false, .bool false, .bool false, .bool false]] w fun e w' => e = .returned (.tuple #[]) ∧
      (∃ am' cm', RD w' b s pl th op (mk ++ [⟨kind, start, th, num, mend, (mk.length : Int) + 1, ee, hldT op 0, hldT op 1, hldT op 2, hldT op 3, hldT op 4⟩]) ao co am' cm') ∧ Below b w w' ∧ Kp b w w' := by
  have H : Hid (RD w b s pl th op mk ao co am cm) := h
  have hb := h.hb
  have c2 := h.c2
  have c3 := h.c3
  have c4 := h.c4
  have f4 := h.fz 4
  clear h
  obtain ⟨i0, hi0, hz0, hz1, hz2⟩ := info_parts Try.infoMark
  obtain ⟨n, hnn⟩ : ∃ n, n = op.length := ⟨_, rfl⟩
  rw [← hnn] at c3 hn
  have HN : Hid (n = op.length) := hnn
  clear hnn
  go_enter Try.func32, Try.ntmps32
  go_wp2
  go_loopw [4] (fun i wr => ∃ k : Nat, k ≤ n ∧ i = .int .i64 k ∧ wr = w.alloc (.cells #[.int .i64 kind, .int .i64 start, .int .i64 th, .int .i64 num, .bool mend, .int .i64 ((mk.length : Int) + 1), .int .i64 ee, .bool (hldT (op.take k) 0), .bool (hldT (op.take k) 1), .bool (hldT (op.take k) 2), .bool (hldT (op.take k) 3), .bool (hldT (op.take k) 4)] 64)) (fun i _ => n - (intOf i).toNat)
  case atStart => exact ⟨0, Nat.zero_le _, rfl, rfl⟩
  case round =>
    obtain ⟨k, hk, rfl, rfl⟩ := hrel
    by_cases hlt : k < n
    · obtain ⟨⟨x1, l, xf⟩, hx⟩ : ∃ x, op[k]? = some x := ⟨op[k]'(by rw [← HN.out]; exact hlt), List.getElem?_eq_getElem _⟩
      obtain ⟨g, rfl, hbg⟩ := H.out.form (by rw [← HN.out]; omega)
      have hc := ((H.out.alloc (.cells #[.int .i64 kind, .int .i64 start, .int .i64 th, .int .i64 num, .bool mend, .int .i64 ((mk.length : Int) + 1), .int .i64 ee, .bool (hldT (op.take k) 0), .bool (hldT (op.take k) 1), .bool (hldT (op.take k) 2), .bool (hldT (op.take k) 3), .bool (hldT (op.take k) 4)] 64)).openCell rfl k (x1, l, xf) hx).2.1
      have HS : Hid (∀ i, hldT (op.take (k + 1)) i = (hldT (op.take k) i || l == i)) := hldT_step op k (x1, l, xf) hx
      clear hx
      have hl : l = 0 ∨ l = 1 ∨ l = 2 ∨ l = 3 ∨ l = 4 ∨ l < 0 ∨ 5 ≤ l := by omega
      rcases hl with rfl | rfl | rfl | rfl | rfl | hl | hl
      all_goals
        go_wp2
        first
          | (refine ⟨⟨k + 1, by omega, by go_num, ?_⟩, by simp [intOf]; omega⟩
             have HS' := HS.out
             refine cells5 _ ?_ ?_ ?_ ?_ ?_ <;> rw [HS'] <;> simp <;> omega)
          | (refine ⟨⟨k + 1, by omega, by go_num, ?_⟩, by simp [intOf]; omega⟩
             have HS' := HS.out
             refine cells5 _ ?_ ?_ ?_ ?_ ?_ <;> rw [HS'] <;> simp)
    · have hk' : op.take k = op := List.take_of_length_le (by rw [← HN.out]; omega)
      rw [hk']
      obtain ⟨c, hc⟩ : ∃ c : Array Value, c = #[.int .i64 kind, .int .i64 start, .int .i64 th, .int .i64 num, .bool mend, .int .i64 ((mk.length : Int) + 1), .int .i64 ee, .bool (hldT op 0), .bool (hldT op 1), .bool (hldT op 2), .bool (hldT op 3), .bool (hldT op 4)] := ⟨_, rfl⟩
      have HO : Hid ((w.alloc (.cells #[.int .i64 kind, .int .i64 start, .int .i64 th, .int .i64 num, .bool mend, .int .i64 ((mk.length : Int) + 1), .int .i64 ee, .bool (hldT op 0), .bool (hldT op 1), .bool (hldT op 2), .bool (hldT op 3), .bool (hldT op 4)] 64)).ownsRow (b + 1) 64 12 (.slice am mk.length cm) mk.length (stsV mk)) := H.out.rm.alloc _
      clear hc c
      have nb : some b ≠ (Value.slice am mk.length cm).ownBlock := low_ne H.out.rm
      have nH : some w.heap.size ≠ (Value.slice am mk.length cm).ownBlock := fun e => by have := (H.out.rm.lt _ e.symm).2; omega
      clear hk'
      go_wp2
      have hblk : ∀ o o', ((w.alloc o).alloc o').drew.heap[w.heap.size + 1]? = some o' := fun o o' => by
        have := heap_alloc_new (w.alloc o) o'
        rw [show (w.alloc o).heap.size = w.heap.size + 1 by simp] at this
        exact this
      go_region_law ((refine step_append_lies _ (by rfl) _ _ _ (by rfl) (b + 1) 64 i0 _ 12 64 Try.underlying48 hi0 hz0 hz1 hz2 rfl (by omega) (.slice am mk.length cm) mk.length (stsV mk) (by rfl) ((HO.out.alloc _).drew) ⟨w.heap.size + 1, 0, none⟩ 1 1 [.int .i64 kind, .int .i64 start, .int .i64 th, .int .i64 num, .bool mend, .int .i64 ((mk.length : Int) + 1), .int .i64 ee, .bool (hldT op 0), .bool (hldT op 1), .bool (hldT op 2), .bool (hldT op 3), .bool (hldT op 4)] (by rfl) (by rfl) (World.news_of_block (cs := #[.int .i64 kind, .int .i64 start, .int .i64 th, .int .i64 num, .bool mend, .int .i64 ((mk.length : Int) + 1), .int .i64 ee, .bool (hldT op 0), .bool (hldT op 1), .bool (hldT op 2), .bool (hldT op 3), .bool (hldT op 4)]) (t := 64) (fr := (0, 0)) (hblk _ _)) (by simp [Value.oneCell']) (by omega) (by unfold maxLen; omega) (by omega) (by simp; omega) (w.heap.size + 2) (by simp) ?_; intro gg cap w1 hown1 hgrow hat hlt; have k4 := (hgrow.cell_far ⟨b, 4, none⟩ (by simp; omega) nb).trans (((H.out.alloc _).alloc _).drew.c4); have z4 := (hgrow.frozen_far ⟨b, 4, none⟩ (by simp; omega) nb).trans (((H.out.alloc _).alloc _).drew.fz 4)))
      all_goals
        have hb1 : b < w1.heap.size := by have := hgrow.size; simp at this; omega
        have K := fun i => (hgrow.cell_far ⟨b, i, none⟩ (by simp; omega) nb)
        have Z := fun i => (hgrow.frozen_far ⟨b, i, none⟩ (by simp; omega) nb).trans (((H.out.alloc _).alloc _).drew.fz i)
        have hro := (((H.out.alloc _).alloc _).drew.ro).kept hgrow (rows_apart H.out.ro H.out.rm (by decide))
        have hown2 : w1.ownsRow (b + 1) 64 12 (.slice (some ⟨gg, 0, none⟩) (mk ++ [(⟨kind, start, th, num, mend, (mk.length : Int) + 1, ee, hldT op 0, hldT op 1, hldT op 2, hldT op 3, hldT op 4⟩ : ST)]).length cap) (mk ++ [(⟨kind, start, th, num, mend, (mk.length : Int) + 1, ee, hldT op 0, hldT op 1, hldT op 2, hldT op 3, hldT op 4⟩ : ST)]).length (stsV (mk ++ [(⟨kind, start, th, num, mend, (mk.length : Int) + 1, ee, hldT op 0, hldT op 1, hldT op 2, hldT op 3, hldT op 4⟩ : ST)])) := by
          rw [stsV_append, List.length_append]; exact hown1
        have R1 := RD.marks (am := some ⟨gg, 0, none⟩) (cm := cap) hb1 ((K 0).trans (((H.out.alloc _).alloc _).drew.c0)) ((K 1).trans (((H.out.alloc _).alloc _).drew.c1)) ((K 2).trans (((H.out.alloc _).alloc _).drew.c2)) ((K 3).trans (((H.out.alloc _).alloc _).drew.c3)) k4 Z hro hown2
        rw [List.length_append] at R1
        have BE : Below b w w1 := ((((Below.refl b w).alloc (by omega) _).alloc (by simp; omega) _).drew).grown hgrow (by simp; omega) (fun k hk => by have := (H.out.rm.lt k hk).1; omega)
        have KP : Kp b w w1 := (((Kp.refl b w).alloc _).alloc _).drew.row ((HO.out.alloc _).drew) hgrow
        go_wp2
        go_end0
        exact ⟨rfl, ⟨_, _, R1⟩, BE.setCell (by simp) _, KP.low _⟩

end Go.Proofs.Ytnpkambjlfkhgaa
