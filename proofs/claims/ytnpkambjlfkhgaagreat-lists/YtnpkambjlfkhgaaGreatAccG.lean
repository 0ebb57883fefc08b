import Derived.Test.YtnpkambjlfkhgaaGreatAccF
namespace Go.Proofs.YtnpkambjlfkhgaaGreat
open Go.RowKit

theorem BK.added {W w1 : World} {bk : Nat} {fs : List (Option Addr × Nat)} {aa : Option Addr} {ca : Nat} {x : Option Addr} {c g cap : Nat} {o : Obj} (h : BK W bk fs aa ca)
    (hf : W.ownsRow (bk + 1) 47 5 (.slice x c c) c (bmsV fs.length c))
    (hown : w1.ownsRow (bk + 1) 45 1 (.slice (some ⟨g, 0, none⟩) (fs.length + 1) cap) (fs.length + 1) ((fs.map fun f => .slice f.1 f.2 f.2) ++ [.slice x c c]))
    (hgrow : (W.alloc o).grownBy w1 (Value.slice aa fs.length ca).ownBlock) :
    BK (w1.setCell ⟨bk, 1, none⟩ (.slice (some ⟨g, 0, none⟩) (fs.length + 1) cap)) bk (fs ++ [(x, c)]) (some ⟨g, 0, none⟩) cap := by
  have hlt := h.lt
  have hne : some bk ≠ (Value.slice aa fs.length ca).ownBlock := low_ne h.row
  have k0 := (hgrow.cell_far ⟨bk, 0, none⟩ (by simp; omega) hne).trans ((World.cell?_alloc_past _ _ _ hlt).trans h.c0)
  have k1 := (hgrow.cell_far ⟨bk, 1, none⟩ (by simp; omega) hne).trans ((World.cell?_alloc_past _ _ _ hlt).trans h.c1)
  have z1 := (hgrow.frozen_far ⟨bk, 1, none⟩ (by simp; omega) hne).trans ((World.frozen?_alloc_past _ _ _ hlt).trans h.f1)
  have hb1 : bk < w1.heap.size := by have := hgrow.size; simp at this; omega
  have hel : ∀ k f, (fs ++ [(x, c)])[k]? = some f → w1.ownsRow (bk + 1) 47 5 (.slice f.1 f.2 f.2) f.2 (bmsV k f.2) := by
    intro k f hk
    have hW : W.ownsRow (bk + 1) 47 5 (.slice f.1 f.2 f.2) f.2 (bmsV k f.2) := by
      by_cases hkl : k < fs.length
      · rw [List.getElem?_append_left hkl] at hk
        exact h.each k f hk
      · rw [List.getElem?_append_right (by omega)] at hk
        have hk0 : k - fs.length = 0 := by
          have := (List.getElem?_eq_some_iff.1 hk).1
          simp at this; omega
        rw [hk0] at hk
        simp at hk
        subst hk
        have : k = fs.length := by omega
        subst this
        exact hf
    exact (hW.alloc o).kept hgrow (rows_apart hW h.row (by decide))
  clear hgrow hf h
  refine ⟨by simpa [World.setCell] using hb1, by go_simp, ?_, by go_simp, ?_, ?_⟩
  · rw [List.length_append]; exact cell_same k1
  · rw [List.length_append, List.map_append]
    exact ownsRow_setCell_below hown (by simp) _
  · intro k f hk
    exact ownsRow_setCell_below (hel k f hk) (by simp) _

set_option maxHeartbeats 3200000 in
set_option maxRecDepth 100000 in
theorem keep_nil (bk : Nat) (fs : List (Option Addr × Nat)) (aa : Option Addr) (ca : Nat) (w : World) (h : BK w bk fs aa ca) (hb : (fs.length + 1) * 24 ≤ 140737488355328) :
    Calls Tryz.prog 30 #[.pointer (some ⟨bk, 0, none⟩), .slice none 0 0] w fun e w' => e = .returned (.tuple #[]) ∧ (∃ aa' ca', BK w' bk (fs ++ [(none, 0)]) aa' ca') ∧ Below bk w w' := by
  obtain ⟨i0, hi, hz0, hz1, hz2⟩ := info_parts Tryz.infoAccs
  have HK : Hid (BK w bk fs aa ca) := h
  have c1 := h.c1
  have f1 := h.f1
  have hlt := h.lt
  clear h
  obtain ⟨n, hn⟩ : ∃ n, n = fs.length := ⟨_, rfl⟩
  have HN : Hid (n = fs.length) := hn
  rw [← hn] at c1 hb
  have HR : Hid (w.ownsRow (bk + 1) 45 1 (.slice aa n ca) n (fs.map fun f => .slice f.1 f.2 f.2)) := by rw [hn]; exact HK.out.row
  clear hn
  go_enter Tryz.func30, Tryz.ntmps30
  go_wp2
  refine wp_loop_rounds 1 ?_
  rw [rounds_succ]
  go_wp2_with (at_builtin; refine wpList_append_lies _ (by rfl) (.tmp 29) (.tmp 31) 27 (by rfl) (bk + 1) 45 i0 _ 1 24 Tryz.underlying27 hi hz0 hz1 hz2 rfl (by decide) (.slice aa n ca) n (fs.map fun f => .slice f.1 f.2 f.2) (by rfl) (HR.out.alloc _) ⟨w.heap.size, 0, none⟩ 1 1 [.slice none 0 0] (by rfl) rfl ?hnews ?h1 (by decide) ?h63 ?hby ?hbase (w.heap.size + 1) ?hH ?next)
  case hnews => exact World.news_of_block (heap_alloc_new _ _)
  case h1 => intro u hu; simp at hu; subst hu; rfl
  case h63 => unfold maxLen; omega
  case hby => omega
  case hbase => simp; omega
  case hH => simp
  case next =>
    intro g cap w1 hown hgrow hat hlt1
    have nb : some bk ≠ (Value.slice aa n ca).ownBlock := low_ne HR.out
    have k1 := (hgrow.cell_far ⟨bk, 1, none⟩ (by simp; omega) nb).trans ((World.cell?_alloc_past _ _ _ hlt).trans c1)
    have z1 := (hgrow.frozen_far ⟨bk, 1, none⟩ (by simp; omega) nb).trans ((World.frozen?_alloc_past _ _ _ hlt).trans f1)
    have hbel : Hid (Below bk w w1) := ((Below.refl bk w).alloc (by omega) _).grown hgrow (by simp; omega) (fun q hq => by have := (HR.out.lt q hq).1; omega)
    have BB : Hid (BK (w1.setCell ⟨bk, 1, none⟩ (.slice (some ⟨g, 0, none⟩) (n + 1) cap)) bk (fs ++ [(none, 0)]) (some ⟨g, 0, none⟩) cap) := by
      show BK (w1.setCell ⟨bk, 1, none⟩ (.slice (some ⟨g, 0, none⟩) (n + 1) cap)) bk (fs ++ [(none, 0)]) (some ⟨g, 0, none⟩) cap
      rw [HN.out] at hown hgrow ⊢
      exact HK.out.added (World.ownsRow_nil _ _ _ _) hown hgrow
    clear hown hgrow hat nb
    go_wp2
    go_end0
    exact ⟨rfl, ⟨_, _, BB.out⟩, hbel.out.setCell (by simp) _⟩

set_option maxHeartbeats 3200000 in
set_option maxRecDepth 100000 in
theorem keep_some (bk B g n0 c : Nat) (xs : List Value) (fs : List (Option Addr × Nat)) (aa : Option Addr) (ca : Nat) (w : World) (h : BK w bk fs aa ca) (hb : (fs.length + 1) * 24 ≤ 140737488355328)
    (hl : w.ownsRow B 47 5 (.slice (some ⟨g, 0, none⟩) n0 c) n0 xs) (hB : bk < B) (hrB : ∀ k, (Value.slice aa fs.length ca).ownBlock = some k → k < B) (hfB : ∀ f ∈ fs, ∀ k, (Value.slice f.1 f.2 f.2).ownBlock = some k → k < B) :
    Calls Tryz.prog 30 #[.pointer (some ⟨bk, 0, none⟩), .slice (some ⟨g, 0, none⟩) n0 c] w fun e w' => e = .returned (.tuple #[]) ∧ (∃ aa' ca', BK w' bk (fs ++ [(some ⟨g, 0, none⟩, c)]) aa' ca') ∧ Below bk w w' := by
  obtain ⟨i0, hi, hz0, hz1, hz2⟩ := info_parts Tryz.infoAccs
  have HK : Hid (BK w bk fs aa ca) := h
  obtain ⟨ys, hys, hn0⟩ := row_full hl
  have hgB : B ≤ g := (hl.lt g rfl).1
  have hcm := row_cap hys
  unfold maxLen at hcm
  clear hl h
  have HRB : Hid (∀ k, (Value.slice aa fs.length ca).ownBlock = some k → k < B) := hrB
  have HFB : Hid (∀ f ∈ fs, ∀ k, (Value.slice f.1 f.2 f.2).ownBlock = some k → k < B) := hfB
  clear hrB hfB
  obtain ⟨n, hn⟩ : ∃ n, n = fs.length := ⟨_, rfl⟩
  have HN : Hid (n = fs.length) := hn
  rw [← hn] at hb
  have hn24 : n ≤ 140737488355328 := by omega
  clear hn
  have HYS : Hid (w.ownsRow B 47 5 (.slice (some ⟨g, 0, none⟩) c c) c ys) := hys
  clear hys
  go_enter Tryz.func30, Tryz.ntmps30
  go_wp2
  go_loopw [5] (fun i wr => ∃ (k : Nat) (zs : List Value), k ≤ c ∧ i = .int .i64 k ∧ wr.ownsRow B 47 5 (.slice (some ⟨g, 0, none⟩) c c) c zs ∧ Filled zs n k ∧ BK wr bk fs aa ca ∧ Below bk w wr) (fun i _ => c - (intOf i).toNat)
  case atStart => exact ⟨0, ys, Nat.zero_le _, rfl, HYS.out, fun i j hi => by omega, HK.out, Below.refl _ _⟩
  case round =>
    obtain ⟨k, zs, hk, rfl, hzs, hfill, hbk, hbe⟩ := hrel
    have c1 := hbk.c1
    have f1 := hbk.f1
    have hlt := hbk.lt
    rw [← HN.out] at c1
    by_cases hkc : k < c
    · have hzl : zs.length = c * 5 := hzs.1
      obtain ⟨e0, y0⟩ : ∃ v, wr.cell? ⟨g, k * 5, none⟩ = some v := ⟨_, (hzs.cellAt (k * 5) (by omega)).trans (List.getElem?_eq_getElem (by omega))⟩
      obtain ⟨e1, y1⟩ : ∃ v, wr.cell? ⟨g, k * 5 + 1, none⟩ = some v := ⟨_, (hzs.cellAt (k * 5 + 1) (by omega)).trans (List.getElem?_eq_getElem (by omega))⟩
      obtain ⟨e2, y2⟩ : ∃ v, wr.cell? ⟨g, k * 5 + 2, none⟩ = some v := ⟨_, (hzs.cellAt (k * 5 + 2) (by omega)).trans (List.getElem?_eq_getElem (by omega))⟩
      obtain ⟨e3, y3⟩ : ∃ v, wr.cell? ⟨g, k * 5 + 3, none⟩ = some v := ⟨_, (hzs.cellAt (k * 5 + 3) (by omega)).trans (List.getElem?_eq_getElem (by omega))⟩
      obtain ⟨e4, y4⟩ : ∃ v, wr.cell? ⟨g, k * 5 + 4, none⟩ = some v := ⟨_, (hzs.cellAt (k * 5 + 4) (by omega)).trans (List.getElem?_eq_getElem (by omega))⟩
      have x0 := hzs.frozenAt (k * 5)
      have x1 := hzs.frozenAt (k * 5 + 1)
      have x2 := hzs.frozenAt (k * 5 + 2)
      have x3 := hzs.frozenAt (k * 5 + 3)
      have x4 := hzs.frozenAt (k * 5 + 4)
      obtain ⟨st, gr⟩ := row_stored (k * 5) (.int .i64 (-1)) (.int .i64 n) (.int .i64 0) (.bool false) (.string ⟨#[110, 111, 110, 101]⟩) hzs
      have hbk2 := hbk.stored gr (by omega) HRB.out HFB.out hgB
      have hbe2 := hbe.trans (Below.trans_grown gr (show bk ≤ g by omega) (by omega))
      have hf2 := filled_step (N := n) hfill hzl hkc
      have ST : Hid (_ ∧ _) := ⟨st, hf2⟩
      have BK2 : Hid (_ ∧ _) := ⟨hbk2, hbe2⟩
      clear st gr hbk2 hbe2 hf2 hzs hfill hbk hbe hzl
      go_wp2
      exact ⟨⟨k + 1, _, by omega, by go_num, ST.out.1, ST.out.2, BK2.out.1, BK2.out.2⟩, by simp [intOf]; omega⟩
    · have hkc' : k = c := by omega
      subst hkc'
      have hzz := filled_all hfill hzs.1
      have HF : Hid (wr.ownsRow (bk + 1) 47 5 (.slice (some ⟨g, 0, none⟩) k k) k (bmsV fs.length k)) := by
        show wr.ownsRow (bk + 1) 47 5 (.slice (some ⟨g, 0, none⟩) k k) k (bmsV fs.length k)
        rw [← HN.out, ← hzz]
        exact ownsRow_lower hzs (by omega)
      have HBK : Hid (BK wr bk fs aa ca) := hbk
      have HBE : Hid (Below bk w wr) := hbe
      have HR : Hid (wr.ownsRow (bk + 1) 45 1 (.slice aa n ca) n (fs.map fun f => .slice f.1 f.2 f.2)) := by
        show wr.ownsRow (bk + 1) 45 1 (.slice aa n ca) n (fs.map fun f => .slice f.1 f.2 f.2)
        rw [HN.out]; exact hbk.row
      clear hzz hzs hfill hbk hbe
      go_wp2_with (at_builtin; refine wpList_append_lies _ (by rfl) (.tmp 29) (.tmp 31) 27 (by rfl) (bk + 1) 45 i0 _ 1 24 Tryz.underlying27 hi hz0 hz1 hz2 rfl (by decide) (.slice aa n ca) n (fs.map fun f => .slice f.1 f.2 f.2) (by rfl) (HR.out.alloc _) ⟨wr.heap.size, 0, none⟩ 1 1 [.slice (some ⟨g, 0, none⟩) k k] (by rfl) rfl ?hnews ?h1 (by decide) ?h63 ?hby ?hbase (wr.heap.size + 1) ?hH ?next)
      case hnews => exact World.news_of_block (heap_alloc_new _ _)
      case h1 => intro u hu; simp at hu; subst hu; rfl
      case h63 => unfold maxLen; omega
      case hby => omega
      case hbase => simp; omega
      case hH => simp
      case next =>
        intro g2 cap w1 hown hgrow hat hlt1
        have nb : some bk ≠ (Value.slice aa n ca).ownBlock := low_ne HR.out
        have k1 := (hgrow.cell_far ⟨bk, 1, none⟩ (by simp; omega) nb).trans ((World.cell?_alloc_past _ _ _ hlt).trans c1)
        have z1 := (hgrow.frozen_far ⟨bk, 1, none⟩ (by simp; omega) nb).trans ((World.frozen?_alloc_past _ _ _ hlt).trans f1)
        have hbel : Hid (Below bk w w1) := (HBE.out.alloc (by omega) _).grown hgrow (by simp; omega) (fun q hq => by have := (HR.out.lt q hq).1; omega)
        have BB : Hid (BK (w1.setCell ⟨bk, 1, none⟩ (.slice (some ⟨g2, 0, none⟩) (n + 1) cap)) bk (fs ++ [(some ⟨g, 0, none⟩, k)]) (some ⟨g2, 0, none⟩) cap) := by
          show BK (w1.setCell ⟨bk, 1, none⟩ (.slice (some ⟨g2, 0, none⟩) (n + 1) cap)) bk (fs ++ [(some ⟨g, 0, none⟩, k)]) (some ⟨g2, 0, none⟩) cap
          rw [HN.out] at hown hgrow ⊢
          exact HBK.out.added HF.out hown hgrow
        clear hown hgrow hat nb
        go_wp2
        go_end0
        exact ⟨rfl, ⟨_, _, BB.out⟩, hbel.out.setCell (by simp) _⟩

end Go.Proofs.YtnpkambjlfkhgaaGreat
