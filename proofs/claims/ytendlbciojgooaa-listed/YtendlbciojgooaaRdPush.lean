import Derived.Test.YtendlbciojgooaaRd
namespace Go.Proofs.Ytendlbciojgooaa
open Go.RowKit

theorem Try.infoOpened : (Try.prog.info? 129).map (fun i => (i.zero, i.size, i.bytes)) = some (some (.agg #[.int .i64 0, .int .i64 0]), 2, 16) := by kernel_rfl
theorem Try.infoMark : (Try.prog.info? 68).map (fun i => (i.zero, i.size, i.bytes)) = some (some (.agg #[.int .i64 0, .int .i64 0, .int .i64 0, .int .i64 0, .bool false, .bool false, .bool false, .bool false, .bool false]), 9, 40) := by kernel_rfl

/-- Two rows of different elements lie in different blocks. -/
theorem rows_apart {w : World} {b1 b2 e1 e2 s1 s2 n1 n2 : Nat} {v1 v2 : Value} {x1 x2 : List Value} (h1 : w.ownsRow b1 e1 s1 v1 n1 x1) (h2 : w.ownsRow b2 e2 s2 v2 n2 x2) (hne : e1 ≠ e2) : v1.ownBlock = none ∨ v1.ownBlock ≠ v2.ownBlock := by
  rcases h1.2 with ⟨rfl, _⟩ | ⟨g, cap, cur, rfl, _, hg, _⟩
  · exact .inl rfl
  · rcases h2.2 with ⟨rfl, _⟩ | ⟨g', cap', cur', rfl, _, hg', _⟩
    · right; simp [Value.ownBlock]
    · right
      intro e
      have e' : g = g' := by simpa [Value.ownBlock] using e
      subst e'
      rw [hg] at hg'
      simp at hg'
      exact hne hg'.2

theorem low_ne {w : World} {b e n m : Nat} {v : Value} {xs : List Value} (h : w.ownsRow (b + 1) e n v m xs) : some b ≠ v.ownBlock := fun h' => by
  have := (h.lt b h'.symm).1
  omega

/-- What is open was stored anew. -/
theorem RD.opens {w1 : World} {b : Nat} {s : ByteArray} {pl : Nat} {th : Int} {op : List (Int × Int)} {mk : List MK} {am : Option Addr} {cm : Nat} {ao : Option Addr} {co : Nat} {v3 : Value} (hb1 : b < w1.heap.size)
    (k0 : w1.cell? ⟨b, 0, none⟩ = some (.string s)) (k1 : w1.cell? ⟨b, 1, none⟩ = some (.int .i64 pl)) (k2 : w1.cell? ⟨b, 2, none⟩ = some (.int .i64 th)) (k3 : w1.cell? ⟨b, 3, none⟩ = some v3) (k4 : w1.cell? ⟨b, 4, none⟩ = some (.slice am mk.length cm))
    (Z : ∀ i, w1.frozen? ⟨b, i, none⟩ = false) (hown : w1.ownsRow (b + 1) 129 2 (.slice ao op.length co) op.length (opV op)) (hrm : w1.ownsRow (b + 1) 68 9 (.slice am mk.length cm) mk.length (mksV mk)) :
    RD (w1.setCell ⟨b, 3, none⟩ (.slice ao op.length co)) b s pl th op mk ao co am cm := by
  refine ⟨by simpa [World.setCell] using hb1, by go_simp, by go_simp, by go_simp, cell_same k3, by go_simp, fun i => by have := Z i; go_simp, ownsRow_setCell_below hown (by simp) _, ownsRow_setCell_below hrm (by simp) _⟩

/-- The marks were stored anew. -/
theorem RD.marks {w1 : World} {b : Nat} {s : ByteArray} {pl : Nat} {th : Int} {op : List (Int × Int)} {mk : List MK} {am : Option Addr} {cm : Nat} {ao : Option Addr} {co : Nat} {v4 : Value} (hb1 : b < w1.heap.size)
    (k0 : w1.cell? ⟨b, 0, none⟩ = some (.string s)) (k1 : w1.cell? ⟨b, 1, none⟩ = some (.int .i64 pl)) (k2 : w1.cell? ⟨b, 2, none⟩ = some (.int .i64 th)) (k3 : w1.cell? ⟨b, 3, none⟩ = some (.slice ao op.length co)) (k4 : w1.cell? ⟨b, 4, none⟩ = some v4)
    (Z : ∀ i, w1.frozen? ⟨b, i, none⟩ = false) (hown : w1.ownsRow (b + 1) 129 2 (.slice ao op.length co) op.length (opV op)) (hrm : w1.ownsRow (b + 1) 68 9 (.slice am mk.length cm) mk.length (mksV mk)) :
    RD (w1.setCell ⟨b, 4, none⟩ (.slice am mk.length cm)) b s pl th op mk ao co am cm := by
  refine ⟨by simpa [World.setCell] using hb1, by go_simp, by go_simp, by go_simp, by go_simp, cell_same k4, fun i => by have := Z i; go_simp, ownsRow_setCell_below hown (by simp) _, ownsRow_setCell_below hrm (by simp) _⟩

set_option maxHeartbeats 800000 in
set_option maxRecDepth 100000 in
theorem push_any (b : Nat) (k l : Int) (s : ByteArray) (pl : Nat) (th : Int) (op : List (Int × Int)) (mk : List MK) (ao co am cm) (w : World) (h : RD w b s pl th op mk ao co am cm) (hn : op.length ≤ 1000) :
    Calls Try.prog 84 #[.pointer (some ⟨b, 0, none⟩), .int .i64 k, .int .i64 l] w fun e w' => e = .returned (.tuple #[]) ∧ (∃ ao' co', RD w' b s pl th (op ++ [(k, l)]) mk ao' co' am cm) ∧ Below b w w' := by
  obtain ⟨hb, c0, c1, c2, c3, c4, fz, ro, rm⟩ := h
  obtain ⟨i0, hi, hz0, hz1, hz2⟩ := info_parts Try.infoOpened
  have f3 := fz 3
  have RO : Hid (w.ownsRow (b + 1) 129 2 (.slice ao op.length co) op.length (opV op)) := ro
  have RM : Hid (w.ownsRow (b + 1) 68 9 (.slice am mk.length cm) mk.length (mksV mk)) := rm
  have FZ : Hid (∀ i, w.frozen? ⟨b, i, none⟩ = false) := fz
  clear ro rm fz
  go_enter Try.func84, Try.ntmps84
  go_wp2_with (at_builtin; refine wpList_append_lies _ (by rfl) (.tmp 10) (.tmp 14) 63 (by rfl) (b + 1) 129 i0 _ 2 16 Try.underlying63 hi hz0 hz1 hz2 rfl (by decide) (.slice ao op.length co) op.length (opV op) (by rfl) (RO.out.alloc _) ⟨w.heap.size, 0, none⟩ 1 1 [.int .i64 k, .int .i64 l] (by rfl) rfl ?hnews ?h1 (by decide) ?h63 ?hby ?hbase (w.heap.size + 1) ?hH ?next)
  case hnews => exact World.news_of_block (heap_alloc_new _ _)
  case h1 => intro u hu; simp at hu; rcases hu with rfl | rfl <;> rfl
  case h63 => unfold maxLen; omega
  case hby => omega
  case hbase => simp; omega
  case hH => simp
  case next =>
    intro g cap w1 hown hgrow hat hlt
    have hfar := fun i => hgrow.cell_far ⟨b, i, none⟩ (by simp; omega) (low_ne RO.out)
    have hfarz := fun i => hgrow.frozen_far ⟨b, i, none⟩ (by simp; omega) (low_ne RO.out)
    have hold : ∀ i, (w.alloc (.cells #[.int .i64 k, .int .i64 l] 129)).cell? ⟨b, i, none⟩ = w.cell? ⟨b, i, none⟩ := fun i => World.cell?_alloc_past _ _ _ hb
    have holdz : ∀ i, (w.alloc (.cells #[.int .i64 k, .int .i64 l] 129)).frozen? ⟨b, i, none⟩ = w.frozen? ⟨b, i, none⟩ := fun i => World.frozen?_alloc_past _ _ _ hb
    have k0 := (hfar 0).trans ((hold 0).trans c0)
    have k1 := (hfar 1).trans ((hold 1).trans c1)
    have k2 := (hfar 2).trans ((hold 2).trans c2)
    have k3 := (hfar 3).trans ((hold 3).trans c3)
    have k4 := (hfar 4).trans ((hold 4).trans c4)
    have z3 := (hfarz 3).trans ((holdz 3).trans f3)
    have Z : Hid (∀ i, w1.frozen? ⟨b, i, none⟩ = false) := fun i => (hfarz i).trans ((holdz i).trans (FZ.out i))
    have hrm := (RM.out.alloc (.cells #[.int .i64 k, .int .i64 l] 129)).kept hgrow (rows_apart RM.out RO.out (by decide))
    have hbel : Below b w w1 := ((Below.refl b w).alloc (by omega) _).grown hgrow (by simp; omega) (fun k hk => by have := (RO.out.lt k hk).1; omega)
    have hsz := hgrow.size
    have hb1 : b < w1.heap.size := by simp at hsz; omega
    have RD1 : Hid (RD (w1.setCell ⟨b, 3, none⟩ (.slice (some ⟨g, 0, none⟩) (op.length + 1) cap)) b s pl th (op ++ [(k, l)]) mk (some ⟨g, 0, none⟩) cap am cm) := by
      have hown' : w1.ownsRow (b + 1) 129 2 (.slice (some ⟨g, 0, none⟩) (op ++ [(k, l)]).length cap) (op ++ [(k, l)]).length (opV (op ++ [(k, l)])) := by
        rw [opV_append, List.length_append]; exact hown
      have := RD.opens (op := op ++ [(k, l)]) (ao := some ⟨g, 0, none⟩) (co := cap) hb1 k0 k1 k2 k3 k4 Z.out hown' hrm
      rw [List.length_append] at this
      exact this
    have BE : Hid (Below b w (w1.setCell ⟨b, 3, none⟩ (.slice (some ⟨g, 0, none⟩) (op.length + 1) cap))) := hbel.setCell (by simp) _
    clear hown hgrow hat hfar hfarz hold holdz hrm hbel Z hsz
    go_wp2
    go_end0
    exact ⟨rfl, ⟨_, _, RD1.out⟩, BE.out⟩

end Go.Proofs.Ytendlbciojgooaa
