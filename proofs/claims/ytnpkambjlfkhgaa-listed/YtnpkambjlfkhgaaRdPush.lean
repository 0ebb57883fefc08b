import Derived.Test.YtnpkambjlfkhgaaRd
import Derived.Deep.RegionLaw
namespace Go.Proofs.Ytnpkambjlfkhgaa
open Go.RowKit

theorem Try.infoOpened : (Try.prog.info? 87).map (fun i => (i.zero, i.size, i.bytes)) = some (some (.agg #[.int .i64 0, .int .i64 0, .int .i64 0]), 3, 24) := by kernel_rfl
theorem Try.infoMark : (Try.prog.info? 64).map (fun i => (i.zero, i.size, i.bytes)) = some (some (.agg #[.int .i64 0, .int .i64 0, .int .i64 0, .int .i64 0, .bool false, .int .i64 0, .int .i64 0, .bool false, .bool false, .bool false, .bool false, .bool false]), 12, 64) := by kernel_rfl

/-- Two rows of different elements lie in different blocks. -/
theorem rows_apart {w : World} {b1 b2 e1 e2 s1 s2 n1 n2 : Nat} {v1 v2 : Value} {x1 x2 : List Value} (h1 : w.ownsRow b1 e1 s1 v1 n1 x1) (h2 : w.ownsRow b2 e2 s2 v2 n2 x2) (hne : e1 ≠ e2) : v1.ownBlock = none ∨ v1.ownBlock ≠ v2.ownBlock := by
  rcases h1.2 with ⟨rfl, _⟩ | ⟨g, cap, cur, rfl, _, hg, _⟩
  · exact .inl rfl
  · rcases h2.2 with ⟨rfl, _⟩ | ⟨g', cap', cur', rfl, _, hg', _⟩
    · right; simp [Value.ownBlock]
    · right
      intro e
      have e' : g = g' := by simpa [Value.ownBlock] using e
      subst e'
      rw [hg] at hg'
      simp at hg'
      exact hne hg'.2

theorem low_ne {w : World} {b e n m : Nat} {v : Value} {xs : List Value} (h : w.ownsRow (b + 1) e n v m xs) : some b ≠ v.ownBlock := fun h' => by
  have := (h.lt b h'.symm).1
  omega

/-- A variable of the type of what is open, behind the reader, stands as it was. -/
def Kp (b : Nat) (w w' : World) : Prop := ∀ k c fz, b < k → w.heap[k]? = some (.cells c 87 fz) → w'.heap[k]? = some (.cells c 87 fz)
theorem Kp.refl (b : Nat) (w : World) : Kp b w w := fun _ _ _ _ h => h
theorem Kp.trans {b : Nat} {x y z : World} (h : Kp b x y) (k : Kp b y z) : Kp b x z := fun i c fz hi hx => k i c fz hi (h i c fz hi hx)
theorem Kp.drew {b : Nat} {x y : World} (h : Kp b x y) : Kp b x y.drew := h
theorem Kp.drewN {b : Nat} {x y : World} (h : Kp b x y) (n : Nat) : Kp b x (y.drewN n) := h
theorem Kp.alloc {b : Nat} {x y : World} (h : Kp b x y) (o : Obj) : Kp b x (y.alloc o) := fun k c fz hk hx => by
  have := h k c fz hk hx
  rw [Below.heap_alloc y o k (Array.getElem?_eq_some_iff.1 this).1]; exact this
theorem Kp.low {b i : Nat} {x y : World} (h : Kp b x y) (u : Value) : Kp b x (y.setCell ⟨b, i, none⟩ u) := fun k c fz hk hx => by
  rw [heap_setCell_other y _ k u (by simp; omega)]; exact h k c fz hk hx
theorem Kp.row {b base size n : Nat} {x w w' : World} {v : Value} {xs : List Value} (h : Kp b x w) (r : w.ownsRow base 64 size v n xs) (hg : w.grownBy w' v.ownBlock) : Kp b x w' := fun k c fz hk hx => by
  have hx := h k c fz hk hx
  have hl := (Array.getElem?_eq_some_iff.1 hx).1
  rw [hg.block k hl]
  · exact hx
  · intro e'
    rcases r.2 with ⟨rfl, _⟩ | ⟨g, cap, cur, rfl, _, hgg, _⟩
    · cases e'
    · have : k = g := by simpa [Value.ownBlock] using e'
      subst this
      rw [hx] at hgg
      simp at hgg
theorem Kp.cells {b k : Nat} {w w' : World} (h : Kp b w w') (hk : b < k) (x y z : Value) (hx : w.heap[k]? = some (.cells #[x, y, z] 87)) :
    w'.cell? ⟨k, 0, none⟩ = some x ∧ w'.cell? ⟨k, 1, none⟩ = some y ∧ w'.cell? ⟨k, 2, none⟩ = some z := by
  have := h k _ _ hk hx
  simp [World.cell?, this]

/-- What is open was stored anew. -/
theorem RD.opens {w1 : World} {b : Nat} {s : ByteArray} {pl : Nat} {th : Int} {op : List OP} {mk : List ST} {am : Option Addr} {cm : Nat} {ao : Option Addr} {co : Nat} {v3 : Value} (hb1 : b < w1.heap.size)
    (k0 : w1.cell? ⟨b, 0, none⟩ = some (.string s)) (k1 : w1.cell? ⟨b, 1, none⟩ = some (.int .i64 pl)) (k2 : w1.cell? ⟨b, 2, none⟩ = some (.int .i64 th)) (k3 : w1.cell? ⟨b, 3, none⟩ = some v3) (k4 : w1.cell? ⟨b, 4, none⟩ = some (.slice am mk.length cm))
    (Z : ∀ i, w1.frozen? ⟨b, i, none⟩ = false) (hown : w1.ownsRow (b + 1) 87 3 (.slice ao op.length co) op.length (opV op)) (hrm : w1.ownsRow (b + 1) 64 12 (.slice am mk.length cm) mk.length (stsV mk)) :
    RD (w1.setCell ⟨b, 3, none⟩ (.slice ao op.length co)) b s pl th op mk ao co am cm := by
  refine ⟨by simpa [World.setCell] using hb1, by go_simp, by go_simp, by go_simp, cell_same k3, by go_simp, fun i => by have := Z i; go_simp, ownsRow_setCell_below hown (by simp) _, ownsRow_setCell_below hrm (by simp) _⟩

/-- The marks were stored anew. -/
theorem RD.marks {w1 : World} {b : Nat} {s : ByteArray} {pl : Nat} {th : Int} {op : List OP} {mk : List ST} {am : Option Addr} {cm : Nat} {ao : Option Addr} {co : Nat} {v4 : Value} (hb1 : b < w1.heap.size)
    (k0 : w1.cell? ⟨b, 0, none⟩ = some (.string s)) (k1 : w1.cell? ⟨b, 1, none⟩ = some (.int .i64 pl)) (k2 : w1.cell? ⟨b, 2, none⟩ = some (.int .i64 th)) (k3 : w1.cell? ⟨b, 3, none⟩ = some (.slice ao op.length co)) (k4 : w1.cell? ⟨b, 4, none⟩ = some v4)
    (Z : ∀ i, w1.frozen? ⟨b, i, none⟩ = false) (hown : w1.ownsRow (b + 1) 87 3 (.slice ao op.length co) op.length (opV op)) (hrm : w1.ownsRow (b + 1) 64 12 (.slice am mk.length cm) mk.length (stsV mk)) :
    RD (w1.setCell ⟨b, 4, none⟩ (.slice am mk.length cm)) b s pl th op mk ao co am cm := by
  refine ⟨by simpa [World.setCell] using hb1, by go_simp, by go_simp, by go_simp, by go_simp, cell_same k4, fun i => by have := Z i; go_simp, ownsRow_setCell_below hown (by simp) _, ownsRow_setCell_below hrm (by simp) _⟩

set_option maxHeartbeats 1600000 in
set_option maxRecDepth 100000 in
theorem push_any (b : Nat) (k l f : Int) (s : ByteArray) (pl : Nat) (th : Int) (op : List OP) (mk : List ST) (ao co am cm) (w : World) (h : RD w b s pl th op mk ao co am cm) (hn : op.length ≤ 1000) :
    Calls Try.prog 54 #[.pointer (some ⟨b, 0, none⟩), .agg #[.int .i64 k, .int .i64 l, .int .i64 f]] w fun e w' => e = .returned (.tuple #[]) ∧ (∃ ao' co', RD w' b s pl th (op ++ [(k, l, f)]) mk ao' co' am cm) ∧ Below b w w' := by
  have H : Hid (RD w b s pl th op mk ao co am cm) := h
  have hb := h.hb
  have c3 := h.c3
  have f3 := h.fz 3
  clear h
  obtain ⟨i0, hi0, hz0, hz1, hz2⟩ := info_parts Try.infoOpened
  have HO : Hid ((w.alloc (.cells #[.int .i64 k, .int .i64 l, .int .i64 f] 87)).ownsRow (b + 1) 87 3 (.slice ao op.length co) op.length (opV op)) := H.out.ro.alloc _
  have nb : some b ≠ (Value.slice ao op.length co).ownBlock := low_ne H.out.ro
  have nH : some w.heap.size ≠ (Value.slice ao op.length co).ownBlock := fun e => by have := (H.out.ro.lt _ e.symm).2; omega
  go_enter Try.func54, Try.ntmps54
  go_wp2
  have hblk : ∀ o o', ((w.alloc o).alloc o').drew.heap[w.heap.size + 1]? = some o' := fun o o' => by
    have := heap_alloc_new (w.alloc o) o'
    rw [show (w.alloc o).heap.size = w.heap.size + 1 by simp] at this
    exact this
  go_region_law ((refine step_append_lies _ (by rfl) _ _ _ (by rfl) (b + 1) 87 i0 _ 3 24 Try.underlying59 hi0 hz0 hz1 hz2 rfl (by omega) (.slice ao op.length co) op.length (opV op) (by rfl) ((HO.out.alloc _).drew) ⟨w.heap.size + 1, 0, none⟩ 1 1 [.int .i64 k, .int .i64 l, .int .i64 f] (by rfl) (by rfl) (World.news_of_block (cs := #[.int .i64 k, .int .i64 l, .int .i64 f]) (t := 87) (fr := (0, 0)) (hblk _ _)) (by simp [Value.oneCell']) (by omega) (by unfold maxLen; omega) (by omega) (by simp; omega) (w.heap.size + 2) (by simp) ?_; intro gg cap w1 hown1 hgrow hat hlt; have k3 := (hgrow.cell_far ⟨b, 3, none⟩ (by simp; omega) nb).trans (((H.out.alloc _).alloc _).drew.c3); have z3 := (hgrow.frozen_far ⟨b, 3, none⟩ (by simp; omega) nb).trans (((H.out.alloc _).alloc _).drew.fz 3)))
  all_goals
    have hb1 : b < w1.heap.size := by have := hgrow.size; simp at this; omega
    have K := fun i => (hgrow.cell_far ⟨b, i, none⟩ (by simp; omega) nb)
    have Z := fun i => (hgrow.frozen_far ⟨b, i, none⟩ (by simp; omega) nb).trans (((H.out.alloc _).alloc _).drew.fz i)
    have hrm := (((H.out.alloc _).alloc _).drew.rm).kept hgrow (rows_apart H.out.rm H.out.ro (by decide))
    have hown2 : w1.ownsRow (b + 1) 87 3 (.slice (some ⟨gg, 0, none⟩) (op ++ [(k, l, f)]).length cap) (op ++ [(k, l, f)]).length (opV (op ++ [(k, l, f)])) := by
      rw [opV_append, List.length_append]; exact hown1
    have R1 := RD.opens (ao := some ⟨gg, 0, none⟩) (co := cap) hb1 ((K 0).trans (((H.out.alloc _).alloc _).drew.c0)) ((K 1).trans (((H.out.alloc _).alloc _).drew.c1)) ((K 2).trans (((H.out.alloc _).alloc _).drew.c2)) k3 ((K 4).trans (((H.out.alloc _).alloc _).drew.c4)) Z hown2 hrm
    rw [List.length_append] at R1
    have BE : Below b w w1 := ((((Below.refl b w).alloc (by omega) _).alloc (by simp; omega) _).drew).grown hgrow (by simp; omega) (fun k hk => by have := (H.out.ro.lt k hk).1; omega)
    go_wp2
    go_end0
    exact ⟨rfl, ⟨_, _, R1⟩, BE.setCell (by simp) _⟩

end Go.Proofs.Ytnpkambjlfkhgaa
