import Derived.Test.YtdgkpkdinfklaabGB
import Derived.Deep.RegionWith
import Derived.Deep.MidRow
namespace Go.Proofs.Ytdgkpkdinfklaab
open Go.RowKit
def Blk (w : World) (k : Nat) (l : List Value) (ty : Nat) : Prop := w.heap[k]? = some (.cells l.toArray ty)
theorem Blk.cell {w : World} {k : Nat} {l : List Value} {ty : Nat} (h : Blk w k l ty) (i : Nat) (v : Value) (hv : l[i]? = some v) : w.cell? ⟨k, i, none⟩ = some v := by
 have h' : w.heap[k]? = some (.cells l.toArray ty) := h
 simp [World.cell?, h', hv]
theorem Blk.fz {w : World} {k : Nat} {l : List Value} {ty : Nat} (h : Blk w k l ty) (i : Nat) : w.frozen? ⟨k, i, none⟩ = false := frozen_of_row w k i _ _ h
theorem Blk.lt {w : World} {k : Nat} {l : List Value} {ty : Nat} (h : Blk w k l ty) : k < w.heap.size := (Array.getElem?_eq_some_iff.1 h).1
theorem Blk.set {w : World} {k : Nat} {l : List Value} {ty : Nat} (h : Blk w k l ty) (i : Nat) (u : Value) : Blk (w.setCell ⟨k, i, none⟩ u) k (l.set i u) ty := by
 have := heap_setCell_same w k i l.toArray ty u h
 show _ = some (Obj.cells (l.set i u).toArray ty)
 rw [this]; simp
theorem Blk.other {w : World} {k : Nat} {l : List Value} {ty : Nat} (h : Blk w k l ty) {a : Addr} (hne : k ≠ a.block) (u : Value) : Blk (w.setCell a u) k l ty := by
 show _ = _
 rw [heap_setCell_other w a k u hne]; exact h
theorem Blk.alloc {w : World} {k : Nat} {l : List Value} {ty : Nat} (h : Blk w k l ty) (o : Obj) : Blk (w.alloc o) k l ty := by
 show _ = _
 rw [Below.heap_alloc w o k h.lt]; exact h
theorem Blk.drew {w : World} {k : Nat} {l : List Value} {ty : Nat} (h : Blk w k l ty) : Blk w.drew k l ty := h
theorem Blk.drewN {w : World} {k : Nat} {l : List Value} {ty : Nat} (h : Blk w k l ty) (n : Nat) : Blk (w.drewN n) k l ty := h
theorem Blk.new {w : World} {l : List Value} {ty : Nat} : Blk (w.alloc (.cells l.toArray ty)) w.heap.size l ty := heap_alloc_new _ _
structure Chg (S : List Nat) (w w' : World) : Prop where
 os : w'.os = w.os
 tape : w'.tape = w.tape
 output : w'.output = w.output
 size : w.heap.size ≤ w'.heap.size
 block : ∀ k, k < w.heap.size → k ∉ S → w'.heap[k]? = w.heap[k]?
theorem Chg.refl (S : List Nat) (w : World) : Chg S w w := ⟨rfl, rfl, rfl, Nat.le_refl _, fun _ _ _ => rfl⟩
theorem Chg.alloc {S : List Nat} {x y : World} (h : Chg S x y) (o : Obj) : Chg S x (y.alloc o) :=
 ⟨h.os, h.tape, h.output, by have := h.size; simp; omega, fun i hi hs => by rw [Below.heap_alloc y o i (Nat.lt_of_lt_of_le hi h.size)]; exact h.block i hi hs⟩
theorem Chg.set {S : List Nat} {x y : World} (h : Chg S x y) {a : Addr} (ha : a.block ∈ S ∨ x.heap.size ≤ a.block) (u : Value) : Chg S x (y.setCell a u) :=
 ⟨h.os, h.tape, h.output, by simpa [World.setCell] using h.size, fun i hi hs => by
  rw [heap_setCell_other y a i u (fun e => by subst e; rcases ha with h1 | h1; exact hs h1; omega)]; exact h.block i hi hs⟩
theorem Chg.below {S : List Nat} {x y : World} {B : Nat} (h : Chg S x y) (hB : ∀ k ∈ S, B ≤ k) (hs : B ≤ x.heap.size) : Below B x y :=
 ⟨h.os, h.tape, h.output, h.size, fun k hk => h.block k (by omega) (fun e => by have := hB k e; omega)⟩
theorem Blk.chg {S : List Nat} {w w' : World} {k : Nat} {l : List Value} {ty : Nat} (h : Blk w k l ty) (hc : Chg S w w') (hs : k ∉ S) : Blk w' k l ty := by
 show _ = _
 rw [hc.block k h.lt hs]; exact h
theorem chg_of_below {w w' : World} (h : Below w.heap.size w w') (S : List Nat) : Chg S w w' := ⟨h.os, h.tape, h.output, h.size, fun k hk _ => h.block k hk⟩
end Go.Proofs.Ytdgkpkdinfklaab

namespace Go.Proofs.Ytdgkpkdinfklaab
open Go.RowKit
theorem four {k : Nat} (h : k < 4) : k = 0 ∨ k = 1 ∨ k = 2 ∨ k = 3 := by omega
end Go.Proofs.Ytdgkpkdinfklaab

namespace Go.Proofs.Ytdgkpkdinfklaab
open Go.RowKit
theorem setCells_blk {w : World} {k : Nat} {ty : Nat} : ∀ (cs l : List Value) (i : Nat), Blk w k l ty → i + cs.length = l.length → Blk (w.setCells k i cs) k (l.take i ++ cs) ty := by
 intro cs
 induction cs generalizing w with
 | nil => intro l i h hl; rw [World.setCells, List.append_nil, List.take_of_length_le (by simp at hl; omega)]; exact h
 | cons c r ih =>
  intro l i h hl
  rw [World.setCells]
  have h1 : Blk (w.setCell ⟨k, i, none⟩ c) k (l.set i c) ty := h.set i c
  have := ih (l.set i c) (i + 1) h1 (by simp at hl ⊢; omega)
  have e : (l.set i c).take (i + 1) ++ r = l.take i ++ c :: r := by
   simp only [List.length_cons] at hl
   have hi : i < l.length := by omega
   rw [List.take_succ_eq_append_getElem (by simpa using hi)]
   simp [List.take_set_of_le]
  rw [e] at this
  exact this
theorem setCells_chg (w : World) (k : Nat) : ∀ (cs : List Value) (i : Nat) (w' : World), Chg [k] w w' → Chg [k] w (w'.setCells k i cs) := by
 intro cs
 induction cs with
 | nil => intro i w' h; exact h
 | cons c r ih => intro i w' h; exact ih (i + 1) _ (h.set (a := ⟨k, i, none⟩) (.inl (by simp)) c)
theorem Blk.there {w : World} {k : Nat} {l : List Value} {ty : Nat} (h : Blk w k l ty) : w.there k 0 l.length := fun j hj => by
 rw [Nat.zero_add]
 exact ⟨by rw [h.cell j _ (List.getElem?_eq_getElem hj)]; rfl, h.fz j⟩
theorem Blk.range {w : World} {k : Nat} {l : List Value} {ty : Nat} (h : Blk w k l ty) : w.rangeAt k 0 l := fun j v hv => by
 rw [Nat.zero_add]; exact h.cell j v hv
end Go.Proofs.Ytdgkpkdinfklaab
