import Derived.Test.YtnpkambjlfkhgaaProg
import Derived.Test.YtnpkambjlfkhgaaStA
import Derived.WalkKit
import Derived.WalkSpells
import Derived.WalkLawsBesides
import Derived.Deep.AppendLies
import Derived.Deep.QuietTactic
import Derived.BigQuiet
import Derived.RegionTactic
namespace Go.Proofs.Ytnpkambjlfkhgaa
open Go.RowKit

def stV (m : ST) : List Value := [.int .i64 m.kind, .int .i64 m.place, .int .i64 m.thread, .int .i64 m.num, .bool m.mend, .int .i64 m.nx, .int .i64 m.el, .bool m.h0, .bool m.h1, .bool m.h2, .bool m.h3, .bool m.h4]
def stsV (l : List ST) : List Value := l.flatMap stV
def opV (l : List OP) : List Value := l.flatMap fun x => [.int .i64 x.1, .int .i64 x.2.1, .int .i64 x.2.2]

theorem opV_append (a b : List OP) : opV (a ++ b) = opV a ++ opV b := by simp [opV]
theorem stsV_append (a b : List ST) : stsV (a ++ b) = stsV a ++ stsV b := by simp [stsV]
theorem opV_length (a : List OP) : (opV a).length = a.length * 3 := by
  induction a with
  | nil => rfl
  | cons x r ih => simp [opV] at ih ⊢; omega
theorem stsV_length (a : List ST) : (stsV a).length = a.length * 12 := by
  induction a with
  | nil => rfl
  | cons x r ih => simp [stsV, stV] at ih ⊢; omega

/-- The reader in block b: its text, place, thread; what is open (the innermost last) and the steps, in rows of the call's own. -/
structure RD (w : World) (b : Nat) (s : ByteArray) (pl : Nat) (th : Int) (op : List OP) (mk : List ST) (ao : Option Addr) (co : Nat) (am : Option Addr) (cm : Nat) : Prop where
  hb : b < w.heap.size
  c0 : w.cell? ⟨b, 0, none⟩ = some (.string s)
  c1 : w.cell? ⟨b, 1, none⟩ = some (.int .i64 pl)
  c2 : w.cell? ⟨b, 2, none⟩ = some (.int .i64 th)
  c3 : w.cell? ⟨b, 3, none⟩ = some (.slice ao op.length co)
  c4 : w.cell? ⟨b, 4, none⟩ = some (.slice am mk.length cm)
  fz : ∀ i, w.frozen? ⟨b, i, none⟩ = false
  ro : w.ownsRow (b + 1) 87 3 (.slice ao op.length co) op.length (opV op)
  rm : w.ownsRow (b + 1) 64 12 (.slice am mk.length cm) mk.length (stsV mk)

theorem RD.drew {w b s pl th op mk ao co am cm} (h : RD w b s pl th op mk ao co am cm) : RD w.drew b s pl th op mk ao co am cm :=
  ⟨h.hb, h.c0, h.c1, h.c2, h.c3, h.c4, h.fz, h.ro, h.rm⟩

theorem RD.drewN {w b s pl th op mk ao co am cm} (h : RD w b s pl th op mk ao co am cm) (n : Nat) : RD (w.drewN n) b s pl th op mk ao co am cm :=
  ⟨h.hb, h.c0, h.c1, h.c2, h.c3, h.c4, h.fz, h.ro, h.rm⟩

theorem RD.alloc {w b s pl th op mk ao co am cm} (h : RD w b s pl th op mk ao co am cm) (o : Obj) : RD (w.alloc o) b s pl th op mk ao co am cm :=
  have hb := h.hb
  ⟨by simp; omega, (World.cell?_alloc_past _ _ _ hb).trans h.c0, (World.cell?_alloc_past _ _ _ hb).trans h.c1, (World.cell?_alloc_past _ _ _ hb).trans h.c2, (World.cell?_alloc_past _ _ _ hb).trans h.c3, (World.cell?_alloc_past _ _ _ hb).trans h.c4,
    fun i => (World.frozen?_alloc_past _ _ _ hb).trans (h.fz i), h.ro.alloc o, h.rm.alloc o⟩

theorem cell_same {w : World} {b i : Nat} {v u : Value} (h : w.cell? ⟨b, i, none⟩ = some v) : (w.setCell ⟨b, i, none⟩ u).cell? ⟨b, i, none⟩ = some u := by
  go_simp

/-- A store into the reader's place. -/
theorem RD.place {w b s pl th op mk ao co am cm} (h : RD w b s pl th op mk ao co am cm) (q : Nat) : RD (w.setCell ⟨b, 1, none⟩ (.int .i64 q)) b s q th op mk ao co am cm := by
  obtain ⟨hb, c0, c1, c2, c3, c4, fz, ro, rm⟩ := h
  refine ⟨by simpa [World.setCell] using hb, by go_simp, cell_same c1, by go_simp, by go_simp, by go_simp, fun i => by have := fz i; go_simp, ownsRow_setCell_below ro (by simp) _, ownsRow_setCell_below rm (by simp) _⟩

theorem RD.thread {w b s pl th op mk ao co am cm} (h : RD w b s pl th op mk ao co am cm) (q : Int) : RD (w.setCell ⟨b, 2, none⟩ (.int .i64 q)) b s pl q op mk ao co am cm := by
  obtain ⟨hb, c0, c1, c2, c3, c4, fz, ro, rm⟩ := h
  refine ⟨by simpa [World.setCell] using hb, by go_simp, by go_simp, cell_same c2, by go_simp, by go_simp, fun i => by have := fz i; go_simp, ownsRow_setCell_below ro (by simp) _, ownsRow_setCell_below rm (by simp) _⟩

theorem below_drewN' (b : Nat) (w : World) (n : Nat) : Below b w (w.drewN n) := ⟨rfl, rfl, rfl, Nat.le_refl _, fun _ _ => rfl⟩

/-- The reader's state, as the plain functions have it. -/
def RR (w : World) (b : Nat) (s : ByteArray) (r : RT) : Prop := ∃ ao co am cm, RD w b s r.pl r.th r.op.reverse r.st ao co am cm

end Go.Proofs.Ytnpkambjlfkhgaa
