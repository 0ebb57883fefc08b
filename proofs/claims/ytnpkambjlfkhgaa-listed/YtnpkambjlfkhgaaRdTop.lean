import Derived.Test.YtnpkambjlfkhgaaRdPush
import Derived.Laws.ResultCell
namespace Go.Proofs.Ytnpkambjlfkhgaa
open Go.RowKit

/-- A result that lies in a cell. -/
theorem results_cell {fn : Func} {p : Tmp} {ty : TypeId} (h : fn.results = #[.cell p ty]) (tmps : Array Value) (P : Program) (w : World) :
    (results fn tmps).run P w = ((asAddr (tmps.getD p undef)).run P w).andThen fun a w₁ => (loadVar ty a).run P w₁ := by
  simp only [results, h]
  simp [Sem.run_bind]

/-- The row of what is open, written out where something is. -/
theorem RD.form {w b s pl th op mk ao co am cm} (h : RD w b s pl th op mk ao co am cm) (hn : 0 < op.length) : ∃ g, ao = some ⟨g, 0, none⟩ ∧ b < g := by
  obtain ⟨g, cap, hv, hb, _⟩ := h.ro.form hn
  cases hv
  exact ⟨g, rfl, by omega⟩

theorem opV_get (l : List OP) (i : Nat) (x : OP) (h : l[i]? = some x) : (opV l)[i * 3]? = some (.int .i64 x.1) ∧ (opV l)[i * 3 + 1]? = some (.int .i64 x.2.1) ∧ (opV l)[i * 3 + 2]? = some (.int .i64 x.2.2) := by
  induction l generalizing i with
  | nil => simp at h
  | cons y r ih =>
    cases i with
    | zero => simp at h; subst h; simp [opV]
    | succ i =>
      have := ih i (by simpa using h)
      rw [show (i + 1) * 3 = i * 3 + 3 by omega, show i * 3 + 3 + 1 = i * 3 + 1 + 3 by omega, show i * 3 + 3 + 2 = i * 3 + 2 + 3 by omega]
      simpa [opV] using this

theorem RD.openCell {w b s pl th op mk ao co am cm} (h : RD w b s pl th op mk ao co am cm) {g : Nat} (hg : ao = some ⟨g, 0, none⟩) (i : Nat) (x : OP) (hx : op[i]? = some x) :
    w.cell? ⟨g, i * 3, none⟩ = some (.int .i64 x.1) ∧ w.cell? ⟨g, i * 3 + 1, none⟩ = some (.int .i64 x.2.1) ∧ w.cell? ⟨g, i * 3 + 2, none⟩ = some (.int .i64 x.2.2) := by
  subst hg
  have hi : i < op.length := (List.getElem?_eq_some_iff.1 hx).1
  obtain ⟨e1, e2, e3⟩ := opV_get op i x hx
  exact ⟨(h.ro.cellAt (i * 3) (by omega)).trans e1, (h.ro.cellAt (i * 3 + 1) (by omega)).trans e2, (h.ro.cellAt (i * 3 + 2) (by omega)).trans e3⟩

/-- Stores above the reader's rows. -/
theorem RD.above {w b s pl th op mk ao co am cm} (h : RD w b s pl th op mk ao co am cm) (w' : World) (hb : Below w.heap.size w w') : RD w' b s pl th op mk ao co am cm := by
  have hlt := h.hb
  have hs := hb.size
  have C := fun i => hb.cell (p := ⟨b, i, none⟩) hlt
  refine ⟨by omega, (C 0).trans h.c0, (C 1).trans h.c1, (C 2).trans h.c2, (C 3).trans h.c3, (C 4).trans h.c4, fun i => (hb.frozen (p := ⟨b, i, none⟩) hlt).trans (h.fz i), ?_, ?_⟩
  · refine ⟨h.ro.1, ?_⟩
    rcases h.ro.2 with h0 | ⟨g, cap, cur, hv, hg, hh, r⟩
    · exact .inl h0
    · exact .inr ⟨g, cap, cur, hv, hg, by rw [hb.block g ((Array.getElem?_eq_some_iff.1 hh).1)]; exact hh, r⟩
  · refine ⟨h.rm.1, ?_⟩
    rcases h.rm.2 with h0 | ⟨g, cap, cur, hv, hg, hh, r⟩
    · exact .inl h0
    · exact .inr ⟨g, cap, cur, hv, hg, by rw [hb.block g ((Array.getElem?_eq_some_iff.1 hh).1)]; exact hh, r⟩

set_option maxHeartbeats 800000 in
set_option maxRecDepth 100000 in
theorem top_none (b : Nat) (s : ByteArray) (pl : Nat) (th : Int) (mk : List ST) (ao co am cm) (w : World) (h : RD w b s pl th [] mk ao co am cm) :
    Calls Try.prog 55 #[.pointer (some ⟨b, 0, none⟩)] w fun e w' => e = .returned (.agg #[.int .i64 0, .int .i64 (-1), .int .i64 0]) ∧ Below w.heap.size w w' := by
  have hb := h.hb
  have c3 := h.c3
  simp only [List.length_nil] at c3
  clear h
  have BE : Hid (∀ o, Below w.heap.size w (w.alloc o)) := fun o => (Below.refl _ w).alloc (Nat.le_refl _) _
  go_enter Try.func55, Try.ntmps55
  go_wp2
  (try simp only [Exit.inBlock, Exit.then])
  refine bodyPost_ret (v := .agg #[.int .i64 0, .int .i64 (-1), .int .i64 0]) ?_ rfl ⟨rfl, BE.out _⟩
  rw [results_cell rfl]
  go_simp

set_option maxHeartbeats 800000 in
set_option maxRecDepth 100000 in
theorem top_some (b : Nat) (s : ByteArray) (pl : Nat) (th : Int) (op : List OP) (x : OP) (mk : List ST) (ao co am cm) (w : World) (h : RD w b s pl th (op ++ [x]) mk ao co am cm) (hn : op.length ≤ 1000) :
    Calls Try.prog 55 #[.pointer (some ⟨b, 0, none⟩)] w fun e w' => e = .returned (.agg #[.int .i64 x.1, .int .i64 x.2.1, .int .i64 x.2.2]) ∧ Below w.heap.size w w' := by
  have hb := h.hb
  have c3 := h.c3
  obtain ⟨g, rfl, hbg⟩ := h.form (by simp)
  obtain ⟨q0, q1, q2⟩ := h.openCell rfl op.length x (by simp)
  have hgs : g < w.heap.size := (h.ro.lt g rfl).2
  rw [List.length_append, List.length_singleton] at c3
  obtain ⟨n, hnn⟩ : ∃ n, n = op.length := ⟨_, rfl⟩
  rw [← hnn] at c3 q0 q1 q2 hn
  clear h hnn
  have e0 : (((n + 1 : Nat) : Int) == 0) = false := by rw [beq_eq_false_iff_ne]; omega
  have BE : Hid (∀ o, Below w.heap.size w (w.alloc o)) := fun o => (Below.refl _ w).alloc (Nat.le_refl _) _
  obtain ⟨x0, x1, x2⟩ := x
  simp only at q0 q1 q2 ⊢
  go_enter Try.func55, Try.ntmps55
  go_wp2
  go_region
  all_goals
    go_wp2
    (try simp only [Exit.inBlock, Exit.then])
    refine bodyPost_ret (v := .agg #[.int .i64 x0, .int .i64 x1, .int .i64 x2]) ?_ rfl ⟨rfl, ?_⟩
  all_goals first
    | (rw [results_cell rfl]; go_simp)
    | exact (BE.out _).drew

set_option maxHeartbeats 800000 in
set_option maxRecDepth 100000 in
theorem pop_some (b : Nat) (s : ByteArray) (pl : Nat) (th : Int) (op : List OP) (x : OP) (mk : List ST) (ao co am cm) (w : World) (h : RD w b s pl th (op ++ [x]) mk ao co am cm) (hn : op.length ≤ 1000) :
    Calls Try.prog 56 #[.pointer (some ⟨b, 0, none⟩)] w fun e w' => e = .returned (.tuple #[]) ∧ (∃ ao' co', RD w' b s pl th op mk ao' co' am cm) ∧ Below b w w' ∧ Kp b w w' := by
  have c3 := h.c3
  have hb := h.hb
  have f3 := h.fz 3
  obtain ⟨g, rfl, hbg⟩ := h.form (by simp)
  have R : Hid (RD (w.setCell ⟨b, 3, none⟩ (.slice (some ⟨g, 0, none⟩) op.length co)) b s pl th op mk (some ⟨g, 0, none⟩) co am cm) := by
    refine RD.opens h.hb h.c0 h.c1 h.c2 h.c3 h.c4 h.fz ?_ h.rm
    have := h.ro
    rw [opV_append, List.length_append] at this
    exact ownsRow_pop (opV_length op) this
  have hcap : op.length + 1 ≤ co := by
    rcases h.ro.2 with ⟨h', _⟩ | ⟨g', cap', cur, h', _, _, hnc, _⟩
    · cases h'
    · cases h'; simpa using hnc
  rw [List.length_append, List.length_singleton] at c3
  obtain ⟨n, hnn⟩ : ∃ n, n = op.length := ⟨_, rfl⟩
  rw [← hnn] at c3 hn R hcap
  clear h hnn
  go_enter Try.func56, Try.ntmps56
  go_wp2
  go_region
  all_goals (go_wp2; go_end0)
  all_goals exact ⟨rfl, ⟨_, _, R.out.drew⟩, ((Below.refl b w).setCell (p := ⟨b, 3, none⟩) (Nat.le_refl _) _).drew, ((Kp.refl b w).low _).drew⟩

end Go.Proofs.Ytnpkambjlfkhgaa
