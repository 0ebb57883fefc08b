import Derived.Test.YtendlbciojgooaaRdPush
namespace Go.Proofs.Ytendlbciojgooaa
open Go.RowKit

/-- The row of what is open, written out where something is. -/
theorem RD.form {w b s pl th op mk ao co am cm} (h : RD w b s pl th op mk ao co am cm) (hn : 0 < op.length) : ∃ g, ao = some ⟨g, 0, none⟩ ∧ b < g := by
  obtain ⟨g, cap, hv, hb, _⟩ := h.ro.form hn
  cases hv
  exact ⟨g, rfl, by omega⟩

theorem opV_get (l : List (Int × Int)) (i : Nat) (x : Int × Int) (h : l[i]? = some x) : (opV l)[i * 2]? = some (.int .i64 x.1) ∧ (opV l)[i * 2 + 1]? = some (.int .i64 x.2) := by
  induction l generalizing i with
  | nil => simp at h
  | cons y r ih =>
    cases i with
    | zero => simp at h; subst h; simp [opV]
    | succ i =>
      have := ih i (by simpa using h)
      rw [show (i + 1) * 2 = i * 2 + 2 by omega, show i * 2 + 2 + 1 = i * 2 + 1 + 2 by omega]
      simpa [opV] using this

theorem RD.openCell {w b s pl th op mk ao co am cm} (h : RD w b s pl th op mk ao co am cm) {g : Nat} (hg : ao = some ⟨g, 0, none⟩) (i : Nat) (x : Int × Int) (hx : op[i]? = some x) :
    w.cell? ⟨g, i * 2, none⟩ = some (.int .i64 x.1) ∧ w.cell? ⟨g, i * 2 + 1, none⟩ = some (.int .i64 x.2) := by
  subst hg
  have hi : i < op.length := (List.getElem?_eq_some_iff.1 hx).1
  obtain ⟨e1, e2⟩ := opV_get op i x hx
  exact ⟨(h.ro.cellAt (i * 2) (by omega)).trans e1, (h.ro.cellAt (i * 2 + 1) (by omega)).trans e2⟩

set_option maxHeartbeats 800000 in
set_option maxRecDepth 100000 in
theorem top_none (b : Nat) (s : ByteArray) (pl : Nat) (th : Int) (mk : List MK) (ao co am cm) (w : World) (h : RD w b s pl th [] mk ao co am cm) :
    Calls Try.prog 85 #[.pointer (some ⟨b, 0, none⟩)] w fun e w' => e = .returned (.int .i64 0) ∧ w' = w := by
  have c3 := h.c3
  simp only [List.length_nil] at c3
  clear h
  go_enter Try.func85, Try.ntmps85
  go_wp2
  go_ret
  exact ⟨rfl, rfl⟩

set_option maxHeartbeats 800000 in
set_option maxRecDepth 100000 in
theorem top_some (b : Nat) (s : ByteArray) (pl : Nat) (th : Int) (op : List (Int × Int)) (x : Int × Int) (mk : List MK) (ao co am cm) (w : World) (h : RD w b s pl th (op ++ [x]) mk ao co am cm) (hn : op.length ≤ 1000) :
    Calls Try.prog 85 #[.pointer (some ⟨b, 0, none⟩)] w fun e w' => e = .returned (.int .i64 x.1) ∧ ∃ n, w' = w.drewN n := by
  have c3 := h.c3
  obtain ⟨g, rfl, hbg⟩ := h.form (by simp)
  have hc := (h.openCell rfl op.length x (by simp)).1
  rw [List.length_append, List.length_singleton] at c3
  obtain ⟨n, hnn⟩ : ∃ n, n = op.length := ⟨_, rfl⟩
  rw [← hnn] at c3 hc hn
  clear h hnn
  have e0 : (((n + 1 : Nat) : Int) == 0) = false := by rw [beq_eq_false_iff_ne]; omega
  go_enter Try.func85, Try.ntmps85
  go_wp2
  go_quiet (fail)
  go_wp2
  go_ret
  exact ⟨rfl, _, rfl⟩

set_option maxHeartbeats 800000 in
set_option maxRecDepth 100000 in
theorem pop_some (b : Nat) (s : ByteArray) (pl : Nat) (th : Int) (op : List (Int × Int)) (x : Int × Int) (mk : List MK) (ao co am cm) (w : World) (h : RD w b s pl th (op ++ [x]) mk ao co am cm) (hn : op.length ≤ 1000) :
    Calls Try.prog 86 #[.pointer (some ⟨b, 0, none⟩)] w fun e w' => e = .returned (.tuple #[]) ∧ (∃ ao' co', RD w' b s pl th op mk ao' co' am cm) ∧ Below b w w' := by
  have c3 := h.c3
  have hb := h.hb
  have f3 := h.fz 3
  obtain ⟨g, rfl, hbg⟩ := h.form (by simp)
  have R : Hid (RD (w.setCell ⟨b, 3, none⟩ (.slice (some ⟨g, 0, none⟩) op.length co)) b s pl th op mk (some ⟨g, 0, none⟩) co am cm) := by
    refine RD.opens h.hb h.c0 h.c1 h.c2 h.c3 h.c4 h.fz ?_ h.rm
    have := h.ro
    rw [opV_append, List.length_append] at this
    exact ownsRow_pop (opV_length op) this
  have hcap : op.length + 1 ≤ co := by
    rcases h.ro.2 with ⟨h', _⟩ | ⟨g', cap', cur, h', _, _, hnc, _⟩
    · cases h'
    · cases h'; simpa using hnc
  rw [List.length_append, List.length_singleton] at c3
  obtain ⟨n, hnn⟩ : ∃ n, n = op.length := ⟨_, rfl⟩
  rw [← hnn] at c3 hn R hcap
  clear h hnn
  go_enter Try.func86, Try.ntmps86
  go_wp2
  go_region
  all_goals (go_wp2; go_end0)
  all_goals exact ⟨rfl, ⟨_, _, R.out.drew⟩, ((Below.refl b w).setCell (p := ⟨b, 3, none⟩) (Nat.le_refl _) _).drew⟩

end Go.Proofs.Ytendlbciojgooaa
