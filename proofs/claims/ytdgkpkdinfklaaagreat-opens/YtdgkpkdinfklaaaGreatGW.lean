import Derived.Test.YtdgkpkdinfklaaaGreatGG
namespace Go.Proofs.YtdgkpkdinfklaaaGreat
open Go.RowKit

theorem accsV_get (l : List MK) (i : Nat) (m : MK) (h : l[i]? = some m) (j : Nat) (hj : j < 5) : (accsV l)[i * 5 + j]? = (accV m)[j]? := by
  induction l generalizing i with
  | nil => simp at h
  | cons y r ih =>
    have e : accsV (y :: r) = accV y ++ accsV r := by simp [accsV]
    have hl : (accV y).length = 5 := rfl
    cases i with
    | zero =>
      simp at h; subst h
      rw [e, List.getElem?_append_left (by omega)]; simp
    | succ i =>
      have := ih i (by simpa using h)
      rw [e, List.getElem?_append_right (by omega), ← this]
      congr 1
      omega

theorem accAt {w : World} {B g n cm : Nat} {l : List MK} (h : w.ownsRow B 47 5 (.slice (some ⟨g, 0, none⟩) n cm) n (accsV l)) (hn : n = l.length) (i : Nat) (m : MK) (hx : l[i]? = some m) (j : Nat) (hj : j < 5) (v : Value) (hv : (accV m)[j]? = some v) :
    w.cell? ⟨g, i * 5 + j, none⟩ = some v := by
  have hi : i < l.length := (List.getElem?_eq_some_iff.1 hx).1
  exact (h.cellAt (i * 5 + j) (by omega)).trans ((accsV_get l i m hx j hj).trans hv)

set_option maxHeartbeats 1600000 in
set_option maxRecDepth 100000 in
theorem same_any (Ba Bb : Nat) (xa xb : Option Addr) (ca cb n : Nat) (l : List MK) (w : World) (hn : n = l.length) (hlen : n ≤ 1000) (ha : w.ownsRow Ba 47 5 (.slice xa n ca) n (accsV l)) (hb : w.ownsRow Bb 47 5 (.slice xb n cb) n (accsV l)) :
    Calls Tryz.prog 32 #[.slice xa n ca, .slice xb n cb] w fun e w' => e = .returned (.bool true) ∧ ∃ k, w' = w.drewN k := by
  have HA : Hid (w.ownsRow Ba 47 5 (.slice xa n ca) n (accsV l)) := ha
  have HB : Hid (w.ownsRow Bb 47 5 (.slice xb n cb) n (accsV l)) := hb
  have HN : Hid (n = l.length) := hn
  clear ha hb hn
  go_enter Tryz.func32, Tryz.ntmps32
  go_wp2
  go_loopw [5] (fun i wr => ∃ k q : Nat, k ≤ n ∧ i = .int .i64 k ∧ wr = w.drewN q) (fun i _ => n - (intOf i).toNat)
  case atStart => exact ⟨0, 0, Nat.zero_le _, rfl, rfl⟩
  case round =>
    obtain ⟨k, q, hk, rfl, rfl⟩ := hrel
    by_cases hlt : k < n
    · obtain ⟨m, hm⟩ : ∃ m, l[k]? = some m := ⟨l[k]'(by rw [← HN.out]; exact hlt), List.getElem?_eq_getElem _⟩
      obtain ⟨ga, cap', hva, _, _⟩ := HA.out.form (by omega)
      obtain ⟨gb, cap'', hvb, _, _⟩ := HB.out.form (by omega)
      cases hva
      cases hvb
      have p0 := accAt HA.out HN.out k m hm 0 (by decide) _ rfl
      have p1 := accAt HA.out HN.out k m hm 1 (by decide) _ rfl
      have p2 := accAt HA.out HN.out k m hm 2 (by decide) _ rfl
      have p3 := accAt HA.out HN.out k m hm 3 (by decide) _ rfl
      have p4 := accAt HA.out HN.out k m hm 4 (by decide) _ rfl
      have q0 := accAt HB.out HN.out k m hm 0 (by decide) _ rfl
      have q1 := accAt HB.out HN.out k m hm 1 (by decide) _ rfl
      have q2 := accAt HB.out HN.out k m hm 2 (by decide) _ rfl
      have q3 := accAt HB.out HN.out k m hm 3 (by decide) _ rfl
      have q4 := accAt HB.out HN.out k m hm 4 (by decide) _ rfl
      rw [Nat.add_zero] at p0 q0
      clear hm
      obtain ⟨str, hstr⟩ : ∃ str : ByteArray, str = ⟨(nm (hOf m) 5).toArray⟩ := ⟨_, rfl⟩
      rw [← hstr] at p4 q4
      clear hstr
      go_wp2
      go_quiet (fail)
      go_wp2
      exact ⟨⟨k + 1, _, by omega, by go_num, rfl⟩, by simp [intOf]; omega⟩
    · go_wp2
      go_ret
      exact ⟨rfl, _, rfl⟩

/-- What the owner writes. -/
def bmV (k : Nat) : List Value := [.int .i64 (-1), .int .i64 k, .int .i64 0, .bool false, .string ⟨#[110, 111, 110, 101]⟩]
def bmsV (k c : Nat) : List Value := (List.replicate c (bmV k)).flatten

theorem bmsV_get (k c i j : Nat) (hi : i < c) (hj : j < 5) : (bmsV k c)[i * 5 + j]? = (bmV k)[j]? := by
  induction c generalizing i with
  | zero => omega
  | succ c ih =>
    have e : bmsV k (c + 1) = bmV k ++ bmsV k c := by simp [bmsV, List.replicate_succ]
    have hl : (bmV k).length = 5 := rfl
    cases i with
    | zero => rw [e, List.getElem?_append_left (by omega)]; simp
    | succ i =>
      have := ih i (by omega)
      rw [e, List.getElem?_append_right (by omega), ← this]
      congr 1
      omega

theorem bmsV_length (k c : Nat) : (bmsV k c).length = c * 5 := by
  induction c with
  | zero => simp [bmsV]
  | succ c ih =>
    have e : bmsV k (c + 1) = bmV k ++ bmsV k c := by simp [bmsV, List.replicate_succ]
    rw [e, List.length_append, ih]
    show 5 + c * 5 = _
    omega

theorem row_cap {w : World} {B e s n : Nat} {v : Value} {xs : List Value} (h : w.ownsRow B e s v n xs) : n ≤ maxLen := by
  rcases h.2 with ⟨_, hn⟩ | ⟨g, cap, cur, hv, _, _, h1, h2, _⟩
  · rw [hn]; exact Nat.zero_le _
  · omega

/-- The book with the lists of accesses that came out so far. -/
structure BK (w : World) (bk : Nat) (fs : List (Option Addr × Nat)) (aa : Option Addr) (ca : Nat) : Prop where
  lt : bk < w.heap.size
  c0 : w.cell? ⟨bk, 0, none⟩ = some (.slice none 0 0)
  c1 : w.cell? ⟨bk, 1, none⟩ = some (.slice aa fs.length ca)
  f1 : w.frozen? ⟨bk, 1, none⟩ = false
  row : w.ownsRow (bk + 1) 45 1 (.slice aa fs.length ca) fs.length (fs.map fun f => .slice f.1 f.2 f.2)
  each : ∀ k f, fs[k]? = some f → w.ownsRow (bk + 1) 47 5 (.slice f.1 f.2 f.2) f.2 (bmsV k f.2)

theorem BK.below {w w' : World} {bk : Nat} {fs aa ca} (h : BK w bk fs aa ca) (hb : Below w.heap.size w w') : BK w' bk fs aa ca :=
  ⟨by have := hb.size; have := h.lt; omega, (hb.cell (p := ⟨bk, 0, none⟩) h.lt).trans h.c0, (hb.cell (p := ⟨bk, 1, none⟩) h.lt).trans h.c1, (hb.frozen (p := ⟨bk, 1, none⟩) h.lt).trans h.f1, ownsRow_later h.row hb, fun k f hf => ownsRow_later (h.each k f hf) hb⟩

theorem BK.drewN {w : World} {bk : Nat} {fs aa ca} (h : BK w bk fs aa ca) (n : Nat) : BK (w.drewN n) bk fs aa ca := h.below ⟨rfl, rfl, rfl, Nat.le_refl _, fun _ _ => rfl⟩

set_option maxHeartbeats 3200000 in
set_option maxRecDepth 100000 in
theorem holds_book (bk : Nat) (fs : List (Option Addr × Nat)) (aa : Option Addr) (ca : Nat) (w : World) (h : BK w bk fs aa ca) (hfs : fs.length ≤ 140737488355328) :
    Calls Tryz.prog 12 #[.pointer (some ⟨bk, 0, none⟩)] w fun e w' => e = .returned (.bool true) ∧ Below w.heap.size w w' := by
  have HK : Hid (BK w bk fs aa ca) := h
  have c0 := h.c0
  clear h
  obtain ⟨n, hn⟩ : ∃ n, n = fs.length := ⟨_, rfl⟩
  have HN : Hid (n = fs.length) := hn
  rw [← hn] at hfs
  clear hn
  go_enter Tryz.func12, Tryz.ntmps12
  go_wp2
  refine wp_loop_rounds 1 ?_
  rw [rounds_succ]
  go_wp2
  go_loopw [6] (fun i wr => ∃ k : Nat, k ≤ n ∧ i = .int .i64 k ∧ Below w.heap.size w wr) (fun i _ => n - (intOf i).toNat)
  case atStart => exact ⟨0, Nat.zero_le _, rfl, Below.refl _ _⟩
  case round =>
    obtain ⟨k, hk, rfl, hbe⟩ := hrel
    have hK := HK.out.below hbe
    have d1 := hK.c1
    rw [← HN.out] at d1
    have hsz := hbe.size
    by_cases hlt : k < n
    · obtain ⟨⟨x, c⟩, hf⟩ : ∃ f, fs[k]? = some f := ⟨fs[k]'(by rw [← HN.out]; exact hlt), List.getElem?_eq_getElem _⟩
      obtain ⟨g, cap', hv, _, _⟩ := hK.row.form (by rw [← HN.out]; omega)
      have hrow := hK.row
      cases hv
      have qf : wr.cell? ⟨g, k, none⟩ = some (.slice x c c) := by
        rw [hrow.cellAt k (by rw [← HN.out]; omega)]
        simp [hf]
      have hone : wr.ownsRow (bk + 1) 47 5 (.slice x c c) c (bmsV k c) := hK.each k (x, c) hf
      have HE : Hid (wr.ownsRow (bk + 1) 47 5 (.slice x c c) c (bmsV k c)) := hone
      have hc := row_cap hone
      unfold maxLen at hc
      have HB : Hid (Below w.heap.size w wr) := hbe
      clear hf hK hrow hone hbe
      go_wp2
      go_loopw [9] (fun i w2 => ∃ j q : Nat, j ≤ c ∧ i = .int .i64 j ∧ w2 = (wr.alloc (.cells #[.int .i64 (-1), .int .i64 k, .int .i64 0, .bool false, .string ⟨#[110, 111, 110, 101]⟩] 47)).drewN q) (fun i _ => c - (intOf i).toNat)
      case atStart => exact ⟨0, 0, Nat.zero_le _, rfl, rfl⟩
      case round =>
        obtain ⟨j, q, hj, rfl, rfl⟩ := hrel
        by_cases hjc : j < c
        · obtain ⟨gb, cap2, hv2, _, hgb⟩ := HE.out.form (by omega)
          have hE := HE.out.alloc (.cells #[.int .i64 (-1), .int .i64 k, .int .i64 0, .bool false, .string ⟨#[110, 111, 110, 101]⟩] 47)
          cases hv2
          have z0 := (hE.cellAt (j * 5) (by omega)).trans (bmsV_get k c j 0 hjc (by decide))
          have z1 := (hE.cellAt (j * 5 + 1) (by omega)).trans (bmsV_get k c j 1 hjc (by decide))
          have z2 := (hE.cellAt (j * 5 + 2) (by omega)).trans (bmsV_get k c j 2 hjc (by decide))
          have z3 := (hE.cellAt (j * 5 + 3) (by omega)).trans (bmsV_get k c j 3 hjc (by decide))
          have z4 := (hE.cellAt (j * 5 + 4) (by omega)).trans (bmsV_get k c j 4 hjc (by decide))
          simp only [bmV] at z0 z1 z2 z3 z4
          simp only [List.getElem?_cons_zero, List.getElem?_cons_succ] at z0 z1 z2 z3 z4
          clear hE
          go_wp2
          go_quiet (fail)
          go_wp2
          exact ⟨⟨j + 1, _, by omega, by go_num, rfl⟩, by simp [intOf]; omega⟩
        · go_wp2
          exact ⟨⟨k + 1, by omega, by go_num, (HB.out.alloc hsz _).trans (below_drewN' _ _ _)⟩, by simp [intOf]; omega⟩
    · have HB : Hid (Below w.heap.size w wr) := hbe
      clear hK hbe
      go_wp2
      go_ret
      exact ⟨rfl, HB.out⟩

end Go.Proofs.YtdgkpkdinfklaaaGreat

namespace Go.Proofs.YtdgkpkdinfklaaaGreat
open Go.RowKit

theorem Tryz.infoAccs : (Tryz.prog.info? 45).map (fun i => (i.zero, i.size, i.bytes)) = some (some (.slice none 0 0), 1, 24) := by kernel_rfl

/-- The first k elements of a row are written. -/
def Filled (xs : List Value) (N k : Nat) : Prop := ∀ i j, i < k → j < 5 → xs[i * 5 + j]? = (bmV N)[j]?

theorem filled_all {xs : List Value} {N c : Nat} (h : Filled xs N c) (hl : xs.length = c * 5) : xs = bmsV N c := by
  apply List.ext_getElem?
  intro q
  by_cases hq : q < c * 5
  · have e : q = (q / 5) * 5 + q % 5 := by omega
    rw [e, h (q / 5) (q % 5) (by omega) (by omega), bmsV_get N c (q / 5) (q % 5) (by omega) (by omega)]
  · rw [List.getElem?_eq_none (by omega), List.getElem?_eq_none (by rw [bmsV_length]; omega)]

theorem filled_step {xs : List Value} {N k c : Nat} (h : Filled xs N k) (hl : xs.length = c * 5) (hk : k < c) :
    Filled (((((xs.set (k * 5) (.int .i64 (-1))).set (k * 5 + 1) (.int .i64 N)).set (k * 5 + 2) (.int .i64 0)).set (k * 5 + 3) (.bool false)).set (k * 5 + 4) (.string ⟨#[110, 111, 110, 101]⟩)) N (k + 1) := by
  intro i j hi hj
  by_cases e : i = k
  · subst e
    have h6 : j = 0 ∨ j = 1 ∨ j = 2 ∨ j = 3 ∨ j = 4 := by omega
    rcases h6 with rfl | rfl | rfl | rfl | rfl
    all_goals simp [List.getElem?_set, bmV]; omega
  · rw [← h i j (by omega) hj]
    simp only [List.getElem?_set]
    rw [if_neg (by omega), if_neg (by omega), if_neg (by omega), if_neg (by omega), if_neg (by omega)]

/-- Stores into a row of accesses leave the book alone. -/
theorem BK.stored {w w' : World} {bk : Nat} {fs aa ca} (h : BK w bk fs aa ca) {g B : Nat} (hg : w.grownBy w' (some g)) (hB : bk < g) (hrow : ∀ k, (Value.slice aa fs.length ca).ownBlock = some k → k < B) (hfs : ∀ f ∈ fs, ∀ k, (Value.slice f.1 f.2 f.2).ownBlock = some k → k < B) (hgB : B ≤ g) : BK w' bk fs aa ca := by
  refine ⟨by have := hg.size; have := h.lt; omega, ?_, ?_, ?_, ?_, ?_⟩
  · exact (hg.cell_far ⟨bk, 0, none⟩ h.lt (by simp; omega)).trans h.c0
  · exact (hg.cell_far ⟨bk, 1, none⟩ h.lt (by simp; omega)).trans h.c1
  · exact (hg.frozen_far ⟨bk, 1, none⟩ h.lt (by simp; omega)).trans h.f1
  · refine h.row.kept hg ?_
    cases hv : (Value.slice aa fs.length ca).ownBlock with
    | none => exact .inl rfl
    | some q => right; have := hrow q hv; simp; omega
  · intro k f hf
    refine (h.each k f hf).kept hg ?_
    cases hv : (Value.slice f.1 f.2 f.2).ownBlock with
    | none => exact .inl rfl
    | some q => right; have := hfs f (List.mem_of_getElem? hf) q hv; simp; omega

theorem Below.trans_grown {b : Nat} {w w' : World} {g : Nat} (hg : w.grownBy w' (some g)) (hb : b ≤ g) (hs : b ≤ w.heap.size) : Below b w w' :=
  (Below.refl b w).grown hg hs (fun k hk => by cases hk; exact hb)

theorem grown_twice {a b c : World} {g : Nat} (h : a.grownBy b (some g)) (k : b.grownBy c (some g)) : a.grownBy c (some g) :=
  ⟨k.os.trans h.os, k.tape.trans h.tape, k.output.trans h.output, Nat.le_trans h.size k.size, fun i hi hne => (k.block i (by have := h.size; omega) hne).trans (h.block i hi hne)⟩

/-- Five stores into an element of a row. -/
theorem row_stored {w : World} {B g c : Nat} {xs : List Value} (k : Nat) (v0 v1 v2 v3 v4 : Value) (h : w.ownsRow B 47 5 (.slice (some ⟨g, 0, none⟩) c c) c xs) :
    (((((w.setCell ⟨g, k, none⟩ v0).setCell ⟨g, k + 1, none⟩ v1).setCell ⟨g, k + 2, none⟩ v2).setCell ⟨g, k + 3, none⟩ v3).setCell ⟨g, k + 4, none⟩ v4).ownsRow B 47 5 (.slice (some ⟨g, 0, none⟩) c c) c (((((xs.set k v0).set (k + 1) v1).set (k + 2) v2).set (k + 3) v3).set (k + 4) v4) ∧
    w.grownBy (((((w.setCell ⟨g, k, none⟩ v0).setCell ⟨g, k + 1, none⟩ v1).setCell ⟨g, k + 2, none⟩ v2).setCell ⟨g, k + 3, none⟩ v3).setCell ⟨g, k + 4, none⟩ v4) (some g) := by
  obtain ⟨a0, b0⟩ := h.stored k v0
  obtain ⟨a1, b1⟩ := a0.stored (k + 1) v1
  obtain ⟨a2, b2⟩ := a1.stored (k + 2) v2
  obtain ⟨a3, b3⟩ := a2.stored (k + 3) v3
  obtain ⟨a4, b4⟩ := a3.stored (k + 4) v4
  exact ⟨a4, grown_twice (grown_twice (grown_twice (grown_twice b0 b1) b2) b3) b4⟩

/-- A row up to its capacity. -/
theorem row_full {w : World} {B e size g n cap : Nat} {xs : List Value} (h : w.ownsRow B e size (.slice (some ⟨g, 0, none⟩) n cap) n xs) : ∃ ys : List Value, w.ownsRow B e size (.slice (some ⟨g, 0, none⟩) cap cap) cap ys ∧ n ≤ cap := by
  rcases h.2 with ⟨h0, _⟩ | ⟨g', cap', cur, hv, hg, hh, hn, hc, hs, _⟩
  · cases h0
  · cases hv
    exact ⟨cur.toList, ⟨by simpa using hs, .inr ⟨g, cap, cur, rfl, hg, hh, Nat.le_refl _, hc, hs, List.take_of_length_le (by simp [hs])⟩⟩, hn⟩

end Go.Proofs.YtdgkpkdinfklaaaGreat

namespace Go.Proofs.YtdgkpkdinfklaaaGreat
open Go.RowKit

theorem BK.added {W w1 : World} {bk : Nat} {fs : List (Option Addr × Nat)} {aa : Option Addr} {ca : Nat} {x : Option Addr} {c g cap : Nat} {o : Obj} (h : BK W bk fs aa ca)
    (hf : W.ownsRow (bk + 1) 47 5 (.slice x c c) c (bmsV fs.length c))
    (hown : w1.ownsRow (bk + 1) 45 1 (.slice (some ⟨g, 0, none⟩) (fs.length + 1) cap) (fs.length + 1) ((fs.map fun f => .slice f.1 f.2 f.2) ++ [.slice x c c]))
    (hgrow : (W.alloc o).grownBy w1 (Value.slice aa fs.length ca).ownBlock) :
    BK (w1.setCell ⟨bk, 1, none⟩ (.slice (some ⟨g, 0, none⟩) (fs.length + 1) cap)) bk (fs ++ [(x, c)]) (some ⟨g, 0, none⟩) cap := by
  have hlt := h.lt
  have hne : some bk ≠ (Value.slice aa fs.length ca).ownBlock := low_ne h.row
  have k0 := (hgrow.cell_far ⟨bk, 0, none⟩ (by simp; omega) hne).trans ((World.cell?_alloc_past _ _ _ hlt).trans h.c0)
  have k1 := (hgrow.cell_far ⟨bk, 1, none⟩ (by simp; omega) hne).trans ((World.cell?_alloc_past _ _ _ hlt).trans h.c1)
  have z1 := (hgrow.frozen_far ⟨bk, 1, none⟩ (by simp; omega) hne).trans ((World.frozen?_alloc_past _ _ _ hlt).trans h.f1)
  have hb1 : bk < w1.heap.size := by have := hgrow.size; simp at this; omega
  have hel : ∀ k f, (fs ++ [(x, c)])[k]? = some f → w1.ownsRow (bk + 1) 47 5 (.slice f.1 f.2 f.2) f.2 (bmsV k f.2) := by
    intro k f hk
    have hW : W.ownsRow (bk + 1) 47 5 (.slice f.1 f.2 f.2) f.2 (bmsV k f.2) := by
      by_cases hkl : k < fs.length
      · rw [List.getElem?_append_left hkl] at hk
        exact h.each k f hk
      · rw [List.getElem?_append_right (by omega)] at hk
        have hk0 : k - fs.length = 0 := by
          have := (List.getElem?_eq_some_iff.1 hk).1
          simp at this; omega
        rw [hk0] at hk
        simp at hk
        subst hk
        have : k = fs.length := by omega
        subst this
        exact hf
    exact (hW.alloc o).kept hgrow (rows_apart hW h.row (by decide))
  clear hgrow hf h
  refine ⟨by simpa [World.setCell] using hb1, by go_simp, ?_, by go_simp, ?_, ?_⟩
  · rw [List.length_append]; exact cell_same k1
  · rw [List.length_append, List.map_append]
    exact ownsRow_setCell_below hown (by simp) _
  · intro k f hk
    exact ownsRow_setCell_below (hel k f hk) (by simp) _

set_option maxHeartbeats 3200000 in
set_option maxRecDepth 100000 in
theorem keep_nil (bk : Nat) (fs : List (Option Addr × Nat)) (aa : Option Addr) (ca : Nat) (w : World) (h : BK w bk fs aa ca) (hb : (fs.length + 1) * 24 ≤ 140737488355328) :
    Calls Tryz.prog 33 #[.pointer (some ⟨bk, 0, none⟩), .slice none 0 0] w fun e w' => e = .returned (.tuple #[]) ∧ (∃ aa' ca', BK w' bk (fs ++ [(none, 0)]) aa' ca') ∧ Below bk w w' := by
  obtain ⟨i0, hi, hz0, hz1, hz2⟩ := info_parts Tryz.infoAccs
  have HK : Hid (BK w bk fs aa ca) := h
  have c1 := h.c1
  have f1 := h.f1
  have hlt := h.lt
  clear h
  obtain ⟨n, hn⟩ : ∃ n, n = fs.length := ⟨_, rfl⟩
  have HN : Hid (n = fs.length) := hn
  rw [← hn] at c1 hb
  have HR : Hid (w.ownsRow (bk + 1) 45 1 (.slice aa n ca) n (fs.map fun f => .slice f.1 f.2 f.2)) := by rw [hn]; exact HK.out.row
  clear hn
  go_enter Tryz.func33, Tryz.ntmps33
  go_wp2
  refine wp_loop_rounds 1 ?_
  rw [rounds_succ]
  go_wp2_with (at_builtin; refine wpList_append_lies _ (by rfl) (.tmp 29) (.tmp 31) 27 (by rfl) (bk + 1) 45 i0 _ 1 24 Tryz.underlying27 hi hz0 hz1 hz2 rfl (by decide) (.slice aa n ca) n (fs.map fun f => .slice f.1 f.2 f.2) (by rfl) (HR.out.alloc _) ⟨w.heap.size, 0, none⟩ 1 1 [.slice none 0 0] (by rfl) rfl ?hnews ?h1 (by decide) ?h63 ?hby ?hbase (w.heap.size + 1) ?hH ?next)
  case hnews => exact World.news_of_block (heap_alloc_new _ _)
  case h1 => intro u hu; simp at hu; subst hu; rfl
  case h63 => unfold maxLen; omega
  case hby => omega
  case hbase => simp; omega
  case hH => simp
  case next =>
    intro g cap w1 hown hgrow hat hlt1
    have nb : some bk ≠ (Value.slice aa n ca).ownBlock := low_ne HR.out
    have k1 := (hgrow.cell_far ⟨bk, 1, none⟩ (by simp; omega) nb).trans ((World.cell?_alloc_past _ _ _ hlt).trans c1)
    have z1 := (hgrow.frozen_far ⟨bk, 1, none⟩ (by simp; omega) nb).trans ((World.frozen?_alloc_past _ _ _ hlt).trans f1)
    have hbel : Hid (Below bk w w1) := ((Below.refl bk w).alloc (by omega) _).grown hgrow (by simp; omega) (fun q hq => by have := (HR.out.lt q hq).1; omega)
    have BB : Hid (BK (w1.setCell ⟨bk, 1, none⟩ (.slice (some ⟨g, 0, none⟩) (n + 1) cap)) bk (fs ++ [(none, 0)]) (some ⟨g, 0, none⟩) cap) := by
      show BK (w1.setCell ⟨bk, 1, none⟩ (.slice (some ⟨g, 0, none⟩) (n + 1) cap)) bk (fs ++ [(none, 0)]) (some ⟨g, 0, none⟩) cap
      rw [HN.out] at hown hgrow ⊢
      exact HK.out.added (World.ownsRow_nil _ _ _ _) hown hgrow
    clear hown hgrow hat nb
    go_wp2
    go_end0
    exact ⟨rfl, ⟨_, _, BB.out⟩, hbel.out.setCell (by simp) _⟩

set_option maxHeartbeats 3200000 in
set_option maxRecDepth 100000 in
theorem keep_some (bk B g n0 c : Nat) (xs : List Value) (fs : List (Option Addr × Nat)) (aa : Option Addr) (ca : Nat) (w : World) (h : BK w bk fs aa ca) (hb : (fs.length + 1) * 24 ≤ 140737488355328)
    (hl : w.ownsRow B 47 5 (.slice (some ⟨g, 0, none⟩) n0 c) n0 xs) (hB : bk < B) (hrB : ∀ k, (Value.slice aa fs.length ca).ownBlock = some k → k < B) (hfB : ∀ f ∈ fs, ∀ k, (Value.slice f.1 f.2 f.2).ownBlock = some k → k < B) :
    Calls Tryz.prog 33 #[.pointer (some ⟨bk, 0, none⟩), .slice (some ⟨g, 0, none⟩) n0 c] w fun e w' => e = .returned (.tuple #[]) ∧ (∃ aa' ca', BK w' bk (fs ++ [(some ⟨g, 0, none⟩, c)]) aa' ca') ∧ Below bk w w' := by
  obtain ⟨i0, hi, hz0, hz1, hz2⟩ := info_parts Tryz.infoAccs
  have HK : Hid (BK w bk fs aa ca) := h
  obtain ⟨ys, hys, hn0⟩ := row_full hl
  have hgB : B ≤ g := (hl.lt g rfl).1
  have hcm := row_cap hys
  unfold maxLen at hcm
  clear hl h
  have HRB : Hid (∀ k, (Value.slice aa fs.length ca).ownBlock = some k → k < B) := hrB
  have HFB : Hid (∀ f ∈ fs, ∀ k, (Value.slice f.1 f.2 f.2).ownBlock = some k → k < B) := hfB
  clear hrB hfB
  obtain ⟨n, hn⟩ : ∃ n, n = fs.length := ⟨_, rfl⟩
  have HN : Hid (n = fs.length) := hn
  rw [← hn] at hb
  have hn24 : n ≤ 140737488355328 := by omega
  clear hn
  have HYS : Hid (w.ownsRow B 47 5 (.slice (some ⟨g, 0, none⟩) c c) c ys) := hys
  clear hys
  go_enter Tryz.func33, Tryz.ntmps33
  go_wp2
  go_loopw [5] (fun i wr => ∃ (k : Nat) (zs : List Value), k ≤ c ∧ i = .int .i64 k ∧ wr.ownsRow B 47 5 (.slice (some ⟨g, 0, none⟩) c c) c zs ∧ Filled zs n k ∧ BK wr bk fs aa ca ∧ Below bk w wr) (fun i _ => c - (intOf i).toNat)
  case atStart => exact ⟨0, ys, Nat.zero_le _, rfl, HYS.out, fun i j hi => by omega, HK.out, Below.refl _ _⟩
  case round =>
    obtain ⟨k, zs, hk, rfl, hzs, hfill, hbk, hbe⟩ := hrel
    have c1 := hbk.c1
    have f1 := hbk.f1
    have hlt := hbk.lt
    rw [← HN.out] at c1
    by_cases hkc : k < c
    · have hzl : zs.length = c * 5 := hzs.1
      obtain ⟨e0, y0⟩ : ∃ v, wr.cell? ⟨g, k * 5, none⟩ = some v := ⟨_, (hzs.cellAt (k * 5) (by omega)).trans (List.getElem?_eq_getElem (by omega))⟩
      obtain ⟨e1, y1⟩ : ∃ v, wr.cell? ⟨g, k * 5 + 1, none⟩ = some v := ⟨_, (hzs.cellAt (k * 5 + 1) (by omega)).trans (List.getElem?_eq_getElem (by omega))⟩
      obtain ⟨e2, y2⟩ : ∃ v, wr.cell? ⟨g, k * 5 + 2, none⟩ = some v := ⟨_, (hzs.cellAt (k * 5 + 2) (by omega)).trans (List.getElem?_eq_getElem (by omega))⟩
      obtain ⟨e3, y3⟩ : ∃ v, wr.cell? ⟨g, k * 5 + 3, none⟩ = some v := ⟨_, (hzs.cellAt (k * 5 + 3) (by omega)).trans (List.getElem?_eq_getElem (by omega))⟩
      obtain ⟨e4, y4⟩ : ∃ v, wr.cell? ⟨g, k * 5 + 4, none⟩ = some v := ⟨_, (hzs.cellAt (k * 5 + 4) (by omega)).trans (List.getElem?_eq_getElem (by omega))⟩
      have x0 := hzs.frozenAt (k * 5)
      have x1 := hzs.frozenAt (k * 5 + 1)
      have x2 := hzs.frozenAt (k * 5 + 2)
      have x3 := hzs.frozenAt (k * 5 + 3)
      have x4 := hzs.frozenAt (k * 5 + 4)
      obtain ⟨st, gr⟩ := row_stored (k * 5) (.int .i64 (-1)) (.int .i64 n) (.int .i64 0) (.bool false) (.string ⟨#[110, 111, 110, 101]⟩) hzs
      have hbk2 := hbk.stored gr (by omega) HRB.out HFB.out hgB
      have hbe2 := hbe.trans (Below.trans_grown gr (show bk ≤ g by omega) (by omega))
      have hf2 := filled_step (N := n) hfill hzl hkc
      have ST : Hid (_ ∧ _) := ⟨st, hf2⟩
      have BK2 : Hid (_ ∧ _) := ⟨hbk2, hbe2⟩
      clear st gr hbk2 hbe2 hf2 hzs hfill hbk hbe hzl
      go_wp2
      exact ⟨⟨k + 1, _, by omega, by go_num, ST.out.1, ST.out.2, BK2.out.1, BK2.out.2⟩, by simp [intOf]; omega⟩
    · have hkc' : k = c := by omega
      subst hkc'
      have hzz := filled_all hfill hzs.1
      have HF : Hid (wr.ownsRow (bk + 1) 47 5 (.slice (some ⟨g, 0, none⟩) k k) k (bmsV fs.length k)) := by
        show wr.ownsRow (bk + 1) 47 5 (.slice (some ⟨g, 0, none⟩) k k) k (bmsV fs.length k)
        rw [← HN.out, ← hzz]
        exact ownsRow_lower hzs (by omega)
      have HBK : Hid (BK wr bk fs aa ca) := hbk
      have HBE : Hid (Below bk w wr) := hbe
      have HR : Hid (wr.ownsRow (bk + 1) 45 1 (.slice aa n ca) n (fs.map fun f => .slice f.1 f.2 f.2)) := by
        show wr.ownsRow (bk + 1) 45 1 (.slice aa n ca) n (fs.map fun f => .slice f.1 f.2 f.2)
        rw [HN.out]; exact hbk.row
      clear hzz hzs hfill hbk hbe
      go_wp2_with (at_builtin; refine wpList_append_lies _ (by rfl) (.tmp 29) (.tmp 31) 27 (by rfl) (bk + 1) 45 i0 _ 1 24 Tryz.underlying27 hi hz0 hz1 hz2 rfl (by decide) (.slice aa n ca) n (fs.map fun f => .slice f.1 f.2 f.2) (by rfl) (HR.out.alloc _) ⟨wr.heap.size, 0, none⟩ 1 1 [.slice (some ⟨g, 0, none⟩) k k] (by rfl) rfl ?hnews ?h1 (by decide) ?h63 ?hby ?hbase (wr.heap.size + 1) ?hH ?next)
      case hnews => exact World.news_of_block (heap_alloc_new _ _)
      case h1 => intro u hu; simp at hu; subst hu; rfl
      case h63 => unfold maxLen; omega
      case hby => omega
      case hbase => simp; omega
      case hH => simp
      case next =>
        intro g2 cap w1 hown hgrow hat hlt1
        have nb : some bk ≠ (Value.slice aa n ca).ownBlock := low_ne HR.out
        have k1 := (hgrow.cell_far ⟨bk, 1, none⟩ (by simp; omega) nb).trans ((World.cell?_alloc_past _ _ _ hlt).trans c1)
        have z1 := (hgrow.frozen_far ⟨bk, 1, none⟩ (by simp; omega) nb).trans ((World.frozen?_alloc_past _ _ _ hlt).trans f1)
        have hbel : Hid (Below bk w w1) := (HBE.out.alloc (by omega) _).grown hgrow (by simp; omega) (fun q hq => by have := (HR.out.lt q hq).1; omega)
        have BB : Hid (BK (w1.setCell ⟨bk, 1, none⟩ (.slice (some ⟨g2, 0, none⟩) (n + 1) cap)) bk (fs ++ [(some ⟨g, 0, none⟩, k)]) (some ⟨g2, 0, none⟩) cap) := by
          show BK (w1.setCell ⟨bk, 1, none⟩ (.slice (some ⟨g2, 0, none⟩) (n + 1) cap)) bk (fs ++ [(some ⟨g, 0, none⟩, k)]) (some ⟨g2, 0, none⟩) cap
          rw [HN.out] at hown hgrow ⊢
          exact HBK.out.added HF.out hown hgrow
        clear hown hgrow hat nb
        go_wp2
        go_end0
        exact ⟨rfl, ⟨_, _, BB.out⟩, hbel.out.setCell (by simp) _⟩

end Go.Proofs.YtdgkpkdinfklaaaGreat
