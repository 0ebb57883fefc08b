import Derived.Test.YtnpkambjlfkhgaaGreatAccD
namespace Go.Proofs.YtnpkambjlfkhgaaGreat
open Go.RowKit

theorem accsV_get (l : List MK) (i : Nat) (m : MK) (h : l[i]? = some m) (j : Nat) (hj : j < 5) : (accsV l)[i * 5 + j]? = (accV m)[j]? := by
  induction l generalizing i with
  | nil => simp at h
  | cons y r ih =>
    have e : accsV (y :: r) = accV y ++ accsV r := by simp [accsV]
    have hl : (accV y).length = 5 := rfl
    cases i with
    | zero =>
      simp at h; subst h
      rw [e, List.getElem?_append_left (by omega)]; simp
    | succ i =>
      have := ih i (by simpa using h)
      rw [e, List.getElem?_append_right (by omega), ← this]
      congr 1
      omega

theorem accAt {w : World} {B g n cm : Nat} {l : List MK} (h : w.ownsRow B 47 5 (.slice (some ⟨g, 0, none⟩) n cm) n (accsV l)) (hn : n = l.length) (i : Nat) (m : MK) (hx : l[i]? = some m) (j : Nat) (hj : j < 5) (v : Value) (hv : (accV m)[j]? = some v) :
    w.cell? ⟨g, i * 5 + j, none⟩ = some v := by
  have hi : i < l.length := (List.getElem?_eq_some_iff.1 hx).1
  exact (h.cellAt (i * 5 + j) (by omega)).trans ((accsV_get l i m hx j hj).trans hv)

set_option maxHeartbeats 1600000 in
set_option maxRecDepth 100000 in
theorem same_any (Ba Bb : Nat) (xa xb : Option Addr) (ca cb n : Nat) (l : List MK) (w : World) (hn : n = l.length) (hlen : n ≤ 1000) (ha : w.ownsRow Ba 47 5 (.slice xa n ca) n (accsV l)) (hb : w.ownsRow Bb 47 5 (.slice xb n cb) n (accsV l)) :
    Calls Tryz.prog 29 #[.slice xa n ca, .slice xb n cb] w fun e w' => e = .returned (.bool true) ∧ ∃ k, w' = w.drewN k := by
  have HA : Hid (w.ownsRow Ba 47 5 (.slice xa n ca) n (accsV l)) := ha
  have HB : Hid (w.ownsRow Bb 47 5 (.slice xb n cb) n (accsV l)) := hb
  have HN : Hid (n = l.length) := hn
  clear ha hb hn
  go_enter Tryz.func29, Tryz.ntmps29
  go_wp2
  go_loopw [5] (fun i wr => ∃ k q : Nat, k ≤ n ∧ i = .int .i64 k ∧ wr = w.drewN q) (fun i _ => n - (intOf i).toNat)
  case atStart => exact ⟨0, 0, Nat.zero_le _, rfl, rfl⟩
  case round =>
    obtain ⟨k, q, hk, rfl, rfl⟩ := hrel
    by_cases hlt : k < n
    · obtain ⟨m, hm⟩ : ∃ m, l[k]? = some m := ⟨l[k]'(by rw [← HN.out]; exact hlt), List.getElem?_eq_getElem _⟩
      obtain ⟨ga, cap', hva, _, _⟩ := HA.out.form (by omega)
      obtain ⟨gb, cap'', hvb, _, _⟩ := HB.out.form (by omega)
      cases hva
      cases hvb
      have p0 := accAt HA.out HN.out k m hm 0 (by decide) _ rfl
      have p1 := accAt HA.out HN.out k m hm 1 (by decide) _ rfl
      have p2 := accAt HA.out HN.out k m hm 2 (by decide) _ rfl
      have p3 := accAt HA.out HN.out k m hm 3 (by decide) _ rfl
      have p4 := accAt HA.out HN.out k m hm 4 (by decide) _ rfl
      have q0 := accAt HB.out HN.out k m hm 0 (by decide) _ rfl
      have q1 := accAt HB.out HN.out k m hm 1 (by decide) _ rfl
      have q2 := accAt HB.out HN.out k m hm 2 (by decide) _ rfl
      have q3 := accAt HB.out HN.out k m hm 3 (by decide) _ rfl
      have q4 := accAt HB.out HN.out k m hm 4 (by decide) _ rfl
      rw [Nat.add_zero] at p0 q0
      clear hm
      obtain ⟨str, hstr⟩ : ∃ str : ByteArray, str = ⟨(nm (hOf m) 5).toArray⟩ := ⟨_, rfl⟩
      rw [← hstr] at p4 q4
      clear hstr
      go_wp2
      go_quiet (fail)
      go_wp2
      exact ⟨⟨k + 1, _, by omega, by go_num, rfl⟩, by simp [intOf]; omega⟩
    · go_wp2
      go_ret
      exact ⟨rfl, _, rfl⟩

/-- What the owner writes. -/
def bmV (k : Nat) : List Value := [.int .i64 (-1), .int .i64 k, .int .i64 0, .bool false, .string ⟨#[110, 111, 110, 101]⟩]
def bmsV (k c : Nat) : List Value := (List.replicate c (bmV k)).flatten

theorem bmsV_get (k c i j : Nat) (hi : i < c) (hj : j < 5) : (bmsV k c)[i * 5 + j]? = (bmV k)[j]? := by
  induction c generalizing i with
  | zero => omega
  | succ c ih =>
    have e : bmsV k (c + 1) = bmV k ++ bmsV k c := by simp [bmsV, List.replicate_succ]
    have hl : (bmV k).length = 5 := rfl
    cases i with
    | zero => rw [e, List.getElem?_append_left (by omega)]; simp
    | succ i =>
      have := ih i (by omega)
      rw [e, List.getElem?_append_right (by omega), ← this]
      congr 1
      omega

theorem bmsV_length (k c : Nat) : (bmsV k c).length = c * 5 := by
  induction c with
  | zero => simp [bmsV]
  | succ c ih =>
    have e : bmsV k (c + 1) = bmV k ++ bmsV k c := by simp [bmsV, List.replicate_succ]
    rw [e, List.length_append, ih]
    show 5 + c * 5 = _
    omega

theorem row_cap {w : World} {B e s n : Nat} {v : Value} {xs : List Value} (h : w.ownsRow B e s v n xs) : n ≤ maxLen := by
  rcases h.2 with ⟨_, hn⟩ | ⟨g, cap, cur, hv, _, _, h1, h2, _⟩
  · rw [hn]; exact Nat.zero_le _
  · omega

/-- The book with the lists of accesses that came out so far. -/
structure BK (w : World) (bk : Nat) (fs : List (Option Addr × Nat)) (aa : Option Addr) (ca : Nat) : Prop where
  lt : bk < w.heap.size
  c0 : w.cell? ⟨bk, 0, none⟩ = some (.slice none 0 0)
  c1 : w.cell? ⟨bk, 1, none⟩ = some (.slice aa fs.length ca)
  f1 : w.frozen? ⟨bk, 1, none⟩ = false
  row : w.ownsRow (bk + 1) 45 1 (.slice aa fs.length ca) fs.length (fs.map fun f => .slice f.1 f.2 f.2)
  each : ∀ k f, fs[k]? = some f → w.ownsRow (bk + 1) 47 5 (.slice f.1 f.2 f.2) f.2 (bmsV k f.2)

theorem BK.below {w w' : World} {bk : Nat} {fs aa ca} (h : BK w bk fs aa ca) (hb : Below w.heap.size w w') : BK w' bk fs aa ca :=
  ⟨by have := hb.size; have := h.lt; omega, (hb.cell (p := ⟨bk, 0, none⟩) h.lt).trans h.c0, (hb.cell (p := ⟨bk, 1, none⟩) h.lt).trans h.c1, (hb.frozen (p := ⟨bk, 1, none⟩) h.lt).trans h.f1, ownsRow_later h.row hb, fun k f hf => ownsRow_later (h.each k f hf) hb⟩

theorem BK.drewN {w : World} {bk : Nat} {fs aa ca} (h : BK w bk fs aa ca) (n : Nat) : BK (w.drewN n) bk fs aa ca := h.below ⟨rfl, rfl, rfl, Nat.le_refl _, fun _ _ => rfl⟩

set_option maxHeartbeats 3200000 in
set_option maxRecDepth 100000 in
theorem holds_book (bk : Nat) (fs : List (Option Addr × Nat)) (aa : Option Addr) (ca : Nat) (w : World) (h : BK w bk fs aa ca) (hfs : fs.length ≤ 140737488355328) :
    Calls Tryz.prog 9 #[.pointer (some ⟨bk, 0, none⟩)] w fun e w' => e = .returned (.bool true) ∧ Below w.heap.size w w' := by
  have HK : Hid (BK w bk fs aa ca) := h
  have c0 := h.c0
  clear h
  obtain ⟨n, hn⟩ : ∃ n, n = fs.length := ⟨_, rfl⟩
  have HN : Hid (n = fs.length) := hn
  rw [← hn] at hfs
  clear hn
  go_enter Tryz.func9, Tryz.ntmps9
  go_wp2
  refine wp_loop_rounds 1 ?_
  rw [rounds_succ]
  go_wp2
  go_loopw [6] (fun i wr => ∃ k : Nat, k ≤ n ∧ i = .int .i64 k ∧ Below w.heap.size w wr) (fun i _ => n - (intOf i).toNat)
  case atStart => exact ⟨0, Nat.zero_le _, rfl, Below.refl _ _⟩
  case round =>
    obtain ⟨k, hk, rfl, hbe⟩ := hrel
    have hK := HK.out.below hbe
    have d1 := hK.c1
    rw [← HN.out] at d1
    have hsz := hbe.size
    by_cases hlt : k < n
    · obtain ⟨⟨x, c⟩, hf⟩ : ∃ f, fs[k]? = some f := ⟨fs[k]'(by rw [← HN.out]; exact hlt), List.getElem?_eq_getElem _⟩
      obtain ⟨g, cap', hv, _, _⟩ := hK.row.form (by rw [← HN.out]; omega)
      have hrow := hK.row
      cases hv
      have qf : wr.cell? ⟨g, k, none⟩ = some (.slice x c c) := by
        rw [hrow.cellAt k (by rw [← HN.out]; omega)]
        simp [hf]
      have hone : wr.ownsRow (bk + 1) 47 5 (.slice x c c) c (bmsV k c) := hK.each k (x, c) hf
      have HE : Hid (wr.ownsRow (bk + 1) 47 5 (.slice x c c) c (bmsV k c)) := hone
      have hc := row_cap hone
      unfold maxLen at hc
      have HB : Hid (Below w.heap.size w wr) := hbe
      clear hf hK hrow hone hbe
      go_wp2
      go_loopw [9] (fun i w2 => ∃ j q : Nat, j ≤ c ∧ i = .int .i64 j ∧ w2 = (wr.alloc (.cells #[.int .i64 (-1), .int .i64 k, .int .i64 0, .bool false, .string ⟨#[110, 111, 110, 101]⟩] 47)).drewN q) (fun i _ => c - (intOf i).toNat)
      case atStart => exact ⟨0, 0, Nat.zero_le _, rfl, rfl⟩
      case round =>
        obtain ⟨j, q, hj, rfl, rfl⟩ := hrel
        by_cases hjc : j < c
        · obtain ⟨gb, cap2, hv2, _, hgb⟩ := HE.out.form (by omega)
          have hE := HE.out.alloc (.cells #[.int .i64 (-1), .int .i64 k, .int .i64 0, .bool false, .string ⟨#[110, 111, 110, 101]⟩] 47)
          cases hv2
          have z0 := (hE.cellAt (j * 5) (by omega)).trans (bmsV_get k c j 0 hjc (by decide))
          have z1 := (hE.cellAt (j * 5 + 1) (by omega)).trans (bmsV_get k c j 1 hjc (by decide))
          have z2 := (hE.cellAt (j * 5 + 2) (by omega)).trans (bmsV_get k c j 2 hjc (by decide))
          have z3 := (hE.cellAt (j * 5 + 3) (by omega)).trans (bmsV_get k c j 3 hjc (by decide))
          have z4 := (hE.cellAt (j * 5 + 4) (by omega)).trans (bmsV_get k c j 4 hjc (by decide))
          simp only [bmV] at z0 z1 z2 z3 z4
          simp only [List.getElem?_cons_zero, List.getElem?_cons_succ] at z0 z1 z2 z3 z4
          clear hE
          go_wp2
          go_quiet (fail)
          go_wp2
          exact ⟨⟨j + 1, _, by omega, by go_num, rfl⟩, by simp [intOf]; omega⟩
        · go_wp2
          exact ⟨⟨k + 1, by omega, by go_num, (HB.out.alloc hsz _).trans (below_drewN' _ _ _)⟩, by simp [intOf]; omega⟩
    · have HB : Hid (Below w.heap.size w wr) := hbe
      clear hK hbe
      go_wp2
      go_ret
      exact ⟨rfl, HB.out⟩

end Go.Proofs.YtnpkambjlfkhgaaGreat
