import Derived.Test.YtdgkpkdinfklaaaGTA
namespace Go.Proofs.Ytdgkpkdinfklaaa

/-! The first thread behind all others. -/

def rotL {α : Type} : List α → List α
  | [] => []
  | a :: r => r ++ [a]
def turnI (n i : Nat) : Nat := if i = 0 then n - 1 else i - 1

theorem turnI_lt {n i : Nat} (h : i < n) : turnI n i < n := by unfold turnI; split <;> omega
theorem turnI_inj {n i j : Nat} (h : i < n) (g : j < n) (e : turnI n i = turnI n j) : i = j := by
  unfold turnI at e
  split at e <;> split at e <;> omega
theorem rotL_length {α : Type} (l : List α) : (rotL l).length = l.length := by cases l <;> simp [rotL]
theorem rotL_at {α : Type} {l : List α} {i : Nat} (h : i < l.length) : (rotL l)[turnI l.length i]? = l[i]? := by
  cases l with
  | nil => cases h
  | cons a r =>
    unfold turnI rotL
    cases i with
    | zero => simp
    | succ i =>
      have hi : i < r.length := by simpa using h
      rw [if_neg (by omega), List.getElem?_append_left (by omega)]
      simp
theorem rotL_set {α : Type} {l : List α} {i : Nat} (h : i < l.length) (x : α) : rotL (l.set i x) = (rotL l).set (turnI l.length i) x := by
  cases l with
  | nil => cases h
  | cons a r =>
    unfold turnI
    cases i with
    | zero => simp [rotL]
    | succ i =>
      have hi : i < r.length := by simpa using h
      rw [if_neg (by omega)]
      show r.set i x ++ [a] = (r ++ [a]).set (i + 1 - 1) x
      rw [Nat.add_sub_cancel, List.set_append_left _ _ hi]
theorem rotL_map {α β : Type} (f : α → β) (l : List α) : rotL (l.map f) = (rotL l).map f := by cases l <;> simp [rotL]
theorem rotL_mem {α : Type} {l : List α} {x : α} : x ∈ rotL l ↔ x ∈ l := by
  cases l with
  | nil => exact Iff.rfl
  | cons a r => simp [rotL, or_comm]
/-- Each place of the turned list is one of the first. -/
theorem turnI_onto {n j : Nat} (h : j < n) : ∃ i, i < n ∧ turnI n i = j := by
  by_cases e : j = n - 1
  · exact ⟨0, by omega, by unfold turnI; rw [if_pos rfl]; exact e.symm⟩
  · exact ⟨j + 1, by omega, by unfold turnI; rw [if_neg (by omega)]; omega⟩

end Go.Proofs.Ytdgkpkdinfklaaa

namespace Go.Proofs.Ytdgkpkdinfklaaa

/-- A thread's number where the threads are turned (none: -1). -/
def turnH (n : Nat) (x : Int) : Int := if x < 0 then -1 else (turnI n x.toNat : Int)

theorem HoldR.rot {held : List (List UInt8)} {x : Int} {l : UInt8} (h : HoldR held x l) : HoldR (rotL held) (turnH held.length (x - 1) + 1) l := by
  rcases h with ⟨rfl, h⟩ | ⟨i, a, hi, rfl, ha, ho⟩
  · left
    refine ⟨rfl, fun y hy => h y (rotL_mem.1 hy)⟩
  · right
    have hlt := (List.getElem?_eq_some_iff.1 hi).1
    refine ⟨turnI held.length i, a, by rw [rotL_at hlt]; exact hi, ?_, ha, fun j b hj hne => ?_⟩
    · unfold turnH
      rw [if_neg (by omega), show ((i : Int) + 1 - 1).toNat = i by omega]
    · have hjl : j < held.length := by rw [← rotL_length held]; exact (List.getElem?_eq_some_iff.1 hj).1
      obtain ⟨k, hk, rfl⟩ := turnI_onto hjl
      rw [rotL_at hk] at hj
      exact ho k b hj fun e => hne (by rw [e])

theorem HoldR.rotHolder {held : List (List UInt8)} {x : Int} {l : UInt8} (h : HoldR held x l) : holderP (rotL held) l = turnH held.length (holderP held l) := by
  rw [h.rot.holder, h.holder]; omega

/-- The run with the threads turned. -/
def PS.turn (P : PS) : PS := ⟨rotL P.todo, rotL P.held, rotL P.regs, P.gl, P.pr, P.st.map fun a => { a with thread := turnH P.todo.length a.thread }⟩

theorem getD_rot {α : Type} {l : List α} {i : Nat} (h : i < l.length) (d : α) : (rotL l).getD (turnI l.length i) d = l.getD i d := by
  rw [List.getD_eq_getElem?_getD, rotL_at h, ← List.getD_eq_getElem?_getD]

end Go.Proofs.Ytdgkpkdinfklaaa

namespace Go.Proofs.Ytdgkpkdinfklaaa

/-- A step of the turned run. -/
theorem does_turn {P : PS} {i : Nat} (hn : i < P.todo.length) (hh : P.held.length = P.todo.length) (hr : P.regs.length = P.todo.length) : P.turn.does (turnI P.todo.length i) = ((P.does i).1.turn, (P.does i).2) := by
  have e1 : P.turn.todo.getD (turnI P.todo.length i) [] = P.todo.getD i [] := getD_rot hn []
  have e2 : P.turn.regs.getD (turnI P.todo.length i) 0 = P.regs.getD i 0 := by rw [← hr]; exact getD_rot (by omega) 0
  have e3 : P.turn.held.getD (turnI P.todo.length i) [] = P.held.getD i [] := by rw [← hh]; exact getD_rot (by omega) []
  have s1 : ∀ x, rotL (P.todo.set i x) = (rotL P.todo).set (turnI P.todo.length i) x := fun x => rotL_set hn x
  have s2 : ∀ x, rotL (P.regs.set i x) = (rotL P.regs).set (turnI P.todo.length i) x := fun x => by rw [rotL_set (by omega) x, hr]
  have s3 : ∀ x, rotL (P.held.set i x) = (rotL P.held).set (turnI P.todo.length i) x := fun x => by rw [rotL_set (by omega) x, hh]
  unfold PS.does
  rw [e1]
  cases P.todo.getD i [] with
  | nil => rfl
  | cons c r =>
    simp only
    rw [e2, e3]
    repeat' split
    all_goals simp [PS.turn, s1, s2, s3]

end Go.Proofs.Ytdgkpkdinfklaaa

namespace Go.Proofs.Ytdgkpkdinfklaaa

theorem Alike.holdAll {F : List ST} {P : PS} {ths : List TH} {c : CS} (h : Alike F P ths c) (l : UInt8) : ∃ x, HoldR P.held x l := by
  by_cases hl : inU [65, 66, 67, 68, 69] l = true
  · obtain ⟨n, h5, _, _, e⟩ := lock_no hl rfl
    rw [e]
    exact ⟨_, h.hold n h5⟩
  · refine ⟨0, .inl ⟨rfl, fun y hy => ?_⟩⟩
    obtain ⟨i, hi⟩ := List.mem_iff_getElem?.1 hy
    have hlt : i < ths.length := by rw [← h.lenh]; exact (List.getElem?_eq_some_iff.1 hi).1
    obtain ⟨K, s, g⟩ := h.th i _ (List.getElem?_eq_getElem hlt)
    rw [g.held] at hi
    have := Option.some.inj hi
    subst this
    rw [inU_reverse]
    cases e : inU K l with
    | false => rfl
    | true => exact absurd (g.ks l (inU_mem.1 e)) hl

theorem waits_turn {P : PS} {i : Nat} (hn : i < P.todo.length) (hh : P.held.length = P.todo.length) (ha : ∀ l, ∃ x, HoldR P.held x l) : P.turn.waits (turnI P.todo.length i) = turnH P.todo.length (P.waits i) := by
  have e1 : P.turn.todo.getD (turnI P.todo.length i) [] = P.todo.getD i [] := getD_rot hn []
  unfold PS.waits
  rw [e1]
  show waitsL (rotL P.held) _ = _
  unfold waitsL
  split
  · split
    · rename_i l _ _ _
      obtain ⟨x, hx⟩ := ha l
      rw [hx.rotHolder, hh]
    · rfl
  · rfl

/-- A pick's new name. -/
def turnB (n : Nat) (c : UInt8) : UInt8 := if 49 ≤ c.toNat ∧ c.toNat < 49 + n then UInt8.ofNat (49 + turnI n (c.toNat - 49)) else c

theorem turnH_neg {n : Nat} {x : Int} : 0 ≤ turnH n x ↔ 0 ≤ x := by
  unfold turnH
  split
  · constructor <;> intro h <;> omega
  · constructor <;> intro h <;> omega

theorem pick_turn {P : PS} (h4 : P.todo.length ≤ 4) (hh : P.held.length = P.todo.length) (hr : P.regs.length = P.todo.length) (ha : ∀ l, ∃ x, HoldR P.held x l) (n : Int) (c : UInt8) (hlen : ∀ i, (P.does i).1.todo.length = P.todo.length) : P.turn.pick n (turnB P.todo.length c) = ((P.pick n c).1.turn, (P.pick n c).2) := by
  by_cases hc : 49 ≤ c.toNat ∧ c.toNat < 49 + P.todo.length
  · obtain ⟨i, hi⟩ : ∃ i, i = c.toNat - 49 := ⟨_, rfl⟩
    have hil : i < P.todo.length := by omega
    have ht := turnI_lt hil
    have hcc : (c.toNat : Int) - 49 = (i : Int) := by omega
    have hb : ((turnB P.todo.length c).toNat : Int) - 49 = (turnI P.todo.length i : Int) := by
      unfold turnB
      rw [if_pos hc, ← hi, UInt8.toNat_ofNat_of_lt' (by show 49 + _ < 256; omega)]
      omega
    have e1 : P.turn.todo.getD (turnI P.todo.length i) [] = P.todo.getD i [] := getD_rot hil []
    have el : P.turn.todo.length = P.todo.length := rotL_length _
    unfold PS.pick
    simp only
    rw [hb, hcc, Int.toNat_natCast, Int.toNat_natCast, e1, el, waits_turn hil hh ha, does_turn hil hh hr]
    by_cases h0 : P.todo.getD i [] = []
    · rw [if_pos (.inr (.inr h0)), if_pos (.inr (.inr h0))]
    · have n1 : ¬ ((turnI P.todo.length i : Int) < 0 ∨ (P.todo.length : Int) ≤ (turnI P.todo.length i : Int) ∨ P.todo.getD i [] = []) := by
        rintro (h | h | h)
        · omega
        · omega
        · exact h0 h
      have n2 : ¬ ((i : Int) < 0 ∨ (P.todo.length : Int) ≤ (i : Int) ∨ P.todo.getD i [] = []) := by
        rintro (h | h | h)
        · omega
        · omega
        · exact h0 h
      rw [if_neg n1, if_neg n2]
      by_cases hw : 0 ≤ P.waits i
      · rw [if_pos hw, if_pos (turnH_neg.2 hw)]
      · rw [if_neg hw, if_neg (fun e => hw (turnH_neg.1 e))]
        have hT : turnH P.todo.length (i : Int) = (turnI P.todo.length i : Int) := by unfold turnH; rw [if_neg (by omega), Int.toNat_natCast]
        simp [PS.turn, hlen, hT]
  · have hb : turnB P.todo.length c = c := by unfold turnB; rw [if_neg hc]
    have el : P.turn.todo.length = P.todo.length := rotL_length _
    rw [hb]
    unfold PS.pick
    simp only
    rw [if_pos (by rw [el]; omega), if_pos (by omega)]

end Go.Proofs.Ytdgkpkdinfklaaa

namespace Go.Proofs.Ytdgkpkdinfklaaa

theorem does_len (P : PS) (t : Nat) : (P.does t).1.todo.length = P.todo.length := by
  unfold PS.does
  split
  · rfl
  · simp only
    repeat' split
    all_goals exact List.length_set
theorem pick_len (P : PS) (n : Int) (c : UInt8) : (P.pick n c).1.todo.length = P.todo.length := by
  unfold PS.pick
  simp only
  split
  · rfl
  · split
    · rfl
    · exact does_len P _
theorem upK_len (P : PS) (q : List UInt8) (k : Nat) : (P.upK q k).todo.length = P.todo.length := by
  induction k with
  | zero => rfl
  | succ k ih =>
    rw [PS.upK]
    split
    · rw [pick_len]; exact ih
    · exact ih

/-- The turned run, by the picks' new names. -/
theorem turn_run {p : List UInt8} {F : List ST} {ts : List (Nat × List UInt8)} (h : Prog p F ts) (h4 : (splitBar p).length ≤ 4) (htd : ∀ a ∈ splitBar p, TD [] [] a) (q : List UInt8) : ∀ k, (PS.start p).turn.upK (q.map (turnB (splitBar p).length)) k = ((PS.start p).upK q k).turn ∧ (PS.start p).turn.doneK (q.map (turnB (splitBar p).length)) k = (PS.start p).doneK q k := by
  intro k
  induction k with
  | zero => exact ⟨rfl, rfl⟩
  | succ k ih =>
    have ha := (Alike.run h htd q k).1
    have hl : ((PS.start p).upK q k).todo.length = (splitBar p).length := upK_len _ _ _
    rw [PS.upK, PS.upK, PS.doneK, PS.doneK, List.getElem?_map]
    cases hx : q[k]? with
    | none => exact ih
    | some c =>
      have := pick_turn (P := (PS.start p).upK q k) (by omega) (by rw [ha.lenh, ha.len]) (by rw [ha.lenr, ha.len]) ha.holdAll ((k : Int) + 1) c (does_len _)
      rw [hl] at this
      show ((((PS.start p).turn.upK (q.map (turnB (splitBar p).length)) k).pick _ (turnB (splitBar p).length c)).1 = _) ∧ ((PS.start p).turn.doneK (q.map (turnB (splitBar p).length)) k ++ [(((PS.start p).turn.upK (q.map (turnB (splitBar p).length)) k).pick _ (turnB (splitBar p).length c)).2] = _)
      rw [ih.1, ih.2, this]
      exact ⟨rfl, rfl⟩

theorem start_turn (p r : List UInt8) (h : splitBar r = rotL (splitBar p)) : PS.start r = (PS.start p).turn := by
  unfold PS.start PS.turn
  simp only [h, rotL_map, List.map_nil]

end Go.Proofs.Ytdgkpkdinfklaaa

namespace Go.Proofs.Ytdgkpkdinfklaaa

theorem RaceAt.named {l : List Did} {f : Int → Int} (hf : ∀ a ∈ l, ∀ b ∈ l, f a.thread = f b.thread → a.thread = b.thread) {j : Nat} : RaceAt (l.map fun a => { a with thread := f a.thread }) j ↔ RaceAt l j := by
  have hat : ∀ {k : Nat} {b : Did}, (l.map fun a => { a with thread := f a.thread })[k]? = some b → ∃ a, l[k]? = some a ∧ b = { a with thread := f a.thread } := fun {k b} h => by
    rw [List.getElem?_map] at h
    cases hx : l[k]? with
    | none => rw [hx] at h; cases h
    | some a => rw [hx] at h; exact ⟨a, rfl, (Option.some.inj h).symm⟩
  have hto : ∀ {k : Nat} {a : Did}, l[k]? = some a → (l.map fun a => { a with thread := f a.thread })[k]? = some { a with thread := f a.thread } := fun h => by rw [List.getElem?_map, h]; rfl
  constructor
  · rintro ⟨i, a, b, h1, h2, h3, ⟨c1, c2, c3⟩, h5⟩
    obtain ⟨a', a1, rfl⟩ := hat h2
    obtain ⟨b', b1, rfl⟩ := hat h3
    exact ⟨i, a', b', h1, a1, b1, ⟨c1, fun e => c2 (by show f a'.thread = f b'.thread; rw [e]), c3⟩, fun e => h5 ((Kn.named hf).2 e)⟩
  · rintro ⟨i, a, b, h1, h2, h3, ⟨c1, c2, c3⟩, h5⟩
    exact ⟨i, _, _, h1, hto h2, hto h3, ⟨c1, fun e => c2 (hf a (List.mem_of_getElem? h2) b (List.mem_of_getElem? h3) e), c3⟩, fun e => h5 ((Kn.named hf).1 e)⟩

theorem RaceNo.named {l : List Did} {f : Int → Int} (hf : ∀ a ∈ l, ∀ b ∈ l, f a.thread = f b.thread → a.thread = b.thread) {r : Int} (h : RaceNo l r) : RaceNo (l.map fun a => { a with thread := f a.thread }) r := by
  rcases h with ⟨h1, h2⟩ | ⟨h0, j, d, h1, h2, h3, h4⟩
  · exact .inl ⟨h1, fun j e => h2 j ((RaceAt.named hf).1 e)⟩
  · exact .inr ⟨h0, j, { d with thread := f d.thread }, by rw [List.getElem?_map, h1]; rfl, h2, (RaceAt.named hf).2 h3, fun j' h' e => h4 j' h' ((RaceAt.named hf).1 e)⟩

end Go.Proofs.Ytdgkpkdinfklaaa

namespace Go.Proofs.Ytdgkpkdinfklaaa

/-- Who is stuck in the turned run. -/
theorem StuckP.turn {P : PS} (hh : P.held.length = P.todo.length) (ha : ∀ l, ∃ x, HoldR P.held x l) {i : Nat} (hi : i < P.todo.length) (hw : ∀ a, P.waits a < P.todo.length) : StuckP P.turn (turnI P.todo.length i) ↔ StuckP P i := by
  have el : P.turn.todo.length = P.todo.length := rotL_length _
  have hT : ∀ x : Int, 0 ≤ x → turnH P.todo.length x = (turnI P.todo.length x.toNat : Int) := fun x h => by unfold turnH; rw [if_neg (by omega)]
  constructor
  · rintro ⟨_, S, si, hS⟩
    refine ⟨hi, fun a => a < P.todo.length ∧ S (turnI P.todo.length a), ⟨hi, si⟩, fun a sa => ?_⟩
    obtain ⟨_, h0, h1⟩ := hS _ sa.2
    rw [waits_turn sa.1 hh ha] at h0 h1
    have h2 := turnH_neg.1 h0
    rw [hT _ h2, Int.toNat_natCast] at h1
    have h3 := hw a
    exact ⟨sa.1, h2, by omega, h1⟩
  · rintro ⟨_, S, si, hS⟩
    refine ⟨by rw [el]; exact turnI_lt hi, fun b => ∃ a, a < P.todo.length ∧ b = turnI P.todo.length a ∧ S a, ⟨i, hi, rfl, si⟩, ?_⟩
    rintro b ⟨a, h1, rfl, sa⟩
    obtain ⟨_, h0, h2⟩ := hS a sa
    have h3 := hw a
    rw [waits_turn h1 hh ha, hT _ h0, Int.toNat_natCast, el]
    exact ⟨turnI_lt h1, by omega, (P.waits a).toNat, by omega, rfl, h2⟩

end Go.Proofs.Ytdgkpkdinfklaaa

namespace Go.Proofs.Ytdgkpkdinfklaaa

theorem rotL_ext {α : Type} {l m : List α} (hl : m.length = l.length) (h : ∀ i, i < l.length → m[turnI l.length i]? = l[i]?) : m = rotL l := by
  apply List.ext_getElem?
  intro j
  by_cases hj : j < l.length
  · obtain ⟨i, hi, rfl⟩ := turnI_onto hj
    rw [h i hi, rotL_at hi]
  · rw [List.getElem?_eq_none (by omega), List.getElem?_eq_none (by rw [rotL_length]; omega)]

theorem filter_map_len {α : Type} (f : α → Bool) (l : List α) : (l.filter f).length = ((l.map f).filter id).length := by
  induction l with
  | nil => rfl
  | cons a r ih =>
    rw [List.filter_cons, List.map_cons, List.filter_cons]
    cases f a with
    | true => simpa using ih
    | false => simpa using ih
theorem rot_filter_len (l : List Bool) : ((rotL l).filter id).length = (l.filter id).length := by
  cases l with
  | nil => rfl
  | cons a r => cases a <;> simp [rotL, List.filter_append]

/-- As many are stuck, where the threads are turned. -/
theorem stuck_turn {F F' : List ST} {P : PS} {ths ths' : List TH} {c c' : CS} (hj : JOk F) (hl : LastEnd F) (hj' : JOk F') (hl' : LastEnd F') (h : Alike F P ths c) (g : Alike F' P.turn ths' c') : (stuckM F' c'.lk ths').length = (stuckM F c.lk ths).length := by
  obtain ⟨f, hf⟩ := iterM_sub F c.lk ths ths.length
  obtain ⟨f', hf'⟩ := iterM_sub F' c'.lk ths' ths'.length
  have hln : ths'.length = ths.length := by
    have h1 := g.len
    rw [show P.turn.todo.length = P.todo.length from rotL_length _, h.len] at h1
    exact h1.symm
  have hw : ∀ a, P.waits a < P.todo.length := by
    intro a
    cases ha : ths[a]? with
    | some t => rw [h.len]; exact (h.awaits hj hl ha).2.2
    | none =>
      have := List.getElem?_eq_none_iff.1 ha
      unfold PS.waits
      rw [List.getD_eq_getElem?_getD, List.getElem?_eq_none (by rw [h.len]; exact this)]
      show (-1 : Int) < _
      omega
  have key : ths'.map f' = rotL (ths.map f) := by
    refine rotL_ext (by simpa using hln) fun i hi => ?_
    rw [List.length_map] at hi ⊢
    have ht : ths[i]? = some ths[i] := List.getElem?_eq_getElem hi
    have hti : turnI ths.length i < ths'.length := by rw [hln]; exact turnI_lt hi
    have ht' : ths'[turnI ths.length i]? = some ths'[turnI ths.length i] := List.getElem?_eq_getElem hti
    rw [List.getElem?_map, List.getElem?_map, ht, ht']
    show some _ = some _
    congr 1
    have a1 := h.stuckP hj hl ht
    have a2 := g.stuckP hj' hl' ht'
    rw [hf, List.mem_filter] at a1
    rw [hf', List.mem_filter] at a2
    have a3 := StuckP.turn (P := P) (by rw [h.lenh, h.len]) h.holdAll (i := i) (by rw [h.len]; exact hi) hw
    rw [h.len] at a3
    rw [Bool.eq_iff_iff]
    constructor
    · exact fun e => (a1.2 (a3.1 (a2.1 ⟨List.mem_of_getElem? ht', e⟩))).2
    · exact fun e => (a2.2 (a3.2 (a1.1 ⟨List.mem_of_getElem? ht, e⟩))).2
  unfold stuckM
  rw [List.length_map, List.length_map, hf, hf', filter_map_len f', filter_map_len f, key, rot_filter_len]

end Go.Proofs.Ytdgkpkdinfklaaa

namespace Go.Proofs.Ytdgkpkdinfklaaa

/-- The machine's answers for a program and for the turned one. -/
theorem turned_all {p r : List UInt8} {F F' : List ST} {ts ts' : List (Nat × List UInt8)} (h : Prog p F ts) (g : Prog r F' ts') (h4 : (splitBar p).length ≤ 4) (hr : splitBar r = rotL (splitBar p)) (htd : ∀ a ∈ splitBar p, TD [] [] a) (q : List UInt8) (k : Nat) :
    (runU F' (q.map (turnB (splitBar p).length)) k).done = (runU F q k).done ∧ (runU F' (q.map (turnB (splitBar p).length)) k).c.pr = (runU F q k).c.pr ∧ (runU F' (q.map (turnB (splitBar p).length)) k).c.gl.map (·.val) = (runU F q k).c.gl.map (·.val) ∧
    (runU F' (q.map (turnB (splitBar p).length)) k).race = (runU F q k).race ∧ (stuckM F' (runU F' (q.map (turnB (splitBar p).length)) k).c.lk (runU F' (q.map (turnB (splitBar p).length)) k).ths).length = (stuckM F (runU F q k).c.lk (runU F q k).ths).length := by
  have htd' : ∀ a ∈ splitBar r, TD [] [] a := fun a ha => htd a (by rw [hr] at ha; exact rotL_mem.1 ha)
  have n1 : ts.length ≤ 4 := by rw [h.spl] at h4; simpa using h4
  have n2 : ts'.length ≤ 4 := by
    have : (splitBar r).length ≤ 4 := by rw [hr, rotL_length]; exact h4
    rw [g.spl] at this; simpa using this
  obtain ⟨a1, a2⟩ := Alike.run h htd q k
  obtain ⟨b1, b2⟩ := Alike.run g htd' (q.map (turnB (splitBar p).length)) k
  obtain ⟨t1, t2⟩ := turn_run h h4 htd q k
  obtain ⟨k1, k2⟩ := Ckd.run h n1 htd q k
  obtain ⟨_, m2⟩ := Ckd.run g n2 htd' (q.map (turnB (splitBar p).length)) k
  rw [start_turn p r hr, t1] at b1 m2
  rw [start_turn p r hr, t2] at b2
  refine ⟨by rw [← b2, a2], by rw [← b1.pr, ← a1.pr]; rfl, by rw [← b1.gl, ← a1.gl]; rfl, ?_, stuck_turn h.jok h.thr.lastEnd g.jok g.thr.lastEnd a1 b1⟩
  have hl : ((PS.start p).upK q k).todo.length = (runU F q k).ths.length := a1.len
  refine RaceNo.unique m2 (k2.named fun a ha b hb e => ?_)
  obtain ⟨x, hx, ex⟩ := k1.thr a ha
  obtain ⟨y, hy, ey⟩ := k1.thr b hb
  rw [ex, ey] at e ⊢
  unfold turnH at e
  rw [if_neg (by omega), if_neg (by omega), Int.toNat_natCast, Int.toNat_natCast, hl] at e
  have := turnI_inj hx hy (by omega)
  rw [this]

end Go.Proofs.Ytdgkpkdinfklaaa
