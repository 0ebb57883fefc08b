import Derived.Test.YtnpkambjlfkhgaaPure5
namespace Go.Proofs.Ytnpkambjlfkhgaa

/-! The reader as it landed with Run: steps instead of marks. Its marks are those of the earlier one. -/

/-- A step: kind, place, thread, number, mended, what is next, what is next of a test of 0; the locks that are held. -/
structure ST where
  kind : Int
  place : Int
  thread : Int
  num : Int
  mend : Bool
  nx : Int
  el : Int
  h0 : Bool
  h1 : Bool
  h2 : Bool
  h3 : Bool
  h4 : Bool

abbrev OP := Int × Int × Int

structure RT where
  pl : Nat
  th : Int
  op : List OP
  st : List ST

def hldT (op : List OP) (i : Int) : Bool := op.any fun x => x.2.1 == i

def RT.to (r : RT) (n : Nat) : RT := ⟨r.pl + n, r.th, r.op, r.st⟩
def stepT (r : RT) (kind place num : Int) (mend : Bool) : ST := ⟨kind, place, r.th, num, mend, (r.st.length : Int) + 1, 0, hldT r.op 0, hldT r.op 1, hldT r.op 2, hldT r.op 3, hldT r.op 4⟩
def RT.step (r : RT) (kind place num : Int) (mend : Bool) : RT := ⟨r.pl, r.th, r.op, r.st ++ [stepT r kind place num mend]⟩
def RT.push (r : RT) (k l f : Int) : RT := ⟨r.pl, r.th, (k, l, f) :: r.op, r.st⟩
def RT.pop (r : RT) : RT := ⟨r.pl, r.th, r.op.tail, r.st⟩
def RT.top (r : RT) : OP := match r.op with | [] => (0, -1, 0) | x :: _ => x

/-- A step told anew. -/
def leadL (st : List ST) (f t : Int) : List ST := if 0 ≤ f then match st[f.toNat]? with | some s => st.set f.toNat { s with nx := t } | none => st else st
def elseL (st : List ST) (f t : Int) : List ST := if 0 ≤ f then match st[f.toNat]? with | some s => st.set f.toNat { s with el := t } | none => st else st
def RT.lead (r : RT) (f t : Int) : RT := ⟨r.pl, r.th, r.op, leadL r.st f t⟩
def RT.els (r : RT) (f : Int) : RT := ⟨r.pl, r.th, r.op, elseL r.st f r.st.length⟩

def RT.access (p : List UInt8) (r : RT) : RT × Bool :=
  match nxI p r.pl [103, 112] with
  | none => (r, false)
  | some i => match nxI p (r.pl + 1) [120, 121, 122] with
    | none => (r.to 1, false)
    | some g => ((r.to 2).step (if i = 1 then 2 else 1) r.pl g false, true)

def RT.addition (p : List UInt8) (r : RT) : RT × Bool :=
  match nxI p (r.pl + 1) [48, 49, 50, 51, 52, 53, 54, 55, 56, 57] with
  | none => (r.to 1, false)
  | some d => ((r.to 2).step 3 r.pl d false, true)

def RT.print (r : RT) : RT := (r.step 4 r.pl 0 false).to 1

def RT.regionBegin (p : List UInt8) (r : RT) : RT × Bool :=
  match nxI p (r.pl + 1) [65, 66, 67, 68] with
  | none => (r.to 1, false)
  | some l => (((r.to 2).step 6 r.pl l false).push 1 l 0, true)

def RT.regionEnd (r : RT) : RT × Bool := if r.top.1 = 1 then ((r.pop.step 7 r.pl r.top.2.1 false).to 1, true) else (r, false)

def RT.mended (p : List UInt8) (r : RT) : RT × Bool :=
  match nxI p (r.pl + 1) [65, 66, 67, 68, 69] with
  | none => (r.to 1, false)
  | some l => match (((r.to 2).step 6 r.pl l true).push 2 l 0).access p with
    | (r3, false) => (r3, false)
    | (r3, true) => match nxI p r3.pl [62] with
      | none => (r3.pop, false)
      | some _ => ((r3.pop.to 1).step 7 r3.pl l true, true)

def RT.bodyBegin (p : List UInt8) (r : RT) (k : Int) : RT × Bool :=
  match nxI p (r.pl + 1) [123] with
  | none => (r.to 1, false)
  | some _ => ((r.to 2).push k (-1) ((r.st.length : Int) - 1), true)

def RT.test (p : List UInt8) (r : RT) (k : Int) : RT × Bool := (r.step 5 r.pl 0 false).bodyBegin p k

def RT.bodyEnd (p : List UInt8) (r : RT) : RT × Bool :=
  if r.top.1 = 3 then ((r.pop.step 8 r.pl 0 false).els r.top.2.2).bodyBegin p 4
  else if r.top.1 = 4 then ((r.pop.lead r.top.2.2 r.st.length).to 1, true)
  else if r.top.1 = 5 then ((((r.pop.step 8 r.pl 0 false).lead r.st.length r.top.2.2).els r.top.2.2).to 1, true)
  else (r, false)

def RT.nextThread (r : RT) : RT × Bool := if r.op ≠ [] ∨ 4 ≤ r.th then (r, false) else (⟨r.pl + 1, r.th + 1, r.op, (r.step 9 r.pl 0 false).st⟩, true)

def RT.piece (p : List UInt8) (r : RT) : RT × Bool :=
  match p[r.pl]? with
  | none => (r, false)
  | some c =>
    if c = 103 ∨ c = 112 then r.access p
    else if c = 105 then r.addition p
    else if c = 111 then (r.print, true)
    else if c = 91 then r.regionBegin p
    else if c = 93 then r.regionEnd
    else if c = 60 then r.mended p
    else if c = 63 then r.test p 3
    else if c = 33 then r.test p 5
    else if c = 125 then r.bodyEnd p
    else if c = 124 then r.nextThread
    else (r, false)

def RT.start : RT := ⟨0, 1, [], []⟩

inductive ReachT (p : List UInt8) : RT → Prop
  | start : ReachT p RT.start
  | step {r r' : RT} : ReachT p r → r.pl < p.length → r.piece p = (r', true) → ReachT p r'

/-! ### The earlier reader's state -/
def opP (x : OP) : Int × Int := (if x.1 = 5 then 4 else x.1, x.2.1)
def mkS (s : ST) : Option MK :=
  if s.kind = 6 then some ⟨3, s.place, s.thread, s.num, s.h0, s.h1, s.h2, s.h3, s.h4⟩
  else if s.kind = 1 ∨ s.kind = 2 then some ⟨s.kind, s.place, s.thread, s.num, s.h0, s.h1, s.h2, s.h3, s.h4⟩ else none
def mksS (l : List ST) : List MK := l.filterMap mkS
def RT.proj (r : RT) : RS := ⟨r.pl, r.th, r.op.map opP, mksS r.st⟩

theorem hld_proj (op : List OP) (i : Int) : hld (op.map opP) i = hldT op i := by
  simp only [hld, hldT, List.any_map]; rfl

theorem mksS_append (a b : List ST) : mksS (a ++ b) = mksS a ++ mksS b := by simp [mksS]

theorem mksS_set (l : List ST) (i : Nat) (s t : ST) (h : l[i]? = some s) (hk : mkS t = mkS s) : mksS (l.set i t) = mksS l := by
  induction l generalizing i with
  | nil => rfl
  | cons x r ih =>
    cases i with
    | zero => simp at h; subst h; simp [mksS, List.filterMap_cons, hk]
    | succ i =>
      have := ih i (by simpa using h)
      simp only [mksS, List.set_cons_succ, List.filterMap_cons] at this ⊢
      rw [this]

theorem mksS_lead (l : List ST) (f t : Int) : mksS (leadL l f t) = mksS l := by
  unfold leadL; split
  · split
    · rename_i s hs; exact mksS_set _ _ s _ hs rfl
    · rfl
  · rfl
theorem mksS_else (l : List ST) (f t : Int) : mksS (elseL l f t) = mksS l := by
  unfold elseL; split
  · split
    · rename_i s hs; exact mksS_set _ _ s _ hs rfl
    · rfl
  · rfl

theorem proj_step_no (r : RT) (kind place num : Int) (m : Bool) (h : kind ≠ 6) (h1 : kind ≠ 1) (h2 : kind ≠ 2) : (r.step kind place num m).proj = r.proj := by
  simp [RT.proj, RT.step, mksS, stepT, mkS, h, h1, h2]
theorem proj_step_acc (r : RT) (kind place num : Int) (m : Bool) (h : kind = 1 ∨ kind = 2) : (r.step kind place num m).proj = r.proj.mark kind place num := by
  have h6 : kind ≠ 6 := by omega
  simp [RT.proj, RT.step, mksS, stepT, mkS, h, h6, RS.mark, hld_proj]
theorem proj_step_take (r : RT) (place num : Int) (m : Bool) : (r.step 6 place num m).proj = r.proj.mark 3 place num := by
  simp [RT.proj, RT.step, mksS, stepT, mkS, RS.mark, hld_proj]
theorem proj_to (r : RT) (n : Nat) : (r.to n).proj = r.proj.to n := rfl
theorem proj_push (r : RT) (k l f : Int) (h : k ≠ 5) : (r.push k l f).proj = r.proj.push k l := by
  simp [RT.proj, RT.push, RS.push, opP, h]
theorem proj_push5 (r : RT) (l f : Int) : (r.push 5 l f).proj = r.proj.push 4 l := by
  simp [RT.proj, RT.push, RS.push, opP]
theorem proj_pop (r : RT) : r.pop.proj = r.proj.pop := by simp [RT.proj, RT.pop, RS.pop, List.map_tail]
theorem proj_lead (r : RT) (f t : Int) : (r.lead f t).proj = r.proj := by simp [RT.proj, RT.lead, mksS_lead]
theorem proj_els (r : RT) (f : Int) : (r.els f).proj = r.proj := by simp [RT.proj, RT.els, mksS_else]
theorem proj_top (r : RT) : r.proj.top = if r.top.1 = 5 then 4 else r.top.1 := by
  obtain ⟨pl, th, op, st⟩ := r
  cases op with
  | nil => rfl
  | cons x o => rfl

/-- One piece, by both readers. -/
def Same (x : RT × Bool) (y : RS × Bool) : Prop := x.2 = y.2 ∧ x.1.pl = y.1.pl ∧ (x.2 = true → x.1.proj = y.1)

theorem Same.mk' {r : RT} {q : RS} {b : Bool} (h : r.proj = q) : Same (r, b) (q, b) := ⟨rfl, by rw [← h]; rfl, fun _ => h⟩

theorem access_same (p : List UInt8) (r : RT) : Same (r.access p) (r.proj.access p) := by
  unfold RT.access RS.access
  show Same _ (match nxI p r.pl [103, 112] with | none => _ | some i => match nxI p (r.pl + 1) [120, 121, 122] with | none => _ | some g => _)
  cases nxI p r.pl [103, 112] with
  | none => exact .mk' rfl
  | some i =>
    cases nxI p (r.pl + 1) [120, 121, 122] with
    | none => exact .mk' rfl
    | some g => exact .mk' (proj_step_acc _ _ _ _ _ (by split <;> simp))

theorem bodyBegin_same (p : List UInt8) (r : RT) (k k' : Int) (h : (k ≠ 5 ∧ k' = k) ∨ (k = 5 ∧ k' = 4)) : Same (r.bodyBegin p k) (r.proj.bodyBegin p k') := by
  unfold RT.bodyBegin RS.bodyBegin
  show Same _ (match nxI p (r.pl + 1) [123] with | none => _ | some _ => _)
  cases nxI p (r.pl + 1) [123] with
  | none => exact .mk' rfl
  | some i =>
    rcases h with ⟨h, rfl⟩ | ⟨rfl, rfl⟩
    · exact .mk' (by rw [proj_push _ _ _ _ h]; rfl)
    · exact .mk' (by rw [proj_push5]; rfl)

theorem mended_same (p : List UInt8) (r : RT) : Same (r.mended p) (r.proj.mended p) := by
  unfold RT.mended RS.mended
  show Same _ (match nxI p (r.pl + 1) [65, 66, 67, 68, 69] with | none => _ | some l => _)
  cases nxI p (r.pl + 1) [65, 66, 67, 68, 69] with
  | none => exact .mk' rfl
  | some l =>
    simp only
    have h := access_same p (((r.to 2).step 6 r.pl l true).push 2 l 0)
    rw [proj_push _ _ _ _ (by decide), proj_step_take, proj_to] at h
    show Same _ (match (((r.proj.to 2).mark 3 r.pl l).push 2 l).access p with | (r3, false) => (r3, false) | (r3, true) => _)
    revert h
    cases (((r.to 2).step 6 r.pl l true).push 2 l 0).access p with
    | mk r3 ok =>
      cases (((r.proj.to 2).mark 3 r.pl l).push 2 l).access p with
      | mk q3 ok' =>
        rintro ⟨e1, e2, e3⟩
        simp only at e1 e2 e3
        subst e1
        cases ok with
        | false => exact ⟨rfl, e2, by simp⟩
        | true =>
          have := e3 rfl
          subst this
          show Same (match nxI p r3.pl [62] with | none => (r3.pop, false) | some _ => ((r3.pop.to 1).step 7 r3.pl l true, true)) (match nxI p r3.pl [62] with | none => (r3.proj, false) | some _ => ((r3.proj.to 1).pop, true))
          cases nxI p r3.pl [62] with
          | none => exact ⟨rfl, rfl, by simp⟩
          | some j => exact .mk' (by rw [proj_step_no _ _ _ _ _ (by decide) (by decide) (by decide), proj_to, proj_pop]; rfl)

theorem piece_same (p : List UInt8) (r : RT) : Same (r.piece p) (r.proj.piece p) := by
  unfold RT.piece RS.piece
  show Same _ (match p[r.pl]? with | none => _ | some c => _)
  cases p[r.pl]? with
  | none => exact .mk' rfl
  | some c =>
    simp only
    split
    · exact access_same p r
    split
    · unfold RT.addition RS.addition
      show Same _ (match nxI p (r.pl + 1) [48, 49, 50, 51, 52, 53, 54, 55, 56, 57] with | none => _ | some _ => _)
      cases nxI p (r.pl + 1) [48, 49, 50, 51, 52, 53, 54, 55, 56, 57] with
      | none => exact .mk' rfl
      | some d => exact .mk' (by rw [proj_step_no _ _ _ _ _ (by decide) (by decide) (by decide), proj_to])
    split
    · exact .mk' (by rw [RT.print, proj_to, proj_step_no _ _ _ _ _ (by decide) (by decide) (by decide)])
    split
    · unfold RT.regionBegin RS.regionBegin
      show Same _ (match nxI p (r.pl + 1) [65, 66, 67, 68] with | none => _ | some _ => _)
      cases nxI p (r.pl + 1) [65, 66, 67, 68] with
      | none => exact .mk' rfl
      | some l => exact .mk' (by rw [proj_push _ _ _ _ (by decide), proj_step_take, proj_to]; rfl)
    split
    · unfold RT.regionEnd RS.regionEnd
      rw [proj_top]
      by_cases ht : r.top.1 = 1
      · have e : (if r.top.1 = 5 then (4 : Int) else r.top.1) = 1 := by rw [ht]; rfl
        rw [if_pos ht, if_pos e]
        exact .mk' (by rw [proj_to, proj_step_no _ _ _ _ _ (by decide) (by decide) (by decide), proj_pop]; rfl)
      · rw [if_neg ht]
        have : (if r.top.1 = 5 then (4 : Int) else r.top.1) ≠ 1 := by split <;> omega
        rw [if_neg this]
        exact .mk' rfl
    split
    · exact mended_same p r
    split
    · have := bodyBegin_same p (r.step 5 r.pl 0 false) 3 3 (.inl ⟨by decide, rfl⟩)
      rw [proj_step_no _ _ _ _ _ (by decide) (by decide) (by decide)] at this
      exact this
    split
    · have := bodyBegin_same p (r.step 5 r.pl 0 false) 5 4 (.inr ⟨rfl, rfl⟩)
      rw [proj_step_no _ _ _ _ _ (by decide) (by decide) (by decide)] at this
      exact this
    split
    · unfold RT.bodyEnd RS.bodyEnd
      rw [proj_top]
      by_cases h3 : r.top.1 = 3
      · have e : (if r.top.1 = 5 then (4 : Int) else r.top.1) = 3 := by rw [h3]; rfl
        rw [if_pos h3, if_pos e]
        have := bodyBegin_same p ((r.pop.step 8 r.pl 0 false).els r.top.2.2) 4 4 (.inl ⟨by decide, rfl⟩)
        rw [proj_els, proj_step_no _ _ _ _ _ (by decide) (by decide) (by decide), proj_pop] at this
        exact this
      · rw [if_neg h3]
        by_cases h4 : r.top.1 = 4
        · have e : (if r.top.1 = 5 then (4 : Int) else r.top.1) = 4 := by rw [h4]; rfl
          rw [if_pos h4, e, if_neg (by decide), if_pos rfl]
          exact .mk' (by rw [proj_to, proj_lead, proj_pop])
        · rw [if_neg h4]
          by_cases h5 : r.top.1 = 5
          · have e : (if r.top.1 = 5 then (4 : Int) else r.top.1) = 4 := by rw [h5]; rfl
            rw [if_pos h5, e, if_neg (by decide), if_pos rfl]
            exact .mk' (by rw [proj_to, proj_els, proj_lead, proj_step_no _ _ _ _ _ (by decide) (by decide) (by decide), proj_pop])
          · rw [if_neg h5, if_neg h5, if_neg h3, if_neg h4]
            exact .mk' rfl
    split
    · unfold RT.nextThread RS.nextThread
      show Same _ (if r.op.map opP ≠ [] ∨ 4 ≤ r.th then _ else _)
      by_cases hn : r.op ≠ [] ∨ 4 ≤ r.th
      · rw [if_pos hn, if_pos (by simpa using hn)]
        exact .mk' rfl
      · rw [if_neg hn, if_neg (by simpa using hn)]
        refine .mk' ?_
        have := proj_step_no r 9 r.pl 0 false (by decide) (by decide) (by decide)
        simp only [RT.proj, RT.step, RS.mk.injEq] at this ⊢
        exact ⟨trivial, trivial, trivial, this.2.2.2⟩
    · exact .mk' rfl

theorem ReachT.proj {p : List UInt8} {r : RT} (h : ReachT p r) : Reach p r.proj := by
  induction h with
  | start => exact .start
  | @step r r' h hl he ih =>
    have hs := piece_same p r
    rw [he] at hs
    refine .step ih hl ?_
    have e1 := hs.1
    have e2 := hs.2.2 rfl
    simp only at e1 e2
    rw [e2, e1]

/-! ### How many steps there are -/
theorem lead_len (l : List ST) (f t : Int) : (leadL l f t).length = l.length := by unfold leadL; split <;> (try split) <;> simp
theorem else_len (l : List ST) (f t : Int) : (elseL l f t).length = l.length := by unfold elseL; split <;> (try split) <;> simp

theorem access_len {p : List UInt8} {r : RT} (h : r.st.length ≤ r.pl) : (r.access p).1.st.length ≤ (r.access p).1.pl ∧ (r.access p).1.pl ≤ r.pl + 2 ∧ ((r.access p).2 = true → (r.access p).1.st.length + 1 ≤ (r.access p).1.pl) := by
  unfold RT.access
  split
  · exact ⟨h, by simp, by simp⟩
  · split
    · simp [RT.to]; omega
    · simp [RT.to, RT.step]; omega

theorem bodyBegin_len {p : List UInt8} {r : RT} (k : Int) (h : r.st.length ≤ r.pl + 1) : (r.bodyBegin p k).1.st.length ≤ (r.bodyBegin p k).1.pl := by
  unfold RT.bodyBegin
  split
  · simp [RT.to]; omega
  · simp [RT.to, RT.push]; omega

theorem piece_len {p : List UInt8} {r : RT} (h : r.st.length ≤ r.pl) (hk : (r.piece p).2 = true) : (r.piece p).1.st.length ≤ (r.piece p).1.pl := by
  revert hk
  unfold RT.piece
  split
  · simp
  split
  · exact fun _ => (access_len h).1
  split
  · unfold RT.addition; split
    · simp
    · intro _; simp [RT.to, RT.step]; omega
  split
  · intro _; simp [RT.print, RT.to, RT.step]; omega
  split
  · unfold RT.regionBegin; split
    · simp
    · intro _; simp [RT.to, RT.step, RT.push]; omega
  split
  · unfold RT.regionEnd; split
    · intro _; simp [RT.to, RT.step, RT.pop]; omega
    · simp
  split
  · unfold RT.mended; split
    · simp
    · rename_i l _
      have ha := access_len (p := p) (r := ((r.to 2).step 6 r.pl l true).push 2 l 0) (by simp [RT.to, RT.step, RT.push]; omega)
      split
      · simp
      · rename_i r3 he
        rw [he] at ha
        split
        · simp
        · intro _
          have := ha.2.2 rfl
          simp [RT.to, RT.step, RT.pop] at this ⊢; omega
  split
  · exact fun _ => bodyBegin_len _ (by simp [RT.step]; omega)
  split
  · exact fun _ => bodyBegin_len _ (by simp [RT.step]; omega)
  split
  · unfold RT.bodyEnd; split
    · exact fun _ => bodyBegin_len _ (by simp [RT.step, RT.pop, RT.els, else_len]; omega)
    · split
      · intro _; simp [RT.to, RT.lead, RT.pop, lead_len]; omega
      · split
        · intro _; simp [RT.to, RT.lead, RT.els, RT.pop, RT.step, lead_len, else_len]; omega
        · simp
  split
  · unfold RT.nextThread; split
    · simp
    · intro _; simp [RT.step]; omega
  · simp

structure BT (p : List UInt8) (r : RT) : Prop where
  pl : r.pl ≤ p.length
  op : r.op.length ≤ r.pl
  st : r.st.length ≤ r.pl
  th : 1 ≤ r.th

theorem ReachT.bd {p : List UInt8} {r : RT} (h : ReachT p r) : BT p r := by
  have hb := h.proj.bd
  have h1 : r.st.length ≤ r.pl := by
    induction h with
    | start => simp [RT.start]
    | step h hl he ih =>
      have := piece_len (p := p) (ih h.proj.bd) (by rw [he])
      rw [he] at this
      exact this
  exact ⟨hb.pl, by have := hb.op; simpa [RT.proj] using this, h1, hb.th⟩

theorem pieceT_gt {p : List UInt8} {r : RT} (h : ReachT p r) (hl : r.pl < p.length) (hk : (r.piece p).2 = true) : r.pl < (r.piece p).1.pl := by
  have hs := piece_same p r
  have := (piece_bd h.proj.bd hl).2 (by rw [← hs.1]; exact hk)
  rw [hs.2.1]
  exact this

end Go.Proofs.Ytnpkambjlfkhgaa
