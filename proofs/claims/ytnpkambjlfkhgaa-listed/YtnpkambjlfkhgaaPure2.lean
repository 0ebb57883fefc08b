import Derived.Test.YtnpkambjlfkhgaaPure
namespace Go.Proofs.Ytnpkambjlfkhgaa

theorem nxI_lt {p : List UInt8} {pl i : Nat} {al : List UInt8} (h : nxI p pl al = some i) : pl < p.length := by
  by_cases hlt : pl < p.length
  · exact hlt
  · rw [nxI, List.getElem?_eq_none (by omega)] at h; cases h

/-- Bounds of the reader's lists. -/
structure B (p : List UInt8) (r : RS) : Prop where
  pl : r.pl ≤ p.length
  op : r.op.length ≤ r.pl
  ms : r.mks.length ≤ r.pl
  th : 1 ≤ r.th

theorem access_bd {p : List UInt8} {r : RS} (h : B p r) : B p (r.access p).1 ∧ ((r.access p).2 = true → r.pl < (r.access p).1.pl ∧ (r.access p).1.op = r.op) := by
  obtain ⟨h1, h2, h3, h4⟩ := h
  unfold RS.access
  split
  · exact ⟨⟨h1, h2, h3, h4⟩, by simp⟩
  · have := nxI_lt (by assumption)
    split
    · exact ⟨⟨by simp [RS.to]; omega, by simp [RS.to]; omega, by simp [RS.to]; omega, h4⟩, by simp⟩
    · have := nxI_lt (by assumption)
      exact ⟨⟨by simp [RS.to, RS.mark]; omega, by simp [RS.to, RS.mark]; omega, by simp [RS.to, RS.mark]; omega, h4⟩, fun _ => by simp [RS.to, RS.mark]⟩

theorem bodyBegin_bd {p : List UInt8} {r : RS} (k : Int) (h : B p r) (hl : r.pl < p.length) : B p (r.bodyBegin p k).1 ∧ ((r.bodyBegin p k).2 = true → r.pl < (r.bodyBegin p k).1.pl) := by
  obtain ⟨h1, h2, h3, h4⟩ := h
  unfold RS.bodyBegin
  split
  · exact ⟨⟨by simp [RS.to]; omega, by simp [RS.to]; omega, by simp [RS.to]; omega, h4⟩, by simp⟩
  · have := nxI_lt (by assumption)
    exact ⟨⟨by simp [RS.to, RS.push]; omega, by simp [RS.to, RS.push]; omega, by simp [RS.to, RS.push]; omega, h4⟩, fun _ => by simp [RS.to, RS.push]⟩

theorem mended_bd {p : List UInt8} {r : RS} (h : B p r) (hl : r.pl < p.length) : B p (r.mended p).1 ∧ ((r.mended p).2 = true → r.pl < (r.mended p).1.pl) := by
  obtain ⟨h1, h2, h3, h4⟩ := h
  unfold RS.mended
  split
  · exact ⟨⟨by simp [RS.to]; omega, by simp [RS.to]; omega, by simp [RS.to]; omega, h4⟩, by simp⟩
  · have := nxI_lt (by assumption)
    rename_i l hx
    have hb : B p (((r.to 2).mark 3 r.pl l).push 2 l) := ⟨by simp [RS.to, RS.mark, RS.push]; omega, by simp [RS.to, RS.mark, RS.push]; omega, by simp [RS.to, RS.mark, RS.push]; omega, h4⟩
    obtain ⟨ab, ac⟩ := access_bd hb
    cases hq : (((r.to 2).mark 3 r.pl l).push 2 l).access p with
    | mk r3 ok =>
      rw [hq] at ab ac
      cases ok with
      | false => exact ⟨ab, by simp⟩
      | true =>
        obtain ⟨a1, a2⟩ := ac rfl
        obtain ⟨b1, b2, b3, b4⟩ := ab
        simp only at a1 a2 b1 b2 b3 b4 ⊢
        split
        · exact ⟨⟨b1, b2, b3, b4⟩, by simp⟩
        · have := nxI_lt (by assumption)
          simp [RS.to, RS.mark, RS.push] at a1
          exact ⟨⟨by simp [RS.to, RS.pop]; omega, by simp [RS.to, RS.pop]; omega, by simp [RS.to, RS.pop]; omega, b4⟩, fun _ => by simp [RS.to, RS.pop]; omega⟩

theorem piece_bd {p : List UInt8} {r : RS} (h : B p r) (hl : r.pl < p.length) : B p (r.piece p).1 ∧ ((r.piece p).2 = true → r.pl < (r.piece p).1.pl) := by
  unfold RS.piece
  rw [List.getElem?_eq_getElem hl]
  simp only
  have hk := h
  obtain ⟨h1, h2, h3, h4⟩ := h
  split
  · exact ⟨(access_bd hk).1, fun e => ((access_bd hk).2 e).1⟩
  split
  · unfold RS.addition
    split
    · exact ⟨⟨by simp [RS.to]; omega, by simp [RS.to]; omega, by simp [RS.to]; omega, h4⟩, by simp⟩
    · have := nxI_lt (by assumption)
      exact ⟨⟨by simp [RS.to]; omega, by simp [RS.to]; omega, by simp [RS.to]; omega, h4⟩, fun _ => by simp [RS.to]⟩
  split
  · exact ⟨⟨by simp [RS.to]; omega, by simp [RS.to]; omega, by simp [RS.to]; omega, h4⟩, fun _ => by simp [RS.to]⟩
  split
  · unfold RS.regionBegin
    split
    · exact ⟨⟨by simp [RS.to]; omega, by simp [RS.to]; omega, by simp [RS.to]; omega, h4⟩, by simp⟩
    · have := nxI_lt (by assumption)
      exact ⟨⟨by simp [RS.to, RS.mark, RS.push]; omega, by simp [RS.to, RS.mark, RS.push]; omega, by simp [RS.to, RS.mark, RS.push]; omega, h4⟩, fun _ => by simp [RS.to, RS.mark, RS.push]⟩
  split
  · unfold RS.regionEnd
    split
    · exact ⟨⟨by simp [RS.to, RS.pop]; omega, by simp [RS.to, RS.pop]; omega, by simp [RS.to, RS.pop]; omega, h4⟩, fun _ => by simp [RS.to, RS.pop]⟩
    · exact ⟨hk, by simp⟩
  split
  · exact mended_bd hk hl
  split
  · exact bodyBegin_bd 3 hk hl
  split
  · exact bodyBegin_bd 4 hk hl
  split
  · unfold RS.bodyEnd
    split
    · have hb : B p r.pop := ⟨h1, by simp [RS.pop]; omega, h3, h4⟩
      exact bodyBegin_bd 4 hb hl
    · split
      · exact ⟨⟨by simp [RS.to, RS.pop]; omega, by simp [RS.to, RS.pop]; omega, by simp [RS.to, RS.pop]; omega, h4⟩, fun _ => by simp [RS.to, RS.pop]⟩
      · exact ⟨hk, by simp⟩
  split
  · unfold RS.nextThread
    split
    · exact ⟨hk, by simp⟩
    · exact ⟨⟨by simp; omega, by simp; omega, by simp; omega, by simp; omega⟩, fun _ => by simp⟩
  · exact ⟨hk, by simp⟩

theorem Reach.bd {p : List UInt8} {r : RS} (h : Reach p r) : B p r := by
  induction h with
  | start => exact ⟨by simp [RS.start], by simp [RS.start], by simp [RS.start], by simp [RS.start]⟩
  | step _ hl he ih =>
    have := (piece_bd ih hl).1
    rw [he] at this
    exact this

end Go.Proofs.Ytnpkambjlfkhgaa
