import Derived.Test.YtdgkpkdinfklaaaXShA
import Derived.Test.YtdgkpkdinfklaaaGKQ
import Derived.Test.YtdgkpkdinfklaaaXTuC
import Derived.Test.YtdgkpkdinfklaaaGV
import Derived.Test.YtdgkpkdinfklaaaGSF
import Derived.Test.YtdgkpkdinfklaaaGLY
namespace Go.Proofs.Ytdgkpkdinfklaaa
open Go.RowKit
theorem two_st {c1 v1 c2 v2 : UInt8} (h : TwoA c1 v1 c2 v2) :
  ((PS.start [c1, v1, 124, c2, v2]).upK [49, 50] 2).st = [⟨1, 0, c1, v1⟩, ⟨2, 1, c2, v2⟩] ∧ ((PS.start [c1, v1, 124, c2, v2]).upK [50, 49] 2).st = [⟨1, 1, c2, v2⟩, ⟨2, 0, c1, v1⟩] := by
 unfold PS.start
 rw [two_split h]
 rcases h.c1 with rfl | rfl <;> rcases h.c2 with rfl | rfl <;> exact ⟨rfl, rfl⟩
theorem race_two {a b : Did} (ha : a.what = 103 ∨ a.what = 112) (hb : b.what = 103 ∨ b.what = 112) (ho : a.of = b.of) (ht : a.thread ≠ b.thread) (hw : a.what = 112 ∨ b.what = 112) {r : Int} (h : RaceNo [a, b] r) : r = b.pick := by
 have hr : RaceAt [a, b] 1 := by
  refine ⟨0, a, b, by decide, rfl, rfl, ?_, ?_⟩
  ·refine ⟨ho, ht, ?_⟩
   rcases ha with ha | ha
   ·rcases hw with hw | hw
    ·rw [ha] at hw; exact absurd hw (by decide)
    ·exact .inr ⟨ha, hw⟩
   ·exact .inl ⟨ha, hb⟩
  ·have hn : tellD a b = false := by
    have g : givesD a = false := by rcases ha with ha | ha <;> simp [givesD, ha]
    simp [tellD, g, ht]
   intro hk
   cases hk with
   | one _ h1 h2 h3 =>
    simp at h1 h2
    subst h1 h2
    rw [hn] at h3; cases h3
   | more h1 h2 _ _ _ => have := h1.lt.1; omega
 rcases h with ⟨_, h0⟩ | ⟨_, j, d, hj, e, h1, _⟩
 ·exact absurd hr (h0 1)
 ·obtain ⟨i, _, _, hi, _⟩ := h1
  have hl : j < 2 := (List.getElem?_eq_some_iff.1 hj).1
  have : j = 1 := by omega
  subst this
  simp at hj
  rw [e, hj]
theorem two_race {p s : ByteArray} {c1 v1 c2 v2 : UInt8} (h : TwoA c1 v1 c2 v2) (hp : p.data.toList = [c1, v1, 124, c2, v2]) (hs : s = ⟨#[49, 50]⟩ ∨ s = ⟨#[50, 49]⟩) (hm : Meet c1 v1 c2 v2) {F : List ST} {ts : List (Nat × List UInt8)} (hg : Prog p.data.toList F ts) :
  (runU F s.data.toList s.data.toList.length).race = 2 := by
 obtain ⟨hv, hc⟩ := hm
 have htd : ∀ a ∈ splitBar p.data.toList, TD [] [] a := by rw [hp]; exact fun a ha => (two_md h a ha).td
 have k := (Ckd.run hg hg.n4 htd s.data.toList s.data.toList.length).2
 rw [hp] at k
 rcases hs with rfl | rfl
 ·have e : ((PS.start [c1, v1, 124, c2, v2]).upK (⟨#[49, 50]⟩ : ByteArray).data.toList (⟨#[49, 50]⟩ : ByteArray).data.toList.length).st = _ := (two_st h).1
  rw [e] at k
  exact race_two (a := ⟨1, 0, c1, v1⟩) (b := ⟨2, 1, c2, v2⟩) h.c1 h.c2 hv (by simp) hc k
 ·have e : ((PS.start [c1, v1, 124, c2, v2]).upK (⟨#[50, 49]⟩ : ByteArray).data.toList (⟨#[50, 49]⟩ : ByteArray).data.toList.length).st = _ := (two_st h).2
  rw [e] at k
  exact race_two (a := ⟨1, 1, c2, v2⟩) (b := ⟨2, 0, c1, v1⟩) h.c2 h.c1 hv.symm (by simp) hc.symm k
theorem two_norace {p : ByteArray} {mks : List MK} (h : GoodP p mks) (hn : prL (accL mks) (accL mks).length = []) {F : List ST} {ts : List (Nat × List UInt8)} (hg : Prog p.data.toList F ts) (X : List UInt8) (k : Nat) : (runU F X k).race = 0 :=
 no_race hg (noOpen_of hn) h.acc (fun a ha => ((chk_md h.chk).2 a ha).td) X k
theorem held_split {l c1 v1 c2 v2 : UInt8} (h : TwoA c1 v1 c2 v2) (hl : inU [65, 66, 67, 68] l = true) : splitBar [91, l, c1, v1, 93, 124, 91, l, c2, v2, 93] = [[91, l, c1, v1, 93], [91, l, c2, v2, 93]] := by
 have l1 : (124 : UInt8) ≠ l := by rintro rfl; exact absurd hl (by decide)
 have e1 : (124 : UInt8) ∉ [91, l, c1, v1, 93] := by simp [(gp_ne h.c1).1.symm, (xyz_ne h.v1).1.symm, l1]
 have e2 : (124 : UInt8) ∉ [91, l, c2, v2, 93] := by simp [(gp_ne h.c2).1.symm, (xyz_ne h.v2).1.symm, l1]
 have := split_bar (s := [91, l, c2, v2, 93]) e1
 rw [split_none e2] at this
 exact this
theorem held_acs {l c1 v1 c2 v2 : UInt8} (h : TwoA c1 v1 c2 v2) : acs 1 [] [91, l, c1, v1, 93, 124, 91, l, c2, v2, 93] = [(1, c1, v1, [l]), (2, c2, v2, [l])] := by
 rw [acs_take (.inl rfl), acs_acc h.c1, acs_give (.inl rfl), acs_bar, acs_take (.inl rfl), acs_acc h.c2, acs_give (.inl rfl)]; rfl
theorem held_good {q : ByteArray} {l c1 v1 c2 v2 : UInt8} (h : TwoA c1 v1 c2 v2) (hl : inU [65, 66, 67, 68] l = true) (hq : q.data.toList = [91, l, c1, v1, 93, 124, 91, l, c2, v2, 93]) : ∃ mks, GoodP q mks ∧ prL (accL mks) (accL mks).length = [] := by
 have hmd : ∀ a ∈ splitBar [91, l, c1, v1, 93, 124, 91, l, c2, v2, 93], MD [] [] a := by
  rw [held_split h hl]
  intro a ha
  rcases List.mem_cons.1 ha with rfl | ha
  ·exact .take l hl rfl (.acc c1 v1 h.c1 h.v1 (.give l (.nil [])))
  ·rw [List.mem_singleton] at ha
   subst ha
   exact .take l hl rfl (.acc c2 v2 h.c2 h.v2 (.give l (.nil [])))
 obtain ⟨mks, ha, hn⟩ := md_prog (by rw [held_split h hl]; exact Nat.le_of_ble_eq_true rfl) hmd
 have hs : q.size = 11 := by rw [← len_eq, hq]; rfl
 have hi := marks_idx ha
 rw [held_acs h] at hi
 have hln : (accL mks).length = 2 := hi.1.symm
 have l1 : (60 : UInt8) ≠ l := by rintro rfl; exact absurd hl (by decide)
 refine ⟨mks, ⟨chk_of (by omega) (by rw [hq]; exact ha) hn, by rw [hq]; exact ha, ?_, by omega, by omega⟩, of_noOpen ((noOpen_iff ha).2 ?_)⟩
 ·rw [hq]
  simp [(gp_ne h.c1).2.symm, (gp_ne h.c2).2.symm, (xyz_ne h.v1).2.1.symm, (xyz_ne h.v2).2.1.symm, l1]
 ·rw [held_acs h]
  intro x hx y hy _ _ _
  refine ⟨l, inU_four hl, ?_, ?_⟩
  ·simp at hx; rcases hx with rfl | rfl <;> simp
  ·simp at hy; rcases hy with rfl | rfl <;> simp
end Go.Proofs.Ytdgkpkdinfklaaa
