import Derived.Test.YtnpkambjlfkhgaaMkC
import Derived.Deep.LoopGhost
namespace Go.Proofs.Ytnpkambjlfkhgaa
open Go.RowKit

/-- The maker while a thread is made. -/
structure Mid (w wr : World) (mb : Nat) (la : Option Addr) (ln lc t k : Nat) (todo : ByteArray) : Prop where
  mid : ∃ text opn at_ ac, MM wr mb la ln lc at_ text opn ac ∧ Gen t text.data.toList todo.data.toList opn.data.toList ∧ k = 10 * (200 - text.size) + todo.size
  below : Below mb w wr
  kb : k ≤ 2001

theorem head_data (s : ByteArray) (h : 0 < s.size) : s.data.toList = s[0] :: (s.extract 1 s.size).data.toList := by
  rw [tail_data]
  exact List.drop_eq_getElem_cons (l := s.data.toList) (i := 0) (by simpa using h)

theorem gen_sizes {t : Nat} {text todo opn : ByteArray} (h : Gen t text.data.toList todo.data.toList opn.data.toList) : text.size ≤ 184 ∧ opn.size ≤ 184 := by
  have h1 := h.bound
  have h2 := h.t4
  have h3 := h.shut
  rw [len_eq] at h1 h3
  have h4 : shuts todo.data.toList ≤ lits todo.data.toList := by
    unfold shuts lits
    generalize todo.data.toList = l
    induction l with
    | nil => exact Nat.le_refl _
    | cons x r ih =>
      by_cases hx : x = 93
      · subst hx; simp; simpa using ih
      · by_cases hy : x = 66
        · subst hy; simpa using ih
        · simp [hx, hy]; omega
  omega

/-- Behind a thread. -/
def ThreadOut (w w' : World) (mb : Nat) (la : Option Addr) (ln lc t : Nat) : Prop :=
  ∃ text' opn' at' ac', MM w' mb la ln lc at' text' opn' ac' ∧ Gen t text'.data.toList [] opn'.data.toList ∧ Below mb w w'

set_option maxHeartbeats 3200000 in
set_option maxRecDepth 100000 in
theorem thread_any (mb : Nat) (la : Option Addr) (ln lc at_ t : Nat) (text opn : ByteArray) (ac : Nat) (w : World) (h : MM w mb la ln lc at_ text opn ac) (hg : Gen t text.data.toList [66] opn.data.toList) :
    Calls Try.prog 25 #[.pointer (some ⟨mb, 0, none⟩)] w fun e w' => e = .returned (.tuple #[]) ∧ ThreadOut w w' mb la ln lc t := by
  have HM : Hid (MM w mb la ln lc at_ text opn ac) := h
  have HG : Hid (Gen t text.data.toList [66] opn.data.toList) := hg
  clear h hg
  go_enter Try.func25, Try.ntmps25
  go_wp2
  go_loopg [2] (10 * (200 - text.size) + 1) (fun k tv wr => ∃ todo : ByteArray, tv = .string todo ∧ Mid w wr mb la ln lc t k todo)
  case atStart => exact ⟨⟨#[66]⟩, rfl, ⟨text, opn, at_, ac, HM.out, HG.out, rfl⟩, Below.refl _ _, by omega⟩
  case round =>
    obtain ⟨todo, rfl, ⟨tx, op, at1, ac1, hm, hg, hk⟩, hbe, hkb⟩ := hrel
    have htd : todo.size ≤ 2001 := by omega
    obtain ⟨hts, hops⟩ := gen_sizes hg
    have HG1 : Hid (Gen t tx.data.toList todo.data.toList op.data.toList) := hg
    have HM1 : Hid (MM wr mb la ln lc at1 tx op ac1) := hm
    have HB1 : Hid (Below mb w wr) := hbe
    have c2 := hm.c2
    have c3 := hm.c3
    have f2 := hm.fz 2
    have f3 := hm.fz 3
    have hlt := hm.lt
    have hk' : Hid (gk = 10 * (200 - tx.size) + todo.size) := hk
    clear hg hm hbe hk
    by_cases h0 : todo.size = 0
    · have hf0 : todo = ⟨#[]⟩ := by
        apply ByteArray.ext
        exact Array.eq_empty_of_size_eq_zero h0
      subst hf0
      go_wp2
      go_end0
      exact ⟨rfl, tx, op, at1, ac1, HM1.out, HG1.out, HB1.out⟩
    · have hne := ne_empty todo (by omega)
      have hpos : 0 < todo.size := by omega
      have hhd := head_data todo hpos
      have hxs : (todo.extract 1 todo.size).size = todo.size - 1 := by simp
      by_cases h66 : todo[0] = 66
      · have b66 : ((todo[0].toNat : Int) != 66) = false := by rw [h66]; rfl
        have HG2 : Hid (Gen t tx.data.toList (66 :: (todo.extract 1 todo.size).data.toList) op.data.toList) := by
          have := HG1.out; rw [hhd, h66] at this; exact this
        clear hhd h66
        go_wp2_with fail
        refine (command_any mb la ln lc at1 tx op ac1 wr HM1.out (by omega)).mono ?_
        rintro e w2 ⟨s, more, op', at2, ac2, rfl, hm2, hb2, hss, hms, hcase⟩
        have HM2 : Hid (MM w2 mb la ln lc at2 tx op' ac2) := hm2
        have HB2 : Hid (Below mb w w2) := HB1.out.trans hb2
        have d2 := hm2.c2
        have e2 := hm2.fz 2
        clear hm2 hb2 c2 c3 f2 f3
        rcases hcase with ⟨hs0, rfl⟩ | ⟨h70, hsne, hcmd⟩
        · have hs1 : s = ⟨#[]⟩ := by
            apply ByteArray.ext
            apply Array.toList_inj.1
            exact hs0
          subst hs1
          go_wp2
          go_roundg (10 * (200 - tx.size) + (todo.size - 1))
          case measure => have := hk'.out; omega
          case rel => exact ⟨todo.extract 1 todo.size, rfl, ⟨tx, op', at2, ac2, HM2.out, HG2.out.endB, by rw [hxs]⟩, HB2.out, by have := hk'.out; omega⟩
        · have hsp : 0 < s.size := by
            have e1 := len_eq s
            have : s.data.toList.length ≠ 0 := fun e0 => hsne (List.eq_nil_of_length_eq_zero e0)
            omega
          have hsn := ne_empty s hsp
          have HG3 : Hid (Gen t (tx ++ s).data.toList (((more ++ (⟨#[66]⟩ : ByteArray)) ++ todo.extract 1 todo.size).data.toList) op'.data.toList) := by
            show Gen t (tx ++ s).data.toList (((more ++ (⟨#[66]⟩ : ByteArray)) ++ todo.extract 1 todo.size).data.toList) op'.data.toList
            have := HG2.out.cmd hcmd (by rw [len_eq]; exact h70)
            rw [cat_data, cat_data, cat_data, List.append_assoc]
            exact this
          have hsz2 := (gen_sizes HG3.out).1
          have HM3 : Hid (MM (w2.setCell ⟨mb, 2, none⟩ (.string (tx ++ s))) mb la ln lc at2 (tx ++ s) op' ac2) := HM2.out.setText _ (by omega)
          have hcat : (tx ++ s).size = tx.size + s.size := ByteArray.size_append
          have htodo : (((more ++ (⟨#[66]⟩ : ByteArray)) ++ todo.extract 1 todo.size)).size = more.size + 1 + (todo.size - 1) := by
            rw [ByteArray.size_append, ByteArray.size_append, hxs]; rfl
          have HCAT : Hid ((tx ++ s).size = tx.size + s.size) := hcat
          have HTODO : Hid ((((more ++ (⟨#[66]⟩ : ByteArray)) ++ todo.extract 1 todo.size)).size = more.size + 1 + (todo.size - 1)) := htodo
          rw [hcat] at hsz2
          clear hcat htodo hcmd hsne hxs
          go_wp2
          go_roundg (10 * (200 - (tx.size + s.size)) + (more.size + 1 + (todo.size - 1)))
          case measure => have := hk'.out; omega
          case rel => exact ⟨_, rfl, ⟨tx ++ s, op', at2, ac2, HM3.out, HG3.out, by rw [HCAT.out, HTODO.out]⟩, HB2.out.setCell (by simp) _, by have := hk'.out; omega⟩
      · have b66 : ((todo[0].toNat : Int) != 66) = true := by have := u8g h66; simp only [bne]; exact congrArg not this
        obtain ⟨ee, hee⟩ : ∃ ee, ee = todo[0] := ⟨_, rfl⟩
        have HGE : Hid (Gen t tx.data.toList (ee :: (todo.extract 1 todo.size).data.toList) op.data.toList) := by
          have := HG1.out; rw [hhd, ← hee] at this; exact this
        have hel : ee = 93 ∨ ee = 125 ∨ ee = 123 := by
          have hok := HGE.out.ok
          cases hok with
          | lit he _ => exact he
          | b _ _ => exact absurd hee.symm h66
        have he66 : ee ≠ 66 := by rw [hee]; exact h66
        have HGL := HGE.out.lit he66
        have hcat1 : (tx ++ (⟨#[ee]⟩ : ByteArray)).data.toList = tx.data.toList ++ [ee] := by rw [cat_data]
        rw [← hcat1] at HGL
        have hszc : (tx ++ (⟨#[ee]⟩ : ByteArray)).size = tx.size + 1 := by rw [ByteArray.size_append]; rfl
        have HM2 : Hid (MM ((wr.setCell ⟨mb, 2, none⟩ (.string (tx ++ (⟨#[ee]⟩ : ByteArray)))).alloc (.cells #[.int .u8 (ee.toNat : Int)] 5)) mb la ln lc at1 (tx ++ (⟨#[ee]⟩ : ByteArray)) op ac1) :=
          (HM1.out.setText _ (by omega)).below ((Below.refl _ _).alloc (Nat.le_refl _) _)
        have HB2 : Hid (Below mb w ((wr.setCell ⟨mb, 2, none⟩ (.string (tx ++ (⟨#[ee]⟩ : ByteArray)))).alloc (.cells #[.int .u8 (ee.toNat : Int)] 5))) := (HB1.out.setCell (p := ⟨mb, 2, none⟩) (Nat.le_refl _) _).alloc (by simp [World.setCell]; omega) _
        have hcv : (convert 52 9 (.slice (some ⟨wr.heap.size, 0, none⟩) 1 1)).run Try.prog (wr.alloc (.cells #[.int .u8 (ee.toNat : Int)] 5)).drew = .ok (.string ⟨#[ee]⟩) (wr.alloc (.cells #[.int .u8 (ee.toNat : Int)] 5)).drew := by
          refine run_convert_bytes_back (P := Try.prog) _ 52 9 5 ⟨wr.heap.size, 0, none⟩ 1 [ee] Try.underlying52 Try.underlying5 Try.underlying9 (fun j hj => ?_)
          have hj0 : j = 0 := by simpa using hj
          subst hj0
          rw [addr_at]
          show (wr.alloc _).cell? _ = _
          rw [World.cell?_alloc_at _ _ _ _ rfl]
          rfl
        have HS : Hid (todo[0] = ee) := hee.symm
        have hb' : ((todo[0].toNat : Int)) = (ee.toNat : Int) := by rw [hee]
        have hmeas : 10 * (200 - (tx.size + 1)) + (todo.size - 1) < gk := by have := hk'.out; omega
        clear hhd h66 HGE HG1
        by_cases h93 : ee = 93
        · have b93 : ((ee.toNat : Int) == 93) = true := by rw [h93]; rfl
          rw [if_pos h93] at HGL
          have HGL1 : Hid (Gen t (tx ++ (⟨#[ee]⟩ : ByteArray)).data.toList (todo.extract 1 todo.size).data.toList op.data.toList.dropLast) := HGL
          clear HGL hcat1 hel he66 hee h93
          by_cases hop : op.size = 0
          · have hop0 : op = ⟨#[]⟩ := by
              apply ByteArray.ext
              exact Array.eq_empty_of_size_eq_zero hop
            subst hop0
            go_wp2
            go_region
            all_goals
              go_wp2
              go_roundg (10 * (200 - (tx.size + 1)) + (todo.size - 1))
              case measure => exact hmeas
              case rel => exact ⟨_, rfl, ⟨tx ++ (⟨#[ee]⟩ : ByteArray), ⟨#[]⟩, at1, ac1, HM2.out.drew, HGL1.out, by rw [hszc, hxs]⟩, HB2.out.drew, by omega⟩
          · have hopn := ne_empty op (by omega)
            have HX : Hid ((op.extract 0 (op.size - 1)).data.toList = op.data.toList.dropLast) := by
              show (op.extract 0 (op.size - 1)).data.toList = op.data.toList.dropLast
              rw [Lib.extract_data, List.drop_zero, List.dropLast_eq_take]
              simp
            have hxs2 : (op.extract 0 (op.size - 1)).size ≤ 240 := by simp; omega
            obtain ⟨w2, hw2⟩ : ∃ w2, w2 = ((wr.setCell ⟨mb, 2, none⟩ (.string (tx ++ (⟨#[ee]⟩ : ByteArray)))).alloc (.cells #[.int .u8 (ee.toNat : Int)] 5)).drew := ⟨_, rfl⟩
            have HM3 : Hid (MM w2 mb la ln lc at1 (tx ++ (⟨#[ee]⟩ : ByteArray)) op ac1) := by rw [hw2]; exact HM2.out.drew
            have HB3 : Hid (Below mb w w2) := by rw [hw2]; exact HB2.out.drew
            have HW2 : Hid (w2 = ((wr.setCell ⟨mb, 2, none⟩ (.string (tx ++ (⟨#[ee]⟩ : ByteArray)))).alloc (.cells #[.int .u8 (ee.toNat : Int)] 5)).drew) := hw2
            have HM4 : Hid (MM (w2.setCell ⟨mb, 3, none⟩ (.string (op.extract 0 (op.size - 1)))) mb la ln lc at1 (tx ++ (⟨#[ee]⟩ : ByteArray)) (op.extract 0 (op.size - 1)) ac1) := HM3.out.setOpen _ hxs2
            clear hw2
            go_wp2
            go_region
            all_goals
              rw [← HW2.out]
              have e3 := HM3.out.c3
              have z3 := HM3.out.fz 3
              go_wp2
              go_region
              all_goals
                go_wp2
                go_roundg (10 * (200 - (tx.size + 1)) + (todo.size - 1))
                case measure => exact hmeas
                case rel => exact ⟨_, rfl, ⟨_, _, at1, ac1, HM4.out.drew, by rw [HX.out]; exact HGL1.out, by rw [hszc, hxs]⟩, (HB3.out.setCell (p := ⟨mb, 3, none⟩) (Nat.le_refl _) _).drew, by omega⟩
        · have b93 : ((ee.toNat : Int) == 93) = false := u8g h93
          rw [if_neg h93] at HGL
          have HGL1 : Hid (Gen t (tx ++ (⟨#[ee]⟩ : ByteArray)).data.toList (todo.extract 1 todo.size).data.toList op.data.toList) := HGL
          clear HGL hcat1 hel he66 hee h93
          go_wp2
          go_region
          all_goals
            go_wp2
            go_roundg (10 * (200 - (tx.size + 1)) + (todo.size - 1))
            case measure => exact hmeas
            case rel => exact ⟨_, rfl, ⟨_, _, at1, ac1, HM2.out.drew, HGL1.out, by rw [hszc, hxs]⟩, HB2.out.drew, by omega⟩

end Go.Proofs.Ytnpkambjlfkhgaa
