import Derived.Test.YtnpkambjlfkhgaaStripB
namespace Go.Proofs.Ytnpkambjlfkhgaa
open Go.RowKit

/-- The names of the first k of five locks that are held. -/
def nm (h : Nat → Bool) : Nat → List UInt8
  | 0 => []
  | k + 1 => nm h k ++ (if h k then [UInt8.ofNat (65 + k)] else [])

theorem nm_len (h : Nat → Bool) (k : Nat) : (nm h k).length ≤ k := by
  induction k with
  | zero => exact Nat.le_refl _
  | succ k ih =>
    rw [nm]
    split
    · simp; omega
    · simp; omega

def hOf (m : MK) : Nat → Bool
  | 0 => m.h0
  | 1 => m.h1
  | 2 => m.h2
  | 3 => m.h3
  | _ => m.h4

/-- An access, as it lies in memory. -/
def accV (m : MK) : List Value := [.int .i64 m.thread, .int .i64 m.place, .int .i64 m.num, .bool (m.kind == 2), .string ⟨(nm (hOf m) 5).toArray⟩]
def isAcc (m : MK) : Bool := !(m.kind == 3)
def accL (l : List MK) : List MK := l.filter isAcc
def accsV (l : List MK) : List Value := l.flatMap accV

theorem accsV_append (a b : List MK) : accsV (a ++ b) = accsV a ++ accsV b := by simp [accsV]
theorem accsV_length (a : List MK) : (accsV a).length = a.length * 5 := by
  induction a with
  | nil => rfl
  | cons x r ih => simp [accsV, accV] at ih ⊢; omega

theorem ofNat_toNat (k : Nat) (h : k < 5) : ((UInt8.ofNat (65 + k)).toNat : Int) = 65 + (k : Int) := by
  rw [UInt8.toNat_ofNat_of_lt' (by show 65 + k < 256; omega)]; omega

set_option maxHeartbeats 1600000 in
set_option maxRecDepth 100000 in
theorem lockNames_any (m : MK) (w : World) :
    Calls Try.prog 28 #[.agg #[.bool m.h0, .bool m.h1, .bool m.h2, .bool m.h3, .bool m.h4]] w fun e w' => e = .returned (.string ⟨(nm (hOf m) 5).toArray⟩) ∧ Below w.heap.size w w' := by
  obtain ⟨i0, hi0, hz0, hz1, hz2⟩ := info_parts Try.infoByte
  obtain ⟨H, hH⟩ : ∃ H, H = w.heap.size := ⟨_, rfl⟩
  have hcells : ∀ k, k < 5 → (w.alloc (.cells #[.bool m.h0, .bool m.h1, .bool m.h2, .bool m.h3, .bool m.h4] 62)).cell? ⟨w.heap.size, k, none⟩ = some (.bool (hOf m k)) := by
    intro k hk
    have h6 : k = 0 ∨ k = 1 ∨ k = 2 ∨ k = 3 ∨ k = 4 := by omega
    rcases h6 with rfl | rfl | rfl | rfl | rfl <;> (rw [World.cell?_alloc_at _ _ _ _ rfl]; rfl)
  have HC : Hid (∀ k, k < 5 → (w.alloc (.cells #[.bool m.h0, .bool m.h1, .bool m.h2, .bool m.h3, .bool m.h4] 62)).cell? ⟨w.heap.size, k, none⟩ = some (.bool (hOf m k))) := hcells
  clear hcells hH H
  go_enter Try.func28, Try.ntmps28
  go_wp2
  go_loopw [3, 4] (fun v i wr => ∃ k : Nat, k ≤ 5 ∧ i = .int .i64 k ∧ wr.ownsRow (w.heap.size + 1) 5 1 v (nm (hOf m) k).length (byV (nm (hOf m) k)) ∧ Below (w.heap.size + 1) (w.alloc (.cells #[.bool m.h0, .bool m.h1, .bool m.h2, .bool m.h3, .bool m.h4] 62)) wr) (fun _ i _ => 5 - (intOf i).toNat)
  case atStart => exact ⟨0, by decide, rfl, World.ownsRow_nil _ _ _ _, Below.refl _ _⟩
  case round =>
    obtain ⟨k, hk, rfl, hown, hbe⟩ := hrel
    have HO : Hid (wr.ownsRow (w.heap.size + 1) 5 1 u3 (nm (hOf m) k).length (byV (nm (hOf m) k))) := hown
    have hl := nm_len (hOf m) k
    have hsz := hbe.size
    rw [show (w.alloc (.cells #[.bool m.h0, .bool m.h1, .bool m.h2, .bool m.h3, .bool m.h4] 62)).heap.size = w.heap.size + 1 by simp] at hsz
    clear hown
    by_cases hlt : k < 5
    · have hc := (hbe.cell (p := ⟨w.heap.size, k, none⟩) (by simp)).trans (HC.out k hlt)
      have HB : Hid (Below (w.heap.size + 1) (w.alloc (.cells #[.bool m.h0, .bool m.h1, .bool m.h2, .bool m.h3, .bool m.h4] 62)) wr) := hbe
      clear hbe
      cases hb : hOf m k with
      | true =>
        rw [hb] at hc
        have HN : Hid (nm (hOf m) (k + 1) = nm (hOf m) k ++ [UInt8.ofNat (65 + k)]) := by show nm (hOf m) (k + 1) = _; rw [nm, hb]; rfl
        have HU : Hid (((UInt8.ofNat (65 + k)).toNat : Int) = 65 + (k : Int)) := ofNat_toNat k hlt
        clear hb
        obtain ⟨l, hll⟩ : ∃ l, l = nm (hOf m) k := ⟨_, rfl⟩
        rw [← hll] at HO hl HN
        have HLL : Hid (l = nm (hOf m) k) := hll
        clear hll
        go_wp2_with (at_builtin; refine wpList_append_own _ rfl (.tmp 12) (.tmp 16) 52 rfl (w.heap.size + 1) 5 i0 _ 1 1 Try.underlying52 hi0 hz0 hz1 hz2 rfl (by decide) u3 l.length (byV l) rfl (HO.out.alloc _) ⟨wr.heap.size, 0, none⟩ 1 1 [.int .u8 (65 + (k : Int))] rfl rfl ?hnews ?h1 ?h63 ?hby ?hbase ?next)
        case hnews => exact cell_one_new _ _ _
        case h1 => intro u hu; simp at hu; subst hu; rfl
        case h63 => unfold maxLen; omega
        case hby => omega
        case hbase => simp; omega
        case next =>
          intro v' w1 hown1 hgrow _
          have hbe1 : Hid (Below (w.heap.size + 1) (w.alloc (.cells #[.bool m.h0, .bool m.h1, .bool m.h2, .bool m.h3, .bool m.h4] 62)) w1) := (HB.out.alloc (by omega) _).grown hgrow (by simp; omega) (fun q hq => (HO.out.lt q hq).1)
          have HO1 : Hid (w1.ownsRow (w.heap.size + 1) 5 1 v' (nm (hOf m) (k + 1)).length (byV (nm (hOf m) (k + 1)))) := by
            show w1.ownsRow (w.heap.size + 1) 5 1 v' (nm (hOf m) (k + 1)).length (byV (nm (hOf m) (k + 1)))
            rw [HN.out]
            have : byV (l ++ [UInt8.ofNat (65 + k)]) = byV l ++ [.int .u8 (65 + (k : Int))] := by
              simp only [byV, List.map_append, List.map_cons, List.map_nil]
              rw [HU.out]
            rw [this, List.length_append]; exact hown1
          clear hown1 hgrow
          go_wp2
          go_roundw
          case rel => exact ⟨k + 1, by omega, by go_num, HO1.out, hbe1.out⟩
          case measure => simp [intOf]; omega
      | false =>
        rw [hb] at hc
        have HN : Hid (nm (hOf m) (k + 1) = nm (hOf m) k) := by show nm (hOf m) (k + 1) = _; rw [nm, hb]; simp
        clear hb
        go_wp2
        go_roundw
        case rel => exact ⟨k + 1, by omega, by go_num, by rw [HN.out]; exact HO.out, HB.out⟩
        case measure => simp [intOf]; omega
    · have hk5 : k = 5 := by omega
      subst hk5
      have HB : Hid (Below w.heap.size w wr) := ((Below.refl _ _).alloc (Nat.le_refl _) _).trans (hbe.mono (by omega))
      clear hbe hlt
      obtain ⟨l, hll⟩ : ∃ l, l = nm (hOf m) 5 := ⟨_, rfl⟩
      have HLL : Hid (l = nm (hOf m) 5) := hll
      rw [← hll] at HO hl
      clear hll
      rcases HO.out.2 with ⟨hv, hn0⟩ | ⟨gb, cap, cur, hv, _⟩
      · have ho : l = [] := List.eq_nil_of_length_eq_zero hn0
        subst hv
        subst ho
        have hcv := fun (wx : World) => run_convert_bytes_nil (P := Try.prog) wx 52 5 Try.underlying52 Try.underlying5 0 0 9 Try.underlying9
        go_wp2
        go_ret
        exact ⟨by rw [← HLL.out]; rfl, HB.out⟩
      · subst hv
        have hcv := run_convert_bytes_back (P := Try.prog) wr 52 9 5 ⟨gb, 0, none⟩ cap l Try.underlying52 Try.underlying5 Try.underlying9 (fun j hj => by
          rw [addr_at]
          have := HO.out.cellAt j (by omega)
          rw [this]
          simp [byV, List.getElem?_eq_getElem hj])
        go_wp2
        go_ret
        exact ⟨by rw [← HLL.out]; rfl, HB.out⟩

end Go.Proofs.Ytnpkambjlfkhgaa
