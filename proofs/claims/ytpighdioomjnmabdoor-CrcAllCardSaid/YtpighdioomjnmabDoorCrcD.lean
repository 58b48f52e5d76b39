/-
  Layer 20: the contract of Take. Written by an AI agent.
-/
import Derived.Test.YtpighdioomjnmabDoorCrcC
import Derived.Laws.CopyOwn
import Derived.Deep.QuietTactic
import Derived.BigQuiet
namespace Go.Proofs.YtpighdioomjnmabDoor
open Go.RowKit

/-- What Take hands back where the check stands. -/
def Took (w : World) (l : List Nat) (e : Ending) (w' : World) : Prop :=
  ∃ A cap, e = .returned (.tuple #[.slice A l.length cap, .bool true]) ∧ Rd w' w'.heap.size A l ∧ Below w.heap.size w w'

theorem has_left {w : World} {b off : Nat} {x y : List Nat} (h : HasBytes w b off (x ++ y)) : HasBytes w b off x := fun i hi => by
  have hl : i < (x ++ y).length := by simp; omega
  rw [h i hl, getD_at _ hl, getD_at _ hi, List.getElem_append_left hi]
theorem has_right {w : World} {b off : Nat} {x y : List Nat} (h : HasBytes w b off (x ++ y)) : HasBytes w b (off + x.length) y := fun i hi => by
  have hl : x.length + i < (x ++ y).length := by simp; omega
  rw [Nat.add_assoc, h _ hl, getD_at _ hl, getD_at _ hi, List.getElem_append_right (by omega)]
  simp
theorem has_below {w w' : World} {B b off : Nat} {x : List Nat} (h : HasBytes w b off x) (hb : Below B w w') (hB : b < B) : HasBytes w' b off x := fun i hi =>
  (hb.cell (p := ⟨b, off + i, none⟩) hB).trans (h i hi)
theorem info5s : (Tryd.prog.info? 5).map (·.size) = some 1 := by kernel_rfl

theorem rd_block {w : World} {g : Nat} {x : List Nat} (h : w.heap[g]? = some (.cells (cellsOf x).toArray 5 (0, 0))) : Rd w w.heap.size (some ⟨g, 0, none⟩) x := fun _ => by
  have hlt : g < w.heap.size := by
    rcases Nat.lt_or_ge g w.heap.size with h' | h'
    · exact h'
    · rw [Array.getElem?_eq_none h'] at h; cases h
  refine ⟨g, 0, rfl, hlt, fun i hi => ?_⟩
  rw [Nat.zero_add, cell_of_row w g i _ 5 (0, 0) h, getD_at _ hi]
  simp [cellsOf, List.getElem?_eq_getElem hi]
theorem own_cur {w : World} {base g n cap : Nat} {xs : List Value} (h : w.ownsRow base 5 1 (.slice (some ⟨g, 0, none⟩) n cap) n xs) :
    ∃ cur : List Value, cur.length = cap ∧ w.heap[g]? = some (.cells cur.toArray 5 (0, 0)) := by
  rcases h.2 with ⟨e, _⟩ | ⟨g', cap', cur, e, _, hg, _, _, hs, _⟩
  · cases e
  · cases e
    exact ⟨cur.toList, by simpa using hs, by simpa using hg⟩

set_option maxHeartbeats 1000000 in
theorem take_ok (b off cap m : Nat) (x : List Nat) (w : World) (hxm : x.length = m) (hm : m ≤ 200000) (hcap : m + 4 ≤ cap) (hl : ∀ v ∈ x, v < 256) (hb : b < w.heap.size)
    (hc : HasBytes w b off (x ++ le4 (goN 0 x))) (ht : HasTab w) (h0 : 0 < w.heap.size) :
    Calls Tryd.prog 9 #[.slice (some ⟨b, off, none⟩) (m + 4) cap] w (Took w x) := by
  obtain ⟨i0, hi, hz0, hz1, hz2⟩ := info_parts info5
  have hcx := has_left hc
  have hcy := has_right hc
  have hr : Rd w w.heap.size (some ⟨b, off, none⟩) x := fun _ => ⟨b, off, rfl, hb, hcx⟩
  have HL4 := Lib.hid (last_rd w.heap.size cap (some ⟨b, off, none⟩) x w (by omega) hl hr ht (Nat.le_refl _) h0)
  have HY := Lib.hid hcy
  have HX := Lib.hid hcx
  clear hc ht hl hr hcx hcy
  obtain ⟨g, hgg⟩ : ∃ g : Nat, g = goN 0 x := ⟨_, rfl⟩
  rw [← hgg] at HL4 HY
  clear hgg
  rw [hxm] at HL4 HY
  have HM := Lib.hid hxm
  clear hxm
  have hn4 : ¬ cap = m := by omega
  go_enter Tryd.func9, Tryd.ntmps9
  go_wp2_with (go_at_call 16; refine HL4.out.mono ?_; rintro e w1 ⟨rfl, hb1⟩; simp only [arr4])
  obtain ⟨W, hW⟩ : ∃ W : World, W = w1.alloc (.cells #[.int .u8 ((g : Int) % 256), .int .u8 ((g : Int) / 256 % 256), .int .u8 ((g : Int) / 65536 % 256), .int .u8 ((g : Int) / 16777216)] 34) := ⟨_, rfl⟩
  have hR4 : Rd W (w1.heap.size + 1) (some ⟨w1.heap.size, 0, none⟩) (le4 g) := by rw [hW]; exact new4 w1 g
  have hbW : Below w.heap.size w W := by rw [hW]; exact hb1.alloc hb1.size _
  have hRy : Rd W w.heap.size (some ⟨b, off + m, none⟩) (le4 g) := fun _ => ⟨b, off + m, rfl, hb, has_below HY.out hbW hb⟩
  have EQ : ∀ n c d, Calls Tryd.prog 17 #[.slice (some ⟨b, off + m, none⟩) 4 c, .slice (some ⟨w1.heap.size, 0, none⟩) 4 d] (W.drewN n) fun e w' => e = .returned (.bool true) ∧ w' = W.drewN n := fun n c d =>
    (equal_any (W.drewN n) (strN (le4 g)) (strN (le4 g)) _ _ (conv_rd (W.drewN n) w.heap.size c _ (le4 g) hRy) (conv_rd (W.drewN n) (w1.heap.size + 1) d _ (le4 g) hR4)).mono fun e w' ⟨he, hw⟩ => ⟨by rw [he]; simp, hw⟩
  rw [← hW]
  clear hW hR4 hRy HY HL4
  have HE := Lib.hid EQ
  clear EQ
  have e9 : IntKind.i64.wrap ((m : Int) + 4 - 4) = (m : Int) := by rw [IntWalk.i64_in _ (by omega)]; omega
  have e10 : (0 : Int) ≤ (m : Int) := by omega
  have e11 : (m : Int) ≤ (m : Int) + 4 := by omega
  go_quiet ((go_at_call 17; exact Calls.quiet_of_same (HE.out _ _ _)))
  clear e9 e10 e11 HE
  have hbN : Below w.heap.size w (W.drewN nq) := hbW.trans ⟨rfl, rfl, rfl, Nat.le_refl _, fun _ _ => rfl⟩
  go_wp2_with (first
    | (at_make; refine wpList_make_full _ rfl _ _ 22 rfl w.heap.size 5 i0 _ 1 Tryd.underlying22 hi hz0 hz1 .i64 .i64 _ _ m rfl rfl (by omega) (by omega) (by rw [hz2]; omega) (by unfold maxLen; omega) hbN.size ?_
       intro w3 hown3 hg3
       obtain ⟨cur, hcl, hcg⟩ := own_cur hown3
       have HG := Lib.hid hcg
       clear hcg
       have hb3 : Below w.heap.size w w3 := hbN.grown hg3 hbN.size (by simp))
    | (refine wpList_copy_splice rfl (.tmp 28) (.tmp 29) 22 22 rfl 5 Tryd.underlying22 info5s (some ⟨W.heap.size, 0, none⟩) (some ⟨b, off, none⟩) m m m cap rfl rfl W.heap.size 0 cur 5 HG.out (cellsOf x) ?c1 ?c2 ?c3 (cellsOf_one x) w.heap.size w hb3 hbW.size ?_
       case c1 => rw [cellsOf_length, HM.out]; exact (Nat.min_self m).symm
       case c2 => exact fun _ => ⟨rfl, ⟨b, off, none⟩, rfl, fun j v hv => by
         obtain ⟨hj, rfl⟩ := cellsOf_at hv
         rw [show (⟨b, off, none⟩ : Addr).add j = ⟨b, off + j, none⟩ from by unfold Addr.add; split <;> simp_all]
         exact has_below HX.out hb3 hb j hj⟩
       case c3 => rw [cellsOf_length, HM.out, hcl]; omega
       intro w4 hh4 hb4))
  have hsp : splice cur 0 (cellsOf x) = cellsOf x := by
    unfold splice
    rw [cellsOf_length, HM.out, List.drop_of_length_le (by omega)]
    simp
  have hh5 := hh4.out
  rw [hsp] at hh5
  have hR := Lib.hid (rd_block hh5)
  clear hh5 hsp hh4
  go_ret2
  exact ⟨some ⟨W.heap.size, 0, none⟩, m, by rw [HM.out]; rfl, hR.out, hb4⟩
end Go.Proofs.YtpighdioomjnmabDoor
