/-
  Layer 20: what Take tells of bytes without their check. Written by an AI agent.
-/
import Derived.Test.YtpighdioomjnmabDoorCrcD
import Derived.Test.YtpighdioomjnmabDoorCrcN
namespace Go.Proofs.YtpighdioomjnmabDoor
open Go.RowKit

theorem strN_inj {a b : List Nat} (ha : ∀ v ∈ a, v < 256) (hb : ∀ v ∈ b, v < 256) (h : (strN a).toList = (strN b).toList) : a = b := by
  rw [ByteArray.toList_eq, ByteArray.toList_eq] at h
  unfold strN at h
  rw [strOfNums_data, strOfNums_data, List.map_map, List.map_map] at h
  have key : ∀ l : List Nat, (∀ v ∈ l, v < 256) → (l.map ((fun n : Int => UInt8.ofNat n.toNat) ∘ fun v : Nat => (v : Int))).map UInt8.toNat = l := by
    intro l hl
    rw [List.map_map]
    conv => rhs; rw [← List.map_id l]
    refine List.map_congr_left fun v hv => ?_
    have := hl v hv
    simp
    omega
  rw [← key a ha, ← key b hb, h]
theorem strN_ne {a b : List Nat} (ha : ∀ v ∈ a, v < 256) (hb : ∀ v ∈ b, v < 256) (h : a ≠ b) : ((strN a).toList == (strN b).toList) = false := by
  rw [beq_eq_false_iff_ne]
  exact fun e => h (strN_inj ha hb e)
theorem le4_inj {a b : Nat} (h : le4 a = le4 b) : a = b := by
  simp [le4] at h
  omega

/-- What Take hands back otherwise. -/
def NotTook (w : World) (e : Ending) (w' : World) : Prop := e = .returned (.tuple #[.slice none 0 0, .bool false]) ∧ Below w.heap.size w w'

set_option maxHeartbeats 400000 in
theorem take_short (A : Option Addr) (n cap : Nat) (hn : n < 4) (w : World) : Calls Tryd.prog 9 #[.slice A n cap] w (NotTook w) := by
  have h : (n : Int) < 4 := by omega
  go_enter Tryd.func9, Tryd.ntmps9
  go_wp2
  go_ret2
  exact ⟨rfl, Below.refl _ _⟩

set_option maxHeartbeats 1000000 in
theorem take_bad (b off cap m : Nat) (x y : List Nat) (w : World) (hxm : x.length = m) (hm : m ≤ 200000) (hcap : m + 4 ≤ cap) (hl : ∀ v ∈ x, v < 256) (hly : ∀ v ∈ y, v < 256) (hy4 : y.length = 4) (hne : y ≠ le4 (goN 0 x)) (hb : b < w.heap.size)
    (hc : HasBytes w b off (x ++ y)) (ht : HasTab w) (h0 : 0 < w.heap.size) :
    Calls Tryd.prog 9 #[.slice (some ⟨b, off, none⟩) (m + 4) cap] w (NotTook w) := by
  have hgl := le4_lt _ (goN_lt 0 x (by omega) hl)
  have hcx := has_left hc
  have hcy := has_right hc
  have hr : Rd w w.heap.size (some ⟨b, off, none⟩) x := fun _ => ⟨b, off, rfl, hb, hcx⟩
  have HL4 := Lib.hid (last_rd w.heap.size cap (some ⟨b, off, none⟩) x w (by omega) hl hr ht (Nat.le_refl _) h0)
  have HY := Lib.hid hcy
  clear hc ht hl hr hcx hcy
  obtain ⟨g, hgg⟩ : ∃ g : Nat, g = goN 0 x := ⟨_, rfl⟩
  rw [← hgg] at HL4 hne hgl
  have hbeq := strN_ne hly hgl hne
  clear hne hgl hly
  clear hgg
  rw [hxm] at HL4 HY
  clear hxm
  have hn4 : ¬ cap = m := by omega
  go_enter Tryd.func9, Tryd.ntmps9
  go_wp2_with (go_at_call 16; refine HL4.out.mono ?_; rintro e w1 ⟨rfl, hb1⟩; simp only [arr4])
  obtain ⟨W, hW⟩ : ∃ W : World, W = w1.alloc (.cells #[.int .u8 ((g : Int) % 256), .int .u8 ((g : Int) / 256 % 256), .int .u8 ((g : Int) / 65536 % 256), .int .u8 ((g : Int) / 16777216)] 34) := ⟨_, rfl⟩
  have hR4 : Rd W (w1.heap.size + 1) (some ⟨w1.heap.size, 0, none⟩) (le4 g) := by rw [hW]; exact new4 w1 g
  have hbW : Below w.heap.size w W := by rw [hW]; exact hb1.alloc hb1.size _
  have hRy : Rd W w.heap.size (some ⟨b, off + m, none⟩) y := fun _ => ⟨b, off + m, rfl, hb, has_below HY.out hbW hb⟩
  have EQ : ∀ n c d, Calls Tryd.prog 17 #[.slice (some ⟨b, off + m, none⟩) 4 c, .slice (some ⟨w1.heap.size, 0, none⟩) 4 d] (W.drewN n) fun e w' => e = .returned (.bool false) ∧ w' = W.drewN n := fun n c d => by
    have h := conv_rd (W.drewN n) w.heap.size c _ y hRy
    rw [hy4] at h
    exact
    (equal_any (W.drewN n) (strN y) (strN (le4 g)) _ _ h (conv_rd (W.drewN n) (w1.heap.size + 1) d _ (le4 g) hR4)).mono fun e w' ⟨he, hw⟩ => ⟨by rw [he, hbeq], hw⟩
  rw [← hW]
  clear hW hR4 hRy HY HL4 hbeq
  have HE := Lib.hid EQ
  clear EQ
  have e9 : IntKind.i64.wrap ((m : Int) + 4 - 4) = (m : Int) := by rw [IntWalk.i64_in _ (by omega)]; omega
  have e10 : (0 : Int) ≤ (m : Int) := by omega
  have e11 : (m : Int) ≤ (m : Int) + 4 := by omega
  go_quiet ((go_at_call 17; exact Calls.quiet_of_same (HE.out _ _ _)))
  clear e9 e10 e11 HE
  have hbN := Lib.hid (hbW.trans (show Below w.heap.size W (W.drewN nq) from ⟨rfl, rfl, rfl, Nat.le_refl _, fun _ _ => rfl⟩))
  go_wp2
  go_ret2
  exact ⟨rfl, hbN.out⟩
end Go.Proofs.YtpighdioomjnmabDoor
