/-
  Layer 20: the document's Put and Take. Written by an AI agent.
-/
import Derived.Test.YtpighdioomjnmabDoorCrcR
import Derived.Deep.RegionHeld3
namespace Go.Proofs.YtpighdioomjnmabDoor
open Go.RowKit

set_option maxHeartbeats 400000 in
theorem ref_go_nil (A : Option Addr) (cap : Nat) (c : Nat) (w : World) (hcc : c < 4294967296) :
    Calls Tryd.prog 12 #[.int .u32 (c : Int), .slice A 0 cap] w fun e w' => e = .returned (.int .u32 (c : Int)) ∧ w = w' := by
  have e0 : bits BinOp.xor IntKind.u32 IntKind.u32.max (c : Int) = ((c ^^^ 4294967295 : Nat) : Int) := by
    have := u32_xor_nat 4294967295 c (by omega) hcc
    rw [Nat.xor_comm]
    exact this
  have e1 : bits BinOp.xor IntKind.u32 IntKind.u32.max ((c ^^^ 4294967295 : Nat) : Int) = (c : Int) := by
    have := u32_xor_nat 4294967295 (c ^^^ 4294967295) (by omega) (xor_lt hcc (by omega))
    rw [Nat.xor_comm 4294967295 (c ^^^ 4294967295), Nat.xor_assoc, Nat.xor_self, Nat.xor_zero] at this
    exact this
  obtain ⟨d, hd⟩ : ∃ d : Nat, d = c ^^^ 4294967295 := ⟨_, rfl⟩
  rw [← hd] at e0 e1
  clear hd
  go_enter Tryd.func12, Tryd.ntmps12
  go_wp2
  go_loop [5, 6] (fun r i => i = .int .i64 0 ∧ r = .int .u32 (d : Int)) (fun _ i => 0)
  case atStart => exact ⟨rfl, rfl⟩
  case round =>
    obtain ⟨rfl, rfl⟩ := hrel
    go_wp2
    go_ret
    exact ⟨rfl, rfl⟩
theorem ref_go_rd (B cap : Nat) (A : Option Addr) (l : List Nat) (c : Nat) (w : World) (hm : l.length ≤ 9223372036854775807) (hcc : c < 4294967296) (hl : ∀ v ∈ l, v < 256)
    (hc : Rd w B A l) :
    Calls Tryd.prog 12 #[.int .u32 (c : Int), .slice A l.length cap] w fun e w' => e = .returned (.int .u32 ((goN c l : Nat) : Int)) ∧ w = w' := by
  rcases l with _ | ⟨v, l⟩
  · rw [goN_nil]
    exact ref_go_nil A cap c w hcc
  · obtain ⟨b, off, rfl, _, h⟩ := hc (by simp)
    exact ref_go_any b off cap (v :: l) c w hm hcc hl h
theorem ref_go_zero (B cap : Nat) (A : Option Addr) (l : List Nat) (w : World) (hm : l.length ≤ 9223372036854775807) (hl : ∀ v ∈ l, v < 256) (hc : Rd w B A l) :
    Calls Tryd.prog 12 #[.int .u32 0, .slice A l.length cap] w fun e w' => e = .returned (.int .u32 ((goN 0 l : Nat) : Int)) ∧ w = w' := ref_go_rd B cap A l 0 w hm (by omega) hl hc
theorem new4s (w : World) (g : Nat) : Rd (w.alloc (.cells #[.int .u8 ((g : Int) % 256), .int .u8 ((g : Int) / 256 % 256), .int .u8 ((g : Int) / 65536 % 256), .int .u8 ((g : Int) / 16777216)] 5)) (w.heap.size + 1) (some ⟨w.heap.size, 0, none⟩) (le4 g) := fun _ => by
  refine ⟨w.heap.size, 0, rfl, by omega, fun i hi => ?_⟩
  have : i = 0 ∨ i = 1 ∨ i = 2 ∨ i = 3 := by simp [le4] at hi; omega
  rcases this with rfl | rfl | rfl | rfl <;> simp [le4]

set_option maxHeartbeats 1000000 in
theorem ref_put_rd (B cap : Nat) (A : Option Addr) (l : List Nat) (w : World) (hm : l.length ≤ 100000) (hA : A = none → cap = 0) (hl : ∀ v ∈ l, v < 256)
    (hc : Rd w B A l) (hB : B ≤ w.heap.size) :
    Calls Tryd.prog 15 #[.slice A l.length cap] w (Gives w (l ++ le4 (goN 0 l))) := by
  obtain ⟨i0, hi, hz0, hz1, hz2⟩ := info_parts info5
  have hg := goN_lt 0 l (by omega) hl
  have HG := Lib.hid (ref_go_zero B cap A l w (by omega) hl hc)
  have HC := Lib.hid hc
  have HA := Lib.hid hA
  clear hc hA hl
  obtain ⟨g, hgg⟩ : ∃ g : Nat, g = goN 0 l := ⟨_, rfl⟩
  rw [← hgg] at hg HG ⊢
  clear hgg
  go_enter Tryd.func15, Tryd.ntmps15
  go_wp2_with fail
  refine HG.out.mono ?_
  rintro e w1 ⟨rfl, rfl⟩
  have own0 : (w.alloc (.cells #[] 5)).ownsRow w.heap.size 5 1 (.slice (some ⟨w.heap.size, 0, none⟩) 0 0) ([] : List Nat).length (cellsOf []) := World.ownsRow_lit w #[] 0 (Nat.le_refl _) (by unfold maxLen; omega) rfl
  have hb1 : Below w.heap.size w (w.alloc (.cells #[] 5)) := (Below.refl _ _).alloc (Nat.le_refl _) _
  go_wp2_with (first
    | (at_builtin; refine wpList_append_rd rfl (.tmp 6) (.tmp 7) rfl w.heap.size i0 hi hz0 hz1 hz2 (.slice (some ⟨w.heap.size, 0, none⟩) 0 0) [] rfl own0 B A cap l rfl HA.out (HC.out.below (hb1.mono hB)) (by simp; omega) hb1.size ?_
       intro v2 w2 hown2 hg2
       have hb2 : Below w.heap.size w w2 := hb1.grown hg2 hb1.size (fun k hk => (own0.lt k hk).1))
    | (at_builtin; refine wpList_append_rd rfl (.tmp 8) (.tmp 20) rfl w.heap.size i0 hi hz0 hz1 hz2 v2 ([] ++ l) rfl (hown2.alloc _) (w2.heap.size + 1) (some ⟨w2.heap.size, 0, none⟩) 4 (le4 g) rfl (by simp) (new4s w2 g) (by simp [le4]; omega) (by have := hb2.size; simp; omega) ?_
       intro v5 w5 hown5 hg5))
  rw [List.nil_append] at hown5
  have hb5 : Below w.heap.size w w5 := (hb2.alloc hb2.size _).grown hg5 (by have := hb2.size; simp; omega) (fun k hk => (hown2.lt k hk).1)
  obtain ⟨A5, cap5, hv5, q1, q2, q3, _, q4⟩ := rd_own hown5
  have H5 := Lib.hid hv5
  clear hv5
  go_ret
  exact ⟨A5, cap5, congrArg Ending.returned H5.out, q1, q2, q3, q4, hb5⟩

theorem keep_below {W w1 w2 : World} (h : Below W.heap.size W w1) (h2 : Below w1.heap.size w1 w2) : Below W.heap.size W w2 := h.trans (h2.mono h.size)
theorem below_of_drew {W w2 : World} (h : Below W.drew.heap.size W.drew w2) : Below W.heap.size W w2 := ⟨h.os, h.tape, h.output, h.size, h.block⟩

set_option maxHeartbeats 400000 in
theorem ref_take_short (A : Option Addr) (n cap : Nat) (hn : n < 4) (w : World) : Calls Tryd.prog 10 #[.slice A n cap] w (NotTook w) := by
  have h : (n : Int) < 4 := by omega
  go_enter Tryd.func10, Tryd.ntmps10
  go_wp2
  go_ret2
  exact ⟨rfl, Below.refl _ _⟩

/-- The check is there or not: what stands ahead of it, in its own place. -/
def RefTook (w : World) (A : Option Addr) (m cap : Nat) (ok : Bool) (e : Ending) (w' : World) : Prop :=
  e = .returned (.tuple #[if ok then .slice A m cap else .slice none 0 0, .bool ok]) ∧ Below w.heap.size w w'

set_option maxHeartbeats 1000000 in
theorem ref_take (b off cap m : Nat) (x y : List Nat) (w : World) (hxm : x.length = m) (hy4 : y.length = 4) (hm : m ≤ 90000) (hcap : m + 4 ≤ cap) (hl : ∀ v ∈ x, v < 256) (hly : ∀ v ∈ y, v < 256) (hb : b < w.heap.size)
    (hc : HasBytes w b off (x ++ y)) :
    Calls Tryd.prog 10 #[.slice (some ⟨b, off, none⟩) (m + 4) cap] w (RefTook w (some ⟨b, off, none⟩) m cap (decide (y = le4 (goN 0 x)))) := by
  have hg := goN_lt 0 x (by omega) hl
  have hr : Rd w w.heap.size (some ⟨b, off, none⟩) x := fun _ => ⟨b, off, rfl, hb, has_left hc⟩
  have hrl : Rd w w.heap.size (some ⟨b, off, none⟩) (x ++ y) := fun _ => ⟨b, off, rfl, hb, hc⟩
  have HPUT := Lib.hid (fun (W : World) (hW : Below w.heap.size w W) => ref_put_rd w.heap.size cap (some ⟨b, off, none⟩) x W (by omega) (by simp) hl (hr.below hW) hW.size)
  have hlen : (x ++ y).length = m + 4 := by rw [List.length_append, hxm, hy4]
  have mk : ∀ w' : World, Below w.heap.size w w' → ((convert 22 9 (.slice (some ⟨b, off, none⟩) (m + 4) cap)).run Tryd.prog w' = .ok (.string (strN (x ++ y))) w' ∧ Below w.heap.size w w') := fun w' h => by
    refine ⟨?_, h⟩
    have := conv_rd w' w.heap.size cap _ (x ++ y) (hrl.below h)
    rw [hlen] at this
    exact this
  have MK := Lib.hid mk
  rw [hxm] at HPUT
  have hxy : ∀ v ∈ x ++ y, v < 256 := fun v hv => by rcases List.mem_append.1 hv with h | h; exact hl v h; exact hly v h
  have hxg : ∀ v ∈ x ++ le4 (goN 0 x), v < 256 := fun v hv => by rcases List.mem_append.1 hv with h | h; exact hl v h; exact le4_lt _ hg v h
  obtain ⟨q, hq⟩ : ∃ q : List Nat, q = x ++ le4 (goN 0 x) := ⟨_, rfl⟩
  have hne : y ≠ le4 (goN 0 x) → ((strN q).toList == (strN (x ++ y)).toList) = false := fun h => by
    rw [hq]
    exact strN_ne hxg hxy (fun e => h (List.append_cancel_left e).symm)
  have heq : y = le4 (goN 0 x) → x ++ y = q := fun h => by rw [hq, h]
  rw [← hq] at HPUT
  have HH := Lib.hid (And.intro hne heq)
  clear hc hl hly hr hrl mk hxy hxg hq hne heq hg
  have HM := Lib.hid hxm
  have HLN := Lib.hid hlen
  clear hxm hlen hy4
  obtain ⟨ok, hok⟩ : ∃ ok : Bool, ok = decide (y = le4 (goN 0 x)) := ⟨_, rfl⟩
  have HOK := Lib.hid hok
  rw [← hok]
  clear hok
  obtain ⟨s, hs⟩ : ∃ s : ByteArray, s = strN (x ++ y) := ⟨_, rfl⟩
  have key : ((strN q).toList == s.toList) = ok := by
    rw [hs]
    by_cases h : y = le4 (goN 0 x)
    · rw [HH.out.2 h, HOK.out, decide_eq_true h]
      simp
    · rw [HH.out.1 h, HOK.out, decide_eq_false h]
  rw [← hs] at MK
  clear hs HH HOK
  cases ok
  · go_enter Tryd.func10, Tryd.ntmps10
    go_wp2_with fail
    refine wp_region_held_drew (S := fun w' => (convert 22 9 (.slice (some ⟨b, off, none⟩) (m + 4) cap)).run Tryd.prog w' = .ok (.string s) w' ∧ Below w.heap.size w w') (by kernel_rfl) (MK.out _ ((Below.refl _ _).drew)) (fun hHeld => ?_)
    refine wpAnyH_take (i := 0) (v := ?_) rfl (by kernel_rfl) (by kernel_rfl) (by kernel_rfl) (fun _ _ _ h => h) (Or.inl ⟨by rfl, ?_⟩) (by assumption) ?_
    rotate_left
    · (intro w' hSw; (try dsimp only at hSw); go_simp; (try (with_reducible rfl)))
    (try simp only [Act.put])
    refine wpAnyH_take (i := 3) (v := ?_) rfl (by kernel_rfl) (by kernel_rfl) (by kernel_rfl) (fun _ _ _ h => h) (Or.inl ⟨by rfl, ?_⟩) (by assumption) ?_
    rotate_left
    · (intro w' hSw; (try dsimp only at hSw); go_simp; (try (with_reducible rfl)))
    (try simp only [Act.put])
    refine wpAnyH_take (i := 4) (v := ?_) rfl (by kernel_rfl) (by kernel_rfl) (by kernel_rfl) (fun _ _ _ h => h) (Or.inl ⟨by rfl, ?_⟩) (by assumption) ?_
    rotate_left
    · (intro w' hSw; (try dsimp only at hSw); go_simp; (try (with_reducible rfl)))
    (try simp only [Act.put])
    refine wpAnyH_ready (rs := [1]) (by kernel_rfl) (by simp) ?_
    refine AllReadyH.cons rfl (fun K hK => ?_) AllReadyH.nil
    go_simp
    refine (HPUT.out _ ((Below.refl _ _).drew)).mono ?_
    rintro e w4 ⟨A9, c9, rfl, k9, m9, z9, R9, hb4⟩
    have qp := conv_rd w4 w4.heap.size c9 A9 q R9
    have hbw4 : Below w.heap.size w w4 := below_of_drew hb4
    refine hK.out _ _ (MK.out _ hbw4) (fun hHeld2 => ?_)
    clear hK K
    refine wpAnyH_ready (rs := [2]) (by kernel_rfl) (by simp) ?_
    refine AllReadyH.cons rfl (fun K hK => ?_) AllReadyH.nil
    go_simp
    refine hK.out _ _ (MK.out _ hbw4) (fun hHeld3 => ?_)
    clear hK K
    refine wpAnyH_take (i := 5) (v := ?_) rfl (by kernel_rfl) (by kernel_rfl) (by kernel_rfl) (fun _ _ _ h => h) (Or.inl ⟨by rfl, ?_⟩) (by assumption) ?_
    rotate_left
    · (intro w' hSw; (try dsimp only at hSw); go_simp; (try (with_reducible rfl)))
    (try simp only [Act.put])
    refine wpAnyH_done (by kernel_rfl) ?_ _
    go_wp2
    go_ret2
    exact ⟨rfl, hbw4⟩
  · go_enter Tryd.func10, Tryd.ntmps10
    go_wp2_with fail
    refine wp_region_held_drew (S := fun w' => (convert 22 9 (.slice (some ⟨b, off, none⟩) (m + 4) cap)).run Tryd.prog w' = .ok (.string s) w' ∧ Below w.heap.size w w') (by kernel_rfl) (MK.out _ ((Below.refl _ _).drew)) (fun hHeld => ?_)
    refine wpAnyH_take (i := 0) (v := ?_) rfl (by kernel_rfl) (by kernel_rfl) (by kernel_rfl) (fun _ _ _ h => h) (Or.inl ⟨by rfl, ?_⟩) (by assumption) ?_
    rotate_left
    · (intro w' hSw; (try dsimp only at hSw); go_simp; (try (with_reducible rfl)))
    (try simp only [Act.put])
    refine wpAnyH_take (i := 3) (v := ?_) rfl (by kernel_rfl) (by kernel_rfl) (by kernel_rfl) (fun _ _ _ h => h) (Or.inl ⟨by rfl, ?_⟩) (by assumption) ?_
    rotate_left
    · (intro w' hSw; (try dsimp only at hSw); go_simp; (try (with_reducible rfl)))
    (try simp only [Act.put])
    refine wpAnyH_take (i := 4) (v := ?_) rfl (by kernel_rfl) (by kernel_rfl) (by kernel_rfl) (fun _ _ _ h => h) (Or.inl ⟨by rfl, ?_⟩) (by assumption) ?_
    rotate_left
    · (intro w' hSw; (try dsimp only at hSw); go_simp; (try (with_reducible rfl)))
    (try simp only [Act.put])
    refine wpAnyH_ready (rs := [1]) (by kernel_rfl) (by simp) ?_
    refine AllReadyH.cons rfl (fun K hK => ?_) AllReadyH.nil
    go_simp
    refine (HPUT.out _ ((Below.refl _ _).drew)).mono ?_
    rintro e w4 ⟨A9, c9, rfl, k9, m9, z9, R9, hb4⟩
    have qp := conv_rd w4 w4.heap.size c9 A9 q R9
    have hbw4 : Below w.heap.size w w4 := below_of_drew hb4
    refine hK.out _ _ (MK.out _ hbw4) (fun hHeld2 => ?_)
    clear hK K
    refine wpAnyH_ready (rs := [2]) (by kernel_rfl) (by simp) ?_
    refine AllReadyH.cons rfl (fun K hK => ?_) AllReadyH.nil
    go_simp
    refine hK.out _ _ (MK.out _ hbw4) (fun hHeld3 => ?_)
    clear hK K
    refine wpAnyH_take (i := 5) (v := ?_) rfl (by kernel_rfl) (by kernel_rfl) (by kernel_rfl) (fun _ _ _ h => h) (Or.inl ⟨by rfl, ?_⟩) (by assumption) ?_
    rotate_left
    · (intro w' hSw; (try dsimp only at hSw); go_simp; (try (with_reducible rfl)))
    (try simp only [Act.put])
    refine wpAnyH_done (by kernel_rfl) ?_ _
    go_wp2
    go_ret2
    exact ⟨rfl, hbw4⟩
end Go.Proofs.YtpighdioomjnmabDoor
