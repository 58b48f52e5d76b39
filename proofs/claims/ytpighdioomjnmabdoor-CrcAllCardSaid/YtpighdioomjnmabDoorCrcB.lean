/-
  Layer 20: contracts of Of, last, short and shown. Written by an AI agent.
-/
import Derived.Test.YtpighdioomjnmabDoorCrcA
import Derived.Laws.OwnMore
import Derived.Deep.AppendLies
import Derived.Deep.Draws
import Derived.Lib.SlBytesConst
namespace Go.Proofs.YtpighdioomjnmabDoor
open Go.RowKit

/-- A slice of bytes with these numbers: its cells lie below block B. -/
def Rd (w : World) (B : Nat) (A : Option Addr) (l : List Nat) : Prop :=
  0 < l.length → ∃ b off, A = some ⟨b, off, none⟩ ∧ b < B ∧ HasBytes w b off l
theorem Rd.keep {w w' : World} {B : Nat} {A : Option Addr} {l : List Nat} (h : Rd w B A l) (hk : ∀ b o, b < B → w'.cell? ⟨b, o, none⟩ = w.cell? ⟨b, o, none⟩) : Rd w' B A l := fun hn => by
  obtain ⟨b, off, e, hb, hc⟩ := h hn
  exact ⟨b, off, e, hb, fun i hi => (hk b _ hb).trans (hc i hi)⟩
theorem Rd.below {w w' : World} {B : Nat} {A : Option Addr} {l : List Nat} (h : Rd w B A l) (hb : Below B w w') : Rd w' B A l :=
  h.keep fun b o hl => hb.cell (p := ⟨b, o, none⟩) hl
theorem HasTab.below {w w' : World} {B : Nat} (h : HasTab w) (hB : 0 < B) (hb : Below B w w') : HasTab w' := fun i hi => (hb.cell (p := ⟨0, i, none⟩) hB).trans (h i hi)
theorem Rd.take {w : World} {B : Nat} {A : Option Addr} {l : List Nat} (h : Rd w B A l) (k : Nat) : Rd w B A (l.take k) := fun hn => by
  obtain ⟨b, off, e, hb, hc⟩ := h (by simp at hn; omega)
  refine ⟨b, off, e, hb, fun i hi => ?_⟩
  have hi' : i < l.length := by simp at hi; omega
  have hk : i < k := by simp at hi; omega
  rw [hc i hi', getD_at l hi', getD_at _ hi, List.getElem_take]

set_option maxHeartbeats 400000 in
theorem go_nil (A : Option Addr) (cap : Nat) (c : Nat) (w : World) (hcc : c < 4294967296) :
    Calls Tryd.prog 11 #[.int .u32 (c : Int), .slice A 0 cap] w fun e w' => e = .returned (.int .u32 (c : Int)) ∧ w = w' := by
  have e0 : bits BinOp.xor IntKind.u32 IntKind.u32.max (c : Int) = ((c ^^^ 4294967295 : Nat) : Int) := by
    have := u32_xor_nat 4294967295 c (by omega) hcc
    rw [Nat.xor_comm]
    exact this
  have e1 : bits BinOp.xor IntKind.u32 IntKind.u32.max ((c ^^^ 4294967295 : Nat) : Int) = (c : Int) := by
    have := u32_xor_nat 4294967295 (c ^^^ 4294967295) (by omega) (xor_lt hcc (by omega))
    rw [Nat.xor_comm 4294967295 (c ^^^ 4294967295), Nat.xor_assoc, Nat.xor_self, Nat.xor_zero] at this
    exact this
  obtain ⟨d, hd⟩ : ∃ d : Nat, d = c ^^^ 4294967295 := ⟨_, rfl⟩
  rw [← hd] at e0 e1
  clear hd
  go_enter Tryd.func11, Tryd.ntmps11
  go_wp2
  go_loop [5, 12] (fun r i => i = .int .i64 0 ∧ r = .int .u32 (d : Int)) (fun _ i => 0)
  case atStart => exact ⟨rfl, rfl⟩
  case round =>
    obtain ⟨rfl, rfl⟩ := hrel
    go_wp2
    go_ret
    exact ⟨rfl, rfl⟩

theorem go_rd (B cap : Nat) (A : Option Addr) (l : List Nat) (c : Nat) (w : World) (hm : l.length ≤ 9223372036854775807) (hcc : c < 4294967296) (hl : ∀ v ∈ l, v < 256)
    (hc : Rd w B A l) (ht : HasTab w) :
    Calls Tryd.prog 11 #[.int .u32 (c : Int), .slice A l.length cap] w fun e w' => e = .returned (.int .u32 ((goN c l : Nat) : Int)) ∧ w = w' := by
  rcases l with _ | ⟨v, l⟩
  · rw [goN_nil]
    exact go_nil A cap c w hcc
  · obtain ⟨b, off, rfl, _, h⟩ := hc (by simp)
    exact go_any b off cap (v :: l) c w hm hcc hl h ht

set_option maxHeartbeats 400000 in
theorem of_rd (B cap : Nat) (A : Option Addr) (l : List Nat) (w : World) (hm : l.length ≤ 9223372036854775807) (hl : ∀ v ∈ l, v < 256)
    (hc : Rd w B A l) (ht : HasTab w) :
    Calls Tryd.prog 13 #[.slice A l.length cap] w fun e w' => e = .returned (.int .u32 ((goN 0 l : Nat) : Int)) ∧ w = w' := by
  have HG := Lib.hid (fun w hc ht => go_rd B cap A l 0 w hm (by omega) hl hc ht)
  have HC := Lib.hid hc
  have HT := Lib.hid ht
  clear hc ht hl
  obtain ⟨n, hn⟩ : ∃ n : Nat, n = l.length := ⟨_, rfl⟩
  rw [← hn] at hm HG ⊢
  clear hn
  go_enter Tryd.func13, Tryd.ntmps13
  go_wp2_with (go_at_call 11; refine (HG.out _ HC.out HT.out).mono ?_; rintro e w' ⟨rfl, rfl⟩)
  go_ret
  exact ⟨rfl, rfl⟩

/-- The four bytes of a check, the lowest first. -/
def le4 (n : Nat) : List Nat := [n % 256, n / 256 % 256, n / 65536 % 256, n / 16777216]
def arr4 (g : Nat) : Value := .agg #[.int .u8 ((g : Int) % 256), .int .u8 ((g : Int) / 256 % 256), .int .u8 ((g : Int) / 65536 % 256), .int .u8 ((g : Int) / 16777216)]
theorem le4_lt (n : Nat) (h : n < 4294967296) : ∀ v ∈ le4 n, v < 256 := by
  intro v hv
  simp [le4] at hv
  omega

set_option maxHeartbeats 400000 in
theorem last_rd (B cap : Nat) (A : Option Addr) (l : List Nat) (w : World) (hm : l.length ≤ 9223372036854775807) (hl : ∀ v ∈ l, v < 256)
    (hc : Rd w B A l) (ht : HasTab w) (hB : B ≤ w.heap.size) (h0 : 0 < w.heap.size) :
    Calls Tryd.prog 16 #[.slice A l.length cap] w fun e w' => e = .returned (arr4 (goN 0 l)) ∧ Below w.heap.size w w' := by
  have hg := goN_lt 0 l (by omega) hl
  have HG := Lib.hid (fun w hc ht => of_rd B cap A l w hm hl hc ht)
  have HC := Lib.hid (fun o => hc.below (((Below.refl B w).alloc hB o)))
  have HT := Lib.hid (fun o => ht.below (B := w.heap.size) h0 ((Below.refl _ w).alloc (Nat.le_refl _) o))
  clear hc ht hl hB h0
  obtain ⟨n, hn⟩ : ∃ n : Nat, n = l.length := ⟨_, rfl⟩
  rw [← hn] at hm HG ⊢
  clear hn
  obtain ⟨g, hgg⟩ : ∃ g : Nat, g = goN 0 l := ⟨_, rfl⟩
  rw [← hgg] at hg HG ⊢
  clear hgg
  go_enter Tryd.func16, Tryd.ntmps16
  go_wp2_with (go_at_call 13; refine (HG.out _ (HC.out _) (HT.out _)).mono ?_; rintro e w' ⟨rfl, rfl⟩)
  exact bodyPost_ret (v := arr4 g) (by simp [results, Tryd.results16, go_sem, arr4]) rfl ⟨rfl, (Below.refl _ _).alloc (Nat.le_refl _) _⟩

set_option maxHeartbeats 400000 in
/-- At most 2000 bytes. -/
theorem short_rd (cap : Nat) (A : Option Addr) (l : List Nat) (w : World) (hm : l.length ≤ 9223372036854775807) (hc : l.length ≤ cap) :
    Calls Tryd.prog 8 #[.slice A l.length cap] w fun e w' => e = .returned (.slice A (l.take 2000).length cap) ∧ w = w' := by
  obtain ⟨n, hn⟩ : ∃ n : Nat, n = l.length := ⟨_, rfl⟩
  rw [List.length_take, ← hn]
  rw [← hn] at hm hc
  clear hn
  by_cases h : 2000 < n
  · rw [Nat.min_eq_left (by omega)]
    have h2 : (2000 : Int) < (n : Int) := by omega
    have h3 : 2000 ≤ cap := by omega
    go_enter Tryd.func8, Tryd.ntmps8
    go_wp2
    go_ret
    exact ⟨rfl, rfl⟩
  · rw [Nat.min_eq_right (by omega)]
    have h2 : ¬ (2000 : Int) < (n : Int) := by omega
    go_enter Tryd.func8, Tryd.ntmps8
    go_wp2
    go_ret
    exact ⟨rfl, rfl⟩

set_option maxHeartbeats 400000 in
theorem shown_any (w : World) (ht : HasTab w) (h0 : 0 < w.heap.size) :
    Calls Tryd.prog 7 #[] w fun e w' => e = .returned (.bool true) ∧ Below w.heap.size w w' := by
  have kc := fun (w : World) (C : Array Value) (n c : Nat) => Lib.run_convert_bytes_const (P := Tryd.prog) w 22 5 C n c Tryd.underlying22 Tryd.underlying5
  obtain ⟨W, hW⟩ : ∃ W : World, W = w.alloc (.cells #[.int .u8 49, .int .u8 50, .int .u8 51, .int .u8 52, .int .u8 53, .int .u8 54, .int .u8 55, .int .u8 56, .int .u8 57] 5 (9, 10)) := ⟨_, rfl⟩
  have hT : HasTab W := by rw [hW]; exact ht.below (B := w.heap.size) h0 ((Below.refl _ w).alloc (Nat.le_refl _) _)
  have hR : Rd W W.heap.size (some ⟨w.heap.size, 0, none⟩) [49, 50, 51, 52, 53, 54, 55, 56, 57] := fun _ => by
    refine ⟨w.heap.size, 0, rfl, by rw [hW]; simp, fun i hi => ?_⟩
    have : i = 0 ∨ i = 1 ∨ i = 2 ∨ i = 3 ∨ i = 4 ∨ i = 5 ∨ i = 6 ∨ i = 7 ∨ i = 8 := by simp at hi; omega
    rw [hW]
    rcases this with rfl | rfl | rfl | rfl | rfl | rfl | rfl | rfl | rfl <;> simp [World.cell?_alloc_mark]
  have hB : Below w.heap.size w W := by rw [hW]; exact (Below.refl _ w).alloc (Nat.le_refl _) _
  have HG := Lib.hid (of_rd W.heap.size 9 (some ⟨w.heap.size, 0, none⟩) [49, 50, 51, 52, 53, 54, 55, 56, 57] W (by decide) (by decide) hR hT)
  have HB := Lib.hid hB
  clear ht hT hR hB
  have HW := Lib.hid hW
  clear hW
  go_enter Tryd.func7, Tryd.ntmps7
  go_wp2_with fail
  rw [← HW.out]
  refine HG.out.mono ?_
  rintro e w' ⟨rfl, rfl⟩
  rw [goN_shown]
  go_wp2
  go_ret
  exact ⟨rfl, HB.out⟩
end Go.Proofs.YtpighdioomjnmabDoor
