/-
  Layer 1: digits of a number. Written by an AI agent.
-/
import Derived.Test.YtoombjbpblighaaDoorLxW
namespace Go.Proofs.YtoombjbpblighaaDoor
open Go.RowKit Go.Shelf
set_option linter.unusedVariables false
set_option linter.unusedSimpArgs false

theorem numV_cons (c : UInt8) (r : List UInt8) : numV (c :: r) = numA (c.toNat - 48) r := by
  show numA (0 * 10 + (c.toNat - 48)) r = _
  rw [Nat.zero_mul, Nat.zero_add]

/-- What is written of a number n when m is left. -/
structure Dg (n m i : Nat) (s : ByteArray) : Prop where
  size : s.size = i
  all : ∀ c ∈ s.data.toList, dig c = true
  val : numA m s.data.toList = n
  low : m < 10 ^ (19 - i)
  pos : i = 0 ∨ 0 < m

def tenB : ByteArray := { data := #[48, 49, 50, 51, 52, 53, 54, 55, 56, 57] }
theorem digit_at (k : Nat) (h : k < 10) : ∃ c : UInt8, (tenB.extract k (k + 1)).data.toList = [c] ∧ dig c = true ∧ c.toNat - 48 = k := by
  have hk : k = 0 ∨ k = 1 ∨ k = 2 ∨ k = 3 ∨ k = 4 ∨ k = 5 ∨ k = 6 ∨ k = 7 ∨ k = 8 ∨ k = 9 := by omega
  refine ⟨tenB[k]'h, ext_one tenB k h, ?_⟩
  rcases hk with rfl | rfl | rfl | rfl | rfl | rfl | rfl | rfl | rfl | rfl <;> exact ⟨rfl, rfl⟩

theorem Dg.step {n m i : Nat} {s : ByteArray} (h : Dg n m i s) (hi : i < 19) : (tenB.extract (m % 10) (m % 10 + 1) ++ s).size = i + 1 ∧ (∀ c ∈ (tenB.extract (m % 10) (m % 10 + 1) ++ s).data.toList, dig c = true) ∧ numA (m / 10) (tenB.extract (m % 10) (m % 10 + 1) ++ s).data.toList = n ∧ m / 10 < 10 ^ (19 - (i + 1)) := by
  obtain ⟨c, h1, h2, h3⟩ := digit_at (m % 10) (Nat.mod_lt _ (by decide))
  have e := app_list (tenB.extract (m % 10) (m % 10 + 1)) s
  rw [h1] at e
  have e2 : (tenB.extract (m % 10) (m % 10 + 1) ++ s).data.toList = c :: s.data.toList := e
  refine ⟨?_, ?_, ?_, ?_⟩
  · rw [← len_size, e2, List.length_cons, len_size, h.size]
  · rw [e2]
    intro d hd
    rcases List.mem_cons.1 hd with rfl | hd
    · exact h2
    · exact h.all d hd
  · rw [e2, numA_cons, h3, ← h.val]
    congr 1
    omega
  · have := h.low
    rw [show 19 - i = 19 - (i + 1) + 1 by omega, Nat.pow_succ] at this
    exact Nat.div_lt_of_lt_mul (by rw [Nat.mul_comm]; exact this)
theorem Dg.few {n m i : Nat} {s : ByteArray} (h : Dg n m i s) : i < 19 := by
  rcases h.pos with h1 | h1
  · omega
  · rcases Nat.lt_or_ge i 19 with h2 | h2
    · exact h2
    · have := h.low
      rw [show 19 - i = 0 by omega] at this
      omega
theorem Dg.start {n : Nat} (hn : n ≤ 9223372036854775807) : Dg n n 0 { data := #[] } :=
  ⟨rfl, fun c h => by simp at h, rfl, Nat.lt_of_le_of_lt hn (by decide), .inl rfl⟩

/-- Digits of a number, at least one of them. -/
structure Num (n : Nat) (s : ByteArray) : Prop where
  all : ∀ c ∈ s.data.toList, dig c = true
  val : numV s.data.toList = n
  pos : 1 ≤ s.size

theorem Num.more {n : Nat} {s : ByteArray} (h : Num n s) : Num n ({ data := #[48] } ++ s) := by
  have e := app_list { data := #[48] } s
  have e2 : (({ data := #[48] } : ByteArray) ++ s).data.toList = 48 :: s.data.toList := e
  refine ⟨?_, ?_, ?_⟩
  · rw [e2]
    intro d hd
    rcases List.mem_cons.1 hd with rfl | hd
    · decide
    · exact h.all d hd
  · rw [e2, numV_cons]
    exact h.val
  · rw [← len_size, e2, List.length_cons]
    omega

theorem and_most (a : Int) : ∃ K : Nat, bits BinOp.and IntKind.i64 a 9223372036854775807 = (K : Int) ∧ K ≤ 9223372036854775807 := by
  have hle : (BitVec.ofInt 64 a &&& BitVec.ofInt 64 9223372036854775807).toNat ≤ 9223372036854775807 := by
    rw [BitVec.toNat_and]
    exact Nat.and_le_right
  refine ⟨(BitVec.ofInt 64 a &&& BitVec.ofInt 64 9223372036854775807).toNat, ?_, hle⟩
  show IntKind.i64.wrap (((BitVec.ofInt 64 a &&& BitVec.ofInt 64 9223372036854775807).toNat : Nat) : Int) = _
  rw [IntWalk.i64_in _ (by omega)]
theorem and7f : ∀ x : Fin 256, bits BinOp.and IntKind.u8 (x.val : Int) 7 = ((x.val % 8 : Nat) : Int) := by decide +kernel
theorem and7 (x : Nat) (h : x < 256) : bits BinOp.and IntKind.u8 (x : Int) 7 = ((x % 8 : Nat) : Int) := and7f ⟨x, h⟩
theorem and3f : ∀ x : Fin 256, bits BinOp.and IntKind.u8 (x.val : Int) 3 = ((x.val % 4 : Nat) : Int) := by decide +kernel
theorem and3 (x : Nat) (h : x < 256) : bits BinOp.and IntKind.u8 (x : Int) 3 = ((x % 4 : Nat) : Int) := and3f ⟨x, h⟩
theorem and15f : ∀ x : Fin 256, bits BinOp.and IntKind.u8 (x.val : Int) 15 = ((x.val % 16 : Nat) : Int) := by decide +kernel
theorem and15 (x : Nat) (h : x < 256) : bits BinOp.and IntKind.u8 (x : Int) 15 = ((x % 16 : Nat) : Int) := and15f ⟨x, h⟩

set_option maxRecDepth 100000 in
set_option maxHeartbeats 4000000 in
theorem digits_any (n : Nat) (hn : n ≤ 9223372036854775807) (w : World) : Calls Tryd.prog 24 #[.int .i64 n] w fun e w' => ∃ s, e = .returned (.string s) ∧ Num n s ∧ s.size ≤ 19 ∧ w' = w := by
  have D0 := Lib.hid (Dg.start hn)
  go_enter Tryd.func24, Tryd.ntmps24
  go_wp2_with fail
  go_loopw [0, 3, 4] (fun s0 s3 s4 wr => ∃ (i m : Nat) (s : ByteArray), s0 = .int .i64 m ∧ s3 = .string s ∧ s4 = .int .i64 i ∧ Dg n m i s ∧ m ≤ 9223372036854775807 ∧ wr = w) (fun _ _ s4 _ => 20 - (intOf s4).toNat)
  case atStart => exact ⟨0, n, _, rfl, rfl, rfl, D0.out, hn, rfl⟩
  case round =>
    obtain ⟨i, m, s, rfl, rfl, rfl, hD, hm, rfl⟩ := hrel
    have hi := hD.few
    have HS := Lib.hid (hD.step hi)
    have HD := Lib.hid hD
    have hsz : s.size ≤ 20 := by rw [hD.size]; omega
    clear hD D0
    have hiI : (i : Int) < 20 := by omega
    have hdi : decide ((i : Int) < 20) = true := decide_eq_true hiI
    have hD := HD.out
    obtain ⟨g1, g2, g3, g4⟩ := HS.out
    obtain ⟨y, hy⟩ : ∃ y : ByteArray, y = tenB.extract (m % 10) (m % 10 + 1) ++ s := ⟨_, rfl⟩
    rw [← hy] at g1 g2 g3
    by_cases h0 : m / 10 = 0
    · have hq : ((m : Int) / 10 == 0) = true := by simp; omega
      have hN : Num n y := ⟨g2, by rw [h0] at g3; exact g3, by omega⟩
      have H := Lib.hid (show Num n y ∧ y.size ≤ 19 from ⟨hN, by omega⟩)
      have HY := Lib.hid hy
      clear hy g1 g2 g3 g4 hN hD h0
      go_wp2
      go_ret
      exact ⟨y, by rw [HY.out]; rfl, H.out.1, H.out.2, rfl⟩
    · have hq : ((m : Int) / 10 == 0) = false := by simp; omega
      have H := Lib.hid (show Dg n (m / 10) (i + 1) y from ⟨g1, g2, g3, g4, .inr (by omega)⟩)
      have HY := Lib.hid hy
      clear hy g1 g2 g3 g4 hD h0
      go_wp2
      go_roundw
      case rel => exact ⟨i + 1, m / 10, y, by go_num, by rw [HY.out]; rfl, by go_num, H.out, by omega, by first | rfl | trivial⟩
      case measure => simp [intOf]; omega

end Go.Proofs.YtoombjbpblighaaDoor
