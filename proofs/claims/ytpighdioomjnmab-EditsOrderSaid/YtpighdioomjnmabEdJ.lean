/-
  Layer 16: the contracts of Same and Sorted. Written by an AI agent.
-/
import Derived.Test.YtpighdioomjnmabEdC
import Derived.Laws.StructEq
import Derived.Lib.Bytealg
import Derived.BigQuiet
namespace Go.Proofs.Ytpighdioomjnmab
open Go.RowKit Go.Shelf
set_option linter.unusedVariables false
set_option linter.unusedSimpArgs false

theorem eq47 (a b : Int) (s : ByteArray) (a' b' : Int) (s' : ByteArray) (d : Nat) (w : World) : (Op.equalIn (d + 2) 47 (.agg #[.int .i64 a, .int .i64 b, .string s]) (.agg #[.int .i64 a', .int .i64 b', .string s'])).run Try.prog w = .ok (a == a' && (b == b' && (s.toList == s'.toList))) w := by
  have hS : Try.prog.underlying 47 = some (.struct (Try.prog.fieldsOf 47)) := by kernel_rfl
  have hp : Try.prog.stoodInHeld 47 = false := by kernel_rfl
  rw [show d + 2 = d + 1 + 1 from rfl, run_equalIn_agg w (d + 1) 47 _ _ hS hp]
  simp only [Program.fieldsOf, Try.underlying47]
  go_simp
  cases h1 : (a == a') <;> cases h2 : (b == b') <;> cases h3 : (s.toList == s'.toList) <;> simp_all

/-- Whether two edits are the same. -/
def sameB (x y : Ed) : Bool := (x.t == y.t) && ((x.nm.toList == y.nm.toList) && ((x.ty == y.ty) && ((x.n == y.n) && (x.s.toList == y.s.toList))))

theorem eq49 (x y : Ed) (w : World) : (Op.equalIn 10000 49 x.agg y.agg).run Try.prog w = .ok (sameB x y) w := by
  obtain ⟨a, m, b, c, s⟩ := x
  obtain ⟨a', m', b', c', s'⟩ := y
  have hS : Try.prog.underlying 49 = some (.struct (Try.prog.fieldsOf 49)) := by kernel_rfl
  have hp : Try.prog.stoodInHeld 49 = false := by kernel_rfl
  have h47 := fun w => eq47 b c s b' c' s' 9997 w
  unfold Ed.agg sameB
  rw [show (10000 : Nat) = 9999 + 1 from rfl, run_equalIn_agg w 9999 49 _ _ hS hp]
  simp only [Program.fieldsOf, Try.underlying49]
  go_simp
  by_cases h1 : a = a' <;> by_cases h2 : m.toList = m'.toList <;> by_cases h3 : b = b' <;> by_cases h4 : c = c' <;> by_cases h5 : s.toList = s'.toList <;> simp [h1, h2, h3, h4, h5]

theorem guard49 : Try.prog.eqGuardType Try.prog.depth 49 = false := by kernel_rfl
theorem neq49 (x y : Ed) (w : World) : (binOp .neq 49 x.agg y.agg).run Try.prog w = .ok (.bool (!sameB x y)) w := by
  have h := run_neq_struct (P := Try.prog) w 49 #[.int .i64 x.t, .string x.nm, .int .i64 x.ty, .int .i64 x.n, .string x.s] #[.int .i64 y.t, .string y.nm, .int .i64 y.ty, .int .i64 y.n, .string y.s]
  rw [show (Value.agg #[.int .i64 x.t, .string x.nm, .int .i64 x.ty, .int .i64 x.n, .string x.s]) = x.agg from rfl, show (Value.agg #[.int .i64 y.t, .string y.nm, .int .i64 y.ty, .int .i64 y.n, .string y.s]) = y.agg from rfl, eq49] at h
  exact h
theorem eql49 (x y : Ed) (w : World) : (binOp .eql 49 x.agg y.agg).run Try.prog w = .ok (.bool (sameB x y)) w := by
  have h := run_eql_struct (P := Try.prog) w 49 #[.int .i64 x.t, .string x.nm, .int .i64 x.ty, .int .i64 x.n, .string x.s] #[.int .i64 y.t, .string y.nm, .int .i64 y.ty, .int .i64 y.n, .string y.s]
  rw [show (Value.agg #[.int .i64 x.t, .string x.nm, .int .i64 x.ty, .int .i64 x.n, .string x.s]) = x.agg from rfl, show (Value.agg #[.int .i64 y.t, .string y.nm, .int .i64 y.ty, .int .i64 y.n, .string y.s]) = y.agg from rfl, eq49] at h
  exact h

theorem bytes_ext {a b : ByteArray} (h : a.toList = b.toList) : a = b := by
  rw [Lib.toList_data, Lib.toList_data] at h
  obtain ⟨x⟩ := a
  obtain ⟨y⟩ := b
  have : x = y := Array.toList_inj.1 h
  rw [this]
theorem sameB_iff (x y : Ed) : sameB x y = true ↔ x = y := by
  obtain ⟨a, m, b, c, s⟩ := x
  obtain ⟨a', m', b', c', s'⟩ := y
  unfold sameB
  simp only [Bool.and_eq_true, beq_iff_eq, Ed.mk.injEq]
  constructor
  · rintro ⟨h1, h2, h3, h4, h5⟩
    exact ⟨h1, bytes_ext h2, h3, h4, bytes_ext h5⟩
  · rintro ⟨h1, h2, h3, h4, h5⟩
    exact ⟨h1, by rw [h2], h3, h4, by rw [h5]⟩

theorem ed_ext {L M : List Ed} (hl : L.length = M.length) (h : ∀ i, i < L.length → L.getD i default = M.getD i default) : L = M :=
  List.ext_getElem hl fun i h1 h2 => by
    have := h i h1
    rw [getE_lt h1, getE_lt h2] at this
    exact this

set_option maxRecDepth 100000 in
set_option maxHeartbeats 4000000 in
theorem same_any (w : World) (A C : Option Addr) (c d : Nat) (L M : List Ed) (hA : RdE w A L) (hC : RdE w C M) (hn : L.length ≤ 1000) (hm : M.length ≤ 1000) :
    Calls Try.prog 27 #[.slice A L.length c, .slice C M.length d] w fun e w' => ∃ bo : Bool, e = .returned (.bool bo) ∧ (bo = true ↔ L = M) ∧ Keeps (fun _ => False) w w' := by
  obtain ⟨N, hN⟩ : ∃ N : Nat, N = L.length := ⟨_, rfl⟩
  obtain ⟨K, hK⟩ : ∃ K : Nat, K = M.length := ⟨_, rfl⟩
  have HA := Lib.hid hA
  have HC := Lib.hid hC
  have HN := Lib.hid hN
  have HK := Lib.hid hK
  rw [← hN] at hn ⊢
  rw [← hK] at hm ⊢
  clear hA hC hN hK
  by_cases hNK : N = K
  · subst hNK
    go_enter Try.func27, Try.ntmps27
    go_wp2_with fail
    go_loopw [5] (fun s5 wr => ∃ k : Nat, k ≤ N ∧ s5 = .int .i64 k ∧ (∀ i, i < k → L.getD i default = M.getD i default) ∧ Keeps (fun _ => False) w wr) (fun s5 _ => N - (intOf s5).toNat)
    case atStart => exact ⟨0, Nat.zero_le _, rfl, fun i h => absurd h (Nat.not_lt_zero _), Keeps.refl _ _⟩
    case round =>
      obtain ⟨k, hk, rfl, hall, kr⟩ := hrel
      by_cases hkN : k < N
      · have hkN' : (k : Int) < (N : Int) := by omega
        have hk0 : (0 : Int) ≤ (k : Int) := by omega
        obtain ⟨b, off, rfl, hc⟩ := (HA.out.keep kr) (by rw [← HN.out]; omega)
        obtain ⟨c0, c1, c2, c3, c4⟩ := hc k (by rw [← HN.out]; exact hkN)
        obtain ⟨b', off', rfl, hc'⟩ := (HC.out.keep kr) (by rw [← HK.out]; omega)
        obtain ⟨d0, d1, d2, d3, d4⟩ := hc' k (by rw [← HK.out]; exact hkN)
        obtain ⟨y, hy⟩ : ∃ y : Ed, y = L.getD k default := ⟨_, rfl⟩
        obtain ⟨z, hz⟩ : ∃ z : Ed, z = M.getD k default := ⟨_, rfl⟩
        rw [← hy] at c0 c1 c2 c3 c4
        rw [← hz] at d0 d1 d2 d3 d4
        obtain ⟨yt, ynm, yty, yn, ys⟩ := y
        obtain ⟨zt, znm, zty, zn, zs⟩ := z
        have HY := Lib.hid hy
        have HZ := Lib.hid hz
        have HAll := Lib.hid hall
        have KR := Lib.hid kr
        have hgu := guard49
        have hq0 := neq49 ⟨yt, ynm, yty, yn, ys⟩ ⟨zt, znm, zty, zn, zs⟩
        have hsi := sameB_iff ⟨yt, ynm, yty, yn, ys⟩ ⟨zt, znm, zty, zn, zs⟩
        unfold Ed.agg at hq0
        obtain ⟨q, hqq⟩ : ∃ q : Bool, q = sameB ⟨yt, ynm, yty, yn, ys⟩ ⟨zt, znm, zty, zn, zs⟩ := ⟨_, rfl⟩
        rw [← hqq] at hq0 hsi
        have HSI := Lib.hid hsi
        clear hc hc' hy hz hall kr hqq hsi
        cases q with
        | true =>
          have hq : ∀ w : World, (binOp .neq 49 (.agg #[.int .i64 yt, .string ynm, .int .i64 yty, .int .i64 yn, .string ys]) (.agg #[.int .i64 zt, .string znm, .int .i64 zty, .int .i64 zn, .string zs])).run Try.prog w = .ok (.bool false) w := hq0
          have he := HSI.out.1 rfl
          have HE := Lib.hid he
          clear hq0 HSI he
          go_wp2_with fail
          go_quiet (fail)
          go_wp2
          go_roundw
          case rel => exact ⟨k + 1, by omega, by go_num, fun i hi => by
            rcases Nat.lt_or_ge i k with h | h
            · exact HAll.out i h
            · obtain rfl : i = k := by omega
              rw [← HY.out, ← HZ.out, HE.out], (KR.out.trans (T := fun _ => False) ⟨rfl, rfl, rfl, Nat.le_refl _, fun _ _ _ => rfl⟩ (fun _ _ h => h))⟩
          case measure => simp [intOf]; omega
        | false =>
          have hq : ∀ w : World, (binOp .neq 49 (.agg #[.int .i64 yt, .string ynm, .int .i64 yty, .int .i64 yn, .string ys]) (.agg #[.int .i64 zt, .string znm, .int .i64 zty, .int .i64 zn, .string zs])).run Try.prog w = .ok (.bool true) w := hq0
          have he : ¬ L = M := fun e => by
            have h1 := HY.out
            rw [e, ← HZ.out] at h1
            exact absurd (HSI.out.2 h1) (by decide)
          have HE := Lib.hid he
          clear hq0 HSI he
          go_wp2_with fail
          go_quiet (fail)
          go_wp2
          go_ret
          exact ⟨false, rfl, ⟨(fun h => by cases h), fun h => absurd h HE.out⟩, (KR.out.trans (T := fun _ => False) ⟨rfl, rfl, rfl, Nat.le_refl _, fun _ _ _ => rfl⟩ (fun _ _ h => h))⟩
      · obtain rfl : k = N := by omega
        have hd : decide (k < k) = false := by simp
        have hfin : L = M := ed_ext (by rw [← HN.out, ← HK.out]) (fun i hi => hall i (by rw [HN.out]; exact hi))
        have HF := Lib.hid hfin
        have KR := Lib.hid kr
        clear hfin hall kr
        go_wp2
        go_ret
        exact ⟨true, rfl, ⟨fun _ => HF.out, fun _ => rfl⟩, KR.out⟩
  · have hNK' : ¬ ((N : Int) = (K : Int)) := by omega
    have hd : decide ((N : Int) = (K : Int)) = false := decide_eq_false hNK'
    have hd2 : ((N : Int) == (K : Int)) = false := by simp; omega
    have hd3 : ((N : Int) != (K : Int)) = true := by simp; omega
    have hfin : ¬ L = M := fun e => hNK (by rw [HN.out, HK.out, e])
    have HF := Lib.hid hfin
    clear hfin
    go_enter Try.func27, Try.ntmps27
    go_wp2
    go_ret
    exact ⟨false, rfl, ⟨(fun h => by cases h), fun h => absurd h HF.out⟩, Keeps.refl _ _⟩

/-- The times of edits don't fall. -/
def SortedE (L : List Ed) : Prop := ∀ i, i + 1 < L.length → (L.getD i default).t ≤ (L.getD (i + 1) default).t

set_option maxRecDepth 100000 in
set_option maxHeartbeats 4000000 in
theorem sorted_any (w : World) (A : Option Addr) (c : Nat) (L : List Ed) (hA : RdE w A L) (hn : L.length ≤ 1000) (hs : SortedE L) :
    Calls Try.prog 32 #[.slice A L.length c] w fun e w' => e = .returned (.bool true) ∧ Keeps (fun _ => False) w w' := by
  obtain ⟨N, hN⟩ : ∃ N : Nat, N = L.length := ⟨_, rfl⟩
  have HA := Lib.hid hA
  have HN := Lib.hid hN
  have HS := Lib.hid hs
  rw [← hN] at hn ⊢
  clear hA hN hs
  go_enter Try.func32, Try.ntmps32
  go_wp2_with fail
  go_loopw [3] (fun s3 wr => ∃ k : Nat, k ≤ N ∧ s3 = .int .i64 ((k : Int) + 1) ∧ Keeps (fun _ => False) w wr) (fun s3 _ => N + 1 - (intOf s3).toNat)
  case atStart => exact ⟨0, Nat.zero_le _, rfl, Keeps.refl _ _⟩
  case round =>
    obtain ⟨k, hk, rfl, kr⟩ := hrel
    by_cases hkN : k + 1 < N
    · have hkN' : (k : Int) + 1 < (N : Int) := by omega
      have hkN0 : (k : Int) < (N : Int) := by omega
      have hk0 : (0 : Int) ≤ (k : Int) := by omega
      have hk1 : (0 : Int) ≤ (k : Int) + 1 := by omega
      have ht1 : ((k : Int) + 1).toNat = k + 1 := by omega
      have s1 : IntKind.i64.wrap (k : Int) = (k : Int) := IntWalk.i64_in _ (by omega)
      obtain ⟨b, off, rfl, hc⟩ := (HA.out.keep kr) (by rw [← HN.out]; omega)
      have c0 := (hc k (by rw [← HN.out]; omega)).1
      have d0 := (hc (k + 1) (by rw [← HN.out]; omega)).1
      have hle := HS.out k (by rw [← HN.out]; exact hkN)
      obtain ⟨x, hx⟩ : ∃ x : Int, x = (L.getD k default).t := ⟨_, rfl⟩
      obtain ⟨y, hy⟩ : ∃ y : Int, y = (L.getD (k + 1) default).t := ⟨_, rfl⟩
      rw [← hx] at c0 hle
      rw [← hy] at d0 hle
      have hyx : ¬ y < x := by omega
      have hd : decide (y < x) = false := decide_eq_false hyx
      have KR := Lib.hid kr
      clear hc hx hy kr
      go_wp2_with fail
      go_quiet (fail)
      go_wp2
      go_roundw
      case rel => exact ⟨k + 1, by omega, by go_num, (KR.out.trans (T := fun _ => False) ⟨rfl, rfl, rfl, Nat.le_refl _, fun _ _ _ => rfl⟩ (fun _ _ h => h))⟩
      case measure => simp [intOf]; omega
    · have hkN' : ¬ (k : Int) + 1 < (N : Int) := by omega
      have hd : decide ((k : Int) + 1 < (N : Int)) = false := decide_eq_false hkN'
      have KR := Lib.hid kr
      clear kr
      go_wp2
      go_ret
      exact ⟨rfl, KR.out⟩

end Go.Proofs.Ytpighdioomjnmab
