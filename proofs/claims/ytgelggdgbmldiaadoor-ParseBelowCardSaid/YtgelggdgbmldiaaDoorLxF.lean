/-
  Layer 1: the contract of run: how many bytes at the beginning are of a kind. Written by an AI agent.
-/
import Derived.Test.YtgelggdgbmldiaaDoorLxE
import Derived.Shelf.Abstract
namespace Go.Proofs.YtgelggdgbmldiaaDoor
open Go.RowKit Go.Shelf
set_option linter.unusedVariables false
set_option linter.unusedSimpArgs false

theorem at_byte (s : ByteArray) (k : Nat) (h : k < s.size) : s.data.toList[k]? = some s[k] := by
  have h2 : k < s.data.toList.length := by simpa using h
  rw [List.getElem?_eq_getElem h2]
  rfl

theorem runL_drop (p : UInt8 → Bool) (l : List UInt8) (k : Nat) (h : ∀ c ∈ l.take k, p c = true) (hk : k ≤ l.length) : runL p l = k + runL p (l.drop k) := by
  have e : l = l.take k ++ l.drop k := (List.take_append_drop k l).symm
  have h2 := runL_append p (l.take k) (l.drop k) h
  rw [← e, List.length_take, Nat.min_eq_left hk] at h2
  exact h2

set_option maxRecDepth 100000 in
set_option maxHeartbeats 4000000 in
theorem run_any (f : Nat) (p : UInt8 → Bool) (hf : Tells f p) (eg : ∀ args w, (callFunc f args).run Tryd.prog w = .ok (.enter f args) w) (s : ByteArray) (hs : s.size ≤ 1000) (w : World) :
    Calls Tryd.prog 104 #[.string s, .func (.func f) #[] #[]] w fun e w' => e = .returned (.int .i64 ((runL p s.data.toList : Nat) : Int)) ∧ Keeps (fun _ => False) w w' := by
  obtain ⟨l, hl⟩ : ∃ l : List UInt8, l = s.data.toList := ⟨_, rfl⟩
  obtain ⟨N, hN⟩ : ∃ N : Nat, N = s.size := ⟨_, rfl⟩
  have hlN : l.length = N := by rw [hl, hN]; simp
  have HL := Lib.hid hl
  have HN := Lib.hid hN
  have HLN := Lib.hid hlN
  have HF := Lib.hid hf
  rw [← hl]
  rw [← hN] at hs
  clear hl hlN hf
  go_enter Tryd.func104, Tryd.ntmps104
  go_wp2_with fail
  go_loopw [5] (fun s5 wr => ∃ k : Nat, k ≤ N ∧ s5 = .int .i64 k ∧ (∀ c ∈ l.take k, p c = true) ∧ Keeps (fun _ => False) w wr) (fun s5 _ => N - (intOf s5).toNat)
  case atStart => exact ⟨0, Nat.zero_le _, rfl, fun c h => by simp at h, Keeps.refl _ _⟩
  case round =>
    obtain ⟨k, hk, rfl, hall, kr⟩ := hrel
    have HAll := Lib.hid hall
    have KR := Lib.hid kr
    clear hall kr
    by_cases hkN : k < N
    · have hkN' : (k : Int) < (N : Int) := by omega
      have hkS' : (k : Int) < (s.size : Int) := by omega
      have hkS : k < s.size := by omega
      have hk0 : (0 : Int) ≤ (k : Int) := by omega
      obtain ⟨c, hc⟩ : ∃ c : UInt8, c = s[k] := ⟨_, rfl⟩
      have hlk : l[k]? = some c := by rw [HL.out, hc]; exact at_byte s k hkS
      have hdrop : l.drop k = c :: l.drop (k + 1) := by
        obtain ⟨h1, h2⟩ := List.getElem?_eq_some_iff.1 hlk
        rw [List.drop_eq_getElem_cons h1, h2]
      have hrun := runL_drop p l k HAll.out (by rw [HLN.out]; omega)
      rw [hdrop] at hrun
      have htk : ∀ (hp : p c = true), ∀ d ∈ l.take (k + 1), p d = true := fun hp d hd => by
        obtain ⟨h1, h2⟩ := List.getElem?_eq_some_iff.1 hlk
        rw [List.take_succ_eq_append_getElem h1, List.mem_append, h2] at hd
        rcases hd with hd | hd
        · exact HAll.out d hd
        · have : d = c := by simpa using hd
          rw [this]; exact hp
      have HC := Lib.hid hc
      have HRun := Lib.hid hrun
      have HTk := Lib.hid htk
      have FC := Lib.hid (HF.out wr c)
      clear hlk hdrop hrun htk
      cases hp : p c with
      | true =>
        have HT := Lib.hid (HTk.out hp)
        rw [hp] at FC
        clear hp HTk
        go_wp2_with fail
        rw [← HC.out]
        refine FC.out.mono ?_
        rintro e w1 ⟨rfl, k1⟩
        have K1 := Lib.hid (KR.out.trans k1 (fun _ _ h => h))
        clear k1
        go_wp2
        go_roundw
        case rel => exact ⟨k + 1, by omega, by go_num, HT.out, K1.out⟩
        case measure => simp [intOf]; omega
      | false =>
        have hr : runL p l = k := by
          have h := HRun.out
          rw [runL_cons_false p c _ hp] at h
          exact h
        have HR := Lib.hid hr
        rw [hp] at FC
        clear hp HTk hr
        go_wp2_with fail
        rw [← HC.out]
        refine FC.out.mono ?_
        rintro e w1 ⟨rfl, k1⟩
        have K1 := Lib.hid (KR.out.trans k1 (fun _ _ h => h))
        clear k1
        go_wp2
        go_ret
        exact ⟨by rw [HR.out]; rfl, K1.out⟩
    · have hkN' : ¬ (k : Int) < (N : Int) := by omega
      have hkS' : ¬ (k : Int) < (s.size : Int) := by omega
      have hd : decide ((k : Int) < (s.size : Int)) = false := decide_eq_false hkS'
      have hr : runL p l = k := by
        have e : k = l.length := by have := HLN.out; omega
        have h := HAll.out
        rw [e, List.take_length] at h
        rw [runL_whole p l h, e]
      have HR := Lib.hid hr
      clear hr
      go_wp2
      go_ret
      exact ⟨by rw [HR.out]; rfl, KR.out⟩

theorem enter66 : ∀ args w, (callFunc 72 args).run Tryd.prog w = .ok (.enter 72 args) w := enters_of Tryd.func72 (by kernel_rfl) rfl
theorem enter91 : ∀ args w, (callFunc 106 args).run Tryd.prog w = .ok (.enter 106 args) w := enters_of Tryd.func106 (by kernel_rfl) rfl
theorem enter92 : ∀ args w, (callFunc 108 args).run Tryd.prog w = .ok (.enter 108 args) w := enters_of Tryd.func108 (by kernel_rfl) rfl

end Go.Proofs.YtgelggdgbmldiaaDoor
