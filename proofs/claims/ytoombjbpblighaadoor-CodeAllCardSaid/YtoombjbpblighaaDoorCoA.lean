/-
  Layer 8: the contracts of has and Name. Written by an AI agent.
-/
import Derived.Test.YtoombjbpblighaaDoorLxZ
import Derived.Shelf.Strconv.Itoa3
import Derived.Shelf.Strings.Fields
import Derived.Shelf.Lay
import Derived.Ground.NamesProg
import Derived.Lib.LaidTab
import Derived.Maps.Own
import Derived.Maps.OwnOps
import Derived.WalkKit
namespace Go.Proofs.YtoombjbpblighaaDoor
open Go Go.RowKit Go.Shelf Go.Maps
set_option linter.unusedVariables false
set_option linter.unusedSimpArgs false

/-- A literal of a map, key by key. -/
theorem wpList_insert_own {H : Type} {P : Program} (w : World) {ops : Array Oper} {rest : List Oper} {o : Oper} {a : Act} {Q : Exit → Act → World → Prop}
    (hg : o.guard = none) (m x v : Operand) (t : TypeId) (hop : o.op = Op.insert t m x v)
    (k e : TypeId) (K : Keyed P k) (ht : P.underlying t = some (.map k e)) (R : Value → Option (DataW H × List MemPlace)) (b n : Nat) (D : DataW H)
    (hm : a.eval m = .map (some b)) (hown : w.ownsMap P k R b n D) (hn : n < maxLen) (key val : Value) (kl : Lit) (hx : a.eval x = key) (hv : a.eval v = val) (hkey : keyOf P k key = some kl)
    (d : DataW H) (ps : List MemPlace) (hval : R val = some (d, ps))
    (hK : ∀ w', w'.ownsMap P k R b (n + 1) (D.put kl d) → w.grownBy w' (some b) → wpList P ops Q rest (a.put o.dst undef) w') :
    wpList P ops Q (o :: rest) a w := by
  refine wpList_plain hg fun K' hK' => ?_
  obtain ⟨w', hrun, r1, r2⟩ := hown.update K ht hn hkey hval
  unfold Oper.wp
  simp [execOp, hop, hm, hx, hv, hrun, Result.andThen]
  exact hK' _ _ (hK w' r1 r2)

theorem law3 : Keyed Tryd.prog 3 := int_keyed Tryd.underlying3
theorem zero3 (w : World) : (zeroValue 3).run Tryd.prog w = .ok (.int .i64 0) w := by kernel_rfl

/-- What an instruction has. -/
def hasN (op : Int) : Int := if op = 1 then 1 else if op = 2 then 1 else if op = 3 then 1 else if op = 4 then 4 else if op = 5 then 3 else if op = 6 then 1 else if op = 7 then 4 else if op = 11 then 1 else if op = 12 then 1 else if op = 16 then 1 else if op = 17 then 1 else if op = 18 then 1 else if op = 19 then 1 else if op = 20 then 3 else if op = 22 then 1 else 0
abbrev hasD0 : DataW Unit := (DataW.put (DataW.put (DataW.put (DataW.put (DataW.put (DataW.put (DataW.put (DataW.put (DataW.put (DataW.put (DataW.put (DataW.put (DataW.put (DataW.put (DataW.put (.map []) (.int .i64 1) (.lit (.int .i64 1))) (.int .i64 2) (.lit (.int .i64 1))) (.int .i64 3) (.lit (.int .i64 1))) (.int .i64 6) (.lit (.int .i64 1))) (.int .i64 11) (.lit (.int .i64 1))) (.int .i64 12) (.lit (.int .i64 1))) (.int .i64 16) (.lit (.int .i64 1))) (.int .i64 17) (.lit (.int .i64 1))) (.int .i64 18) (.lit (.int .i64 1))) (.int .i64 19) (.lit (.int .i64 1))) (.int .i64 22) (.lit (.int .i64 1))) (.int .i64 5) (.lit (.int .i64 3))) (.int .i64 20) (.lit (.int .i64 3))) (.int .i64 4) (.lit (.int .i64 4))) (.int .i64 7) (.lit (.int .i64 4)))
theorem hasD1 : hasD0 = .map [(Lit.int .i64 1, DataW.lit (Lit.int .i64 1)), (Lit.int .i64 2, DataW.lit (Lit.int .i64 1)), (Lit.int .i64 3, DataW.lit (Lit.int .i64 1)), (Lit.int .i64 4, DataW.lit (Lit.int .i64 4)), (Lit.int .i64 5, DataW.lit (Lit.int .i64 3)), (Lit.int .i64 6, DataW.lit (Lit.int .i64 1)), (Lit.int .i64 7, DataW.lit (Lit.int .i64 4)), (Lit.int .i64 11, DataW.lit (Lit.int .i64 1)), (Lit.int .i64 12, DataW.lit (Lit.int .i64 1)), (Lit.int .i64 16, DataW.lit (Lit.int .i64 1)), (Lit.int .i64 17, DataW.lit (Lit.int .i64 1)), (Lit.int .i64 18, DataW.lit (Lit.int .i64 1)), (Lit.int .i64 19, DataW.lit (Lit.int .i64 1)), (Lit.int .i64 20, DataW.lit (Lit.int .i64 3)), (Lit.int .i64 22, DataW.lit (Lit.int .i64 1))] := rfl
theorem hasD (op : Int) : hasD0.atKey (.int .i64 op) (.lit (.int .i64 0)) = .lit (.int .i64 (hasN op)) := by
  rw [hasD1]
  unfold hasN DataW.atKey
  simp only [List.find?, Lit.sameKey, true_and]
  by_cases h1 : op = 1
  · rw [h1]
    rfl
  by_cases h2 : op = 2
  · rw [h2]
    rfl
  by_cases h3 : op = 3
  · rw [h3]
    rfl
  by_cases h4 : op = 4
  · rw [h4]
    rfl
  by_cases h5 : op = 5
  · rw [h5]
    rfl
  by_cases h6 : op = 6
  · rw [h6]
    rfl
  by_cases h7 : op = 7
  · rw [h7]
    rfl
  by_cases h11 : op = 11
  · rw [h11]
    rfl
  by_cases h12 : op = 12
  · rw [h12]
    rfl
  by_cases h16 : op = 16
  · rw [h16]
    rfl
  by_cases h17 : op = 17
  · rw [h17]
    rfl
  by_cases h18 : op = 18
  · rw [h18]
    rfl
  by_cases h19 : op = 19
  · rw [h19]
    rfl
  by_cases h20 : op = 20
  · rw [h20]
    rfl
  by_cases h22 : op = 22
  · rw [h22]
    rfl
  simp only [h1, Ne.symm h1, h2, Ne.symm h2, h3, Ne.symm h3, h4, Ne.symm h4, h5, Ne.symm h5, h6, Ne.symm h6, h7, Ne.symm h7, h11, Ne.symm h11, h12, Ne.symm h12, h16, Ne.symm h16, h17, Ne.symm h17, h18, Ne.symm h18, h19, Ne.symm h19, h20, Ne.symm h20, h22, Ne.symm h22, if_false, decide_false, decide_eq_false]

set_option maxRecDepth 100000 in
set_option maxHeartbeats 4000000 in
theorem has_any (op : Int) (h0 : -9223372036854775808 ≤ op) (h1 : op ≤ 9223372036854775807) (w : World) : Calls Tryd.prog 59 #[.int .i64 op] w fun e w' => e = .returned (.int .i64 (hasN op)) ∧ Keeps (fun _ => False) w w' := by
  have hmm := @run_makeMap Tryd.prog
  have hkey : keyOf Tryd.prog 3 (.int .i64 op) = some (.int .i64 op) := keyOf_int_mk Tryd.underlying3 (WalkArith.wf_i64 (by omega))
  have hown : (w.alloc (.map #[] 0)).ownsMap Tryd.prog 3 (plainElem (H := Unit) Tryd.prog 3) w.heap.size 0 (.map []) := World.ownsMap_made _ _ _ _
  have hk : Keeps (fun _ => False) w (w.alloc (.map #[] 0)) := (Keeps.refl _ _).alloc _
  go_enter Tryd.func59, Tryd.ntmps59
  go_wp2_with (first
    | (at_lookup; refine wpList_lookup_own_int _ rfl _ _ 89 rfl 3 3 .i64 law3 Tryd.underlying89 Tryd.underlying3 (zero3 _) _ _ _ rfl hown _ _ rfl hkey ?_; intro c hat hwc)
    | (refine wpList_insert_own _ rfl _ _ _ 89 rfl 3 3 law3 Tryd.underlying89 _ _ _ _ rfl hown (by unfold maxLen; omega) _ _ _ rfl rfl (keyOf_int_mk Tryd.underlying3 (WalkArith.wf_i64 (by omega))) _ [] (plainElem_int Tryd.underlying3 (WalkArith.wf_i64 (by omega))) ?_
       intro w1 hown1 hg1
       replace hk := hk.grown hg1 (fun k e h => by cases e; exact absurd h (Nat.lt_irrefl _))
       replace hown := hown1
       clear hg1 hown1)
    | go_in)
  have hc : hasN op = c := by
    have e := (hasD op).symm.trans hat
    injection e with e
    injection e
  go_ret
  exact ⟨by rw [hc]; rfl, hk⟩

shelf_lay LaysM.n171 Nm 171 at Tryd as laysItoa
shelf_lay Lays.n157 Nm 157 at Tryd as laysFields

/-- A variable of the library's, as its text lays it. -/
def TabK (w : World) (name : String) (k : IntKind) (zs : List Int) : Prop := Lib.TabIs Tryd.prog w name k zs ∧ ∀ p, Tryd.prog.globalNamed name = some p → p < w.heap.size
theorem TabK.keep {w w' : World} {name : String} {k : IntKind} {zs : List Int} (h : TabK w name k zs) (hk : Keeps (fun _ => False) w w') : TabK w' name k zs := by
  obtain ⟨h1, h2⟩ := h
  refine ⟨?_, fun p hp => Nat.lt_of_lt_of_le (h2 p hp) hk.size⟩
  unfold Lib.TabIs World.var? at *
  cases hg : Tryd.prog.globalNamed name with
  | none => rw [hg] at h1; cases h1
  | some p =>
    rw [hg] at h1
    simp only [Option.bind_some] at h1 ⊢
    rw [hk.block p (h2 p hg) (fun h => h)]
    exact h1
structure CodeW (w : World) : Prop where
  pow : TabK w "internal/strconv.uint64pow10" .u64 Lib.pow10Tab
  sp : TabK w "strings.asciiSpace" .u8 Lib.asciiSpaceTab
theorem CodeW.keep {w w' : World} (h : CodeW w) (hk : Keeps (fun _ => False) w w') : CodeW w' := ⟨h.pow.keep hk, h.sp.keep hk⟩

def namesL : List (List UInt8) := [[109, 97, 114, 107], [105, 110, 116], [98, 111, 111, 108], [116, 101, 120, 116], [108, 111, 97, 100], [115, 116, 111, 114, 101], [98, 105, 110], [110, 101, 103], [110, 111, 116], [108, 101, 110], [105, 110, 100, 101, 120], [112, 117, 116], [110, 101, 119], [105, 110, 112, 117, 116], [112, 114, 105, 110, 116], [106, 117, 109, 112], [102, 97, 108, 115, 101], [97, 110, 100], [111, 114], [99, 97, 108, 108], [114, 101, 116], [110, 111, 110, 101], [112, 111, 112]]
def namesB : List UInt8 := [109, 97, 114, 107, 32, 105, 110, 116, 32, 98, 111, 111, 108, 32, 116, 101, 120, 116, 32, 108, 111, 97, 100, 32, 115, 116, 111, 114, 101, 32, 98, 105, 110, 32, 110, 101, 103, 32, 110, 111, 116, 32, 108, 101, 110, 32, 105, 110, 100, 101, 120, 32, 112, 117, 116, 32, 110, 101, 119, 32, 105, 110, 112, 117, 116, 32, 112, 114, 105, 110, 116, 32, 106, 117, 109, 112, 32, 102, 97, 108, 115, 101, 32, 97, 110, 100, 32, 111, 114, 32, 99, 97, 108, 108, 32, 114, 101, 116, 32, 110, 111, 110, 101, 32, 112, 111, 112]
theorem names_fields : Lib.fields namesB = namesL := by decide +kernel
theorem names_ascii : ∀ b ∈ namesB, b.toNat < 128 := by decide +kernel
/-- An instruction's name. -/
def nameN (op : Int) : List UInt8 := if 1 ≤ op ∧ op ≤ 23 then namesL.getD (op - 1).toNat [] else []

theorem fields_any (s : ByteArray) (hs : s.data.toList = namesB) (w : World) (hw : CodeW w) :
    Calls Tryd.prog 63 #[.string s] w fun e w' => e = .returned (.slice (some ⟨w.heap.size, 0, none⟩) 23 23) ∧ (∀ k, k < 23 → w'.cell? ⟨w.heap.size, k, none⟩ = some (.string (ofL (namesL.getD k [])))) ∧ Keeps (fun _ => False) w w' := by
  have h := Any.strings_Fields laysFields (by kernel_rfl) (by kernel_rfl) s w (by rw [← len_size, hs]; decide) (fun j b hb => names_ascii b (by rw [hs] at hb; exact List.mem_of_getElem? hb)) hw.sp.1
  rw [hs, names_fields] at h
  refine h.mono ?_
  rintro e w' ⟨he, hw'⟩
  refine ⟨he, fun k hk => ?_, by rw [hw']; exact (Keeps.refl _ _).alloc _⟩
  rw [hw']
  have h23 : k = 0 ∨ k = 1 ∨ k = 2 ∨ k = 3 ∨ k = 4 ∨ k = 5 ∨ k = 6 ∨ k = 7 ∨ k = 8 ∨ k = 9 ∨ k = 10 ∨ k = 11 ∨ k = 12 ∨ k = 13 ∨ k = 14 ∨ k = 15 ∨ k = 16 ∨ k = 17 ∨ k = 18 ∨ k = 19 ∨ k = 20 ∨ k = 21 ∨ k = 22 := by omega
  rcases h23 with rfl | rfl | rfl | rfl | rfl | rfl | rfl | rfl | rfl | rfl | rfl | rfl | rfl | rfl | rfl | rfl | rfl | rfl | rfl | rfl | rfl | rfl | rfl <;> (simp [namesL]; rfl)

set_option maxRecDepth 100000 in
set_option maxHeartbeats 4000000 in
theorem name_op (op : Int) (w : World) (hw : CodeW w) : Calls Tryd.prog 37 #[.int .i64 op] w fun e w' => e = .returned (.string (ofL (nameN op))) ∧ Keeps (fun _ => False) w w' := by
  by_cases h1 : op < 1
  · have hn : nameN op = [] := by unfold nameN; rw [if_neg (by omega)]
    have HN := Lib.hid hn
    have h1d : decide (op < 1) = true := decide_eq_true h1
    clear hn hw
    go_enter Tryd.func37, Tryd.ntmps37
    go_wp2
    go_ret
    exact ⟨by rw [HN.out]; rfl, Keeps.refl _ _⟩
  · have h1d : decide (op < 1) = false := decide_eq_false h1
    by_cases h2 : 23 < op
    · have hn : nameN op = [] := by unfold nameN; rw [if_neg (by omega)]
      have HN := Lib.hid hn
      have h2d : decide (23 < op) = true := decide_eq_true h2
      clear hn hw
      go_enter Tryd.func37, Tryd.ntmps37
      go_wp2
      go_ret
      exact ⟨by rw [HN.out]; rfl, Keeps.refl _ _⟩
    · have h2d : decide (23 < op) = false := decide_eq_false h2
      obtain ⟨k, hk⟩ : ∃ k : Nat, op = (k : Int) + 1 := ⟨(op - 1).toNat, by omega⟩
      subst hk
      have hk23 : k < 23 := by omega
      have hn : nameN ((k : Int) + 1) = namesL.getD k [] := by
        unfold nameN
        rw [if_pos ⟨by omega, by omega⟩, show ((k : Int) + 1 - 1).toNat = k by omega]
      have HN := Lib.hid hn
      have hkI : (k : Int) < 23 := by omega
      have hk0 : (0 : Int) ≤ (k : Int) := by omega
      have sw : IntKind.i64.wrap ((k : Int) + 1 - 1) = (k : Int) := by rw [IntWalk.i64_in _ (by omega)]; omega
      have sw2 : (k : Int) + 1 - 1 = (k : Int) := by omega
      have HW := Lib.hid hw
      clear hn hw
      go_enter Tryd.func37, Tryd.ntmps37
      go_wp2_with fail
      refine (fields_any _ rfl w HW.out).mono ?_
      rintro e w2 ⟨rfl, hc, hk2⟩
      have c0 := hc k hk23
      have K2 := Lib.hid hk2
      clear hc hk2
      go_wp2
      go_ret
      exact ⟨by rw [HN.out]; rfl, K2.out⟩

end Go.Proofs.YtoombjbpblighaaDoor
