/-
  Layer 2: the document's reader: down, Type, typed, signs, next. Written by an AI agent.
  Layer 2: the document's reader: next. Written by an AI agent.
-/
import Derived.Lib.Bytealg
import Derived.Test.YtgelggdgbmldiaaDoorChecked
import Derived.Laws.OwnMore
import Derived.Laws.AppendOwnNone
import Derived.OwnWalk
import Derived.Lib.AppendZerosOnto
import Derived.Below
import Derived.Stop.Walk2
import Derived.WalkKit
import Derived.WalkLawsBesides
import Derived.WalkSpells
import Derived.Outline
import Derived.BigQuiet
import Derived.Deep.CutBlock
import Derived.Deep.CutRange
import Derived.Deep.DeepCutAuto
import Derived.Deep.RegionHeld3
import Derived.Deep.RegionLaw
import Derived.Deep.RegionWith
import Derived.StillTailTactics
import Derived.RegionTactic
import Derived.Laws.StructEq
import Derived.Lib.Hide
import Derived.Shelf.Abstract
import Derived.Shelf.Lay
import Derived.Ground.NamesProg
import Derived.Shelf.Strings.Prefix
import Derived.Shelf.Small.Strs
import Derived.Shelf.Strings.Count
import Derived.Shelf.Strconv.ErrVarParseInt
import Derived.WalkMore
import Derived.Scope
import Derived.Shelf.Slices.Turned
import Derived.Lib.SlicesS
import Derived.Deep.RegionHeld
import Derived.Deep.LoopGhost
import Derived.Test.YtgelggdgbmldiaaDoorMcaa
import Derived.Test.YtgelggdgbmldiaaDoorMcac
import Derived.Test.YtgelggdgbmldiaaDoorMcad
import Derived.Test.YtgelggdgbmldiaaDoorMcag
import Derived.Test.YtgelggdgbmldiaaDoorMcas
import Derived.Test.YtgelggdgbmldiaaDoorMcat
import Derived.Test.YtgelggdgbmldiaaDoorMcau
namespace Go.Proofs.YtgelggdgbmldiaaDoor
open Go Go.RowKit Go.Shelf
set_option linter.unusedVariables false
set_option linter.unusedSimpArgs false
set_option maxRecDepth 100000 in
set_option maxHeartbeats 8000000 in
theorem rtype_any (x : ByteArray) (w : World) : Calls Tryd.prog 95 #[.string x] w fun e w' => e = .returned (.int .i64 (typeN x.data.toList)) ∧ w' = w := by
  have key : ∀ (b1 b2 b3 b4 : Bool), b1 = decide (x.data.toList = [105, 110, 116]) → b2 = decide (x.data.toList = [98, 111, 111, 108]) → b3 = decide (x.data.toList = [116, 101, 120, 116]) → b4 = decide (x.data.toList = [108, 105, 115, 116]) → typeN x.data.toList = (if b1 then 1 else if b2 then 2 else if b3 then 3 else if b4 then 4 else 0) := by
    rintro _ _ _ _ rfl rfl rfl rfl
    unfold typeN
    simp only [decide_eq_true_eq]
  obtain ⟨b1, e1⟩ : ∃ b, b = decide (x.data.toList = [105, 110, 116]) := ⟨_, rfl⟩
  obtain ⟨b2, e2⟩ : ∃ b, b = decide (x.data.toList = [98, 111, 111, 108]) := ⟨_, rfl⟩
  obtain ⟨b3, e3⟩ : ∃ b, b = decide (x.data.toList = [116, 101, 120, 116]) := ⟨_, rfl⟩
  obtain ⟨b4, e4⟩ : ∃ b, b = decide (x.data.toList = [108, 105, 115, 116]) := ⟨_, rfl⟩
  rw [key b1 b2 b3 b4 e1 e2 e3 e4]
  have q1 : (x.toList == [105, 110, 116]) = b1 := by rw [e1]; exact word_beq x _
  have q2 : (x.toList == [98, 111, 111, 108]) = b2 := by rw [e2]; exact word_beq x _
  have q3 : (x.toList == [116, 101, 120, 116]) = b3 := by rw [e3]; exact word_beq x _
  have q4 : (x.toList == [108, 105, 115, 116]) = b4 := by rw [e4]; exact word_beq x _
  clear key e1 e2 e3 e4
  cases b1 with
  | true =>
    go_enter Tryd.func95, Tryd.ntmps95
    go_wp2
    go_ret
    exact ⟨rfl, rfl⟩
  | false =>
    cases b2 with
    | true =>
      go_enter Tryd.func95, Tryd.ntmps95
      go_wp2
      go_ret
      exact ⟨rfl, rfl⟩
    | false =>
      cases b3 with
      | true =>
        go_enter Tryd.func95, Tryd.ntmps95
        go_wp2
        go_ret
        exact ⟨rfl, rfl⟩
      | false =>
        cases b4 with
        | true =>
          go_enter Tryd.func95, Tryd.ntmps95
          go_wp2
          go_ret
          exact ⟨rfl, rfl⟩
        | false =>
          go_enter Tryd.func95, Tryd.ntmps95
          go_wp2
          go_ret
          exact ⟨rfl, rfl⟩
set_option maxRecDepth 100000 in
set_option maxHeartbeats 8000000 in
theorem rdown_any {P : Nat} {src : ByteArray} {T : List Tok} {R : Nat → Prop} {s : PS} {w : World} {s1 : PS} (h : Red w P src T R s) {u : Unit} (hm : downR T s = some (u, s1)) : Calls Tryd.prog 96 #[.pointer (some ⟨P, 0, none⟩)] w (PostR P src T R w (.tuple #[]) s1) := by
  have H := Lib.hid h
  unfold downR at hm
  obtain ⟨s2, e2, hm⟩ := mod_out hm
  obtain ⟨hd, e1⟩ := deep_out hm
  have E1 := Lib.hid e1
  have c4 := h.see.c4
  clear hm e1 h
  by_cases h16 : 16 ≤ s.dp
  · have d16 : decide (16 ≤ s.dp) = true := decide_eq_true h16
    have FC := Lib.hid (fails_any H.out 21)
    have e3 : s2 = failR T 21 s := by rw [e2]; exact if_pos h16
    rw [← e3] at FC
    generalize s.dp = dq at c4 h16 d16
    clear e2 e3
    go_enter Tryd.func96, Tryd.ntmps96
    go_wp2_with fail
    refine FC.out.mono ?_
    rintro e w2 ⟨rfl, R1, hp, hf⟩
    have HP2 := Lib.hid hp
    have HF2 := Lib.hid hf
    clear FC hp hf c4 h16 d16
    have hs := HP2.out.see
    have c4 := hs.c4
    have f4 := hs.fz 4
    have hw := IntWalk.i64_in (s2.dp + 1) (by omega)
    have hset := HP2.out.setDp (s2.dp + 1)
    have HF : Hid (PostR P src T R w (.tuple #[]) s1 (.returned (.tuple #[])) (w2.setCell ⟨P, 4, none⟩ (.int .i64 (s2.dp + 1)))) := Lib.hid ⟨rfl, _, by rw [E1.out]; exact hset.1, HF2.out.trans hset.2⟩
    generalize s2.dp = dp at c4 hw HF hd
    clear hs hset HP2 HF2 E1 hd H
    go_wp2_with fail
    exact bodyPost_end (v := .tuple #[]) (by simp [results, Tryd.results96, go_sem]) rfl HF.out
  · have d16 : decide (16 ≤ s.dp) = false := decide_eq_false h16
    have e3 : s2 = s := by rw [e2]; exact if_neg h16
    subst e3
    have f4 := H.out.see.fz 4
    have hw := IntWalk.i64_in (s2.dp + 1) (by omega)
    have hset := H.out.setDp (s2.dp + 1)
    have HF : Hid (PostR P src T R w (.tuple #[]) s1 (.returned (.tuple #[])) (w.setCell ⟨P, 4, none⟩ (.int .i64 (s2.dp + 1)))) := Lib.hid ⟨rfl, _, by rw [E1.out]; exact hset.1, hset.2⟩
    generalize s2.dp = dp at c4 hw HF hd h16 d16
    clear hset E1 hd H e2
    go_enter Tryd.func96, Tryd.ntmps96
    go_wp2_with fail
    exact bodyPost_end (v := .tuple #[]) (by simp [results, Tryd.results96, go_sem]) rfl HF.out
theorem go_out {T : List Tok} {s s' : PS} {u : Unit} (h : goR T s = some (u, s')) : s.i + 1 < T.length ∧ s' = stepR s := by
  unfold goR at h
  split at h
  · rename_i hl
    injection h with h
    injection h with h1 h2
    exact ⟨hl, h2.symm⟩
  · cases h
/-- The contract of a function of the reader's that tells a number. -/
def RexC (P : Nat) (src : ByteArray) (T : List Tok) (f : Nat) (m : PM Int) : Prop :=
  ∀ (s : PS) (a : Int) (s1 : PS) (R : Nat → Prop) (w : World), m s = some (a, s1) → Red w P src T R s → Calls Tryd.prog f #[.pointer (some ⟨P, 0, none⟩)] w (PostR P src T R w (.int .i64 a) s1)
theorem rline_q {P : Nat} {src : ByteArray} {T : List Tok} {R : Nat → Prop} {s : PS} {w : World} (hsz : src.size ≤ 1000) (h : Red w P src T R s) {ln : Int} (hl : ln = lineS src.data.toList T s) : Calls Tryd.prog 58 #[.pointer (some ⟨P, 0, none⟩)] w fun e w' => e = .returned (.int .i64 ln) ∧ Keeps (fun _ => False) w w' := by
  rw [hl]
  exact rline_at hsz h
theorem ris_q {P : Nat} {src : ByteArray} {T : List Tok} {R : Nat → Prop} {s : PS} {w : World} (h : Red w P src T R s) (x : ByteArray) {b : Bool} (hb : b = isR T x.data.toList s) : Calls Tryd.prog 61 #[.pointer (some ⟨P, 0, none⟩), .string x] w fun e w' => e = .returned (.bool b) ∧ Keeps (fun _ => False) w w' := by
  rw [hb]
  exact ris_any h x
theorem rcalls_q {P : Nat} {src : ByteArray} {T : List Tok} {R : Nat → Prop} {s : PS} {w : World} (h : Red w P src T R s) {b : Bool} (hb : b = callsR T s) : Calls Tryd.prog 132 #[.pointer (some ⟨P, 0, none⟩)] w fun e w' => e = .returned (.bool b) ∧ Keeps (fun _ => False) w w' := by
  rw [hb]
  exact rcalls_any h
theorem rwd_q {P : Nat} {src : ByteArray} {T : List Tok} {R : Nat → Prop} {s : PS} {w : World} (h : Red w P src T R s) {x : List UInt8} (hx : x = wordR T s) : Calls Tryd.prog 94 #[.pointer (some ⟨P, 0, none⟩)] w fun e w' => e = .returned (.string (ofL x)) ∧ Keeps (fun _ => False) w w' := by
  rw [hx]
  exact rwd_any h
theorem must_q {P : Nat} {src : ByteArray} {T : List Tok} {R : Nat → Prop} {s : PS} {w : World} {s1 : PS} (h : Red w P src T R s) (x : ByteArray) (e : s1 = mustR T x.data.toList s) : Calls Tryd.prog 59 #[.pointer (some ⟨P, 0, none⟩), .string x] w (PostR P src T R w (.tuple #[]) s1) := by
  rw [e]
  exact must_any h x
theorem fails_q {P : Nat} {src : ByteArray} {T : List Tok} {R : Nat → Prop} {s : PS} {w : World} {s1 : PS} (h : Red w P src T R s) (k : Nat) (e : s1 = failR T k s) : Calls Tryd.prog 93 #[.pointer (some ⟨P, 0, none⟩), .int .i64 (k : Int)] w (PostR P src T R w (.tuple #[]) s1) := by
  rw [e]
  exact fails_any h k
theorem rname_q {P : Nat} {src : ByteArray} {T : List Tok} {R : Nat → Prop} {s : PS} {w : World} {s1 : PS} {x : List UInt8} (h : Red w P src T R s) (e : s1 = wnameR T s) (ex : x = wnameX T s) : Calls Tryd.prog 60 #[.pointer (some ⟨P, 0, none⟩)] w (PostR P src T R w (.string (ofL x)) s1) := by
  rw [e, ex]
  exact rname_any h
theorem rtype_q (x : List UInt8) (w : World) {t : Int} (ht : t = typeN x) : Calls Tryd.prog 95 #[.string (ofL x)] w fun e w' => e = .returned (.int .i64 t) ∧ Keeps (fun _ => False) w w' := by
  rw [ht]
  refine (rtype_any (ofL x) w).mono fun e w' ⟨h1, h2⟩ => ⟨by rw [h1, ofL_list], by rw [h2]; exact Keeps.refl _ _⟩
def SgP (w : World) (B : Nat) (l : List (List UInt8)) : Prop := B < w.heap.size ∧ ∀ j, j < l.length → w.cell? ⟨B, j, none⟩ = some (.string (ofL (l.getD j [])))
theorem SgP.keep {w w' : World} {B : Nat} {l : List (List UInt8)} (h : SgP w B l) (k : Keeps (fun _ => False) w w') : SgP w' B l :=
  ⟨Nat.lt_of_lt_of_le h.1 k.size, fun j hj => (k.cell h.1 (fun h => h)).trans (h.2 j hj)⟩
theorem signs0_any (w : World) : Calls Tryd.prog 161 #[.int .i64 0] w fun e w' => ∃ B, e = .returned (.slice (some ⟨B, 0, none⟩) (signsL 0).length (signsL 0).length) ∧ SgP w' B (signsL 0) ∧ Keeps (fun _ => False) w w' := by
  have kz := Keeps.one w (.cells #[.string { data := #[124, 124] }] 9)
  have HS : Hid (SgP (w.alloc (.cells #[.string { data := #[124, 124] }] 9)) w.heap.size (signsL 0)) := Lib.hid ⟨by simp, fun j hj => by
    rw [World.cell?_alloc_mark w #[.string { data := #[124, 124] }] 9 (0, 0) j]
    match j, hj with
    | 0, _ => rfl⟩
  have K := Lib.hid kz
  clear kz
  go_enter Tryd.func161, Tryd.ntmps161
  go_wp2_with fail
  go_ret
  exact ⟨_, rfl, HS.out, K.out⟩
theorem signs1_any (w : World) : Calls Tryd.prog 161 #[.int .i64 1] w fun e w' => ∃ B, e = .returned (.slice (some ⟨B, 0, none⟩) (signsL 1).length (signsL 1).length) ∧ SgP w' B (signsL 1) ∧ Keeps (fun _ => False) w w' := by
  have kz := Keeps.one w (.cells #[.string { data := #[38, 38] }] 9)
  have HS : Hid (SgP (w.alloc (.cells #[.string { data := #[38, 38] }] 9)) w.heap.size (signsL 1)) := Lib.hid ⟨by simp, fun j hj => by
    rw [World.cell?_alloc_mark w #[.string { data := #[38, 38] }] 9 (0, 0) j]
    match j, hj with
    | 0, _ => rfl⟩
  have K := Lib.hid kz
  clear kz
  go_enter Tryd.func161, Tryd.ntmps161
  go_wp2_with fail
  go_ret
  exact ⟨_, rfl, HS.out, K.out⟩
theorem signs2_any (w : World) : Calls Tryd.prog 161 #[.int .i64 2] w fun e w' => ∃ B, e = .returned (.slice (some ⟨B, 0, none⟩) (signsL 2).length (signsL 2).length) ∧ SgP w' B (signsL 2) ∧ Keeps (fun _ => False) w w' := by
  have kz := Keeps.one w (.cells #[.string { data := #[60] }, .string { data := #[60, 61] }, .string { data := #[61, 61] }, .string { data := #[33, 61] }] 9)
  have HS : Hid (SgP (w.alloc (.cells #[.string { data := #[60] }, .string { data := #[60, 61] }, .string { data := #[61, 61] }, .string { data := #[33, 61] }] 9)) w.heap.size (signsL 2)) := Lib.hid ⟨by simp, fun j hj => by
    rw [World.cell?_alloc_mark w #[.string { data := #[60] }, .string { data := #[60, 61] }, .string { data := #[61, 61] }, .string { data := #[33, 61] }] 9 (0, 0) j]
    match j, hj with
    | 0, _ => rfl
    | 1, _ => rfl
    | 2, _ => rfl
    | 3, _ => rfl⟩
  have K := Lib.hid kz
  clear kz
  go_enter Tryd.func161, Tryd.ntmps161
  go_wp2_with fail
  go_ret
  exact ⟨_, rfl, HS.out, K.out⟩
theorem signs3_any (w : World) : Calls Tryd.prog 161 #[.int .i64 3] w fun e w' => ∃ B, e = .returned (.slice (some ⟨B, 0, none⟩) (signsL 3).length (signsL 3).length) ∧ SgP w' B (signsL 3) ∧ Keeps (fun _ => False) w w' := by
  have kz := Keeps.one w (.cells #[.string { data := #[43] }, .string { data := #[45] }] 9)
  have HS : Hid (SgP (w.alloc (.cells #[.string { data := #[43] }, .string { data := #[45] }] 9)) w.heap.size (signsL 3)) := Lib.hid ⟨by simp, fun j hj => by
    rw [World.cell?_alloc_mark w #[.string { data := #[43] }, .string { data := #[45] }] 9 (0, 0) j]
    match j, hj with
    | 0, _ => rfl
    | 1, _ => rfl⟩
  have K := Lib.hid kz
  clear kz
  go_enter Tryd.func161, Tryd.ntmps161
  go_wp2_with fail
  go_ret
  exact ⟨_, rfl, HS.out, K.out⟩
theorem signs4_any (w : World) : Calls Tryd.prog 161 #[.int .i64 4] w fun e w' => ∃ B, e = .returned (.slice (some ⟨B, 0, none⟩) (signsL 4).length (signsL 4).length) ∧ SgP w' B (signsL 4) ∧ Keeps (fun _ => False) w w' := by
  have kz := Keeps.one w (.cells #[.string { data := #[42] }, .string { data := #[47] }, .string { data := #[37] }] 9)
  have HS : Hid (SgP (w.alloc (.cells #[.string { data := #[42] }, .string { data := #[47] }, .string { data := #[37] }] 9)) w.heap.size (signsL 4)) := Lib.hid ⟨by simp, fun j hj => by
    rw [World.cell?_alloc_mark w #[.string { data := #[42] }, .string { data := #[47] }, .string { data := #[37] }] 9 (0, 0) j]
    match j, hj with
    | 0, _ => rfl
    | 1, _ => rfl
    | 2, _ => rfl⟩
  have K := Lib.hid kz
  clear kz
  go_enter Tryd.func161, Tryd.ntmps161
  go_wp2_with fail
  go_ret
  exact ⟨_, rfl, HS.out, K.out⟩
end Go.Proofs.YtgelggdgbmldiaaDoor

namespace Go.Proofs.YtgelggdgbmldiaaDoor
open Go Go.RowKit Go.Shelf
set_option linter.unusedVariables false
set_option linter.unusedSimpArgs false
theorem rsigns_any (lv : Nat) (hlv : lv ≤ 4) (w : World) : Calls Tryd.prog 161 #[.int .i64 (lv : Int)] w fun e w' => ∃ B, e = .returned (.slice (some ⟨B, 0, none⟩) (signsL lv).length (signsL lv).length) ∧ SgP w' B (signsL lv) ∧ Keeps (fun _ => False) w w' := by
  match lv, hlv with
  | 0, _ => exact signs0_any w
  | 1, _ => exact signs1_any w
  | 2, _ => exact signs2_any w
  | 3, _ => exact signs3_any w
  | 4, _ => exact signs4_any w
theorem nextR_drop {T : List Tok} {l : List (List UInt8)} {s : PS} {i : Nat} (hi : i < l.length) : nextR T (l.drop i) s = if isR T (l.getD i []) s then l.getD i [] else nextR T (l.drop (i + 1)) s := by
  have e : l.drop i = l.getD i [] :: l.drop (i + 1) := by
    rw [List.drop_eq_getElem_cons hi, List.getD, List.getElem?_eq_getElem hi]
    rfl
  unfold nextR
  rw [e, List.filter_cons]
  by_cases hb : isR T (l.getD i []) s = true
  · rw [if_pos hb, if_pos hb]
    rfl
  · rw [if_neg hb, if_neg hb]
set_option maxRecDepth 100000 in
set_option maxHeartbeats 8000000 in
theorem rnext_any {P : Nat} {src : ByteArray} {T : List Tok} {R : Nat → Prop} {s : PS} {w : World} (h : Red w P src T R s) (lv : Nat) (hlv : lv ≤ 4) {x : List UInt8} (hx : x = nextR T (signsL lv) s) : Calls Tryd.prog 149 #[.pointer (some ⟨P, 0, none⟩), .int .i64 (lv : Int)] w fun e w' => e = .returned (.string (ofL x)) ∧ Keeps (fun _ => False) w w' := by
  have H := Lib.hid h
  have SC := Lib.hid (rsigns_any lv hlv w)
  have hlen : (signsL lv).length ≤ 4 := by match lv, hlv with | 0, _ => decide | 1, _ => decide | 2, _ => decide | 3, _ => decide | 4, _ => decide
  have hx0 : nextR T ((signsL lv).drop 0) s = x := by rw [List.drop_zero]; exact hx.symm
  generalize signsL lv = l at *
  obtain ⟨n, hn⟩ : ∃ n, n = l.length := ⟨_, rfl⟩
  rw [← hn] at SC hlen
  have HN := Lib.hid hn
  clear hn hx h
  go_enter Tryd.func149, Tryd.ntmps149
  go_wp2_with fail
  refine SC.out.mono ?_
  rintro e w1 ⟨B, rfl, hS, k1⟩
  clear SC
  go_wp2_with fail
  go_loopg [6, 7] n (fun k s6 s7 wr => ∃ i : Nat, s6 = .int .i64 (i : Int) ∧ i + k = n ∧ nextR T (l.drop i) s = x ∧ SgP wr B l ∧ Keeps (fun _ => False) w wr)
  case atStart => exact ⟨0, rfl, by omega, hx0, hS, k1⟩
  case round =>
    obtain ⟨i, rfl, hik, hx, hS, hk⟩ := hrel
    clear hx0 k1
    have i1 : IntKind.i64.wrap ((i : Int) + 1) = ((i + 1 : Nat) : Int) := by rw [show ((i + 1 : Nat) : Int) = (i : Int) + 1 by omega]; exact IntWalk.i64_in _ (by omega)
    have h0 : (0 : Int) ≤ (i : Int) := by omega
    cases gk with
    | zero =>
      have hnl : ¬ (i : Int) < (n : Int) := by omega
      have hd : decide ((i : Int) < (n : Int)) = false := decide_eq_false hnl
      have HE : Hid (x = []) := Lib.hid (by rw [← hx, List.drop_eq_nil_of_le (by rw [← HN.out]; omega)]; rfl)
      have K := Lib.hid hk
      clear hx hS hk hik
      go_wp2_with fail
      go_ret
      exact ⟨by rw [HE.out]; rfl, K.out⟩
    | succ k =>
      have h1 : (i : Int) < (n : Int) := by omega
      have hd : decide ((i : Int) < (n : Int)) = true := decide_eq_true h1
      have hil : i < l.length := by rw [← HN.out]; omega
      have hc := hS.2 i hil
      rw [nextR_drop hil] at hx
      have HX := Lib.hid hx
      have K := Lib.hid hk
      have HS := Lib.hid hS
      have HIK := Lib.hid hik
      obtain ⟨b, hb⟩ : ∃ b, b = isR T (l.getD i []) s := ⟨_, rfl⟩
      have IC := Lib.hid (ris_q (H.out.keep hk) (ofL (l.getD i [])) (b := b) (by rw [ofL_list]; exact hb))
      have HB := Lib.hid hb
      have Kall := Lib.hid (fun w3 (k3 : Keeps (fun _ => False) wr w3) => hk.trans k3 (fun _ _ h => h))
      generalize hg : l.getD i [] = gx at *
      clear hx hk hb hS hg hik
      cases b with
      | true =>
        have hgx : gx = x := by have := HX.out; rw [if_pos HB.out.symm] at this; exact this
        have HGX := Lib.hid hgx
        clear hgx
        go_upto_region 5 with fail
        go_wp2_with fail
        refine IC.out.mono ?_
        rintro e w3 ⟨rfl, k3⟩
        have hc := (k3.cell (cell_ltk hc) (fun h => h)).trans hc
        clear IC
        go_wp2_with fail
        go_ret
        exact ⟨by rw [← HGX.out]; rfl, Kall.out w3 k3⟩
      | false =>
        have hgx : nextR T (l.drop (i + 1)) s = x := by have := HX.out; rw [if_neg (by rw [← HB.out]; decide)] at this; exact this
        have HGX := Lib.hid hgx
        clear hgx
        go_upto_region 5 with fail
        go_wp2_with fail
        refine IC.out.mono ?_
        rintro e w3 ⟨rfl, k3⟩
        clear IC hc
        go_wp2_with fail
        go_roundg k
        case measure => omega
        case rel => exact ⟨i + 1, rfl, by have := HIK.out; omega, HGX.out, HS.out.keep k3, Kall.out w3 k3⟩
end Go.Proofs.YtgelggdgbmldiaaDoor
