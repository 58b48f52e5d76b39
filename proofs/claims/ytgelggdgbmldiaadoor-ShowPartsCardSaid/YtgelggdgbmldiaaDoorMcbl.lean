/-
  Layer 2: the contract of the document's All. Written by an AI agent.
  Layer 2: what ParseBelow counts, as data; a source cut short. Written by an AI agent.
  Layer 3: short, and a source to the document's reader. Written by an AI agent.
  Layer 2: two runs of the parser's data, side by side: what is lost stays so; what is alike stays alike, or is lost. Written by an AI agent.
-/
import Derived.Lib.Bytealg
import Derived.Test.YtgelggdgbmldiaaDoorChecked
import Derived.Laws.OwnMore
import Derived.Laws.AppendOwnNone
import Derived.OwnWalk
import Derived.Lib.AppendZerosOnto
import Derived.Below
import Derived.Stop.Walk2
import Derived.WalkKit
import Derived.WalkLawsBesides
import Derived.WalkSpells
import Derived.Outline
import Derived.BigQuiet
import Derived.Deep.CutBlock
import Derived.Deep.CutRange
import Derived.Deep.DeepCutAuto
import Derived.Deep.RegionHeld3
import Derived.Deep.RegionLaw
import Derived.Deep.RegionWith
import Derived.StillTailTactics
import Derived.RegionTactic
import Derived.Laws.StructEq
import Derived.Lib.Hide
import Derived.Shelf.Abstract
import Derived.Shelf.Lay
import Derived.Ground.NamesProg
import Derived.Shelf.Strings.Prefix
import Derived.Shelf.Small.Strs
import Derived.Shelf.Strings.Count
import Derived.Shelf.Strconv.ErrVarParseInt
import Derived.WalkMore
import Derived.Scope
import Derived.Shelf.Slices.Turned
import Derived.Lib.SlicesS
import Derived.Deep.RegionHeld
import Derived.Deep.LoopGhost
import Derived.Shelf.Strconv.AtoiAll
import Derived.Deep.Light
import Derived.Test.YtgelggdgbmldiaaDoorMcaa
import Derived.Test.YtgelggdgbmldiaaDoorMcac
import Derived.Test.YtgelggdgbmldiaaDoorMcad
import Derived.Test.YtgelggdgbmldiaaDoorMcae
import Derived.Test.YtgelggdgbmldiaaDoorMcag
import Derived.Test.YtgelggdgbmldiaaDoorMcah
import Derived.Test.YtgelggdgbmldiaaDoorMcas
import Derived.Test.YtgelggdgbmldiaaDoorMcat
import Derived.Test.YtgelggdgbmldiaaDoorMcau
import Derived.Test.YtgelggdgbmldiaaDoorMcav
import Derived.Test.YtgelggdgbmldiaaDoorMcaw
import Derived.Test.YtgelggdgbmldiaaDoorMcax
import Derived.Test.YtgelggdgbmldiaaDoorMcay
import Derived.Test.YtgelggdgbmldiaaDoorMcaz
import Derived.Test.YtgelggdgbmldiaaDoorMcba
import Derived.Test.YtgelggdgbmldiaaDoorMcbb
import Derived.Test.YtgelggdgbmldiaaDoorMcbc
import Derived.Test.YtgelggdgbmldiaaDoorMcbd
import Derived.Test.YtgelggdgbmldiaaDoorMcbe
import Derived.Test.YtgelggdgbmldiaaDoorMcbf
import Derived.Test.YtgelggdgbmldiaaDoorMcbg
import Derived.Test.YtgelggdgbmldiaaDoorMcbh
import Derived.Test.YtgelggdgbmldiaaDoorMcbi
import Derived.Test.YtgelggdgbmldiaaDoorMcbj
import Derived.Test.YtgelggdgbmldiaaDoorMcbk
import Derived.Deep.OwnRows
import Derived.Test.YtgelggdgbmldiaaDoorMcab
import Derived.Shelf.Strconv.Itoa3
import Derived.Lib.LaidTab
import Derived.Lib.ItoaLen
import Derived.Maps.Own
import Derived.Maps.OwnOps
import Derived.StringKeys
import Derived.Shelf.Strings.OnBuilder
import Derived.Shelf.Strings.BuilderCap
import Derived.Shelf.Strings.BuilderK
import Derived.Test.YtgelggdgbmldiaaDoorMcaf
import Derived.Test.YtgelggdgbmldiaaDoorMcai
import Derived.Test.YtgelggdgbmldiaaDoorMcaj
import Derived.Test.YtgelggdgbmldiaaDoorMcak
import Derived.Test.YtgelggdgbmldiaaDoorMcal
import Derived.Test.YtgelggdgbmldiaaDoorMcam
import Derived.Test.YtgelggdgbmldiaaDoorMcan
import Derived.Test.YtgelggdgbmldiaaDoorMcao
import Derived.Test.YtgelggdgbmldiaaDoorMcap
import Derived.Test.YtgelggdgbmldiaaDoorMcaq
import Derived.Test.YtgelggdgbmldiaaDoorMcar
namespace Go.Proofs.YtgelggdgbmldiaaDoor
open Go Go.RowKit Go.Shelf
set_option linter.unusedVariables false
set_option linter.unusedSimpArgs false
/-- The document's All, for any source, as far as the numbers of steps go. -/
theorem rpall_any (s : ByteArray) (hs : s.size ≤ 1000) (N : Nat) (hN : N ≤ 100000) (res : (Nat × Nat) ⊕ (List Nd × List Fnc)) (h : allR N s.data.toList = some res) (w : World) :
    Calls Tryd.prog 16 #[.string s] w fun e w' => TreeE 0 res e w' ∧ Keeps (fun _ => False) w w' := by
  unfold allR at h
  by_cases hb : 600 < s.size
  · rw [if_pos (by rw [len_size]; exact hb)] at h
    obtain rfl := Option.some.inj h
    refine (rpall_err s w 0 4 (by decide) (fun w1 k => (rall_any s hs w1).mono fun e w' ⟨h1, hk⟩ => ?_)).mono fun e w' ⟨h1, h2⟩ => ⟨h1, h2⟩
    rw [if_pos (by rw [len_size]; exact hb)] at h1
    exact ⟨h1, hk⟩
  · rw [if_neg (by rw [len_size]; exact hb)] at h
    cases hl : (lexL s.data.toList 0).2 with
    | some pe =>
      rw [hl] at h
      obtain rfl := Option.some.inj h
      obtain ⟨p, er⟩ := pe
      have her := lexL_cut s.data.toList 0 p er hl
      refine (rpall_err s w p er (by omega) (fun w1 k => (rall_any s hs w1).mono fun e w' ⟨h1, hk⟩ => ?_)).mono fun e w' ⟨h1, h2⟩ => ⟨h1, h2⟩
      rw [if_neg (by rw [len_size]; exact hb), hl] at h1
      exact ⟨h1, hk⟩
    | none =>
      rw [hl] at h
      exact rpall_ok s (by omega) N hN res hl h w (fun P => rfunction_any (by omega) hN (rblock_any (by omega) hN (rst_any (by omega) hN N)))
end Go.Proofs.YtgelggdgbmldiaaDoor

namespace Go.Proofs.YtgelggdgbmldiaaDoor
open Go Go.RowKit Go.Shelf
set_option linter.unusedVariables false
set_option linter.unusedSimpArgs false
/-- What is refused bears an error. -/
theorem errs_ne (N : Nat) (src : List UInt8) (p er : Nat) (h : allP N src = some (.inl (p, er))) : er ≠ 0 := by
  unfold allP at h
  split at h
  · cases h; decide
  split at h
  · rename_i pe hl
    have h1 := Option.some.inj h
    have h2 : pe = (p, er) := Sum.inl.inj h1
    rw [h2] at hl
    have := (lexL_cut src 0 p er hl).2.2.2
    omega
  · rename_i hn
    cases hr : fnsR src (lexL src 0).1 N N [] ⟨0, 0, 0, [], 0⟩ with
    | none => rw [hr] at h; cases h
    | some r =>
      rw [hr] at h
      obtain ⟨l, s⟩ := r
      have h1 : treeP l s = .inl (p, er) := Option.some.inj h
      unfold treeP at h1
      split at h1
      · split at h1
        · cases h1; decide
        · cases h1
      · cases h1
        assumption
end Go.Proofs.YtgelggdgbmldiaaDoor

namespace Go.Proofs.YtgelggdgbmldiaaDoor
open Go Go.RowKit Go.Shelf
set_option linter.unusedVariables false
set_option linter.unusedSimpArgs false
set_option maxHeartbeats 16000000 in
theorem short3_any (s : ByteArray) (w : World) : Calls Tryd.prog 17 #[.string s] w fun e w' => (∃ t : ByteArray, t.size ≤ 700 ∧ e = .returned (.string t)) ∧ w' = w := by
  by_cases h : 700 < s.size
  · have hI : (700 : Int) < (s.size : Int) := by omega
    have hI2 : (700 : Int) ≤ (s.size : Int) := by omega
    have H := Lib.hid (show (s.extract 0 700).size ≤ 700 by rw [ByteArray.size_extract]; omega)
    clear h
    go_enter Tryd.func17, Tryd.ntmps17
    go_wp2
    go_ret
    exact ⟨⟨_, H.out, rfl⟩, rfl⟩
  · have hI : ¬ (700 : Int) < (s.size : Int) := by omega
    have hd : decide ((700 : Int) < (s.size : Int)) = false := decide_eq_false hI
    go_enter Tryd.func17, Tryd.ntmps17
    go_wp2
    go_ret
    exact ⟨⟨s, by omega, rfl⟩, rfl⟩
/-- A source, to the document's reader. -/
theorem rsrc_any (s : ByteArray) (hs : s.size ≤ 1000) (res : Res) (h : allP 6100 s.data.toList = some res) (w : World) : Calls Tryd.prog 16 #[.string s] w fun e w' => ∃ A c A' c', e = .returned (.tuple #[.agg #[.slice A (ndsOf res).length c, .slice A' (fnsOf res).length c'], .int .i64 (atOf res : Int), .int .i64 (erOf res : Int)]) ∧ TreeR 0 w' A A' (ndsOf res) (fnsOf res) ∧ Keeps (fun _ => False) w w' :=
  (rpall_any s hs 6100 (by omega) res (allR_eq _ _ _ h) w).mono fun e w' ⟨h1, k⟩ => by
    obtain ⟨A, c, A', c', h2, h3⟩ := treeE_all h1
    exact ⟨A, c, A', c', h2, h3, k⟩
def qshow (s : List UInt8) : Prop := s.length ≤ 1000
theorem qt_of (src : List UInt8) (h : (lexL src 0).2 = none) (hl : src.length ≤ 600) : QT qshow (lexL src 0).1 := by
  have hok := tokOK_lex src hl h
  refine ⟨by show ([] : List UInt8).length ≤ 1000; simp, fun s => ?_⟩
  unfold tokA
  rcases Nat.lt_or_ge s.i (lexL src 0).1.length with h1 | h1
  · exact hok.long _ h1
  · rw [List.getD, List.getElem?_eq_none h1]
    show ([] : List UInt8).length ≤ 1000
    simp
end Go.Proofs.YtgelggdgbmldiaaDoor

namespace Go.Proofs.YtgelggdgbmldiaaDoor
set_option linter.unusedVariables false
set_option linter.unusedSimpArgs false
/-- What is lost stays so, whatever is done. -/
structure LostP (T : List Tok) (Lost : PS → Prop) : Prop where
  next : ∀ s, Lost s → Lost (nextS T s)
  fail : ∀ s e, Lost s → (e = 20 ∨ e = 21) → Lost (failS T e s)
  dp : ∀ s d, Lost s → Lost { s with dp := d }
  node : ∀ s n, Lost s → Lost { s with nd := s.nd ++ [n] }
def Mono {α : Type} (Lost : PS → Prop) (m : PM α) : Prop := ∀ s r s1, Lost s → m s = some (r, s1) → Lost s1
section
variable {src : List UInt8} {T : List Tok} {Lost : PS → Prop}
theorem Mono.bind {α β : Type} {m : PM α} {f : α → PM β} (h : Mono Lost m) (k : ∀ a, Mono Lost (f a)) : Mono Lost (m >>= f) := by
  intro s r s1 hl e
  obtain ⟨a, t, e1, e2⟩ := bind_out e
  exact k a t r s1 (h s a t hl e1) e2
theorem Mono.ask {α β : Type} {g : PS → α} {f : α → PM β} (k : ∀ a, Mono Lost (f a)) : Mono Lost (ask g >>= f) := fun s r s1 hl e => k _ s r s1 hl e
theorem Mono.ret {α : Type} {a : α} : Mono Lost (pure a) := by
  intro s r s1 hl e
  have e := pure_out e
  injection e with e1 e2
  rw [e2]
  exact hl
theorem Mono.none {α : Type} : Mono Lost (fun _ => none : PM α) := by
  intro s r s1 hl e
  cases e
theorem Mono.both {α : Type} {c : Prop} [Decidable c] {m m' : PM α} (h : Mono Lost m) (k : Mono Lost m') : Mono Lost (if c then m else m') := by
  by_cases hc : c
  · rw [if_pos hc]; exact h
  · rw [if_neg hc]; exact k
theorem lost_want (L : LostP T Lost) (x : List UInt8) (s : PS) (h : Lost s) : Lost (wantS T x s) := by
  unfold wantS
  split
  · exact L.next s h
  · exact L.fail s 20 h (by decide)
theorem lost_name (L : LostP T Lost) (s : PS) (h : Lost s) : Lost (nameS T s) := by
  unfold nameS
  split
  · exact L.next s h
  · exact L.fail s 20 h (by decide)
theorem lost_open (L : LostP T Lost) (x : List UInt8) (s : PS) (h : Lost s) : Lost (openS T x s) := by
  unfold openS
  split
  · exact lost_want L x _ (L.fail s 21 h (by decide))
  · exact lost_want L x s h
theorem Mono.mod {β : Type} {g : PS → PS} {f : Unit → PM β} (h : ∀ s, Lost s → Lost (g s)) (k : Mono Lost (f ())) : Mono Lost (mod g >>= f) := fun s r s1 hl e => k (g s) r s1 (h s hl) e
theorem Mono.want (L : LostP T Lost) {β : Type} {x : List UInt8} {f : Unit → PM β} (k : Mono Lost (f ())) : Mono Lost (Go.Proofs.YtgelggdgbmldiaaDoor.mod (wantS T x) >>= f) := Mono.mod (lost_want L x) k
theorem Mono.next (L : LostP T Lost) {β : Type} {f : Unit → PM β} (k : Mono Lost (f ())) : Mono Lost (Go.Proofs.YtgelggdgbmldiaaDoor.mod (nextS T) >>= f) := Mono.mod L.next k
theorem Mono.name (L : LostP T Lost) {β : Type} {f : Unit → PM β} (k : Mono Lost (f ())) : Mono Lost (Go.Proofs.YtgelggdgbmldiaaDoor.mod (nameS T) >>= f) := Mono.mod (lost_name L) k
theorem Mono.fail (L : LostP T Lost) {β : Type} {f : Unit → PM β} (k : Mono Lost (f ())) : Mono Lost (Go.Proofs.YtgelggdgbmldiaaDoor.mod (failS T 20) >>= f) := Mono.mod (fun s h => L.fail s 20 h (by decide)) k
theorem Mono.deep (L : LostP T Lost) (d : Int) : Mono Lost (deepS d) := by
  intro s r s1 hl e
  unfold deepS at e
  split at e
  · injection e with e
    injection e with e1 e2
    rw [← e2]
    exact L.dp s _ hl
  · cases e
theorem Mono.node (L : LostP T Lost) (n : Nd) (l : List Int) : Mono Lost (nodeM n l) := by
  intro s r s1 hl e
  unfold nodeM at e
  split at e
  · injection e with e
    injection e with e1 e2
    rw [← e2]
    exact L.node s _ hl
  · cases e
theorem mono_open (L : LostP T Lost) (x : List UInt8) : Mono Lost (openM T x) := Mono.mod (lost_open L x) (Mono.deep L 1)
theorem mono_shut (L : LostP T Lost) (x : List UInt8) : Mono Lost (shutM T x) := Mono.mod (lost_want L x) (Mono.deep L (-1))
theorem mono_inside (L : LostP T Lost) {ex : PM Int} (hx : Mono Lost ex) (a b : List UInt8) : Mono Lost (insideM T ex a b) :=
  (mono_open L a).bind fun _ => hx.bind fun _ => (mono_shut L b).bind fun _ => Mono.ret
theorem mono_variable (L : LostP T Lost) {ex : PM Int} (hx : Mono Lost ex) (ln : Int) : Mono Lost (variableM T ex ln) :=
  Mono.ask fun _ => Mono.name L (Mono.ask fun _ => Mono.both ((mono_inside L hx _ _).bind fun _ => Mono.node L _ _) (Mono.node L _ _))
theorem mono_atom (L : LostP T Lost) {ex : PM Int} (hx : Mono Lost ex) : Mono Lost (atomM src T ex) :=
  Mono.ask fun _ => Mono.ask fun _ => Mono.both (Mono.next L (Mono.node L _ _)) (Mono.both (Mono.next L (Mono.node L _ _)) (Mono.ask fun _ => Mono.both (Mono.next L (Mono.node L _ _))
    (Mono.ask fun _ => Mono.both (Mono.next L ((mono_inside L hx _ _).bind fun _ => Mono.node L _ _)) (Mono.ask fun _ => Mono.both (mono_inside L hx _ _) (mono_variable L hx _)))))
theorem mono_factor (L : LostP T Lost) {fac ex : PM Int} (hf : Mono Lost fac) (hx : Mono Lost ex) : Mono Lost (factorM src T fac ex) :=
  Mono.ask fun _ => Mono.ask fun _ => Mono.ask fun _ => Mono.both ((mono_open L _).bind fun _ => hf.bind fun _ => (Mono.deep L _).bind fun _ => Mono.node L _ _)
    (Mono.ask fun _ => Mono.both ((mono_open L _).bind fun _ => hf.bind fun _ => (Mono.deep L _).bind fun _ => Mono.node L _ _) (mono_atom L hx))
theorem mono_chain (L : LostP T Lost) {lv : Nat} {sub : PM Int} (hs : Mono Lost sub) (ln : Int) : ∀ n x, Mono Lost (chainR T lv sub ln n x) := by
  intro n
  induction n with
  | zero => intro x; exact Mono.none
  | succ n ih =>
    intro x
    exact Mono.ask fun _ => Mono.both (Mono.ask fun _ => Mono.next L (hs.bind fun _ => (Mono.node L _ _).bind fun _ => Mono.both Mono.ret (ih _))) Mono.ret
theorem mono_ex (L : LostP T Lost) : ∀ n lv, Mono Lost (exM src T n lv) := by
  intro n
  induction n with
  | zero => intro lv; exact Mono.none
  | succ n ih =>
    intro lv
    exact Mono.both (mono_factor L (ih 5) (ih 0)) (Mono.ask fun _ => (ih (lv + 1)).bind fun _ => mono_chain L (ih (lv + 1)) _ _ _)
theorem mono_comma (L : LostP T Lost) {ex : PM Int} (hx : Mono Lost ex) : ∀ n l, Mono Lost (commaR T ex n l) := by
  intro n
  induction n with
  | zero => intro l; exact Mono.none
  | succ n ih => intro l; exact Mono.ask fun _ => Mono.both (Mono.next L (hx.bind fun _ => ih _)) Mono.ret
theorem mono_args (L : LostP T Lost) {ex : PM Int} (hx : Mono Lost ex) (N : Nat) : Mono Lost (argsM T N ex) :=
  Mono.ask fun _ => Mono.both Mono.ret (hx.bind fun _ => mono_comma L hx _ _)
theorem mono_call (L : LostP T Lost) {ex : PM Int} (hx : Mono Lost ex) (N : Nat) : Mono Lost (callM src T N ex) :=
  Mono.ask fun _ => Mono.ask fun _ => Mono.name L (Mono.want L ((mono_args L hx N).bind fun _ => Mono.want L (Mono.node L _ _)))
theorem mono_right (L : LostP T Lost) {ex : PM Int} (hx : Mono Lost ex) (N : Nat) : Mono Lost (rightM src T N ex) :=
  Mono.ask fun _ => Mono.ask fun _ => Mono.both (Mono.next L (Mono.node L _ _)) (Mono.ask fun _ => Mono.both (Mono.next L (Mono.want L (hx.bind fun _ => Mono.want L (Mono.node L _ _)))) (Mono.ask fun _ => Mono.both (mono_call L hx N) hx))
theorem mono_ended (L : LostP T Lost) (n : Nd) (l : List Int) : Mono Lost (endedM T n l) := Mono.want L (Mono.node L _ _)
theorem mono_change (L : LostP T Lost) {ex : PM Int} (hx : Mono Lost ex) (N : Nat) (ln : Int) : Mono Lost (changeM src T N ex ln) :=
  Mono.ask fun _ => Mono.name L (Mono.ask fun _ => Mono.both ((mono_open L _).bind fun _ => hx.bind fun _ => (mono_shut L _).bind fun _ => Mono.want L (hx.bind fun _ => mono_ended L _ _)) (Mono.want L ((mono_right L hx N).bind fun _ => mono_ended L _ _)))
theorem mono_choice (L : LostP T Lost) {ex bl : PM Int} (hx : Mono Lost ex) (hb : Mono Lost bl) (ln : Int) : Mono Lost (choiceM T ex bl ln) :=
  Mono.next L (hx.bind fun _ => hb.bind fun _ => Mono.ask fun _ => Mono.both (Mono.next L (hb.bind fun _ => Mono.node L _ _)) (Mono.node L _ _))
theorem mono_statement (L : LostP T Lost) {ex bl : PM Int} (hx : Mono Lost ex) (hb : Mono Lost bl) (N : Nat) : Mono Lost (statementM src T N ex bl) :=
  Mono.ask fun _ => Mono.ask fun _ => Mono.both (mono_choice L hx hb _) (Mono.ask fun _ => Mono.both (Mono.next L (hx.bind fun _ => hb.bind fun _ => Mono.node L _ _))
    (Mono.ask fun _ => Mono.both ((mono_call L hx N).bind fun _ => mono_ended L _ _) (Mono.ask fun _ => Mono.both (Mono.next L (hx.bind fun _ => mono_ended L _ _))
      (Mono.ask fun _ => Mono.both (Mono.next L (Mono.ask fun _ => Mono.both (mono_ended L _ _) (hx.bind fun _ => mono_ended L _ _)))
        (Mono.ask fun _ => Mono.both (Mono.next L (Mono.ask fun _ => Mono.name L (Mono.want L ((mono_right L hx N).bind fun _ => mono_ended L _ _)))) (mono_change L hx N _))))))
theorem mono_stms (L : LostP T Lost) {st : PM Int} (hs : Mono Lost st) : ∀ n l, Mono Lost (stmsR T st n l) := by
  intro n
  induction n with
  | zero => intro l; exact Mono.none
  | succ n ih => intro l; exact Mono.ask fun _ => Mono.both (hs.bind fun _ => ih _) Mono.ret
theorem mono_block (L : LostP T Lost) {st : PM Int} (hs : Mono Lost st) (N : Nat) : Mono Lost (blockM src T N st) :=
  Mono.ask fun _ => (mono_open L _).bind fun _ => (mono_stms L hs N _).bind fun _ => (mono_shut L _).bind fun _ => Mono.node L _ _
theorem mono_st (L : LostP T Lost) (N : Nat) : ∀ n, Mono Lost (stM src T N n) := by
  intro n
  induction n with
  | zero => exact Mono.none
  | succ n ih => exact mono_statement L (mono_ex L N 0) (mono_block L ih N) N
theorem mono_kind (L : LostP T Lost) : Mono Lost (kindM T) := Mono.ask fun _ => Mono.both (Mono.ask fun _ => Mono.next L Mono.ret) (Mono.fail L Mono.ret)
theorem mono_param (L : LostP T Lost) : Mono Lost (paramM T) := Mono.ask fun _ => Mono.name L ((mono_kind L).bind fun _ => Mono.ret)
theorem mono_params (L : LostP T Lost) : ∀ n l, Mono Lost (paramsR T n l) := by
  intro n
  induction n with
  | zero => intro l; exact Mono.none
  | succ n ih => intro l; exact Mono.ask fun _ => Mono.both (Mono.next L ((mono_param L).bind fun _ => ih _)) Mono.ret
theorem mono_paramsM (L : LostP T Lost) (N : Nat) : Mono Lost (paramsM T N) := Mono.ask fun _ => Mono.both Mono.ret ((mono_param L).bind fun _ => mono_params L _ _)
theorem mono_ret (L : LostP T Lost) : Mono Lost (retM T) := Mono.ask fun _ => Mono.both Mono.ret (mono_kind L)
theorem mono_function (L : LostP T Lost) (N : Nat) : Mono Lost (functionM src T N) :=
  Mono.ask fun _ => Mono.want L (Mono.ask fun _ => Mono.name L (Mono.want L ((mono_paramsM L N).bind fun _ => Mono.want L ((mono_ret L).bind fun _ => (mono_block L (mono_st L N N) N).bind fun _ => Mono.ret))))
theorem mono_fns (L : LostP T Lost) (N : Nat) : ∀ n l, Mono Lost (fnsR src T N n l) := by
  intro n
  induction n with
  | zero => intro l; exact Mono.none
  | succ n ih => intro l; exact Mono.ask fun _ => Mono.both ((mono_function L N).bind fun _ => ih _) Mono.ret
end
end Go.Proofs.YtgelggdgbmldiaaDoor
