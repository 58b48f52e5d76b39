/-
  Layer 2: the document's All: an error of the lexer; trees. Written by an AI agent.
-/
import Derived.Test.YtgelggdgbmldiaaDoorMkbd
import Derived.Test.YtgelggdgbmldiaaDoorMkbf
namespace Go.Proofs.YtgelggdgbmldiaaDoor
open Go Go.RowKit Go.Shelf
set_option linter.unusedVariables false
set_option linter.unusedSimpArgs false
set_option maxRecDepth 100000 in
set_option maxHeartbeats 16000000 in
theorem rpall_err (s : ByteArray) (w : World) (p er : Nat) (her : er ≠ 0) (LC : ∀ w1, Keeps (fun _ => False) w w1 → Calls Tryd.prog 28 #[.string s] w1 fun e w' => e = .returned (.tuple #[.slice none 0 0, .int .i64 (p : Int), .int .i64 (er : Int)]) ∧ Keeps (fun _ => False) w1 w') :
    Calls Tryd.prog 16 #[.string s] w fun e w' => e = .returned (.tuple #[.agg #[.slice none 0 0, .slice none 0 0], .int .i64 (p : Int), .int .i64 (er : Int)]) ∧ Keeps (fun _ => False) w w' := by
  have HLC := Lib.hid LC
  have hd : ((er : Int) != 0) = true := by simp; omega
  obtain ⟨ei, hei⟩ : ∃ ei : Int, ei = er := ⟨_, rfl⟩
  rw [← hei] at hd HLC ⊢
  obtain ⟨pi, hpi⟩ : ∃ pi : Int, pi = p := ⟨_, rfl⟩
  rw [← hpi] at HLC ⊢
  clear LC hei hpi her
  go_enter Tryd.func16, Tryd.ntmps16
  go_upto_region 1 with fail
  have ka := Keeps.one w (.cells #[.slice none 0 0, .slice none 0 0] 27)
  obtain ⟨C, hC⟩ : ∃ C, C = w.heap.size := ⟨_, rfl⟩
  obtain ⟨w1, hw⟩ : ∃ w1, w1 = w.alloc (.cells #[.slice none 0 0, .slice none 0 0] 27) := ⟨_, rfl⟩
  have z : Loc w1 (fun _ => False) C [.slice none 0 0, .slice none 0 0] := by rw [hw, hC]; exact Loc.new (fun h => h) [.slice none 0 0, .slice none 0 0] 27
  rw [← hC]
  rw [← hw] at ka ⊢
  have Z := Lib.hid z
  have KA := Lib.hid ka
  have HC := Lib.hid hC
  have CC := Lib.hid (HLC.out w1 ka)
  clear z ka hC hw HLC
  go_wp2_with fail
  refine CC.out.mono ?_
  rintro e w2 ⟨rfl, k2⟩
  have Z2 := Z.out.keeps k2
  have z0 := Z2.cells 0 _ rfl
  have z1 := Z2.cells 1 _ rfl
  have f0 := Z2.fz 0
  have f1 := Z2.fz 1
  have KK : Hid (∀ v0 v1 : Value, Keeps (fun _ => False) w ((w2.setCell ⟨C, 0, none⟩ v0).setCell ⟨C, 1, none⟩ v1)) := Lib.hid fun v0 v1 => by
    have k := (KA.out.trans k2 (fun _ _ h => h)).mono (T := fun b => w.heap.size ≤ b) (fun _ _ h => h.elim)
    have hc : w.heap.size ≤ C := by rw [HC.out]; exact Nat.le_refl _
    exact kback ((k.setCell (p := ⟨C, 0, none⟩) (fun _ => hc) v0).setCell (p := ⟨C, 1, none⟩) (fun _ => hc) v1) rfl
  clear Z2 CC k2 Z
  go_wp2_with fail
  (try simp only [Exit.inBlock, Exit.then])
  refine bodyPost_ret (v := .tuple #[.agg #[.slice none 0 0, .slice none 0 0], .int .i64 pi, .int .i64 ei]) ?_ rfl ?_
  · rw [results_cell_tmp3 rfl]
    go_simp
  exact ⟨rfl, KK.out _ _⟩
theorem FnsM.keepS {B : Nat} {w w' : World} {R S : Nat → Prop} {v : Value} {n : Nat} {L : List FM} (h : FnsM B w R v n L) (k : Keeps S w w') (hS : ∀ b, S b → b < B) : FnsM B w' R v n L :=
  ⟨h.hn, ownsRow_keep h.own (fun g hg => k.block g (own_ltk h.own hg) (fun e => by have := (h.blk g hg).2; have := hS g e; omega)), h.blk,
    fun x hx => ⟨(h.ps x hx).1.keep k (fun h0 b off e e2 => by have := ((h.ps x hx).2 h0 b off e).2.1; have := hS b e2; omega), (h.ps x hx).2⟩⟩
theorem rtree_of {B : Nat} {w : World} {P : Nat} {src : ByteArray} {T : List Tok} {R : Nat → Prop} {s : PS} (hp : Red w P src T R s) : ∃ A c, w.cell? ⟨P, 3, none⟩ = some (.slice A s.nd.length c) := by
  obtain ⟨A0, cT, v, M, h⟩ := hp
  obtain ⟨A, c, rfl⟩ := own_formk h.own
  have hl : M.length = s.nd.length := by rw [← h.nd, List.length_map]
  exact ⟨A, c, by rw [← hl]; exact h.c3⟩
theorem rtree_of2 {B : Nat} {w w' : World} {P : Nat} {S : Nat → Prop} {src : ByteArray} {T : List Tok} {R : Nat → Prop} {s : PS} {n m : Nat} {L : List FM} {A A' : Option Addr} {c c' : Nat} (hp : Red w P src T R s) (hf : FnsM B w R (.slice A' n c') n L) (h5 : w.cell? ⟨P, 3, none⟩ = some (.slice A m c)) (k : Keeps S w w') (hR : ∀ b, S b → ¬ R b) (hC : ∀ b, S b → b < B) :
    TreeR 0 w' A A' s.nd (L.map FM.d) := by
  obtain ⟨A0, cT, v, M, h⟩ := hp
  have e := h.c3.symm.trans h5
  injection e with e
  subst e
  have hq := hf.keepS k hC
  have hm : m = M.length := by
    rcases h.own.2 with ⟨e1, h1⟩ | ⟨g, cap, cur, e1, _⟩
    · injection e1 with _ e2 _
      omega
    · injection e1
  subst hm
  refine ⟨⟨M, h.nd, (own_rdG h.own).keep k (fun h0 b off e hc => hR b hc (h.vb b (by rw [e]; rfl)).1), fun x hx => (h.ls x hx).1.keep k (fun h0 b off e hc => hR b hc ((h.ls x hx).2 h0 b off e).1)⟩, ⟨L, rfl, own_rdG hq.own, fun x hx => (hq.ps x hx).1⟩⟩
theorem rkind_q {P : Nat} {src : ByteArray} {T : List Tok} {R : Nat → Prop} {s : PS} {w : World} (h : Red w P src T R s) (k : Nat) {b : Bool} (hb : b = kindR T k s) : Calls Tryd.prog 29 #[.pointer (some ⟨P, 0, none⟩), .int .i64 (k : Int)] w fun e w' => e = .returned (.bool b) ∧ Keeps (fun _ => False) w w' := by
  rw [hb]
  exact rkind_any h k
end Go.Proofs.YtgelggdgbmldiaaDoor
