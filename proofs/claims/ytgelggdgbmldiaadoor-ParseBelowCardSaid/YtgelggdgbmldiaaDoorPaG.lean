/-
  Layer 2: calls, want, name. Written by an AI agent.
-/
import Derived.Test.YtgelggdgbmldiaaDoorPaF
namespace Go.Proofs.YtgelggdgbmldiaaDoor
open Go Go.RowKit Go.Shelf
set_option linter.unusedVariables false
set_option linter.unusedSimpArgs false

theorem is_one {P : Nat} {src : ByteArray} {T : List Tok} {R : Nat → Prop} {s : PS} {w : World} (h : Par w P src T R s) (x : ByteArray) (t : TypeId) :
    Calls Tryd.prog 51 #[.pointer (some ⟨P, 0, none⟩), .slice (some ⟨w.heap.size, 0, none⟩) 1 1] (w.alloc (.cells #[.string x] t)) fun e w' => e = .returned (.bool (isS T [x.data.toList] s)) ∧ Keeps (fun _ => False) w w' :=
  (is_any (h.keep (Keeps.one w _)) [x] w.heap.size 0 1 rfl (by omega) (fun j hj => by
    have : j = 0 := by omega
    subst this
    exact (World.cell?_alloc_mark w #[.string x] t (0, 0) 0))).mono fun e w' ⟨h1, k⟩ => ⟨h1, (Keeps.one w _).trans k (fun _ _ h => h)⟩
set_option maxRecDepth 100000 in
set_option maxHeartbeats 8000000 in
theorem want_any {P : Nat} {src : ByteArray} {T : List Tok} {R : Nat → Prop} {s : PS} {w : World} (h : Par w P src T R s) (x : ByteArray) : Calls Tryd.prog 49 #[.pointer (some ⟨P, 0, none⟩), .string x] w (Post P src T R w (.tuple #[]) (wantS T x.data.toList s)) := by
  have H := Lib.hid h
  have IC := is_one h x 9
  cases hb : isS T [x.data.toList] s with
  | true =>
    have hE : wantS T x.data.toList s = nextS T s := by unfold wantS; rw [hb, if_pos rfl]
    rw [hE]
    rw [hb] at IC
    have IC := Lib.hid IC
    clear hE hb h
    go_enter Tryd.func49, Tryd.ntmps49
    go_wp2_with fail
    refine IC.out.mono ?_
    rintro e w1 ⟨rfl, k1⟩
    have NX := Lib.hid (next_any (H.out.keep k1))
    clear IC
    go_wp2_with fail
    refine NX.out.mono ?_
    rintro e w2 ⟨rfl, R', hp, hf⟩
    have HF : Hid (Post P src T R w (.tuple #[]) (nextS T s) (.returned (.tuple #[])) w2) := Lib.hid ⟨rfl, R', hp, ((Fr.refl R w).keeps k1).trans hf⟩
    clear hp hf NX
    go_wp2_with fail
    exact bodyPost_end (v := .tuple #[]) (by simp [results, Tryd.results49, go_sem]) rfl HF.out
  | false =>
    have hE : wantS T x.data.toList s = failS T 20 s := by unfold wantS; rw [hb]; rfl
    rw [hE]
    rw [hb] at IC
    have IC := Lib.hid IC
    clear hE hb h
    go_enter Tryd.func49, Tryd.ntmps49
    go_wp2_with fail
    refine IC.out.mono ?_
    rintro e w1 ⟨rfl, k1⟩
    have NX := Lib.hid (fail_any (H.out.keep k1) 20)
    clear IC
    go_wp2_with fail
    refine NX.out.mono ?_
    rintro e w2 ⟨rfl, R', hp, hf⟩
    have HF : Hid (Post P src T R w (.tuple #[]) (failS T 20 s) (.returned (.tuple #[])) w2) := Lib.hid ⟨rfl, R', hp, ((Fr.refl R w).keeps k1).trans hf⟩
    clear hp hf NX
    go_wp2_with fail
    exact bodyPost_end (v := .tuple #[]) (by simp [results, Tryd.results49, go_sem]) rfl HF.out
set_option maxRecDepth 100000 in
set_option maxHeartbeats 8000000 in
theorem pname_any {P : Nat} {src : ByteArray} {T : List Tok} {R : Nat → Prop} {s : PS} {w : World} (h : Par w P src T R s) : Calls Tryd.prog 50 #[.pointer (some ⟨P, 0, none⟩)] w (Post P src T R w (.string (ofL (nameX T s))) (nameS T s)) := by
  have H := Lib.hid h
  have NC : Hid (Calls Tryd.prog 25 #[.pointer (some ⟨P, 0, none⟩)] w fun e w' => e = .returned (.agg #[.int .i64 ((tokA T s).k : Int), .string (ofL (tokA T s).x), .int .i64 ((tokA T s).p : Int)]) ∧ Keeps (fun _ => False) w w') := Lib.hid (now_any h)
  by_cases hk : (tokA T s).k = 3
  · have hE : nameS T s = nextS T s := by unfold nameS; rw [if_pos hk]
    have hX : nameX T s = (tokA T s).x := by unfold nameX; rw [if_pos hk]
    rw [hE, hX]
    clear hE hX
    generalize tokA T s = tk at NC hk ⊢
    rw [show (tk.k : Int) = 3 by omega] at NC
    obtain ⟨k, hk3⟩ : ∃ k : Int, k = 3 := ⟨_, rfl⟩
    rw [← hk3] at NC
    have hne : (k != 3) = false := by rw [hk3]; rfl
    clear hk h hk3
    go_enter Tryd.func50, Tryd.ntmps50
    go_wp2_with fail
    refine NC.out.mono ?_
    rintro e w1 ⟨rfl, k1⟩
    have z := Loc.new (w := w1) (R := R) (H.out.keep k1).new [.int .i64 k, .string (ofL tk.x), .int .i64 (tk.p : Int)] 54
    have K2 := Lib.hid (k1.alloc (.cells #[.int .i64 k, .string (ofL tk.x), .int .i64 (tk.p : Int)] 54))
    go_upto_region 2 with fail
    obtain ⟨X, hX⟩ : ∃ X, X = w1.heap.size := ⟨_, rfl⟩
    obtain ⟨w2, hw2⟩ : ∃ w2, w2 = w1.alloc (.cells #[.int .i64 k, .string (ofL tk.x), .int .i64 (tk.p : Int)] 54) := ⟨_, rfl⟩
    have z : Loc w2 R X [.int .i64 k, .string (ofL tk.x), .int .i64 (tk.p : Int)] := by rw [hw2, hX]; exact z
    rw [← hX]
    rw [← hw2] at K2 ⊢
    have Z := Lib.hid z
    have z0 := z.cells 0 _ rfl
    clear k1 hw2 hX z NC
    have NX := Lib.hid (next_any (H.out.keep K2.out))
    go_wp2_with fail
    refine NX.out.mono ?_
    rintro e w3 ⟨rfl, R', hp, hf⟩
    have z1 := (Z.out.keep hf).cells 1 _ rfl
    have HF : Hid (Post P src T R w (.string (ofL tk.x)) (nextS T s) (.returned (.string (ofL tk.x))) w3) := Lib.hid ⟨rfl, R', hp, ((Fr.refl R w).keeps K2.out).trans hf⟩
    clear hp hf NX z0
    go_wp2_with fail
    go_ret
    exact HF.out
  · have hE : nameS T s = failS T 20 s := by unfold nameS; rw [if_neg hk]
    have hX : nameX T s = [] := by unfold nameX; rw [if_neg hk]
    rw [hE, hX]
    clear hE hX
    generalize tokA T s = tk at NC hk ⊢
    obtain ⟨k, hk3⟩ : ∃ k : Int, k = tk.k := ⟨_, rfl⟩
    rw [← hk3] at NC
    have hne : (k != 3) = true := by rw [hk3]; simp; omega
    clear hk h hk3
    go_enter Tryd.func50, Tryd.ntmps50
    go_wp2_with fail
    refine NC.out.mono ?_
    rintro e w1 ⟨rfl, k1⟩
    have z := Loc.new (w := w1) (R := R) (H.out.keep k1).new [.int .i64 k, .string (ofL tk.x), .int .i64 (tk.p : Int)] 54
    have K2 := Lib.hid (k1.alloc (.cells #[.int .i64 k, .string (ofL tk.x), .int .i64 (tk.p : Int)] 54))
    go_upto_region 2 with fail
    obtain ⟨X, hX⟩ : ∃ X, X = w1.heap.size := ⟨_, rfl⟩
    obtain ⟨w2, hw2⟩ : ∃ w2, w2 = w1.alloc (.cells #[.int .i64 k, .string (ofL tk.x), .int .i64 (tk.p : Int)] 54) := ⟨_, rfl⟩
    have z : Loc w2 R X [.int .i64 k, .string (ofL tk.x), .int .i64 (tk.p : Int)] := by rw [hw2, hX]; exact z
    rw [← hX]
    rw [← hw2] at K2 ⊢
    have Z := Lib.hid z
    have z0 := z.cells 0 _ rfl
    clear k1 hw2 hX z NC
    have NX := Lib.hid (fail_any (H.out.keep K2.out) 20)
    go_wp2_with fail
    refine NX.out.mono ?_
    rintro e w3 ⟨rfl, R', hp, hf⟩
    have HF : Hid (Post P src T R w (.string (ofL [])) (failS T 20 s) (.returned (.string (ofL []))) w3) := Lib.hid ⟨rfl, R', hp, ((Fr.refl R w).keeps K2.out).trans hf⟩
    clear hp hf NX z0
    go_wp2_with fail
    go_ret
    exact HF.out
end Go.Proofs.YtgelggdgbmldiaaDoor
