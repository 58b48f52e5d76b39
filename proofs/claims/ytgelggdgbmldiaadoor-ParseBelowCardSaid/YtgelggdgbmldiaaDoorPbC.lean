/-
  Layer 2: the contract of All. Written by an AI agent.
-/
import Derived.Test.YtgelggdgbmldiaaDoorPbB
namespace Go.Proofs.YtgelggdgbmldiaaDoor
open Go Go.RowKit Go.Shelf
set_option linter.unusedVariables false
set_option linter.unusedSimpArgs false

/-- All, for any source, as far as the numbers of steps go. -/
theorem pall_any (s : ByteArray) (hs : s.size ≤ 1000) (N : Nat) (hN : N ≤ 100000) (res : (Nat × Nat) ⊕ (List Nd × List Fnc)) (h : allP N s.data.toList = some res) (w : World) (he : ErrW w) :
    Calls Tryd.prog 13 #[.string s] w fun e w' => TreeE 0 res e w' ∧ Keeps (fun _ => False) w w' := by
  unfold allP at h
  by_cases hb : 600 < s.size
  · rw [if_pos (by rw [len_size]; exact hb)] at h
    obtain rfl := Option.some.inj h
    exact (pall_err s w 0 4 (by decide) (fun w1 k => all_big s hb hs w1 (he.keep k))).mono fun e w' ⟨h1, h2⟩ => ⟨h1, h2⟩
  · rw [if_neg (by rw [len_size]; exact hb)] at h
    cases hl : (lexL s.data.toList 0).2 with
    | some pe =>
      rw [hl] at h
      obtain rfl := Option.some.inj h
      obtain ⟨p, er⟩ := pe
      have her := lexL_cut s.data.toList 0 p er hl
      exact (pall_err s w p er (by omega) (fun w1 k => all_bad s (by omega) p er hl w1 (he.keep k))).mono fun e w' ⟨h1, h2⟩ => ⟨h1, h2⟩
    | none =>
      rw [hl] at h
      exact pall_ok s (by omega) N hN res hl h w he (fun P => function_any (by omega) hN (block_any (by omega) hN (st_any (by omega) hN N)))

end Go.Proofs.YtgelggdgbmldiaaDoor
