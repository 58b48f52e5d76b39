/-
  Layer 2: the document's example. Written by an AI agent.
-/
import Derived.Test.YtgelggdgbmldiaaDoorPbC
namespace Go.Proofs.YtgelggdgbmldiaaDoor
open Go Go.RowKit Go.Shelf
set_option linter.unusedVariables false
set_option linter.unusedSimpArgs false

/-- The nodes of a tree, one by one. -/
theorem TreeR.nodeAt {B : Nat} {w : World} {A A' : Option Addr} {nd : List Nd} {fs : List Fnc} (h : TreeR B w A A' nd fs) (h0 : 0 < nd.length) : ∃ b off, A = some ⟨b, off, none⟩ ∧ ∀ i (hi : i < nd.length), ∃ a c,
    w.cell? ⟨b, off + i * 5, none⟩ = some (.int .i64 (nd[i]).k) ∧ w.cell? ⟨b, off + i * 5 + 1, none⟩ = some (.int .i64 (nd[i]).ln) ∧ w.cell? ⟨b, off + i * 5 + 2, none⟩ = some (.int .i64 (nd[i]).n) ∧
    w.cell? ⟨b, off + i * 5 + 3, none⟩ = some (.string (ofL (nd[i]).s)) ∧ w.cell? ⟨b, off + i * 5 + 4, none⟩ = some (.slice a (nd[i]).l.length c) ∧ RdI w a (nd[i]).l := by
  obtain ⟨L, rfl, hr, hl⟩ := h.nodes
  rw [List.length_map] at h0
  obtain ⟨b, off, e, hc⟩ := hr (by rw [flatN_length]; omega)
  refine ⟨b, off, e, fun i hi => ?_⟩
  rw [List.length_map] at hi
  have hcc : ∀ j u, (L[i]).cells[j]? = some u → j < 5 → w.cell? ⟨b, off + i * 5 + j, none⟩ = some u := fun j u hu hj => by
    rw [Nat.add_assoc]
    exact hc (i * 5 + j) u (by rw [flatN_at L i j hi hj]; exact hu)
  simp only [List.getElem_map]
  exact ⟨(L[i]).a, (L[i]).c, hcc 0 _ rfl (by omega), hcc 1 _ rfl (by omega), hcc 2 _ rfl (by omega), hcc 3 _ rfl (by omega), hcc 4 _ rfl (by omega), hl _ (List.getElem_mem hi)⟩
/-- The functions of a tree, one by one. -/
theorem TreeR.fnAt {B : Nat} {w : World} {A A' : Option Addr} {nd : List Nd} {fs : List Fnc} (h : TreeR B w A A' nd fs) (h0 : 0 < fs.length) : ∃ b off, A' = some ⟨b, off, none⟩ ∧ ∀ i (hi : i < fs.length), ∃ a c,
    w.cell? ⟨b, off + i * 5, none⟩ = some (.string (ofL (fs[i]).s)) ∧ w.cell? ⟨b, off + i * 5 + 1, none⟩ = some (.int .i64 (fs[i]).ln) ∧ w.cell? ⟨b, off + i * 5 + 2, none⟩ = some (.slice a (fs[i]).ps.length c) ∧
    w.cell? ⟨b, off + i * 5 + 3, none⟩ = some (.int .i64 (fs[i]).ret) ∧ w.cell? ⟨b, off + i * 5 + 4, none⟩ = some (.int .i64 (fs[i]).body) ∧ RdG w a (flatP (fs[i]).ps) := by
  obtain ⟨L, rfl, hr, hl⟩ := h.fns
  rw [List.length_map] at h0
  obtain ⟨b, off, e, hc⟩ := hr (by rw [flatF_length]; omega)
  refine ⟨b, off, e, fun i hi => ?_⟩
  rw [List.length_map] at hi
  have hcc : ∀ j u, (L[i]).cells[j]? = some u → j < 5 → w.cell? ⟨b, off + i * 5 + j, none⟩ = some u := fun j u hu hj => by
    rw [Nat.add_assoc]
    exact hc (i * 5 + j) u (by rw [flatF_at L i j hi hj]; exact hu)
  simp only [List.getElem_map]
  exact ⟨(L[i]).a, (L[i]).c, hcc 0 _ rfl (by omega), hcc 1 _ rfl (by omega), hcc 2 _ rfl (by omega), hcc 3 _ rfl (by omega), hcc 4 _ rfl (by omega), hl _ (List.getElem_mem hi)⟩

def shownN : List Nd := [⟨1, 1, 1, [], []⟩, ⟨1, 1, 2, [], []⟩, ⟨9, 1, 0, [43], [0, 1]⟩, ⟨14, 1, 0, [], [2]⟩, ⟨18, 1, 0, [], [3]⟩]
def shownF : List Fnc := [⟨[109, 97, 105, 110], 1, [], 0, 4⟩]
theorem shown_parse : allP 40 [102, 110, 32, 109, 97, 105, 110, 40, 41, 32, 123, 32, 112, 114, 105, 110, 116, 32, 49, 43, 50, 59, 32, 125] = some (.inr (shownN, shownF)) := by kernel_rfl

set_option maxRecDepth 100000 in
set_option maxHeartbeats 16000000 in
theorem shown_any (w : World) (he : ErrW w) : Calls Tryd.prog 11 #[] w fun e w' => e = .returned (.bool true) ∧ Keeps (fun _ => False) w w' := by
  have AC := Lib.hid (pall_any { data := #[102, 110, 32, 109, 97, 105, 110, 40, 41, 32, 123, 32, 112, 114, 105, 110, 116, 32, 49, 43, 50, 59, 32, 125] } (by decide) 40 (by omega) _ shown_parse w he)
  clear he
  go_enter Tryd.func11, Tryd.ntmps11
  go_wp2_with fail
  refine AC.out.mono ?_
  rintro e w1 ⟨⟨A, c, A', c', rfl, ht⟩, k1⟩
  have K1 := Lib.hid k1
  obtain ⟨b, off, rfl, hn⟩ := ht.nodeAt (by decide)
  obtain ⟨b', off', rfl, hf⟩ := ht.fnAt (by decide)
  obtain ⟨a0, c0, -, -, n02, -⟩ := hn 0 (by decide)
  obtain ⟨a2, c2, n20, -, -, n23, -⟩ := hn 2 (by decide)
  obtain ⟨a4, c4, n40, -⟩ := hn 4 (by decide)
  obtain ⟨p0, q0, -, -, -, -, f04, -⟩ := hf 0 (by decide)
  have n02 : w1.cell? ⟨b, off + 2, none⟩ = some (.int .i64 1) := n02
  have n20 : w1.cell? ⟨b, off + 10, none⟩ = some (.int .i64 9) := n20
  have n23 : w1.cell? ⟨b, off + 13, none⟩ = some (.string { data := #[43] }) := n23
  have n40 : w1.cell? ⟨b, off + 20, none⟩ = some (.int .i64 18) := n40
  have f04 : w1.cell? ⟨b', off' + 4, none⟩ = some (.int .i64 4) := f04
  have hb := cell_ltk n02
  have hb' := cell_ltk f04
  have ka := Keeps.one w1 (.cells #[.slice (some ⟨b, off, none⟩) 5 c, .slice (some ⟨b', off', none⟩) 1 c'] 27)
  have z := Loc.new (w := w1) (R := fun _ => False) (fun h => h) [.slice (some ⟨b, off, none⟩) 5 c, .slice (some ⟨b', off', none⟩) 1 c'] 27
  have e1 : shownN.length = 5 := rfl
  have e2 : shownF.length = 1 := rfl
  rw [e1, e2]
  go_upto_region 2 with fail
  obtain ⟨X, hX⟩ : ∃ X, X = w1.heap.size := ⟨_, rfl⟩
  obtain ⟨w2, hw⟩ : ∃ w2, w2 = w1.alloc (.cells #[.slice (some ⟨b, off, none⟩) 5 c, .slice (some ⟨b', off', none⟩) 1 c'] 27) := ⟨_, rfl⟩
  have z : Loc w2 (fun _ => False) X [.slice (some ⟨b, off, none⟩) 5 c, .slice (some ⟨b', off', none⟩) 1 c'] := by rw [hw, hX]; exact z
  rw [← hX]
  rw [← hw] at ka ⊢
  have z0 := z.cells 0 _ rfl
  have z1 := z.cells 1 _ rfl
  have n02 := (ka.cell hb (fun h => h)).trans n02
  have n20 := (ka.cell hb (fun h => h)).trans n20
  have n23 := (ka.cell hb (fun h => h)).trans n23
  have n40 := (ka.cell hb (fun h => h)).trans n40
  have f04 := (ka.cell hb' (fun h => h)).trans f04
  have K2 := Lib.hid (K1.out.trans ka (fun _ _ h => h))
  clear z ka hw hX hb hb' k1 hn hf ht AC e1 e2 K1
  go_wp2_with fail
  go_ret
  exact ⟨rfl, K2.out⟩

end Go.Proofs.YtgelggdgbmldiaaDoor
