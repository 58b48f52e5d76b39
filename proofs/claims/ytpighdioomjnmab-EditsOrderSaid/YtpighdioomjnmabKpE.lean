/-
  Layer 14: slices.Delete of a row of the call's own (function 40). Written by an AI agent.
-/
import Derived.Test.YtpighdioomjnmabKpB
namespace Go.Proofs.Ytpighdioomjnmab
open Go.RowKit
set_option linter.unusedVariables false
set_option linter.unusedSimpArgs false

theorem step_append_runk {P : Program} {ops : Array Oper} {o : Oper} {a : Act} {w : World} {K : Act → World → Prop} {Q : Exit → Act → World → Prop} {E : Prop}
    (hg : o.guard = none) (d x : Operand) (dT sT : TypeId) (hop : o.op = Op.call { callee := Callee.builtin Builtin.append, args := #[d, x], argTypes := #[dT, sT] })
    (v u : Value) (hd : a.eval d = v) (hx : a.eval x = u) {v' : Value} {w' : World} (hr : (Builtin.append_ #[dT, sT] o.type #[v, u]).run P w = .ok v' w') (hK : K (a.put o.dst v') w') :
    if Region.wanted o (yielded ops a.tmps) = true then Oper.wp P o a w K Q else E := by
  have hw : Region.wanted o (yielded ops a.tmps) = true := by simp [Region.wanted, hg]
  rw [if_pos hw]
  unfold Oper.wp execOp
  simp only [hop, resolve, invoke, builtin, Sem.run_bind, Sem.run_pure, Result.andThen_ok, List.map_toArray, List.map_cons, List.map_nil, hd, hx, hr]
  exact hK

theorem wpList_clear_runk {P : Program} (w : World) {ops : Array Oper} {rest : List Oper} {o : Oper} {a : Act} {Q : Exit → Act → World → Prop} (hgd : o.guard = none) (s : Operand) (t : TypeId)
    (ho : o.op = .call { callee := .builtin .clear, args := #[s], argTypes := #[t] }) (v : Value) (hs : a.eval s = v) {v' : Value} {w' : World}
    (hr : (Builtin.clear_ #[t] o.type #[v]).run P w = .ok v' w') (h : wpList P ops Q rest (a.put o.dst v') w') : wpList P ops Q (o :: rest) a w := by
  refine wpList_plain hgd fun _ hK => ?_
  unfold Oper.wp execOp
  simp only [ho, resolve, invoke, builtin, Sem.run_bind, Sem.run_pure, Result.andThen_ok, List.map_toArray, List.map_cons, List.map_nil, hs, hr]
  exact hK _ _ h

theorem run_clear_rowk {P : Program} (w : World) (t e ty : TypeId) (z : Value) (ht : P.underlying t = some (.slice e)) (hv : ∀ w, (zeroValue e).run P w = .ok z w) (g o q c : Nat) (hq : 0 < q) (cur : Array Value) (T : TypeId) (hg : w.heap[g]? = some (.cells cur T (0, 0)))
    (hfit : o + (Builtin.zeroCells z.cells q).toList.length ≤ cur.size) (h1 : ∀ u ∈ (Builtin.zeroCells z.cells q).toList, u.oneCell' = true) :
    (Builtin.clear_ #[t] ty #[.slice (some ⟨g, o, none⟩) q c]).run P w = .ok (.tuple #[]) (w.setRow g (cur.toList.take o ++ (Builtin.zeroCells z.cells q).toList ++ cur.toList.drop (o + (Builtin.zeroCells z.cells q).toList.length)).toArray) := by
  have hst := run_storeCells_at P g o T (Builtin.zeroCells z.cells q).toList 0 cur w hg (by simpa using hfit) h1
  simp only [Nat.add_zero] at hst
  obtain ⟨m, rfl⟩ : ∃ m, q = m + 1 := ⟨q - 1, by omega⟩
  simp only [Builtin.clear_, Sem.run_bind, Sem.run_pure, run_underlying ht, List.getElem?_toArray, List.getElem?_cons_zero, Result.andThen_ok, hv, hst]

theorem row_delete {k n i j : Nat} {c d zs r1 : List Value} (hij : i ≤ j) (hjn : j ≤ n) (hd : d.length = n * k) (hp : c.take (i * k) = d.take (i * k)) (hc : n * k ≤ c.length) (hr1 : r1 = c.take (i * k) ++ d.drop (j * k) ++ c.drop (i * k + (d.drop (j * k)).length)) :
    (r1.take ((n - (j - i)) * k) ++ zs ++ r1.drop ((n - (j - i)) * k + zs.length)).take ((n - (j - i)) * k) = d.take (i * k) ++ d.drop (j * k) ∧ (d.take (i * k) ++ d.drop (j * k)).length = (n - (j - i)) * k ∧ r1.length = c.length := by
  have h1 : i * k ≤ j * k := Nat.mul_le_mul_right k hij
  have h2 : j * k ≤ n * k := Nat.mul_le_mul_right k hjn
  have h3 : (n - (j - i)) * k = n * k - (j * k - i * k) := by rw [Nat.sub_mul, Nat.sub_mul]
  have l3 : (d.take (i * k)).length = i * k := by rw [List.length_take]; omega
  have l4 : (d.take (i * k) ++ d.drop (j * k)).length = (n - (j - i)) * k := by rw [List.length_append, l3, List.length_drop, hd]; omega
  have t1 : r1.take ((n - (j - i)) * k) = d.take (i * k) ++ d.drop (j * k) := by
    rw [hr1, hp]
    exact List.take_left' l4
  refine ⟨?_, l4, ?_⟩
  · rw [t1, List.append_assoc]
    exact List.take_left' l4
  · rw [hr1]
    simp only [List.length_append, List.length_take, List.length_drop, hd]
    omega

/-- What slices.Delete leaves. -/
def Deleted72 (v : Value) (n : Nat) (xs : List Value) (i j : Nat) (w : World) (e : Ending) (w' : World) : Prop :=
  ∃ v', e = .returned v' ∧ w'.ownsRow 0 72 2 v' (n - (j - i)) (xs.take (i * 2) ++ xs.drop (j * 2)) ∧ w.grownBy w' v.ownBlock ∧ v'.ownBlock = v.ownBlock

theorem zero_one72 (q : Nat) : (∀ u ∈ (Builtin.zeroCells (Value.cells (.agg #[.int .i64 0, .int .i64 0])) q).toList, u.oneCell' = true) ∧ (Builtin.zeroCells (Value.cells (.agg #[.int .i64 0, .int .i64 0])) q).toList.length = q * 2 := by
  refine ⟨fun u hu => ?_, by simp [Builtin.zeroCells, Value.cells]⟩
  simp only [Builtin.zeroCells, Value.cells, Array.toList_map, List.mem_map] at hu
  obtain ⟨a, _, rfl⟩ := hu
  have h : a % 2 = 0 ∨ a % 2 = 1 := by omega
  rcases h with h | h <;> simp [h, Value.oneCell']

set_option maxRecDepth 100000 in
set_option maxHeartbeats 2000000 in
theorem del_some72 (w : World) (g c n i j : Nat) (xs : List Value) (hown : w.ownsRow 0 72 2 (.slice (some ⟨g, 0, none⟩) n c) n xs) (hx1 : ∀ u ∈ xs, u.oneCell' = true) (hn : n ≤ 1000) (hij : i < j) (hjn : j ≤ n) :
    Calls Try.prog 40 #[.slice (some ⟨g, 0, none⟩) n c, .int .i64 (i : Int), .int .i64 (j : Int)] w (Deleted72 (.slice (some ⟨g, 0, none⟩) n c) n xs i j w) := by
  obtain ⟨i0, hi, hz0, hz1, hz2⟩ := info_parts info72
  have hxl : xs.length = n * 2 := hown.1
  rcases hown.2 with ⟨hv, _⟩ | ⟨g', cap, cur, hv, _, hg, hnc, hcm, hcs, htake⟩
  · simp at hv
  simp only [Value.slice.injEq, Option.some.injEq, Addr.mk.injEq, and_true, true_and] at hv
  obtain ⟨rfl, rfl⟩ := hv
  have hc63 : c ≤ 9223372036854775807 := hcm
  obtain ⟨L, hL⟩ : ∃ L : Nat, L = i + (n - j) := ⟨_, rfl⟩
  have hLn : n - (j - i) = L := by omega
  have h1 : i * 2 ≤ j * 2 := Nat.mul_le_mul_right 2 (by omega)
  have h2 : j * 2 ≤ n * 2 := Nat.mul_le_mul_right 2 hjn
  have h3 : n * 2 ≤ c * 2 := Nat.mul_le_mul_right 2 hnc
  have h4 : L * 2 = i * 2 + (n * 2 - j * 2) := by rw [hL, Nat.add_mul, Nat.sub_mul]
  have l0 : (xs.drop (j * 2)).length = (n - j) * 2 := by rw [List.length_drop, hxl, Nat.sub_mul]
  have hp : cur.toList.take (i * 2) = xs.take (i * 2) := by
    rw [← htake, List.take_take]
    congr 1
    omega
  have hadd : ∀ b o k, (⟨b, o, none⟩ : Addr).add k = ⟨b, o + k, none⟩ := fun b o k => by unfold Addr.add; split <;> simp_all
  obtain ⟨r1, hr1⟩ : ∃ r1 : List Value, r1 = cur.toList.take (i * 2) ++ xs.drop (j * 2) ++ cur.toList.drop (i * 2 + (xs.drop (j * 2)).length) := ⟨_, rfl⟩
  obtain ⟨zs, hzs⟩ : ∃ zs : List Value, zs = (Builtin.zeroCells (Value.cells (.agg #[.int .i64 0, .int .i64 0])) (j - i)).toList := ⟨_, rfl⟩
  obtain ⟨key1, key2, key3⟩ := row_delete (k := 2) (zs := zs) (by omega : i ≤ j) hjn hxl hp (by rw [Array.length_toList, hcs]; exact h3) hr1
  rw [hLn] at key1 key2
  obtain ⟨W1, hW1⟩ : ∃ W1 : World, W1 = w.drew.setRow g r1.toArray := ⟨_, rfl⟩
  obtain ⟨W2, hW2⟩ : ∃ W2 : World, W2 = W1.setRow g (r1.take (L * 2) ++ zs ++ r1.drop (L * 2 + zs.length)).toArray := ⟨_, rfl⟩
  have hgW1 : W1.heap[g]? = some (.cells r1.toArray 72 (0, 0)) := by rw [hW1]; exact setRow_heap w.drew g cur _ 72 _ hg
  have hzl : zs.length = (j - i) * 2 := by rw [hzs]; exact (zero_one72 _).2
  have hap : ∀ (ad : Addr) cc, (n - j ≠ 0 → ad = ⟨g, j * 2, none⟩) → (Builtin.append_ #[67, 67] 67 #[.slice (some ⟨g, 0, none⟩) i c, .slice (some ad) (n - j) cc]).run Try.prog w.drew = .ok (.slice (some ⟨g, 0, none⟩) L c) W1 := fun ad cc had => by
    rw [hW1, hr1, hL]
    have h := run_append_room (P := Try.prog) w.drew 67 67 72 i0 Try.underlying67 hi g i c cur hg ad (n - j) cc (xs.drop (j * 2)) (by rw [hz1]; exact l0) (fun k u hk => by
      have hlt := (List.getElem?_eq_some_iff.1 hk).1
      rw [had (by intro h0; rw [h0] at l0; omega), hadd]
      rw [List.getElem?_drop] at hk
      have hlt2 := (List.getElem?_eq_some_iff.1 hk).1
      exact (hown.cellAt (j * 2 + k) (by omega)).trans hk) (fun u hu => hx1 u (List.mem_of_mem_drop hu)) (by omega) (by rw [hz1, l0, hcs]; omega)
    rw [hz1] at h
    exact h
  have hcl : ∀ cc, (Builtin.clear_ #[67] 0 #[.slice (some ⟨g, L * 2, none⟩) (n - L) cc]).run Try.prog W1 = .ok (.tuple #[]) W2 := fun cc => by
    rw [hW2, hzs, show n - L = j - i by omega]
    have hv : ∀ w, (zeroValue 72).run Try.prog w = .ok (.agg #[.int .i64 0, .int .i64 0]) w := fun w => by simp [zeroValue, typeInfo, hi, hz0]
    exact run_clear_rowk W1 67 72 0 (.agg #[.int .i64 0, .int .i64 0]) Try.underlying67 hv g (L * 2) (j - i) cc (by omega) r1.toArray 72 hgW1 (by rw [(zero_one72 _).2, List.size_toArray, key3, Array.length_toList, hcs]; omega) (zero_one72 _).1
  have hfin : W2.ownsRow 0 72 2 (.slice (some ⟨g, 0, none⟩) L c) L (xs.take (i * 2) ++ xs.drop (j * 2)) ∧ w.grownBy W2 (some g) := by
    refine ⟨⟨key2, .inr ⟨g, c, (r1.take (L * 2) ++ zs ++ r1.drop (L * 2 + zs.length)).toArray, rfl, Nat.zero_le _, ?_, by omega, hcm, ?_, ?_⟩⟩, ⟨?_, ?_, ?_, ?_, fun k hk hne => ?_⟩⟩
    · rw [hW2]; exact setRow_heap W1 g _ _ 72 _ hgW1
    · rw [List.size_toArray]
      simp only [List.length_append, List.length_take, List.length_drop, key3, Array.length_toList, hcs, hzl]
      omega
    · exact key1
    · rw [hW2, hW1]; rfl
    · rw [hW2, hW1]; rfl
    · rw [hW2, hW1]; rfl
    · rw [hW2, setRow_size, hW1, setRow_size]; exact Nat.le_refl _
    · have hkg : k ≠ g := fun e => hne (by rw [e])
      rw [hW2, setRow_other _ g k _ hkg, hW1, setRow_other _ g k _ hkg]
      rfl
  have HF := Lib.hid hfin
  have HAp := Lib.hid hap
  have HCl := Lib.hid hcl
  have HLn := Lib.hid hLn
  have hij' : ¬ ((i : Int) = (j : Int)) := by omega
  have hi0 : (0 : Int) ≤ (i : Int) := by omega
  have hijI : (i : Int) ≤ (j : Int) := by omega
  have hjnI : (j : Int) ≤ (n : Int) := by omega
  have hijN : i ≤ j := by omega
  have hni : ¬ (n = i) := by omega
  have hcL : ¬ (c = L) := by omega
  have hLnI : (L : Int) ≤ (n : Int) := by omega
  have hLc : L ≤ c := by omega
  have hLn' : L ≤ n := by omega
  have hnc' : (n : Int) ≤ (c : Int) := by omega
  have hic : (i : Int) ≤ (c : Int) := by omega
  have hicN : i ≤ c := by omega
  have hcl0 := HCl.out (c - L)
  by_cases hcj : c = j
  · have hnj : n = j := by omega
    have hap0 := HAp.out ⟨g, 0, none⟩ 0 (fun h => absurd (by omega) h)
    subst hcj
    subst hnj
    have e0 : n - n = 0 := by omega
    rw [e0] at hap0
    clear hown hx1 hg hcs htake hxl hL hLn h1 h2 h3 h4 l0 hp hadd hr1 hzs key1 key2 key3 hW1 hW2 hgW1 hzl hap hcl hfin hcm e0
    go_enter Try.func40, Try.ntmps40
    go_wp2_with fail
    go_region_law (refine step_append_runk rfl (.tmp 22) (.tmp 25) 67 67 rfl (.slice (some ⟨g, 0, none⟩) i n) (.slice (some ⟨g, 0, none⟩) 0 0) (by simp [Act.eval, Act.put]) (by simp [Act.eval, Act.put]) hap0 ?_)
    all_goals
      go_wp2_with (refine wpList_clear_runk _ rfl (.tmp 31) 67 rfl (.slice (some ⟨g, L * 2, none⟩) (n - L) (n - L)) (by rfl) hcl0 ?_)
      go_ret
      exact ⟨_, rfl, by rw [HLn.out]; exact HF.out.1, HF.out.2, rfl⟩
  · have hap0 := HAp.out ⟨g, j * 2, none⟩ (c - j) (fun _ => rfl)
    clear hown hx1 hg hcs htake hxl hL hLn h1 h2 h3 h4 l0 hp hadd hr1 hzs key1 key2 key3 hW1 hW2 hgW1 hzl hap hcl hfin hcm
    go_enter Try.func40, Try.ntmps40
    go_wp2_with fail
    go_region_law (refine step_append_runk rfl (.tmp 22) (.tmp 25) 67 67 rfl (.slice (some ⟨g, 0, none⟩) i c) (.slice (some ⟨g, j * 2, none⟩) (n - j) (c - j)) (by simp [Act.eval, Act.put]) (by simp [Act.eval, Act.put]) hap0 ?_)
    all_goals
      go_wp2_with (refine wpList_clear_runk _ rfl (.tmp 31) 67 rfl (.slice (some ⟨g, L * 2, none⟩) (n - L) (c - L)) (by rfl) hcl0 ?_)
      go_ret
      exact ⟨_, rfl, by rw [HLn.out]; exact HF.out.1, HF.out.2, rfl⟩

end Go.Proofs.Ytpighdioomjnmab
