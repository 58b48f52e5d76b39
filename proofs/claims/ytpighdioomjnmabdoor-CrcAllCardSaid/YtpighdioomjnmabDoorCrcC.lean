/-
  Layer 20: the contract of Put. Written by an AI agent.
-/
import Derived.Test.YtpighdioomjnmabDoorCrcB
import Derived.Laws.AppendOwnNone
import Derived.OwnWalk
import Derived.Laws.BytesArg
namespace Go.Proofs.YtpighdioomjnmabDoor
open Go.RowKit

def cellsOf (l : List Nat) : List Value := l.map fun v => .int .u8 ((v : Nat) : Int)
theorem cellsOf_at {l : List Nat} {j : Nat} {u : Value} (h : (cellsOf l)[j]? = some u) : j < l.length ∧ u = .int .u8 ((l.getD j 0 : Nat) : Int) := by
  have hj : j < l.length := by
    have := (List.getElem?_eq_some_iff.1 h).1
    simpa [cellsOf] using this
  refine ⟨hj, ?_⟩
  rw [getD_at l hj]
  simp [cellsOf, List.getElem?_eq_getElem hj] at h
  exact h.symm
theorem cellsOf_one (l : List Nat) : ∀ u ∈ cellsOf l, u.oneCell' = true := by
  intro u hu
  simp [cellsOf] at hu
  obtain ⟨v, _, rfl⟩ := hu
  rfl
theorem cellsOf_append (a b : List Nat) : cellsOf (a ++ b) = cellsOf a ++ cellsOf b := by simp [cellsOf]
theorem cellsOf_length (l : List Nat) : (cellsOf l).length = l.length := by simp [cellsOf]

/-- What the call's own row reads as. -/
theorem rd_own {w : World} {base : Nat} {v : Value} {l : List Nat} (h : w.ownsRow base 5 1 v l.length (cellsOf l)) :
    ∃ A cap, v = .slice A l.length cap ∧ l.length ≤ cap ∧ cap ≤ maxLen ∧ (A = none → cap = 0) ∧ (∀ x, A = some x → base ≤ x.block) ∧ Rd w w.heap.size A l := by
  rcases h.2 with ⟨rfl, h0⟩ | ⟨g, cap, cur, hv, hb, hg, hnc, hm, _⟩
  · refine ⟨none, 0, by rw [h0], by omega, by unfold maxLen; omega, fun _ => rfl, by simp, fun hn => by omega⟩
  · refine ⟨some ⟨g, 0, none⟩, cap, hv, hnc, hm, by simp, fun x hx => by cases hx; exact hb, fun _ => ⟨g, 0, rfl, (h.lt g (by rw [hv]; rfl)).2, fun i hi => ?_⟩⟩
    subst hv
    have := h.cellAt i (by omega)
    rw [Nat.zero_add, this, List.getElem?_eq_getElem (by rw [cellsOf_length]; exact hi)]
    simp [cellsOf, List.getD, List.getElem?_eq_getElem hi]

/-- 'append(v, xs...)' onto a row of the call's own, from bytes, nil let in. -/
theorem wpList_append_rd {w : World} {ops : Array Oper} {rest : List Oper} {o : Oper} {a : Act} {Q : Exit → Act → World → Prop} (hgd : o.guard = none) (s x : Operand)
    (ho : o.op = .call { callee := .builtin .append, args := #[s, x], argTypes := #[22, 22] })
    (base : Nat) (i : TypeInfo) (hi : Tryd.prog.info? 5 = some i) (hz : i.zero = some (.int .u8 0)) (hsize : i.size = 1) (hby : i.bytes = 1)
    (v : Value) (l : List Nat) (hs : a.eval s = v) (hown : w.ownsRow base 5 1 v l.length (cellsOf l))
    (B : Nat) (A : Option Addr) (c : Nat) (l2 : List Nat) (hx : a.eval x = .slice A l2.length c) (hA : A = none → c = 0) (hr : Rd w B A l2)
    (h63 : l.length + l2.length ≤ 1000000) (hbase : base ≤ w.heap.size)
    (h : ∀ v' w', w'.ownsRow base 5 1 v' (l ++ l2).length (cellsOf (l ++ l2)) → w.grownBy w' v.ownBlock → wpList Tryd.prog ops Q rest (a.put o.dst v') w') : wpList Tryd.prog ops Q (o :: rest) a w := by
  rcases A with _ | ad
  · have h0 : l2 = [] := by
      rcases l2 with _ | ⟨q, l2⟩
      · rfl
      · obtain ⟨_, _, e, _⟩ := hr (by simp)
        cases e
    subst h0
    obtain rfl := hA rfl
    refine wpList_append_own_none hgd s x 22 ho base 5 i 1 Tryd.underlying22 hi v l.length (cellsOf l) hs hown hx ?_
    exact h v w (by simpa using hown) (World.grownBy.refl w _)
  · refine wpList_append_own w hgd s x 22 ho base 5 i (.int .u8 0) 1 1 Tryd.underlying22 hi hz hsize hby rfl (by omega) v l.length (cellsOf l) hs hown ad l2.length c (cellsOf l2) hx (by rw [cellsOf_length]; omega) ?_ (cellsOf_one l2) (by unfold maxLen; omega) (by omega) hbase ?_
    · intro j u hu
      obtain ⟨hj, rfl⟩ := cellsOf_at hu
      obtain ⟨b, off, e, _, hc⟩ := hr (by omega)
      cases e
      rw [show (⟨b, off, none⟩ : Addr).add j = ⟨b, off + j, none⟩ from by unfold Addr.add; split <;> simp_all]
      exact hc j hj
    · intro v' w' h1 h2 _
      exact h v' w' (by rw [List.length_append, cellsOf_append]; exact h1) h2
theorem info5 : (Tryd.prog.info? 5).map (fun i => (i.zero, i.size, i.bytes)) = some (some (.int .u8 0), 1, 1) := by kernel_rfl

theorem grown_of_below {w w' : World} (hb : Below w.heap.size w w') : w.grownBy w' none := ⟨hb.os, hb.tape, hb.output, hb.size, fun k hk _ => hb.block k hk⟩

theorem new4 (w : World) (g : Nat) : Rd (w.alloc (.cells #[.int .u8 ((g : Int) % 256), .int .u8 ((g : Int) / 256 % 256), .int .u8 ((g : Int) / 65536 % 256), .int .u8 ((g : Int) / 16777216)] 34)) (w.heap.size + 1) (some ⟨w.heap.size, 0, none⟩) (le4 g) := fun _ => by
  refine ⟨w.heap.size, 0, rfl, by omega, fun i hi => ?_⟩
  have : i = 0 ∨ i = 1 ∨ i = 2 ∨ i = 3 := by simp [le4] at hi; omega
  rcases this with rfl | rfl | rfl | rfl <;> simp [le4]

/-- A slice of these bytes is handed back, in new memory. -/
def Gives (w : World) (l : List Nat) (e : Ending) (w' : World) : Prop :=
  ∃ A cap, e = .returned (.slice A l.length cap) ∧ l.length ≤ cap ∧ cap ≤ maxLen ∧ (A = none → cap = 0) ∧ Rd w' w'.heap.size A l ∧ Below w.heap.size w w'

set_option maxHeartbeats 1000000 in
theorem put_rd (B cap : Nat) (A : Option Addr) (l : List Nat) (w : World) (hm : l.length ≤ 100000) (hA : A = none → cap = 0) (hl : ∀ v ∈ l, v < 256)
    (hc : Rd w B A l) (ht : HasTab w) (hB : B ≤ w.heap.size) (h0 : 0 < w.heap.size) :
    Calls Tryd.prog 14 #[.slice A l.length cap] w (Gives w (l ++ le4 (goN 0 l))) := by
  obtain ⟨i0, hi, hz0, hz1, hz2⟩ := info_parts info5
  have hg := goN_lt 0 l (by omega) hl
  have HL4 := Lib.hid (last_rd B cap A l)
  have HC := Lib.hid hc
  have HT := Lib.hid ht
  have HA := Lib.hid hA
  have HL := Lib.hid hl
  clear hc ht hA hl
  obtain ⟨g, hgg⟩ : ∃ g : Nat, g = goN 0 l := ⟨_, rfl⟩
  rw [← hgg] at hg HL4 ⊢
  clear hgg
  go_enter Tryd.func14, Tryd.ntmps14
  go_wp2_with (first
    | (at_make; refine wpList_make_own _ rfl _ _ 22 rfl w.heap.size 5 i0 _ 1 Tryd.underlying22 hi hz0 hz1 .i64 .i64 _ (l.length + 4) rfl rfl (by omega) (by rw [hz2]; omega) (by unfold maxLen; omega) (Nat.le_refl _) ?_
       intro w1 hown1 hg1
       have hb1 : Below w.heap.size w w1 := (Below.refl _ _).grown hg1 (Nat.le_refl _) (by simp))
    | (at_builtin; refine wpList_append_rd rfl (.tmp 9) (.tmp 10) rfl w.heap.size i0 hi hz0 hz1 hz2 _ [] rfl hown1 B A cap l rfl HA.out (HC.out.below (hb1.mono hB)) (by simp; omega) hb1.size ?_
       intro v2 w2 hown2 hg2
       have hb2 : Below w.heap.size w w2 := hb1.grown hg2 hb1.size (fun k hk => (hown1.lt k hk).1))
    | (go_at_call 16; refine (HL4.out _ (by omega) HL.out (HC.out.below (hb2.mono hB)) (HT.out.below h0 hb2) (Nat.le_trans hB hb2.size) (Nat.lt_of_lt_of_le h0 hb2.size)).mono ?_
       rintro e w3 ⟨rfl, hb3⟩
       simp only [arr4]
       have hown3 := hown2.kept (grown_of_below hb3) (by by_cases hq : v2.ownBlock = none; exact .inl hq; exact .inr hq))
    | (at_builtin; refine wpList_append_rd rfl (.tmp 14) (.tmp 15) rfl w.heap.size i0 hi hz0 hz1 hz2 v2 ([] ++ l) rfl (hown3.alloc _) (w3.heap.size + 1) (some ⟨w3.heap.size, 0, none⟩) 4 (le4 g) rfl (by simp) (new4 w3 g) (by simp [le4]; omega) (by have := hb2.size; have := hb3.size; simp; omega) ?_
       intro v5 w5 hown5 hg5))
  rw [List.nil_append] at hown5
  have hb4 : Below w.heap.size w w3 := hb2.trans (hb3.mono hb2.size)
  have hb5 : Below w.heap.size w w5 := (hb4.alloc hb4.size _).grown hg5 (by have := hb4.size; simp; omega) (fun k hk => (hown3.lt k hk).1)
  obtain ⟨A5, cap5, hv5, q1, q2, q3, _, q4⟩ := rd_own hown5
  have H5 := Lib.hid hv5
  clear hv5
  go_ret
  exact ⟨A5, cap5, congrArg Ending.returned H5.out, q1, q2, q3, q4, hb5⟩

/-- Bytes as a string. -/
def strN (l : List Nat) : ByteArray := strOfNums (l.map fun v => ((v : Nat) : Int))
theorem getD_map (l : List Nat) {i : Nat} (h : i < l.length) : (l.map fun v => ((v : Nat) : Int)).getD i 0 = ((l.getD i 0 : Nat) : Int) := by
  rw [getD_at l h, List.getD_eq_getElem?_getD, List.getElem?_map, List.getElem?_eq_getElem h]
  rfl
theorem conv_zero (w : World) (A : Option Addr) (c : Nat) : (convert 22 9 (.slice A 0 c)).run Tryd.prog w = .ok (.string (strN [])) w := by
  rw [run_convert_bytes_string w 22 9 5 _ 0 c Tryd.underlying22 Tryd.underlying5 Tryd.underlying9]
  rcases A with _ | a
  · simp [Conv.bytesToString]
    rfl
  · simp [Conv.bytesToString, loadCells]
    rfl
theorem conv_rd (w : World) (B cap : Nat) (A : Option Addr) (l : List Nat) (hc : Rd w B A l) :
    (convert 22 9 (.slice A l.length cap)).run Tryd.prog w = .ok (.string (strN l)) w := by
  rcases l with _ | ⟨v, l⟩
  · exact conv_zero w A cap
  · obtain ⟨b, off, rfl, _, h⟩ := hc (by simp)
    refine run_convert_bytes_arg w 22 5 Tryd.underlying22 Tryd.underlying5 b off (v :: l).length cap ((v :: l).map fun v => ((v : Nat) : Int)) (by simp) ?_ 9 Tryd.underlying9
    intro i hi
    rw [h i hi, getD_map _ hi]

set_option maxHeartbeats 400000 in
theorem equal_any (w : World) (s t : ByteArray) (v x : Value) (h1 : (convert 22 9 v).run Tryd.prog w = .ok (.string s) w) (h2 : (convert 22 9 x).run Tryd.prog w = .ok (.string t) w) :
    Calls Tryd.prog 17 #[v, x] w fun e w' => e = .returned (.bool (s.toList == t.toList)) ∧ w' = w := by
  go_enter Tryd.func17, Tryd.ntmps17
  go_wp2
  go_ret
  exact ⟨rfl, rfl⟩
end Go.Proofs.YtpighdioomjnmabDoor
