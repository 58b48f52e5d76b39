/-
  Layer 10: 'copy' into a row of a heap, and what comes of it. Written by an AI agent.
-/
import Derived.Test.YtpighdioomjnmaaHpS
import Derived.Laws.CopyOwn
namespace Go.Proofs.Ytpighdioomjnmaa
open Go.RowKit
set_option linter.unusedVariables false

theorem copy_run {P : Program} (w : World) (dT sT ty elem : TypeId) (hu : P.underlying dT = some (.slice elem)) (hsz : (P.info? elem).map (·.size) = some 1)
    (dp sp : Option Addr) (n dCap sCap g off : Nat) (cur : List Value) (t : TypeId) (hg : w.heap[g]? = some (.cells cur.toArray t (0, 0))) (cs : List Value) (hn : cs.length = n)
    (hpos : 0 < cs.length → dp = some ⟨g, off, none⟩) (hr : RdV w sp cs) (hfit : off + cs.length ≤ cur.length) (h1 : ∀ v ∈ cs, v.oneCell' = true) :
    (Builtin.copy_ #[dT, sT] ty #[.slice dp n dCap, .slice sp n sCap]).run P w = .ok (goInt cs.length) (w.setRow g (splice cur off cs).toArray) := by
  by_cases h0 : cs.length = 0
  · obtain rfl : cs = [] := List.eq_nil_of_length_eq_zero h0
    have hrun := run_copy_none (P := P) w dT sT ty elem dp sp n dCap n sCap hu hsz (by rw [← hn]; rfl)
    rw [hrun, show splice cur off [] = cur by simp [splice], setRow_self w g _ t _ hg]
    rfl
  · obtain ⟨b, o, hsp, hc⟩ := hr (by omega)
    subst hsp
    obtain rfl := hpos (by omega)
    have hsrc : ∀ j v, cs[j]? = some v → w.cell? ((⟨b, o, none⟩ : Addr).add j) = some v := fun j v hv => by
      have hj : j < cs.length := (List.getElem?_eq_some_iff.1 hv).1
      rw [show (⟨b, o, none⟩ : Addr).add j = ⟨b, o + j, none⟩ from by unfold Addr.add; split <;> simp_all, hc j hj, hv]
    have hrun := run_copy_row (P := P) w dT sT ty elem g off n dCap ⟨b, o, none⟩ n sCap cur.toArray t cs hu hsz hg (by rw [hn]; exact (Nat.min_self n).symm) hsrc (by simpa using hfit) h1
    rw [hrun]
    simp [splice]

theorem step_copy_at {P : Program} {ops : Array Oper} {o : Oper} {a : Act} {w : World} {K : Act → World → Prop} {Q : Exit → Act → World → Prop} {E : Prop} (hgd : o.guard = none) (d s : Operand) (dT sT : TypeId)
    (ho : o.op = .call { callee := .builtin .copy, args := #[d, s], argTypes := #[dT, sT] }) (elem : TypeId) (hu : P.underlying dT = some (.slice elem)) (hsz : (P.info? elem).map (·.size) = some 1)
    (dp sp : Option Addr) (n dCap sCap g off : Nat) (hd : a.eval d = .slice dp n dCap) (hs : a.eval s = .slice sp n sCap)
    (cur : List Value) (t : TypeId) (hg : w.heap[g]? = some (.cells cur.toArray t (0, 0))) (cs : List Value) (hn : cs.length = n)
    (hpos : 0 < cs.length → dp = some ⟨g, off, none⟩) (hr : RdV w sp cs) (hfit : off + cs.length ≤ cur.length) (h1 : ∀ v ∈ cs, v.oneCell' = true)
    (h : K (a.put o.dst (goInt cs.length)) (w.setRow g (splice cur off cs).toArray)) :
    if Region.wanted o (yielded ops a.tmps) = true then Oper.wp P o a w K Q else E := by
  have hw : Region.wanted o (yielded ops a.tmps) = true := by simp [Region.wanted, hgd]
  rw [if_pos hw]
  have hrun := copy_run (P := P) w dT sT o.type elem hu hsz dp sp n dCap sCap g off cur t hg cs hn hpos hr hfit h1
  unfold Oper.wp
  simp [execOp, ho, resolve, invoke, builtin, hd, hs, hrun, Result.andThen]
  exact h

theorem wpList_copy_at {P : Program} {w : World} {ops : Array Oper} {rest : List Oper} {o : Oper} {a : Act} {Q : Exit → Act → World → Prop} (hgd : o.guard = none) (d s : Operand) (dT sT : TypeId)
    (ho : o.op = .call { callee := .builtin .copy, args := #[d, s], argTypes := #[dT, sT] }) (elem : TypeId) (hu : P.underlying dT = some (.slice elem)) (hsz : (P.info? elem).map (·.size) = some 1)
    (dp sp : Option Addr) (n dCap sCap g off : Nat) (hd : a.eval d = .slice dp n dCap) (hs : a.eval s = .slice sp n sCap)
    (cur : List Value) (t : TypeId) (hg : w.heap[g]? = some (.cells cur.toArray t (0, 0))) (cs : List Value) (hn : cs.length = n)
    (hpos : 0 < cs.length → dp = some ⟨g, off, none⟩) (hr : RdV w sp cs) (hfit : off + cs.length ≤ cur.length) (h1 : ∀ v ∈ cs, v.oneCell' = true)
    (h : wpList P ops Q rest (a.put o.dst (goInt cs.length)) (w.setRow g (splice cur off cs).toArray)) : wpList P ops Q (o :: rest) a w := by
  refine wpList_plain hgd fun K hK => ?_
  have hrun := copy_run (P := P) w dT sT o.type elem hu hsz dp sp n dCap sCap g off cur t hg cs hn hpos hr hfit h1
  unfold Oper.wp
  simp [execOp, ho, resolve, invoke, builtin, hd, hs, hrun, Result.andThen]
  exact hK _ _ h

theorem iv_splice (cs : List Int) (off : Nat) (new : List Int) : iv (splice cs off new) = splice (iv cs) off (iv new) := by
  unfold splice iv
  simp [List.map_take, List.map_drop]
theorem splice_length {α : Type} (L : List α) (off : Nat) (cs : List α) (h : off + cs.length ≤ L.length) : (splice L off cs).length = L.length := length_splice L off cs h
theorem splice_take {α : Type} (L : List α) (off n : Nat) (cs : List α) (h : off + cs.length ≤ n) (hn : n ≤ L.length) : (splice L off cs).take n = splice (L.take n) off cs := by
  have e1 : (L.take n).take off = L.take off := by rw [List.take_take, Nat.min_eq_left (by omega)]
  have e2 : (L.take off).length = off := by rw [List.length_take]; omega
  unfold splice
  rw [e1, List.drop_take, List.take_append, List.take_of_length_le (by omega : (L.take off).length ≤ n), e2, List.take_append, List.take_of_length_le (by omega : cs.length ≤ n - off), Nat.sub_sub]
theorem splice_all {α : Type} (L cs : List α) (h : cs.length = L.length) : splice L 0 cs = cs := by
  unfold splice
  rw [List.drop_of_length_le (by omega)]
  simp

theorem size_setRow (w : World) (g : Nat) (cs : Array Value) : (w.setRow g cs).heap.size = w.heap.size := by simp [World.setRow]

theorem Keeps.setRow {S : Nat → Prop} {a w : World} (h : Keeps S a w) {g : Nat} (hg : g < a.heap.size → S g) (cs : Array Value) : Keeps S a (w.setRow g cs) :=
  ⟨h.os, h.tape, h.output, by rw [size_setRow]; exact h.size, fun k hk hn => (setRow_other w g k cs (fun e => hn (by subst e; exact hg hk))).trans (h.block k hk hn)⟩

theorem ownsRow_splice {w : World} {v : Value} {g : Nat} {cs : List Int} (h : w.ownsRow 0 3 1 v cs.length (iv cs)) (hv : v.ownBlock = some g) (cur : List Value) (hg : w.heap[g]? = some (.cells cur.toArray 3 (0, 0))) (off : Nat) (new : List Int) (hfit : off + new.length ≤ cs.length) :
    (w.setRow g (splice cur off (iv new)).toArray).ownsRow 0 3 1 v (splice cs off new).length (iv (splice cs off new)) ∧ off + (iv new).length ≤ cur.length := by
  rcases h.2 with ⟨rfl, _⟩ | ⟨g', cap, cur', rfl, hb, hg', hn, hc, hcs, htk⟩
  · cases hv
  · have e : g' = g := by simpa [Value.ownBlock] using hv
    subst e
    rw [hg] at hg'
    have e2 : cur' = cur.toArray := by simp at hg'; exact hg'.symm
    subst e2
    have hcl : cur.length = cap := by simpa using hcs
    have hfit2 : off + (iv new).length ≤ cur.length := by rw [iv_length]; omega
    refine ⟨⟨by rw [iv_length, Nat.mul_one], .inr ⟨g', cap, _, ?_, hb, setRow_heap w g' _ _ 3 _ hg, ?_, hc, ?_, ?_⟩⟩, hfit2⟩
    · rw [splice_length _ _ _ hfit]
    · rw [splice_length _ _ _ hfit]
      exact hn
    · rw [List.size_toArray, length_splice _ _ _ hfit2]
      omega
    · rw [splice_length _ _ _ hfit, iv_splice, Nat.mul_one]
      rw [Nat.mul_one] at htk
      have h3 : (splice cur off (iv new)).take cs.length = splice (cur.take cs.length) off (iv new) := splice_take cur off cs.length (iv new) (by rw [iv_length]; exact hfit) (by omega)
      rw [h3]
      congr 1

theorem HeapIs.copied0 {w : World} {S : Nat → Prop} {p g : Nat} {vc ve : Value} {cs es : List Int} (H : HeapIs w S p vc ve cs es) (hv : vc.ownBlock = some g) (cur : List Value) (hg : w.heap[g]? = some (.cells cur.toArray 3 (0, 0))) (off : Nat) (new : List Int) (hfit : off + new.length ≤ cs.length) :
    HeapIs (w.setRow g (splice cur off (iv new)).toArray) S p vc ve (splice cs off new) es ∧ Keeps S w (w.setRow g (splice cur off (iv new)).toArray) := by
  obtain ⟨s1, s2, s3⟩ := H.sc g hv
  have hp : (w.setRow g (splice cur off (iv new)).toArray).heap[p]? = w.heap[p]? := setRow_other w g p _ (Ne.symm s2)
  refine ⟨⟨(World.cell?_of_block (w := w) (a := ⟨p, 0, none⟩) hp).trans H.c0, (World.cell?_of_block (w := w) (a := ⟨p, 1, none⟩) hp).trans H.c1, fun k => (World.frozen?_of_block (w := w) (a := ⟨p, k, none⟩) hp).trans (H.fz k),
    by rw [size_setRow]; exact H.lt, (ownsRow_splice H.oc hv cur hg off new hfit).1, ?_, H.sp, fun k hk => by rw [size_setRow]; exact H.sc k hk, fun k hk => by rw [size_setRow]; exact H.se k hk, H.ce⟩, (Keeps.refl _ _).setRow (fun _ => s1) _⟩
  exact ownsRow_keep H.oe fun k hk => setRow_other w g k _ (fun e => H.ce g hv (by rw [← e]; exact hk))

theorem HeapIs.copied1 {w : World} {S : Nat → Prop} {p g : Nat} {vc ve : Value} {cs es : List Int} (H : HeapIs w S p vc ve cs es) (hv : ve.ownBlock = some g) (cur : List Value) (hg : w.heap[g]? = some (.cells cur.toArray 3 (0, 0))) (off : Nat) (new : List Int) (hfit : off + new.length ≤ es.length) :
    HeapIs (w.setRow g (splice cur off (iv new)).toArray) S p vc ve cs (splice es off new) ∧ Keeps S w (w.setRow g (splice cur off (iv new)).toArray) := by
  obtain ⟨s1, s2, s3⟩ := H.se g hv
  have hp : (w.setRow g (splice cur off (iv new)).toArray).heap[p]? = w.heap[p]? := setRow_other w g p _ (Ne.symm s2)
  refine ⟨⟨(World.cell?_of_block (w := w) (a := ⟨p, 0, none⟩) hp).trans H.c0, (World.cell?_of_block (w := w) (a := ⟨p, 1, none⟩) hp).trans H.c1, fun k => (World.frozen?_of_block (w := w) (a := ⟨p, k, none⟩) hp).trans (H.fz k),
    by rw [size_setRow]; exact H.lt, ?_, (ownsRow_splice H.oe hv cur hg off new hfit).1, H.sp, fun k hk => by rw [size_setRow]; exact H.sc k hk, fun k hk => by rw [size_setRow]; exact H.se k hk, H.ce⟩, (Keeps.refl _ _).setRow (fun _ => s1) _⟩
  exact ownsRow_keep H.oc fun k hk => setRow_other w g k _ (fun e => H.ce k hk (by rw [e]; exact hv))

/-- The whole row at an own slice's block. -/
theorem own_row {w : World} {g n cap : Nat} {xs : List Value} (h : w.ownsRow 0 3 1 (.slice (some ⟨g, 0, none⟩) n cap) n xs) : ∃ cur : List Value, cur.length = cap ∧ n ≤ cap ∧ w.heap[g]? = some (.cells cur.toArray 3 (0, 0)) := by
  rcases h.2 with ⟨e, _⟩ | ⟨g', cap', cur, e, _, hg, hn, _, hs, _⟩
  · cases e
  · cases e
    exact ⟨cur.toList, by simpa using hs, hn, by simpa using hg⟩

end Go.Proofs.Ytpighdioomjnmaa
