/-
  Layer 10: the contract of the document's Of. Written by an AI agent.
-/
import Derived.Test.YtpighdioomjnmaaHpY
import Derived.Test.YtpighdioomjnmaaHpW
import Derived.Deep.DeepCutAuto
import Derived.Deep.CutBlock
import Derived.Deep.CutRange
namespace Go.Proofs.Ytpighdioomjnmaa
open Go.RowKit
set_option linter.unusedVariables false

theorem run_append_nothing {P : Program} (w : World) (t ty e : TypeId) (i : TypeInfo) (ht : P.underlying t = some (.slice e)) (hi : P.info? e = some i) (base : Nat) (v : Value) (n : Nat) (xs : List Value) (hown : w.ownsRow base e 1 v n xs) (c : Nat) :
    (Builtin.append_ #[t, t] ty #[v, .slice none 0 c]).run P w = .ok v w := by
  rcases hown.2 with ⟨rfl, rfl⟩ | ⟨g, cap, cur, rfl, _, _, hnc, _⟩
  · simp [Builtin.append_, run_underlying ht, sizeOf, typeInfo, hi, Builtin.lenOf, Builtin.firstCells]
  · simp [Builtin.append_, run_underlying ht, sizeOf, typeInfo, hi, Builtin.lenOf, Builtin.firstCells, hnc, storeCells]

theorem step_append_opt {P : Program} {ops : Array Oper} {o : Oper} {a : Act} {w : World} {K : Act → World → Prop} {Q : Exit → Act → World → Prop} {E : Prop} (hgd : o.guard = none) (s x : Operand) (t : TypeId)
    (ho : o.op = .call { callee := .builtin .append, args := #[s, x], argTypes := #[t, t] })
    (base : Nat) (e : TypeId) (i : TypeInfo) (z : Value) (bytes : Nat) (ht : P.underlying t = some (.slice e)) (hi : P.info? e = some i) (hz : i.zero = some z)
    (hsize : i.size = 1) (hby : i.bytes = bytes) (hzs : z.cells.size = 1)
    (v : Value) (n : Nat) (xs : List Value) (hs : a.eval s = v) (hown : w.ownsRow base e 1 v n xs)
    (A : Option Addr) (m c : Nat) (news : List Value) (hx : a.eval x = .slice A m c) (hl : news.length = m) (hr : RdV w A news) (h1 : ∀ u ∈ news, u.oneCell' = true)
    (h63 : n + m ≤ 1000000) (hby2 : bytes ≤ 64) (hbase : base ≤ w.heap.size)
    (h : ∀ v' w', w'.ownsRow base e 1 v' (n + m) (xs ++ news) → w.grownBy w' v.ownBlock → (v'.ownBlock = v.ownBlock ∨ v'.ownBlock = some w.heap.size) → K (a.put o.dst v') w') :
    if Region.wanted o (yielded ops a.tmps) = true then Oper.wp P o a w K Q else E := by
  rcases A with _ | ad
  · have h0 : news = [] := by
      rcases news with _ | ⟨q, l⟩
      · rfl
      · obtain ⟨_, _, e, _⟩ := hr (by simp)
        cases e
    subst h0
    obtain rfl : 0 = m := hl
    have hw : Region.wanted o (yielded ops a.tmps) = true := by simp [Region.wanted, hgd]
    rw [if_pos hw]
    have hrun := run_append_nothing (P := P) w t o.type e i ht hi base v n xs hown c
    unfold Oper.wp execOp
    simp only [ho, resolve, invoke, builtin, Sem.run_bind, Sem.run_pure, Result.andThen_ok, List.map_toArray, List.map_cons, List.map_nil, hs, hx, hrun]
    exact h v w (by simpa using hown) (World.grownBy.refl w _) (.inl rfl)
  · refine step_append_at hgd s x t ho base e i z bytes ht hi hz hsize hby hzs v n xs hs hown ad m c news hx hl (fun j u hu => ?_) h1 h63 hby2 hbase h
    have hj : j < news.length := (List.getElem?_eq_some_iff.1 hu).1
    obtain ⟨b, off, e, hc⟩ := hr (by omega)
    cases e
    rw [show (⟨b, off, none⟩ : Addr).add j = ⟨b, off + j, none⟩ from by unfold Addr.add; split <;> simp_all]
    rw [hc j hj, hu]

/-- The last list of the document's heap set to another. -/
theorem ref_row {w W5 : World} {S : Nat → Prop} {p k g c m : Nat} {rows : List Value} {L : List (List Int)} {x y : List Int} {v5 : Value} {ob : Obj} (hk : L.length = k)
    (c0 : w.cell? ⟨p, 0, none⟩ = some (.slice (some ⟨g, 0, none⟩) (k + 1) c)) (fz : ∀ k, w.frozen? ⟨p, k, none⟩ = false) (hp : p < w.heap.size) (hS : S p) (H : RowsIs w S p (.slice (some ⟨g, 0, none⟩) (k + 1) c) rows (L ++ [y]))
    (hown : W5.ownsRow 0 3 1 v5 m (iv x)) (hm : x.length = m) (hg : ((w.alloc ob).drew).grownBy W5 (some w.heap.size)) (hb : v5.ownBlock = some w.heap.size ∨ v5.ownBlock = some ((w.alloc ob).drew).heap.size) :
    RefIs (W5.setCell ⟨g, k, none⟩ v5) (fun b => S b ∨ (w.heap.size ≤ b ∧ b < (W5.setCell ⟨g, k, none⟩ v5).heap.size)) p (L ++ [x]) ∧ Keeps S w (W5.setCell ⟨g, k, none⟩ v5) ∧
    W5.cell? ⟨p, 0, none⟩ = some (.slice (some ⟨g, 0, none⟩) (k + 1) c) ∧ W5.cell? ⟨g, k, none⟩ = some (rows.getD k nilS) ∧ W5.frozen? ⟨g, k, none⟩ = false := by
  subst hk
  obtain ⟨W4, hW4⟩ : ∃ W4 : World, W4 = (w.alloc ob).drew := ⟨_, rfl⟩
  have k4 : Keeps (fun _ => False) w W4 := by rw [hW4]; exact ((Keeps.refl _ w).alloc _).drew
  have s4 : W4.heap.size = w.heap.size + 1 := by rw [hW4]; show (World.alloc _ _).heap.size = _; simp
  rw [← hW4] at hg hb
  clear hW4
  have s5 := hg.size
  have hl1 : (L ++ [y]).length = L.length + 1 := by simp
  have hl2 : (L ++ [x]).length = L.length + 1 := by simp
  have hrl : rows.length = L.length + 1 := by have := H.own.1; omega
  have hgl : g < w.heap.size := own_lt H.own rfl
  obtain ⟨hgS, hgp⟩ := H.vb g rfl
  have old : ∀ b, b < w.heap.size → W5.heap[b]? = w.heap[b]? := fun b hb' => (hg.block b (by omega) fun e => by have := Option.some.inj e; omega).trans (k4.block b hb' (fun h => h))
  have old6 : ∀ b, b < w.heap.size → b ≠ g → (W5.setCell ⟨g, L.length, none⟩ v5).heap[b]? = w.heap[b]? := fun b hb' hne => (Below.heap_setCell W5 _ _ b hne).trans (old b hb')
  have hv5 : ∀ b, v5.ownBlock = some b → w.heap.size ≤ b ∧ b < W5.heap.size := fun b hb' => by
    have hlt := own_lt hown hb'
    rcases hb with e | e
    · rw [e] at hb'; have := Option.some.inj hb'; omega
    · rw [e] at hb'; have := Option.some.inj hb'; omega
  have hsz : (W5.setCell ⟨g, L.length, none⟩ v5).heap.size = W5.heap.size := by simp
  have own5 : W5.ownsRow 0 41 1 (.slice (some ⟨g, 0, none⟩) (L.length + 1) c) (L.length + 1) rows := by
    have h := H.own
    rw [hl1] at h
    exact ownsRow_keep h fun b hb' => old b (own_lt h hb')
  have hset : ∀ i, i < L.length → (rows.set L.length v5).getD i nilS = rows.getD i nilS := fun i hi => by
    rw [List.getD_eq_getElem?_getD, List.getElem?_set_ne (by omega), ← List.getD_eq_getElem?_getD]
  have hsetk : (rows.set L.length v5).getD L.length nilS = v5 := by
    rw [List.getD_eq_getElem?_getD, List.getElem?_set_self (by omega)]
    rfl
  have hLi : ∀ i, i < L.length → (L ++ [x]).getD i [] = (L ++ [y]).getD i [] := fun i hi => by rw [getD_snoc_lt hi, getD_snoc_lt hi]
  have hLk : (L ++ [x]).getD L.length [] = x := getD_snoc_eq rfl
  have c5 : W5.cell? ⟨p, 0, none⟩ = some (.slice (some ⟨g, 0, none⟩) (L.length + 1) c) := (World.cell?_of_block (w := w) (a := ⟨p, 0, none⟩) (old p hp)).trans c0
  refine ⟨⟨.slice (some ⟨g, 0, none⟩) (L.length + 1) c, rows.set L.length v5, (World.cell?_setCell_far W5 ⟨g, L.length, none⟩ ⟨p, 0, none⟩ _ hgp).trans c5, fun q => ?_, by rw [hsz]; omega, .inl hS, ⟨?_, ?_, ?_, ?_, ?_⟩⟩, ?_, c5, ?_, ?_⟩
  · rw [World.frozen?_setCell]
    exact (World.frozen?_of_block (w := w) (a := ⟨p, q, none⟩) (old p hp)).trans (fz q)
  · rw [hl2]
    exact (own5.stored L.length v5).1
  · intro b hb'
    have h := H.vb b hb'
    exact ⟨.inl h.1, h.2⟩
  · intro i hi
    rw [hl2] at hi
    rcases Nat.lt_or_ge i L.length with h | h
    · rw [hset i h, hLi i h]
      have h1 := H.row i (by omega)
      exact ownsRow_keep h1 fun b hb' => old6 b (own_lt h1 hb') (own_ne H.own h1 rfl hb')
    · obtain rfl : i = L.length := by omega
      rw [hsetk, hLk, hm]
      exact ownsRow_keep hown fun b hb' => Below.heap_setCell W5 _ _ b (by have := hv5 b hb'; show b ≠ g; omega)
  · intro i hi b hb'
    rw [hl2] at hi
    rw [hsz]
    rcases Nat.lt_or_ge i L.length with h | h
    · rw [hset i h] at hb'
      have h1 := H.rb i (by omega) b hb'
      exact ⟨.inl h1.1, h1.2⟩
    · obtain rfl : i = L.length := by omega
      rw [hsetk] at hb'
      have := hv5 b hb'
      exact ⟨.inr this, by omega⟩
  · intro i j hi hj hij b hb1 hb2
    rw [hl2] at hi hj
    rcases Nat.lt_or_ge i L.length with h | h
    · rw [hset i h] at hb1
      rcases Nat.lt_or_ge j L.length with h2 | h2
      · rw [hset j h2] at hb2
        exact H.ne i j (by omega) (by omega) hij b hb1 hb2
      · obtain rfl : j = L.length := by omega
        rw [hsetk] at hb2
        have e1 := own_lt (H.row i (by omega)) hb1
        have e2 := hv5 b hb2
        omega
    · obtain rfl : i = L.length := by omega
      rw [hsetk] at hb1
      rcases Nat.lt_or_ge j L.length with h2 | h2
      · rw [hset j h2] at hb2
        have e1 := own_lt (H.row j (by omega)) hb2
        have e2 := hv5 b hb1
        omega
      · omega
  · have kS : Keeps S w W4 := k4.mono (fun _ _ h => h.elim)
    exact (kS.grown hg fun b hb' hlt => by have := Option.some.inj hb'; omega).setCell (fun _ => hgS) _
  · rw [own5.cellAt L.length (by omega), List.getD_eq_getElem?_getD, List.getElem?_eq_getElem (by omega)]
    rfl
  · exact own5.frozenAt L.length

/-- What the document's Of hands back. -/
def ROfPost (L : List (List Int)) (w : World) (e : Ending) (w' : World) : Prop :=
  Keeps (fun _ => False) w w' ∧
  ((OkL L L.length ∧ ∃ p, e = .returned (.tuple #[.pointer (some ⟨p, 0, none⟩), .bool true]) ∧ RefIs w' (fun k => w.heap.size ≤ k ∧ k < w'.heap.size) p L) ∨
   (¬ OkL L L.length ∧ ∃ p, e = .returned (.tuple #[.pointer (some ⟨p, 0, none⟩), .bool false])))

set_option maxRecDepth 100000 in
set_option maxHeartbeats 4000000 in
theorem rof_any (w : World) (A : Option Addr) (cap : Nat) (L : List (List Int)) (hL : L.length ≤ 1000) (hl : ∀ i, (L.getD i []).length ≤ 1000) (hA : RdL w A L) :
    Calls Try.prog 22 #[.slice A L.length cap] w (ROfPost L w) := by
  obtain ⟨i0, hi, hz0, hz1, hz2⟩ := info_parts info3
  obtain ⟨n, hn⟩ : ∃ n : Nat, n = L.length := ⟨_, rfl⟩
  rw [← hn] at hL ⊢
  have HA := Lib.hid hA
  have HLn := Lib.hid hl
  have HN := Lib.hid hn
  clear hn hA hl
  go_enter Try.func22, Try.ntmps22
  go_upto_block 0 with fail
  obtain ⟨w1, hw1⟩ : ∃ w1 : World, w1 = w.alloc (.cells #[.slice none 0 0] 29) := ⟨_, rfl⟩
  have H1 := refIs_new w
  have K1 : Keeps (fun _ => False) w w1 := by rw [hw1]; exact (Keeps.refl _ w).alloc _
  rw [← hw1] at H1
  obtain ⟨p, hp⟩ : ∃ p : Nat, p = w.heap.size := ⟨_, rfl⟩
  rw [← hp] at H1
  rw [← hw1, ← hp]
  have HP := Lib.hid hp
  have HH1 := Lib.hid H1
  have HK1 := Lib.hid K1
  clear hw1 hp H1 K1
  go_wp2_with fail
  go_loopw [5] (fun i wr => ∃ k : Nat, k ≤ n ∧ i = .int .i64 k ∧ OkL L k ∧ RefIs wr (fun b => w.heap.size ≤ b) p (L.take k) ∧ Keeps (fun _ => False) w wr) (fun i _ => n - (intOf i).toNat)
  case atStart => exact ⟨0, Nat.zero_le _, rfl, fun j hj => absurd hj (Nat.not_lt_zero _), HH1.out.wider (fun b _ hb => by have := HP.out; have : b = p := hb; show w.heap.size ≤ b; omega), HK1.out⟩
  case round =>
    obtain ⟨k, hk, rfl, hok, hh, kr⟩ := hrel
    by_cases hkn : k < n
    · have hkn' : (k : Int) < (n : Int) := by omega
      have hk0 : (0 : Int) ≤ (k : Int) := by omega
      have hkL : k < L.length := by rw [← HN.out]; exact hkn
      obtain ⟨ba, oa, hA1, ha⟩ := HA.out (by rw [← HN.out]; omega)
      obtain ⟨A2, c2, ha1w, ha2⟩ := ha k hkL
      have hbaw := cell_lt ha1w
      have ha1 := (kr.cell (cell_lt ha1w) (fun h => h)).trans ha1w
      obtain ⟨m, hm⟩ : ∃ m : Nat, m = (L.getD k []).length := ⟨_, rfl⟩
      have hm1000 : m ≤ 1000 := by rw [hm]; exact HLn.out k
      have htl : (L.take k).length = k := by rw [List.length_take]; omega
      have hfl : (L.take k).flatten.length ≤ 40 := by
        rcases k with _ | j
        · simp
        · have h1 := (hok j (by omega)).2
          have h2 := flat_take L j (by omega)
          unfold Fits at h1
          omega
      have MC := Lib.hid (rmake_any wr _ p (L.take k) hh (by omega) (by omega) (m : Int))
      rw [← hm] at ha1 ha1w
      have HM := Lib.hid hm
      have HO := Lib.hid hok
      have KR := Lib.hid kr
      have RA := Lib.hid ha2
      have HT := Lib.hid htl
      have HKL := Lib.hid hkL
      have HAW := Lib.hid ha1w
      subst hA1
      clear ha hm hok hh kr ha2 htl hfl hkL ha1w
      go_wp2_with fail
      refine MC.out.mono ?_
      rintro e w3 ⟨xx, tt, L', rfl, H3, K3, hcase⟩
      have hsr := KR.out.size
      have K3' : Keeps (fun _ => False) w w3 := KR.out.trans (K3.mono (T := fun b => w.heap.size ≤ b) (fun _ _ h => h)) (fun b hb h => absurd h (by omega))
      have H3' := H3.wider (T := fun b => w.heap.size ≤ b) (fun b _ hb => by rcases hb with hb | hb; exact hb; show w.heap.size ≤ b; omega)
      have hs3 := K3'.size
      have HH3 := Lib.hid H3'
      have HK3 := Lib.hid K3'
      clear H3 K3 K3' H3' hsr
      have hbad : ∀ (hh : ¬ ((L.getD k []).length ≤ 16 ∧ Fits (L.take k) ((L.getD k []).length : Int))), ¬ OkL L L.length := fun hh hO => hh (hO k HKL.out)
      have HBad := Lib.hid hbad
      clear hbad
      rcases hcase with ⟨c1, rfl, rfl, hL'⟩ | ⟨_, c1, c2, rfl, rfl, hL'⟩ | ⟨_, c1, c2', rfl, rfl, hL'⟩
      · have hb : ¬ OkL L L.length := HBad.out (fun h => by have := HM.out; omega)
        have HB := Lib.hid hb
        clear hb hL' c1 ha1
        go_wp2
        exact bodyPost_ret (v := .tuple #[.pointer (some ⟨w3.heap.size, 0, none⟩), .bool false]) (by simp [results, Try.results22, go_sem]) rfl ⟨HK3.out.alloc _, .inr ⟨HB.out, _, rfl⟩⟩
      · have hb : ¬ OkL L L.length := HBad.out (fun h => by rw [← HM.out] at h; exact c2 h.2)
        have HB := Lib.hid hb
        clear hb hL' c1 c2 ha1
        go_wp2
        exact bodyPost_ret (v := .tuple #[.pointer (some ⟨w3.heap.size, 0, none⟩), .bool false]) (by simp [results, Try.results22, go_sem]) rfl ⟨HK3.out.alloc _, .inr ⟨HB.out, _, rfl⟩⟩
      · rw [HT.out]
        have hH3 := HH3.out
        rw [hL', Int.toNat_natCast] at hH3
        obtain ⟨v, rows, q0, fz, hp3, hS3, hR⟩ := hH3
        have hlen : (L.take k ++ [List.replicate m 0]).length = k + 1 := by rw [List.length_append, HT.out]; rfl
        obtain ⟨g, c, rfl⟩ : ∃ g c, v = .slice (some ⟨g, 0, none⟩) (k + 1) c := by
          rcases hR.own.2 with ⟨_, h0⟩ | ⟨g, cap, cur, hv, _⟩
          · omega
          · exact ⟨g, cap, by rw [hv, hlen]⟩
        have HOk : Hid (OkL L (k + 1)) := fun j hj => by
          rcases Nat.lt_or_ge j k with h | h
          · exact HO.out j h
          · obtain rfl : j = k := by omega
            rw [← HM.out]
            exact ⟨by omega, c2'⟩
        have HEnd : Hid (∀ (W5 : World) (v5 : Value), W5.ownsRow 0 3 1 v5 (0 + m) ([] ++ iv (L.getD k [])) → ((w3.alloc (.cells #[] 3)).drew).grownBy W5 (Value.slice (some ⟨w3.heap.size, 0, none⟩) 0 0).ownBlock → (v5.ownBlock = (Value.slice (some ⟨w3.heap.size, 0, none⟩) 0 0).ownBlock ∨ v5.ownBlock = some ((w3.alloc (.cells #[] 3)).drew).heap.size) →
            RefIs (W5.setCell ⟨g, k, none⟩ v5) (fun b => w.heap.size ≤ b ∨ (w3.heap.size ≤ b ∧ b < (W5.setCell ⟨g, k, none⟩ v5).heap.size)) p (L.take k ++ [L.getD k []]) ∧ Keeps (fun b => w.heap.size ≤ b) w3 (W5.setCell ⟨g, k, none⟩ v5) ∧
            W5.cell? ⟨p, 0, none⟩ = some (.slice (some ⟨g, 0, none⟩) (k + 1) c) ∧ W5.cell? ⟨g, k, none⟩ = some (rows.getD k nilS) ∧ W5.frozen? ⟨g, k, none⟩ = false) := fun W5 v5 ho hg hb =>
          ref_row (x := L.getD k []) HT.out q0 fz hp3 hS3 hR (by rw [Nat.zero_add, List.nil_append] at ho; exact ho) HM.out.symm hg hb
        obtain ⟨zr, hzr⟩ : ∃ zr, zr = rows.getD k nilS := ⟨_, rfl⟩
        rw [← hzr] at HEnd
        have OW : Hid (((w3.alloc (.cells #[] 3)).drew).ownsRow 0 3 1 (.slice (some ⟨w3.heap.size, 0, none⟩) 0 0) 0 []) := (World.ownsRow_lit (base := 0) (e := 3) (size := 1) w3 #[] 0 (Nat.zero_le _) (by unfold maxLen; omega) rfl).drew
        have RA5 : Hid (RdV ((w3.alloc (.cells #[] 3)).drew) A2 (iv (L.getD k []))) := rdv_keep RA.out (HK3.out.alloc _).drew
        have ha3 := (HK3.out.cell (cell_lt HAW.out) (fun h => h)).trans HAW.out
        have HA5 : Hid (∀ W5 : World, ((w3.alloc (.cells #[] 3)).drew).grownBy W5 (Value.slice (some ⟨w3.heap.size, 0, none⟩) 0 0).ownBlock → W5.cell? ⟨ba, oa + k, none⟩ = some (.slice A2 m c2)) := fun W5 hg =>
          (World.cell?_of_block (w := w3) (a := ⟨ba, oa + k, none⟩) ((hg.block ba (by show ba < (w3.alloc _).heap.size; simp; omega) fun e => by have : ba = w3.heap.size := Option.some.inj e; omega).trans ((((Keeps.refl (fun _ => False) w3).alloc _).drew).block ba (by omega) (fun h => h)))).trans ha3
        have hpw : p ≠ w3.heap.size := by omega
        have hbw : ba ≠ w3.heap.size := by omega
        obtain ⟨N, hN⟩ : ∃ N : Nat, N = k + 1 := ⟨_, rfl⟩
        rw [← hN] at q0 HEnd
        have kN : (k : Int) < (N : Int) := by omega
        have s1 : IntKind.i64.wrap (k : Int) = (k : Int) := IntWalk.i64_in _ (by omega)
        have a3 : (w3.alloc (.cells #[] 3)).cell? ⟨ba, oa + k, none⟩ = some (.slice A2 m c2) := ((Keeps.refl (fun _ => False) w3).alloc _).cell (by omega) (fun h => h) |>.trans ha3
        have a0 : (w3.alloc (.cells #[] 3)).cell? ⟨p, 0, none⟩ = some (.slice (some ⟨g, 0, none⟩) N c) := ((Keeps.refl (fun _ => False) w3).alloc _).cell hp3 (fun h => h) |>.trans q0
        have hmlen : (iv (L.getD k [])).length = m := by rw [iv_length, ← HM.out]
        have HML := Lib.hid hmlen
        clear hzr hL' hlen c2' fz hS3 hR ha1 c1 hN hmlen
        go_wp2_with fail
        go_region_law (refine step_append_opt (by rfl) (.tmp 36) (.tmp 40) 41 (by rfl) 0 3 i0 _ 8 Try.underlying41 hi hz0 hz1 hz2 (by rfl) _ 0 [] (by rfl) OW.out A2 m c2 (iv (L.getD k [])) (by rfl) HML.out RA5.out (iv_one _) (by omega) (by omega) (by omega) ?_
                       intro v5 W5 hown5 hg5 hb5
                       have HE5 := HEnd.out _ _ hown5 hg5 hb5
                       obtain ⟨A5, c5, rfl⟩ := own_form hown5
                       obtain ⟨e1, e2, r0, r1, rf⟩ := HE5
                       have E1 := Lib.hid e1
                       have E2 := Lib.hid e2
                       have r3 := HA5.out _ hg5
                       clear hown5 hg5 hb5 e1 e2)
        all_goals
          obtain ⟨W6, hW6⟩ : ∃ W6 : World, W6 = W5.setCell ⟨g, k, none⟩ (.slice A5 (0 + m) c5) := ⟨_, rfl⟩
          rw [← hW6] at E1 E2
          have hfin : RefIs W6 (fun b => w.heap.size ≤ b) p (L.take (k + 1)) := by
            rw [take_snoc L k HKL.out]
            exact E1.out.wider (fun b _ hb => by rcases hb with hb | hb; exact hb; show w.heap.size ≤ b; omega)
          have hk6 : Keeps (fun _ => False) w W6 := HK3.out.trans E2.out (fun b hb h => absurd h (by omega))
          have HFin := Lib.hid hfin
          have HK6 := Lib.hid hk6
          (try simp only [Nat.zero_add] at hW6)
          (try rw [← hW6])
          clear hfin hk6 E1 E2 hW6 r0 r1 rf r3
          go_wp2
          go_roundw
          case rel => exact ⟨k + 1, by omega, by go_num, HOk.out, HFin.out, HK6.out⟩
          case measure => simp [intOf]; omega
    · obtain rfl : k = n := by omega
      have hd : decide (k < k) = false := by simp
      have hO : OkL L L.length := by rw [← HN.out]; exact hok
      have hH := hh.wider (T := fun b => w.heap.size ≤ b ∧ b < wr.heap.size) (fun b hb h => ⟨h, hb⟩)
      rw [List.take_of_length_le (by rw [← HN.out]; exact Nat.le_refl _)] at hH
      have HO := Lib.hid hO
      have HH := Lib.hid hH
      have KR := Lib.hid kr
      clear hO hH hok hh kr
      go_wp2
      exact bodyPost_ret (v := .tuple #[.pointer (some ⟨p, 0, none⟩), .bool true]) (by simp [results, Try.results22, go_sem]) rfl ⟨KR.out, .inl ⟨HO.out, p, rfl, HH.out⟩⟩

end Go.Proofs.Ytpighdioomjnmaa
