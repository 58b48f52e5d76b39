/-
 Layer 4: the document's example; what is short. Written by an AI agent.
 Layer 4: slots, one after the other (data). Written by an AI agent.
-/
import Derived.Test.YtbhpnioggpgbhaaGreatDoorMcbm
namespace Go.Proofs.YtbhpnioggpgbhaaGreatDoor
open Go Go.RowKit Go.Shelf
set_option linter.unusedVariables false
set_option linter.unusedSimpArgs false
def shNd : List Nd := [⟨1, 1, 1, [], []⟩, ⟨10, 1, 0, [97], [0]⟩, ⟨4, 1, 0, [97], []⟩, ⟨14, 1, 0, [], [2]⟩, ⟨18, 1, 0, [], [1, 3]⟩]
def shF : Fnc := ⟨[109, 97, 105, 110], 1, [], 0, 4⟩
def shB : Bl := .cons (.lt [97] (.ex (.int 1))) (.cons (.print (.var [97])) .nil)
def shL : List Tri := [⟨1, -1, 0⟩, ⟨0, 0, 0⟩, ⟨1, 0, 0⟩, ⟨0, -1, 0⟩, ⟨0, -1, 0⟩]
theorem sh_parse : allP 60 ({ data := #[102, 110, 32, 109, 97, 105, 110, 40, 41, 32, 123, 32, 108, 101, 116, 32, 97, 32, 61, 32, 49, 59, 32, 112, 114, 105, 110, 116, 32, 97, 59, 32, 125] } : ByteArray).data.toList = some (.inr (shNd, [shF])) := by kernel_rfl
theorem sh_wt : WT shNd [shF] [(shF, shB)] := ⟨rfl, fun p hp => by
 rw [List.mem_singleton.1 hp]
 refine ⟨⟨by decide, by decide, by decide, by decide, by decide⟩, fun q hq => (by cases hq), by decide, ?_⟩
 show WB 1 shB
 unfold shB WB WB WB WS
 exact ⟨⟨⟨by decide, by decide, by decide, by decide, by decide⟩, show (0 : Int) ≤ 1 ∧ (1 : Int) ≤ 9223372036854775807 by decide⟩, ⟨by decide, by decide, by decide, by decide, by decide⟩, trivial⟩, by kernel_rfl, ⟨rfl, trivial⟩⟩
theorem sh_ck : ckAll [shF] [(shF, shB)] = .ok ([1], shL) := by kernel_rfl
theorem sh_vis : visR (lookR 0 (vsL shL 3 shB 0 [])) = [⟨[97], 1, 0⟩] := by kernel_rfl
/-- What a program in memory is, for Visible. -/
theorem PrgR.open {w : World} {v : Value} {nd : List Nd} {fs : List Fnc} {L : List Tri} {ns : List Nat} (h : PrgR w v nd fs L ns) : ∃ A A' c c' T S F Z cT cS cF cZ, v = .agg #[.slice A nd.length c, .slice A' fs.length c', .slice T L.length cT, .slice S L.length cS, .slice F L.length cF, .slice Z ns.length cZ] ∧ PrB w nd fs L A A' T S F Z c c' cT cS cF cZ ns.length ∧ RdI w Z (ns.map fun n : Nat => (n : Int)) := by
 obtain ⟨A, A', c, c', T, S, F, Z, cT, cS, cF, cZ, rfl, h1, h2, h3, h4, h5, h6⟩ := h
 exact ⟨A, A', c, c', T, S, F, Z, cT, cS, cF, cZ, rfl, ⟨h1, h2, h3, h4, h5⟩, h6⟩
theorem PrB.keep {w w' : World} {nd : List Nd} {fs : List Fnc} {L : List Tri} {A A' T S F Z : Option Addr} {c c' cT cS cF cZ kz : Nat} (h : PrB w nd fs L A A' T S F Z c c' cT cS cF cZ kz) (k : Keeps (fun _ => False) w w') : PrB w' nd fs L A A' T S F Z c c' cT cS cF cZ kz :=
 ⟨h.tree.keep k, h.cap.keep k, h.rT.keep k (fun _ _ _ _ h => h), h.rS.keep k (fun _ _ _ _ h => h), h.rF.keep k (fun _ _ _ _ h => h)⟩
set_option maxRecDepth 100000 in
set_option maxHeartbeats 16000000 in
theorem short4_any (s : ByteArray) (w : World) : Calls Tryz.prog 10 #[.string s] w fun e w' => (∃ t : ByteArray, t.size ≤ 700 ∧ e = .returned (.string t)) ∧ w' = w := by
 by_cases h : 700 < s.size
 ·have hI : (700 : Int) < (s.size : Int) := by omega
  have hI2 : (700 : Int) ≤ (s.size : Int) := by omega
  have H := Lib.hid (show (s.extract 0 700).size ≤ 700 by rw [ByteArray.size_extract]; omega)
  clear h
  go_enter Tryz.func10, Tryz.ntmps10
  go_wp2
  go_ret
  exact ⟨⟨_, H.out, rfl⟩, rfl⟩
 ·have hI : ¬ (700 : Int) < (s.size : Int) := by omega
  have hd : decide ((700 : Int) < (s.size : Int)) = false := decide_eq_false hI
  go_enter Tryz.func10, Tryz.ntmps10
  go_wp2
  go_ret
  exact ⟨⟨s, by omega, rfl⟩, rfl⟩
set_option maxRecDepth 100000 in
set_option maxHeartbeats 16000000 in
theorem shown4_any (w : World) (he : ErrW w) : Calls Tryz.prog 9 #[] w fun e w' => e = .returned (.bool true) ∧ Keeps (fun _ => False) w w' := by
 have AC := Lib.hid (psrc_any { data := #[102, 110, 32, 109, 97, 105, 110, 40, 41, 32, 123, 32, 108, 101, 116, 32, 97, 32, 61, 32, 49, 59, 32, 112, 114, 105, 110, 116, 32, 97, 59, 32, 125] } (by decide) 60 (by omega) _ sh_parse [(shF, shB)] (fun nd fs h => by cases h; exact sh_wt) w he)
 clear he
 go_enter Tryz.func9, Tryz.ntmps9
 go_wp2_with fail
 refine AC.out.mono ?_
 rintro e w1 ⟨hr, k1⟩
 have hr : SrcOut shNd [shF] (ckAll [shF] [(shF, shB)]) e w1 := hr
 rw [sh_ck] at hr
 obtain ⟨v, rfl, hp⟩ := hr
 obtain ⟨A, A', c, c', T, S, F, Z, cT, cS, cF, cZ, rfl, hB, hZ⟩ := hp.open
 obtain ⟨tb, tq, hT, t2⟩ := hB.rT.get (k := 2) (by decide) (x := 1) rfl
 obtain ⟨sb, sq, hS, s1⟩ := hB.rS.get (k := 1) (by decide) (x := 0) rfl
 obtain ⟨zb, zq, hZ0, z0⟩ := hZ.get (k := 0) (by decide) (x := 1) rfl
 subst hT
 subst hS
 subst hZ0
 have HC : Hid (∀ w', Keeps (fun _ => False) w1 w' → Calls Tryz.prog 18 #[.agg #[.slice A 5 c, .slice A' 1 c', .slice (some ⟨tb, tq, none⟩) 5 cT, .slice (some ⟨sb, sq, none⟩) 5 cS, .slice F 5 cF, .slice (some ⟨zb, zq, none⟩) 1 cZ], .int .i64 3] w' fun e w'' => ∃ Av cv, e = .returned (.slice Av 1 cv) ∧ Keeps (fun _ => False) w' w'') := Lib.hid (fun w' k => by
  have h := pvis_any shNd [shF] shL A A' (some ⟨tb, tq, none⟩) (some ⟨sb, sq, none⟩) F (some ⟨zb, zq, none⟩) c c' cT cS cF cZ 1 w' (hB.keep k) (by decide) rfl (by decide) 3 3 rfl (by decide) ⟨0, -1, 0⟩ rfl 0 shF rfl rfl (by decide) shB 0 rfl ⟨[], [], by kernel_rfl, rfl⟩ (by decide)
  have ev : visR (lookR shF.ps.length (vsL shL 3 shB 0 (parV shF.ps 0))) = [⟨[97], 1, 0⟩] := sh_vis
  rw [ev] at h
  exact h.mono (fun e w'' ⟨Av, cv, h1, _, h3⟩ => ⟨Av, cv, h1, h3⟩))
 obtain ⟨w2, hw2⟩ : ∃ w2, w2 = w1.alloc (.cells #[.slice A 5 c, .slice A' 1 c', .slice (some ⟨tb, tq, none⟩) 5 cT, .slice (some ⟨sb, sq, none⟩) 5 cS, .slice F 5 cF, .slice (some ⟨zb, zq, none⟩) 1 cZ] 30) := ⟨_, rfl⟩
 have ka := Keeps.one w1 (.cells #[.slice A 5 c, .slice A' 1 c', .slice (some ⟨tb, tq, none⟩) 5 cT, .slice (some ⟨sb, sq, none⟩) 5 cS, .slice F 5 cF, .slice (some ⟨zb, zq, none⟩) 1 cZ] 30)
 obtain ⟨X, hX⟩ : ∃ X, X = w1.heap.size := ⟨_, rfl⟩
 have z : Loc w2 (fun _ => False) X [.slice A 5 c, .slice A' 1 c', .slice (some ⟨tb, tq, none⟩) 5 cT, .slice (some ⟨sb, sq, none⟩) 5 cS, .slice F 5 cF, .slice (some ⟨zb, zq, none⟩) 1 cZ] := by rw [hw2, hX]; exact Loc.new (R := fun _ => False) (fun h => h) [.slice A 5 c, .slice A' 1 c', .slice (some ⟨tb, tq, none⟩) 5 cT, .slice (some ⟨sb, sq, none⟩) 5 cS, .slice F 5 cF, .slice (some ⟨zb, zq, none⟩) 1 cZ] 30
 have e1 : shNd.length = 5 := rfl
 have e2 : ([shF] : List Fnc).length = 1 := rfl
 have e3 : (([1], shL) : List Nat × List Tri).2.length = 5 := rfl
 have e4 : (([1], shL) : List Nat × List Tri).1.length = 1 := rfl
 rw [e1, e2, e3, e4]
 have K1 := Lib.hid k1
 clear hp hB hZ e1 e2 e3 e4 AC k1
 go_upto_region 2 with fail
 rw [← hX]
 rw [← hw2] at ka ⊢
 have y0 := z.cells 0 _ rfl
 have y1 := z.cells 1 _ rfl
 have y2 := z.cells 2 _ rfl
 have y3 := z.cells 3 _ rfl
 have y4 := z.cells 4 _ rfl
 have y5 := z.cells 5 _ rfl
 have t2 := (ka.cell (cell_ltk t2) (fun h => h)).trans t2
 have s1 := (ka.cell (cell_ltk s1) (fun h => h)).trans s1
 have z0 := (ka.cell (cell_ltk z0) (fun h => h)).trans z0
 simp only [Nat.add_zero] at z0
 have NC := Lib.hid (HC.out _ ka)
 have K2 := Lib.hid (K1.out.trans ka (fun _ _ h => h))
 clear z ka hw2 hX HC K1
 go_wp2_with fail
 refine NC.out.mono ?_
 rintro e w3 ⟨Av, cv, rfl, k3⟩
 have K3 := Lib.hid (K2.out.trans k3 (fun _ _ h => h))
 clear NC k3 y0 y1 y2 y3 y4 y5 t2 s1 z0
 go_wp2_with fail
 go_ret
 exact ⟨rfl, K3.out⟩
end Go.Proofs.YtbhpnioggpgbhaaGreatDoor

namespace Go.Proofs.YtbhpnioggpgbhaaGreatDoor
set_option linter.unusedVariables false
set_option linter.unusedSimpArgs false
/-- Lets have slots, one after the other. -/
def nxt (f : Int) : List Nd → List Tri → Nat → Option Nat
 | [], [], n => some n
 | d :: ds, t :: ts, n => if d.k = 10 then (if t.s = (n : Int) ∧ t.f = f then nxt f ds ts (n + 1) else none) else nxt f ds ts n
 | _, _, _ => none
theorem nxt_app {f : Int} : ∀ (a : List Nd) (l : List Tri) (n m : Nat) (a' : List Nd) (l' : List Tri), nxt f a l n = some m → nxt f (a ++ a') (l ++ l') n = nxt f a' l' m
 | [], [], n, m, a', l', h => by cases h; rfl
 | d :: a, t :: l, n, m, a', l', h => by
  show (if d.k = 10 then (if t.s = (n : Int) ∧ t.f = f then nxt f (a ++ a') (l ++ l') (n + 1) else none) else nxt f (a ++ a') (l ++ l') n) = _
  unfold nxt at h
  split at h
  ·rename_i hk
   rw [if_pos hk]
   split at h
   ·rename_i hc
    rw [if_pos hc]
    exact nxt_app a l _ m a' l' h
   ·cases h
  ·rename_i hk
   rw [if_neg hk]
   exact nxt_app a l _ m a' l' h
 | [], _ :: _, n, m, a', l', h => by cases h
 | _ :: _, [], n, m, a', l', h => by cases h
theorem nxt_no {f : Int} {n : Nat} : ∀ (a : List Nd) (l : List Tri), (∀ d ∈ a, d.k ≠ 10) → a.length = l.length → nxt f a l n = some n
 | [], [], _, _ => rfl
 | d :: a, t :: l, h, e => by
  show (if d.k = 10 then (if t.s = (n : Int) ∧ t.f = f then nxt f a l (n + 1) else none) else nxt f a l n) = _
  rw [if_neg (h d (List.mem_cons_self ..))]
  exact nxt_no a l (fun x hx => h x (List.mem_cons_of_mem _ hx)) (by simpa using e)
 | [], _ :: _, _, e => by simp at e
 | _ :: _, [], _, e => by simp at e
theorem no_E : ∀ (e : Ex) (b : Nat), ∀ d ∈ flE e b, d.k ≠ 10 := by
 intro e
 induction e with
 | int n => intro b d hd; rw [List.mem_singleton.1 hd]; exact (by decide : (1 : Int) ≠ 10)
 | bool n => intro b d hd; rw [List.mem_singleton.1 hd]; exact (by decide : (2 : Int) ≠ 10)
 | text n => intro b d hd; rw [List.mem_singleton.1 hd]; exact (by decide : (3 : Int) ≠ 10)
 | var n => intro b d hd; rw [List.mem_singleton.1 hd]; exact (by decide : (4 : Int) ≠ 10)
 | index x a ih =>
  intro b d hd
  rcases List.mem_append.1 hd with hd | hd
  ·exact ih b d hd
  ·rw [List.mem_singleton.1 hd]; exact (by decide : (5 : Int) ≠ 10)
 | len a ih =>
  intro b d hd
  rcases List.mem_append.1 hd with hd | hd
  ·exact ih b d hd
  ·rw [List.mem_singleton.1 hd]; exact (by decide : (6 : Int) ≠ 10)
 | neg a ih =>
  intro b d hd
  rcases List.mem_append.1 hd with hd | hd
  ·exact ih b d hd
  ·rw [List.mem_singleton.1 hd]; exact (by decide : (7 : Int) ≠ 10)
 | not a ih =>
  intro b d hd
  rcases List.mem_append.1 hd with hd | hd
  ·exact ih b d hd
  ·rw [List.mem_singleton.1 hd]; exact (by decide : (8 : Int) ≠ 10)
 | bin x a c iha ihc =>
  intro b d hd
  rcases List.mem_append.1 hd with hd | hd
  ·rcases List.mem_append.1 hd with hd | hd
   ·exact iha b d hd
   ·exact ihc _ d hd
  ·rw [List.mem_singleton.1 hd]; exact (by decide : (9 : Int) ≠ 10)
theorem no_Es : ∀ (l : List Ex) (b : Nat), ∀ d ∈ flEs l b, d.k ≠ 10
 | [], b, d, hd => by cases hd
 | e :: l, b, d, hd => by
  rcases List.mem_append.1 hd with hd | hd
  ·exact no_E e b d hd
  ·exact no_Es l _ d hd
theorem no_R (r : Rt) (b : Nat) : ∀ d ∈ flR r b, d.k ≠ 10 := by
 cases r with
 | ex e => exact no_E e b
 | input => intro d hd; rw [List.mem_singleton.1 hd]; exact (by decide : (19 : Int) ≠ 10)
 | new a =>
  intro d hd
  rcases List.mem_append.1 hd with hd | hd
  ·exact no_E a b d hd
  ·rw [List.mem_singleton.1 hd]; exact (by decide : (20 : Int) ≠ 10)
 | call x l =>
  intro d hd
  rcases List.mem_append.1 hd with hd | hd
  ·exact no_Es l b d hd
  ·rw [List.mem_singleton.1 hd]; exact (by decide : (21 : Int) ≠ 10)
theorem nx_E {f fn : Int} {V : List Vb} {e : Ex} {b n : Nat} {r : Int × List Tri} (h : ckE fn V e b = .ok r) : nxt f (flE e b) r.2 n = some n := nxt_no _ _ (no_E e b) (by rw [flE_len, ck_lenE h])
theorem nx_R {fs : List Fnc} {f fn : Int} {V : List Vb} {e : Rt} {b n : Nat} {r : Int × List Tri} (h : ckR fs fn V e b = .ok r) : nxt f (flR e b) r.2 n = some n := nxt_no _ _ (no_R e b) (by rw [flR_len, ckR_len h])
theorem nx_one {f : Int} {d : Nd} {t : Tri} {n : Nat} (h : d.k ≠ 10) : nxt f [d] [t] n = some n := nxt_no _ _ (fun x hx => by rw [List.mem_singleton.1 hx]; exact h) rfl
mutual
theorem nx_S {fs : List Fnc} {fn ret : Int} : ∀ (s : Stm) (V : List Vb) (n b : Nat) (r : Blk), ckS fs fn ret s V n b = .ok r → nxt fn (flS s b) r.l n = some r.n
 | .lt x rr, V, n, b, r, h => by
  unfold ckS at h
  obtain ⟨q, h1, h2⟩ := bind_ok h
  split at h2
  ·cases h2
  split at h2
  ·cases h2
  split at h2
  ·cases h2
  cases h2
  unfold flS
  rw [nxt_app _ _ _ _ _ _ (nx_R h1)]
  unfold nxt
  rw [if_pos rfl, if_pos ⟨rfl, rfl⟩]
  rfl
 | .set x rr, V, n, b, r, h => by
  unfold ckS at h
  split at h
  ·cases h
  obtain ⟨q, h1, h2⟩ := bind_ok h
  split at h2
  ·cases h2
   unfold flS
   rw [nxt_app _ _ _ _ _ _ (nx_R h1)]
   exact nx_one (by show (11 : Int) ≠ 10; decide)
  ·cases h2
 | .put x a c, V, n, b, r, h => by
  unfold ckS at h
  split at h
  ·cases h
  obtain ⟨q, h1, h2⟩ := bind_ok h
  obtain ⟨u, h3, h4⟩ := bind_ok h2
  split at h4
  ·cases h4
   unfold flS
   rw [List.append_assoc, List.append_assoc, nxt_app _ _ _ _ _ _ (nx_E h1), nxt_app _ _ _ _ _ _ (nx_E h3)]
   exact nx_one (by show (12 : Int) ≠ 10; decide)
  ·cases h4
 | .doo x l, V, n, b, r, h => by
  unfold ckS at h
  obtain ⟨q, h1, h2⟩ := bind_ok h
  cases h2
  unfold flS
  rw [nxt_app _ _ _ _ _ _ (nx_R h1)]
  exact nx_one (by show (13 : Int) ≠ 10; decide)
 | .print a, V, n, b, r, h => by
  unfold ckS at h
  obtain ⟨q, h1, h2⟩ := bind_ok h
  split at h2
  ·cases h2
   unfold flS
   rw [nxt_app _ _ _ _ _ _ (nx_E h1)]
   exact nx_one (by show (14 : Int) ≠ 10; decide)
  ·cases h2
 | .ret0, V, n, b, r, h => by
  unfold ckS at h
  split at h
  ·cases h
   unfold flS
   exact nx_one (by show (17 : Int) ≠ 10; decide)
  ·cases h
 | .ret1 a, V, n, b, r, h => by
  unfold ckS at h
  split at h
  ·cases h
  obtain ⟨q, h1, h2⟩ := bind_ok h
  split at h2
  ·cases h2
   unfold flS
   rw [nxt_app _ _ _ _ _ _ (nx_E h1)]
   exact nx_one (by show (17 : Int) ≠ 10; decide)
  ·cases h2
 | .ifs c a, V, n, b, r, h => by
  unfold ckS at h
  obtain ⟨q, h1, h2⟩ := bind_ok h
  split at h2
  ·obtain ⟨u, h3, h4⟩ := bind_ok h2
   cases h4
   unfold flS
   simp only [List.append_assoc]
   rw [nxt_app _ _ _ _ _ _ (nx_E h1), nxt_app _ _ _ _ _ _ (nx_B a V n _ u h3), nxt_app _ _ _ _ _ _ (nx_one (by show (18 : Int) ≠ 10; decide))]
   exact nx_one (by show (15 : Int) ≠ 10; decide)
  ·cases h2
 | .ifelse c a e, V, n, b, r, h => by
  unfold ckS at h
  obtain ⟨q, h1, h2⟩ := bind_ok h
  split at h2
  ·obtain ⟨u, h3, h4⟩ := bind_ok h2
   obtain ⟨p, h5, h6⟩ := bind_ok h4
   cases h6
   unfold flS
   simp only [List.append_assoc]
   rw [nxt_app _ _ _ _ _ _ (nx_E h1), nxt_app _ _ _ _ _ _ (nx_B a V n _ u h3), nxt_app _ _ _ _ _ _ (nx_one (by show (18 : Int) ≠ 10; decide)), nxt_app _ _ _ _ _ _ (nx_B e V u.n _ p h5), nxt_app _ _ _ _ _ _ (nx_one (by show (18 : Int) ≠ 10; decide))]
   exact nx_one (by show (15 : Int) ≠ 10; decide)
  ·cases h2
 | .whil c a, V, n, b, r, h => by
  unfold ckS at h
  obtain ⟨q, h1, h2⟩ := bind_ok h
  split at h2
  ·obtain ⟨u, h3, h4⟩ := bind_ok h2
   cases h4
   unfold flS
   simp only [List.append_assoc]
   rw [nxt_app _ _ _ _ _ _ (nx_E h1), nxt_app _ _ _ _ _ _ (nx_B a V n _ u h3), nxt_app _ _ _ _ _ _ (nx_one (by show (18 : Int) ≠ 10; decide))]
   exact nx_one (by show (16 : Int) ≠ 10; decide)
  ·cases h2
theorem nx_B {fs : List Fnc} {fn ret : Int} : ∀ (l : Bl) (V : List Vb) (n b : Nat) (r : Blk), ckB fs fn ret l V n b = .ok r → nxt fn (flB l b) r.l n = some r.n
 | .nil, V, n, b, r, h => by unfold ckB at h; cases h; unfold flB; rfl
 | .cons s l, V, n, b, r, h => by
  unfold ckB at h
  obtain ⟨q, h1, h2⟩ := bind_ok h
  obtain ⟨u, h3, h4⟩ := bind_ok h2
  cases h4
  unfold flB
  rw [nxt_app _ _ _ _ _ _ (nx_S s V n b q h1)]
  exact nx_B l q.v q.n _ u h3
end
/-- The next slots of all functions. -/
def nxV : List Nd → List Tri → List Int → Option (List Int)
 | [], [], x => some x
 | d :: ds, t :: ts, x => if d.k = 10 then (if 0 ≤ t.f ∧ x[t.f.toNat]? = some t.s then nxV ds ts (x.set t.f.toNat (t.s + 1)) else none) else nxV ds ts x
 | _, _, _ => none
theorem nxt_V (i : Nat) : ∀ (a : List Nd) (l : List Tri) (n m : Nat) (a' : List Nd) (l' : List Tri) (x : List Int), nxt (i : Int) a l n = some m → x[i]? = some (n : Int) → nxV (a ++ a') (l ++ l') x = nxV a' l' (x.set i (m : Int))
 | [], [], n, m, a', l', x, h, hx => by
  cases h
  rw [set_same _ _ _ hx]
  rfl
 | d :: a, t :: l, n, m, a', l', x, h, hx => by
  show (if d.k = 10 then (if 0 ≤ t.f ∧ x[t.f.toNat]? = some t.s then nxV (a ++ a') (l ++ l') (x.set t.f.toNat (t.s + 1)) else none) else nxV (a ++ a') (l ++ l') x) = _
  unfold nxt at h
  split at h
  ·rename_i hk
   rw [if_pos hk]
   split at h
   ·rename_i hc
    have hf : t.f.toNat = i := by rw [hc.2, Int.toNat_natCast]
    rw [hf, hc.1, hc.2, if_pos ⟨by omega, hx⟩]
    have hl := (List.getElem?_eq_some_iff.1 hx).1
    rw [nxt_V i a l (n + 1) m a' l' _ h (by rw [List.getElem?_set, if_pos rfl, if_pos hl]; rfl), List.set_set]
   ·cases h
  ·rename_i hk
   rw [if_neg hk]
   exact nxt_V i a l n m a' l' x h hx
 | [], _ :: _, n, m, a', l', x, h, hx => by cases h
 | _ :: _, [], n, m, a', l', x, h, hx => by cases h
theorem nxV_T {fs : List Fnc} : ∀ (l : List (Fnc × Bl)) (i b : Nat) (r : List Nat × List Tri) (x : List Int), ckT fs l i b = .ok r → x.length = i + l.length → (∀ j p, l[j]? = some p → x[i + j]? = some (p.1.ps.length : Int)) → nxV (flT l b) r.2 x = some (ovr x i (r.1.map fun n : Nat => (n : Int)))
 | [], i, b, r, x, h, hl, hx => by cases h; show some x = some (ovr x i []); rw [ovr_nil]
 | p :: l, i, b, r, x, h, hl, hx => by
  unfold ckT at h
  obtain ⟨V, h1, h2⟩ := bind_ok h
  obtain ⟨q, h3, h4⟩ := bind_ok h2
  obtain ⟨u, h5, h6⟩ := bind_ok h4
  cases h6
  have hVl : V.length = p.1.ps.length := by
   have : ∀ (bd : Int) (l : List (List UInt8 × Int)) (V W : List Vb), ckPs bd l V = .ok W → W.length = V.length + l.length := by
    intro bd l
    induction l with
    | nil => intro V W h; cases h; rfl
    | cons p l ih =>
     intro V W h
     unfold ckPs at h
     split at h
     ·cases h
     ·rw [ih _ _ h, List.length_append]
      show V.length + 1 + l.length = V.length + (l.length + 1)
      omega
   rw [this _ _ _ _ h1]
   show 0 + _ = _
   omega
  have hx0 : x[i]? = some (V.length : Int) := by rw [hVl]; exact hx 0 p rfl
  have hi : i < x.length := (List.getElem?_eq_some_iff.1 hx0).1
  have hk := nx_B p.2 V V.length b q h3
  have hk2 : nxt (i : Int) (flK p.2 b) (q.l ++ [⟨0, -1, (i : Int)⟩]) V.length = some q.n := by
   unfold flK
   rw [nxt_app _ _ _ _ _ _ hk]
   exact nx_one (by show (18 : Int) ≠ 10; decide)
  show nxV (flK p.2 b ++ flT l (b + kB p.2 + 1)) ((q.l ++ [⟨0, -1, (i : Int)⟩]) ++ u.2) x = _
  rw [nxt_V i _ _ _ _ _ _ x hk2 hx0, nxV_T l (i + 1) (b + kB p.2 + 1) u (x.set i (q.n : Int)) h5 (by rw [List.length_set, hl]; show i + (l.length + 1) = _; omega) (fun j p' hj => by
   rw [get_set_ne _ _ _ _ (by omega), show i + 1 + j = i + (j + 1) by omega]
   exact hx (j + 1) p' hj)]
  have hul := (ckT_len0 l (i + 1) _ u h5)
  have e5 : x.set i (q.n : Int) = ovr x i [(q.n : Int)] := by
   have := ovr_set x i i [] (q.n : Int) rfl hi
   rw [ovr_nil] at this
   exact this
  rw [e5]
  have := ovr_ovr x i [(q.n : Int)] (u.1.map (fun n : Nat => (n : Int))) (by rw [List.length_map, hul, hl]; show i + 1 + l.length ≤ i + (l.length + 1); omega)
  exact congrArg some this
where
 ckT_len0 {fs : List Fnc} : ∀ (l : List (Fnc × Bl)) (i b : Nat) (r : List Nat × List Tri), ckT fs l i b = .ok r → r.1.length = l.length
  | [], i, b, r, h => by cases h; rfl
  | p :: l, i, b, r, h => by
   unfold ckT at h
   obtain ⟨V, h1, h2⟩ := bind_ok h
   obtain ⟨u, h3, h4⟩ := bind_ok h2
   obtain ⟨x, h5, h6⟩ := bind_ok h4
   have := ckT_len0 l _ _ x h5
   cases h6
   show x.1.length + 1 = l.length + 1
   rw [this]
theorem nxV_uz : ∀ (a : List Nd) (l : List Tri) (x : List Int), nxV (a.map uz) l x = nxV a l x
 | [], [], x => rfl
 | [], _ :: _, x => rfl
 | _ :: _, [], x => rfl
 | d :: a, t :: l, x => by
  show (if d.k = 10 then (if 0 ≤ t.f ∧ x[t.f.toNat]? = some t.s then nxV (a.map uz) l (x.set t.f.toNat (t.s + 1)) else none) else nxV (a.map uz) l x) = (if d.k = 10 then (if 0 ≤ t.f ∧ x[t.f.toNat]? = some t.s then nxV a l (x.set t.f.toNat (t.s + 1)) else none) else nxV a l x)
  rw [nxV_uz a l, nxV_uz a l]
/-- Sizes of a program. -/
theorem nx_all {nd : List Nd} {fs : List Fnc} {ps : List (Fnc × Bl)} (hW : WT nd fs ps) {x : List Nat × List Tri} (h : ckAll fs ps = .ok x) : nxV nd x.2 (fs.map fun f => (f.ps.length : Int)) = some (x.1.map fun n : Nat => (n : Int)) ∧ x.1.length = fs.length ∧ x.2.length = nd.length := by
 have hlen : nd.length = kT ps := by rw [← flT_len ps 0, ← hW.nds, List.length_map]
 unfold ckAll at h
 split at h
 ·cases h
 ·split at h
  ·have h0 := nxV_T ps 0 0 x (fs.map fun f => (f.ps.length : Int)) h (by rw [List.length_map, hW.fns, List.length_map, Nat.zero_add]) (fun j p hj => by
    rw [Nat.zero_add, List.getElem?_map, hW.fns, List.getElem?_map, hj]
    rfl)
   have h1 := nxV_T.ckT_len0 ps 0 0 x h
   rw [← hW.nds, nxV_uz] at h0
   refine ⟨?_, by rw [h1, hW.fns, List.length_map], ?_⟩
   ·rw [h0]
    unfold ovr
    rw [List.take_zero, List.nil_append, Nat.zero_add, List.length_map, h1, hW.fns, List.map_map]
    rw [List.drop_of_length_le (by rw [List.length_map]; exact Nat.le_refl _), List.append_nil]
   ·obtain ⟨_, h2⟩ := ckT_len' ps 0 0 x h
    rw [h2, hlen]
  ·cases h
where
 ckT_len' {fs : List Fnc} : ∀ (l : List (Fnc × Bl)) (i b : Nat) (r : List Nat × List Tri), ckT fs l i b = .ok r → r.1.length = l.length ∧ r.2.length = kT l
  | [], i, b, r, h => by cases h; exact ⟨rfl, rfl⟩
  | p :: l, i, b, r, h => by
   unfold ckT at h
   obtain ⟨V, h1, h2⟩ := bind_ok h
   obtain ⟨u, h3, h4⟩ := bind_ok h2
   obtain ⟨x, h5, h6⟩ := bind_ok h4
   obtain ⟨i1, i2⟩ := ckT_len' l _ _ x h5
   have hk := ckB_ok p.2 _ _ _ u h3
   cases h6
   refine ⟨by show x.1.length + 1 = l.length + 1; rw [i1], ?_⟩
   show (u.l ++ [_] ++ x.2).length = kB p.2 + 1 + kT l
   rw [List.length_append, List.length_append, hk.l, i2]
   rfl
end Go.Proofs.YtbhpnioggpgbhaaGreatDoor
