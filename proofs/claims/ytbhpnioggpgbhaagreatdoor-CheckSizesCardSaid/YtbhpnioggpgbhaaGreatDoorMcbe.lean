/-
 Layer 4: tells as contracts: call, statements. Written by an AI agent.
 Layer 4: tells as contracts: set, put, a call as a statement. Written by an AI agent.
 Layer 4: tells as contracts: a call as a statement, return. Written by an AI agent.
 Layer 4: what is kept of each node of a program (data). Written by an AI agent.
 Layer 4: what the checker keeps, as an update of rows; expressions. Written by an AI agent.
-/
import Derived.Test.YtbhpnioggpgbhaaGreatDoorMcbd
namespace Go.Proofs.YtbhpnioggpgbhaaGreatDoor
open Go Go.RowKit Go.Shelf
set_option linter.unusedVariables false
set_option linter.unusedSimpArgs false
section
variable {q : CkQ} {nd : List Nd} {fs : List Fnc} {w0 : World}
theorem tl_call (n : Int) (x : List UInt8) (l : List Int) (s : CkS) (hV : s.V.length ≤ 1000) (hk6 : fs.length ≤ 1000) (F : Fnc) (hv : lookF fs x = some F) (hp6 : F.ps.length ≤ 1000) (hm6 : l.length ≤ 1000000) (ts : List Int) (hts : ts.length = l.length) (hb : ∀ k, k < l.length → ∃ i : Nat, l[k]? = some (i : Int) ∧ i < q.m ∧ s.ty[i]? = ts[k]?) (z1 z2 : Int) (hz : (z1, z2) = if l.length ≠ F.ps.length then (0, 43) else if ts = F.ps.map Prod.snd then (F.ret, 0) else (0, 42)) : TlC q nd fs w0 21 n x l s z1 z2 := by
 intro w R ln a c hck hro
 obtain ⟨SO, ot, os, bk, hfv, hot⟩ := findV_form s.V x
 exact tells_call hck ln n x a l.length c hV SO ot os bk hfv hk6 F hv hp6 l rfl hm6 hro ts hts hb z1 z2 hz
theorem below_at {s : CkS} {R : Nat → Prop} {w : World} {l : List Int} {a : Option Addr} {c PC PN : Nat} (hck : Ck w q nd fs w0 R s) (hro : RdI w0 a l) (h1 : w.cell? ⟨PC, 0, none⟩ = some (.pointer (some ⟨q.P, 0, none⟩))) (h2 : w.cell? ⟨PN, 4, none⟩ = some (.slice a l.length c)) (k i : Nat) (hlk : l[k]? = some (i : Int)) (him : i < q.m) (t : Int) (hti : s.ty[i]? = some t) :
  Hid (∀ w', Keeps (fun _ => False) w w' → Calls Tryz.prog 128 #[.int .i64 k, .pointer (some ⟨PC, 0, none⟩), .pointer (some ⟨PN, 0, none⟩)] w' fun e w'' => e = .returned (.int .i64 t) ∧ Keeps (fun _ => False) w' w'') :=
 Lib.hid (fun w' kk => pbelow_any (hck.keep kk) PC PN a l.length c ((kk.cell (cell_ltk h1) (fun h => h)).trans h1) ((kk.cell (cell_ltk h2) (fun h => h)).trans h2) l rfl hro k i hlk him t hti)
theorem tl_let (n : Int) (x : List UInt8) (l : List Int) (s : CkS) (hV : s.V.length ≤ 1000) (i0 : Nat) (hl0 : l[0]? = some (i0 : Int)) (him0 : i0 < q.m) (t0 : Int) (ht0 : s.ty[i0]? = some t0) : TlC q nd fs w0 10 n x l s 0 (if t0 ≠ 0 then 0 else 42) := by
 intro w R ln a c hck hro
 obtain ⟨SO, ot, os, bk, hfv, hot⟩ := findV_form s.V x
 by_cases h : t0 ≠ 0
 ·have e : (t0 != 0) = true := by simpa using h
  rw [if_pos h]
  refine tells_st_ok hck ln n x a l.length c hV SO ot os bk hfv 10 ⟨by decide, by decide, by decide, by decide, by decide, by decide, by decide, by decide, by decide, by decide, by decide, by decide⟩ (fun PC PN w' hc h1 h2 => ?_)
  rw [← e]
  exact done_let q.P w' ln n (ofL x) a l.length c SO ot os PC PN t0 0 (below_at hc hro h1 h2 0 i0 hl0 him0 t0 ht0)
 ·have e : (t0 != 0) = false := by simpa using h
  rw [if_neg h]
  refine tells_st_no hck ln n x a l.length c hV SO ot os bk hfv 10 ⟨by decide, by decide, by decide, by decide, by decide, by decide, by decide, by decide, by decide, by decide, by decide, by decide⟩ (fun PC PN w' hc h1 h2 => ?_)
  rw [← e]
  exact done_let q.P w' ln n (ofL x) a l.length c SO ot os PC PN t0 0 (below_at hc hro h1 h2 0 i0 hl0 him0 t0 ht0)
theorem tl_print (n : Int) (x : List UInt8) (l : List Int) (s : CkS) (hV : s.V.length ≤ 1000) (i0 : Nat) (hl0 : l[0]? = some (i0 : Int)) (him0 : i0 < q.m) (t0 : Int) (ht0 : s.ty[i0]? = some t0) : TlC q nd fs w0 14 n x l s 0 (if t0 ≠ 4 then 0 else 42) := by
 intro w R ln a c hck hro
 obtain ⟨SO, ot, os, bk, hfv, hot⟩ := findV_form s.V x
 by_cases h : t0 ≠ 4
 ·have e : (t0 != 4) = true := by simpa using h
  rw [if_pos h]
  refine tells_st_ok hck ln n x a l.length c hV SO ot os bk hfv 14 ⟨by decide, by decide, by decide, by decide, by decide, by decide, by decide, by decide, by decide, by decide, by decide, by decide⟩ (fun PC PN w' hc h1 h2 => ?_)
  rw [← e]
  exact done_print q.P w' ln n (ofL x) a l.length c SO ot os PC PN t0 0 (below_at hc hro h1 h2 0 i0 hl0 him0 t0 ht0)
 ·have e : (t0 != 4) = false := by simpa using h
  rw [if_neg h]
  refine tells_st_no hck ln n x a l.length c hV SO ot os bk hfv 14 ⟨by decide, by decide, by decide, by decide, by decide, by decide, by decide, by decide, by decide, by decide, by decide, by decide⟩ (fun PC PN w' hc h1 h2 => ?_)
  rw [← e]
  exact done_print q.P w' ln n (ofL x) a l.length c SO ot os PC PN t0 0 (below_at hc hro h1 h2 0 i0 hl0 him0 t0 ht0)
theorem tl_if (n : Int) (x : List UInt8) (l : List Int) (s : CkS) (hV : s.V.length ≤ 1000) (i0 : Nat) (hl0 : l[0]? = some (i0 : Int)) (him0 : i0 < q.m) (t0 : Int) (ht0 : s.ty[i0]? = some t0) : TlC q nd fs w0 15 n x l s 0 (if t0 = 2 then 0 else 42) := by
 intro w R ln a c hck hro
 obtain ⟨SO, ot, os, bk, hfv, hot⟩ := findV_form s.V x
 by_cases h : t0 = 2
 ·have e : (t0 == 2) = true := by simpa using h
  rw [if_pos h]
  refine tells_st_ok hck ln n x a l.length c hV SO ot os bk hfv 15 ⟨by decide, by decide, by decide, by decide, by decide, by decide, by decide, by decide, by decide, by decide, by decide, by decide⟩ (fun PC PN w' hc h1 h2 => ?_)
  rw [← e]
  exact done_if q.P w' ln n (ofL x) a l.length c SO ot os PC PN t0 0 (below_at hc hro h1 h2 0 i0 hl0 him0 t0 ht0)
 ·have e : (t0 == 2) = false := by simpa using h
  rw [if_neg h]
  refine tells_st_no hck ln n x a l.length c hV SO ot os bk hfv 15 ⟨by decide, by decide, by decide, by decide, by decide, by decide, by decide, by decide, by decide, by decide, by decide, by decide⟩ (fun PC PN w' hc h1 h2 => ?_)
  rw [← e]
  exact done_if q.P w' ln n (ofL x) a l.length c SO ot os PC PN t0 0 (below_at hc hro h1 h2 0 i0 hl0 him0 t0 ht0)
theorem tl_whil (n : Int) (x : List UInt8) (l : List Int) (s : CkS) (hV : s.V.length ≤ 1000) (i0 : Nat) (hl0 : l[0]? = some (i0 : Int)) (him0 : i0 < q.m) (t0 : Int) (ht0 : s.ty[i0]? = some t0) : TlC q nd fs w0 16 n x l s 0 (if t0 = 2 then 0 else 42) := by
 intro w R ln a c hck hro
 obtain ⟨SO, ot, os, bk, hfv, hot⟩ := findV_form s.V x
 by_cases h : t0 = 2
 ·have e : (t0 == 2) = true := by simpa using h
  rw [if_pos h]
  refine tells_st_ok hck ln n x a l.length c hV SO ot os bk hfv 16 ⟨by decide, by decide, by decide, by decide, by decide, by decide, by decide, by decide, by decide, by decide, by decide, by decide⟩ (fun PC PN w' hc h1 h2 => ?_)
  rw [← e]
  exact done_whil q.P w' ln n (ofL x) a l.length c SO ot os PC PN t0 0 (below_at hc hro h1 h2 0 i0 hl0 him0 t0 ht0)
 ·have e : (t0 == 2) = false := by simpa using h
  rw [if_neg h]
  refine tells_st_no hck ln n x a l.length c hV SO ot os bk hfv 16 ⟨by decide, by decide, by decide, by decide, by decide, by decide, by decide, by decide, by decide, by decide, by decide, by decide⟩ (fun PC PN w' hc h1 h2 => ?_)
  rw [← e]
  exact done_whil q.P w' ln n (ofL x) a l.length c SO ot os PC PN t0 0 (below_at hc hro h1 h2 0 i0 hl0 him0 t0 ht0)
end
end Go.Proofs.YtbhpnioggpgbhaaGreatDoor

namespace Go.Proofs.YtbhpnioggpgbhaaGreatDoor
open Go Go.RowKit Go.Shelf
set_option linter.unusedVariables false
set_option linter.unusedSimpArgs false
section
variable {q : CkQ} {nd : List Nd} {fs : List Fnc} {w0 : World}
theorem tl_set (n : Int) (x : List UInt8) (l : List Int) (s : CkS) (hV : s.V.length ≤ 1000) (v : Vb) (hv : lookV s.V x = some v) (i0 : Nat) (hl0 : l[0]? = some (i0 : Int)) (him0 : i0 < q.m) (t0 : Int) (ht0 : s.ty[i0]? = some t0) : TlC q nd fs w0 11 n x l s 0 (if t0 = v.t then 0 else 42) := by
 intro w R ln a c hck hro
 obtain ⟨SO, ot, os, bk, hfv, hot⟩ := findV_form s.V x
 rw [← hot v hv]
 by_cases h : t0 = ot
 ·have e : (t0 == ot) = true := by simpa using h
  rw [if_pos h]
  refine tells_st_ok hck ln n x a l.length c hV SO ot os bk hfv 11 ⟨by decide, by decide, by decide, by decide, by decide, by decide, by decide, by decide, by decide, by decide, by decide, by decide⟩ (fun PC PN w' hc h1 h2 => ?_)
  rw [← e]
  exact done_set q.P w' ln n (ofL x) a l.length c SO ot os PC PN t0 0 (below_at hc hro h1 h2 0 i0 hl0 him0 t0 ht0)
 ·have e : (t0 == ot) = false := by simpa using h
  rw [if_neg h]
  refine tells_st_no hck ln n x a l.length c hV SO ot os bk hfv 11 ⟨by decide, by decide, by decide, by decide, by decide, by decide, by decide, by decide, by decide, by decide, by decide, by decide⟩ (fun PC PN w' hc h1 h2 => ?_)
  rw [← e]
  exact done_set q.P w' ln n (ofL x) a l.length c SO ot os PC PN t0 0 (below_at hc hro h1 h2 0 i0 hl0 him0 t0 ht0)
theorem tl_put (n : Int) (x : List UInt8) (l : List Int) (s : CkS) (hV : s.V.length ≤ 1000) (v : Vb) (hv : lookV s.V x = some v) (i0 : Nat) (hl0 : l[0]? = some (i0 : Int)) (him0 : i0 < q.m) (t0 : Int) (ht0 : s.ty[i0]? = some t0) (i1 : Nat) (hl1 : l[1]? = some (i1 : Int)) (him1 : i1 < q.m) (t1 : Int) (ht1 : s.ty[i1]? = some t1) : TlC q nd fs w0 12 n x l s 0 (if v.t = 4 ∧ t0 = 1 ∧ t1 = 1 then 0 else 42) := by
 intro w R ln a c hck hro
 obtain ⟨SO, ot, os, bk, hfv, hot⟩ := findV_form s.V x
 rw [← hot v hv]
 by_cases h4 : ot = 4
 ·by_cases h5 : t0 = 1
  ·by_cases h6 : t1 = 1
   ·have e : (t1 == 1) = true := by simpa using h6
    rw [if_pos ⟨h4, h5, h6⟩]
    refine tells_st_ok hck ln n x a l.length c hV SO ot os bk hfv 12 ⟨by decide, by decide, by decide, by decide, by decide, by decide, by decide, by decide, by decide, by decide, by decide, by decide⟩ (fun PC PN w' hc h1 h2 => ?_)
    rw [← e]
    exact done_put2 q.P w' ln n (ofL x) a l.length c SO ot os PC PN t0 t1 (below_at hc hro h1 h2 0 i0 hl0 him0 t0 ht0) (below_at hc hro h1 h2 1 i1 hl1 him1 t1 ht1) (by simpa using h4) (by simpa using h5)
   ·have e : (t1 == 1) = false := by simpa using h6
    rw [if_neg (fun h => h6 h.2.2)]
    refine tells_st_no hck ln n x a l.length c hV SO ot os bk hfv 12 ⟨by decide, by decide, by decide, by decide, by decide, by decide, by decide, by decide, by decide, by decide, by decide, by decide⟩ (fun PC PN w' hc h1 h2 => ?_)
    rw [← e]
    exact done_put2 q.P w' ln n (ofL x) a l.length c SO ot os PC PN t0 t1 (below_at hc hro h1 h2 0 i0 hl0 him0 t0 ht0) (below_at hc hro h1 h2 1 i1 hl1 him1 t1 ht1) (by simpa using h4) (by simpa using h5)
  ·rw [if_neg (fun h => h5 h.2.1)]
   refine tells_st_no hck ln n x a l.length c hV SO ot os bk hfv 12 ⟨by decide, by decide, by decide, by decide, by decide, by decide, by decide, by decide, by decide, by decide, by decide, by decide⟩ (fun PC PN w' hc h1 h2 => ?_)
   exact done_put1 q.P w' ln n (ofL x) a l.length c SO ot os PC PN t0 t1 (below_at hc hro h1 h2 0 i0 hl0 him0 t0 ht0) (below_at hc hro h1 h2 1 i1 hl1 him1 t1 ht1) (by simpa using h4) (by simpa using h5)
 ·rw [if_neg (fun h => h4 h.1)]
  refine tells_st_no hck ln n x a l.length c hV SO ot os bk hfv 12 ⟨by decide, by decide, by decide, by decide, by decide, by decide, by decide, by decide, by decide, by decide, by decide, by decide⟩ (fun PC PN w' hc h1 h2 => ?_)
  exact done_put0 q.P w' ln n (ofL x) a l.length c SO ot os PC PN t0 t1 (below_at hc hro h1 h2 0 i0 hl0 him0 t0 ht0) (below_at hc hro h1 h2 1 i1 hl1 him1 t1 ht1) (by simpa using h4)
end
end Go.Proofs.YtbhpnioggpgbhaaGreatDoor

namespace Go.Proofs.YtbhpnioggpgbhaaGreatDoor
open Go Go.RowKit Go.Shelf
set_option linter.unusedVariables false
set_option linter.unusedSimpArgs false
section
variable {q : CkQ} {nd : List Nd} {fs : List Fnc} {w0 : World}
theorem tl_doo (n : Int) (x : List UInt8) (l : List Int) (s : CkS) (hV : s.V.length ≤ 1000) : TlC q nd fs w0 13 n x l s 0 0 := by
 intro w R ln a c hck hro
 obtain ⟨SO, ot, os, bk, hfv, hot⟩ := findV_form s.V x
 exact tells_st_ok hck ln n x a l.length c hV SO ot os bk hfv 13 ⟨by decide, by decide, by decide, by decide, by decide, by decide, by decide, by decide, by decide, by decide, by decide, by decide⟩ (fun PC PN w' hc h1 h2 => done_doo q.P w' ln n (ofL x) a l.length c SO ot os PC PN 0 0)
theorem tl_ret0 (n : Int) (x : List UInt8) (s : CkS) (hV : s.V.length ≤ 1000) : TlC q nd fs w0 17 n x [] s 0 0 := by
 intro w R ln a c hck hro
 obtain ⟨SO, ot, os, bk, hfv, hot⟩ := findV_form s.V x
 exact tells_st_ok hck ln n x a 0 c hV SO ot os bk hfv 17 ⟨by decide, by decide, by decide, by decide, by decide, by decide, by decide, by decide, by decide, by decide, by decide, by decide⟩ (fun PC PN w' hc h1 h2 => done_ret0 q.P w' ln n (ofL x) a 0 c SO ot os PC PN 0 0 rfl)
theorem tl_ret1 (n : Int) (x : List UInt8) (l : List Int) (s : CkS) (hV : s.V.length ≤ 1000) (f : Nat) (F : Fnc) (hfn : s.fn = (f : Int)) (hF : fs[f]? = some F) (i0 : Nat) (hl0 : l[0]? = some (i0 : Int)) (him0 : i0 < q.m) (t0 : Int) (ht0 : s.ty[i0]? = some t0) : TlC q nd fs w0 17 n x l s 0 (if t0 = F.ret then 0 else 42) := by
 intro w R ln a c hck hro
 obtain ⟨SO, ot, os, bk, hfv, hot⟩ := findV_form s.V x
 have hm : 0 < l.length := by
  cases l with
  | nil => cases hl0
  | cons _ _ => exact Nat.succ_pos _
 obtain ⟨hfl, hfe⟩ := List.getElem?_eq_some_iff.1 hF
 have fcts : ∀ w', Ck w' q nd fs w0 R s → ∃ fb fo, w'.cell? ⟨q.P, 1, none⟩ = some (.slice (some ⟨fb, fo, none⟩) q.k q.c') ∧ w'.cell? ⟨q.P, 7, none⟩ = some (.int .i64 f) ∧ w'.cell? ⟨fb, fo + f * 5 + 3, none⟩ = some (.int .i64 F.ret) ∧ f < q.k := by
  rintro w' ⟨v, hx⟩
  obtain ⟨fb, fo, hA, hc⟩ := hx.tree.fnAt (by omega)
  obtain ⟨fa, fc, d0, d1, d2, d3, d4, d5⟩ := hc f hfl
  rw [hfe] at d3
  refine ⟨fb, fo, ?_, ?_, (hx.up.cell (cell_ltk d3) (by have := cell_ltk d3; omega)).trans d3, by rw [hx.hk]; exact hfl⟩
  ·rw [← hA]; exact hx.c1
  ·rw [← hfn]; exact hx.c7
 by_cases h : t0 = F.ret
 ·have e : (t0 == F.ret) = true := by simpa using h
  rw [if_pos h]
  refine tells_st_ok hck ln n x a l.length c hV SO ot os bk hfv 17 ⟨by decide, by decide, by decide, by decide, by decide, by decide, by decide, by decide, by decide, by decide, by decide, by decide⟩ (fun PC PN w' hc h1 h2 => ?_)
  obtain ⟨fb, fo, c1, c7, d3, hf⟩ := fcts w' hc
  rw [← e]
  exact done_ret1 q.P w' ln n (ofL x) a l.length c SO ot os PC PN t0 0 (below_at hc hro h1 h2 0 i0 hl0 him0 t0 ht0) hm fb fo q.k q.c' f F.ret c1 c7 d3 hf
 ·have e : (t0 == F.ret) = false := by simpa using h
  rw [if_neg h]
  refine tells_st_no hck ln n x a l.length c hV SO ot os bk hfv 17 ⟨by decide, by decide, by decide, by decide, by decide, by decide, by decide, by decide, by decide, by decide, by decide, by decide⟩ (fun PC PN w' hc h1 h2 => ?_)
  obtain ⟨fb, fo, c1, c7, d3, hf⟩ := fcts w' hc
  rw [← e]
  exact done_ret1 q.P w' ln n (ofL x) a l.length c SO ot os PC PN t0 0 (below_at hc hro h1 h2 0 i0 hl0 him0 t0 ht0) hm fb fo q.k q.c' f F.ret c1 c7 d3 hf
end
end Go.Proofs.YtbhpnioggpgbhaaGreatDoor

namespace Go.Proofs.YtbhpnioggpgbhaaGreatDoor
set_option linter.unusedVariables false
set_option linter.unusedSimpArgs false
theorem bind_ok {α β : Type} {m : CR α} {f : α → CR β} {r : β} (h : m.bind f = .ok r) : ∃ a, m = .ok a ∧ f a = .ok r := by
 cases m with
 | error e => cases h
 | ok a => exact ⟨a, rfl, h⟩
theorem lookF_mem {fs : List Fnc} {x : List UInt8} {f : Fnc} (h : lookF fs x = some f) : f ∈ fs := List.mem_of_find?_eq_some h
theorem need_ok {fn : Int} {c : Prop} [Decidable c] {at_ : Nat} {t s : Int} {l : List Tri} {r : Int × List Tri} (h : needT fn c at_ t l s = .ok r) : c ∧ r = (t, l ++ [⟨t, s, fn⟩]) := by
 unfold needT at h
 split at h
 ·rename_i hc
  exact ⟨hc, (Except.ok.inj h).symm⟩
 ·cases h
end Go.Proofs.YtbhpnioggpgbhaaGreatDoor

namespace Go.Proofs.YtbhpnioggpgbhaaGreatDoor
open Go Go.RowKit Go.Shelf
set_option linter.unusedVariables false
set_option linter.unusedSimpArgs false
def upd (s : CkS) (b : Nat) (l : List Tri) : CkS := { s with ty := ovr s.ty b (l.map Tri.t), sl := ovr s.sl b (l.map Tri.s), ff := ovr s.ff b (l.map Tri.f) }
def rsE (s : CkS) (b : Nat) : CR (Int × List Tri) → RS
 | .ok r => .ok (upd s b r.2)
 | .error z => .error (z.1, (z.2 : Int))
/-- A checker whose nodes of a range are as at the beginning. -/
structure Rdy (q : CkQ) (s : CkS) (b e : Nat) : Prop where
 lT : s.ty.length = q.m
 lS : s.sl.length = q.m
 lF : s.ff.length = q.m
 lZ : s.sz.length = q.k
 em : e ≤ q.m
 ty0 : ∀ j, b ≤ j → j < e → s.ty[j]? = some 0
 sl1 : ∀ j, b ≤ j → j < e → s.sl[j]? = some (-1)
 V : s.V.length ≤ 1000
theorem Rdy.part {q : CkQ} {s : CkS} {b e b' e' : Nat} (h : Rdy q s b e) (h1 : b ≤ b') (h2 : e' ≤ e) : Rdy q s b' e' :=
 ⟨h.lT, h.lS, h.lF, h.lZ, Nat.le_trans h2 h.em, fun j a c => h.ty0 j (by omega) (by omega), fun j a c => h.sl1 j (by omega) (by omega), h.V⟩
theorem Rdy.upd {q : CkQ} {s : CkS} {b e c : Nat} (h : Rdy q s b e) (l : List Tri) (hl : c = b + l.length) (hc : c ≤ e) : Rdy q (upd s b l) c e := by
 have he := h.em
 have e1 : b + (l.map Tri.t).length ≤ s.ty.length := by rw [List.length_map, h.lT]; omega
 have e2 : b + (l.map Tri.s).length ≤ s.sl.length := by rw [List.length_map, h.lS]; omega
 have e3 : b + (l.map Tri.f).length ≤ s.ff.length := by rw [List.length_map, h.lF]; omega
 refine ⟨(ovr_len _ _ _ e1).trans h.lT, (ovr_len _ _ _ e2).trans h.lS, (ovr_len _ _ _ e3).trans h.lF, h.lZ, h.em, fun j a c => ?_, fun j a c => ?_, h.V⟩
 ·show (ovr s.ty b (l.map Tri.t))[j]? = _
  rw [ovr_get _ _ _ e1, List.length_map, if_neg (by omega)]
  exact h.ty0 j (by omega) c
 ·show (ovr s.sl b (l.map Tri.s))[j]? = _
  rw [ovr_get _ _ _ e2, List.length_map, if_neg (by omega)]
  exact h.sl1 j (by omega) c
theorem get_set_ne {α : Type} (a : List α) (j i : Nat) (x : α) (h : j ≠ i) : (a.set j x)[i]? = a[i]? := by rw [List.getElem?_set, if_neg h]
/-- The node behind a range is begun. -/
theorem Rdy.mark {q : CkQ} {s : CkS} {b j : Nat} (h : Rdy q s b (j + 1)) : Rdy q { s with ff := s.ff.set j s.fn } b j :=
 ⟨h.lT, h.lS, by show (s.ff.set j s.fn).length = _; rw [List.length_set]; exact h.lF, h.lZ, by have := h.em; omega, fun i a c => h.ty0 i a (by omega), fun i a c => h.sl1 i a (by omega), h.V⟩
theorem Rdy.markV {q : CkQ} {s : CkS} {b j : Nat} (h : Rdy q s b (j + 1)) (v : Int) : Rdy q { s with ff := s.ff.set j s.fn, sl := s.sl.set j v } b j :=
 ⟨h.lT, by show (s.sl.set j v).length = _; rw [List.length_set]; exact h.lS, by show (s.ff.set j s.fn).length = _; rw [List.length_set]; exact h.lF, h.lZ, by have := h.em; omega, fun i a c => h.ty0 i a (by omega), fun i a c => by
  show (s.sl.set j v)[i]? = _
  rw [get_set_ne _ _ _ _ (by omega)]
  exact h.sl1 i a (by omega), h.V⟩
theorem set_same {α : Type} (a : List α) (j : Nat) (x : α) (h : a[j]? = some x) : a.set j x = a := by
 apply List.ext_getElem?
 intro i
 rw [List.getElem?_set]
 by_cases e : j = i
 ·subst e
  rw [if_pos rfl, if_pos (List.getElem?_eq_some_iff.1 h).1, h]
 ·rw [if_neg e]
theorem upd_upd {q : CkQ} {s : CkS} {b e : Nat} (h : Rdy q s b e) (l m : List Tri) {c : Nat} (hc : c = b + l.length) (he : c + m.length ≤ e) : upd (upd s b l) c m = upd s b (l ++ m) := by
 have hm := h.em
 subst hc
 have e1 := ovr_ovr s.ty b (l.map Tri.t) (m.map Tri.t) (by rw [List.length_map, List.length_map, h.lT]; omega)
 have e2 := ovr_ovr s.sl b (l.map Tri.s) (m.map Tri.s) (by rw [List.length_map, List.length_map, h.lS]; omega)
 have e3 := ovr_ovr s.ff b (l.map Tri.f) (m.map Tri.f) (by rw [List.length_map, List.length_map, h.lF]; omega)
 rw [List.length_map] at e1 e2 e3
 unfold upd
 rw [e1, e2, e3, List.map_append, List.map_append, List.map_append]
theorem upd_nil (s : CkS) (b : Nat) : upd s b [] = s := by
 unfold upd
 rw [List.map_nil, List.map_nil, List.map_nil, ovr_nil, ovr_nil, ovr_nil]
/-- A node is done. -/
theorem fin_v {q : CkQ} {s : CkS} {b j : Nat} (h : Rdy q s b (j + 1)) (l : List Tri) (hl : j = b + l.length) (t v : Int) :
  ({ upd { s with ff := s.ff.set j s.fn, sl := s.sl.set j v } b l with ty := (upd { s with ff := s.ff.set j s.fn, sl := s.sl.set j v } b l).ty.set j t } : CkS) = upd s b (l ++ [⟨t, v, s.fn⟩]) := by
 have hm := h.em
 have e1 := ovr_set s.ty b j (l.map Tri.t) t (by rw [List.length_map]; exact hl) (by rw [h.lT]; omega)
 have e2 := ovr_set s.sl b j (l.map Tri.s) v (by rw [List.length_map]; exact hl) (by rw [h.lS]; omega)
 have e3 := ovr_set s.ff b j (l.map Tri.f) s.fn (by rw [List.length_map]; exact hl) (by rw [h.lF]; omega)
 have f2 := set_ovr s.sl b j (l.map Tri.s) v (by rw [List.length_map]; exact hl) (by rw [h.lS]; omega)
 have f3 := set_ovr s.ff b j (l.map Tri.f) s.fn (by rw [List.length_map]; exact hl) (by rw [h.lF]; omega)
 show (CkS.mk ((ovr s.ty b (l.map Tri.t)).set j t) (ovr (s.sl.set j v) b (l.map Tri.s)) (ovr (s.ff.set j s.fn) b (l.map Tri.f)) s.sz s.V s.fn s.bad s.e) = CkS.mk (ovr s.ty b ((l ++ [(⟨t, v, s.fn⟩ : Tri)]).map Tri.t)) (ovr s.sl b ((l ++ [(⟨t, v, s.fn⟩ : Tri)]).map Tri.s)) (ovr s.ff b ((l ++ [(⟨t, v, s.fn⟩ : Tri)]).map Tri.f)) s.sz s.V s.fn s.bad s.e
 rw [e1, f2, e2, f3, e3, List.map_append, List.map_append, List.map_append]
 rfl
theorem mark_same {q : CkQ} {s : CkS} {b j : Nat} (h : Rdy q s b (j + 1)) (hb : b ≤ j) : ({ s with ff := s.ff.set j s.fn, sl := s.sl.set j (-1) } : CkS) = { s with ff := s.ff.set j s.fn } := by
 rw [set_same s.sl j (-1) (h.sl1 j hb (Nat.lt_succ_self j))]
theorem fin_n {q : CkQ} {s : CkS} {b j : Nat} (h : Rdy q s b (j + 1)) (l : List Tri) (hl : j = b + l.length) (t : Int) :
  ({ upd { s with ff := s.ff.set j s.fn } b l with ty := (upd { s with ff := s.ff.set j s.fn } b l).ty.set j t } : CkS) = upd s b (l ++ [⟨t, -1, s.fn⟩]) := by
 rw [← fin_v h l hl t (-1), mark_same h (by omega)]
/-- A type of what was done. -/
theorem upd_ty {q : CkQ} {s : CkS} {b e : Nat} (h : Rdy q s b e) (l : List Tri) (hl : b + l.length ≤ e) (i : Nat) (h1 : b ≤ i) (h2 : i < b + l.length) : (upd s b l).ty[i]? = (l[i - b]?).map Tri.t := by
 have hm := h.em
 show (ovr s.ty b (l.map Tri.t))[i]? = _
 rw [ovr_get _ _ _ (by rw [List.length_map, h.lT]; omega), List.length_map, if_pos ⟨h1, h2⟩, List.getElem?_map]
section
variable {q : CkQ} {nd : List Nd} {fs : List Fnc} {w0 : World}
theorem noBlk {k : Int} (h1 : k ≠ 15) (h2 : k ≠ 16) : ∀ i : Int, isBlkK k i = false := fun i => by
 unfold isBlkK
 rw [show (k == 15) = false by simpa using h1, show (k == 16) = false by simpa using h2]
 simp
theorem seq_skip {P : Nat → Bool} {C : Int → CkS → RS → Prop} (h : ∀ i, P i = false) : ∀ (l : List Int) (i : Nat) (s : CkS), SeqI P C i l s (.ok s)
 | [], i, s => .nil i s
 | x :: l, i, s => .skip i x l s _ (h i) (seq_skip h l (i + 1) s)
theorem nd_nm {j : Nat} {k n : Int} {x : List UInt8} {l : List Int} {s : CkS} (hj : j < q.m) (hat : At nd (j : Int) k n x l) (hl6 : l.length ≤ 1000000) {z1 : Int} {s1 : CkS} (hz : z1 ≠ 0) (hn : NmC q nd fs w0 j k n x l { s with ff := s.ff.set j s.fn } z1 s1) : NdC q nd fs w0 (j : Int) s (.error ((j : Int), z1)) :=
 pnodeC j hj k n x l hat hl6 _ ⟨z1, s1, hn, .inl ⟨hz, rfl⟩⟩
theorem nd_err {j : Nat} {k n : Int} {x : List UInt8} {l : List Int} {s : CkS} (hj : j < q.m) (hat : At nd (j : Int) k n x l) (hl6 : l.length ≤ 1000000) (h15 : k ≠ 15) (h16 : k ≠ 16) {s1 : CkS} (hn : NmC q nd fs w0 j k n x l { s with ff := s.ff.set j s.fn } 0 s1) {z : Int × Int} (hs : SeqI (fun _ => true) (NdC q nd fs w0) 0 l s1 (.error z)) : NdC q nd fs w0 (j : Int) s (.error z) :=
 pnodeC j hj k n x l hat hl6 _ ⟨0, s1, hn, .inr ⟨rfl, .error z, by rw [show (fun i : Nat => !isBlkK k i) = fun _ => true from funext fun i => by rw [noBlk h15 h16]; rfl]; exact hs, .inl ⟨z, rfl, rfl⟩⟩⟩
theorem nd_tl {j : Nat} {k n : Int} {x : List UInt8} {l : List Int} {s : CkS} (hj : j < q.m) (hat : At nd (j : Int) k n x l) (hl6 : l.length ≤ 1000000) (h15 : k ≠ 15) (h16 : k ≠ 16) (h10 : k ≠ 10) {s1 s2 : CkS} (hn : NmC q nd fs w0 j k n x l { s with ff := s.ff.set j s.fn } 0 s1) (hs : SeqI (fun _ => true) (NdC q nd fs w0) 0 l s1 (.ok s2)) {t z : Int} (ht : TlC q nd fs w0 k n x l s2 t z) : NdC q nd fs w0 (j : Int) s (if z = 0 then .ok { s2 with ty := s2.ty.set j t } else .error ((j : Int), z)) := by
 refine pnodeC j hj k n x l hat hl6 _ ⟨0, s1, hn, .inr ⟨rfl, .ok s2, by rw [show (fun i : Nat => !isBlkK k i) = fun _ => true from funext fun i => by rw [noBlk h15 h16]; rfl]; exact hs, .inr ⟨s2, t, z, rfl, ht, ?_⟩⟩⟩
 by_cases hz : z = 0
 ·rw [if_pos hz]
  exact .inr ⟨hz, .inr ⟨h10, seq_skip (fun i => noBlk h15 h16 i) _ _ _⟩⟩
 ·rw [if_neg hz]
  exact .inl ⟨hz, rfl⟩
theorem seq_one {x : Int} {s : CkS} {r : RS} {i : Nat} {C : Int → CkS → RS → Prop} (h : C x s r) : SeqI (fun _ => true) C i [x] s r := by
 cases r with
 | ok s1 => exact .ok i x [] s s1 _ rfl h (.nil _ _)
 | error z => exact .bad i x [] s z rfl h
theorem seq_err {x : Int} {l : List Int} {s : CkS} {z : Int × Int} {i : Nat} {C : Int → CkS → RS → Prop} (h : C x s (.error z)) : SeqI (fun _ => true) C i (x :: l) s (.error z) := .bad i x l s z rfl h
theorem seq_ok {x : Int} {l : List Int} {s s1 : CkS} {r : RS} {i : Nat} {C : Int → CkS → RS → Prop} (h : C x s (.ok s1)) (g : SeqI (fun _ => true) C (i + 1) l s1 r) : SeqI (fun _ => true) C i (x :: l) s r := .ok i x l s s1 r rfl h g
/-- What an expression keeps: its length, its own type. -/
theorem ck_form {fn : Int} {V : List Vb} : ∀ (e : Ex) (b : Nat) (r : Int × List Tri), ckE fn V e b = .ok r → ∃ l s, r.2 = l ++ [⟨r.1, s, fn⟩] ∧ l.length = kE e := by
 intro e
 induction e with
 | int n => intro b r h; cases h; exact ⟨[], -1, rfl, rfl⟩
 | bool t => intro b r h; cases h; exact ⟨[], -1, rfl, rfl⟩
 | text s => intro b r h; cases h; exact ⟨[], -1, rfl, rfl⟩
 | var x =>
  intro b r h
  unfold ckE at h
  split at h
  ·cases h
  ·rename_i v hv
   cases h
   exact ⟨[], v.s, rfl, rfl⟩
 | index x a ih =>
  intro b r h
  unfold ckE at h
  split at h
  ·cases h
  ·rename_i v hv
   obtain ⟨q, h1, h2⟩ := bind_ok h
   obtain ⟨l, s, e1, e2⟩ := ih b q h1
   obtain ⟨_, rfl⟩ := need_ok h2
   exact ⟨q.2, v.s, rfl, by rw [e1, List.length_append, e2]; rfl⟩
 | len a ih =>
  intro b r h
  obtain ⟨q, h1, h2⟩ := bind_ok h
  obtain ⟨l, s, e1, e2⟩ := ih b q h1
  obtain ⟨_, rfl⟩ := need_ok h2
  exact ⟨q.2, -1, rfl, by rw [e1, List.length_append, e2]; rfl⟩
 | neg a ih =>
  intro b r h
  obtain ⟨q, h1, h2⟩ := bind_ok h
  obtain ⟨l, s, e1, e2⟩ := ih b q h1
  obtain ⟨_, rfl⟩ := need_ok h2
  exact ⟨q.2, -1, rfl, by rw [e1, List.length_append, e2]; rfl⟩
 | not a ih =>
  intro b r h
  obtain ⟨q, h1, h2⟩ := bind_ok h
  obtain ⟨l, s, e1, e2⟩ := ih b q h1
  obtain ⟨_, rfl⟩ := need_ok h2
  exact ⟨q.2, -1, rfl, by rw [e1, List.length_append, e2]; rfl⟩
 | bin x a c iha ihc =>
  intro b r h
  obtain ⟨q, h1, h2⟩ := bind_ok h
  obtain ⟨u, h3, h4⟩ := bind_ok h2
  obtain ⟨l, s, e1, e2⟩ := iha b q h1
  obtain ⟨l', s', e3, e4⟩ := ihc _ u h3
  split at h4
  ·cases h4
  ·rename_i t ht
   cases h4
   refine ⟨q.2 ++ u.2, -1, rfl, ?_⟩
   rw [e1, e3, List.length_append, List.length_append, List.length_append, e2, e4]
   rfl
theorem ck_lenE {fn : Int} {V : List Vb} {e : Ex} {b : Nat} {r : Int × List Tri} (h : ckE fn V e b = .ok r) : r.2.length = kE e + 1 := by
 obtain ⟨l, s, e1, e2⟩ := ck_form e b r h
 rw [e1, List.length_append, e2]
 rfl
theorem ck_tyE {fn : Int} {V : List Vb} {e : Ex} {b : Nat} {r : Int × List Tri} (h : ckE fn V e b = .ok r) {s : CkS} {c : Nat} (hr : Rdy q s b c) (hc : b + kE e + 1 ≤ c) : (upd s b r.2).ty[b + kE e]? = some r.1 := by
 have hl := ck_lenE h
 rw [upd_ty hr r.2 (by omega) (b + kE e) (by omega) (by omega), show b + kE e - b = kE e by omega]
 obtain ⟨l, s, e1, e2⟩ := ck_form e b r h
 rw [e1, ← e2]
 simp
/-- A sign that may be, all through. -/
def SgE : Ex → Prop
 | .index _ a => SgE a
 | .len a => SgE a
 | .neg a => SgE a
 | .not a => SgE a
 | .bin s a b => s ∈ signs11 ∧ SgE a ∧ SgE b
 | _ => True
/-- A node over one other whose type must be something. -/
theorem nd_oneM {j b L cj : Nat} {k n : Int} {x : List UInt8} {s s0 : CkS} (m : CR (Int × List Tri)) (hL : ∀ r, m = .ok r → r.2.length = L) (hj : j = b + L) (hr : Rdy q s b (j + 1)) (hat : At nd (j : Int) k n x [(cj : Int)]) (h15 : k ≠ 15) (h16 : k ≠ 16) (h10 : k ≠ 10) (v t : Int) (c : Int → Prop) [∀ u, Decidable (c u)] (T' : Int → Int) (hT' : ∀ u, c u → T' u = t)
  (hs0 : s0 = { s with ff := s.ff.set j s.fn, sl := s.sl.set j v }) (hn : NmC q nd fs w0 j k n x [(cj : Int)] { s with ff := s.ff.set j s.fn } 0 s0)
  (ih : NdC q nd fs w0 (cj : Int) s0 (rsE s0 b m))
  (ht : ∀ r, m = .ok r → TlC q nd fs w0 k n x [(cj : Int)] (upd s0 b r.2) (T' r.1) (if c r.1 then 0 else 42)) :
  NdC q nd fs w0 (j : Int) s (rsE s b (m.bind fun r => needT s.fn (c r.1) j t r.2 v)) := by
 have hm : j < q.m := by have := hr.em; omega
 cases hc : m with
 | error z =>
  rw [hc] at ih
  exact nd_err hm hat (by simp) h15 h16 hn (seq_one ih)
 | ok r =>
  rw [hc] at ih
  have hl := hL r hc
  have h := nd_tl hm hat (by simp) h15 h16 h10 hn (seq_one ih) (ht r hc)
  show NdC q nd fs w0 (j : Int) s (rsE s b (needT s.fn (c r.1) j t r.2 v))
  unfold needT
  by_cases hy : c r.1
  ·rw [if_pos hy, if_pos rfl, hs0, hT' _ hy] at h
   rw [if_pos hy]
   show NdC q nd fs w0 (j : Int) s (.ok (upd s b (r.2 ++ [⟨t, v, s.fn⟩])))
   rw [← fin_v hr r.2 (by omega) t v]
   exact h
  ·rw [if_neg hy, if_neg (by decide)] at h
   rw [if_neg hy]
   exact h
theorem nd_one {j b : Nat} {k n : Int} {x : List UInt8} {s s0 : CkS} {a : Ex} (hj : j = b + kE a + 1) (hr : Rdy q s b (j + 1)) (hat : At nd (j : Int) k n x [((b + kE a : Nat) : Int)]) (h15 : k ≠ 15) (h16 : k ≠ 16) (h10 : k ≠ 10) (v t : Int) (c : Int → Prop) [∀ u, Decidable (c u)]
  (hs0 : s0 = { s with ff := s.ff.set j s.fn, sl := s.sl.set j v }) (hn : NmC q nd fs w0 j k n x [((b + kE a : Nat) : Int)] { s with ff := s.ff.set j s.fn } 0 s0)
  (ih : NdC q nd fs w0 ((b + kE a : Nat) : Int) s0 (rsE s0 b (ckE s.fn s.V a b)))
  (ht : ∀ r, ckE s.fn s.V a b = .ok r → TlC q nd fs w0 k n x [((b + kE a : Nat) : Int)] (upd s0 b r.2) (if c r.1 then t else 0) (if c r.1 then 0 else 42)) :
  NdC q nd fs w0 (j : Int) s (rsE s b ((ckE s.fn s.V a b).bind fun r => needT s.fn (c r.1) j t r.2 v)) :=
 nd_oneM (ckE s.fn s.V a b) (fun r h => ck_lenE h) (by omega) hr hat h15 h16 h10 v t c (fun u => if c u then t else 0) (fun u h => if_pos h) hs0 hn ih ht
/-- A node over two expressions. -/
def twoR (s : CkS) (b j : Nat) (a c : Ex) (v : Int) (T Z : Int → Int → Int) : RS :=
 match ckE s.fn s.V a b with
 | .error z => .error (z.1, (z.2 : Int))
 | .ok r => match ckE s.fn s.V c (b + kE a + 1) with
  | .error z => .error (z.1, (z.2 : Int))
  | .ok u => if Z r.1 u.1 = 0 then .ok (upd s b (r.2 ++ u.2 ++ [⟨T r.1 u.1, v, s.fn⟩])) else .error ((j : Int), Z r.1 u.1)
theorem nd_two {j b : Nat} {k n : Int} {x : List UInt8} {s s0 : CkS} {a c : Ex} (hj : j = b + kE a + 1 + (kE c + 1)) (hr : Rdy q s b (j + 1)) (hat : At nd (j : Int) k n x [((b + kE a : Nat) : Int), ((b + kE a + 1 + kE c : Nat) : Int)]) (h15 : k ≠ 15) (h16 : k ≠ 16) (h10 : k ≠ 10) (v : Int) (T Z : Int → Int → Int)
  (hs0 : s0 = { s with ff := s.ff.set j s.fn, sl := s.sl.set j v }) (hn : NmC q nd fs w0 j k n x [((b + kE a : Nat) : Int), ((b + kE a + 1 + kE c : Nat) : Int)] { s with ff := s.ff.set j s.fn } 0 s0)
  (iha : ∀ s', Rdy q s' b (b + kE a + 1) → NdC q nd fs w0 ((b + kE a : Nat) : Int) s' (rsE s' b (ckE s'.fn s'.V a b)))
  (ihc : ∀ s', Rdy q s' (b + kE a + 1) (b + kE a + 1 + kE c + 1) → NdC q nd fs w0 ((b + kE a + 1 + kE c : Nat) : Int) s' (rsE s' (b + kE a + 1) (ckE s'.fn s'.V c (b + kE a + 1))))
  (ht : ∀ (s2 : CkS) (t0 t1 : Int), s2.V = s.V → s2.ty[b + kE a]? = some t0 → s2.ty[b + kE a + 1 + kE c]? = some t1 → TlC q nd fs w0 k n x [((b + kE a : Nat) : Int), ((b + kE a + 1 + kE c : Nat) : Int)] s2 (T t0 t1) (Z t0 t1)) :
  NdC q nd fs w0 (j : Int) s (twoR s b j a c v T Z) := by
 have hm : j < q.m := by have := hr.em; omega
 have hr1 : Rdy q s0 b j := by rw [hs0]; exact hr.markV v
 have ef : s0.fn = s.fn := by rw [hs0]
 have eV : s0.V = s.V := by rw [hs0]
 have h1 := iha s0 (hr1.part (Nat.le_refl _) (by omega))
 rw [ef, eV] at h1
 unfold twoR
 cases hc1 : ckE s.fn s.V a b with
 | error z => rw [hc1] at h1; exact nd_err hm hat (by simp) h15 h16 hn (seq_err h1)
 | ok r =>
  rw [hc1] at h1
  have hl1 := ck_lenE hc1
  have hr2 := hr1.upd r.2 (c := b + kE a + 1) (by omega) (by omega)
  have h2 := ihc (upd s0 b r.2) (hr2.part (Nat.le_refl _) (by omega))
  have e2 : ckE (upd s0 b r.2).fn (upd s0 b r.2).V c (b + kE a + 1) = ckE s.fn s.V c (b + kE a + 1) := by
   show ckE s0.fn s0.V c (b + kE a + 1) = _
   rw [ef, eV]
  rw [e2] at h2
  cases hc2 : ckE s.fn s.V c (b + kE a + 1) with
  | error z => rw [hc2] at h2; exact nd_err hm hat (by simp) h15 h16 hn (seq_ok h1 (seq_err h2))
  | ok u =>
   rw [hc2] at h2
   have hl2 := ck_lenE hc2
   have eu := upd_upd hr1 r.2 u.2 (c := b + kE a + 1) (by omega) (by omega)
   have ht1 : (upd (upd s0 b r.2) (b + kE a + 1) u.2).ty[b + kE a]? = some r.1 := by
    show (ovr (upd s0 b r.2).ty (b + kE a + 1) (u.2.map Tri.t))[b + kE a]? = _
    rw [ovr_get _ _ _ (by rw [List.length_map, hr2.lT]; omega), if_neg (by omega)]
    exact ck_tyE hc1 hr1 (by omega)
   have ht2 := ck_tyE hc2 hr2 (by omega)
   have h := nd_tl hm hat (by simp) h15 h16 h10 hn (seq_ok h1 (seq_one h2)) (ht _ r.1 u.1 eV ht1 ht2)
   show NdC q nd fs w0 (j : Int) s (if Z r.1 u.1 = 0 then .ok (upd s b (r.2 ++ u.2 ++ [⟨T r.1 u.1, v, s.fn⟩])) else .error ((j : Int), Z r.1 u.1))
   by_cases hz : Z r.1 u.1 = 0
   ·rw [if_pos hz] at h ⊢
    rw [← fin_v hr (r.2 ++ u.2) (by rw [List.length_append]; omega) (T r.1 u.1) v, ← hs0, ← eu]
    exact h
   ·rw [if_neg hz] at h ⊢
    exact h
/-- A node is done whose type is none. -/
theorem fin_0 {s : CkS} {b j : Nat} (h : Rdy q s b (j + 1)) (l : List Tri) (hl : j = b + l.length) : upd { s with ff := s.ff.set j s.fn } b l = upd s b (l ++ [⟨0, -1, s.fn⟩]) := by
 rw [← fin_n h l hl 0]
 have h2 := (h.mark).upd l hl (Nat.le_refl _)
 have e : (upd { s with ff := s.ff.set j s.fn } b l).ty[j]? = some 0 := by
  have hm := h.em
  show (ovr s.ty b (l.map Tri.t))[j]? = _
  rw [ovr_get _ _ _ (by rw [List.length_map, h.lT]; omega), List.length_map, if_neg (by omega)]
  exact h.ty0 j (by omega) (Nat.lt_succ_self j)
 rw [set_same _ j 0 e]
theorem nd_leaf {b : Nat} {k n : Int} {x : List UInt8} {s : CkS} (hr : Rdy q s b (b + 1)) (hat : At nd (b : Int) k n x []) (h15 : k ≠ 15) (h16 : k ≠ 16) (h10 : k ≠ 10) (h4 : k ≠ 4) (h5 : k ≠ 5) (h11 : k ≠ 11) (h12 : k ≠ 12) (h17 : k ≠ 17) (h21 : k ≠ 21) (t : Int)
  (ht : ∀ s2 : CkS, s2.V.length ≤ 1000 → TlC q nd fs w0 k n x [] s2 t 0) : NdC q nd fs w0 (b : Int) s (.ok (upd s b [⟨t, -1, s.fn⟩])) := by
 have hm : b < q.m := by have := hr.em; omega
 have h := nd_tl (s := s) hm hat (by simp) h15 h16 h10 (nm_rest b k n x [] _ h4 h5 h11 h12 h17 h21) (.nil 0 _) (ht _ hr.V)
 rw [if_pos rfl] at h
 have e := fin_n hr [] (by simp) t
 rw [upd_nil] at e
 rw [List.nil_append] at e
 rw [← e]
 exact h
end
end Go.Proofs.YtbhpnioggpgbhaaGreatDoor
