/-
  Layer 8: what is laid down is read, and what is read is what was laid down (data). Written by an AI agent.
-/
import Derived.Test.YtoombjbpblighaaDoorCoT
namespace Go.Proofs.YtoombjbpblighaaDoor
open Go Go.RowKit Go.Shelf
set_option linter.unusedVariables false
set_option linter.unusedSimpArgs false

theorem bytes8_eq (n : Int) : bytes8 n = [byteN n 0, byteN n 1, byteN n 2, byteN n 3, byteN n 4, byteN n 5, byteN n 6, byteN n 7] := rfl
theorem byteN_ok (n : Int) (k : Nat) : 0 ≤ byteN n k ∧ byteN n k < 256 := by unfold byteN; omega
def Rng (a : Int) : Prop := -9223372036854775808 ≤ a ∧ a ≤ 9223372036854775807
theorem num8 (n : Int) (h : Rng n) : wrap64 (numF (bytes8 n)) = n := by
  obtain ⟨h0, h1⟩ := h
  rw [bytes8_eq]
  simp only [numF, List.foldl, byteN, IntKind.wrap_u64]
  unfold wrap64
  omega
theorem numF8 (a b c d e f g h : Int) : numF [a, b, c, d, e, f, g, h] = ((((((a * 256 + b) * 256 + c) * 256 + d) * 256 + e) * 256 + f) * 256 + g) * 256 + h := by
  simp [numF]
theorem bytes_num (x : List Int) (hl : x.length = 8) (hx : ∀ c ∈ x, 0 ≤ c ∧ c < 256) : bytes8 (wrap64 (numF x)) = x := by
  match x, hl with
  | [a, b, c, d, e, f, g, h], _ =>
    have ha := hx a (by simp)
    have hb := hx b (by simp)
    have hc := hx c (by simp)
    have hd := hx d (by simp)
    have he := hx e (by simp)
    have hf := hx f (by simp)
    have hg := hx g (by simp)
    have hh := hx h (by simp)
    clear hx
    have hw : IntKind.u64.wrap (wrap64 (numF [a, b, c, d, e, f, g, h])) = numF [a, b, c, d, e, f, g, h] := by
      rw [numF8, IntKind.wrap_u64]
      unfold wrap64
      omega
    rw [bytes8_eq]
    unfold byteN
    rw [hw, numF8]
    simp only [List.cons.injEq, and_true]
    refine ⟨?_, ?_, ?_, ?_, ?_, ?_, ?_, ?_⟩ <;> omega
theorem wrap64_rng (n : Int) : Rng (wrap64 n) := by unfold wrap64 Rng; omega

theorem takeE_app (A B : List Int) (n : Nat) (hn : n = A.length) : takeE n ⟨A ++ B, 0⟩ = (⟨B, 0⟩, A) := by
  subst hn
  unfold takeE
  rw [if_pos rfl, if_neg (by simp)]
  simp
theorem oneE_app (c : Int) (B : List Int) : oneE ⟨c :: B, 0⟩ = (⟨B, 0⟩, c) := by
  have h := takeE_app [c] B 1 rfl
  unfold oneE
  rw [show (c :: B : List Int) = [c] ++ B from rfl, h]
  rfl
theorem numE_app (n : Int) (h : Rng n) (B : List Int) : numE ⟨bytes8 n ++ B, 0⟩ = (⟨B, 0⟩, n) := by
  have h2 := takeE_app (bytes8 n) B 8 rfl
  unfold numE
  rw [h2, num8 n h]
theorem needE_true (s : RS) : needE true s = s := by unfold needE; rw [if_neg (by simp)]
theorem str_strI (s : ByteArray) : strOfNums (strI s) = s := by
  unfold strOfNums strI
  rw [List.map_map]
  have : ((fun n : Int => UInt8.ofNat n.toNat) ∘ fun c : UInt8 => (c.toNat : Int)) = id := by funext c; simp
  rw [this]
  simp
theorem strI_str (x : List Int) (hx : ∀ c ∈ x, 0 ≤ c ∧ c < 256) : strI (strOfNums x) = x := by
  unfold strI
  rw [strOfNums_data, List.map_map]
  conv => rhs; rw [← List.map_id x]
  refine List.map_congr_left fun c hc => ?_
  obtain ⟨h0, h1⟩ := hx c hc
  simp
  omega
theorem size0 {s : ByteArray} (h : s.size = 0) : s = emptyB := by
  have h2 : s = ByteArray.empty := by
    have : s.data.size = 0 := h
    simpa using this
  exact h2

/-- What comes behind the kind. -/
def insK (op : Int) (s2 : RS) : RS × Ins :=
  if hasN op = 0 then (needE (mayN op 0 0 emptyB) s2, ⟨op, 0, 0, emptyB⟩)
  else if hasN op = 1 then (needE (mayN op (numE s2).2 0 emptyB) (numE s2).1, ⟨op, (numE s2).2, 0, emptyB⟩)
  else if hasN op = 3 then (needE (mayN op (numE s2).2 (numE (numE s2).1).2 emptyB) (numE (numE s2).1).1, ⟨op, (numE s2).2, (numE (numE s2).1).2, emptyB⟩)
  else
    let r3 := oneE s2
    let r5 := takeE r3.2.toNat (needE (decide (r3.2 ≤ 40)) r3.1)
    (needE (mayN op 0 0 (strOfNums r5.2)) r5.1, ⟨op, 0, 0, strOfNums r5.2⟩)
theorem insE_eq (s : RS) : insE s = insK (oneE s).2 (needE (!(decide (nameN (oneE s).2 = []))) (oneE s).1) := rfl
theorem mayI_parts {x : Ins} (h : mayI x = true) : nameN x.o ≠ [] ∧ x.s.size ≤ 40 ∧ (hasN x.o = 0 ∨ hasN x.o = 4 → x.a = 0) ∧ (hasN x.o = 0 ∨ hasN x.o = 1 ∨ hasN x.o = 4 → x.b = 0) ∧ (hasN x.o = 0 ∨ hasN x.o = 1 ∨ hasN x.o = 3 → x.s = emptyB) := by
  unfold mayI mayN badN at h
  simp only [Bool.and_eq_true, Bool.not_eq_true', Bool.or_eq_false_iff, Bool.and_eq_false_iff, decide_eq_true_eq, decide_eq_false_iff_not, Bool.or_eq_true, beq_iff_eq, Bool.not_eq_false', beq_eq_false_iff_ne] at h
  obtain ⟨⟨⟨h1, h2⟩, h3⟩, h4, h5, h6, h7⟩ := h
  refine ⟨h4, h7, fun g => ?_, fun g => ?_, fun g => ?_⟩
  · rcases h1 with h1 | h1
    · omega
    · exact h1
  · rcases h2 with h2 | h2
    · omega
    · exact h2
  · rcases h3 with h3 | h3
    · omega
    · exact size0 h3
theorem name_rng {op : Int} (h : nameN op ≠ []) : 1 ≤ op ∧ op ≤ 23 := by
  unfold nameN at h
  split at h
  · assumption
  · exact absurd rfl h
theorem insE_app (x : Ins) (hm : mayI x = true) (hr : InsR x) (B : List Int) : insE ⟨insB x ++ B, 0⟩ = (⟨B, 0⟩, x) := by
  obtain ⟨p1, p2, p3, p4, p5⟩ := mayI_parts hm
  have hn := name_rng p1
  have hm2 : mayN x.o x.a x.b x.s = true := hm
  obtain ⟨r0, r1, r2, r3, r4, r5⟩ := hr
  have hop : x.o % 256 = x.o := by omega
  have h1 : oneE ⟨insB x ++ B, 0⟩ = (⟨(insB x).tail ++ B, 0⟩, x.o) := by
    have : insB x ++ B = x.o :: ((insB x).tail ++ B) := by
      unfold insB
      rw [hop]
      rfl
    rw [this, oneE_app]
  rw [insE_eq, h1]
  show insK x.o (needE (!decide (nameN x.o = [])) ⟨(insB x).tail ++ B, 0⟩) = _
  rw [decide_eq_false p1, show (!false) = true from rfl, needE_true]
  obtain ⟨o, a, b, s⟩ := x
  unfold insK
  rcases has_four o with e | e | e | e
  · have ha : a = 0 := p3 (.inl e)
    have hb : b = 0 := p4 (.inl e)
    have hs : s = emptyB := p5 (.inl e)
    subst ha hb hs
    rw [if_pos e]
    show (needE (mayN o 0 0 emptyB) _, _) = _
    rw [show mayN o 0 0 emptyB = true from hm2, needE_true]
    simp [insB, e]
  · have e : hasN o = 1 := e
    have hb : b = 0 := p4 (.inr (.inl e))
    have hs : s = emptyB := p5 (.inr (.inl e))
    subst hb hs
    have hx : (insB ⟨o, a, 0, emptyB⟩).tail ++ B = bytes8 a ++ B := by simp [insB, e]
    rw [if_neg (show ¬ hasN o = 0 by omega), if_pos e, hx, numE_app a ⟨r2, r3⟩]
    show (needE (mayN o a 0 emptyB) _, _) = _
    rw [show mayN o a 0 emptyB = true from hm2, needE_true]
  · have e : hasN o = 3 := e
    have hs : s = emptyB := p5 (.inr (.inr e))
    subst hs
    have hx : (insB ⟨o, a, b, emptyB⟩).tail ++ B = bytes8 a ++ (bytes8 b ++ B) := by simp [insB, e]
    rw [if_neg (show ¬ hasN o = 0 by omega), if_neg (show ¬ hasN o = 1 by omega), if_pos e, hx, numE_app a ⟨r2, r3⟩, numE_app b ⟨r4, r5⟩]
    show (needE (mayN o a b emptyB) _, _) = _
    rw [show mayN o a b emptyB = true from hm2, needE_true]
  · have e : hasN o = 4 := e
    have ha : a = 0 := p3 (.inr e)
    have hb : b = 0 := p4 (.inr (.inr e))
    subst ha hb
    have hx : (insB ⟨o, 0, 0, s⟩).tail ++ B = (s.size : Int) :: (strI s ++ B) := by
      have : (s.size : Int) % 256 = s.size := by have : s.size ≤ 40 := p2; omega
      simp [insB, e, this]
    rw [if_neg (show ¬ hasN o = 0 by omega), if_neg (show ¬ hasN o = 1 by omega), if_neg (show ¬ hasN o = 3 by omega), hx, oneE_app]
    have h40 : decide ((s.size : Int) ≤ 40) = true := decide_eq_true (by have : s.size ≤ 40 := p2; omega)
    show (needE (mayN o 0 0 (strOfNums (takeE (s.size : Int).toNat (needE (decide ((s.size : Int) ≤ 40)) ⟨strI s ++ B, 0⟩)).2)) (takeE (s.size : Int).toNat (needE (decide ((s.size : Int) ≤ 40)) ⟨strI s ++ B, 0⟩)).1, (⟨o, 0, 0, strOfNums (takeE (s.size : Int).toNat (needE (decide ((s.size : Int) ≤ 40)) ⟨strI s ++ B, 0⟩)).2⟩ : Ins)) = _
    rw [h40, needE_true, takeE_app (strI s) B _ (by rw [strI_length]; omega)]
    show (needE (mayN o 0 0 (strOfNums (strI s))) _, (⟨o, 0, 0, strOfNums (strI s)⟩ : Ins)) = _
    rw [str_strI, show mayN o 0 0 s = true from hm2, needE_true]
theorem entsE_app (Z : List Int) (hZ : ∀ a ∈ Z, Rng a) (B : List Int) : entsE Z.length ⟨Z.flatMap bytes8 ++ B, 0⟩ = (⟨B, 0⟩, Z) := by
  induction Z with
  | nil => rfl
  | cons a Z ih =>
    rw [List.length_cons, List.flatMap_cons, List.append_assoc]
    unfold entsE
    rw [if_pos rfl, numE_app a (hZ a (by simp)), ih fun b hb => hZ b (by simp [hb])]
theorem inssE_app (L : List Ins) (hL : ∀ x ∈ L, mayI x = true ∧ InsR x) (B : List Int) : inssE L.length ⟨L.flatMap insB ++ B, 0⟩ = (⟨B, 0⟩, L) := by
  induction L with
  | nil => rfl
  | cons a L ih =>
    have h := hL a (by simp)
    rw [List.length_cons, List.flatMap_cons, List.append_assoc]
    unfold inssE
    rw [if_pos rfl, insE_app a h.1 h.2, ih fun b hb => hL b (by simp [hb])]
theorem entE_id (n : Int) (Z : List Int) (hZ : ∀ a ∈ Z, 0 ≤ a ∧ a ≤ n) (s : RS) : entE n Z s = s := by
  induction Z with
  | nil => rfl
  | cons a Z ih =>
    have h := hZ a (by simp)
    show entE n Z (needE (decide (0 ≤ a) && decide (a ≤ n)) s) = s
    rw [decide_eq_true h.1, decide_eq_true h.2, show (true && true) = true from rfl, needE_true]
    exact ih fun b hb => hZ b (by simp [hb])
theorem codeE_app (L : List Ins) (Z : List Int) (h1 : L.length ≤ 1200) (h2 : Z.length ≤ 6) (hL : ∀ x ∈ L, mayI x = true ∧ InsR x) (hZ : ∀ a ∈ Z, 0 ≤ a ∧ a ≤ (L.length : Int)) (B : List Int) :
    codeE ⟨putB L Z ++ B, 0⟩ = (⟨B, 0⟩, L, Z) := by
  have e1 : putB L Z ++ B = (Z.length : Int) :: (Z.flatMap bytes8 ++ (bytes8 (L.length : Int) ++ (L.flatMap insB ++ B))) := by
    unfold putB
    rw [show (Z.length : Int) % 256 = Z.length by omega]
    simp
  unfold codeE
  rw [e1, oneE_app]
  simp only
  rw [decide_eq_true (show (Z.length : Int) ≤ 6 by omega), needE_true, show (Z.length : Int).toNat = Z.length by omega, entsE_app Z (fun a ha => by have := hZ a ha; unfold Rng; omega)]
  simp only
  rw [numE_app _ (by unfold Rng; omega)]
  simp only
  rw [decide_eq_true (show (0 : Int) ≤ (L.length : Int) by omega), decide_eq_true (show (L.length : Int) ≤ 1200 by omega), show (true && true) = true from rfl, needE_true, entE_id _ _ hZ, show (L.length : Int).toNat = L.length by omega, inssE_app L hL]

/-! ### What stands behind does not matter, but where it is too short -/
def Good (m : List Int) {α : Type} (f : RS → RS × α) : Prop := (∀ s, s.e = 2 → (f s).1.e = 2) ∧ ∀ s, (f s).1.e = 2 ∨ ((f ⟨s.l ++ m, s.e⟩).1 = ⟨(f s).1.l ++ m, (f s).1.e⟩ ∧ (f ⟨s.l ++ m, s.e⟩).2 = (f s).2)
theorem Good.bind {m : List Int} {α β : Type} {f : RS → RS × α} {g : α → RS → RS × β} (hf : Good m f) (hg : ∀ a, Good m (g a)) : Good m (fun s => g (f s).2 (f s).1) := by
  refine ⟨fun s h => (hg _).1 _ (hf.1 s h), fun s => ?_⟩
  rcases hf.2 s with h | ⟨h1, h2⟩
  · exact .inl ((hg _).1 _ h)
  · show _ ∨ ((g (f ⟨s.l ++ m, s.e⟩).2 (f ⟨s.l ++ m, s.e⟩).1).1 = _ ∧ (g (f ⟨s.l ++ m, s.e⟩).2 (f ⟨s.l ++ m, s.e⟩).1).2 = _)
    rw [h1, h2]
    exact (hg _).2 _
theorem Good.map {m : List Int} {α β : Type} {f : RS → RS × α} (hf : Good m f) (k : α → β) : Good m (fun s => ((f s).1, k (f s).2)) := by
  refine ⟨hf.1, fun s => ?_⟩
  rcases hf.2 s with h | ⟨h1, h2⟩
  · exact .inl h
  · exact .inr ⟨h1, by show k _ = k _; rw [h2]⟩
theorem Good.pure (m : List Int) {α : Type} (a : α) : Good m (fun s => (s, a)) := ⟨fun s h => h, fun s => .inr ⟨rfl, rfl⟩⟩
theorem Good.guard {m : List Int} {α : Type} {f : RS → RS × α} (hf : Good m f) (a : α) : Good m (fun s => if s.e = 0 then f s else (s, a)) := by
  refine ⟨fun s h => ?_, fun s => ?_⟩
  · show (if s.e = 0 then f s else (s, a)).1.e = 2
    rw [if_neg (by omega)]
    exact h
  · by_cases h : s.e = 0
    · show (if s.e = 0 then f s else (s, a)).1.e = 2 ∨ ((if s.e = 0 then f ⟨s.l ++ m, s.e⟩ else (⟨s.l ++ m, s.e⟩, a)).1 = ⟨(if s.e = 0 then f s else (s, a)).1.l ++ m, (if s.e = 0 then f s else (s, a)).1.e⟩ ∧ (if s.e = 0 then f ⟨s.l ++ m, s.e⟩ else (⟨s.l ++ m, s.e⟩, a)).2 = (if s.e = 0 then f s else (s, a)).2)
      simp only [if_pos h]
      exact hf.2 s
    · show (if s.e = 0 then f s else (s, a)).1.e = 2 ∨ ((if s.e = 0 then f ⟨s.l ++ m, s.e⟩ else (⟨s.l ++ m, s.e⟩, a)).1 = ⟨(if s.e = 0 then f s else (s, a)).1.l ++ m, (if s.e = 0 then f s else (s, a)).1.e⟩ ∧ (if s.e = 0 then f ⟨s.l ++ m, s.e⟩ else (⟨s.l ++ m, s.e⟩, a)).2 = (if s.e = 0 then f s else (s, a)).2)
      simp only [if_neg h]
      exact .inr ⟨by trivial, by trivial⟩
theorem Good.need (m : List Int) (b : Bool) {α : Type} (a : α) : Good m (fun s => (needE b s, a)) := by
  refine ⟨fun s h => ?_, fun s => .inr ⟨?_, rfl⟩⟩
  · show (needE b s).e = 2
    unfold needE
    rw [if_neg (by omega)]
    exact h
  · show needE b ⟨s.l ++ m, s.e⟩ = ⟨(needE b s).l ++ m, (needE b s).e⟩
    unfold needE
    by_cases h : s.e = 0 ∧ b = false
    · rw [if_pos h, if_pos h]
    · rw [if_neg h, if_neg h]
theorem Good.take (m : List Int) (n : Nat) : Good m (takeE n) := by
  refine ⟨fun s h => ?_, fun s => ?_⟩
  · unfold takeE
    rw [if_neg (by omega)]
    exact h
  · unfold takeE
    by_cases h : s.e = 0
    · by_cases h2 : s.l.length < n
      · left
        rw [if_pos h, if_pos h2]
      · right
        simp only [if_pos h]
        rw [if_neg h2, if_neg (by simp; omega)]
        refine ⟨?_, ?_⟩
        · show (⟨(s.l ++ m).drop n, 0⟩ : RS) = ⟨s.l.drop n ++ m, 0⟩
          rw [List.drop_append_of_le_length (by omega)]
        · show (s.l ++ m).take n = s.l.take n
          rw [List.take_append_of_le_length (by omega)]
    · right
      simp only [if_neg h]
      exact ⟨trivial, trivial⟩
theorem Good.one (m : List Int) : Good m oneE := (Good.take m 1).map oneF
theorem Good.num (m : List Int) : Good m numE := (Good.take m 8).map fun x => wrap64 (numF x)
theorem Good.kind (m : List Int) (op : Int) : Good m (Go.Proofs.YtoombjbpblighaaDoor.insK op) := by
  unfold Go.Proofs.YtoombjbpblighaaDoor.insK
  rcases has_four op with e | e | e | e
  · simp only [if_pos e]
    exact Good.need m _ _
  · simp only [if_neg (show ¬ hasN op = 0 by omega), if_pos e]
    exact (Good.num m).bind fun a => Good.need m (mayN op a 0 emptyB) (⟨op, a, 0, emptyB⟩ : Ins)
  · simp only [if_neg (show ¬ hasN op = 0 by omega), if_neg (show ¬ hasN op = 1 by omega), if_pos e]
    exact (Good.num m).bind fun a => (Good.num m).bind fun b => Good.need m (mayN op a b emptyB) (⟨op, a, b, emptyB⟩ : Ins)
  · simp only [if_neg (show ¬ hasN op = 0 by omega), if_neg (show ¬ hasN op = 1 by omega), if_neg (show ¬ hasN op = 3 by omega)]
    exact (Good.one m).bind fun a => (Good.need m (decide (a ≤ 40)) ()).bind fun _ => (Good.take m a.toNat).bind fun x => Good.need m (mayN op 0 0 (strOfNums x)) (⟨op, 0, 0, strOfNums x⟩ : Ins)
theorem Good.ins (m : List Int) : Good m insE := (Good.one m).bind fun op => (Good.need m (!(decide (nameN op = []))) ()).bind fun _ => Good.kind m op
theorem Good.ents (m : List Int) (n : Nat) : Good m (entsE n) := by
  induction n with
  | zero => exact Good.pure m []
  | succ n ih => exact Good.guard ((Good.num m).bind fun a => ih.map fun l => a :: l) []
theorem Good.inss (m : List Int) (n : Nat) : Good m (inssE n) := by
  induction n with
  | zero => exact Good.pure m []
  | succ n ih => exact Good.guard ((Good.ins m).bind fun a => ih.map fun l => a :: l) []
theorem Good.ent (m : List Int) (n : Int) (Z : List Int) {α : Type} (a : α) : Good m (fun s => (entE n Z s, a)) := by
  induction Z with
  | nil => exact Good.pure m a
  | cons b Z ih => exact (Good.need m (decide (0 ≤ b) && decide (b ≤ n)) ()).bind fun _ => ih
theorem Good.code (m : List Int) : Good m codeE :=
  (Good.one m).bind fun a => (Good.need m (decide (a ≤ 6)) ()).bind fun _ => (Good.ents m a.toNat).bind fun Z => (Good.num m).bind fun n =>
    (Good.need m (decide (0 ≤ n) && decide (n ≤ 1200)) ()).bind fun _ => (Good.ent m n Z ()).bind fun _ => (Good.inss m n.toNat).map fun L => (L, Z)
/-- What is cut is short. -/
theorem codeE_cut (L : List Ins) (Z : List Int) (h1 : L.length ≤ 1200) (h2 : Z.length ≤ 6) (hL : ∀ x ∈ L, mayI x = true ∧ InsR x) (hZ : ∀ a ∈ Z, 0 ≤ a ∧ a ≤ (L.length : Int)) (n : Nat) (hn : n < (putB L Z).length) :
    (codeE ⟨(putB L Z).take n, 0⟩).1.e = 2 := by
  have h := codeE_app L Z h1 h2 hL hZ []
  rw [List.append_nil] at h
  rcases (Good.code ((putB L Z).drop n)).2 ⟨(putB L Z).take n, 0⟩ with g | ⟨g, _⟩
  · exact g
  · simp only [List.take_append_drop] at g
    rw [h] at g
    have g2 : ([] : List Int) = _ := congrArg RS.l g
    have g3 := congrArg List.length g2
    simp only [List.length_append, List.length_drop, List.length_nil] at g3
    omega

/-! ### What is read is what would be laid down -/
theorem takeE_inv (n : Nat) (s : RS) (h : (takeE n s).1.e = 0) : s.e = 0 ∧ s.l = (takeE n s).2 ++ (takeE n s).1.l ∧ (takeE n s).2.length = n := by
  unfold takeE at h ⊢
  by_cases h0 : s.e = 0
  · rw [if_pos h0] at h ⊢
    by_cases h1 : s.l.length < n
    · rw [if_pos h1] at h
      simp at h
    · rw [if_neg h1]
      exact ⟨h0, (List.take_append_drop n s.l).symm, by simp; omega⟩
  · rw [if_neg h0] at h
    exact absurd h h0
theorem oneE_inv (s : RS) (h : (oneE s).1.e = 0) : s.e = 0 ∧ s.l = (oneE s).2 :: (oneE s).1.l := by
  obtain ⟨h0, h1, h2⟩ := takeE_inv 1 s h
  refine ⟨h0, ?_⟩
  show s.l = oneF (takeE 1 s).2 :: (takeE 1 s).1.l
  generalize (takeE 1 s).2 = x at h1 h2 ⊢
  match x, h2 with
  | [c], _ => exact h1
theorem numE_inv (s : RS) (hs : ∀ x ∈ s.l, 0 ≤ x ∧ x < 256) (h : (numE s).1.e = 0) : s.e = 0 ∧ s.l = bytes8 (numE s).2 ++ (numE s).1.l ∧ Rng (numE s).2 := by
  obtain ⟨h0, h1, h2⟩ := takeE_inv 8 s h
  refine ⟨h0, ?_, wrap64_rng _⟩
  show s.l = bytes8 (wrap64 (numF (takeE 8 s).2)) ++ (takeE 8 s).1.l
  rw [bytes_num _ h2 (fun c hc => hs c (by rw [h1]; simp [hc]))]
  exact h1
theorem needE_inv {b : Bool} {s : RS} (h : (needE b s).e = 0) : b = true ∧ s.e = 0 ∧ needE b s = s := by
  obtain ⟨rfl, h2⟩ := needE_ok h
  exact ⟨rfl, h2, needE_true s⟩
theorem insE_inv (s : RS) (hs : ∀ x ∈ s.l, 0 ≤ x ∧ x < 256) (h : (insE s).1.e = 0) : s.e = 0 ∧ s.l = insB (insE s).2 ++ (insE s).1.l ∧ mayI (insE s).2 = true ∧ InsR (insE s).2 := by
  rw [insE_eq] at h ⊢
  obtain ⟨op, hop⟩ : ∃ op, op = (oneE s).2 := ⟨_, rfl⟩
  obtain ⟨s1, hs1⟩ : ∃ s1, s1 = (oneE s).1 := ⟨_, rfl⟩
  have key : s1.e = 0 → s.e = 0 ∧ s.l = op :: s1.l := fun g => by
    have := oneE_inv s (by rw [← hs1]; exact g)
    rw [← hop, ← hs1] at this
    exact this
  rw [← hop, ← hs1] at h ⊢
  clear hop hs1
  have fin : ∀ (x : Ins) (t u : RS), s1.e = 0 → x.o = op → (needE (mayN x.o x.a x.b x.s) t).e = 0 → (op :: s1.l = insB x ++ t.l) → (InsR x) → s.e = 0 ∧ s.l = insB x ++ (needE (mayN x.o x.a x.b x.s) t).l ∧ mayI x = true ∧ InsR x := by
    intro x t u g ho hn hl hr
    obtain ⟨g1, g2, g3⟩ := needE_inv hn
    obtain ⟨k1, k2⟩ := key g
    refine ⟨k1, by rw [k2, hl, g3], g1, hr⟩
  have nm : ∀ {s2 : RS}, s2 = needE (!decide (nameN op = [])) s1 → s2.e = 0 → s1.e = 0 ∧ s2 = s1 ∧ (op % 256 = op) ∧ (1 ≤ op ∧ op ≤ 23) := by
    intro s2 e g
    rw [e] at g ⊢
    obtain ⟨g1, g2, g3⟩ := needE_inv g
    have g4 : nameN op ≠ [] := by simpa using g1
    have := name_rng g4
    exact ⟨g2, g3, by omega, this⟩
  obtain ⟨s2, hs2⟩ : ∃ s2, s2 = needE (!decide (nameN op = [])) s1 := ⟨_, rfl⟩
  rw [← hs2] at h ⊢
  have nm := nm hs2
  clear hs2
  have hs1k : s1.e = 0 → ∀ x ∈ s1.l, 0 ≤ x ∧ x < 256 := fun g x hx => hs x (by rw [(key g).2]; simp [hx])
  unfold insK at h ⊢
  rcases has_four op with e | e | e | e
  · rw [if_pos e] at h ⊢
    obtain ⟨g1, g2, _⟩ := needE_inv h
    obtain ⟨n1, rfl, n3, n4⟩ := nm g2
    exact fin ⟨op, 0, 0, emptyB⟩ s2 s2 n1 rfl h (by simp [insB, e, n3]) (by unfold InsR; simp; omega)
  · rw [if_neg (by omega), if_pos e] at h ⊢
    obtain ⟨g1, g2, _⟩ := needE_inv h
    have q2 : s2.e = 0 := (takeE_inv 8 s2 g2).1
    obtain ⟨n1, rfl, n3, n4⟩ := nm q2
    obtain ⟨q3, q4, q5⟩ := numE_inv s2 (hs1k n1) g2
    exact fin ⟨op, (numE s2).2, 0, emptyB⟩ (numE s2).1 s2 n1 rfl h (by rw [q4]; simp [insB, e, n3]) (by unfold InsR Rng at *; simp; omega)
  · rw [if_neg (by omega), if_neg (by omega), if_pos e] at h ⊢
    obtain ⟨g1, g2, _⟩ := needE_inv h
    have q1 : (numE s2).1.e = 0 := (takeE_inv 8 _ g2).1
    have q2 : s2.e = 0 := (takeE_inv 8 s2 q1).1
    obtain ⟨n1, rfl, n3, n4⟩ := nm q2
    obtain ⟨q3, q4, q5⟩ := numE_inv s2 (hs1k n1) q1
    obtain ⟨q6, q7, q8⟩ := numE_inv (numE s2).1 (fun x hx => hs1k n1 x (by rw [q4]; simp [hx])) g2
    exact fin ⟨op, (numE s2).2, (numE (numE s2).1).2, emptyB⟩ (numE (numE s2).1).1 s2 n1 rfl h (by rw [q4, q7]; simp [insB, e, n3]) (by unfold InsR Rng at *; simp; omega)
  · rw [if_neg (by omega), if_neg (by omega), if_neg (by omega)] at h ⊢
    obtain ⟨n, hn⟩ : ∃ n, n = (oneE s2).2 := ⟨_, rfl⟩
    obtain ⟨s3, hs3⟩ : ∃ s3, s3 = (oneE s2).1 := ⟨_, rfl⟩
    have k3 := oneE_inv s2
    simp only [← hn, ← hs3] at h k3 ⊢
    obtain ⟨g1, g2, _⟩ := needE_inv h
    obtain ⟨t1, t2, t3⟩ := takeE_inv _ _ g2
    obtain ⟨u1, u2, u3⟩ := needE_inv t1
    obtain ⟨v1, v2⟩ := k3 u2
    obtain ⟨n1, rfl, n3, n4⟩ := nm v1
    have n40 : n ≤ 40 := by simpa using u1
    have hb := hs1k n1
    have hn0 : 0 ≤ n := (hb n (by rw [v2]; simp)).1
    obtain ⟨x, hx⟩ : ∃ x, x = (takeE n.toNat (needE (decide (n ≤ 40)) s3)).2 := ⟨_, rfl⟩
    rw [u3] at h t2 t3 hx ⊢
    rw [← hx] at h t2 t3 ⊢
    have hxb : ∀ c ∈ x, 0 ≤ c ∧ c < 256 := fun c hc => hb c (by rw [v2, t2]; simp [hc])
    refine fin ⟨op, 0, 0, strOfNums x⟩ _ s2 n1 rfl h ?_ (by unfold InsR; simp; omega)
    rw [v2, t2]
    have hsz : ((strOfNums x).size : Int) % 256 = n := by rw [strOfNums_size]; omega
    simp [insB, e, n3, hsz, strI_str x hxb]
theorem entsE_inv (n : Nat) : ∀ (s : RS), (∀ x ∈ s.l, 0 ≤ x ∧ x < 256) → (entsE n s).1.e = 0 → s.e = 0 ∧ s.l = (entsE n s).2.flatMap bytes8 ++ (entsE n s).1.l ∧ (entsE n s).2.length = n := by
  induction n with
  | zero => exact fun s hs h => ⟨h, rfl, rfl⟩
  | succ n ih =>
    intro s hs h
    unfold entsE at h ⊢
    by_cases h0 : s.e = 0
    · rw [if_pos h0] at h ⊢
      have hn : (numE s).1.e = 0 := by
        by_cases g : (numE s).1.e = 0
        · exact g
        · have h : (entsE n (numE s).1).1.e = 0 := h
          rw [entsE_end n _ (.inr g)] at h
          exact h
      obtain ⟨q1, q2, q3⟩ := numE_inv s hs hn
      obtain ⟨r1, r2, r3⟩ := ih (numE s).1 (fun x hx => hs x (by rw [q2]; simp [hx])) h
      refine ⟨h0, ?_, by simp [r3]⟩
      rw [List.flatMap_cons, List.append_assoc, ← r2]
      exact q2
    · rw [if_neg h0] at h
      exact absurd h h0
theorem inssE_inv (n : Nat) : ∀ (s : RS), (∀ x ∈ s.l, 0 ≤ x ∧ x < 256) → (inssE n s).1.e = 0 → s.e = 0 ∧ s.l = (inssE n s).2.flatMap insB ++ (inssE n s).1.l ∧ (inssE n s).2.length = n ∧ ∀ x ∈ (inssE n s).2, mayI x = true ∧ InsR x := by
  induction n with
  | zero => exact fun s hs h => ⟨h, rfl, rfl, by simp [inssE]⟩
  | succ n ih =>
    intro s hs h
    unfold inssE at h ⊢
    by_cases h0 : s.e = 0
    · rw [if_pos h0] at h ⊢
      have hn : (insE s).1.e = 0 := by
        by_cases g : (insE s).1.e = 0
        · exact g
        · have h : (inssE n (insE s).1).1.e = 0 := h
          rw [inssE_end n _ (.inr g)] at h
          exact h
      obtain ⟨q1, q2, q3, q4⟩ := insE_inv s hs hn
      obtain ⟨r1, r2, r3, r4⟩ := ih (insE s).1 (fun x hx => hs x (by rw [q2]; simp [hx])) h
      refine ⟨h0, ?_, by simp [r3], fun x hx => ?_⟩
      · rw [List.flatMap_cons, List.append_assoc, ← r2]
        exact q2
      · rcases List.mem_cons.1 hx with rfl | hx
        · exact ⟨q3, q4⟩
        · exact r4 x hx
    · rw [if_neg h0] at h
      exact absurd h h0
theorem codeE_inv (s : RS) (hs : ∀ x ∈ s.l, 0 ≤ x ∧ x < 256) (h : (codeE s).1.e = 0) : s.l = putB (codeE s).2.1 (codeE s).2.2 ++ (codeE s).1.l ∧ (codeE s).2.1.length ≤ 1200 ∧ (codeE s).2.2.length ≤ 6 ∧ (∀ x ∈ (codeE s).2.1, mayI x = true ∧ InsR x) ∧ ∀ a ∈ (codeE s).2.2, 0 ≤ a ∧ a ≤ ((codeE s).2.1.length : Int) := by
  unfold codeE at h ⊢
  obtain ⟨m, hm⟩ : ∃ m, m = (oneE s).2 := ⟨_, rfl⟩
  obtain ⟨s1, hs1⟩ : ∃ s1, s1 = (oneE s).1 := ⟨_, rfl⟩
  have k1 := oneE_inv s
  simp only [← hm, ← hs1] at h k1 ⊢
  obtain ⟨q, hq⟩ : ∃ q, q = entsE m.toNat (needE (decide (m ≤ 6)) s1) := ⟨_, rfl⟩
  have k2 := entsE_inv m.toNat (needE (decide (m ≤ 6)) s1)
  simp only [← hq] at h k2 ⊢
  obtain ⟨n, hn⟩ : ∃ n, n = (numE q.1).2 := ⟨_, rfl⟩
  obtain ⟨s3, hs3⟩ : ∃ s3, s3 = (numE q.1).1 := ⟨_, rfl⟩
  have k3 := numE_inv q.1
  simp only [← hn, ← hs3] at h k3 ⊢
  obtain ⟨s4, hs4⟩ : ∃ s4, s4 = entE n q.2 (needE (decide (0 ≤ n) && decide (n ≤ 1200)) s3) := ⟨_, rfl⟩
  rw [← hs4] at h ⊢
  have e4 : s4.e = 0 := by
    by_cases g : s4.e = 0
    · exact g
    · rw [inssE_end _ _ (.inr g)] at h
      exact h
  rw [hs4] at e4
  obtain ⟨a1, a2⟩ := entE_ok n q.2 _ e4
  obtain ⟨b1, b2, b3⟩ := needE_inv a1
  rw [b3, entE_id _ _ a2] at hs4
  subst hs4
  have e1 : q.1.e = 0 := (takeE_inv 8 q.1 (by show (numE q.1).1.e = 0; rw [← hs3]; exact b2)).1
  have e0 : s1.e = 0 := by
    by_cases g : (needE (decide (m ≤ 6)) s1).e = 0
    · exact (needE_inv g).2.1
    · rw [hq, entsE_end _ _ (.inr g)] at e1
      exact absurd e1 g
  obtain ⟨c1, c2⟩ := k1 e0
  have hb1 : ∀ x ∈ s1.l, 0 ≤ x ∧ x < 256 := fun x hx => hs x (by rw [c2]; simp [hx])
  have hbn : ∀ x ∈ (needE (decide (m ≤ 6)) s1).l, 0 ≤ x ∧ x < 256 := by
    intro x hx
    refine hb1 x ?_
    unfold needE at hx
    split at hx <;> exact hx
  obtain ⟨d1, d2, d3⟩ := k2 hbn e1
  obtain ⟨f1, f2, f3⟩ := needE_inv d1
  rw [f3] at d2
  obtain ⟨g1, g2, g3⟩ := k3 (fun x hx => hb1 x (by rw [d2]; simp [hx])) b2
  obtain ⟨h1, h2, h3, h4⟩ := inssE_inv n.toNat s4 (fun x hx => hb1 x (by rw [d2, g2]; simp [hx])) h
  have hm0 : 0 ≤ m := (hs m (by rw [c2]; simp)).1
  have hm6 : m ≤ 6 := by simpa using f1
  have hn2 : 0 ≤ n ∧ n ≤ 1200 := by simpa using b1
  have hlen : ((inssE n.toNat s4).2.length : Int) = n := by rw [h3]; omega
  have hlz : (q.2.length : Int) = m := by rw [d3]; omega
  refine ⟨?_, by omega, by omega, h4, fun a ha => by have := a2 a ha; omega⟩
  unfold putB
  rw [hlen, hlz, show m % 256 = m by omega, c2, d2, g2]
  conv => lhs; rw [h2]
  simp
end Go.Proofs.YtoombjbpblighaaDoor
