/-
  Layer 3: a source's tree as syntax: statements, functions (data). Written by an AI agent.
  Layer 3: what is shown, as pieces, and the tokens of these (data). Written by an AI agent.
-/
import Derived.Lib.ItoaNum
import Derived.Lib.ItoaMem
import Derived.Test.YtgelggdgbmldiaaDoorMkaf
namespace Go.Proofs.YtgelggdgbmldiaaDoor
set_option linter.unusedVariables false
set_option linter.unusedSimpArgs false
section
variable {src : List UInt8} {T : List Tok} {F : Prop} {N : List Nd} {D : Int}
theorem len_R (N : List Nd) (r : Rt) : (N ++ flR r N.length).length = N.length + kR r + 1 := by rw [List.length_append, flR_len]; omega
theorem len_K (N : List Nd) (a : Bl) : (N ++ flK a N.length).length = N.length + kB a + 1 := by rw [List.length_append, flK_len]; omega
theorem len_Es (N : List Nd) (l : List Ex) : (N ++ flEs l N.length).length = N.length + kEs l := by rw [List.length_append, flEs_len]
def LZ (m : PM (List Int)) : Prop := ∀ F N D, Zt (Gz F N D) m (fun l s' => ∃ es, Gz (F ∧ (∀ e ∈ es, WE 0 D e) ∧ l = rootEs es N.length) (N ++ flEs es N.length) D s')
theorem comma_z {ex : PM Int} (hx : EZ 0 ex) (F : Prop) (N : List Nd) (D : Int) : ∀ n l es, Zt (Gz (F ∧ (∀ e ∈ es, WE 0 D e) ∧ l = rootEs es N.length) (N ++ flEs es N.length) D) (commaR T ex n l) (fun l s' => ∃ es, Gz (F ∧ (∀ e ∈ es, WE 0 D e) ∧ l = rootEs es N.length) (N ++ flEs es N.length) D s') := by
  intro n
  induction n with
  | zero => intro l es; exact Zt.none
  | succ n ih =>
    intro l es
    unfold commaR
    refine Zt.ask fun b => ?_
    refine Zt.pre (P := Gz (F ∧ (∀ e ∈ es, WE 0 D e) ∧ l = rootEs es N.length) (N ++ flEs es N.length) D) ?_ fun s h => h.1
    cases b with
    | true =>
      rw [if_pos rfl]
      refine Zt.mod (fun s h => next_z s h) ?_
      refine Zt.bind (hx _ _ _) fun x => ?_
      refine Zt.exi fun e => ?_
      refine (ih (l ++ [x]) (es ++ [e])).pre fun s g => g.to fun ⟨⟨h1, h2, h3⟩, h4, h5⟩ => ⟨⟨h1, fun q hq => by
        rcases List.mem_append.1 hq with hq | hq
        · exact h2 q hq
        · rw [List.mem_singleton.1 hq]; exact h4, ?_⟩, ?_⟩
      · rw [rootEs_snoc, h3, h5, len_Es]
      · rw [flEs_snoc, len_Es, List.append_assoc]
    | false =>
      rw [if_neg (by decide)]
      exact Zt.ret fun s g => ⟨es, g⟩
theorem args_z {ex : PM Int} (hx : EZ 0 ex) (n : Nat) : LZ (argsM T n ex) := by
  intro F N D
  unfold argsM
  refine Zt.ask fun b => ?_
  refine Zt.pre (P := Gz F N D) ?_ fun s h => h.1
  cases b with
  | true =>
    rw [if_pos rfl]
    exact Zt.ret fun s g => ⟨[], g.to fun h => ⟨⟨h, fun e he => (by cases he), rfl⟩, by show N = N ++ []; simp⟩⟩
  | false =>
    rw [if_neg (by decide)]
    refine Zt.bind (hx _ _ _) fun x => ?_
    refine Zt.exi fun e => ?_
    refine (comma_z hx F N D n [x] [e]).pre fun s g => g.to fun ⟨h1, h2, h3⟩ => ⟨⟨h1, fun q hq => by rw [List.mem_singleton.1 hq]; exact h2, by rw [h3]; rfl⟩, by show _ = N ++ (flE e N.length ++ []); simp⟩
theorem call_z (hT : TK T) {ex : PM Int} (hx : EZ 0 ex) (n : Nat) (F : Prop) (N : List Nd) (D : Int) : Zt (Gz F N D) (callM src T n ex) (fun x s' => ∃ p : List UInt8 × List Ex, Gz (F ∧ WR D (.call p.1 p.2) ∧ x = ((N.length + kEs p.2 : Nat) : Int)) (N ++ flR (.call p.1 p.2) N.length) D s') := by
  unfold callM
  refine Zt.ask fun ln => ?_
  refine Zt.ask fun x => ?_
  refine Zt.mod (R := Gz (F ∧ NameOK x) N D) (fun s h => ⟨(name_z (F := F) (N := N) (D := D) hT x s h).1, fun g => (name_z hT x s h).2 ⟨g.1.1, g.2⟩⟩) ?_
  refine Zt.mod (fun s h => want_z _ s h) ?_
  refine Zt.bind (args_z hx n _ _ _) fun l => ?_
  refine Zt.exi fun es => ?_
  refine Zt.mod (fun s h => want_z _ s h) ?_
  exact (node_z _ _).mono (fun _ h => h) fun x2 s g => ⟨(x, es), g.to fun ⟨⟨⟨h1, h2⟩, h3, h4⟩, h5⟩ => ⟨⟨h1, ⟨h2, h3⟩, by rw [h5, len_Es]⟩, by rw [h4, List.append_assoc]; rfl⟩⟩
theorem right_z (hT : TK T) {ex : PM Int} (hx : EZ 0 ex) (n : Nat) : RZ (rightM src T n ex) := by
  intro F N D
  unfold rightM
  refine Zt.ask fun ln => ?_
  refine Zt.ask fun b => ?_
  refine Zt.pre (P := Gz F N D) ?_ fun s h => h.1.1
  cases b with
  | true =>
    rw [if_pos rfl]
    refine Zt.mod (fun s h => next_z s h) ?_
    exact (node_z _ _).mono (fun _ h => h) fun x2 s g => ⟨.input, g.to fun ⟨h1, h2⟩ => ⟨⟨h1, trivial, by rw [h2]; rfl⟩, rfl⟩⟩
  | false =>
    rw [if_neg (by decide)]
    refine Zt.ask fun b => ?_
    refine Zt.pre (P := Gz F N D) ?_ fun s h => h.1
    cases b with
    | true =>
      rw [if_pos rfl]
      refine Zt.mod (fun s h => next_z s h) ?_
      refine Zt.mod (fun s h => want_z _ s h) ?_
      refine Zt.bind (hx _ _ _) fun x => ?_
      refine Zt.exi fun e => ?_
      refine Zt.mod (fun s h => want_z _ s h) ?_
      exact (node_z _ _).mono (fun _ h => h) fun x2 s g => ⟨.new e, g.to fun ⟨⟨h1, h2, h3⟩, h4⟩ => ⟨⟨h1, h2, by rw [h4, app_nil_len]; rfl⟩, by rw [h3, List.append_assoc]; rfl⟩⟩
    | false =>
      rw [if_neg (by decide)]
      refine Zt.ask fun b => ?_
      refine Zt.pre (P := Gz F N D) ?_ fun s h => h.1
      cases b with
      | true =>
        rw [if_pos rfl]
        exact (call_z hT hx n F N D).mono (fun _ h => h) fun x s ⟨p, g⟩ => ⟨.call p.1 p.2, g⟩
      | false =>
        rw [if_neg (by decide)]
        exact (hx F N D).mono (fun _ h => h) fun x s ⟨e, g⟩ => ⟨.ex e, g⟩
theorem ended_z (n : Nd) (xs : List Int) : Zt (Gz F N D) (endedM T n xs) (fun x s' => Gz (F ∧ x = ((N.length : Nat) : Int)) (N ++ [⟨n.k, 0, n.n, n.s, xs⟩]) D s') := by
  unfold endedM
  exact Zt.mod (fun s h => want_z _ s h) (node_z n xs)
theorem change_z (hT : TK T) {ex : PM Int} (hx : EZ 0 ex) (n : Nat) (ln : Int) : SZ (changeM src T n ex ln) := by
  intro F N D
  unfold changeM
  refine Zt.ask fun x => ?_
  refine Zt.mod (R := Gz (F ∧ NameOK x) N D) (fun s h => name_z hT x s h) ?_
  refine Zt.ask fun b => ?_
  refine Zt.pre (P := Gz (F ∧ NameOK x) N D) ?_ fun s h => h.1
  cases b with
  | true =>
    rw [if_pos rfl]
    refine Zt.bind (open_z _) fun _ => ?_
    refine Zt.bind (hx _ _ _) fun y => ?_
    refine Zt.exi fun e => ?_
    refine Zt.bind (shut_z _) fun _ => ?_
    refine Zt.mod (fun s h => want_z _ s h) ?_
    refine Zt.bind (hx _ _ _) fun z => ?_
    refine Zt.exi fun e2 => ?_
    refine (ended_z _ _).mono (fun _ h => h) fun x2 s g => ⟨.put x e e2, g.to fun ⟨⟨⟨⟨⟨h1, h2⟩, h3⟩, h4, h5⟩, h6, h7⟩, h8⟩ => ⟨⟨h1, ?_, ?_⟩, ?_⟩⟩
    · unfold WS
      exact ⟨h2, h3, h4, h6⟩
    · rw [h8, List.length_append, app_nil_len, flE_len]
      unfold kS
      congr 1
      omega
    · unfold flS
      rw [h5, h7, app_nil_len]
      simp only [List.append_assoc]
  | false =>
    rw [if_neg (by decide)]
    refine Zt.mod (fun s h => want_z _ s h) ?_
    refine Zt.bind (right_z hT hx n _ _ _) fun y => ?_
    refine Zt.exi fun r => ?_
    refine (ended_z _ _).mono (fun _ h => h) fun x2 s g => ⟨.set x r, g.to fun ⟨⟨⟨h1, h2⟩, h3, h4⟩, h5⟩ => ⟨⟨h1, ?_, ?_⟩, ?_⟩⟩
    · unfold WS
      exact ⟨h2, h3⟩
    · rw [h5, len_R]
      unfold kS
      rfl
    · unfold flS
      rw [h4, List.append_assoc]
theorem choice_z {ex bl : PM Int} (hx : EZ 0 ex) (hb : KZ bl) (ln : Int) : SZ (choiceM T ex bl ln) := by
  intro F N D
  unfold choiceM
  refine Zt.mod (fun s h => next_z s h) ?_
  refine Zt.bind (hx _ _ _) fun x => ?_
  refine Zt.exi fun c => ?_
  refine Zt.bind (hb _ _ _) fun y => ?_
  refine Zt.exi fun a => ?_
  refine Zt.ask fun b => ?_
  refine Zt.pre (P := Gz ((F ∧ WE 0 D c ∧ x = ((N.length + kE c : Nat) : Int)) ∧ (D < 16 ∧ WB (D + 1) a) ∧ y = (((N ++ flE c N.length).length + kB a : Nat) : Int)) (N ++ flE c N.length ++ flK a (N ++ flE c N.length).length) D) ?_ fun s h => h.1
  cases b with
  | true =>
    rw [if_pos rfl]
    refine Zt.mod (fun s h => next_z s h) ?_
    refine Zt.bind (hb _ _ _) fun z => ?_
    refine Zt.exi fun d => ?_
    refine (node_z _ _).mono (fun _ h => h) fun x2 s g => ⟨.ifelse c a d, g.to fun ⟨⟨⟨⟨h1, h2, h3⟩, ⟨h4, h5⟩, h6⟩, ⟨h7, h8⟩, h9⟩, h10⟩ => ⟨⟨h1, ?_, ?_⟩, ?_⟩⟩
    · unfold WS
      exact ⟨h2, h4, h5, h8⟩
    · rw [h10, List.length_append, len_K, app_nil_len, flK_len]
      unfold kS
      congr 1
      omega
    · unfold flS
      rw [h3, h6, h9, len_K, app_nil_len]
      unfold flK
      simp only [List.append_assoc]
  | false =>
    rw [if_neg (by decide)]
    refine (node_z _ _).mono (fun _ h => h) fun x2 s g => ⟨.ifs c a, g.to fun ⟨⟨⟨h1, h2, h3⟩, ⟨h4, h5⟩, h6⟩, h10⟩ => ⟨⟨h1, ?_, ?_⟩, ?_⟩⟩
    · unfold WS
      exact ⟨h2, h4, h5⟩
    · rw [h10, len_K, app_nil_len]
      unfold kS
      congr 1
      omega
    · unfold flS
      rw [h3, h6, app_nil_len]
      unfold flK
      simp only [List.append_assoc]
theorem statement_z (hT : TK T) {ex bl : PM Int} (hx : EZ 0 ex) (hb : KZ bl) (n : Nat) : SZ (statementM src T n ex bl) := by
  intro F N D
  unfold statementM
  refine Zt.ask fun ln => ?_
  refine Zt.ask fun b => ?_
  refine Zt.pre (P := Gz F N D) ?_ fun s h => h.1.1
  cases b with
  | true => rw [if_pos rfl]; exact choice_z hx hb ln F N D
  | false =>
  rw [if_neg (by decide)]
  refine Zt.ask fun b => ?_
  refine Zt.pre (P := Gz F N D) ?_ fun s h => h.1
  cases b with
  | true =>
    rw [if_pos rfl]
    refine Zt.mod (fun s h => next_z s h) ?_
    refine Zt.bind (hx _ _ _) fun x => ?_
    refine Zt.exi fun c => ?_
    refine Zt.bind (hb _ _ _) fun y => ?_
    refine Zt.exi fun a => ?_
    refine (node_z _ _).mono (fun _ h => h) fun x2 s g => ⟨.whil c a, g.to fun ⟨⟨⟨h1, h2, h3⟩, ⟨h4, h5⟩, h6⟩, h10⟩ => ⟨⟨h1, ?_, ?_⟩, ?_⟩⟩
    · unfold WS
      exact ⟨h2, h4, h5⟩
    · rw [h10, len_K, app_nil_len]
      unfold kS
      congr 1
      omega
    · unfold flS
      rw [h3, h6, app_nil_len]
      unfold flK
      simp only [List.append_assoc]
  | false =>
  rw [if_neg (by decide)]
  refine Zt.ask fun b => ?_
  refine Zt.pre (P := Gz F N D) ?_ fun s h => h.1
  cases b with
  | true =>
    rw [if_pos rfl]
    refine Zt.bind (call_z hT hx n _ _ _) fun x => ?_
    refine Zt.exi fun p => ?_
    refine (ended_z _ _).mono (fun _ h => h) fun x2 s g => ⟨.doo p.1 p.2, g.to fun ⟨⟨h1, h2, h3⟩, h4⟩ => ⟨⟨h1, ?_, ?_⟩, ?_⟩⟩
    · unfold WS
      exact h2
    · rw [h4, len_R]
      unfold kS
      rfl
    · unfold flS
      rw [h3, List.append_assoc]
  | false =>
  rw [if_neg (by decide)]
  refine Zt.ask fun b => ?_
  refine Zt.pre (P := Gz F N D) ?_ fun s h => h.1
  cases b with
  | true =>
    rw [if_pos rfl]
    refine Zt.mod (fun s h => next_z s h) ?_
    refine Zt.bind (hx _ _ _) fun x => ?_
    refine Zt.exi fun e => ?_
    refine (ended_z _ _).mono (fun _ h => h) fun x2 s g => ⟨.print e, g.to fun ⟨⟨h1, h2, h3⟩, h4⟩ => ⟨⟨h1, ?_, ?_⟩, ?_⟩⟩
    · unfold WS
      exact h2
    · rw [h4, app_nil_len]
      unfold kS
      rfl
    · unfold flS
      rw [h3, List.append_assoc]
  | false =>
  rw [if_neg (by decide)]
  refine Zt.ask fun b => ?_
  refine Zt.pre (P := Gz F N D) ?_ fun s h => h.1
  cases b with
  | true =>
    rw [if_pos rfl]
    refine Zt.mod (fun s h => next_z s h) ?_
    refine Zt.ask fun b => ?_
    refine Zt.pre (P := Gz F N D) ?_ fun s h => h.1
    cases b with
    | true =>
      rw [if_pos rfl]
      refine (ended_z _ _).mono (fun _ h => h) fun x2 s g => ⟨.ret0, g.to fun ⟨h1, h2⟩ => ⟨⟨h1, ?_, ?_⟩, ?_⟩⟩
      · unfold WS; trivial
      · rw [h2]; unfold kS; rfl
      · unfold flS; rfl
    | false =>
      rw [if_neg (by decide)]
      refine Zt.bind (hx _ _ _) fun x => ?_
      refine Zt.exi fun e => ?_
      refine (ended_z _ _).mono (fun _ h => h) fun x2 s g => ⟨.ret1 e, g.to fun ⟨⟨h1, h2, h3⟩, h4⟩ => ⟨⟨h1, ?_, ?_⟩, ?_⟩⟩
      · unfold WS
        exact h2
      · rw [h4, app_nil_len]
        unfold kS
        rfl
      · unfold flS
        rw [h3, List.append_assoc]
  | false =>
  rw [if_neg (by decide)]
  refine Zt.ask fun b => ?_
  refine Zt.pre (P := Gz F N D) ?_ fun s h => h.1
  cases b with
  | true =>
    rw [if_pos rfl]
    refine Zt.mod (fun s h => next_z s h) ?_
    refine Zt.ask fun x => ?_
    refine Zt.mod (R := Gz (F ∧ NameOK x) N D) (fun s h => name_z hT x s h) ?_
    refine Zt.mod (fun s h => want_z _ s h) ?_
    refine Zt.bind (right_z hT hx n _ _ _) fun y => ?_
    refine Zt.exi fun r => ?_
    refine (ended_z _ _).mono (fun _ h => h) fun x2 s g => ⟨.lt x r, g.to fun ⟨⟨⟨h1, h2⟩, h3, h4⟩, h5⟩ => ⟨⟨h1, ?_, ?_⟩, ?_⟩⟩
    · unfold WS
      exact ⟨h2, h3⟩
    · rw [h5, len_R]
      unfold kS
      rfl
    · unfold flS
      rw [h4, List.append_assoc]
  | false => rw [if_neg (by decide)]; exact change_z hT hx n ln F N D
theorem stms_z {st : PM Int} (hst : SZ st) (F : Prop) (N : List Nd) (D : Int) : ∀ n l (ss : List Stm), Zt (Gz (F ∧ WB D (toBl ss) ∧ l = rootB (toBl ss) N.length) (N ++ flB (toBl ss) N.length) D) (stmsR T st n l) (fun l s' => ∃ b, Gz (F ∧ WB D b ∧ l = rootB b N.length) (N ++ flB b N.length) D s') := by
  intro n
  induction n with
  | zero => intro l ss; exact Zt.none
  | succ n ih =>
    intro l ss
    unfold stmsR
    refine Zt.ask fun b => ?_
    refine Zt.pre (P := Gz (F ∧ WB D (toBl ss) ∧ l = rootB (toBl ss) N.length) (N ++ flB (toBl ss) N.length) D) ?_ fun s h => h.1
    cases b with
    | true =>
      rw [if_pos rfl]
      refine Zt.bind (hst _ _ _) fun x => ?_
      refine Zt.exi fun e => ?_
      obtain ⟨k1, k2, k3⟩ := toBl_snoc ss e
      have hl : (N ++ flB (toBl ss) N.length).length = N.length + kB (toBl ss) := by rw [List.length_append, flB_len]
      refine (ih (l ++ [x]) (ss ++ [e])).pre fun s g => g.to fun ⟨⟨h1, h2, h3⟩, h4, h5⟩ => ⟨⟨h1, WB_snoc D ss e h2 h4, ?_⟩, ?_⟩
      · rw [k3, h3, h5, hl]
      · rw [k2, hl, List.append_assoc]
    | false =>
      rw [if_neg (by decide)]
      exact Zt.ret fun s g => ⟨_, g⟩
theorem block_z {st : PM Int} (hst : SZ st) (n : Nat) : KZ (blockM src T n st) := by
  intro F N D
  unfold blockM
  refine Zt.ask fun ln => ?_
  refine Zt.pre (P := Gz F N D) ?_ fun s h => h.1
  refine Zt.bind (open_z _) fun _ => ?_
  refine Zt.bind ((stms_z hst (F ∧ D < 16) N (D + 1) n [] []).pre fun s g => g.to fun h => ⟨⟨h, by show WB _ .nil; unfold WB; trivial, by show _ = rootB .nil _; unfold rootB; rfl⟩, by show N = N ++ flB .nil _; unfold flB; simp⟩) fun l => ?_
  refine Zt.exi fun b => ?_
  refine Zt.bind (shut_z _) fun _ => ?_
  refine (node_z _ _).mono (fun _ h => h) fun x2 s g => ⟨b, g.to fun ⟨⟨⟨h1, h2⟩, h3, h4⟩, h5⟩ => ⟨⟨h1, ⟨h2, h3⟩, ?_⟩, ?_⟩⟩
  · rw [h5, List.length_append, flB_len]
  · unfold flK
    rw [h4, List.append_assoc]
theorem st_z (hT : TK T) {M : Nat} : ∀ n, SZ (stM src T M n) := by
  intro n
  induction n with
  | zero => intro F N D; exact Zt.none
  | succ n ih => exact statement_z hT (ex_z hT M 0 (by omega)) (block_z ih M) M
/-- What a function is. -/
def WP (p : List UInt8 × Int) : Prop := NameOK p.1 ∧ 1 ≤ p.2 ∧ p.2 ≤ 4
def WF (f : Fnc) (b : Bl) : Prop := NameOK f.s ∧ (∀ p ∈ f.ps, WP p) ∧ (0 ≤ f.ret ∧ f.ret ≤ 4) ∧ WB 1 b
theorem typeN_ok {x : List UInt8} (h : x ∈ [[105, 110, 116], [98, 111, 111, 108], [116, 101, 120, 116], [108, 105, 115, 116]]) : 1 ≤ typeN x ∧ typeN x ≤ 4 := (by decide : ∀ x ∈ ([[105, 110, 116], [98, 111, 111, 108], [116, 101, 120, 116], [108, 105, 115, 116]] : List (List UInt8)), 1 ≤ typeN x ∧ typeN x ≤ 4) x h
theorem kind_z (F : Prop) (N : List Nd) (D : Int) : Zt (Gz F N D) (kindM T) (fun t s' => Gz (F ∧ 1 ≤ t ∧ t ≤ 4) N D s') := by
  unfold kindM
  refine Zt.ask fun b => ?_
  cases b with
  | true =>
    rw [if_pos rfl]
    refine Zt.ask fun k => ?_
    refine Zt.mod (R := Gz (F ∧ 1 ≤ typeN k.x ∧ typeN k.x ≤ 4) N D) (fun s h => ⟨(next_z (F := F) (N := N) (D := D) s h).1, fun g => ((next_z s h).2 g.1.1).and (by have e : tokA T s = k := g.2; rw [← e]; exact typeN_ok (isS_in g.1.2))⟩) ?_
    exact Zt.ret fun s g => g
  | false =>
    rw [if_neg (by decide)]
    exact Zt.mod (R := fun _ => False) (fun s h => absurd h (er_fail (by decide) s)) (Zt.ret fun s g => g.elim)
theorem param_z (hT : TK T) (F : Prop) (N : List Nd) (D : Int) : Zt (Gz F N D) (paramM T) (fun p s' => Gz (F ∧ WP p) N D s') := by
  unfold paramM
  refine Zt.ask fun x => ?_
  refine Zt.mod (R := Gz (F ∧ NameOK x) N D) (fun s h => name_z hT x s h) ?_
  refine Zt.bind (kind_z _ _ _) fun t => ?_
  exact Zt.ret fun s g => g.to fun ⟨⟨h1, h2⟩, h3⟩ => ⟨⟨h1, h2, h3⟩, rfl⟩
theorem params_z (hT : TK T) (F : Prop) (N : List Nd) (D : Int) : ∀ n (l : List (List UInt8 × Int)), Zt (Gz (F ∧ ∀ p ∈ l, WP p) N D) (paramsR T n l) (fun l s' => Gz (F ∧ ∀ p ∈ l, WP p) N D s') := by
  intro n
  induction n with
  | zero => intro l; exact Zt.none
  | succ n ih =>
    intro l
    unfold paramsR
    refine Zt.ask fun b => ?_
    refine Zt.pre (P := Gz (F ∧ ∀ p ∈ l, WP p) N D) ?_ fun s h => h.1
    cases b with
    | true =>
      rw [if_pos rfl]
      refine Zt.mod (fun s h => next_z s h) ?_
      refine Zt.bind (param_z hT _ _ _) fun p => ?_
      refine (ih (l ++ [p])).pre fun s g => g.to fun ⟨⟨h1, h2⟩, h3⟩ => ⟨⟨h1, fun q hq => by
        rcases List.mem_append.1 hq with hq | hq
        · exact h2 q hq
        · rw [List.mem_singleton.1 hq]; exact h3⟩, rfl⟩
    | false =>
      rw [if_neg (by decide)]
      exact Zt.ret fun s g => g
theorem function_z (hT : TK T) {M : Nat} (F : Prop) (N : List Nd) : Zt (Gz F N 0) (functionM src T M) (fun f s' => ∃ b, Gz (F ∧ WF f b ∧ f.body = ((N.length + kB b : Nat) : Int)) (N ++ flK b N.length) 0 s') := by
  unfold functionM
  refine Zt.ask fun ln => ?_
  refine Zt.pre (P := Gz F N 0) ?_ fun s h => h.1
  refine Zt.mod (fun s h => want_z _ s h) ?_
  refine Zt.ask fun x => ?_
  refine Zt.mod (R := Gz (F ∧ NameOK x) N 0) (fun s h => name_z hT x s h) ?_
  refine Zt.mod (fun s h => want_z _ s h) ?_
  refine Zt.bind (R := fun ps s' => Gz ((F ∧ NameOK x) ∧ ∀ p ∈ ps, WP p) N 0 s') ?_ fun ps => ?_
  · unfold paramsM
    refine Zt.ask fun b => ?_
    refine Zt.pre (P := Gz (F ∧ NameOK x) N 0) ?_ fun s h => h.1
    cases b with
    | true =>
      rw [if_pos rfl]
      exact Zt.ret fun s g => g.and fun p hp => by cases hp
    | false =>
      rw [if_neg (by decide)]
      refine Zt.bind (param_z hT _ _ _) fun p => ?_
      refine (params_z hT (F ∧ NameOK x) N 0 M [p]).pre fun s g => g.to fun ⟨h1, h2⟩ => ⟨⟨h1, fun q hq => by rw [List.mem_singleton.1 hq]; exact h2⟩, rfl⟩
  refine Zt.mod (fun s h => want_z _ s h) ?_
  refine Zt.bind (R := fun t s' => Gz (((F ∧ NameOK x) ∧ ∀ p ∈ ps, WP p) ∧ 0 ≤ t ∧ t ≤ 4) N 0 s') ?_ fun t => ?_
  · unfold retM
    refine Zt.ask fun b => ?_
    refine Zt.pre (P := Gz ((F ∧ NameOK x) ∧ ∀ p ∈ ps, WP p) N 0) ?_ fun s h => h.1
    cases b with
    | true =>
      rw [if_pos rfl]
      exact Zt.ret fun s g => g.and (by decide)
    | false =>
      rw [if_neg (by decide)]
      exact (kind_z _ _ _).mono (fun _ h => h) fun t s g => g.to fun ⟨h1, h2, h3⟩ => ⟨⟨h1, by omega, h3⟩, rfl⟩
  refine Zt.bind (block_z (st_z hT M) M _ _ _) fun y => ?_
  refine Zt.exi fun b => ?_
  exact Zt.ret fun s g => ⟨b, g.to fun ⟨⟨⟨⟨h1, h2⟩, h3⟩, h4⟩, ⟨_, h5⟩, h6⟩ => ⟨⟨h1, ⟨h2, h3, h4, h5⟩, h6⟩, rfl⟩⟩
/-- The nodes of functions; and where their blocks are. -/
def kT : List (Fnc × Bl) → Nat
  | [] => 0
  | p :: l => kB p.2 + 1 + kT l
def flT : List (Fnc × Bl) → Nat → List Nd
  | [], _ => []
  | p :: l, b => flK p.2 b ++ flT l (b + kB p.2 + 1)
def BodyOK : List (Fnc × Bl) → Nat → Prop
  | [], _ => True
  | p :: l, b => p.1.body = ((b + kB p.2 : Nat) : Int) ∧ BodyOK l (b + kB p.2 + 1)
theorem flT_len : ∀ (l : List (Fnc × Bl)) (b : Nat), (flT l b).length = kT l
  | [], _ => rfl
  | p :: l, b => by show (flK p.2 b ++ flT l _).length = _; rw [List.length_append, flK_len, flT_len l]; rfl
theorem flT_snoc : ∀ (l : List (Fnc × Bl)) (p : Fnc × Bl) (b : Nat), flT (l ++ [p]) b = flT l b ++ flK p.2 (b + kT l)
  | [], p, b => by show flK p.2 b ++ [] = [] ++ flK p.2 (b + 0); simp
  | a :: l, p, b => by
    show flK a.2 b ++ flT (l ++ [p]) (b + kB a.2 + 1) = (flK a.2 b ++ flT l (b + kB a.2 + 1)) ++ flK p.2 (b + (kB a.2 + 1 + kT l))
    rw [flT_snoc l p, List.append_assoc, show b + kB a.2 + 1 + kT l = b + (kB a.2 + 1 + kT l) by omega]
theorem body_snoc : ∀ (l : List (Fnc × Bl)) (p : Fnc × Bl) (b : Nat), BodyOK l b → p.1.body = ((b + kT l + kB p.2 : Nat) : Int) → BodyOK (l ++ [p]) b
  | [], p, b, _, h => ⟨h, trivial⟩
  | a :: l, p, b, h, h2 => ⟨h.1, body_snoc l p _ h.2 (by rw [h2]; show (((b + (kB a.2 + 1 + kT l) + kB p.2 : Nat)) : Int) = _; congr 1; omega)⟩
structure WT (nd : List Nd) (fs : List Fnc) (ps : List (Fnc × Bl)) : Prop where
  fns : fs = ps.map Prod.fst
  ok : ∀ p ∈ ps, WF p.1 p.2
  nds : nd.map uz = flT ps 0
  bod : BodyOK ps 0
instance : Inhabited (List (Fnc × Bl)) := ⟨[]⟩
theorem fns_z (hT : TK T) {M : Nat} : ∀ n l (ps : List (Fnc × Bl)), Zt (Gz ((∀ p ∈ ps, WF p.1 p.2) ∧ BodyOK ps 0 ∧ l = ps.map Prod.fst) (flT ps 0) 0) (fnsR src T M n l) (fun l s' => ∃ ps : List (Fnc × Bl), Gz ((∀ p ∈ ps, WF p.1 p.2) ∧ BodyOK ps 0 ∧ l = ps.map Prod.fst) (flT ps 0) 0 s') := by
  intro n
  induction n with
  | zero => intro l ps; exact Zt.none
  | succ n ih =>
    intro l ps
    unfold fnsR
    refine Zt.ask fun b => ?_
    refine Zt.pre (P := Gz ((∀ p ∈ ps, WF p.1 p.2) ∧ BodyOK ps 0 ∧ l = ps.map Prod.fst) (flT ps 0) 0) ?_ fun s h => h.1
    cases b with
    | true =>
      rw [if_pos rfl]
      refine Zt.bind (function_z hT _ _) fun f => ?_
      refine Zt.exi fun e => ?_
      refine (ih (l ++ [f]) (ps ++ [(f, e)])).pre fun s g => g.to fun ⟨⟨h1, h2, h3⟩, h4, h5⟩ => ⟨⟨fun q hq => by
        rcases List.mem_append.1 hq with hq | hq
        · exact h1 q hq
        · rw [List.mem_singleton.1 hq]; exact h4, body_snoc ps (f, e) 0 h2 (by rw [h5, flT_len]; show _ = ((0 + kT ps + kB e : Nat) : Int); congr 1; omega), by rw [List.map_append, h3]; rfl⟩, by rw [flT_snoc, flT_len, Nat.zero_add]⟩
    | false =>
      rw [if_neg (by decide)]
      exact Zt.ret fun s g => ⟨ps, g⟩
end
/-- The tokens of any source are as they should be. -/
theorem runL_nmc_name {l : List UInt8} (h : ltr (l.headD 0) = true) (hne : l ≠ []) (hw : isWord (l.take (runL nmc l)) = false) (h8 : runL nmc l ≤ 8) : NameOK (l.take (runL nmc l)) := by
  obtain ⟨c, r, rfl⟩ := List.exists_cons_of_ne_nil hne
  have hc : ltr c = true := h
  have hn : nmc c = true := by unfold nmc; rw [hc]; rfl
  have hr : runL nmc (c :: r) = runL nmc r + 1 := by show (if nmc c then _ else 0) = _; rw [if_pos hn]
  refine ⟨?_, ?_, runL_all nmc _, ?_, hw⟩
  · rw [hr, List.take_succ_cons]; simp
  · rw [hr, List.take_succ_cons]; exact hc
  · rw [List.length_take]; omega
theorem first_TK (c : UInt8) (r : List UInt8) (h : (firstL (c :: r)).2.2 = 0) : ((firstL (c :: r)).1 = 3 → NameOK (saidL (firstL (c :: r)).1 ((c :: r).take (firstL (c :: r)).2.1))) ∧ ((firstL (c :: r)).1 = 2 → TextOK (saidL (firstL (c :: r)).1 ((c :: r).take (firstL (c :: r)).2.1))) := by
  rw [firstL_cons] at h ⊢
  by_cases h1 : dig c = true
  · rw [if_pos h1] at h ⊢
    unfold numberL at h ⊢
    split at h
    · rename_i hc; rw [if_pos hc]; exact ⟨fun h => (by cases h), fun h => by cases h⟩
    · cases h
  rw [if_neg h1] at h ⊢
  by_cases h2 : ltr c = true
  · rw [if_pos h2] at h ⊢
    unfold nameL at h ⊢
    split at h
    · rename_i hc; rw [if_pos hc]; exact ⟨fun h => (by cases h), fun h => by cases h⟩
    · rename_i hc
      rw [if_neg hc]
      split at h
      · cases h
      · rename_i h8
        rw [if_neg h8]
        exact ⟨fun _ => runL_nmc_name h2 (by simp) (by simpa using hc) (by omega), fun h => by cases h⟩
  rw [if_neg h2] at h ⊢
  by_cases h3 : c = 34
  · rw [if_pos h3] at h ⊢
    unfold textL at h ⊢
    split at h
    · rename_i hq
      rw [if_pos hq]
      split at h
      · cases h
      · rename_i h12
        rw [if_neg h12]
        refine ⟨fun h => (by cases h), fun _ => ?_⟩
        have e : saidL 2 ((c :: r).take (runL txc r + 2)) = r.take (runL txc r) := by
          have hlt : runL txc r < r.length := (List.getElem?_eq_some_iff.1 hq).1
          have e1 : (c :: r).take (runL txc r + 2) = c :: r.take (runL txc r + 1) := List.take_succ_cons
          have e2 : (c :: r.take (runL txc r + 1)).length - 1 = runL txc r + 1 := by rw [List.length_cons, List.length_take]; omega
          unfold saidL
          rw [if_pos rfl, e1, e2, List.take_succ_cons, List.drop_succ_cons, List.drop_zero, List.take_take]
          congr 1
          omega
        show TextOK (saidL 2 ((c :: r).take (runL txc r + 2)))
        rw [e]
        exact ⟨runL_all txc r, by rw [List.length_take]; omega⟩
    · cases h
  rw [if_neg h3] at h ⊢
  rw [signL_cons] at h ⊢
  split at h
  · rename_i hc; rw [if_pos hc]; exact ⟨fun h => (by cases h), fun h => by cases h⟩
  · rename_i hc
    rw [if_neg hc]
    split at h
    · rename_i hd; rw [if_pos hd]; exact ⟨fun h => (by cases h), fun h => by cases h⟩
    · cases h
def TK1 (t : Tok) : Prop := (t.k = 3 → NameOK t.x) ∧ (t.k = 2 → TextOK t.x)
theorem lex_TK : ∀ n l p, ∀ t ∈ (lexF n l p).1, TK1 t := by
  intro n
  induction n with
  | zero => intro l p t ht; rw [show t = ⟨0, [], p⟩ from List.mem_singleton.1 ht]; exact ⟨fun h => (by cases h), fun h => by cases h⟩
  | succ n ih =>
    intro l p t ht
    cases l with
    | nil => rw [show t = ⟨0, [], p⟩ from List.mem_singleton.1 ht]; exact ⟨fun h => (by cases h), fun h => by cases h⟩
    | cons c r =>
      unfold lexF at ht
      split at ht
      · exact ih _ _ t ht
      split at ht
      · split at ht
        · rw [List.mem_singleton.1 ht]; exact ⟨fun h => (by cases h), fun h => by cases h⟩
        · exact ih _ _ t ht
      split at ht
      · rename_i h0
        rcases List.mem_cons.1 ht with rfl | ht
        · exact first_TK c r h0
        · exact ih _ _ t ht
      · cases ht
theorem tk_lex (l : List UInt8) (p : Nat) : TK (lexL l p).1 := by
  intro i
  rcases Nat.lt_or_ge i (lexL l p).1.length with h | h
  · rw [List.getD, List.getElem?_eq_getElem h]
    exact lex_TK _ _ _ _ (List.getElem_mem h)
  · rw [List.getD, List.getElem?_eq_none h]
    exact ⟨fun h => (by cases h), fun h => by cases h⟩
/-- Any source's tree as syntax. -/
theorem tree_wt {M : Nat} {src : List UInt8} {nd : List Nd} {fs : List Fnc} (h : allP M src = some (.inr (nd, fs))) : ∃ ps, WT nd fs ps := by
  unfold allP at h
  split at h
  · cases h
  split at h
  · cases h
  cases hm : fnsR src (lexL src 0).1 M M [] ⟨0, 0, 0, [], 0⟩ with
  | none => rw [hm] at h; cases h
  | some r =>
    rw [hm] at h
    obtain ⟨l, s1⟩ := r
    have h1 : treeP l s1 = .inr (nd, fs) := Option.some.inj h
    unfold treeP at h1
    split at h1
    · rename_i he
      split at h1
      · cases h1
      · injection h1 with h1
        injection h1 with h2 h3
        subst h2
        subst h3
        obtain ⟨_, h5⟩ := fns_z (src := src) (tk_lex src 0) M [] [] ⟨0, 0, 0, [], 0⟩ l s1 hm he
        obtain ⟨ps, ⟨h6, h7, h8⟩, h9, _⟩ := h5 ⟨⟨fun p hp => (by cases hp), trivial, rfl⟩, rfl, rfl⟩
        exact ⟨ps, h8, h6, h9, h7⟩
    · cases h1
end Go.Proofs.YtgelggdgbmldiaaDoor

namespace Go.Proofs.YtgelggdgbmldiaaDoor
set_option linter.unusedVariables false
set_option linter.unusedSimpArgs false
/-- A piece: a token's kind, what it says, and the blanks behind it. -/
structure Pc where
  k : Nat
  x : List UInt8
  b : List UInt8
def pcB (k : Nat) (x : List UInt8) : List UInt8 := if k = 2 then 34 :: (x ++ [34]) else x
def rend (l : List Pc) : List UInt8 := l.flatMap fun p => pcB p.k p.x ++ p.b
theorem rend_append (a b : List Pc) : rend (a ++ b) = rend a ++ rend b := by unfold rend; rw [List.flatMap_append]
theorem rend_cons (p : Pc) (l : List Pc) : rend (p :: l) = pcB p.k p.x ++ p.b ++ rend l := by unfold rend; rw [List.flatMap_cons]
theorem rend_nil : rend [] = [] := rfl
def kx (p : Pc) : Nat × List UInt8 := (p.k, p.x)
def sgn (x : List UInt8) : Pc := ⟨5, x, []⟩
def lvX : Ex → Nat
  | .bin s _ _ => lvS s
  | .neg _ => 5
  | .not _ => 5
  | _ => 6
def parP (b : Bool) (l : List Pc) : List Pc := if b then sgn [40] :: (l ++ [sgn [41]]) else l
def lft (k : Nat) : Nat := if k = 2 then 3 else k
def pcE : Ex → List Pc
  | .int n => [⟨1, Lib.itoa n, []⟩]
  | .bool b => [⟨4, if b then [116, 114, 117, 101] else [102, 97, 108, 115, 101], []⟩]
  | .text s => [⟨2, s, []⟩]
  | .var s => [⟨3, s, []⟩]
  | .index s a => ⟨3, s, []⟩ :: sgn [91] :: (pcE a ++ [sgn [93]])
  | .len a => ⟨4, [108, 101, 110], []⟩ :: sgn [40] :: (pcE a ++ [sgn [41]])
  | .neg a => sgn [45] :: parP (decide (lvX a < 5)) (pcE a)
  | .not a => sgn [33] :: parP (decide (lvX a < 5)) (pcE a)
  | .bin s a b => parP (decide (lvX a < lft (lvS s))) (pcE a) ++ sgn s :: parP (decide (lvX b < lvS s + 1)) (pcE b)
/-- Further ones, a comma ahead of each. -/
def pcC : List Ex → List Pc
  | [] => []
  | e :: l => sgn [44] :: (pcE e ++ pcC l)
def pcA : List Ex → List Pc
  | [] => []
  | e :: l => pcE e ++ pcC l
def pcR : Rt → List Pc
  | .ex e => pcE e
  | .input => [⟨4, [105, 110, 112, 117, 116], []⟩]
  | .new a => ⟨4, [110, 101, 119], []⟩ :: sgn [40] :: (pcE a ++ [sgn [41]])
  | .call s l => ⟨3, s, []⟩ :: sgn [40] :: (pcA l ++ [sgn [41]])
def endP : Pc := ⟨5, [59], [10]⟩
def opP : Pc := ⟨5, [123], [10]⟩
def clP : Pc := ⟨5, [125], [10]⟩
mutual
def pcS : Stm → List Pc
  | .lt s r => ⟨4, [108, 101, 116], [32]⟩ :: ⟨3, s, []⟩ :: sgn [61] :: (pcR r ++ [endP])
  | .set s r => ⟨3, s, []⟩ :: sgn [61] :: (pcR r ++ [endP])
  | .put s a b => ⟨3, s, []⟩ :: sgn [91] :: (pcE a ++ sgn [93] :: sgn [61] :: (pcE b ++ [endP]))
  | .doo s l => pcR (.call s l) ++ [endP]
  | .print a => ⟨4, [112, 114, 105, 110, 116], [32]⟩ :: (pcE a ++ [endP])
  | .ret0 => [⟨4, [114, 101, 116, 117, 114, 110], []⟩, endP]
  | .ret1 a => ⟨4, [114, 101, 116, 117, 114, 110], [32]⟩ :: (pcE a ++ [endP])
  | .ifs c a => ⟨4, [105, 102], [32]⟩ :: (pcE c ++ opP :: (pcL a ++ [clP]))
  | .ifelse c a d => ⟨4, [105, 102], [32]⟩ :: (pcE c ++ opP :: (pcL a ++ clP :: ⟨4, [101, 108, 115, 101], []⟩ :: opP :: (pcL d ++ [clP])))
  | .whil c a => ⟨4, [119, 104, 105, 108, 101], [32]⟩ :: (pcE c ++ opP :: (pcL a ++ [clP]))
def pcL : Bl → List Pc
  | .nil => []
  | .cons s l => pcS s ++ pcL l
end
def wrd (t : Int) : List UInt8 := if t = 1 then [105, 110, 116] else if t = 2 then [98, 111, 111, 108] else if t = 3 then [116, 101, 120, 116] else if t = 4 then [108, 105, 115, 116] else []
def pcM (p : List UInt8 × Int) : List Pc := [⟨3, p.1, [32]⟩, ⟨4, wrd p.2, []⟩]
def pcN : List (List UInt8 × Int) → List Pc
  | [] => []
  | p :: l => sgn [44] :: (pcM p ++ pcN l)
def pcO : List (List UInt8 × Int) → List Pc
  | [] => []
  | p :: l => pcM p ++ pcN l
def pcW (t : Int) : List Pc := if t = 0 then [] else [⟨4, wrd t, []⟩]
def pcF (p : Fnc × Bl) : List Pc := ⟨4, [102, 110], [32]⟩ :: ⟨3, p.1.s, []⟩ :: sgn [40] :: (pcO p.1.ps ++ sgn [41] :: (pcW p.1.ret ++ opP :: (pcL p.2 ++ [clP])))
def pcT (l : List (Fnc × Bl)) : List Pc := l.flatMap pcF

/-! When pieces, one behind the other, are tokens. -/
def TokP (k : Nat) (x : List UInt8) : Prop :=
  (k = 1 ∧ x ≠ [] ∧ (∀ c ∈ x, dig c = true) ∧ numV x ≤ 9223372036854775807 ∧ x.length ≤ 19) ∨ (k = 2 ∧ TextOK x) ∨ (k = 3 ∧ NameOK x) ∨ (k = 4 ∧ x ∈ wordsL) ∨ (k = 5 ∧ (x ∈ twosL ∨ ∃ c ∈ onesL, x = [c]))
def nxOK (k : Nat) (x : List UInt8) : Option UInt8 → Prop
  | none => True
  | some c => (k = 1 → dig c = false) ∧ (k = 3 ∨ k = 4 → nmc c = false) ∧ (k = 5 → (x = [47] → c ≠ 47) ∧ (x = [60] ∨ x = [61] ∨ x = [33] → c ≠ 61))
def hdP : List Pc → Option UInt8 → Option UInt8
  | [], c => c
  | p :: _, _ => (pcB p.k p.x).head?
def LexP : List Pc → Option UInt8 → Prop
  | [], _ => True
  | p :: l, c => TokP p.k p.x ∧ (∀ d ∈ p.b, d = 32 ∨ d = 10) ∧ nxOK p.k p.x (match p.b with | [] => hdP l c | d :: _ => some d) ∧ LexP l c
theorem hdP_append (a b : List Pc) (c : Option UInt8) : hdP (a ++ b) c = hdP a (hdP b c) := by cases a <;> rfl
theorem LexP_append : ∀ (a b : List Pc) (c : Option UInt8), LexP a (hdP b c) → LexP b c → LexP (a ++ b) c
  | [], b, c, _, h => h
  | p :: a, b, c, h, h2 => by
    obtain ⟨h3, h4, h5, h6⟩ := h
    refine ⟨h3, h4, ?_, LexP_append a b c h6 h2⟩
    rw [show (a.append b) = a ++ b from rfl, hdP_append]
    exact h5
theorem dig_range {c : UInt8} (h : dig c = true) : 48 ≤ c.toNat ∧ c.toNat ≤ 57 := by unfold dig at h; simpa using h
theorem ltr_dig {c : UInt8} (h : ltr c = true) : dig c = false := by
  unfold ltr at h
  unfold dig
  simp at h ⊢
  omega
theorem word_ltr {x : List UInt8} (h : x ∈ wordsL) : x ≠ [] ∧ ltr (x.headD 0) = true ∧ (∀ c ∈ x, nmc c = true) ∧ isWord x = true := (by decide : ∀ x ∈ wordsL, x ≠ [] ∧ ltr (x.headD 0) = true ∧ (∀ c ∈ x, nmc c = true) ∧ isWord x = true) x h
theorem two_ok {x : List UInt8} (h : x ∈ twosL) : ∃ c d, x = [c, d] ∧ dig c = false ∧ ltr c = false ∧ c ≠ 34 ∧ blk c = false ∧ c ≠ 47 := by
  have h0 : ∀ x ∈ twosL, (x.length = 2 ∧ dig (x.headD 0) = false ∧ ltr (x.headD 0) = false ∧ (x.headD 0) ≠ 34 ∧ blk (x.headD 0) = false ∧ (x.headD 0) ≠ 47) := by decide
  obtain ⟨h1, h2⟩ := h0 x h
  match x, h1 with
  | [c, d], _ => exact ⟨c, d, rfl, h2⟩
theorem one_ok {c : UInt8} (h : c ∈ onesL) : dig c = false ∧ ltr c = false ∧ c ≠ 34 ∧ blk c = false ∧ onesL.contains c = true := (by decide : ∀ c ∈ onesL, dig c = false ∧ ltr c = false ∧ c ≠ 34 ∧ blk c = false ∧ onesL.contains c = true) c h
theorem isTwo_cons (x : List UInt8) (h : x ∈ twosL) (r : List UInt8) : isTwo (x ++ r) = true := by
  unfold isTwo
  rw [List.any_eq_true]
  refine ⟨x, h, ?_⟩
  simp
theorem not_two {c d : UInt8} {r : List UInt8} (hc : c ∈ onesL) (h : c = 60 ∨ c = 61 ∨ c = 33 → d ≠ 61) : isTwo (c :: d :: r) = false := by
  unfold isTwo
  rw [List.any_eq_false]
  intro t ht
  have h1 : c ≠ 124 ∧ c ≠ 38 := (by decide : ∀ c ∈ onesL, c ≠ 124 ∧ c ≠ 38) c hc
  have h2 : t = [124, 124] ∨ t = [38, 38] ∨ t = [60, 61] ∨ t = [61, 61] ∨ t = [33, 61] := by simpa [twosL] using ht
  rcases h2 with rfl | rfl | rfl | rfl | rfl
  · simp [List.isPrefixOf, h1.1, Ne.symm h1.1]
  · simp [List.isPrefixOf, h1.2, Ne.symm h1.2]
  · simp only [List.isPrefixOf, Bool.and_true, Bool.and_eq_true, beq_iff_eq]
    rintro ⟨rfl, rfl⟩
    exact h (.inl rfl) rfl
  · simp only [List.isPrefixOf, Bool.and_true, Bool.and_eq_true, beq_iff_eq]
    rintro ⟨rfl, rfl⟩
    exact h (.inr (.inl rfl)) rfl
  · simp only [List.isPrefixOf, Bool.and_true, Bool.and_eq_true, beq_iff_eq]
    rintro ⟨rfl, rfl⟩
    exact h (.inr (.inr rfl)) rfl
theorem not_two1 {c : UInt8} : isTwo [c] = false := by
  unfold isTwo
  rw [List.any_eq_false]
  intro t ht
  have : t.length = 2 := (by decide : ∀ t ∈ twosL, t.length = 2) t ht
  intro h
  have := (List.isPrefixOf_iff_prefix.1 h).length_le
  simp at this
  omega
theorem runL_app_stop (p : UInt8 → Bool) (x r : List UInt8) (hx : ∀ c ∈ x, p c = true) (hr : ∀ c, r.head? = some c → p c = false) : runL p (x ++ r) = x.length := by
  rw [runL_append p x r hx]
  cases r with
  | nil => rfl
  | cons c r => rw [runL_cons_false p c r (hr c rfl)]; rfl
theorem take_app (x r : List UInt8) : (x ++ r).take x.length = x := by simp
/-- The first token of a piece and what is behind it. -/
theorem first_pc {k : Nat} {x r : List UInt8} (h : TokP k x) (hr : nxOK k x r.head?) : ∃ c t, pcB k x ++ r = c :: t ∧ blk c = false ∧ isRem (c :: t) = false ∧ firstL (c :: t) = (k, (pcB k x).length, 0) ∧ saidL k (pcB k x) = x := by
  rcases h with ⟨rfl, h1, h2, h3, h4⟩ | ⟨rfl, h1, h2⟩ | ⟨rfl, h1⟩ | ⟨rfl, h1⟩ | ⟨rfl, h1⟩
  · obtain ⟨c, y, rfl⟩ := List.exists_cons_of_ne_nil h1
    have hc := h2 c (by simp)
    have hd := dig_range hc
    refine ⟨c, y ++ r, rfl, ?_, ?_, ?_, rfl⟩
    · unfold blk; simp; omega
    · unfold isRem
      have : c ≠ 47 := fun e => by rw [e] at hd; exact absurd hd (by decide)
      simp [List.isPrefixOf, this, Ne.symm this]
    · have e : runL dig (c :: (y ++ r)) = (c :: y).length := runL_app_stop dig (c :: y) r h2 (fun d hd => by rw [hd] at hr; exact hr.1 rfl)
      rw [firstL_cons, if_pos hc]
      unfold numberL
      rw [e, show (c :: (y ++ r)) = (c :: y) ++ r from rfl, take_app, if_pos ⟨h3, h4⟩]
      rfl
  · refine ⟨34, x ++ [34] ++ r, by show 34 :: (x ++ [34]) ++ r = _; rfl, by decide, by unfold isRem; simp [List.isPrefixOf], ?_, ?_⟩
    · rw [firstL_cons, if_neg (by decide), if_neg (by decide), if_pos rfl]
      have e : runL txc (x ++ [34] ++ r) = x.length := by
        rw [List.append_assoc]
        exact runL_app_stop txc x ([34] ++ r) h1 (fun d hd => by
          have : d = 34 := (Option.some.inj hd).symm
          rw [this]; rfl)
      unfold textL
      rw [e, if_pos (by rw [List.append_assoc, List.getElem?_append_right (Nat.le_refl _), Nat.sub_self]; rfl), if_neg (by omega)]
      show (2, x.length + 2, 0) = (2, (34 :: (x ++ [34])).length, 0)
      rw [List.length_cons, List.length_append]
      rfl
    · show ((34 :: (x ++ [34])).take ((34 :: (x ++ [34])).length - 1)).drop 1 = x
      rw [List.length_cons, List.length_append]
      show ((34 :: (x ++ [34])).take (x.length + 1)).drop 1 = x
      rw [List.take_succ_cons, List.drop_succ_cons, List.drop_zero, take_app]
  · obtain ⟨h1, h2, h3, h4, h5⟩ := h1
    obtain ⟨c, y, rfl⟩ := List.exists_cons_of_ne_nil h1
    have hc : ltr c = true := h2
    have hl : (97 ≤ c.toNat ∧ c.toNat ≤ 122) ∨ (65 ≤ c.toNat ∧ c.toNat ≤ 90) := by unfold ltr at hc; simpa using hc
    refine ⟨c, y ++ r, rfl, ?_, ?_, ?_, rfl⟩
    · unfold blk; simp; omega
    · unfold isRem
      have : c ≠ 47 := fun e => by rw [e] at hl; exact absurd hl (by decide)
      simp [List.isPrefixOf, this, Ne.symm this]
    · have e : runL nmc (c :: (y ++ r)) = (c :: y).length := runL_app_stop nmc (c :: y) r h3 (fun d hd => by rw [hd] at hr; exact hr.2.1 (.inl rfl))
      rw [firstL_cons, if_neg (by rw [ltr_dig hc]; decide), if_pos hc]
      unfold nameL
      rw [e, show (c :: (y ++ r)) = (c :: y) ++ r from rfl, take_app, if_neg (by rw [h5]; decide), if_neg (by omega)]
      rfl
  · obtain ⟨h1, h2, h3, h5⟩ := word_ltr h1
    obtain ⟨c, y, rfl⟩ := List.exists_cons_of_ne_nil h1
    have hc : ltr c = true := h2
    have hl : (97 ≤ c.toNat ∧ c.toNat ≤ 122) ∨ (65 ≤ c.toNat ∧ c.toNat ≤ 90) := by unfold ltr at hc; simpa using hc
    refine ⟨c, y ++ r, rfl, ?_, ?_, ?_, rfl⟩
    · unfold blk; simp; omega
    · unfold isRem
      have : c ≠ 47 := fun e => by rw [e] at hl; exact absurd hl (by decide)
      simp [List.isPrefixOf, this, Ne.symm this]
    · have e : runL nmc (c :: (y ++ r)) = (c :: y).length := runL_app_stop nmc (c :: y) r h3 (fun d hd => by rw [hd] at hr; exact hr.2.1 (.inr rfl))
      rw [firstL_cons, if_neg (by rw [ltr_dig hc]; decide), if_pos hc]
      unfold nameL
      rw [e, show (c :: (y ++ r)) = (c :: y) ++ r from rfl, take_app, if_pos h5]
      rfl
  · rcases h1 with h1 | ⟨c, h1, rfl⟩
    · obtain ⟨c, d, rfl, h2, h3, h4, h5, h6⟩ := two_ok h1
      refine ⟨c, d :: r, rfl, h5, ?_, ?_, rfl⟩
      · unfold isRem
        simp [List.isPrefixOf, h6, Ne.symm h6]
      · rw [firstL_cons, if_neg (by rw [h2]; decide), if_neg (by rw [h3]; decide), if_neg h4]
        unfold signL
        rw [if_pos (show isTwo (c :: d :: r) = true from isTwo_cons [c, d] h1 r)]
        rfl
    · obtain ⟨h2, h3, h4, h5, h6⟩ := one_ok h1
      refine ⟨c, r, rfl, h5, ?_, ?_, rfl⟩
      · unfold isRem
        cases r with
        | nil => simp [List.isPrefixOf]
        | cons d r =>
          simp only [List.isPrefixOf, Bool.and_true]
          by_cases h47 : c = 47
          · have : d ≠ 47 := (hr.2.2 rfl).1 (by rw [h47])
            simp [this, Ne.symm this]
          · simp [h47, Ne.symm h47]
      · have ht : isTwo (c :: r) = false := by
          cases r with
          | nil => exact not_two1
          | cons d r => exact not_two h1 (fun hc => (hr.2.2 rfl).2 (by rcases hc with rfl | rfl | rfl <;> simp))
        rw [firstL_cons, if_neg (by rw [h2]; decide), if_neg (by rw [h3]; decide), if_neg h4]
        unfold signL
        rw [if_neg (by rw [ht]; decide), if_pos (by simpa using h6)]
        rfl
/-- Blanks say nothing. -/
theorem lex_blanks : ∀ (b l : List UInt8) (n p : Nat), (∀ d ∈ b, d = 32 ∨ d = 10) → b.length + l.length ≤ n → ∃ m q, lexF n (b ++ l) p = lexF m l q ∧ l.length ≤ m
  | [], l, n, p, _, h => ⟨n, p, rfl, by simpa using h⟩
  | d :: b, l, 0, p, _, h => absurd h (by simp)
  | d :: b, l, n + 1, p, hb, h => by
    have hd : blk d = true := by
      rcases hb d (by simp) with rfl | rfl <;> decide
    obtain ⟨m, q, h1, h2⟩ := lex_blanks b l n (p + 1) (fun e he => hb e (by simp [he])) (by simp at h; omega)
    refine ⟨m, q, ?_, h2⟩
    rw [List.cons_append]
    conv => lhs; unfold lexF
    rw [if_pos hd]
    exact h1
theorem rend_head (l : List Pc) (h : LexP l none) : (rend l).head? = hdP l none := by
  cases l with
  | nil => rfl
  | cons p l =>
    rw [rend_cons]
    show _ = (pcB p.k p.x).head?
    have hne : pcB p.k p.x ≠ [] := by
      unfold pcB
      split
      · simp
      · rename_i h2
        rcases h.1 with ⟨_, h1, _⟩ | ⟨h1, _⟩ | ⟨_, h1, _⟩ | ⟨_, h1⟩ | ⟨_, h1 | ⟨c, _, h1⟩⟩
        · exact h1
        · exact absurd h1 h2
        · exact h1
        · exact (word_ltr h1).1
        · obtain ⟨c, d, h1, _⟩ := two_ok h1
          rw [h1]; simp
        · rw [h1]; simp
    obtain ⟨c, y, hc⟩ := List.exists_cons_of_ne_nil hne
    rw [hc]
    rfl
/-- Pieces that may stand so are the tokens. -/
theorem lex_pcs : ∀ (l : List Pc) (n p : Nat), LexP l none → (rend l).length ≤ n → ∃ T, lexF n (rend l) p = (T, none) ∧ T.map (fun t => (t.k, t.x)) = l.map kx ++ [(0, [])]
  | [], n, p, _, _ => by
    cases n with
    | zero => exact ⟨_, rfl, rfl⟩
    | succ n => exact ⟨_, rfl, rfl⟩
  | q :: l, n, p, h, hn => by
    obtain ⟨h1, h2, h3, h4⟩ := h
    rw [rend_cons] at hn ⊢
    have hh : (q.b ++ rend l).head? = (match q.b with | [] => hdP l none | d :: _ => some d) := by
      cases q.b with
      | nil => exact rend_head l h4
      | cons d b => rfl
    obtain ⟨c, t, e1, e2, e3, e4, e5⟩ := first_pc (r := q.b ++ rend l) h1 (by rw [hh]; exact h3)
    rw [List.append_assoc] at hn ⊢
    cases n with
    | zero => rw [e1] at hn; exact absurd hn (by simp)
    | succ n =>
      have hl1 : 1 ≤ (pcB q.k q.x).length := by
        have h6 := first_size (c :: t) (by simp) (by rw [e4])
        rw [e4] at h6
        exact h6.1
      rw [List.length_append, List.length_append] at hn
      obtain ⟨m, r, e6, e7⟩ := lex_blanks q.b (rend l) n (p + (pcB q.k q.x).length) h2 (by omega)
      obtain ⟨T, e8, e9⟩ := lex_pcs l m r h4 e7
      rw [e1]
      conv => enter [1, T, 1, 1]; unfold lexF
      rw [if_neg (by rw [e2]; decide), if_neg (by rw [e3]; decide), e4, if_pos rfl]
      show ∃ T, ((⟨q.k, saidL q.k ((c :: t).take (pcB q.k q.x).length), p⟩ : Tok) :: (lexF n ((c :: t).drop (pcB q.k q.x).length) (p + (pcB q.k q.x).length)).1, (lexF n ((c :: t).drop (pcB q.k q.x).length) (p + (pcB q.k q.x).length)).2) = (T, none) ∧ _
      rw [← e1, take_app, e5, List.drop_left, e6, e8]
      exact ⟨_, rfl, by show (q.k, q.x) :: T.map _ = kx q :: (l.map kx ++ [(0, [])]); rw [e9]; rfl⟩
end Go.Proofs.YtgelggdgbmldiaaDoor
