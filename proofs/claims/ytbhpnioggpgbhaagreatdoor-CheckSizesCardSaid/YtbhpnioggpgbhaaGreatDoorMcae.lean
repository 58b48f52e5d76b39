/-
 Layer 3: a source's tree as syntax: statements, functions (data). Written by an AI agent.
 Layer 3: where nodes stand (data). Written by an AI agent.
 Layer 4: what a program is, and how a source is refused (data). Written by an AI agent.
-/
import Derived.Test.YtbhpnioggpgbhaaGreatDoorMcad
namespace Go.Proofs.YtbhpnioggpgbhaaGreatDoor
set_option linter.unusedVariables false
set_option linter.unusedSimpArgs false
section
variable {src : List UInt8} {T : List Tok} {F : Prop} {N : List Nd} {D : Int}
theorem len_R (N : List Nd) (r : Rt) : (N ++ flR r N.length).length = N.length + kR r + 1 := by rw [List.length_append, flR_len]; omega
theorem len_K (N : List Nd) (a : Bl) : (N ++ flK a N.length).length = N.length + kB a + 1 := by rw [List.length_append, flK_len]; omega
theorem len_Es (N : List Nd) (l : List Ex) : (N ++ flEs l N.length).length = N.length + kEs l := by rw [List.length_append, flEs_len]
def LZ (m : PM (List Int)) : Prop := ∀ F N D, Zt (Gz F N D) m (fun l s' => ∃ es, Gz (F ∧ (∀ e ∈ es, WE 0 D e) ∧ l = rootEs es N.length) (N ++ flEs es N.length) D s')
theorem comma_z {ex : PM Int} (hx : EZ 0 ex) (F : Prop) (N : List Nd) (D : Int) : ∀ n l es, Zt (Gz (F ∧ (∀ e ∈ es, WE 0 D e) ∧ l = rootEs es N.length) (N ++ flEs es N.length) D) (commaR T ex n l) (fun l s' => ∃ es, Gz (F ∧ (∀ e ∈ es, WE 0 D e) ∧ l = rootEs es N.length) (N ++ flEs es N.length) D s') := by
 intro n
 induction n with
 | zero => intro l es; exact Zt.none
 | succ n ih =>
  intro l es
  unfold commaR
  refine Zt.ask fun b => ?_
  refine Zt.pre (P := Gz (F ∧ (∀ e ∈ es, WE 0 D e) ∧ l = rootEs es N.length) (N ++ flEs es N.length) D) ?_ fun s h => h.1
  cases b with
  | true =>
   rw [if_pos rfl]
   refine Zt.mod (fun s h => next_z s h) ?_
   refine Zt.bind (hx _ _ _) fun x => ?_
   refine Zt.exi fun e => ?_
   refine (ih (l ++ [x]) (es ++ [e])).pre fun s g => g.to fun ⟨⟨h1, h2, h3⟩, h4, h5⟩ => ⟨⟨h1, fun q hq => by
    rcases List.mem_append.1 hq with hq | hq
    ·exact h2 q hq
    ·rw [List.mem_singleton.1 hq]; exact h4, ?_⟩, ?_⟩
   ·rw [rootEs_snoc, h3, h5, len_Es]
   ·rw [flEs_snoc, len_Es, List.append_assoc]
  | false =>
   rw [if_neg (by decide)]
   exact Zt.ret fun s g => ⟨es, g⟩
theorem args_z {ex : PM Int} (hx : EZ 0 ex) (n : Nat) : LZ (argsM T n ex) := by
 intro F N D
 unfold argsM
 refine Zt.ask fun b => ?_
 refine Zt.pre (P := Gz F N D) ?_ fun s h => h.1
 cases b with
 | true =>
  rw [if_pos rfl]
  exact Zt.ret fun s g => ⟨[], g.to fun h => ⟨⟨h, fun e he => (by cases he), rfl⟩, by show N = N ++ []; simp⟩⟩
 | false =>
  rw [if_neg (by decide)]
  refine Zt.bind (hx _ _ _) fun x => ?_
  refine Zt.exi fun e => ?_
  refine (comma_z hx F N D n [x] [e]).pre fun s g => g.to fun ⟨h1, h2, h3⟩ => ⟨⟨h1, fun q hq => by rw [List.mem_singleton.1 hq]; exact h2, by rw [h3]; rfl⟩, by show _ = N ++ (flE e N.length ++ []); simp⟩
theorem call_z (hT : TK T) {ex : PM Int} (hx : EZ 0 ex) (n : Nat) (F : Prop) (N : List Nd) (D : Int) : Zt (Gz F N D) (callM src T n ex) (fun x s' => ∃ p : List UInt8 × List Ex, Gz (F ∧ WR D (.call p.1 p.2) ∧ x = ((N.length + kEs p.2 : Nat) : Int)) (N ++ flR (.call p.1 p.2) N.length) D s') := by
 unfold callM
 refine Zt.ask fun ln => ?_
 refine Zt.ask fun x => ?_
 refine Zt.mod (R := Gz (F ∧ NameOK x) N D) (fun s h => ⟨(name_z (F := F) (N := N) (D := D) hT x s h).1, fun g => (name_z hT x s h).2 ⟨g.1.1, g.2⟩⟩) ?_
 refine Zt.mod (fun s h => want_z _ s h) ?_
 refine Zt.bind (args_z hx n _ _ _) fun l => ?_
 refine Zt.exi fun es => ?_
 refine Zt.mod (fun s h => want_z _ s h) ?_
 exact (node_z _ _).mono (fun _ h => h) fun x2 s g => ⟨(x, es), g.to fun ⟨⟨⟨h1, h2⟩, h3, h4⟩, h5⟩ => ⟨⟨h1, ⟨h2, h3⟩, by rw [h5, len_Es]⟩, by rw [h4, List.append_assoc]; rfl⟩⟩
theorem right_z (hT : TK T) {ex : PM Int} (hx : EZ 0 ex) (n : Nat) : RZ (rightM src T n ex) := by
 intro F N D
 unfold rightM
 refine Zt.ask fun ln => ?_
 refine Zt.ask fun b => ?_
 refine Zt.pre (P := Gz F N D) ?_ fun s h => h.1.1
 cases b with
 | true =>
  rw [if_pos rfl]
  refine Zt.mod (fun s h => next_z s h) ?_
  exact (node_z _ _).mono (fun _ h => h) fun x2 s g => ⟨.input, g.to fun ⟨h1, h2⟩ => ⟨⟨h1, trivial, by rw [h2]; rfl⟩, rfl⟩⟩
 | false =>
  rw [if_neg (by decide)]
  refine Zt.ask fun b => ?_
  refine Zt.pre (P := Gz F N D) ?_ fun s h => h.1
  cases b with
  | true =>
   rw [if_pos rfl]
   refine Zt.mod (fun s h => next_z s h) ?_
   refine Zt.mod (fun s h => want_z _ s h) ?_
   refine Zt.bind (hx _ _ _) fun x => ?_
   refine Zt.exi fun e => ?_
   refine Zt.mod (fun s h => want_z _ s h) ?_
   exact (node_z _ _).mono (fun _ h => h) fun x2 s g => ⟨.new e, g.to fun ⟨⟨h1, h2, h3⟩, h4⟩ => ⟨⟨h1, h2, by rw [h4, app_nil_len]; rfl⟩, by rw [h3, List.append_assoc]; rfl⟩⟩
  | false =>
   rw [if_neg (by decide)]
   refine Zt.ask fun b => ?_
   refine Zt.pre (P := Gz F N D) ?_ fun s h => h.1
   cases b with
   | true =>
    rw [if_pos rfl]
    exact (call_z hT hx n F N D).mono (fun _ h => h) fun x s ⟨p, g⟩ => ⟨.call p.1 p.2, g⟩
   | false =>
    rw [if_neg (by decide)]
    exact (hx F N D).mono (fun _ h => h) fun x s ⟨e, g⟩ => ⟨.ex e, g⟩
theorem ended_z (n : Nd) (xs : List Int) : Zt (Gz F N D) (endedM T n xs) (fun x s' => Gz (F ∧ x = ((N.length : Nat) : Int)) (N ++ [⟨n.k, 0, n.n, n.s, xs⟩]) D s') := by
 unfold endedM
 exact Zt.mod (fun s h => want_z _ s h) (node_z n xs)
theorem change_z (hT : TK T) {ex : PM Int} (hx : EZ 0 ex) (n : Nat) (ln : Int) : SZ (changeM src T n ex ln) := by
 intro F N D
 unfold changeM
 refine Zt.ask fun x => ?_
 refine Zt.mod (R := Gz (F ∧ NameOK x) N D) (fun s h => name_z hT x s h) ?_
 refine Zt.ask fun b => ?_
 refine Zt.pre (P := Gz (F ∧ NameOK x) N D) ?_ fun s h => h.1
 cases b with
 | true =>
  rw [if_pos rfl]
  refine Zt.bind (open_z _) fun _ => ?_
  refine Zt.bind (hx _ _ _) fun y => ?_
  refine Zt.exi fun e => ?_
  refine Zt.bind (shut_z _) fun _ => ?_
  refine Zt.mod (fun s h => want_z _ s h) ?_
  refine Zt.bind (hx _ _ _) fun z => ?_
  refine Zt.exi fun e2 => ?_
  refine (ended_z _ _).mono (fun _ h => h) fun x2 s g => ⟨.put x e e2, g.to fun ⟨⟨⟨⟨⟨h1, h2⟩, h3⟩, h4, h5⟩, h6, h7⟩, h8⟩ => ⟨⟨h1, ?_, ?_⟩, ?_⟩⟩
  ·unfold WS
   exact ⟨h2, h3, h4, h6⟩
  ·rw [h8, List.length_append, app_nil_len, flE_len]
   unfold kS
   congr 1
   omega
  ·unfold flS
   rw [h5, h7, app_nil_len]
   simp only [List.append_assoc]
 | false =>
  rw [if_neg (by decide)]
  refine Zt.mod (fun s h => want_z _ s h) ?_
  refine Zt.bind (right_z hT hx n _ _ _) fun y => ?_
  refine Zt.exi fun r => ?_
  refine (ended_z _ _).mono (fun _ h => h) fun x2 s g => ⟨.set x r, g.to fun ⟨⟨⟨h1, h2⟩, h3, h4⟩, h5⟩ => ⟨⟨h1, ?_, ?_⟩, ?_⟩⟩
  ·unfold WS
   exact ⟨h2, h3⟩
  ·rw [h5, len_R]
   unfold kS
   rfl
  ·unfold flS
   rw [h4, List.append_assoc]
theorem choice_z {ex bl : PM Int} (hx : EZ 0 ex) (hb : KZ bl) (ln : Int) : SZ (choiceM T ex bl ln) := by
 intro F N D
 unfold choiceM
 refine Zt.mod (fun s h => next_z s h) ?_
 refine Zt.bind (hx _ _ _) fun x => ?_
 refine Zt.exi fun c => ?_
 refine Zt.bind (hb _ _ _) fun y => ?_
 refine Zt.exi fun a => ?_
 refine Zt.ask fun b => ?_
 refine Zt.pre (P := Gz ((F ∧ WE 0 D c ∧ x = ((N.length + kE c : Nat) : Int)) ∧ (D < 16 ∧ WB (D + 1) a) ∧ y = (((N ++ flE c N.length).length + kB a : Nat) : Int)) (N ++ flE c N.length ++ flK a (N ++ flE c N.length).length) D) ?_ fun s h => h.1
 cases b with
 | true =>
  rw [if_pos rfl]
  refine Zt.mod (fun s h => next_z s h) ?_
  refine Zt.bind (hb _ _ _) fun z => ?_
  refine Zt.exi fun d => ?_
  refine (node_z _ _).mono (fun _ h => h) fun x2 s g => ⟨.ifelse c a d, g.to fun ⟨⟨⟨⟨h1, h2, h3⟩, ⟨h4, h5⟩, h6⟩, ⟨h7, h8⟩, h9⟩, h10⟩ => ⟨⟨h1, ?_, ?_⟩, ?_⟩⟩
  ·unfold WS
   exact ⟨h2, h4, h5, h8⟩
  ·rw [h10, List.length_append, len_K, app_nil_len, flK_len]
   unfold kS
   congr 1
   omega
  ·unfold flS
   rw [h3, h6, h9, len_K, app_nil_len]
   unfold flK
   simp only [List.append_assoc]
 | false =>
  rw [if_neg (by decide)]
  refine (node_z _ _).mono (fun _ h => h) fun x2 s g => ⟨.ifs c a, g.to fun ⟨⟨⟨h1, h2, h3⟩, ⟨h4, h5⟩, h6⟩, h10⟩ => ⟨⟨h1, ?_, ?_⟩, ?_⟩⟩
  ·unfold WS
   exact ⟨h2, h4, h5⟩
  ·rw [h10, len_K, app_nil_len]
   unfold kS
   congr 1
   omega
  ·unfold flS
   rw [h3, h6, app_nil_len]
   unfold flK
   simp only [List.append_assoc]
theorem statement_z (hT : TK T) {ex bl : PM Int} (hx : EZ 0 ex) (hb : KZ bl) (n : Nat) : SZ (statementM src T n ex bl) := by
 intro F N D
 unfold statementM
 refine Zt.ask fun ln => ?_
 refine Zt.ask fun b => ?_
 refine Zt.pre (P := Gz F N D) ?_ fun s h => h.1.1
 cases b with
 | true => rw [if_pos rfl]; exact choice_z hx hb ln F N D
 | false =>
 rw [if_neg (by decide)]
 refine Zt.ask fun b => ?_
 refine Zt.pre (P := Gz F N D) ?_ fun s h => h.1
 cases b with
 | true =>
  rw [if_pos rfl]
  refine Zt.mod (fun s h => next_z s h) ?_
  refine Zt.bind (hx _ _ _) fun x => ?_
  refine Zt.exi fun c => ?_
  refine Zt.bind (hb _ _ _) fun y => ?_
  refine Zt.exi fun a => ?_
  refine (node_z _ _).mono (fun _ h => h) fun x2 s g => ⟨.whil c a, g.to fun ⟨⟨⟨h1, h2, h3⟩, ⟨h4, h5⟩, h6⟩, h10⟩ => ⟨⟨h1, ?_, ?_⟩, ?_⟩⟩
  ·unfold WS
   exact ⟨h2, h4, h5⟩
  ·rw [h10, len_K, app_nil_len]
   unfold kS
   congr 1
   omega
  ·unfold flS
   rw [h3, h6, app_nil_len]
   unfold flK
   simp only [List.append_assoc]
 | false =>
 rw [if_neg (by decide)]
 refine Zt.ask fun b => ?_
 refine Zt.pre (P := Gz F N D) ?_ fun s h => h.1
 cases b with
 | true =>
  rw [if_pos rfl]
  refine Zt.bind (call_z hT hx n _ _ _) fun x => ?_
  refine Zt.exi fun p => ?_
  refine (ended_z _ _).mono (fun _ h => h) fun x2 s g => ⟨.doo p.1 p.2, g.to fun ⟨⟨h1, h2, h3⟩, h4⟩ => ⟨⟨h1, ?_, ?_⟩, ?_⟩⟩
  ·unfold WS
   exact h2
  ·rw [h4, len_R]
   unfold kS
   rfl
  ·unfold flS
   rw [h3, List.append_assoc]
 | false =>
 rw [if_neg (by decide)]
 refine Zt.ask fun b => ?_
 refine Zt.pre (P := Gz F N D) ?_ fun s h => h.1
 cases b with
 | true =>
  rw [if_pos rfl]
  refine Zt.mod (fun s h => next_z s h) ?_
  refine Zt.bind (hx _ _ _) fun x => ?_
  refine Zt.exi fun e => ?_
  refine (ended_z _ _).mono (fun _ h => h) fun x2 s g => ⟨.print e, g.to fun ⟨⟨h1, h2, h3⟩, h4⟩ => ⟨⟨h1, ?_, ?_⟩, ?_⟩⟩
  ·unfold WS
   exact h2
  ·rw [h4, app_nil_len]
   unfold kS
   rfl
  ·unfold flS
   rw [h3, List.append_assoc]
 | false =>
 rw [if_neg (by decide)]
 refine Zt.ask fun b => ?_
 refine Zt.pre (P := Gz F N D) ?_ fun s h => h.1
 cases b with
 | true =>
  rw [if_pos rfl]
  refine Zt.mod (fun s h => next_z s h) ?_
  refine Zt.ask fun b => ?_
  refine Zt.pre (P := Gz F N D) ?_ fun s h => h.1
  cases b with
  | true =>
   rw [if_pos rfl]
   refine (ended_z _ _).mono (fun _ h => h) fun x2 s g => ⟨.ret0, g.to fun ⟨h1, h2⟩ => ⟨⟨h1, ?_, ?_⟩, ?_⟩⟩
   ·unfold WS; trivial
   ·rw [h2]; unfold kS; rfl
   ·unfold flS; rfl
  | false =>
   rw [if_neg (by decide)]
   refine Zt.bind (hx _ _ _) fun x => ?_
   refine Zt.exi fun e => ?_
   refine (ended_z _ _).mono (fun _ h => h) fun x2 s g => ⟨.ret1 e, g.to fun ⟨⟨h1, h2, h3⟩, h4⟩ => ⟨⟨h1, ?_, ?_⟩, ?_⟩⟩
   ·unfold WS
    exact h2
   ·rw [h4, app_nil_len]
    unfold kS
    rfl
   ·unfold flS
    rw [h3, List.append_assoc]
 | false =>
 rw [if_neg (by decide)]
 refine Zt.ask fun b => ?_
 refine Zt.pre (P := Gz F N D) ?_ fun s h => h.1
 cases b with
 | true =>
  rw [if_pos rfl]
  refine Zt.mod (fun s h => next_z s h) ?_
  refine Zt.ask fun x => ?_
  refine Zt.mod (R := Gz (F ∧ NameOK x) N D) (fun s h => name_z hT x s h) ?_
  refine Zt.mod (fun s h => want_z _ s h) ?_
  refine Zt.bind (right_z hT hx n _ _ _) fun y => ?_
  refine Zt.exi fun r => ?_
  refine (ended_z _ _).mono (fun _ h => h) fun x2 s g => ⟨.lt x r, g.to fun ⟨⟨⟨h1, h2⟩, h3, h4⟩, h5⟩ => ⟨⟨h1, ?_, ?_⟩, ?_⟩⟩
  ·unfold WS
   exact ⟨h2, h3⟩
  ·rw [h5, len_R]
   unfold kS
   rfl
  ·unfold flS
   rw [h4, List.append_assoc]
 | false => rw [if_neg (by decide)]; exact change_z hT hx n ln F N D
theorem stms_z {st : PM Int} (hst : SZ st) (F : Prop) (N : List Nd) (D : Int) : ∀ n l (ss : List Stm), Zt (Gz (F ∧ WB D (toBl ss) ∧ l = rootB (toBl ss) N.length) (N ++ flB (toBl ss) N.length) D) (stmsR T st n l) (fun l s' => ∃ b, Gz (F ∧ WB D b ∧ l = rootB b N.length) (N ++ flB b N.length) D s') := by
 intro n
 induction n with
 | zero => intro l ss; exact Zt.none
 | succ n ih =>
  intro l ss
  unfold stmsR
  refine Zt.ask fun b => ?_
  refine Zt.pre (P := Gz (F ∧ WB D (toBl ss) ∧ l = rootB (toBl ss) N.length) (N ++ flB (toBl ss) N.length) D) ?_ fun s h => h.1
  cases b with
  | true =>
   rw [if_pos rfl]
   refine Zt.bind (hst _ _ _) fun x => ?_
   refine Zt.exi fun e => ?_
   obtain ⟨k1, k2, k3⟩ := toBl_snoc ss e
   have hl : (N ++ flB (toBl ss) N.length).length = N.length + kB (toBl ss) := by rw [List.length_append, flB_len]
   refine (ih (l ++ [x]) (ss ++ [e])).pre fun s g => g.to fun ⟨⟨h1, h2, h3⟩, h4, h5⟩ => ⟨⟨h1, WB_snoc D ss e h2 h4, ?_⟩, ?_⟩
   ·rw [k3, h3, h5, hl]
   ·rw [k2, hl, List.append_assoc]
  | false =>
   rw [if_neg (by decide)]
   exact Zt.ret fun s g => ⟨_, g⟩
theorem block_z {st : PM Int} (hst : SZ st) (n : Nat) : KZ (blockM src T n st) := by
 intro F N D
 unfold blockM
 refine Zt.ask fun ln => ?_
 refine Zt.pre (P := Gz F N D) ?_ fun s h => h.1
 refine Zt.bind (open_z _) fun _ => ?_
 refine Zt.bind ((stms_z hst (F ∧ D < 16) N (D + 1) n [] []).pre fun s g => g.to fun h => ⟨⟨h, by show WB _ .nil; unfold WB; trivial, by show _ = rootB .nil _; unfold rootB; rfl⟩, by show N = N ++ flB .nil _; unfold flB; simp⟩) fun l => ?_
 refine Zt.exi fun b => ?_
 refine Zt.bind (shut_z _) fun _ => ?_
 refine (node_z _ _).mono (fun _ h => h) fun x2 s g => ⟨b, g.to fun ⟨⟨⟨h1, h2⟩, h3, h4⟩, h5⟩ => ⟨⟨h1, ⟨h2, h3⟩, ?_⟩, ?_⟩⟩
 ·rw [h5, List.length_append, flB_len]
 ·unfold flK
  rw [h4, List.append_assoc]
theorem st_z (hT : TK T) {M : Nat} : ∀ n, SZ (stM src T M n) := by
 intro n
 induction n with
 | zero => intro F N D; exact Zt.none
 | succ n ih => exact statement_z hT (ex_z hT M 0 (by omega)) (block_z ih M) M
/-- What a function is. -/
def WP (p : List UInt8 × Int) : Prop := NameOK p.1 ∧ 1 ≤ p.2 ∧ p.2 ≤ 4
def WF (f : Fnc) (b : Bl) : Prop := NameOK f.s ∧ (∀ p ∈ f.ps, WP p) ∧ (0 ≤ f.ret ∧ f.ret ≤ 4) ∧ WB 1 b
theorem typeN_ok {x : List UInt8} (h : x ∈ [[105, 110, 116], [98, 111, 111, 108], [116, 101, 120, 116], [108, 105, 115, 116]]) : 1 ≤ typeN x ∧ typeN x ≤ 4 := (by decide : ∀ x ∈ ([[105, 110, 116], [98, 111, 111, 108], [116, 101, 120, 116], [108, 105, 115, 116]] : List (List UInt8)), 1 ≤ typeN x ∧ typeN x ≤ 4) x h
theorem kind_z (F : Prop) (N : List Nd) (D : Int) : Zt (Gz F N D) (kindM T) (fun t s' => Gz (F ∧ 1 ≤ t ∧ t ≤ 4) N D s') := by
 unfold kindM
 refine Zt.ask fun b => ?_
 cases b with
 | true =>
  rw [if_pos rfl]
  refine Zt.ask fun k => ?_
  refine Zt.mod (R := Gz (F ∧ 1 ≤ typeN k.x ∧ typeN k.x ≤ 4) N D) (fun s h => ⟨(next_z (F := F) (N := N) (D := D) s h).1, fun g => ((next_z s h).2 g.1.1).and (by have e : tokA T s = k := g.2; rw [← e]; exact typeN_ok (isS_in g.1.2))⟩) ?_
  exact Zt.ret fun s g => g
 | false =>
  rw [if_neg (by decide)]
  exact Zt.mod (R := fun _ => False) (fun s h => absurd h (er_fail (by decide) s)) (Zt.ret fun s g => g.elim)
theorem param_z (hT : TK T) (F : Prop) (N : List Nd) (D : Int) : Zt (Gz F N D) (paramM T) (fun p s' => Gz (F ∧ WP p) N D s') := by
 unfold paramM
 refine Zt.ask fun x => ?_
 refine Zt.mod (R := Gz (F ∧ NameOK x) N D) (fun s h => name_z hT x s h) ?_
 refine Zt.bind (kind_z _ _ _) fun t => ?_
 exact Zt.ret fun s g => g.to fun ⟨⟨h1, h2⟩, h3⟩ => ⟨⟨h1, h2, h3⟩, rfl⟩
theorem params_z (hT : TK T) (F : Prop) (N : List Nd) (D : Int) : ∀ n (l : List (List UInt8 × Int)), Zt (Gz (F ∧ ∀ p ∈ l, WP p) N D) (paramsR T n l) (fun l s' => Gz (F ∧ ∀ p ∈ l, WP p) N D s') := by
 intro n
 induction n with
 | zero => intro l; exact Zt.none
 | succ n ih =>
  intro l
  unfold paramsR
  refine Zt.ask fun b => ?_
  refine Zt.pre (P := Gz (F ∧ ∀ p ∈ l, WP p) N D) ?_ fun s h => h.1
  cases b with
  | true =>
   rw [if_pos rfl]
   refine Zt.mod (fun s h => next_z s h) ?_
   refine Zt.bind (param_z hT _ _ _) fun p => ?_
   refine (ih (l ++ [p])).pre fun s g => g.to fun ⟨⟨h1, h2⟩, h3⟩ => ⟨⟨h1, fun q hq => by
    rcases List.mem_append.1 hq with hq | hq
    ·exact h2 q hq
    ·rw [List.mem_singleton.1 hq]; exact h3⟩, rfl⟩
  | false =>
   rw [if_neg (by decide)]
   exact Zt.ret fun s g => g
theorem function_z (hT : TK T) {M : Nat} (F : Prop) (N : List Nd) : Zt (Gz F N 0) (functionM src T M) (fun f s' => ∃ b, Gz (F ∧ WF f b ∧ f.body = ((N.length + kB b : Nat) : Int)) (N ++ flK b N.length) 0 s') := by
 unfold functionM
 refine Zt.ask fun ln => ?_
 refine Zt.pre (P := Gz F N 0) ?_ fun s h => h.1
 refine Zt.mod (fun s h => want_z _ s h) ?_
 refine Zt.ask fun x => ?_
 refine Zt.mod (R := Gz (F ∧ NameOK x) N 0) (fun s h => name_z hT x s h) ?_
 refine Zt.mod (fun s h => want_z _ s h) ?_
 refine Zt.bind (R := fun ps s' => Gz ((F ∧ NameOK x) ∧ ∀ p ∈ ps, WP p) N 0 s') ?_ fun ps => ?_
 ·unfold paramsM
  refine Zt.ask fun b => ?_
  refine Zt.pre (P := Gz (F ∧ NameOK x) N 0) ?_ fun s h => h.1
  cases b with
  | true =>
   rw [if_pos rfl]
   exact Zt.ret fun s g => g.and fun p hp => by cases hp
  | false =>
   rw [if_neg (by decide)]
   refine Zt.bind (param_z hT _ _ _) fun p => ?_
   refine (params_z hT (F ∧ NameOK x) N 0 M [p]).pre fun s g => g.to fun ⟨h1, h2⟩ => ⟨⟨h1, fun q hq => by rw [List.mem_singleton.1 hq]; exact h2⟩, rfl⟩
 refine Zt.mod (fun s h => want_z _ s h) ?_
 refine Zt.bind (R := fun t s' => Gz (((F ∧ NameOK x) ∧ ∀ p ∈ ps, WP p) ∧ 0 ≤ t ∧ t ≤ 4) N 0 s') ?_ fun t => ?_
 ·unfold retM
  refine Zt.ask fun b => ?_
  refine Zt.pre (P := Gz ((F ∧ NameOK x) ∧ ∀ p ∈ ps, WP p) N 0) ?_ fun s h => h.1
  cases b with
  | true =>
   rw [if_pos rfl]
   exact Zt.ret fun s g => g.and (by decide)
  | false =>
   rw [if_neg (by decide)]
   exact (kind_z _ _ _).mono (fun _ h => h) fun t s g => g.to fun ⟨h1, h2, h3⟩ => ⟨⟨h1, by omega, h3⟩, rfl⟩
 refine Zt.bind (block_z (st_z hT M) M _ _ _) fun y => ?_
 refine Zt.exi fun b => ?_
 exact Zt.ret fun s g => ⟨b, g.to fun ⟨⟨⟨⟨h1, h2⟩, h3⟩, h4⟩, ⟨_, h5⟩, h6⟩ => ⟨⟨h1, ⟨h2, h3, h4, h5⟩, h6⟩, rfl⟩⟩
/-- The nodes of functions; and where their blocks are. -/
def kT : List (Fnc × Bl) → Nat
 | [] => 0
 | p :: l => kB p.2 + 1 + kT l
def flT : List (Fnc × Bl) → Nat → List Nd
 | [], _ => []
 | p :: l, b => flK p.2 b ++ flT l (b + kB p.2 + 1)
def BodyOK : List (Fnc × Bl) → Nat → Prop
 | [], _ => True
 | p :: l, b => p.1.body = ((b + kB p.2 : Nat) : Int) ∧ BodyOK l (b + kB p.2 + 1)
theorem flT_len : ∀ (l : List (Fnc × Bl)) (b : Nat), (flT l b).length = kT l
 | [], _ => rfl
 | p :: l, b => by show (flK p.2 b ++ flT l _).length = _; rw [List.length_append, flK_len, flT_len l]; rfl
theorem flT_snoc : ∀ (l : List (Fnc × Bl)) (p : Fnc × Bl) (b : Nat), flT (l ++ [p]) b = flT l b ++ flK p.2 (b + kT l)
 | [], p, b => by show flK p.2 b ++ [] = [] ++ flK p.2 (b + 0); simp
 | a :: l, p, b => by
  show flK a.2 b ++ flT (l ++ [p]) (b + kB a.2 + 1) = (flK a.2 b ++ flT l (b + kB a.2 + 1)) ++ flK p.2 (b + (kB a.2 + 1 + kT l))
  rw [flT_snoc l p, List.append_assoc, show b + kB a.2 + 1 + kT l = b + (kB a.2 + 1 + kT l) by omega]
theorem body_snoc : ∀ (l : List (Fnc × Bl)) (p : Fnc × Bl) (b : Nat), BodyOK l b → p.1.body = ((b + kT l + kB p.2 : Nat) : Int) → BodyOK (l ++ [p]) b
 | [], p, b, _, h => ⟨h, trivial⟩
 | a :: l, p, b, h, h2 => ⟨h.1, body_snoc l p _ h.2 (by rw [h2]; show (((b + (kB a.2 + 1 + kT l) + kB p.2 : Nat)) : Int) = _; congr 1; omega)⟩
structure WT (nd : List Nd) (fs : List Fnc) (ps : List (Fnc × Bl)) : Prop where
 fns : fs = ps.map Prod.fst
 ok : ∀ p ∈ ps, WF p.1 p.2
 nds : nd.map uz = flT ps 0
 bod : BodyOK ps 0
instance : Inhabited (List (Fnc × Bl)) := ⟨[]⟩
theorem fns_z (hT : TK T) {M : Nat} : ∀ n l (ps : List (Fnc × Bl)), Zt (Gz ((∀ p ∈ ps, WF p.1 p.2) ∧ BodyOK ps 0 ∧ l = ps.map Prod.fst) (flT ps 0) 0) (fnsR src T M n l) (fun l s' => ∃ ps : List (Fnc × Bl), Gz ((∀ p ∈ ps, WF p.1 p.2) ∧ BodyOK ps 0 ∧ l = ps.map Prod.fst) (flT ps 0) 0 s') := by
 intro n
 induction n with
 | zero => intro l ps; exact Zt.none
 | succ n ih =>
  intro l ps
  unfold fnsR
  refine Zt.ask fun b => ?_
  refine Zt.pre (P := Gz ((∀ p ∈ ps, WF p.1 p.2) ∧ BodyOK ps 0 ∧ l = ps.map Prod.fst) (flT ps 0) 0) ?_ fun s h => h.1
  cases b with
  | true =>
   rw [if_pos rfl]
   refine Zt.bind (function_z hT _ _) fun f => ?_
   refine Zt.exi fun e => ?_
   refine (ih (l ++ [f]) (ps ++ [(f, e)])).pre fun s g => g.to fun ⟨⟨h1, h2, h3⟩, h4, h5⟩ => ⟨⟨fun q hq => by
    rcases List.mem_append.1 hq with hq | hq
    ·exact h1 q hq
    ·rw [List.mem_singleton.1 hq]; exact h4, body_snoc ps (f, e) 0 h2 (by rw [h5, flT_len]; show _ = ((0 + kT ps + kB e : Nat) : Int); congr 1; omega), by rw [List.map_append, h3]; rfl⟩, by rw [flT_snoc, flT_len, Nat.zero_add]⟩
  | false =>
   rw [if_neg (by decide)]
   exact Zt.ret fun s g => ⟨ps, g⟩
end
/-- The tokens of any source are as they should be. -/
theorem runL_nmc_name {l : List UInt8} (h : ltr (l.headD 0) = true) (hne : l ≠ []) (hw : isWord (l.take (runL nmc l)) = false) (h8 : runL nmc l ≤ 8) : NameOK (l.take (runL nmc l)) := by
 obtain ⟨c, r, rfl⟩ := List.exists_cons_of_ne_nil hne
 have hc : ltr c = true := h
 have hn : nmc c = true := by unfold nmc; rw [hc]; rfl
 have hr : runL nmc (c :: r) = runL nmc r + 1 := by show (if nmc c then _ else 0) = _; rw [if_pos hn]
 refine ⟨?_, ?_, runL_all nmc _, ?_, hw⟩
 ·rw [hr, List.take_succ_cons]; simp
 ·rw [hr, List.take_succ_cons]; exact hc
 ·rw [List.length_take]; omega
theorem first_TK (c : UInt8) (r : List UInt8) (h : (firstL (c :: r)).2.2 = 0) : ((firstL (c :: r)).1 = 3 → NameOK (saidL (firstL (c :: r)).1 ((c :: r).take (firstL (c :: r)).2.1))) ∧ ((firstL (c :: r)).1 = 2 → TextOK (saidL (firstL (c :: r)).1 ((c :: r).take (firstL (c :: r)).2.1))) := by
 rw [firstL_cons] at h ⊢
 by_cases h1 : dig c = true
 ·rw [if_pos h1] at h ⊢
  unfold numberL at h ⊢
  split at h
  ·rename_i hc; rw [if_pos hc]; exact ⟨fun h => (by cases h), fun h => by cases h⟩
  ·cases h
 rw [if_neg h1] at h ⊢
 by_cases h2 : ltr c = true
 ·rw [if_pos h2] at h ⊢
  unfold nameL at h ⊢
  split at h
  ·rename_i hc; rw [if_pos hc]; exact ⟨fun h => (by cases h), fun h => by cases h⟩
  ·rename_i hc
   rw [if_neg hc]
   split at h
   ·cases h
   ·rename_i h8
    rw [if_neg h8]
    exact ⟨fun _ => runL_nmc_name h2 (by simp) (by simpa using hc) (by omega), fun h => by cases h⟩
 rw [if_neg h2] at h ⊢
 by_cases h3 : c = 34
 ·rw [if_pos h3] at h ⊢
  unfold textL at h ⊢
  split at h
  ·rename_i hq
   rw [if_pos hq]
   split at h
   ·cases h
   ·rename_i h12
    rw [if_neg h12]
    refine ⟨fun h => (by cases h), fun _ => ?_⟩
    have e : saidL 2 ((c :: r).take (runL txc r + 2)) = r.take (runL txc r) := by
     have hlt : runL txc r < r.length := (List.getElem?_eq_some_iff.1 hq).1
     have e1 : (c :: r).take (runL txc r + 2) = c :: r.take (runL txc r + 1) := List.take_succ_cons
     have e2 : (c :: r.take (runL txc r + 1)).length - 1 = runL txc r + 1 := by rw [List.length_cons, List.length_take]; omega
     unfold saidL
     rw [if_pos rfl, e1, e2, List.take_succ_cons, List.drop_succ_cons, List.drop_zero, List.take_take]
     congr 1
     omega
    show TextOK (saidL 2 ((c :: r).take (runL txc r + 2)))
    rw [e]
    exact ⟨runL_all txc r, by rw [List.length_take]; omega⟩
  ·cases h
 rw [if_neg h3] at h ⊢
 rw [signL_cons] at h ⊢
 split at h
 ·rename_i hc; rw [if_pos hc]; exact ⟨fun h => (by cases h), fun h => by cases h⟩
 ·rename_i hc
  rw [if_neg hc]
  split at h
  ·rename_i hd; rw [if_pos hd]; exact ⟨fun h => (by cases h), fun h => by cases h⟩
  ·cases h
def TK1 (t : Tok) : Prop := (t.k = 3 → NameOK t.x) ∧ (t.k = 2 → TextOK t.x)
theorem lex_TK : ∀ n l p, ∀ t ∈ (lexF n l p).1, TK1 t := by
 intro n
 induction n with
 | zero => intro l p t ht; rw [show t = ⟨0, [], p⟩ from List.mem_singleton.1 ht]; exact ⟨fun h => (by cases h), fun h => by cases h⟩
 | succ n ih =>
  intro l p t ht
  cases l with
  | nil => rw [show t = ⟨0, [], p⟩ from List.mem_singleton.1 ht]; exact ⟨fun h => (by cases h), fun h => by cases h⟩
  | cons c r =>
   unfold lexF at ht
   split at ht
   ·exact ih _ _ t ht
   split at ht
   ·split at ht
    ·rw [List.mem_singleton.1 ht]; exact ⟨fun h => (by cases h), fun h => by cases h⟩
    ·exact ih _ _ t ht
   split at ht
   ·rename_i h0
    rcases List.mem_cons.1 ht with rfl | ht
    ·exact first_TK c r h0
    ·exact ih _ _ t ht
   ·cases ht
theorem tk_lex (l : List UInt8) (p : Nat) : TK (lexL l p).1 := by
 intro i
 rcases Nat.lt_or_ge i (lexL l p).1.length with h | h
 ·rw [List.getD, List.getElem?_eq_getElem h]
  exact lex_TK _ _ _ _ (List.getElem_mem h)
 ·rw [List.getD, List.getElem?_eq_none h]
  exact ⟨fun h => (by cases h), fun h => by cases h⟩
/-- Any source's tree as syntax. -/
theorem tree_wt {M : Nat} {src : List UInt8} {nd : List Nd} {fs : List Fnc} (h : allP M src = some (.inr (nd, fs))) : ∃ ps, WT nd fs ps := by
 unfold allP at h
 split at h
 ·cases h
 split at h
 ·cases h
 cases hm : fnsR src (lexL src 0).1 M M [] ⟨0, 0, 0, [], 0⟩ with
 | none => rw [hm] at h; cases h
 | some r =>
  rw [hm] at h
  obtain ⟨l, s1⟩ := r
  have h1 : treeP l s1 = .inr (nd, fs) := Option.some.inj h
  unfold treeP at h1
  split at h1
  ·rename_i he
   split at h1
   ·cases h1
   ·injection h1 with h1
    injection h1 with h2 h3
    subst h2
    subst h3
    obtain ⟨_, h5⟩ := fns_z (src := src) (tk_lex src 0) M [] [] ⟨0, 0, 0, [], 0⟩ l s1 hm he
    obtain ⟨ps, ⟨h6, h7, h8⟩, h9, _⟩ := h5 ⟨⟨fun p hp => (by cases hp), trivial, rfl⟩, rfl, rfl⟩
    exact ⟨ps, h8, h6, h9, h7⟩
  ·cases h1
end Go.Proofs.YtbhpnioggpgbhaaGreatDoor

namespace Go.Proofs.YtbhpnioggpgbhaaGreatDoor
set_option linter.unusedVariables false
set_option linter.unusedSimpArgs false
/-- The nodes at a place, but for lines. -/
def FlAt (nd : List Nd) (b : Nat) (l : List Nd) : Prop := ∃ pre post, nd.map uz = pre ++ (l ++ post) ∧ pre.length = b
theorem FlAt.left {nd : List Nd} {b : Nat} {l m : List Nd} (h : FlAt nd b (l ++ m)) : FlAt nd b l := by
 obtain ⟨pre, post, h1, h2⟩ := h
 exact ⟨pre, m ++ post, by rw [h1, List.append_assoc], h2⟩
theorem FlAt.right {nd : List Nd} {b c : Nat} {l m : List Nd} (h : FlAt nd b (l ++ m)) (hc : c = b + l.length) : FlAt nd c m := by
 obtain ⟨pre, post, h1, h2⟩ := h
 exact ⟨pre ++ l, post, by rw [h1]; simp, by rw [List.length_append, h2, hc]⟩
theorem FlAt.at {nd : List Nd} {b : Nat} {n : Nd} (h : FlAt nd b [n]) : At nd ((b : Nat) : Int) n.k n.n n.s n.l := by
 obtain ⟨pre, post, h1, h2⟩ := h
 have h3 : (nd.map uz)[b]? = some n := by
  rw [h1, ← h2, List.getElem?_append_right (Nat.le_refl _), Nat.sub_self]
  rfl
 rw [List.getElem?_map] at h3
 cases hg : nd[b]? with
 | none => rw [hg] at h3; cases h3
 | some q =>
  rw [hg] at h3
  have h4 : uz q = n := Option.some.inj h3
  refine ⟨b, q.ln, rfl, ?_⟩
  rw [hg, ← h4]
  rfl
end Go.Proofs.YtbhpnioggpgbhaaGreatDoor

namespace Go.Proofs.YtbhpnioggpgbhaaGreatDoor
set_option linter.unusedVariables false
set_option linter.unusedSimpArgs false
/-- What is kept of a node: its type, its slot, its function. -/
structure Tri where
 t : Int
 s : Int
 f : Int
/-- A variable: its name, its type, its slot. -/
structure Vb where
 x : List UInt8
 t : Int
 s : Int
abbrev CR := Except (Int × Nat)
def lookV (V : List Vb) (x : List UInt8) : Option Vb := V.find? (fun v => decide (v.x = x))
def lookF (fs : List Fnc) (x : List UInt8) : Option Fnc := fs.find? (fun f => decide (f.s = x))
/-- What a sign makes of two types. -/
def signT (s : List UInt8) (a b : Int) : Option Int :=
 if s = [124, 124] ∨ s = [38, 38] then (if a = 2 ∧ b = 2 then some 2 else none)
 else if s = [60] ∨ s = [60, 61] then (if a = 1 ∧ b = 1 then some 2 else none)
 else if s = [61, 61] ∨ s = [33, 61] then (if a = b ∧ (a = 1 ∨ a = 2 ∨ a = 3) then some 2 else none)
 else if s = [43] ∧ a = 3 ∧ b = 3 then some 3
 else (if a = 1 ∧ b = 1 then some 1 else none)
section
variable (fs : List Fnc) (fn : Int) (V : List Vb)
def needT (c : Prop) [Decidable c] (at_ : Nat) (t : Int) (l : List Tri) (s : Int) : CR (Int × List Tri) := if c then .ok (t, l ++ [⟨t, s, fn⟩]) else .error ((at_ : Int), 42)
/-- An expression whose nodes begin at a number. -/
def ckE : Ex → Nat → CR (Int × List Tri)
 | .int _, _ => .ok (1, [⟨1, -1, fn⟩])
 | .bool _, _ => .ok (2, [⟨2, -1, fn⟩])
 | .text _, _ => .ok (3, [⟨3, -1, fn⟩])
 | .var x, b => match lookV V x with
  | none => .error ((b : Int), 40)
  | some v => .ok (v.t, [⟨v.t, v.s, fn⟩])
 | .index x a, b => match lookV V x with
  | none => .error (((b + kE a + 1 : Nat) : Int), 40)
  | some v => (ckE a b).bind fun r => needT fn (v.t = 4 ∧ r.1 = 1) (b + kE a + 1) 1 r.2 v.s
 | .len a, b => (ckE a b).bind fun r => needT fn (r.1 = 3 ∨ r.1 = 4) (b + kE a + 1) 1 r.2 (-1)
 | .neg a, b => (ckE a b).bind fun r => needT fn (r.1 = 1) (b + kE a + 1) 1 r.2 (-1)
 | .not a, b => (ckE a b).bind fun r => needT fn (r.1 = 2) (b + kE a + 1) 2 r.2 (-1)
 | .bin s x y, b => (ckE x b).bind fun r => (ckE y (b + kE x + 1)).bind fun q => match signT s r.1 q.1 with
  | none => .error (((b + kE x + 1 + (kE y + 1) : Nat) : Int), 42)
  | some t => .ok (t, r.2 ++ q.2 ++ [⟨t, -1, fn⟩])
/-- What is handed to a call: types and what is kept. -/
def ckEs : List Ex → Nat → CR (List Int × List Tri)
 | [], _ => .ok ([], [])
 | e :: l, b => (ckE fn V e b).bind fun r => (ckEs l (b + kE e + 1)).bind fun q => .ok (r.1 :: q.1, r.2 ++ q.2)
def ckR : Rt → Nat → CR (Int × List Tri)
 | .ex e, b => ckE fn V e b
 | .input, _ => .ok (1, [⟨1, -1, fn⟩])
 | .new a, b => (ckE fn V a b).bind fun r => needT fn (r.1 = 1) (b + kE a + 1) 4 r.2 (-1)
 | .call x l, b => match lookF fs x with
  | none => .error (((b + kEs l : Nat) : Int), 40)
  | some f => (ckEs fn V l b).bind fun r =>
   if r.1.length ≠ f.ps.length then .error (((b + kEs l : Nat) : Int), 43)
   else if r.1 = f.ps.map Prod.snd then .ok (f.ret, r.2 ++ [⟨f.ret, -1, fn⟩]) else .error (((b + kEs l : Nat) : Int), 42)
end
/-- What a block has come to: the variables, how many slots, what is kept. -/
structure Blk where
 v : List Vb
 n : Nat
 l : List Tri
mutual
def ckS (fs : List Fnc) (fn ret : Int) : Stm → List Vb → Nat → Nat → CR Blk
 | .lt x r, V, n, b => (ckR fs fn V r b).bind fun q =>
  if q.1 = 0 then .error (((b + kR r + 1 : Nat) : Int), 42)
  else if (lookV V x).isSome then .error (((b + kR r + 1 : Nat) : Int), 41)
  else if 24 ≤ n then .error (((b + kR r + 1 : Nat) : Int), 4)
  else .ok ⟨V ++ [⟨x, q.1, (n : Int)⟩], n + 1, q.2 ++ [⟨0, (n : Int), fn⟩]⟩
 | .set x r, V, n, b => match lookV V x with
  | none => .error (((b + kR r + 1 : Nat) : Int), 40)
  | some v => (ckR fs fn V r b).bind fun q => if q.1 = v.t then .ok ⟨V, n, q.2 ++ [⟨0, v.s, fn⟩]⟩ else .error (((b + kR r + 1 : Nat) : Int), 42)
 | .put x a c, V, n, b => match lookV V x with
  | none => .error (((b + kE a + 1 + (kE c + 1) : Nat) : Int), 40)
  | some v => (ckE fn V a b).bind fun q => (ckE fn V c (b + kE a + 1)).bind fun r => if v.t = 4 ∧ q.1 = 1 ∧ r.1 = 1 then .ok ⟨V, n, q.2 ++ r.2 ++ [⟨0, v.s, fn⟩]⟩ else .error (((b + kE a + 1 + (kE c + 1) : Nat) : Int), 42)
 | .doo x l, V, n, b => (ckR fs fn V (.call x l) b).bind fun q => .ok ⟨V, n, q.2 ++ [⟨0, -1, fn⟩]⟩
 | .print a, V, n, b => (ckE fn V a b).bind fun q => if q.1 ≠ 4 then .ok ⟨V, n, q.2 ++ [⟨0, -1, fn⟩]⟩ else .error (((b + kE a + 1 : Nat) : Int), 42)
 | .ret0, V, n, b => if ret = 0 then .ok ⟨V, n, [⟨0, -1, fn⟩]⟩ else .error ((b : Int), 43)
 | .ret1 a, V, n, b => if ret = 0 then .error (((b + kE a + 1 : Nat) : Int), 43) else (ckE fn V a b).bind fun q => if q.1 = ret then .ok ⟨V, n, q.2 ++ [⟨0, -1, fn⟩]⟩ else .error (((b + kE a + 1 : Nat) : Int), 42)
 | .ifs c a, V, n, b => (ckE fn V c b).bind fun q => if q.1 = 2 then
   (ckB fs fn ret a V n (b + kE c + 1)).bind fun r => .ok ⟨V, r.n, q.2 ++ (r.l ++ [⟨0, -1, fn⟩]) ++ [⟨0, -1, fn⟩]⟩
  else .error (((b + kE c + 1 + (kB a + 1) : Nat) : Int), 42)
 | .ifelse c a d, V, n, b => (ckE fn V c b).bind fun q => if q.1 = 2 then
   (ckB fs fn ret a V n (b + kE c + 1)).bind fun r => (ckB fs fn ret d V r.n (b + kE c + 1 + kB a + 1)).bind fun u => .ok ⟨V, u.n, q.2 ++ (r.l ++ [⟨0, -1, fn⟩]) ++ (u.l ++ [⟨0, -1, fn⟩]) ++ [⟨0, -1, fn⟩]⟩
  else .error (((b + kE c + 1 + (kB a + 1) + (kB d + 1) : Nat) : Int), 42)
 | .whil c a, V, n, b => (ckE fn V c b).bind fun q => if q.1 = 2 then
   (ckB fs fn ret a V n (b + kE c + 1)).bind fun r => .ok ⟨V, r.n, q.2 ++ (r.l ++ [⟨0, -1, fn⟩]) ++ [⟨0, -1, fn⟩]⟩
  else .error (((b + kE c + 1 + (kB a + 1) : Nat) : Int), 42)
def ckB (fs : List Fnc) (fn ret : Int) : Bl → List Vb → Nat → Nat → CR Blk
 | .nil, V, n, _ => .ok ⟨V, n, []⟩
 | .cons s l, V, n, b => (ckS fs fn ret s V n b).bind fun q => (ckB fs fn ret l q.v q.n (b + kS s + 1)).bind fun r => .ok ⟨r.v, r.n, q.l ++ r.l⟩
end
/-- A function's params, as variables. -/
def ckPs (body : Int) : List (List UInt8 × Int) → List Vb → CR (List Vb)
 | [], V => .ok V
 | p :: l, V => if (lookV V p.1).isSome then .error (body, 41) else ckPs body l (V ++ [⟨p.1, p.2, (V.length : Int)⟩])
/-- Functions, one behind the other: how many slots, and what is kept. -/
def ckT (fs : List Fnc) : List (Fnc × Bl) → Nat → Nat → CR (List Nat × List Tri)
 | [], _, _ => .ok ([], [])
 | p :: l, i, b => (ckPs p.1.body p.1.ps []).bind fun V => (ckB fs (i : Int) p.1.ret p.2 V V.length b).bind fun q => (ckT fs l (i + 1) (b + kB p.2 + 1)).bind fun r => .ok (q.n :: r.1, q.l ++ [⟨0, -1, (i : Int)⟩] ++ r.2)
/-- The first function that has an earlier one's name. -/
def dupF : List Fnc → List Fnc → Option Fnc
 | _, [] => none
 | pre, f :: l => if (lookF pre f.s).isSome then some f else dupF (pre ++ [f]) l
def mainOK (fs : List Fnc) : Bool := match lookF fs [109, 97, 105, 110] with
 | none => false
 | some f => decide (f.ps = []) && decide (f.ret = 0)
def ckAll (fs : List Fnc) (ps : List (Fnc × Bl)) : CR (List Nat × List Tri) :=
 match dupF [] fs with
 | some f => .error (f.body, 41)
 | none => if mainOK fs then ckT fs ps 0 0 else .error (0, 44)
/-- Rows of what is kept, with some laid over from a number on. -/
def ovr {α : Type} (a : List α) (b : Nat) (l : List α) : List α := a.take b ++ l ++ a.drop (b + l.length)
theorem ovr_len {α : Type} (a : List α) (b : Nat) (l : List α) (h : b + l.length ≤ a.length) : (ovr a b l).length = a.length := by
 unfold ovr
 rw [List.length_append, List.length_append, List.length_take, List.length_drop]
 omega
theorem ovr_get {α : Type} (a : List α) (b : Nat) (l : List α) (h : b + l.length ≤ a.length) (j : Nat) : (ovr a b l)[j]? = if b ≤ j ∧ j < b + l.length then l[j - b]? else a[j]? := by
 unfold ovr
 by_cases h1 : j < b
 ·rw [if_neg (by omega), List.getElem?_append_left (by rw [List.length_append, List.length_take]; omega), List.getElem?_append_left (by rw [List.length_take]; omega), List.getElem?_take, if_pos h1]
 ·by_cases h2 : j < b + l.length
  ·rw [if_pos ⟨by omega, h2⟩, List.getElem?_append_left (by rw [List.length_append, List.length_take]; omega), List.getElem?_append_right (by rw [List.length_take]; omega), List.length_take]
   congr 1
   omega
  ·rw [if_neg (by omega), List.getElem?_append_right (by rw [List.length_append, List.length_take]; omega), List.length_append, List.length_take, List.getElem?_drop]
   congr 1
   omega
theorem ovr_nil {α : Type} (a : List α) (b : Nat) : ovr a b [] = a := by unfold ovr; simp
theorem ovr_ovr {α : Type} (a : List α) (b : Nat) (l m : List α) (h : b + l.length + m.length ≤ a.length) : ovr (ovr a b l) (b + l.length) m = ovr a b (l ++ m) := by
 apply List.ext_getElem?
 intro j
 rw [ovr_get _ _ _ (by rw [ovr_len _ _ _ (by omega)]; omega), ovr_get _ _ _ (by omega), ovr_get _ _ _ (by rw [List.length_append]; omega), List.length_append]
 by_cases h1 : b ≤ j ∧ j < b + l.length
 ·rw [if_neg (by omega), if_pos h1, if_pos (by omega), List.getElem?_append_left (by omega)]
 ·by_cases h2 : b + l.length ≤ j ∧ j < b + l.length + m.length
  ·rw [if_pos h2, if_pos (by omega), List.getElem?_append_right (by omega)]
   congr 1
   omega
  ·rw [if_neg h2, if_neg h1, if_neg (by omega)]
theorem set_ovr {α : Type} (a : List α) (b n : Nat) (l : List α) (x : α) (hn : n = b + l.length) (h : n < a.length) : ovr (a.set n x) b l = (ovr a b l).set n x := by
 apply List.ext_getElem?
 intro j
 rw [ovr_get _ _ _ (by rw [List.length_set]; omega), List.getElem?_set, List.getElem?_set, ovr_get _ _ _ (by omega), ovr_len _ _ _ (by omega)]
 by_cases h1 : n = j
 ·subst h1
  rw [if_neg (by omega), if_pos rfl, if_pos rfl, if_pos h]
 ·rw [if_neg h1, if_neg h1]
theorem ovr_set {α : Type} (a : List α) (b n : Nat) (l : List α) (x : α) (hn : n = b + l.length) (h : n < a.length) : (ovr a b l).set n x = ovr a b (l ++ [x]) := by
 have e : (ovr a b l).set n x = ovr (ovr a b l) (b + l.length) [x] := by
  apply List.ext_getElem?
  intro j
  rw [ovr_get _ _ _ (by rw [ovr_len _ _ _ (by omega)]; show b + l.length + 1 ≤ _; omega), List.getElem?_set, ovr_len _ _ _ (by omega)]
  by_cases h1 : n = j
  ·subst h1
   rw [if_pos rfl, if_pos h, if_pos ⟨by omega, by show n < b + l.length + 1; omega⟩, hn, Nat.sub_self]
   rfl
  ·rw [if_neg h1, if_neg (by intro h2; have : j < b + l.length + 1 := h2.2; omega)]
 rw [e, ovr_ovr a b l [x] (by show b + l.length + 1 ≤ _; omega)]
end Go.Proofs.YtbhpnioggpgbhaaGreatDoor
