import PyProof.Rows.All
import Wide.All
import OpenK.AllK
import Wide.FinOn
import HandS.ForMost
import HandS.ForExc
import HandS.StrMore
import HandS.WideBits
import HandS.Zip
import HandS.IsInst
import HandS.ExcInit
import HandS.ExcField
import HandS.ExcIs
import HandS.Style
import HandS.Flow
import HandS.WrittenGet
import HandS.Steps
import HandS.Walk
import PySem.Challenge.RW_aboveless_k21_parts_of_texts
set_option Elab.async false
set_option linter.all false
set_option maxRecDepth 100000
set_option maxHeartbeats 4000000
/-! k21, the mathematics: tokens of a text, what the program makes of them, what the scanner of the law makes of the text -/
namespace K21
abbrev Tx := List Nat
def stop (c : Nat) : Bool := c == 32 || c == 40 || c == 41 || c == 39
def wordEnd (l : Tx) (i : Nat) : Nat := i + ((l.drop i).takeWhile fun c => !stop c).length
def quoteEnd (l : Tx) (i : Nat) : Nat := match (l.drop (i + 1)).findIdx? (· == 39) with
  | some k => i + 1 + k + 1
  | none => 0
def tokEnd (l : Tx) (i : Nat) : Nat := match l[i]? with
  | some c => if c = 40 ∨ c = 41 ∨ c = 32 then i + 1 else if c = 39 then quoteEnd l i else wordEnd l i
  | none => i
def cut (l : Tx) (i j : Nat) : Tx := (l.drop i).take (j - i)
def toks (l : Tx) (i : Nat) : Option (List Tx) :=
  if h : i < l.length then
    if h2 : i < tokEnd l i then (toks l (tokEnd l i)).map fun r => cut l i (tokEnd l i) :: r
    else none
  else some []
termination_by l.length - i
decreasing_by omega
def kind (t : Tx) : Nat := if t = [40] then 40 else if t = [41] then 41 else if t = [32] then 32 else 119
def fol (k : Nat) : List Nat := if k = 40 then [40, 41, 119] else if k = 41 then [32, 41] else if k = 119 then [32, 41] else [40, 119]
def inSeq : List Nat → Bool
  | a :: b :: r => decide (b ∈ fol a) && inSeq (b :: r)
  | _ => true
def nest (t : Tx) : Int := if t = [40] then 1 else if t = [41] then -1 else 0
def depths : Int → List Tx → List Int
  | _, [] => []
  | d, t :: r => (d + nest t) :: depths (d + nest t) r
def nested (ts : List Tx) : Bool :=
  let ds := depths 0 ts
  decide (ds.getLast? = some 0) && (decide (ds.dropLast ≠ []) && ((ds.dropLast.all fun d => decide (0 < d)) && ds.dropLast.all fun d => decide (d ≤ 13)))
/-- the parts: what is closed, what is open -/
def outerGo : List Tx → Tx → Int → List Tx → List Tx
  | done, cur, _, [] => done ++ [cur]
  | done, cur, d, t :: r => if t = [32] ∧ d + nest t = 0 then outerGo (done ++ [cur]) [] (d + nest t) r else outerGo done (cur ++ t) (d + nest t) r
def outer (ts : List Tx) : List Tx := if ts = [] then [] else outerGo [] [] 0 ts
def progT (ts : List Tx) : Option (List Tx) := if (inSeq (ts.map kind) && nested ts) = true then some (outer (ts.drop 1).dropLast) else none
def prog (l : Tx) : Option (List Tx) := progT ((toks l 0).getD [])

/-! the scanner. ready: 0 start, 1 first, 2 behind, 3 part, 4 end -/
structure Sc where
  pos : Nat
  depth : Int
  ready : Nat
  begin : Nat
  found : List Tx
def ended (l : Tx) (s : Sc) (e : Nat) : Sc := { s with found := if s.depth = 1 then s.found ++ [cut l s.begin e] else s.found, pos := e, ready := 2 }
def closed (l : Tx) (s : Sc) : Sc :=
  let s1 := ended l { s with depth := s.depth - 1 } (s.pos + 1)
  if s1.depth = 0 then { s1 with ready := 4 } else s1
def begun (l : Tx) (s : Sc) (c : Nat) : Option Sc :=
  let s1 := if s.depth = 1 then { s with begin := s.pos } else s
  if c = 40 then
    if s.depth + 1 < 14 then some { s1 with depth := s.depth + 1, pos := s.pos + 1, ready := 1 } else none
  else
    let e := if c = 39 then quoteEnd l s.pos else wordEnd l s.pos
    if e > s.pos then some (ended l s1 e) else none
def step (l : Tx) (s : Sc) (c : Nat) : Option Sc :=
  if c = 41 ∧ (s.ready = 1 ∨ s.ready = 2) then some (closed l s)
  else if c = 32 ∧ s.ready = 2 then some { s with pos := s.pos + 1, ready := 3 }
  else if (s.ready = 2 ∨ s.ready = 4) ∨ (s.ready = 0 ∧ c ≠ 40) then none
  else begun l s c
theorem begun_pos {l : Tx} {s s' : Sc} {c : Nat} (h : begun l s c = some s') : s.pos < s'.pos := by
  unfold begun at h
  dsimp only at h
  by_cases h1 : c = 40
  · rw [if_pos h1] at h
    by_cases h2 : s.depth + 1 < 14
    · rw [if_pos h2] at h; cases h; exact Nat.lt_succ_self _
    · rw [if_neg h2] at h; cases h
  · rw [if_neg h1] at h
    generalize (if c = 39 then quoteEnd l s.pos else wordEnd l s.pos) = e at h
    by_cases h3 : e > s.pos
    · rw [if_pos h3] at h; injection h with h; subst h; exact h3
    · rw [if_neg h3] at h; cases h
theorem step_pos {l : Tx} {s s' : Sc} {c : Nat} (h : step l s c = some s') : s.pos < s'.pos := by
  unfold step at h
  by_cases h1 : c = 41 ∧ (s.ready = 1 ∨ s.ready = 2)
  · rw [if_pos h1] at h
    injection h with h; subst h
    unfold closed ended
    dsimp only
    split <;> exact Nat.lt_succ_self _
  · rw [if_neg h1] at h
    by_cases h2 : c = 32 ∧ s.ready = 2
    · rw [if_pos h2] at h; injection h with h; subst h; exact Nat.lt_succ_self _
    · rw [if_neg h2] at h
      by_cases h3 : (s.ready = 2 ∨ s.ready = 4) ∨ (s.ready = 0 ∧ c ≠ 40)
      · rw [if_pos h3] at h; cases h
      · rw [if_neg h3] at h; exact begun_pos h
def scan (l : Tx) (s : Sc) : Option (List Tx) :=
  if h : s.pos < l.length then
    match hs : step l s l[s.pos] with
    | some s' => scan l s'
    | none => none
  else if s.ready = 4 then some s.found else none
termination_by l.length - s.pos
decreasing_by have := step_pos hs; omega
theorem scan_end {l : Tx} {s : Sc} (h : ¬ s.pos < l.length) : scan l s = if s.ready = 4 then some s.found else none := by
  rw [scan, dif_neg h]
theorem scan_some {l : Tx} {s s' : Sc} {c : Nat} (h : l[s.pos]? = some c) (hs : step l s c = some s') : scan l s = scan l s' := by
  obtain ⟨h1, h2⟩ := List.getElem?_eq_some_iff.mp h
  subst h2
  rw [scan, dif_pos h1]
  split
  · rename_i x e; rw [hs] at e; cases e; rfl
  · rename_i e; rw [hs] at e; cases e
theorem scan_none {l : Tx} {s : Sc} {c : Nat} (h : l[s.pos]? = some c) (hs : step l s c = none) : scan l s = none := by
  obtain ⟨h1, h2⟩ := List.getElem?_eq_some_iff.mp h
  subst h2
  rw [scan, dif_pos h1]
  split
  · rename_i x e; rw [hs] at e; cases e
  · rfl
theorem toks_end {l : Tx} {i : Nat} (h : ¬ i < l.length) : toks l i = some [] := by rw [toks, dif_neg h]
theorem toks_none {l : Tx} {i : Nat} (h : i < l.length) (h2 : ¬ i < tokEnd l i) : toks l i = none := by rw [toks, dif_pos h, dif_neg h2]
theorem toks_some {l : Tx} {i : Nat} (h : i < l.length) (h2 : i < tokEnd l i) : toks l i = (toks l (tokEnd l i)).map fun r => cut l i (tokEnd l i) :: r := by
  rw [toks, dif_pos h, dif_pos h2]
theorem cut_one {l : Tx} {i c : Nat} (h : l[i]? = some c) : cut l i (i + 1) = [c] := by
  obtain ⟨h1, h2⟩ := List.getElem?_eq_some_iff.mp h
  unfold cut
  rw [List.drop_eq_getElem_cons h1, h2, Nat.add_sub_cancel_left]
  rfl
theorem cut_cat {l : Tx} {i j k : Nat} (h1 : i ≤ j) (h2 : j ≤ k) : cut l i j ++ cut l j k = cut l i k := by
  unfold cut
  have e : l.drop j = (l.drop i).drop (j - i) := by rw [List.drop_drop]; congr 1; omega
  rw [e]
  have e2 : k - i = (j - i) + (k - j) := by omega
  rw [e2, List.take_add]
theorem cut_head {l : Tx} {i j c : Nat} (h : l[i]? = some c) (hj : i < j) : ∃ r, cut l i j = c :: r := by
  obtain ⟨h1, h2⟩ := List.getElem?_eq_some_iff.mp h
  unfold cut
  rw [List.drop_eq_getElem_cons h1, h2]
  obtain ⟨k, hk⟩ : ∃ k, j - i = k + 1 := ⟨j - i - 1, by omega⟩
  rw [hk]
  exact ⟨_, rfl⟩
/-- no negative depth, at most thirteen, nothing behind the end -/
def ok : Int → List Tx → Bool
  | _, [] => false
  | d, [t] => decide (d + nest t = 0)
  | d, t :: u :: r => decide (0 < d + nest t) && (decide (d + nest t ≤ 13) && ok (d + nest t) (u :: r))
def seqF (p : Nat) (ts : List Tx) : Bool := inSeq (p :: ts.map kind)
theorem seqF_cons (p : Nat) (t : Tx) (r : List Tx) : seqF p (t :: r) = (decide (kind t ∈ fol p) && seqF (kind t) r) := rfl
def res (fl : Bool) (done : List Tx) (cur : Tx) (d : Int) (ts : List Tx) : List Tx := if (fl && decide (ts = [])) = true then [] else outerGo done cur d ts
def Pk (ready p : Nat) : Prop := (ready = 1 ∧ p = 40) ∨ (ready = 2 ∧ (p = 41 ∨ p = 119)) ∨ (ready = 3 ∧ p = 32)
def Part (l : Tx) (s : Sc) (fl : Bool) (done : List Tx) (cur : Tx) : Prop :=
  (s.depth = 1 ∧ s.ready = 1 ∧ fl = true ∧ s.found = [] ∧ done = [] ∧ cur = []) ∨ (s.depth = 1 ∧ s.ready = 2 ∧ fl = false ∧ s.found = done ++ [cur]) ∨
  (s.depth = 1 ∧ s.ready = 3 ∧ fl = false ∧ s.found = done ∧ cur = []) ∨ (1 < s.depth ∧ fl = false ∧ s.found = done ∧ s.begin ≤ s.pos ∧ cur = cut l s.begin s.pos)
def want (fl : Bool) (done : List Tx) (cur : Tx) (d : Int) (p : Nat) (ts : List Tx) : Option (List Tx) := if (ok d ts && seqF p ts) = true then some (res fl done cur (d - 1) ts.dropLast) else none
theorem want_no {fl done cur d p t r} (h : kind t ∉ fol p) : want fl done cur d p (t :: r) = none := by
  unfold want
  rw [seqF_cons, decide_eq_false h]
  simp
theorem bind_no {fl done cur d p} {t : Tx} (h : kind t ∉ fol p) : ∀ o : Option (List Tx), (o.map fun r => t :: r).bind (want fl done cur d p) = none
  | none => rfl
  | some r => want_no h
/-- one token more -/
theorem want_step {fl done cur d p t r done' cur'} (hp : kind t ∈ fol p) (hd : 0 < d + nest t) (hd2 : d + nest t ≤ 13) 
    (ho : ∀ r, outerGo done cur (d - 1) (t :: r) = outerGo done' cur' (d + nest t - 1) r) :
    want fl done cur d p (t :: r) = want false done' cur' (d + nest t) (kind t) r := by
  unfold want
  rw [seqF_cons, decide_eq_true hp, Bool.true_and]
  cases r with
  | nil =>
    have e1 : ok d [t] = false := by
      show decide (d + nest t = 0) = false
      exact decide_eq_false (by omega)
    have e2 : ok (d + nest t) [] = false := rfl
    rw [e1, e2]
    simp
  | cons u r =>
    have e1 : ok d (t :: u :: r) = ok (d + nest t) (u :: r) := by
      show (decide (0 < d + nest t) && (decide (d + nest t ≤ 13) && ok (d + nest t) (u :: r))) = _
      rw [decide_eq_true hd, decide_eq_true hd2]; rfl
    rw [e1]
    have e3 : (t :: u :: r).dropLast = t :: (u :: r).dropLast := rfl
    have e4 : res fl done cur (d - 1) (t :: (u :: r).dropLast) = res false done' cur' (d + nest t - 1) (u :: r).dropLast := by
      unfold res
      rw [if_neg (by simp), if_neg (by simp)]
      exact ho _
    rw [e3, e4]
theorem outerGo_plain {done : List Tx} {cur : Tx} {d : Int} {t : Tx} (r : List Tx) (h : ¬ (t = [32] ∧ d + nest t = 0)) : outerGo done cur d (t :: r) = outerGo done (cur ++ t) (d + nest t) r := by
  rw [outerGo, if_neg h]
theorem outerGo_new {done : List Tx} {cur : Tx} {d : Int} {t : Tx} (r : List Tx) (h : t = [32] ∧ d + nest t = 0) : outerGo done cur d (t :: r) = outerGo (done ++ [cur]) [] (d + nest t) r := by
  rw [outerGo, if_pos h]
theorem fol40 : fol 40 = [40, 41, 119] := rfl
theorem fol41 : fol 41 = [32, 41] := rfl
theorem fol119 : fol 119 = [32, 41] := rfl
theorem fol32 : fol 32 = [40, 119] := rfl
theorem kind_word {c : Nat} {r : Tx} (h : ¬ (c = 40 ∨ c = 41 ∨ c = 32)) : kind (c :: r) = 119 := by
  unfold kind
  rw [if_neg (fun e => h (.inl (List.cons.inj e).1)), if_neg (fun e => h (.inr (.inl (List.cons.inj e).1))), if_neg (fun e => h (.inr (.inr (List.cons.inj e).1)))]
theorem nest_word {c : Nat} {r : Tx} (h : ¬ (c = 40 ∨ c = 41 ∨ c = 32)) : nest (c :: r) = 0 := by
  unfold nest
  rw [if_neg (fun e => h (.inl (List.cons.inj e).1)), if_neg (fun e => h (.inr (.inl (List.cons.inj e).1)))]
theorem wordEnd_stop {l : Tx} {i c : Nat} (h : l[i]? = some c) (hc : stop c = true) : wordEnd l i = i := by
  obtain ⟨h1, h2⟩ := List.getElem?_eq_some_iff.mp h
  unfold wordEnd
  rw [List.drop_eq_getElem_cons h1, h2, List.takeWhile_cons, hc]
  rfl
theorem fin_none {l : Tx} {s : Sc} (h4 : s.ready = 4) (h : s.pos < l.length) : scan l s = none := by
  refine scan_none (c := l[s.pos]) (List.getElem?_eq_getElem h) ?_
  unfold step
  rw [if_neg (by omega), if_neg (by omega), if_pos (.inl (.inr h4))]
theorem toks_nil {l : Tx} {i : Nat} (h : i < l.length) : toks l i = none ∨ ∃ t r, toks l i = some (t :: r) := by
  by_cases h2 : i < tokEnd l i
  · rw [toks_some h h2]
    cases toks l (tokEnd l i) with
    | none => exact .inl rfl
    | some r => exact .inr ⟨_, r, rfl⟩
  · exact .inl (toks_none h h2)
theorem scan_is {l : Tx} : ∀ (n : Nat) (s : Sc) (fl : Bool) (done : List Tx) (cur : Tx) (p : Nat), l.length - s.pos ≤ n → Part l s fl done cur → s.depth ≤ 13 → Pk s.ready p →
    scan l s = (toks l s.pos).bind (want fl done cur s.depth p) := by
  intro n
  induction n with
  | zero =>
    intro s fl done cur p hn hP hd hk
    have hlt : ¬ s.pos < l.length := by omega
    rw [scan_end hlt, toks_end hlt, if_neg (by rcases hk with h | h | h <;> omega)]
    rfl
  | succ n ih =>
    intro s fl done cur p hn hP hd hk
    by_cases hlt : s.pos < l.length
    · obtain ⟨c, hc⟩ : ∃ c, l[s.pos]? = some c := ⟨_, List.getElem?_eq_getElem hlt⟩
      have hpos : 1 ≤ s.depth := by rcases hP with h | h | h | h <;> omega
      by_cases hb : c = 40 ∨ c = 41 ∨ c = 32
      · -- a sign alone
        have te : tokEnd l s.pos = s.pos + 1 := by unfold tokEnd; rw [hc]; exact if_pos hb
        have tk : toks l s.pos = (toks l (s.pos + 1)).map fun r => [c] :: r := by
          rw [toks_some hlt (by rw [te]; exact Nat.lt_succ_self _), te, cut_one hc]
        rw [tk]
        rcases hb with hb | hb | hb
        · subst hb
          by_cases h2 : s.ready = 2
          · have hno : kind [40] ∉ fol p := by
              rcases hk with h | h | h
              · omega
              · rcases h.2 with e | e <;> subst e <;> decide
              · omega
            rw [bind_no hno]
            refine scan_none hc ?_
            unfold step
            rw [if_neg (by omega), if_neg (by omega), if_pos (.inl (.inl h2))]
          · have hr : s.ready = 1 ∨ s.ready = 3 := by rcases hk with h | h | h <;> omega
            have hyes : kind [40] ∈ fol p := by
              rcases hk with h | h | h
              · rw [h.2]; decide
              · omega
              · rw [h.2]; decide
            have st : step l s 40 = begun l s 40 := by
              unfold step
              rw [if_neg (by omega), if_neg (by omega), if_neg (by omega)]
            by_cases h14 : s.depth + 1 < 14
            · have sb : step l s 40 = some { (if s.depth = 1 then { s with begin := s.pos } else s) with depth := s.depth + 1, pos := s.pos + 1, ready := 1 } := by
                rw [st]; unfold begun; dsimp only; rw [if_pos rfl, if_pos h14]
              rw [scan_some hc sb]
              have e1 : nest [40] = 1 := rfl
              have go : ∀ r, outerGo done cur (s.depth - 1) ([40] :: r) = outerGo done (cur ++ [40]) (s.depth + nest [40] - 1) r := fun r => by
                rw [outerGo_plain r (by simp), e1]
                congr 1
                omega
              have key := ih { (if s.depth = 1 then { s with begin := s.pos } else s) with depth := s.depth + 1, pos := s.pos + 1, ready := 1 } false done (cur ++ [40]) 40 (by dsimp only; omega) ?_ (by dsimp only; omega) (.inl ⟨rfl, rfl⟩)
              · rw [key]
                dsimp only
                cases toks l (s.pos + 1) with
                | none => rfl
                | some r =>
                  show want false done (cur ++ [40]) (s.depth + 1) 40 r = want fl done cur s.depth p ([40] :: r)
                  rw [want_step hyes (by rw [e1]; omega) (by rw [e1]; omega) go]
                  rfl
              · refine .inr (.inr (.inr ⟨by dsimp only; omega, rfl, ?_⟩))
                rcases hP with ⟨a1, a2, a3, a4, a5, a6⟩ | ⟨a1, a2, _⟩ | ⟨a1, a2, a3, a4, a5⟩ | ⟨a1, a3, a4, a5, a6⟩
                · rw [if_pos a1]
                  dsimp only
                  rw [a5, a6]
                  exact ⟨a4, Nat.le_succ _, (cut_one hc).symm⟩
                · omega
                · rw [if_pos a1]
                  dsimp only
                  rw [a5]
                  exact ⟨a4, Nat.le_succ _, (cut_one hc).symm⟩
                · rw [if_neg (by omega)]
                  dsimp only
                  exact ⟨a4, by omega, by rw [a6, ← cut_one hc, cut_cat a5 (Nat.le_succ _)]⟩
            · have sb : step l s 40 = none := by rw [st]; unfold begun; dsimp only; rw [if_pos rfl, if_neg h14]
              rw [scan_none hc sb]
              cases toks l (s.pos + 1) with
              | none => rfl
              | some r =>
                show none = want fl done cur s.depth p ([40] :: r)
                unfold want
                have e0 : ok s.depth ([40] :: r) = false := by
                  cases r with
                  | nil => exact decide_eq_false (by show ¬ s.depth + 1 = 0; omega)
                  | cons u r =>
                    show (decide (0 < s.depth + nest [40]) && (decide (s.depth + nest [40] ≤ 13) && ok (s.depth + nest [40]) (u :: r))) = false
                    rw [decide_eq_false (p := s.depth + nest [40] ≤ 13) (by show ¬ s.depth + 1 ≤ 13; omega)]
                    simp
                rw [e0]
                simp
        · subst hb
          by_cases h3 : s.ready = 3
          · have hno : kind [41] ∉ fol p := by
              rcases hk with h | h | h
              · omega
              · omega
              · rw [h.2]; decide
            rw [bind_no hno]
            refine scan_none hc ?_
            unfold step
            rw [if_neg (by omega), if_neg (by omega), if_neg (by omega)]
            unfold begun
            dsimp only
            rw [if_neg (show ¬ (41 : Nat) = 40 by decide), if_neg (show ¬ (41 : Nat) = 39 by decide), wordEnd_stop hc (by decide), if_neg (Nat.lt_irrefl _)]
          · have hr : s.ready = 1 ∨ s.ready = 2 := by rcases hk with h | h | h <;> omega
            have hyes : kind [41] ∈ fol p := by
              rcases hk with h | h | h
              · rw [h.2]; decide
              · rcases h.2 with e | e <;> rw [e] <;> decide
              · omega
            have e1 : nest [41] = -1 := rfl
            have st : step l s 41 = some (closed l s) := by
              unfold step
              rw [if_pos ⟨rfl, hr⟩]
            rw [scan_some hc st]
            by_cases h1 : s.depth = 1
            · -- the end
              have ce : closed l s = { s with depth := s.depth - 1, pos := s.pos + 1, ready := 4 } := by
                unfold closed ended
                dsimp only
                rw [if_neg (show ¬ s.depth - 1 = 1 by omega), if_pos (show s.depth - 1 = 0 by omega)]
              rw [ce]
              by_cases hl : s.pos + 1 < l.length
              · rw [fin_none rfl hl]
                rcases toks_nil hl with e | ⟨t, r, e⟩
                · rw [e]; rfl
                · rw [e]
                  show none = want fl done cur s.depth p ([41] :: t :: r)
                  unfold want
                  have e0 : ok s.depth ([41] :: t :: r) = false := by
                    show (decide (0 < s.depth + nest [41]) && (decide (s.depth + nest [41] ≤ 13) && ok (s.depth + nest [41]) (t :: r))) = false
                    rw [decide_eq_false (p := 0 < s.depth + nest [41]) (by rw [e1]; omega)]
                    rfl
                  rw [e0]
                  simp
              · rw [scan_end hl, toks_end hl, if_pos rfl]
                show some s.found = want fl done cur s.depth p [[41]]
                unfold want
                have e0 : ok s.depth [[41]] = true := decide_eq_true (by rw [e1]; omega)
                have e2 : seqF p [[41]] = true := by rw [seqF_cons, decide_eq_true hyes]; rfl
                rw [e0, e2]
                show some s.found = some (res fl done cur (s.depth - 1) [])
                congr 1
                unfold res
                rcases hP with ⟨a1, a2, a3, a4, a5, a6⟩ | ⟨a1, a2, a3, a4⟩ | ⟨a1, a2, _⟩ | ⟨a1, _⟩
                · rw [a3, a4]; rfl
                · rw [a3, a4]; rfl
                · omega
                · omega
            · have hdeep : 1 < s.depth := by omega
              rcases hP with ⟨a1, _⟩ | ⟨a1, _⟩ | ⟨a1, _⟩ | ⟨a1, a3, a4, a5, a6⟩
              · omega
              · omega
              · omega
              · have cc : cur ++ [41] = cut l s.begin (s.pos + 1) := by rw [a6, ← cut_one hc, cut_cat a5 (Nat.le_succ _)]
                have ce : closed l s = { s with depth := s.depth - 1, pos := s.pos + 1, ready := 2, found := if s.depth - 1 = 1 then s.found ++ [cut l s.begin (s.pos + 1)] else s.found } := by
                  unfold closed ended
                  dsimp only
                  rw [if_neg (show ¬ s.depth - 1 = 0 by omega)]
                rw [ce]
                have go : ∀ r, outerGo done cur (s.depth - 1) ([41] :: r) = outerGo done (cur ++ [41]) (s.depth + nest [41] - 1) r := fun r => by
                  rw [outerGo_plain r (by simp), e1]
                  congr 1 <;> omega
                have key := ih { s with depth := s.depth - 1, pos := s.pos + 1, ready := 2, found := if s.depth - 1 = 1 then s.found ++ [cut l s.begin (s.pos + 1)] else s.found } false done (cur ++ [41]) 41 (by dsimp only; omega) ?_ (by dsimp only; omega) (.inr (.inl ⟨rfl, .inl rfl⟩))
                · rw [key]
                  dsimp only
                  cases toks l (s.pos + 1) with
                  | none => rfl
                  | some r =>
                    show want false done (cur ++ [41]) (s.depth - 1) 41 r = want fl done cur s.depth p ([41] :: r)
                    rw [want_step hyes (by rw [e1]; omega) (by rw [e1]; omega) go]
                    rfl
                · by_cases h2 : s.depth - 1 = 1
                  · refine .inr (.inl ⟨h2, rfl, rfl, ?_⟩)
                    dsimp only
                    rw [if_pos h2, a4, cc]
                  · refine .inr (.inr (.inr ⟨by dsimp only; omega, rfl, ?_, by dsimp only; omega, cc⟩))
                    dsimp only
                    rw [if_neg h2, a4]
        · subst hb
          by_cases h2 : s.ready = 2
          · have hyes : kind [32] ∈ fol p := by
              rcases hk with h | h | h
              · omega
              · rcases h.2 with e | e <;> rw [e] <;> decide
              · omega
            have e1 : nest [32] = 0 := rfl
            have st : step l s 32 = some { s with pos := s.pos + 1, ready := 3 } := by
              unfold step
              rw [if_neg (by omega), if_pos ⟨rfl, h2⟩]
            rw [scan_some hc st]
            rcases hP with ⟨a1, a2, _⟩ | ⟨a1, a2, a3, a4⟩ | ⟨a1, a2, _⟩ | ⟨a1, a3, a4, a5, a6⟩
            · omega
            · have go : ∀ r, outerGo done cur (s.depth - 1) ([32] :: r) = outerGo (done ++ [cur]) [] (s.depth + nest [32] - 1) r := fun r => by
                rw [outerGo_new r ⟨rfl, by rw [e1]; omega⟩, e1]
                congr 1
                omega
              have key := ih { s with pos := s.pos + 1, ready := 3 } false (done ++ [cur]) [] 32 (by dsimp only; omega) (.inr (.inr (.inl ⟨a1, rfl, rfl, a4, rfl⟩))) hd (.inr (.inr ⟨rfl, rfl⟩))
              rw [key]
              dsimp only
              cases toks l (s.pos + 1) with
              | none => rfl
              | some r =>
                show want false (done ++ [cur]) [] s.depth 32 r = want fl done cur s.depth p ([32] :: r)
                rw [want_step hyes (by rw [e1]; omega) (by rw [e1]; omega) go, e1]
                congr 1
                omega
            · omega
            · have go : ∀ r, outerGo done cur (s.depth - 1) ([32] :: r) = outerGo done (cur ++ [32]) (s.depth + nest [32] - 1) r := fun r => by
                rw [outerGo_plain r (by rw [e1]; omega), e1]
                congr 1
                omega
              have key := ih { s with pos := s.pos + 1, ready := 3 } false done (cur ++ [32]) 32 (by dsimp only; omega) (.inr (.inr (.inr ⟨a1, rfl, a4, by dsimp only; omega, by rw [a6, ← cut_one hc, cut_cat a5 (Nat.le_succ _)]⟩))) hd (.inr (.inr ⟨rfl, rfl⟩))
              rw [key]
              dsimp only
              cases toks l (s.pos + 1) with
              | none => rfl
              | some r =>
                show want false done (cur ++ [32]) s.depth 32 r = want fl done cur s.depth p ([32] :: r)
                rw [want_step hyes (by rw [e1]; omega) (by rw [e1]; omega) go, e1]
                congr 1
                omega
          · have hno : kind [32] ∉ fol p := by
              rcases hk with h | h | h
              · rw [h.2]; decide
              · omega
              · rw [h.2]; decide
            rw [bind_no hno]
            refine scan_none hc ?_
            unfold step
            rw [if_neg (by omega), if_neg (by omega), if_neg (by rcases hk with h | h | h <;> omega)]
            unfold begun
            dsimp only
            rw [if_neg (show ¬ (32 : Nat) = 40 by decide), if_neg (show ¬ (32 : Nat) = 39 by decide), wordEnd_stop hc (by decide), if_neg (Nat.lt_irrefl _)]
      · -- a quoted text or a word
        have te : tokEnd l s.pos = if c = 39 then quoteEnd l s.pos else wordEnd l s.pos := by unfold tokEnd; rw [hc]; exact if_neg hb
        have st : s.ready ≠ 2 → step l s c = begun l s c := fun h2 => by
          unfold step
          rw [if_neg (by omega), if_neg (by omega), if_neg (by rcases hk with h | h | h <;> omega)]
        by_cases he : s.pos < tokEnd l s.pos
        · obtain ⟨w, hw⟩ := cut_head hc he
          have kw : kind (cut l s.pos (tokEnd l s.pos)) = 119 := by rw [hw]; exact kind_word hb
          have nw : nest (cut l s.pos (tokEnd l s.pos)) = 0 := by rw [hw]; exact nest_word hb
          rw [toks_some hlt he]
          by_cases h2 : s.ready = 2
          · have hno : kind (cut l s.pos (tokEnd l s.pos)) ∉ fol p := by
              rw [kw]
              rcases hk with h | h | h
              · omega
              · rcases h.2 with e | e <;> rw [e] <;> decide
              · omega
            rw [bind_no hno]
            refine scan_none hc ?_
            unfold step
            rw [if_neg (by omega), if_neg (by omega), if_pos (.inl (.inl h2))]
          · have hyes : kind (cut l s.pos (tokEnd l s.pos)) ∈ fol p := by
              rw [kw]
              rcases hk with h | h | h
              · rw [h.2]; decide
              · omega
              · rw [h.2]; decide
            have sb : step l s c = some (ended l (if s.depth = 1 then { s with begin := s.pos } else s) (tokEnd l s.pos)) := by
              rw [st h2]
              unfold begun
              dsimp only
              rw [if_neg (by omega), ← te, if_pos he]
            rw [scan_some hc sb]
            have n32 : ¬ cut l s.pos (tokEnd l s.pos) = [32] := fun e => by
              rw [hw] at e
              exact hb (.inr (.inr (List.cons.inj e).1))
            have go : ∀ r, outerGo done cur (s.depth - 1) (cut l s.pos (tokEnd l s.pos) :: r) = outerGo done (cur ++ cut l s.pos (tokEnd l s.pos)) (s.depth + nest (cut l s.pos (tokEnd l s.pos)) - 1) r := fun r => by
              rw [outerGo_plain r (fun e => n32 e.1), nw]
              congr 1
              omega
            have fin : ∀ (s' : Sc), s'.pos = tokEnd l s.pos → s'.depth = s.depth → s'.ready = 2 → Part l s' false done (cur ++ cut l s.pos (tokEnd l s.pos)) →
                scan l s' = ((toks l (tokEnd l s.pos)).map fun r => cut l s.pos (tokEnd l s.pos) :: r).bind (want fl done cur s.depth p) := fun s' e1 e2 e3 P' => by
              have key := ih s' false done (cur ++ cut l s.pos (tokEnd l s.pos)) 119 (by omega) P' (by omega) (.inr (.inl ⟨e3, .inr rfl⟩))
              rw [key, e1, e2]
              cases toks l (tokEnd l s.pos) with
              | none => rfl
              | some r =>
                show want false done _ s.depth 119 r = want fl done cur s.depth p (_ :: r)
                rw [want_step hyes (by rw [nw]; omega) (by rw [nw]; omega) go, nw, kw]
                congr 1
                omega
            refine fin _ rfl (by unfold ended; dsimp only; split <;> rfl) rfl ?_
            rcases hP with ⟨a1, a2, a3, a4, a5, a6⟩ | ⟨a1, a2, _⟩ | ⟨a1, a2, a3, a4, a5⟩ | ⟨a1, a3, a4, a5, a6⟩
            · rw [if_pos a1]
              refine .inr (.inl ⟨a1, rfl, rfl, ?_⟩)
              unfold ended
              dsimp only
              rw [if_pos a1, a4, a5, a6]
              rfl
            · omega
            · rw [if_pos a1]
              refine .inr (.inl ⟨a1, rfl, rfl, ?_⟩)
              unfold ended
              dsimp only
              rw [if_pos a1, a4, a5]
              rfl
            · rw [if_neg (by omega)]
              refine .inr (.inr (.inr ⟨a1, rfl, ?_, ?_, ?_⟩))
              · unfold ended
                dsimp only
                rw [if_neg (by omega), a4]
              · unfold ended
                dsimp only
                omega
              · unfold ended
                dsimp only
                rw [a6, cut_cat a5 (by omega)]
        · rw [toks_none hlt he]
          refine scan_none hc ?_
          by_cases h2 : s.ready = 2
          · unfold step
            rw [if_neg (by omega), if_neg (by omega), if_pos (.inl (.inl h2))]
          · rw [st h2]
            unfold begun
            dsimp only
            rw [if_neg (by omega), ← te, if_neg he]
    · rw [scan_end hlt, toks_end hlt, if_neg (by rcases hk with h | h | h <;> omega)]
      rfl
def sc0 : Sc := { pos := 0, depth := 0, ready := 0, begin := 0, found := [] }
theorem ok_depths : ∀ (ts : List Tx) (d : Int), ok d ts = (decide (ts ≠ []) && (decide ((depths d ts).getLast? = some 0) && (((depths d ts).dropLast.all fun d => decide (0 < d)) && (depths d ts).dropLast.all fun d => decide (d ≤ 13))))
  | [], _ => rfl
  | [t], d => by
    show decide (d + nest t = 0) = (true && (decide (some (d + nest t) = some 0) && (true && true)))
    by_cases h : d + nest t = 0
    · rw [h]; rfl
    · rw [decide_eq_false h, decide_eq_false (fun e => h (Option.some.inj e))]; rfl
  | t :: u :: r, d => by
    have ih := ok_depths (u :: r) (d + nest t)
    show (decide (0 < d + nest t) && (decide (d + nest t ≤ 13) && ok (d + nest t) (u :: r))) = _
    rw [ih]
    have e1 : depths d (t :: u :: r) = (d + nest t) :: depths (d + nest t) (u :: r) := rfl
    obtain ⟨x, xs, hx⟩ : ∃ x xs, depths (d + nest t) (u :: r) = x :: xs := ⟨_, _, rfl⟩
    rw [e1, hx]
    have e2 : ((d + nest t) :: x :: xs).getLast? = (x :: xs).getLast? := by simp [List.getLast?_cons_cons]
    have e3 : ((d + nest t) :: x :: xs).dropLast = (d + nest t) :: (x :: xs).dropLast := rfl
    rw [e2, e3, List.all_cons, List.all_cons]
    simp only [ne_eq, reduceCtorEq, not_false_eq_true, decide_true, Bool.true_and]
    cases decide (0 < d + nest t) <;> cases decide (d + nest t ≤ 13) <;> cases decide ((x :: xs).getLast? = some 0) <;> simp
theorem nested_head {t : Tx} {r : List Tx} (h : ¬ t = [40]) : nested (t :: r) = false := by
  have hn : nest t ≤ 0 := by
    unfold nest
    rw [if_neg h]
    split <;> omega
  unfold nested
  dsimp only
  have e1 : depths 0 (t :: r) = (0 + nest t) :: depths (0 + nest t) r := rfl
  rw [e1]
  cases hd : depths (0 + nest t) r with
  | nil => simp
  | cons x xs =>
    have e3 : ((0 + nest t) :: x :: xs).dropLast = (0 + nest t) :: (x :: xs).dropLast := rfl
    rw [e3, List.all_cons, decide_eq_false (p := 0 < 0 + nest t) (by omega)]
    simp
theorem nested_ok (r : List Tx) : nested ([40] :: r) = ok 1 r := by
  rw [ok_depths]
  unfold nested
  dsimp only
  have e1 : depths 0 ([40] :: r) = 1 :: depths 1 r := rfl
  rw [e1]
  cases r with
  | nil => rfl
  | cons t r =>
    obtain ⟨x, xs, hx⟩ : ∃ x xs, depths 1 (t :: r) = x :: xs := ⟨_, _, rfl⟩
    rw [hx]
    have e2 : ((1 : Int) :: x :: xs).getLast? = (x :: xs).getLast? := by simp [List.getLast?_cons_cons]
    have e3 : ((1 : Int) :: x :: xs).dropLast = 1 :: (x :: xs).dropLast := rfl
    rw [e2, e3, List.all_cons, List.all_cons]
    simp
/-- THE MATHEMATICS: the scanner of the law and the program agree at every text -/
theorem scan_prog (l : Tx) : scan l sc0 = prog l := by
  have nil : progT [] = none := rfl
  by_cases hlt : 0 < l.length
  · obtain ⟨c, hc⟩ : ∃ c, l[0]? = some c := ⟨_, List.getElem?_eq_getElem hlt⟩
    by_cases h40 : c = 40
    · subst h40
      have sb : step l sc0 40 = some { sc0 with depth := 1, pos := 1, ready := 1 } := by
        unfold step begun
        rw [if_neg (by decide), if_neg (by decide), if_neg (by decide)]
        rfl
      rw [scan_some (s := sc0) hc sb]
      rw [scan_is l.length { sc0 with depth := 1, pos := 1, ready := 1 } true [] [] 40 (by omega) (.inl ⟨rfl, rfl, rfl, rfl, rfl, rfl⟩) (by decide) (.inl ⟨rfl, rfl⟩)]
      have te : tokEnd l 0 = 1 := by unfold tokEnd; rw [hc]; rfl
      have tk : toks l 0 = (toks l 1).map fun r => [40] :: r := by
        rw [toks_some hlt (by rw [te]; decide), te, cut_one (i := 0) hc]
      unfold prog
      rw [tk]
      show (toks l 1).bind (want true [] [] 1 40) = _
      cases toks l 1 with
      | none => exact nil.symm
      | some r =>
        show want true [] [] 1 40 r = progT ([40] :: r)
        unfold want progT
        rw [nested_ok]
        have e1 : inSeq (([40] :: r).map kind) = seqF 40 r := rfl
        have e2 : res true [] [] (1 - 1) r.dropLast = outer r.dropLast := by
          unfold res outer
          by_cases h : r.dropLast = []
          · rw [h]; rfl
          · rw [if_neg h, if_neg (by simp [h])]
            rfl
        rw [e1, Bool.and_comm, e2]
        rfl
    · have sb : step l sc0 c = none := by
        unfold step
        rw [if_neg (fun h => by rcases h.2 with h | h <;> cases h), if_neg (fun h => by cases h.2), if_pos (.inr ⟨rfl, h40⟩)]
      rw [scan_none (s := sc0) hc sb]
      unfold prog
      rcases toks_nil hlt with e | ⟨t, r, e⟩
      · rw [e]; exact nil.symm
      · have ht : ¬ t = [40] := fun e40 => by
          by_cases h2 : 0 < tokEnd l 0
          · obtain ⟨w, hw⟩ := cut_head hc h2
            rw [toks_some hlt h2, hw] at e
            cases ht : toks l (tokEnd l 0) with
            | none => rw [ht] at e; cases e
            | some q =>
              rw [ht] at e
              have e' := (List.cons.inj (Option.some.inj e)).1
              rw [e40] at e'
              exact h40 (List.cons.inj e').1
          · rw [toks_none hlt h2] at e; cases e
        rw [e]
        show none = progT (t :: r)
        unfold progT
        rw [nested_head ht]
        simp
  · have e : l = [] := List.eq_nil_of_length_eq_zero (by omega)
    subst e
    rw [scan_end (by decide)]
    unfold prog
    rw [toks_end (by decide)]
    rfl
end K21
namespace K21
open PySem L2
def top (i : Nat) : Stmt := PySem.Challenge.pw_aboveless_k21_parts_of_texts.main.body.getD i (.Pass ⟨0, 0, 0, 0⟩)
abbrev sSplit : Stmt := top 12
abbrev sTokens : Stmt := top 13
abbrev sTokEnd : Stmt := top 14
abbrev sKind : Stmt := top 15
abbrev sInSeq : Stmt := top 16
abbrev sNested : Stmt := top 17
abbrev sOuter : Stmt := top 18
/-- a text by its codes -/
def txt (l : Tx) : Str := ⟨l.toArray⟩
abbrev tv (l : Tx) : V := .str (txt l)
theorem txt_len (l : Tx) : (txt l).length = l.length := List.size_toArray
theorem txt_list (l : Tx) : (txt l).cps.toList = l := rfl
theorem txt_of (z : Str) : z = txt z.cps.toList := by cases z with | mk a => cases a; rfl
theorem txt_inj {a b : Tx} (h : txt a = txt b) : a = b := by
  have h2 : (txt a).cps.toList = (txt b).cps.toList := by rw [h]
  exact h2
theorem txt_app (a b : Tx) : txt a ++ txt b = txt (a ++ b) := by
  show (⟨a.toArray ++ b.toArray⟩ : Str) = ⟨(a ++ b).toArray⟩
  simp
/-- the most signs of a text here -/
def big : Nat := 1000000
theorem big_line : big ≤ sizeLine := by decide
theorem cutS_nat (l : Tx) (i j : Nat) (h1 : i ≤ j) (h2 : j ≤ l.length) : cutS (txt l) (some (i : Int)) (some (j : Int)) = txt (cut l i j) := by
  unfold cutS
  rw [txt_len]
  have e1 : HT.sIx l.length 0 (some (i : Int)) = i := by
    rw [HT.sIx_nat]
    omega
  have e2 : HT.sIx l.length l.length (some (j : Int)) = j := by
    rw [HT.sIx_nat]
    omega
  rw [e1, e2]
  rfl
theorem quote_is (l : Tx) (i : Nat) (hi : i < l.length) : Txt.find3 (txt l) ⟨#[39]⟩ ((i : Int) + 1) + 1 = (quoteEnd l i : Int) := by
  have ef : PySem.fromIndex (txt l).length ((i : Int) + 1) = i + 1 := by
    unfold PySem.fromIndex
    rw [if_neg (by omega)]
    omega
  have gd : ∀ v, v < l.length → (txt l).cps.getD v 0 = l.getD v 0 := fun v hv => by
    unfold txt
    simp [Array.getD, List.getD, hv]
  have hlen := txt_len l
  unfold quoteEnd
  rcases PySem.StrLaws.find3_spec (txt l) 39 ((i : Int) + 1) with ⟨h0, hn⟩ | ⟨k, h0, hlo, hk, hc, hn⟩
  · rw [h0]
    have e : (l.drop (i + 1)).findIdx? (· == 39) = none := by
      rw [List.findIdx?_eq_none_iff]
      intro x hx
      obtain ⟨j, hj, hx⟩ := List.mem_iff_getElem.mp hx
      rw [List.length_drop] at hj
      rw [List.getElem_drop] at hx
      have := hn (i + 1 + j) (by rw [ef]; omega) (by omega)
      rw [gd _ (by omega)] at this
      have hg : l.getD (i + 1 + j) 0 = l[i + 1 + j] := by simp [List.getD, show i + 1 + j < l.length by omega]
      rw [hg, hx] at this
      simpa using this
    rw [e]
    rfl
  · rw [h0]
    rw [ef] at hlo hn
    have e : (l.drop (i + 1)).findIdx? (· == 39) = some (k - (i + 1)) := by
      rw [List.findIdx?_eq_some_iff_getElem]
      refine ⟨by rw [List.length_drop]; omega, ?_, fun j hj => ?_⟩
      · rw [List.getElem_drop]
        rw [gd _ (by omega)] at hc
        have hg : l.getD k 0 = l[k]'(by omega) := by simp [List.getD, show k < l.length by omega]
        rw [hg] at hc
        have e2 : i + 1 + (k - (i + 1)) = k := by omega
        simp only [e2, hc]
        rfl
      · rw [List.getElem_drop]
        have := hn (i + 1 + j) (by omega) (by omega)
        rw [gd _ (by omega)] at this
        have hg : l.getD (i + 1 + j) 0 = l[i + 1 + j]'(by omega) := by simp [List.getD, show i + 1 + j < l.length by omega]
        rw [hg] at this
        simpa using this
    rw [e]
    show (k : Int) + 1 = ((i + 1 + (k - (i + 1)) + 1 : Nat) : Int)
    omega
theorem wordEnd_more {l : Tx} {i c : Nat} (h : l[i]? = some c) (hc : stop c = false) : wordEnd l i = wordEnd l (i + 1) := by
  obtain ⟨h1, h2⟩ := List.getElem?_eq_some_iff.mp h
  unfold wordEnd
  rw [List.drop_eq_getElem_cons h1, h2, List.takeWhile_cons, hc]
  simp
  omega
theorem wordEnd_len {l : Tx} {i : Nat} (h : ¬ i < l.length) : wordEnd l i = i := by
  unfold wordEnd
  rw [List.drop_eq_nil_of_le (by omega)]
  rfl
theorem wordEnd_le (l : Tx) (i : Nat) (h : i ≤ l.length) : wordEnd l i ≤ l.length := by
  unfold wordEnd
  have h1 := (List.takeWhile_sublist (l := l.drop i) (fun c => !stop c)).length_le
  rw [List.length_drop] at h1
  omega
theorem quoteEnd_le (l : Tx) (i : Nat) : quoteEnd l i ≤ l.length := by
  unfold quoteEnd
  cases h : (l.drop (i + 1)).findIdx? (· == 39) with
  | none => exact Nat.zero_le _
  | some k =>
    obtain ⟨hk, _⟩ := List.findIdx?_eq_some_iff_getElem.mp h
    rw [List.length_drop] at hk
    show i + 1 + k + 1 ≤ _
    omega
theorem tokEnd_le (l : Tx) (i : Nat) (h : i < l.length) : tokEnd l i ≤ l.length := by
  unfold tokEnd
  rw [List.getElem?_eq_getElem h]
  dsimp only
  split
  · omega
  · split
    · exact quoteEnd_le l i
    · exact wordEnd_le l i (by omega)
theorem lit_blank : Str.ofString "() " = txt [40, 41, 32] := by decide +kernel
theorem lit_quote : Str.ofString "'" = ⟨#[39]⟩ := by decide +kernel
theorem lit_stop : Str.ofString "() '" = txt [40, 41, 32, 39] := by decide +kernel
theorem sign_eq (c d : Nat) : decide ((V.str ⟨#[c]⟩ : V) = V.str ⟨#[d]⟩) = decide (c = d) := by
  by_cases h : c = d
  · subst h; simp
  · rw [decide_eq_false h]
    refine decide_eq_false fun e => h ?_
    injection e with e
    injection e with e
    exact (Array.mk.inj e |> List.cons.inj).1
end K21
namespace K21
open PySem L2
section
variable {P : Program} {w : World} {K : PySem.W.Frag} {mg : Str → Option Value} {base : Heap}
/-! ### token_end -/
def spTokEnd : Sp := fun vs H Q _ => ∃ (l : Tx) (i : Nat), vs = [tv l, .int (i : Int)] ∧ i < l.length ∧ l.length ≤ big ∧ Q (.int (tokEnd l i : Nat)) H
theorem scTE : FnScope ["text", "at", "end"] ["text", "at"] (defScope sTokEnd) := ⟨rfl, rfl, rfl, by decide +kernel, rfl, by decide +kernel, by decide +kernel⟩
theorem ok_tokEnd {f : Addr} {fd : FuncData} (F : Fun K "token_end" "token_end" sTokEnd f fd) (zLen : mg "len" = none) : FnOk P w K mg base CX0 1 f fd ["text", "at"] spTokEnd := by
  refine F.ok scTE (fun vs H Q E h => ?_) (fun cdv A outer s H vs Q E hr h => ?_)
  · obtain ⟨l, i, rfl, _⟩ := h
    rfl
  · obtain ⟨l, i, rfl, hi, hl, k⟩ := h
    have hline : (txt l).length ≤ sizeLine := by rw [txt_len]; exact Nat.le_trans hl big_line
    refine ⟨_, pss_cons (ps_if (pt_cmpR op_in_sign (pe_ix ix_str (pv 0) (pv 1) (fun _ _ => rfl)) pe_str (by rfl)) (pss_one (ps_ret (pe_op op_add (pv 1) pe_int))) pss_nil)
      (pss_cons (ps_if (pt_cmpR op_eq (pe_ix ix_str (pv 0) (pv 1) (fun _ _ => rfl)) pe_str (nomark _)) (pss_one (ps_ret (pe_op op_add (pe_bm PySem.F.plainAttrs_str PySem.F.slot_str_find PySem.F.type_str_find mt_find3 (pv 0) (pa_cons pe_str (pa_cons (pe_op op_add (pv 1) pe_int) pa_nil))) pe_int))) pss_nil)
      (pss_cons (ps_set (i := 2) scTE.nd rfl (Or.inl rfl) (pv 1))
      (pss_cons (ps_while PassesOwn.never (PW.pt (pw_and (pt_cmpR op_lt (pv 2) (pe_callB call_len_str (by rfl) zLen PySem.boot_len (pa_cons (pv 0) pa_nil)) (nomark _)) (pw_and1 (pt_cmpR op_notIn_sign (pe_ix ix_str (pv 0) (pv 2) (fun _ _ => rfl)) pe_str (by rfl))))) (pss_one (ps_aug (i := 2) scTE.nd rfl (Or.inl rfl) pe_int ip_add)))
      (pss_one (ps_ret (pv 2)))))), ?_⟩
    obtain ⟨c, hc⟩ : ∃ c, l[i]? = some c := ⟨_, List.getElem?_eq_getElem hi⟩
    have te : tokEnd l i = if c = 40 ∨ c = 41 ∨ c = 32 then i + 1 else if c = 39 then quoteEnd l i else wordEnd l i := by unfold tokEnd; rw [hc]
    refine ⟨_, rfl, _, rfl, _, _, c, rfl, rfl, hline, atI_nat hc, c, Str.ofString "() ", rfl, rfl, _, rfl, ?_⟩
    rw [lit_blank, txt_list]
    refine ite2 (fun h1 => ?_) (fun h1 => ?_)
    · have h1' : c = 40 ∨ c = 41 ∨ c = 32 := by
        have q := of_decide_eq_true h1
        simpa using q
      rw [te, if_pos h1'] at k
      exact ⟨_, rfl, _, _, rfl, rfl, k⟩
    · have h1' : ¬ (c = 40 ∨ c = 41 ∨ c = 32) := fun q => h1 (decide_eq_true (by simpa using q))
      rw [te, if_neg h1'] at k
      refine ⟨_, rfl, _, rfl, _, _, c, rfl, rfl, hline, atI_nat hc, rfl, _, rfl, ?_⟩
      rw [lit_quote, sign_eq]
      refine ite2 (fun h2 => ?_) (fun h2 => ?_)
      · have h2' := of_decide_eq_true h2
        rw [if_pos h2', ← quote_is l i hi] at k
        refine ⟨_, rfl, rfl, _, rfl, _, _, rfl, rfl, txt l, ⟨#[39]⟩, (i : Int) + 1, rfl, rfl, _, _, rfl, rfl, k⟩
      · have h2' : ¬ c = 39 := fun q => h2 (decide_eq_true q)
        rw [if_neg h2'] at k
        refine ⟨_, rfl, ?_⟩
        refine while_by (fun σ H' => ∃ j : Nat, σ = [some (tv l), some (.int (i : Int)), some (.int (j : Int))] ∧ H' = H ∧ j ≤ l.length ∧ wordEnd l j = wordEnd l i)
          (fun σ _ => match σ with | [_, _, some (.int j)] => l.length - j.toNat | _ => 0) ⟨i, rfl, rfl, by omega, rfl⟩ ?_ ?_
        · rintro σ H' ⟨j, rfl, rfl, hj, hw⟩
          refine ⟨_, rfl, _, rfl, txt l, rfl, hline, _, _, rfl, rfl, _, rfl, ?_⟩
          rw [txt_len]
          refine ite2 (fun h3 => ?_) (fun h3 => ?_)
          · have h3' : j < l.length := by have := of_decide_eq_true h3; omega
            obtain ⟨d, hd⟩ : ∃ d, l[j]? = some d := ⟨_, List.getElem?_eq_getElem h3'⟩
            refine ⟨_, rfl, _, rfl, _, _, d, rfl, rfl, hline, atI_nat hd, d, Str.ofString "() '", rfl, rfl, _, rfl, ?_⟩
            rw [lit_stop, txt_list]
            have ed : decide (d ∈ [40, 41, 32, 39]) = stop d := by
              unfold stop
              by_cases q1 : d = 40 <;> by_cases q2 : d = 41 <;> by_cases q3 : d = 32 <;> by_cases q4 : d = 39 <;> simp [q1, q2, q3, q4]
            rw [ed]
            cases hs : stop d with
            | true =>
              have e := wordEnd_stop hd hs
              rw [← hw, e] at k
              exact ⟨_, rfl, k⟩
            | false =>
              refine ⟨_, rfl, _, _, rfl, rfl, ?_⟩
              refine ⟨⟨j + 1, rfl, rfl, h3', by rw [← wordEnd_more hd hs]; exact hw⟩, ?_⟩
              show l.length - ((j : Int) + 1).toNat < l.length - (j : Int).toNat
              omega
          · have h3' : ¬ j < l.length := fun q => h3 (decide_eq_true (by omega))
            have e := wordEnd_len h3'
            rw [← hw, e] at k
            exact ⟨_, rfl, k⟩
        · rintro σ H' Q1 Q2 hm ⟨x, h1, y, h2, z, h3, h4, i1, j1, e1, e2, b, e3, q⟩
          refine ⟨x, h1, y, h2, z, h3, h4, i1, j1, e1, e2, b, e3, ?_⟩
          cases b with
          | false => exact hm _ _ q
          | true =>
            obtain ⟨x, h1, y, h2, z, i2, c2, h3, h4, h5, h6, c3, z3, e4, e5, b, e3, q⟩ := q
            exact ⟨x, h1, y, h2, z, i2, c2, h3, h4, h5, h6, c3, z3, e4, e5, b, e3, hm _ _ q⟩
theorem same_upd {H : Hp} {p : Addr} {o : HO} (h : H p = none) : Same H (upd H p o) := fun b u e => by
  rw [upd_ne (ne_of_none e h)]
  exact e
theorem lit_open : Str.ofString "(" = txt [40] := by decide +kernel
theorem lit_close : Str.ofString ")" = txt [41] := by decide +kernel
theorem lit_space : Str.ofString " " = txt [32] := by decide +kernel
theorem lit_w : Str.ofString "w" = txt [119] := by decide +kernel
theorem txt_eq (a b : Tx) : (txt a == txt b) = decide (a = b) := by
  by_cases h : a = b
  · subst h; simp
  · rw [decide_eq_false h]
    exact beq_eq_false_iff_ne.mpr fun e => h (txt_inj e)
theorem inV_kind (t : Tx) : inV (tv t) [V.str (Str.ofString "("), V.str (Str.ofString ")"), V.str (Str.ofString " ")] = decide (t = [40] ∨ t = [41] ∨ t = [32]) := by
  rw [lit_open, lit_close, lit_space]
  show ((txt [40] == txt t) || ((txt [41] == txt t) || ((txt [32] == txt t) || false))) = _
  rw [txt_eq, txt_eq, txt_eq]
  by_cases h1 : t = [40]
  · subst h1; rfl
  · by_cases h2 : t = [41]
    · subst h2; rfl
    · by_cases h3 : t = [32]
      · subst h3; rfl
      · rw [decide_eq_false (fun e => h1 e.symm), decide_eq_false (fun e => h2 e.symm), decide_eq_false (fun e => h3 e.symm), decide_eq_false (by rintro (h | h | h) <;> contradiction)]
        rfl
/-! ### token_kind -/
def spKind : Sp := fun vs H Q _ => ∃ t : Tx, vs = [tv t] ∧ t.length ≤ big ∧ ∀ H', Same H H' → Q (tv [kind t]) H'
theorem scKd : FnScope ["token"] ["token"] (defScope sKind) := ⟨rfl, rfl, rfl, by decide +kernel, rfl, by decide +kernel, by decide +kernel⟩
theorem ok_kind {f : Addr} {fd : FuncData} (F : Fun K "token_kind" "token_kind" sKind f fd) : FnOk P w K mg base CX0 1 f fd ["token"] spKind := by
  refine F.ok scKd (fun vs H Q E h => ?_) (fun cdv A outer s H vs Q E hr h => ?_)
  · obtain ⟨t, rfl, _⟩ := h
    rfl
  · obtain ⟨t, rfl, hl, k⟩ := h
    refine ⟨_, pss_one (ps_ret (pe_ifExp (pt_cmpR op_in_seq (pv 0) (pe_tup (pa_cons pe_str (pa_cons pe_str (pa_cons pe_str pa_nil)))) (by rfl)) (pv 0) pe_str)), ?_⟩
    refine ⟨_, rfl, (by show 3 ≤ sizeLine; decide), fun p hp => ?_⟩
    refine ⟨p, _, rfl, .inr (SqT.of upd_same), rfl, rfl, _, rfl, ?_⟩
    rw [if_neg Bool.false_ne_true, inV_kind]
    refine ite2 (fun h1 => ?_) (fun h1 => ?_)
    · have h1' := of_decide_eq_true h1
      refine ⟨_, rfl, ?_⟩
      rcases h1' with h | h | h
      all_goals (subst h; exact k _ (same_upd hp))
    · have e : kind t = 119 := by
        unfold kind
        rw [if_neg (fun e => h1 (decide_eq_true (.inl e))), if_neg (fun e => h1 (decide_eq_true (.inr (.inl e)))), if_neg (fun e => h1 (decide_eq_true (.inr (.inr e))))]
      rw [e] at k
      show Q (V.str (Str.ofString "w")) _
      rw [lit_w]
      exact k _ (same_upd hp)
/-- a def of the text where it stands -/
structure At (K : PySem.W.Frag) (mg : Str → Option Value) (x : Str) (st : Stmt) (ps : List Str) (f : Addr) (fd : FuncData) : Prop where
  F : Fun K x x st f fd
  b : Binds K fd ps []
  m : mg x = some (.ref f)
/-! ### tokens_of -/
theorem toks_facts {l : Tx} : ∀ (n i : Nat) (ts : List Tx), l.length - i ≤ n → toks l i = some ts → ts.length ≤ l.length - i ∧ ∀ t ∈ ts, t.length ≤ l.length ∧ t ≠ [] := by
  intro n
  induction n with
  | zero =>
    intro i ts hn h
    rw [toks_end (by omega)] at h
    cases h
    exact ⟨by simp, fun t ht => by cases ht⟩
  | succ n ih =>
    intro i ts hn h
    by_cases h1 : i < l.length
    · by_cases h2 : i < tokEnd l i
      · rw [toks_some h1 h2] at h
        cases h3 : toks l (tokEnd l i) with
        | none => rw [h3] at h; cases h
        | some r =>
          rw [h3] at h
          cases h
          have le := tokEnd_le l i h1
          obtain ⟨a, b⟩ := ih (tokEnd l i) r (by omega) h3
          refine ⟨by rw [List.length_cons]; omega, fun t ht => ?_⟩
          rcases List.mem_cons.mp ht with e | e
          · subst e
            obtain ⟨r', hr⟩ := cut_head (List.getElem?_eq_getElem h1) h2
            refine ⟨?_, by rw [hr]; simp⟩
            unfold cut
            rw [List.length_take, List.length_drop]
            omega
          · exact b t e
      · rw [toks_none h1 h2] at h; cases h
    · rw [toks_end h1] at h
      cases h
      exact ⟨by simp, fun t ht => by cases ht⟩
def spTokens : Sp := fun vs H Q _ => ∃ l : Tx, vs = [tv l] ∧ l.length ≤ big ∧ ∀ H' p, Same H H' → H p = none → H' p = some (.lst (((toks l 0).getD []).map tv)) → Q (.ref p) H'
theorem scTs : FnScope ["text", "tokens", "at", "end"] ["text"] (defScope sTokens) := ⟨rfl, rfl, rfl, by decide +kernel, rfl, by decide +kernel, by decide +kernel⟩
theorem ok_tokens {f fE : Addr} {fd fdE : FuncData} (F : Fun K "tokens_of" "tokens_of" sTokens f fd) (zLen : mg "len" = none) (AE : At K mg "token_end" sTokEnd ["text", "at"] fE fdE) : FnOk P w K mg base CX0 2 f fd ["text"] spTokens := by
  have GE : FnOk P w K mg base CX0 1 fE fdE ["text", "at"] spTokEnd := ok_tokEnd AE.F zLen
  refine F.ok scTs (fun vs H Q E h => ?_) (fun cdv A outer s H vs Q E hr h => ?_)
  · obtain ⟨l, rfl, _⟩ := h
    rfl
  · obtain ⟨l, rfl, hl, k⟩ := h
    have hline : (txt l).length ≤ sizeLine := by rw [txt_len]; exact Nat.le_trans hl big_line
    refine ⟨_, pss_cons (ps_set (i := 1) scTs.nd rfl (Or.inl rfl) (pe_lst pa_nil)) (pss_cons (ps_set (i := 2) scTs.nd rfl (Or.inl rfl) pe_int)
      (pss_cons (ps_while PassesOwn.never (pt_cmpR op_lt (pv 2) (pe_callB call_len_str (by rfl) zLen PySem.boot_len (pa_cons (pv 0) pa_nil)) (nomark _))
        (pss_cons (ps_set (i := 3) scTs.nd rfl (Or.inl rfl) (pe_call GE hr (by rfl) AE.m AE.F.kp AE.b .nil pass0 (pa_cons (pv 0) (pa_cons (pv 2) pa_nil))))
        (pss_cons (ps_if (pt_cmpR op_le (pv 3) (pv 2) (nomark _)) (pss_one (ps_ret (pe_lst pa_nil))) pss_nil)
        (pss_cons (ps_expr (pe_bm PySem.F.plainAttrs_list PySem.F.slot_list_append PySem.F.type_list_append mt_append (pv 1) (pa_cons (pe_slice sl_str (pv 0) (po_some (pv 2)) (po_some (pv 3))) pa_nil)))
        (pss_one (ps_set (i := 2) scTs.nd rfl (Or.inl rfl) (pv 3)))))))
      (pss_one (ps_ret (pv 1))))), ?_⟩
    refine ⟨Nat.zero_le _, fun p hp => ?_⟩
    refine while_by (fun σ H' => ∃ (j : Nat) (acc : List Tx) (e : Option V), σ = [some (tv l), some (.ref p), some (.int (j : Int)), e] ∧ Same H H' ∧ H' p = some (.lst (acc.map tv)) ∧ j ≤ l.length ∧ acc.length ≤ j ∧ toks l 0 = (toks l j).map fun r => acc ++ r)
      (fun σ _ => match σ with | [_, _, some (.int j), _] => l.length - j.toNat | _ => 0) ⟨0, [], none, rfl, same_upd hp, upd_same, Nat.zero_le _, Nat.zero_le _, by simp⟩ ?_ ?_
    · rintro σ H' ⟨j, acc, e, rfl, sm, hL, hj, ha, ht⟩
      refine ⟨_, rfl, _, rfl, txt l, rfl, hline, _, _, rfl, rfl, _, rfl, ?_⟩
      rw [txt_len]
      refine ite2 (fun h3 => ?_) (fun h3 => ?_)
      · have h3' : j < l.length := by have := of_decide_eq_true h3; omega
        refine ⟨_, rfl, _, rfl, l, j, rfl, h3', hl, ?_⟩
        refine ⟨_, rfl, _, rfl, _, _, rfl, rfl, _, rfl, ?_⟩
        refine ite2 (fun h4 => ?_) (fun h4 => ?_)
        · have h4' : ¬ j < tokEnd l j := by have := of_decide_eq_true h4; omega
          refine ⟨Nat.zero_le _, fun q hq => ?_⟩
          have e0 : toks l 0 = none := by rw [ht, toks_none h3' h4']; rfl
          rw [e0] at k
          exact k _ q (sm.trans (same_upd hq)) (sm.free hq) upd_same
        · have h4' : j < tokEnd l j := by
            have : ¬ ((tokEnd l j : Nat) : Int) ≤ (j : Int) := fun z => h4 (decide_eq_true z)
            omega
          have le := tokEnd_le l j h3'
          refine ⟨_, rfl, .inl ⟨rfl, _, SqL.of hL⟩, _, rfl, _, rfl, _, rfl, _, rfl, _, rfl, txt l, rfl, hline, p, _, _, rfl, rfl, hL, ?_, ?_⟩
          · rw [List.length_map]
            exact Nat.lt_of_le_of_lt (Nat.le_trans (Nat.le_trans ha hj) hl) (by decide)
          · rw [cutS_nat l j (tokEnd l j) (by omega) le]
            refine ⟨_, rfl, ⟨tokEnd l j, acc ++ [cut l j (tokEnd l j)], _, rfl, fun b o q => ?_, ?_, le, ?_, ?_⟩, ?_⟩
            · rw [upd_ne (ne_of_none q hp)]
              exact sm b o q
            · rw [upd_same, List.map_append]
              rfl
            · rw [List.length_append, List.length_singleton]
              omega
            · rw [ht, toks_some h3' h4']
              cases toks l (tokEnd l j) with
              | none => rfl
              | some r => simp
            · show l.length - (tokEnd l j : Int).toNat < l.length - (j : Int).toNat
              omega
      · have h3' : ¬ j < l.length := fun q => h3 (decide_eq_true (by omega))
        rw [toks_end h3'] at ht
        rw [ht] at k
        refine ⟨_, rfl, k _ p sm hp ?_⟩
        rw [hL]
        simp
    · rintro σ H' Q1 Q2 hm ⟨x, h1, y, h2, z, h3, h4, i1, j1, e1, e2, b, e3, q⟩
      exact ⟨x, h1, y, h2, z, h3, h4, i1, j1, e1, e2, b, e3, hm _ _ q⟩
end
end K21
namespace K21
open PySem L2
/-! ### a written dict asked with a default -/
/-- at a: a dict of the text's top -/
def WD (K : PySem.W.Frag) (w : World) (a : Addr) : Prop := ∃ es n, K.lookup a = some ⟨.type "dict", none, .dict es n, #[]⟩ ∧ PySem.W.KeysLit w.params es.toList ∧ (a == sysModules) = false
def tKGet (K : PySem.W.Frag) (w : World) (td ty tx : TE) : TE := fun σ H Q => td σ H fun x H1 => ∃ a : Addr, x = .ref a ∧ WD K w a ∧ ty σ H1 fun y H2 => tx σ H2 fun z H3 =>
  ∃ (t : Str) (ov : Option Value) (o : Option V), y = .str t ∧ PySem.W.nsIn K a t = some ov ∧ RelO o ov ∧ Q (o.getD z) H3
theorem pe_kget {X : Cx} {o e f : Expr} {apos cpos : Pos} {td ty tx : TE} (ho : PE X o td) (he : PE X e ty) (hf : PE X f tx) (m : M2 X o "get" apos e f cpos) :
    PE X (.Call (.Attribute o "get" apos) [e, f] [] cpos) (tKGet X.K X.w td ty tx) := ⟨by
  intro pins s σ H Q I h
  apply wpAny_Call_method m.base m.few m.line PySem.F.plainAttrs_dict PySem.F.slot_dict_get PySem.F.type_dict_get
  apply thn (ho.run pins s σ H _ I h)
  rintro u s1 ⟨x, H1, I1, rx, a, rfl, ⟨es, n, hl, hk, low⟩, q1⟩
  obtain rfl : u = Value.ref a := rx
  have hobj := I1.kIn _ _ hl
  refine ⟨⟨_, hobj, rfl⟩, ?_, ?_⟩
  · intro b hb
    cases hb
    exact ⟨_, hobj, rfl⟩
  · rw [m.trees]
    apply Calls.callWith_builtin rfl
    apply Calls.evalArgs_plain
    apply Calls.spliced_cons
    apply thn (he.run pins s1 σ H1 _ I1 q1)
    rintro iv s2 ⟨y, H2, I2, ry, q2⟩
    apply Calls.spliced_cons
    apply thn (hf.run pins s2 σ H2 _ I2 q2)
    rintro fv s3 ⟨z, H3, I3, rz, t, ov, oo, rfl, hn, ro, q3⟩
    apply Calls.spliced_nil
    obtain ⟨tk, rfl⟩ := ry
    have mo := PySem.W.mapOf_K (prog := X.prog) (w := X.w) I3.kIn hl hk
    refine call_meetsIn PySem.F.slot_dict_get mo.typeIs PySem.F.entry_dict_get (PySem.F.args_dict_get_3 _ _ _) (meets_dict_get_default (strKind X.prog X.w) a (strKind_is X.prog X.w t tk) low fv) ⟨_, mo, ⟨oo.getD z, H3, I3.tok _, ?_, q3⟩⟩
    rw [PySem.W.find_K hl hn]
    exact ro.getD rz⟩
/-! ### are_in_sequence -/
def pairsK (ks : List Nat) : List Bool := List.zipWith (fun a b => decide (b ∈ fol a)) ks (ks.drop 1)
theorem inSeq_pairs : ∀ ks : List Nat, inSeq ks = (pairsK ks).all id
  | [] => rfl
  | [a] => rfl
  | a :: b :: r => by
    have ih := inSeq_pairs (b :: r)
    show (decide (b ∈ fol a) && inSeq (b :: r)) = (decide (b ∈ fol a) :: pairsK (b :: r)).all id
    rw [ih]
    rfl
theorem kind_in (t : Tx) : kind t = 40 ∨ kind t = 41 ∨ kind t = 32 ∨ kind t = 119 := by
  unfold kind
  split
  · exact .inl rfl
  · split
    · exact .inr (.inl rfl)
    · split
      · exact .inr (.inr (.inl rfl))
      · exact .inr (.inr (.inr rfl))
/-- FOLLOWERS of the text -/
structure Fol (K : PySem.W.Frag) (mg : Str → Option Value) (w : World) (a : Addr) : Prop where
  m : mg "FOLLOWERS" = some (.ref a)
  d : WD K w a
  k1 : ∃ t, PySem.W.nsIn K a "(" = some (some (.str "()w" t))
  k2 : ∃ t, PySem.W.nsIn K a ")" = some (some (.str " )" t))
  k3 : ∃ t, PySem.W.nsIn K a "w" = some (some (.str " )" t))
  k4 : ∃ t, PySem.W.nsIn K a " " = some (some (.str "(w" t))
theorem lit_f1 : Str.ofString "()w" = txt [40, 41, 119] := by decide +kernel
theorem lit_f2 : Str.ofString " )" = txt [32, 41] := by decide +kernel
theorem lit_f3 : Str.ofString "(w" = txt [40, 119] := by decide +kernel
theorem Fol.at {K mg w a} (F : Fol K mg w a) (t : Tx) : KDct K w a (txt [kind t]) (tv (fol (kind t))) := by
  obtain ⟨es, n, hl, hk, _⟩ := F.d
  obtain ⟨t1, h1⟩ := F.k1
  obtain ⟨t2, h2⟩ := F.k2
  obtain ⟨t3, h3⟩ := F.k3
  obtain ⟨t4, h4⟩ := F.k4
  rw [lit_open] at h1
  rw [lit_close] at h2
  rw [lit_w] at h3
  rw [lit_space] at h4
  rcases kind_in t with h | h | h | h
  · rw [h]; exact ⟨es, n, _, hl, hk, h1, ⟨t1, by rw [lit_f1]; rfl⟩⟩
  · rw [h]; exact ⟨es, n, _, hl, hk, h2, ⟨t2, by rw [lit_f2]; rfl⟩⟩
  · rw [h]; exact ⟨es, n, _, hl, hk, h4, ⟨t4, by rw [lit_f3]; rfl⟩⟩
  · rw [h]; exact ⟨es, n, _, hl, hk, h3, ⟨t3, by rw [lit_f2]; rfl⟩⟩
theorem map_at {ts : List Tx} {i : Nat} {x : V} (h : (ts.map tv)[i]? = some x) : ∃ t, ts[i]? = some t ∧ x = tv t := by
  rw [List.getElem?_map] at h
  cases e : ts[i]? with
  | none => rw [e] at h; cases h
  | some t => rw [e] at h; exact ⟨t, rfl, (Option.some.inj h).symm⟩
theorem take_snoc {α : Type} {l : List α} {i : Nat} {x : α} (h : l[i]? = some x) : l.take (i + 1) = l.take i ++ [x] := by
  obtain ⟨h1, h2⟩ := List.getElem?_eq_some_iff.mp h
  rw [List.take_succ, h]
  rfl
theorem cutV_tail (xs : List V) : cutV xs (some 1) none = xs.drop 1 := by
  unfold cutV
  have e : HT.sIx xs.length 0 (some 1) = min 1 xs.length := HT.sIx_nat _ _ 1
  rw [e, HT.sIx_none]
  cases xs with
  | nil => rfl
  | cons x r =>
    have e2 : min 1 (x :: r).length = 1 := by rw [List.length_cons]; omega
    rw [e2]
    show (r.take (r.length + 1 - 1)) = r
    simp
section
variable {P : Program} {w : World} {K : PySem.W.Frag} {mg : Str → Option Value} {base : Heap}
def spInSeq (K : PySem.W.Frag) : Sp := fun vs H Q _ => ∃ (p : Addr) (ts : List Tx), vs = [.ref p] ∧ SqL K H p (ts.map tv) ∧ ts.length ≤ big ∧ (∀ t ∈ ts, t.length ≤ big) ∧ ∀ H', Same H H' → Q (.bl (inSeq (ts.map kind))) H'
theorem scSq : FnScope ["tokens", "kinds", "token", "before", "kind"] ["tokens"] (defScope sInSeq) := ⟨rfl, rfl, rfl, by decide +kernel, rfl, by decide +kernel, by decide +kernel⟩
theorem ok_inSeq {f fK aF : Addr} {fd fdK : FuncData} (F : Fun K "are_in_sequence" "are_in_sequence" sInSeq f fd) (zAll : mg "all" = none) (zZip : mg "zip" = none) (AK : At K mg "token_kind" sKind ["token"] fK fdK) (FL : Fol K mg w aF) :
    FnOk P w K mg base CX0 2 f fd ["tokens"] (spInSeq K) := by
  have GK : FnOk P w K mg base CX0 1 fK fdK ["token"] spKind := ok_kind AK.F
  refine F.ok scSq (fun vs H Q E h => ?_) (fun cdv A outer s H vs Q E hr h => ?_)
  · obtain ⟨p, ts, rfl, _⟩ := h
    rfl
  · obtain ⟨p, ts, rfl, hS, hn, hb, k⟩ := h
    refine ⟨_, pss_cons (ps_setLc (i := 1) (own := [("token", 2)]) (g := gName 2) (tt := tYes) rfl scSq.nd rfl rfl (by with_unfolding_all rfl) (pi_list (pv 0)) (blkOk_by (N := ["tokens", "kinds", "token", "before", "kind"]) (sc := defScope sInSeq) (by decide +kernel)) (fun _ _ _ _ _ => pg_name (i := 2) scSq.nd rfl (Or.inl rfl)) (fun _ _ _ _ _ => pts_nil)
        (fun _ _ _ _ _ => pe_call GK hr (by rfl) AK.m AK.F.kp AK.b .nil pass0 (pa_cons (pv 2) pa_nil)))
      (pss_one (ps_ret (pe_callB (cr_all rfl) (by rfl) zAll (by decide +kernel) (pa_cons (pe_lc (own := [("before", 3), ("kind", 4)]) (g := gTup K 2 (gCons (gName 3) (gCons (gName 4) gNil))) (tt := tYes) rfl scSq.nd (pi_zip (by rfl) zZip (pa_cons (pv 1) (pa_cons (pe_slice sl_list (pv 1) (po_some pe_int) po_none) pa_nil)))
        (blkOk_by (N := ["tokens", "kinds", "token", "before", "kind"]) (sc := defScope sInSeq) (by decide +kernel)) (by intro _ _ _ _ _; refine pg_tup rfl (pgs_cons (t := gName 3) ?_ (pgs_cons (t := gName 4) ?_ pgs_nil)); exact pg_name (i := 3) scSq.nd rfl (Or.inl rfl); exact pg_name (i := 4) scSq.nd rfl (Or.inl rfl)) (fun _ _ _ _ _ => pts_nil)
        (fun _ _ _ _ _ => pe_cmpR op_in_sign (pv 4) (pe_ix (r := rIxD K w) ix_kdict (pe_glob (v := .ref aF) rfl FL.m rfl) (pv 3) (fun _ _ => rfl)) (by rfl))) pa_nil)))), ?_⟩
    refine ⟨_, rfl, p, rfl, ⟨_, hS⟩, fun D hD => ?_⟩
    have small : ∀ n, n ≤ ts.length → n < sizeLine := fun n q => Nat.lt_of_le_of_lt (Nat.le_trans q hn) (by decide)
    refine lc_list (K := K) (a := p) (xs := ts.map tv) (fun i H' => Same H H' ∧ H' D = some (.lst ((ts.take i).map fun t => tv [kind t]))) ⟨same_upd hD, upd_same⟩ (fun i H' _ h => h.1.seq hS) ?_ ?_
    · rintro i x H' hi ⟨sm, hL⟩
      obtain ⟨t, ht, rfl⟩ := map_at hi
      refine ⟨rfl, _, rfl, t, rfl, hb t (List.mem_of_getElem? ht), fun H2 s2 => ⟨_, s2 _ _ hL, ?_, ?_, ?_⟩⟩
      · rw [List.length_map, List.length_take]
        exact small _ (Nat.min_le_right _ _)
      · intro b o q
        rw [upd_ne (ne_of_none q hD)]
        exact s2 _ _ (sm b o q)
      · rw [upd_same, take_snoc ht, List.map_append]
        rfl
    · rintro H1 ⟨s1, hL⟩
      rw [List.length_map, List.take_length] at hL
      refine ⟨_, rfl, _, rfl, 1, rfl, D, _, rfl, SqL.of hL, fun p2 hp2 => ?_⟩
      have nD : D ≠ p2 := ne_of_none hL hp2
      have hL2 : (upd H1 p2 (.lst (cutV (ts.map fun t => tv [kind t]) (some 1) none))) D = some (.lst (ts.map fun t => tv [kind t])) := by rw [upd_ne nD]; exact hL
      have hZ : (upd H1 p2 (.lst (cutV (ts.map fun t => tv [kind t]) (some 1) none))) p2 = some (.lst ((ts.map fun t => tv [kind t]).drop 1)) := by rw [upd_same, cutV_tail]
      refine ⟨D, p2, _, _, rfl, SqL.of hL2, SqL.of hZ, fun D2 hD2 => ?_⟩
      refine lc_it (walk_zip (n := ts.length - 1) (by rw [List.length_drop, List.length_map]; omega)) (fun i H' => Same (upd H1 p2 (.lst (cutV (ts.map fun t => tv [kind t]) (some 1) none))) H' ∧ H' D2 = some (.lst (((pairsK (ts.map kind)).take i).map V.bl)))
        ⟨same_upd hD2, upd_same⟩ (fun i H' _ h => ⟨h.1.seq (SqL.of hL2), h.1.seq (SqL.of hZ)⟩) ?_ ?_
      · rintro i v H' H2 hi ⟨sm, hL3⟩ ⟨T, x, y, rfl, hT, rfl, hx, hy⟩
        dsimp only at hx hy
        rw [List.getElem?_map] at hx
        rw [List.getElem?_drop, List.getElem?_map] at hy
        cases e1 : ts[i]? with
        | none => rw [e1] at hx; cases hx
        | some t =>
          cases e2 : ts[1 + i]? with
          | none => rw [e2] at hy; cases hy
          | some u =>
            rw [e1] at hx
            rw [e2] at hy
            obtain rfl := Option.some.inj hx
            obtain rfl := Option.some.inj hy
            refine ⟨T, _, rfl, SqT.of upd_same, rfl, _, _, rfl, _, _, rfl, rfl, rfl, ?_⟩
            refine ⟨_, rfl, _, rfl, aF, _, _, rfl, rfl, FL.at t, kind u, txt (fol (kind t)), rfl, rfl, ?_⟩
            have hpr : (pairsK (ts.map kind))[i]? = some (decide (kind u ∈ fol (kind t))) := by
              unfold pairsK
              rw [List.getElem?_zipWith, List.getElem?_map, e1, List.getElem?_drop, List.getElem?_map, e2]
              rfl
            have nT : D2 ≠ T := ne_of_none hL3 hT
            refine ⟨_, by rw [upd_ne nT]; exact hL3, ?_, ?_, ?_⟩
            · rw [List.length_map, List.length_take]
              exact small _ (by omega)
            · intro b o q
              rw [upd_ne (ne_of_none q hD2), upd_ne (ne_of_none (sm b o q) hT)]
              exact sm b o q
            · rw [upd_same, take_snoc hpr, List.map_append]
              rfl
      · rintro H2 ⟨s2, hL3⟩
        have hl : (pairsK (ts.map kind)).take (ts.length - 1) = pairsK (ts.map kind) := by
          apply List.take_of_length_le
          unfold pairsK
          rw [List.length_zipWith, List.length_drop, List.length_map]
          omega
        rw [hl] at hL3
        refine ⟨D2, _, rfl, SqL.of hL3, ?_⟩
        rw [← inSeq_pairs]
        exact k _ ((s1.trans (same_upd hp2)).trans s2)
end
end K21
namespace K21
open PySem L2
/-! ### == of lists of ints, of texts -/
def asc (l : Tx) : Prop := ∀ c ∈ l, c < 128
theorem strOk_asc {l : Tx} (h : asc l) : PyData.strOk (txt l) = true := by
  unfold PyData.strOk txt
  rw [List.all_toArray]
  exact List.all_eq_true.mpr fun c hc => decide_eq_true (Nat.lt_trans (h c hc) (by decide))
section
variable {K : PySem.W.Frag} {H : Hp}
theorem dpI : ∀ ns : List Int, DpAll K H (ns.map V.int) (ns.map PyData.int)
  | [] => .nil
  | n :: r => .cons (.int n) (dpI r)
theorem dpS : ∀ ts : List Tx, DpAll K H (ts.map tv) (ts.map fun t => PyData.str (txt t))
  | [] => .nil
  | t :: r => .cons (.str _) (dpS r)
end
theorem canI : ∀ ns : List Int, PyData.canLayAll0 (ns.map PyData.int) = true ∧ PyData.depthAll (ns.map PyData.int) = 0
  | [] => ⟨rfl, rfl⟩
  | n :: r => by
    obtain ⟨h1, h2⟩ := canI r
    refine ⟨?_, ?_⟩
    · show (PyData.canLay0 (.int n) && PyData.canLayAll0 (r.map PyData.int)) = true
      rw [h1]
      simp [PyData.canLay0]
    · show max (PyData.depth (.int n)) (PyData.depthAll (r.map PyData.int)) = 0
      rw [h2]
      simp [PyData.depth]
theorem canS : ∀ ts : List Tx, (∀ t ∈ ts, asc t) → PyData.canLayAll0 (ts.map fun t => PyData.str (txt t)) = true ∧ PyData.depthAll (ts.map fun t => PyData.str (txt t)) = 0
  | [], _ => ⟨rfl, rfl⟩
  | t :: r, h => by
    obtain ⟨h1, h2⟩ := canS r fun u hu => h u (List.mem_cons_of_mem _ hu)
    refine ⟨?_, ?_⟩
    · show (PyData.canLay0 (.str (txt t)) && PyData.canLayAll0 (r.map fun t => PyData.str (txt t))) = true
      rw [h1]
      simp [PyData.canLay0, strOk_asc (h t List.mem_cons_self)]
    · show max (PyData.depth (.str (txt t))) (PyData.depthAll (r.map fun t => PyData.str (txt t))) = 0
      rw [h2]
      simp [PyData.depth]
theorem shI (ns : List Int) : SeqAt.shaped (.list (ns.map PyData.int)) = true := by
  obtain ⟨h1, h2⟩ := canI ns
  unfold SeqAt.shaped
  have e1 : PyData.canLay0 (.list (ns.map PyData.int)) = true := by rw [PyData.canLay0]; exact h1
  have e2 : PyData.depth (.list (ns.map PyData.int)) = 1 := by rw [PyData.depth, h2]
  rw [e1, e2]
  rfl
theorem shS (ts : List Tx) (h : ∀ t ∈ ts, asc t) : SeqAt.shaped (.list (ts.map fun t => PyData.str (txt t))) = true := by
  obtain ⟨h1, h2⟩ := canS ts h
  unfold SeqAt.shaped
  have e1 : PyData.canLay0 (.list (ts.map fun t => PyData.str (txt t))) = true := by rw [PyData.canLay0]; exact h1
  have e2 : PyData.depth (.list (ts.map fun t => PyData.str (txt t))) = 1 := by rw [PyData.depth, h2]
  rw [e1, e2]
  rfl
theorem eqvI : ∀ ns ms : List Int, PyData.eqvAll (ns.map PyData.int) (ms.map PyData.int) = decide (ns = ms)
  | [], [] => by simp [PyData.eqvAll]
  | [], m :: ms => by simp [PyData.eqvAll]
  | n :: ns, [] => by simp [PyData.eqvAll]
  | n :: ns, m :: ms => by
    have ih := eqvI ns ms
    show PyData.eqvAll (PyData.int n :: ns.map PyData.int) (PyData.int m :: ms.map PyData.int) = _
    rw [PyData.eqvAll, ih, PyData.eqv]
    by_cases h : n = m
    · subst h; simp
    · simp [h]
theorem eqvS : ∀ ts us : List Tx, PyData.eqvAll (ts.map fun t => PyData.str (txt t)) (us.map fun t => PyData.str (txt t)) = decide (ts = us)
  | [], [] => by simp [PyData.eqvAll]
  | [], m :: ms => by simp [PyData.eqvAll]
  | n :: ns, [] => by simp [PyData.eqvAll]
  | n :: ns, m :: ms => by
    have ih := eqvS ns ms
    show PyData.eqvAll (PyData.str (txt n) :: ns.map fun t => PyData.str (txt t)) (PyData.str (txt m) :: ms.map fun t => PyData.str (txt t)) = _
    rw [PyData.eqvAll, ih, PyData.eqv, txt_eq]
    by_cases h : n = m
    · subst h; simp
    · simp [h]
theorem eqvLI (ns ms : List Int) : PyData.eqv (.list (ns.map PyData.int)) (.list (ms.map PyData.int)) = decide (ns = ms) := by rw [PyData.eqv]; exact eqvI ns ms
theorem eqvLS (ts us : List Tx) : PyData.eqv (.list (ts.map fun t => PyData.str (txt t))) (.list (us.map fun t => PyData.str (txt t))) = decide (ts = us) := by rw [PyData.eqv]; exact eqvS ts us
/-! ### are_nested -/
structure Nst (K : PySem.W.Frag) (mg : Str → Option Value) (w : World) (a : Addr) : Prop where
  m : mg "NESTING" = some (.ref a)
  d : WD K w a
  k1 : ∃ t, PySem.W.nsIn K a "(" = some (some (.int 1 t))
  k2 : ∃ t, PySem.W.nsIn K a ")" = some (some (.int (-1) t))
  no : ∀ t : Tx, t ≠ [40] → t ≠ [41] → PySem.W.nsIn K a (txt t) = some none
theorem Nst.at {K mg w a} (N : Nst K mg w a) (t : Tx) : ∃ (ov : Option Value) (o : Option V), PySem.W.nsIn K a (txt t) = some ov ∧ RelO o ov ∧ o.getD (.int 0) = .int (nest t) := by
  obtain ⟨t1, h1⟩ := N.k1
  obtain ⟨t2, h2⟩ := N.k2
  rw [lit_open] at h1
  rw [lit_close] at h2
  by_cases e1 : t = [40]
  · subst e1; exact ⟨_, some (.int 1), h1, ⟨t1, rfl⟩, rfl⟩
  · by_cases e2 : t = [41]
    · subst e2; exact ⟨_, some (.int (-1)), h2, ⟨t2, rfl⟩, rfl⟩
    · refine ⟨_, none, N.no t e1 e2, True.intro, ?_⟩
      unfold nest
      rw [if_neg e1, if_neg e2]
      rfl
theorem depths_len : ∀ (ts : List Tx) (d : Int), (depths d ts).length = ts.length
  | [], _ => rfl
  | t :: r, d => by
    show (depths (d + nest t) r).length + 1 = r.length + 1
    rw [depths_len r]
/-- the sum so far -/
def sumN : List Tx → Int
  | [] => 0
  | t :: r => nest t + sumN r
theorem sumN_app : ∀ (a b : List Tx), sumN (a ++ b) = sumN a + sumN b
  | [], b => by show sumN b = 0 + sumN b; omega
  | t :: r, b => by
    show nest t + sumN (r ++ b) = nest t + sumN r + sumN b
    rw [sumN_app r b]
    omega
theorem depths_snoc : ∀ (a : List Tx) (t : Tx) (d : Int), depths d (a ++ [t]) = depths d a ++ [d + sumN a + nest t]
  | [], t, d => by
    show [d + nest t] = [d + 0 + nest t]
    rw [Int.add_zero]
  | u :: r, t, d => by
    show (d + nest u) :: depths (d + nest u) (r ++ [t]) = (d + nest u) :: (depths (d + nest u) r ++ [d + (nest u + sumN r) + nest t])
    rw [depths_snoc r t]
    congr 3
    omega
theorem cutV_init (xs : List V) : cutV xs none (some (-1)) = xs.dropLast := by
  unfold cutV
  rw [HT.sIx_none]
  have e : HT.sIx xs.length xs.length (some (-1)) = xs.length - 1 := by
    unfold HT.sIx
    dsimp only
    rw [if_pos (by decide)]
    omega
  rw [e, List.drop_zero, Nat.sub_zero, List.dropLast_eq_take]
theorem cutV_last (xs : List V) : cutV xs (some (-1)) none = xs.drop (xs.length - 1) := by
  unfold cutV
  rw [HT.sIx_none]
  have e : HT.sIx xs.length 0 (some (-1)) = xs.length - 1 := by
    unfold HT.sIx
    dsimp only
    rw [if_pos (by decide)]
    omega
  rw [e]
  apply List.take_of_length_le
  rw [List.length_drop]
  omega
theorem last_drop (ds : List Int) : decide (ds.drop (ds.length - 1) = [0]) = decide (ds.getLast? = some 0) := by
  rcases List.eq_nil_or_concat ds with h | ⟨r, x, h⟩
  · subst h; rfl
  · subst h
    have e1 : (r.concat x).drop ((r.concat x).length - 1) = [x] := by
      rw [List.concat_eq_append, List.length_append, List.length_singleton, Nat.add_sub_cancel, List.drop_left]
    rw [e1, List.concat_eq_append, List.getLast?_append]
    by_cases e : x = 0
    · subst e; rfl
    · rw [decide_eq_false (fun q => e (List.cons.inj q).1), decide_eq_false]
      intro q
      exact e (Option.some.inj q)
section
variable {P : Program} {w : World} {K : PySem.W.Frag} {mg : Str → Option Value} {base : Heap}
def spNested (K : PySem.W.Frag) : Sp := fun vs H Q _ => ∃ (p : Addr) (ts : List Tx), vs = [.ref p] ∧ SqL K H p (ts.map tv) ∧ ts.length ≤ big ∧ ∀ H', Same H H' → Q (.bl (nested ts)) H'
theorem scNs : FnScope ["tokens", "depths", "depth", "token", "inner"] ["tokens"] (defScope sNested) := ⟨rfl, rfl, rfl, by decide +kernel, rfl, by decide +kernel, by decide +kernel⟩
theorem ok_nested {f aN : Addr} {fd : FuncData} {tk : Tok} (F : Fun K "are_nested" "are_nested" sNested f fd) (zMin : mg "min" = none) (zMax : mg "max" = none) (NS : Nst K mg w aN) (mM : mg "MOST_NESTED" = some (.int 13 tk)) :
    FnOk P w K mg base CX0 1 f fd ["tokens"] (spNested K) := by
  refine F.ok scNs (fun vs H Q E h => ?_) (fun cdv A outer s H vs Q E hr h => ?_)
  · obtain ⟨p, ts, rfl, _⟩ := h
    rfl
  · obtain ⟨p, ts, rfl, hS, hn, k⟩ := h
    refine ⟨_, pss_cons (ps_set (i := 1) scNs.nd rfl (Or.inl rfl) (pe_lst pa_nil)) (pss_cons (ps_set (i := 2) scNs.nd rfl (Or.inl rfl) pe_int)
      (pss_cons (ps_for PassesOwn.never rfl (pi_list (pv 0)) (pg_name (i := 3) scNs.nd rfl (Or.inl rfl))
        (pss_cons (ps_aug (i := 2) scNs.nd rfl (Or.inl rfl) (pe_kget (pe_glob (v := .ref aN) rfl NS.m rfl) (pv 3) pe_int ⟨by rfl, by rfl, by rfl, by rfl⟩) ip_add)
        (pss_one (ps_expr (pe_bm PySem.F.plainAttrs_list PySem.F.slot_list_append PySem.F.type_list_append mt_append (pv 1) (pa_cons (pv 2) pa_nil))))))
      (pss_cons (ps_set (i := 4) scNs.nd rfl (Or.inl rfl) (pe_slice sl_list (pv 1) po_none (po_some (pe_un un_neg pe_int))))
      (pss_one (ps_ret (pe_and (pe_cmpR (op_eqD hr.units) (pe_slice sl_list (pv 1) (po_some (pe_un un_neg pe_int)) po_none) (pe_lst (pa_cons pe_int pa_nil)) (nomark _))
        (pe_and (pe_cmpR (op_neD hr.units) (pv 4) (pe_lst pa_nil) (nomark _))
        (pe_and (pe_cmpR op_gt (pe_callB (cr_min rfl) (by rfl) zMin (by decide +kernel) (pa_cons (pv 4) pa_nil)) pe_int (nomark _))
        (pe_one (pe_cmpR op_le (pe_callB (cr_max rfl) (by rfl) zMax (by decide +kernel) (pa_cons (pv 4) pa_nil)) (pe_glob (v := .int 13) rfl mM ⟨_, rfl⟩) (nomark _))))))))))), ?_⟩
    have small : ∀ n, n ≤ ts.length → n < sizeLine := fun n q => Nat.lt_of_le_of_lt (Nat.le_trans q hn) (by decide)
    refine ⟨Nat.zero_le _, fun dp hdp => ?_⟩
    refine ⟨_, rfl, p, rfl, ⟨_, (same_upd hdp).seq hS⟩, for_list (K := K) (a := p) (xs := ts.map tv) (fun i σ H' => ∃ x : Option V, σ = [some (.ref p), some (.ref dp), some (.int (sumN (ts.take i))), x, none] ∧ Same H H' ∧ H' dp = some (.lst ((depths 0 (ts.take i)).map V.int)))
      ⟨none, rfl, same_upd hdp, upd_same⟩ (fun i σ H' _ ⟨_, _, s1, _⟩ => s1.seq hS) ?_ ?_⟩
    · rintro i x σ H' hi ⟨x0, rfl, sm, hL⟩
      obtain ⟨t, ht, rfl⟩ := map_at hi
      obtain ⟨ov, o, h1, h2, h3⟩ := NS.at t
      refine ⟨_, rfl, aN, rfl, NS.d, _, rfl, txt t, ov, o, rfl, h1, h2, ?_⟩
      rw [h3]
      refine ⟨_, _, rfl, rfl, ?_⟩
      have hd : depths 0 (ts.take (i + 1)) = depths 0 (ts.take i) ++ [sumN (ts.take i) + nest t] := by
        rw [take_snoc ht, depths_snoc]
        congr 3
        omega
      refine ⟨_, rfl, .inl ⟨rfl, _, SqL.of hL⟩, _, rfl, dp, _, _, rfl, rfl, hL, ?_, ?_⟩
      · rw [List.length_map, depths_len, List.length_take]
        exact small _ (Nat.min_le_right _ _)
      · refine ⟨some (tv t), ?_, fun b u q => ?_, ?_⟩
        · have e : sumN (ts.take (i + 1)) = sumN (ts.take i) + nest t := by
            rw [take_snoc ht, sumN_app]
            show _ + (nest t + 0) = _
            omega
          rw [e]
          rfl
        · rw [upd_ne (ne_of_none q hdp)]
          exact sm b u q
        · rw [upd_same, hd, List.map_append]
          rfl
    · rintro σ H1 ⟨x0, rfl, s1, hL⟩
      rw [List.length_map, List.take_length] at hL ⊢
      refine ⟨_, rfl, 1, rfl, -1, rfl, dp, _, rfl, SqL.of hL, fun p2 hp2 => ?_⟩
      rw [cutV_init, ← List.map_dropLast]
      have n2 : dp ≠ p2 := ne_of_none hL hp2
      have nes : nested ts = (decide ((depths 0 ts).drop ((depths 0 ts).length - 1) = [0]) && (decide ((depths 0 ts).dropLast ≠ []) && (((depths 0 ts).dropLast.all fun d => decide (0 < d)) && (depths 0 ts).dropLast.all fun d => decide (d ≤ 13)))) := by
        rw [last_drop]
        rfl
      generalize depths 0 ts = ds at hL hp2 nes
      have sm2 : Same H (upd H1 p2 (.lst (ds.dropLast.map V.int))) := s1.trans (same_upd hp2)
      have hL2 : (upd H1 p2 (.lst (ds.dropLast.map V.int))) dp = some (.lst (ds.map V.int)) := by rw [upd_ne n2]; exact hL
      have hI2 : (upd H1 p2 (.lst (ds.dropLast.map V.int))) p2 = some (.lst (ds.dropLast.map V.int)) := upd_same
      revert sm2 hL2 hI2
      generalize (upd H1 p2 (.lst (ds.dropLast.map V.int))) = H2
      intro sm2 hL2 hI2
      refine ⟨_, rfl, 1, rfl, -1, rfl, dp, _, rfl, SqL.of hL2, fun p3 hp3 => ⟨by show 1 ≤ sizeLine; decide, fun p4 hp4 => ?_⟩⟩
      rw [cutV_last, List.length_map, ← List.map_drop] at hp4 ⊢
      have n34 : p3 ≠ p4 := fun e => by rw [e, upd_same] at hp4; cases hp4
      refine ⟨.list ((ds.drop (ds.length - 1)).map PyData.int), .list ([0].map PyData.int), .lst (SqL.of (by rw [upd_ne n34, upd_same])) (dpI _), .lst (SqL.of upd_same) (dpI [0]), shI _, shI _, _, rfl, ?_⟩
      rw [eqvLI]
      have sm4 : ∀ o3 o4, Same H2 (upd (upd H2 p3 o3) p4 o4) := fun o3 o4 b u q => by
        have q3 : (upd H2 p3 o3) b = some u := by rw [upd_ne (ne_of_none q hp3)]; exact q
        have n4 : b ≠ p4 := fun e => by
          have hq : H2 p4 = none := by rw [upd_ne (Ne.symm n34)] at hp4; exact hp4
          rw [e, hq] at q
          cases q
        rw [upd_ne n4]
        exact q3
      refine ite2 (fun h1 => ?_) (fun h1 => ?_)
      · rw [h1, Bool.true_and] at nes
        have hI4 := sm4 (.lst ((ds.drop (ds.length - 1)).map V.int)) (.lst [V.int 0]) _ _ hI2
        have sm5 := sm2.trans (sm4 (.lst ((ds.drop (ds.length - 1)).map V.int)) (.lst [V.int 0]))
        revert hI4 sm5
        generalize (upd (upd H2 p3 (.lst ((ds.drop (ds.length - 1)).map V.int))) p4 (.lst [V.int 0])) = H4
        intro hI4 sm5
        refine ⟨_, rfl, Nat.zero_le _, fun p5 hp5 => ?_⟩
        have n5 : p2 ≠ p5 := ne_of_none hI4 hp5
        refine ⟨.list (ds.dropLast.map PyData.int), .list (([] : List Int).map PyData.int), .lst (SqL.of (by rw [upd_ne n5]; exact hI4)) (dpI _), .lst (SqL.of upd_same) .nil, shI _, shI [], _, rfl, ?_⟩
        rw [eqvLI]
        have hI5 : (upd H4 p5 (.lst [])) p2 = some (.lst (ds.dropLast.map V.int)) := by rw [upd_ne n5]; exact hI4
        have sm6 : Same H (upd H4 p5 (.lst [])) := sm5.trans (same_upd hp5)
        by_cases h2 : ds.dropLast = []
        · rw [decide_eq_true h2]
          have e : nested ts = false := by rw [nes, decide_eq_false (fun q => q h2)]; rfl
          rw [e] at k
          exact k _ sm6
        · rw [decide_eq_false h2]
          have hpos : 0 < ds.dropLast.length := List.length_pos_iff.mpr h2
          rw [decide_eq_true (p := ds.dropLast ≠ []) h2, Bool.true_and] at nes
          refine ⟨_, rfl, p2, _, rfl, SqL.of hI5, hpos, fun m hm hle => ⟨_, _, rfl, rfl, _, rfl, ?_⟩⟩
          refine ite2 (fun h3 => ?_) (fun h3 => ?_)
          · have h3' : 0 < m := of_decide_eq_true h3
            have e : (ds.dropLast.all fun d => decide (0 < d)) = true := List.all_eq_true.mpr fun d hd => decide_eq_true (Int.lt_of_lt_of_le h3' (hle d hd))
            rw [e, Bool.true_and] at nes
            refine ⟨_, rfl, p2, _, rfl, SqL.of hI5, hpos, fun x hx hge => ⟨_, _, rfl, rfl, ?_⟩⟩
            have e2 : (ds.dropLast.all fun d => decide (d ≤ 13)) = decide (x ≤ 13) := by
              by_cases h4 : x ≤ 13
              · rw [decide_eq_true h4]
                exact List.all_eq_true.mpr fun d hd => decide_eq_true (Int.le_trans (hge d hd) h4)
              · rw [decide_eq_false h4]
                exact List.all_eq_false.mpr ⟨x, hx, by simpa using h4⟩
            rw [e2] at nes
            rw [nes] at k
            exact k _ sm6
          · have e : (ds.dropLast.all fun d => decide (0 < d)) = false := List.all_eq_false.mpr ⟨m, hm, by simpa using h3⟩
            rw [e, Bool.false_and] at nes
            rw [nes] at k
            exact k _ sm6
      · have e : nested ts = false := by
          rw [nes]
          cases hq : decide (ds.drop (ds.length - 1) = [0]) with
          | true => exact absurd hq h1
          | false => rfl
        rw [e] at k
        exact k _ (sm2.trans (sm4 _ _))
end
end K21
namespace K21
open PySem L2
/-! ### xs[-1] += e -/
def rLast (K : PySem.W.Frag) : V → V → Hp → VK → Prop := fun o i H Q => ∃ (p : Addr) (xs : List V) (x : V), o = .ref p ∧ i = .int (-1) ∧ SqL K H p (xs ++ [x]) ∧ Q x H
theorem get_last {X : Cx} : PGet X (rLast X.K) := by
  rintro pins s σ H o i ov iv Q I ro ri ⟨p, xs, x, rfl, rfl, hq, q⟩
  obtain rfl : ov = Value.ref p := ro
  obtain ⟨t, rfl⟩ := ri
  obtain ⟨its, r, pl, hz⟩ := I.list hq
  have hl := r.length
  rw [List.length_append, List.length_singleton] at hl
  obtain ⟨w, ew, rw'⟩ := r.get (i := xs.length) (x := x) (by simp)
  have hn := line63
  rw [List.length_append, List.length_singleton] at hz
  refine wpAny_getItem_list_neg pl.isList (by decide) (by rw [List.size_toArray]; omega) (by omega) (x := w) ?_ ⟨x, H, I, rw', q⟩
  have e : (-1 + ((its.toArray.size : Nat) : Int)).toNat = xs.length := by rw [List.size_toArray]; omega
  rw [e]
  simpa using ew
theorem tv_eq (a b : Tx) : decide ((tv a : V) = tv b) = decide (a = b) := by
  by_cases h : a = b
  · subst h; simp
  · rw [decide_eq_false h]
    exact decide_eq_false fun e => h (txt_inj (V.str.inj e))
theorem int_eq (a b : Int) : decide ((V.int a : V) = V.int b) = decide (a = b) := by
  by_cases h : a = b
  · subst h; simp
  · rw [decide_eq_false h]
    exact decide_eq_false fun e => h (V.int.inj e)
theorem lit_nil : Str.ofString "" = txt [] := by decide +kernel
theorem ixN_last (n : Nat) : ixN (n + 1) (-1) = some n := by
  unfold ixN
  rw [if_neg (by decide), if_pos (by omega)]
  congr 1
  omega
def tot : List Tx → Nat
  | [] => 0
  | t :: r => t.length + tot r
theorem tot_app : ∀ a b : List Tx, tot (a ++ b) = tot a + tot b
  | [], b => by show tot b = 0 + tot b; omega
  | t :: r, b => by
    show t.length + tot (r ++ b) = t.length + tot r + tot b
    rw [tot_app r b]
    omega
theorem tot_take (ts : List Tx) (i : Nat) : tot (ts.take i) ≤ tot ts := by
  have h := tot_app (ts.take i) (ts.drop i)
  rw [List.take_append_drop] at h
  omega
theorem set_last (xs : List V) (x y : V) : (xs ++ [x]).set xs.length y = xs ++ [y] := by
  rw [List.set_append_right _ _ (Nat.le_refl _), Nat.sub_self]
  rfl
theorem outerGo_app : ∀ (a b : List Tx) (done : List Tx) (cur : Tx) (d : Int), ∃ done' cur', outerGo done cur d (a ++ b) = outerGo done' cur' (d + sumN a) b ∧ cur'.length ≤ cur.length + tot a ∧ outerGo done cur d a = done' ++ [cur']
  | [], b, done, cur, d => ⟨done, cur, by show outerGo done cur d b = outerGo done cur (d + 0) b; rw [Int.add_zero], by show _ ≤ _ + 0; omega, rfl⟩
  | t :: r, b, done, cur, d => by
    have e : d + sumN (t :: r) = d + nest t + sumN r := by show d + (nest t + sumN r) = _; omega
    have e2 : tot (t :: r) = t.length + tot r := rfl
    rw [e, e2]
    show ∃ done' cur', outerGo done cur d (t :: (r ++ b)) = _ ∧ _ ∧ outerGo done cur d (t :: r) = _
    by_cases h : t = [32] ∧ d + nest t = 0
    · obtain ⟨d', c', h1, h2, h3⟩ := outerGo_app r b (done ++ [cur]) [] (d + nest t)
      exact ⟨d', c', by rw [outerGo_new _ h]; exact h1, by rw [List.length_nil] at h2; omega, by rw [outerGo_new _ h]; exact h3⟩
    · obtain ⟨d', c', h1, h2, h3⟩ := outerGo_app r b done (cur ++ t) (d + nest t)
      exact ⟨d', c', by rw [outerGo_plain _ h]; exact h1, by rw [List.length_append] at h2; omega, by rw [outerGo_plain _ h]; exact h3⟩
section
variable {P : Program} {w : World} {K : PySem.W.Frag} {mg : Str → Option Value} {base : Heap}
def spOuter (K : PySem.W.Frag) : Sp := fun vs H Q _ => ∃ (p : Addr) (ts : List Tx), vs = [.ref p] ∧ SqL K H p (ts.map tv) ∧ ts.length ≤ big ∧ tot ts ≤ big ∧ (∀ t ∈ ts, asc t) ∧
  ∀ H' q, Same H H' → H q = none → H' q = some (.lst ((outer ts).map tv)) → Q (.ref q) H'
theorem scOu : FnScope ["tokens", "parts", "depth", "token"] ["tokens"] (defScope sOuter) := ⟨rfl, rfl, rfl, by decide +kernel, rfl, by decide +kernel, by decide +kernel⟩
theorem ok_outer {f aN : Addr} {fd : FuncData} (F : Fun K "outer_parts" "outer_parts" sOuter f fd) (NS : Nst K mg w aN) : FnOk P w K mg base CX0 1 f fd ["tokens"] (spOuter K) := by
  refine F.ok scOu (fun vs H Q E h => ?_) (fun cdv A outer_ s H vs Q E hr h => ?_)
  · obtain ⟨p, ts, rfl, _⟩ := h
    rfl
  · obtain ⟨p, ts, rfl, hS, hn, ht, ha, k⟩ := h
    refine ⟨_, pss_cons (ps_if (pt_cmpR (op_eqD hr.units) (pv 0) (pe_lst pa_nil) (nomark _)) (pss_one (ps_ret (pe_lst pa_nil))) pss_nil)
      (pss_cons (ps_set (i := 1) scOu.nd rfl (Or.inl rfl) (pe_lst (pa_cons pe_str pa_nil))) (pss_cons (ps_set (i := 2) scOu.nd rfl (Or.inl rfl) pe_int)
      (pss_cons (ps_for PassesOwn.never rfl (pi_list (pv 0)) (pg_name (i := 3) scOu.nd rfl (Or.inl rfl))
        (pss_cons (ps_aug (i := 2) scOu.nd rfl (Or.inl rfl) (pe_kget (pe_glob (v := .ref aN) rfl NS.m rfl) (pv 3) pe_int ⟨by rfl, by rfl, by rfl, by rfl⟩) ip_add)
        (pss_one (ps_if (PW.pt (pw_and (pt_cmpR op_eq (pv 3) pe_str (nomark _)) (pw_and1 (pt_cmpR op_eq (pv 2) pe_int (nomark _)))))
          (pss_one (ps_expr (pe_bm PySem.F.plainAttrs_list PySem.F.slot_list_append PySem.F.type_list_append mt_append (pv 1) (pa_cons pe_str pa_nil))))
          (pss_one (ps_augS (pv 1) (pe_un un_neg pe_int) get_last (pv 3) iop_add_str set_list))))))
      (pss_one (ps_ret (pv 1)))))), ?_⟩
    refine ⟨_, rfl, Nat.zero_le _, fun p1 hp1 => ?_⟩
    have S1 : Same H (upd H p1 (.lst [])) := same_upd hp1
    have hne : SqL K (upd H p1 (.lst [])) p (ts.map tv) := S1.seq hS
    refine ⟨.list (ts.map fun t => PyData.str (txt t)), .list (([] : List Tx).map fun t => PyData.str (txt t)), .lst hne (dpS _), .lst (SqL.of upd_same) .nil, shS ts ha, shS [] (fun _ z => by cases z), _, rfl, ?_⟩
    rw [eqvLS]
    refine ite2 (fun h1 => ?_) (fun h1 => ?_)
    · have h1' := of_decide_eq_true h1
      subst h1'
      exact ⟨Nat.zero_le _, fun q hq => k _ q (S1.trans (same_upd hq)) (S1.free hq) upd_same⟩
    · have h1' : ¬ ts = [] := fun e => h1 (decide_eq_true e)
      have ho : outer ts = outerGo [] [] 0 ts := if_neg h1'
      rw [ho] at k
      refine ⟨(by show 1 ≤ sizeLine; decide), fun q hq => ?_⟩
      have hq0 : H q = none := S1.free hq
      refine ⟨_, rfl, p, rfl, ⟨_, (same_upd hq).seq hne⟩, for_list (K := K) (a := p) (xs := ts.map tv) (fun i σ H' => ∃ (x : Option V) (done : List Tx) (cur : Tx), σ = [some (.ref p), some (.ref q), some (.int (sumN (ts.take i))), x] ∧ Same H H' ∧ H' q = some (.lst ((done ++ [cur]).map tv)) ∧
          done.length ≤ i ∧ cur.length ≤ tot (ts.take i) ∧ outerGo [] [] 0 ts = outerGo done cur (sumN (ts.take i)) (ts.drop i))
        ⟨none, [], [], rfl, S1.trans (same_upd hq), upd_same, Nat.zero_le _, Nat.zero_le _, rfl⟩ (fun i σ H' _ ⟨_, _, _, _, s1, _⟩ => s1.seq hS) ?_ ?_⟩
      · rintro i x σ H' hi ⟨x0, done, cur, rfl, sm, hL, hdl, hcl, hgo⟩
        obtain ⟨t, hti, rfl⟩ := map_at hi
        obtain ⟨ov, o, e1, e2, e3⟩ := NS.at t
        have hil : i < ts.length := (List.getElem?_eq_some_iff.mp hti).1
        have hdrop : ts.drop i = t :: ts.drop (i + 1) := by
          rw [List.drop_eq_getElem_cons hil, (List.getElem?_eq_some_iff.mp hti).2]
        have hsum : sumN (ts.take (i + 1)) = sumN (ts.take i) + nest t := by
          rw [take_snoc hti, sumN_app]
          show _ + (nest t + 0) = _
          omega
        have htt : tot (ts.take (i + 1)) = tot (ts.take i) + t.length := by
          rw [take_snoc hti, tot_app]
          show _ + (t.length + 0) = _
          omega
        refine ⟨_, rfl, aN, rfl, NS.d, _, rfl, txt t, ov, o, rfl, e1, e2, ?_⟩
        rw [e3]
        refine ⟨_, _, rfl, rfl, ?_⟩
        have hL' : H' q = some (.lst (done.map tv ++ [tv cur])) := by
          rw [hL, List.map_append]
          rfl
        have hlen : (done.map tv ++ [tv cur]).length = done.length + 1 := by rw [List.length_append, List.length_map]; rfl
        have hcat : (txt cur).length + (txt t).length ≤ sizeLine := by
          rw [txt_len, txt_len]
          have q1 := tot_take ts (i + 1)
          exact Nat.le_trans (by omega) (Nat.le_trans ht big_line)
        have B : ¬ (t = [32] ∧ sumN (ts.take i) + nest t = 0) → ∃ (x : Option V) (done' : List Tx) (cur' : Tx), [some (.ref p), some (.ref q), some (.int (sumN (ts.take i) + nest t)), some (tv t)] = [some (.ref p), some (.ref q), some (.int (sumN (ts.take (i + 1)))), x] ∧
            Same H (upd H' q (.lst ((done.map tv ++ [tv cur]).set done.length (.str (txt cur ++ txt t))))) ∧ (upd H' q (.lst ((done.map tv ++ [tv cur]).set done.length (.str (txt cur ++ txt t))))) q = some (.lst ((done' ++ [cur']).map tv)) ∧
            done'.length ≤ i + 1 ∧ cur'.length ≤ tot (ts.take (i + 1)) ∧ outerGo [] [] 0 ts = outerGo done' cur' (sumN (ts.take (i + 1))) (ts.drop (i + 1)) := fun hno => by
          refine ⟨some (tv t), done, cur ++ t, by rw [hsum], fun b u e => ?_, ?_, by omega, by rw [List.length_append]; omega, ?_⟩
          · rw [upd_ne (ne_of_none e hq0)]
            exact sm b u e
          · rw [upd_same, txt_app]
            have z := set_last (done.map tv) (tv cur) (.str (txt (cur ++ t)))
            rw [List.length_map] at z
            rw [z, List.map_append]
            rfl
          · rw [hgo, hdrop, outerGo_plain _ hno, hsum]
        refine ⟨_, rfl, rfl, _, rfl, ?_⟩
        rw [lit_space, tv_eq]
        refine ite2 (fun h2 => ?_) (fun h2 => ?_)
        · refine ⟨_, rfl, rfl, _, rfl, ?_⟩
          rw [int_eq]
          refine ite2 (fun h3 => ?_) (fun h3 => ?_)
          · refine ⟨_, rfl, .inl ⟨rfl, _, SqL.of hL'⟩, q, _, _, rfl, rfl, hL', ?_, ?_⟩
            · rw [hlen]
              exact Nat.lt_of_le_of_lt (Nat.le_trans (by omega : done.length + 1 ≤ ts.length) hn) (by decide)
            · rw [lit_nil]
              refine ⟨some (tv t), done ++ [cur], [], ?_, fun b u e => ?_, ?_, ?_, Nat.zero_le _, ?_⟩
              · rw [hsum]
                rfl
              · rw [upd_ne (ne_of_none e hq0)]
                exact sm b u e
              · rw [upd_same, List.map_append, List.map_append]
                rfl
              · rw [List.length_append, List.length_singleton]
                omega
              · rw [hgo, hdrop, outerGo_new _ ⟨of_decide_eq_true h2, of_decide_eq_true h3⟩, hsum]
          · exact ⟨_, rfl, 1, rfl, q, done.map tv, tv cur, rfl, rfl, SqL.of hL', _, rfl, txt cur, txt t, rfl, rfl, hcat, q, _, -1, done.length, rfl, rfl, hL', by rw [hlen]; exact ixN_last _, B fun e => h3 (decide_eq_true e.2)⟩
        · exact ⟨_, rfl, 1, rfl, q, done.map tv, tv cur, rfl, rfl, SqL.of hL', _, rfl, txt cur, txt t, rfl, rfl, hcat, q, _, -1, done.length, rfl, rfl, hL', by rw [hlen]; exact ixN_last _, B fun e => h2 (decide_eq_true e.1)⟩
      · rintro σ H1 ⟨x0, done, cur, rfl, s1, hL, _, _, hgo⟩
        rw [List.length_map, List.drop_length] at hgo
        rw [hgo] at k
        exact ⟨_, rfl, k _ q s1 hq0 hL⟩
end
end K21
namespace K21
open PySem L2
abbrev sParts : Stmt := top 11
abbrev sInit : Stmt := inClass (top 3) 0
theorem asc_cut {l : Tx} (h : asc l) (i j : Nat) : asc (cut l i j) := fun c hc => h c (List.mem_of_mem_drop (List.mem_of_mem_take hc))
theorem toks_more {l : Tx} (ha : asc l) : ∀ (n i : Nat) (ts : List Tx), l.length - i ≤ n → toks l i = some ts → tot ts ≤ l.length - i ∧ ∀ t ∈ ts, asc t := by
  intro n
  induction n with
  | zero =>
    intro i ts hn h
    rw [toks_end (by omega)] at h
    cases h
    exact ⟨Nat.zero_le _, fun t ht => by cases ht⟩
  | succ n ih =>
    intro i ts hn h
    by_cases h1 : i < l.length
    · by_cases h2 : i < tokEnd l i
      · rw [toks_some h1 h2] at h
        cases h3 : toks l (tokEnd l i) with
        | none => rw [h3] at h; cases h
        | some r =>
          rw [h3] at h
          cases h
          have le := tokEnd_le l i h1
          obtain ⟨a, b⟩ := ih (tokEnd l i) r (by omega) h3
          refine ⟨?_, fun t ht => ?_⟩
          · show (cut l i (tokEnd l i)).length + tot r ≤ _
            have : (cut l i (tokEnd l i)).length ≤ tokEnd l i - i := by
              unfold cut
              rw [List.length_take]
              omega
            omega
          · rcases List.mem_cons.mp ht with e | e
            · subst e; exact asc_cut ha _ _
            · exact b t e
      · rw [toks_none h1 h2] at h; cases h
    · rw [toks_end h1] at h
      cases h
      exact ⟨Nat.zero_le _, fun t ht => by cases ht⟩
theorem cutV_mid (xs : List V) : cutV xs (some 1) (some (-1)) = (xs.drop 1).dropLast := by
  unfold cutV
  have e0 : HT.sIx xs.length 0 (some 1) = min 1 xs.length := HT.sIx_nat _ _ 1
  have e : HT.sIx xs.length xs.length (some (-1)) = xs.length - 1 := by
    unfold HT.sIx
    dsimp only
    rw [if_pos (by decide)]
    omega
  rw [e0, e, List.dropLast_eq_take, List.length_drop]
  cases xs with
  | nil => rfl
  | cons x r =>
    have e2 : min 1 (x :: r).length = 1 := by rw [List.length_cons]; omega
    rw [e2]
theorem sqL_of_same {K : PySem.W.Frag} {H H' : Hp} {a : Addr} {xs : List V} (s : Same H H') (h : H a = some (.lst xs)) : SqL K H' a xs := SqL.of (s _ _ h)
section
variable {P : Program} {w : World} {K : PySem.W.Frag} {mg : Str → Option Value} {base : Heap}
/-! ### split_text -/
/-- what the defs of texts.py lean on -/
structure TxEnv (K : PySem.W.Frag) (mg : Str → Option Value) (w : World) : Prop where
  zLen : mg "len" = none
  zAll : mg "all" = none
  zZip : mg "zip" = none
  zMin : mg "min" = none
  zMax : mg "max" = none
  fol : ∃ a, Fol K mg w a
  nst : ∃ a, Nst K mg w a
  mst : ∃ t, mg "MOST_NESTED" = some (.int 13 t)
  tE : ∃ f fd, At K mg "token_end" sTokEnd ["text", "at"] f fd
  tK : ∃ f fd, At K mg "token_kind" sKind ["token"] f fd
  tT : ∃ f fd, At K mg "tokens_of" sTokens ["text"] f fd
  tS : ∃ f fd, At K mg "are_in_sequence" sInSeq ["tokens"] f fd
  tN : ∃ f fd, At K mg "are_nested" sNested ["tokens"] f fd
  tO : ∃ f fd, At K mg "outer_parts" sOuter ["tokens"] f fd
def spSplit : Sp := fun vs H Q _ => ∃ l : Tx, vs = [tv l] ∧ l.length ≤ big ∧ asc l ∧ (prog l = none → ∀ H', Same H H' → Q .non H') ∧
  ∀ ps, prog l = some ps → ∀ H' q, Same H H' → H q = none → H' q = some (.lst (ps.map tv)) → Q (.ref q) H'
theorem scSp : FnScope ["text", "tokens"] ["text"] (defScope sSplit) := ⟨rfl, rfl, rfl, by decide +kernel, rfl, by decide +kernel, by decide +kernel⟩
theorem ok_split {f : Addr} {fd : FuncData} (F : Fun K "split_text" "split_text" sSplit f fd) (T : TxEnv K mg w) : FnOk P w K mg base CX0 3 f fd ["text"] spSplit := by
  obtain ⟨fE, dE, AE⟩ := T.tE
  obtain ⟨fK, dK, AK⟩ := T.tK
  obtain ⟨fT, dT, AT⟩ := T.tT
  obtain ⟨fS, dS, AS⟩ := T.tS
  obtain ⟨fN, dN, AN⟩ := T.tN
  obtain ⟨fO, dO, AO⟩ := T.tO
  obtain ⟨aF, FL⟩ := T.fol
  obtain ⟨aN, NS⟩ := T.nst
  obtain ⟨tm, mM⟩ := T.mst
  have GT : FnOk P w K mg base CX0 2 fT dT ["text"] spTokens := ok_tokens AT.F T.zLen AE
  have GS : FnOk P w K mg base CX0 2 fS dS ["tokens"] (spInSeq K) := ok_inSeq AS.F T.zAll T.zZip AK FL
  have GN : FnOk P w K mg base CX0 1 fN dN ["tokens"] (spNested K) := ok_nested AN.F T.zMin T.zMax NS mM
  have GO : FnOk P w K mg base CX0 1 fO dO ["tokens"] (spOuter K) := ok_outer AO.F NS
  refine F.ok scSp (fun vs H Q E h => ?_) (fun cdv A outer_ s H vs Q E hr h => ?_)
  · obtain ⟨l, rfl, _⟩ := h
    rfl
  · obtain ⟨l, rfl, hl, ha, k1, k2⟩ := h
    have hr1 := hr.mono (j := 1) (by decide)
    refine ⟨_, pss_cons (ps_set (i := 1) scSp.nd rfl (Or.inl rfl) (pe_call GT hr (by rfl) AT.m AT.F.kp AT.b .nil pass0 (pa_cons (pv 0) pa_nil)))
      (pss_cons (ps_if (PW.pt (pw_or (pt_not (pt_val (pe_call GS hr (by rfl) AS.m AS.F.kp AS.b .nil pass0 (pa_cons (pv 1) pa_nil)))) (pw_or1 (pt_not (pt_val (pe_call GN hr1 (by rfl) AN.m AN.F.kp AN.b .nil pass0 (pa_cons (pv 1) pa_nil))))))) (pss_one (ps_ret pe_non)) pss_nil)
      (pss_one (ps_ret (pe_call GO hr1 (by rfl) AO.m AO.F.kp AO.b .nil pass0 (pa_cons (pe_slice sl_list (pv 1) (po_some pe_int) (po_some (pe_un un_neg pe_int))) pa_nil))))), ?_⟩
    refine ⟨_, rfl, l, rfl, hl, fun H1 p s1 hp hL => ?_⟩
    have facts : ((toks l 0).getD []).length ≤ big ∧ (∀ t ∈ (toks l 0).getD [], t.length ≤ big) ∧ tot ((toks l 0).getD []) ≤ big ∧ ∀ t ∈ (toks l 0).getD [], asc t := by
      cases e : toks l 0 with
      | none => exact ⟨Nat.zero_le _, (fun t ht => by cases ht), Nat.zero_le _, (fun t ht => by cases ht)⟩
      | some ts =>
        obtain ⟨a1, a2⟩ := toks_facts l.length 0 ts (by omega) e
        obtain ⟨b1, b2⟩ := toks_more ha l.length 0 ts (by omega) e
        exact ⟨by show ts.length ≤ big; omega, fun t ht => Nat.le_trans (a2 t ht).1 hl, by show tot ts ≤ big; omega, b2⟩
    have hp1 : prog l = progT ((toks l 0).getD []) := rfl
    generalize (toks l 0).getD [] = ts at hL facts hp1
    obtain ⟨f1, f2, f3, f4⟩ := facts
    refine ⟨_, rfl, p, ts, rfl, SqL.of hL, f1, f2, fun H2 s2 => ?_⟩
    have hno : (inSeq (ts.map kind) && nested ts) = false → prog l = none := fun e => by
      rw [hp1]
      unfold progT
      rw [e]
      rfl
    have hyes : (inSeq (ts.map kind) && nested ts) = true → prog l = some (outer (ts.drop 1).dropLast) := fun e => by
      rw [hp1]
      unfold progT
      rw [e]
      rfl
    refine ⟨_, rfl, ?_⟩
    cases e1 : inSeq (ts.map kind) with
    | false => exact k1 (hno (by rw [e1]; rfl)) H2 (s1.trans s2)
    | true =>
      refine ⟨_, rfl, p, ts, rfl, SqL.of (s2 _ _ hL), f1, fun H3 s3 => ⟨_, rfl, ?_⟩⟩
      cases e2 : nested ts with
      | false => exact k1 (hno (by rw [e2, Bool.and_false])) H3 ((s1.trans s2).trans s3)
      | true =>
        have hp2 := hyes (by rw [e1, e2]; rfl)
        refine ⟨_, rfl, 1, rfl, 1, rfl, -1, rfl, p, _, rfl, SqL.of (s3 _ _ (s2 _ _ hL)), fun p2 hp2' => ?_⟩
        rw [cutV_mid, ← List.map_drop, ← List.map_dropLast]
        have sub : ∀ t, t ∈ (ts.drop 1).dropLast → t ∈ ts := fun t ht => List.mem_of_mem_drop ((List.dropLast_sublist _).subset ht)
        have tl : tot (ts.drop 1).dropLast ≤ tot ts := by
          rw [List.dropLast_eq_take]
          have q1 := tot_take (ts.drop 1) ((ts.drop 1).length - 1)
          have q2 := tot_app (ts.take 1) (ts.drop 1)
          rw [List.take_append_drop] at q2
          omega
        refine ⟨p2, (ts.drop 1).dropLast, rfl, SqL.of upd_same, ?_, by omega, fun t ht => f4 t (sub t ht), fun H' q s4 hq hL4 => ?_⟩
        · rw [List.length_dropLast, List.length_drop]
          omega
        · have s3' : Same H H3 := (s1.trans s2).trans s3
          have s5 : Same H3 H' := fun b o e => s4 b o ((same_upd hp2') b o e)
          exact k2 _ hp2 H' q (s3'.trans s5) (by
            have : H3 q = none := by
              cases e : H3 q with
              | none => rfl
              | some o =>
                have := (same_upd (o := .lst ((ts.drop 1).dropLast.map tv)) hp2') q o e
                rw [this] at hq
                cases hq
            exact s3'.free this) hL4
/-! ### InvalidText -/
/-- what the written part says of the class InvalidText, at C, and of its __init__, at fI -/
structure ITxt (K : PySem.W.Frag) (mg : Str → Option Value) (C fI : Addr) (fd : FuncData) : Prop where
  o : OexC K C
  iC : PySem.W.findIn K (.ref C) "__init__" = some (some (.ref fI))
  tI : PySem.W.typeIn K (.ref fI) = some (.type "function")
  n1 : PySem.W.findIn K (.ref C) "problem" = some none
  n2 : PySem.W.findIn K (.ref C) "_told" = some none
  m : mg "InvalidText" = some (.ref C)
  F : Fun K "__init__" "InvalidText.__init__" sInit fI fd
  b : Binds K fd ["self", "problem"] []
def spInit (C : Addr) : Sp := fun vs H Q _ => ∃ (a : Addr) (v : V), vs = [.ref a, v] ∧ H a = some (exo a C none) ∧
  ∀ (H' : Hp) (d t : Addr), H d = none → d ≠ a → H' a = some (exo a C (some d)) → H' d = some (exd d [("_told", .ref t), ("problem", v)]) → (∀ b o, b ≠ a → H b = some o → H' b = some o) → Q .non H'
theorem scIn : FnScope ["self", "problem"] ["self", "problem"] (defScope sInit) := ⟨rfl, rfl, rfl, by decide +kernel, rfl, by decide +kernel, by decide +kernel⟩
theorem ok_init {C f : Addr} {fd : FuncData} (T : ITxt K mg C f fd) : FnOk P w K mg base CX0 1 f fd ["self", "problem"] (spInit C) := by
  refine T.F.ok scIn (fun vs H Q E h => ?_) (fun cdv A outer_ s H vs Q E hr h => ?_)
  · obtain ⟨a, v, rfl, _⟩ := h
    rfl
  · obtain ⟨a, v, rfl, he, k⟩ := h
    refine ⟨_, pss_cons (ps_ost (pv 0) (pv 1)) (pss_one (ps_ost (pv 0) (pe_tup (pa_cons (pv 1) pa_nil)))), ?_⟩
    refine ⟨_, rfl, _, rfl, a, C, rfl, T.o, T.n1, .inl ⟨he, fun d hd hne => ?_⟩⟩
    refine ⟨_, rfl, (by show 1 ≤ sizeLine; decide), fun t ht => ?_⟩
    have nt : t ≠ a := fun e => by rw [e, upd_same] at ht; cases ht
    have nd : t ≠ d := fun e => by rw [e, upd_ne hne, upd_same] at ht; cases ht
    refine ⟨_, rfl, a, C, rfl, T.o, T.n2, .inr ⟨d, [("problem", v)], ?_, ?_, (show 1 ≤ 900 by decide), ?_⟩⟩
    · rw [upd_ne (Ne.symm nt), upd_same]
    · rw [upd_ne (Ne.symm nd), upd_ne hne, upd_same]
    · refine k _ d t hd hne ?_ upd_same fun b o hb e => ?_
      · rw [upd_ne (Ne.symm hne), upd_ne (Ne.symm nt), upd_same]
      · have n1 : b ≠ d := ne_of_none e hd
        have n2 : b ≠ t := fun z => by
          rw [upd_ne nt, upd_ne nd] at ht
          rw [z, ht] at e
          cases e
        rw [upd_ne n1, upd_ne n2, upd_ne hb, upd_ne n1]
        exact e
/-! ### parts_of -/
def Bad (C : Addr) (H : Hp) (msg : Str) (E : XK) : Prop := ∀ (H' : Hp) (d : Addr) (fs : List (Str × V)), Same H H' → H d = none → H' d = some (.xd fs) → List.lookup ("problem" : Str) fs = some (V.str msg) → E (.ref C) (some d) H'
def spParts (K : PySem.W.Frag) (C : Addr) : Sp := fun vs H Q E => ∃ x : V, vs = [x] ∧
  ((∃ l : Tx, x = tv l ∧ l.length ≤ big ∧ asc l ∧ (prog l = none → Bad C H "form" E) ∧ ∀ ps, prog l = some ps → ∀ H' q, Same H H' → H q = none → H' q = some (.lst (ps.map tv)) → Q (.ref q) H') ∨
   ∃ t : Value, TyX K H x t ∧ PySem.W.kitOne K t (.type "str") = some false ∧ Bad C H "string" E)
theorem scPa : FnScope ["text", "parts"] ["text"] (defScope sParts) := ⟨rfl, rfl, rfl, by decide +kernel, rfl, by decide +kernel, by decide +kernel⟩
theorem bad_of {C : Addr} {H H0 : Hp} {msg : Str} {E : XK} (s : Same H H0) (b : Bad C H msg E) : Bad C H0 msg E := fun H' d fs s' hd e1 e2 => b H' d fs (s.trans s') (s.free hd) e1 e2
theorem kit_str {K : PySem.W.Frag} : PySem.W.kitOne K (.type "str") (.type "str") = some true := kit_ty (by decide +kernel)
theorem ok_parts {f fS C fI : Addr} {fd dS dI : FuncData} (F : Fun K "parts_of" "parts_of" sParts f fd) (T : TxEnv K mg w) (zIs : mg "isinstance" = none) (zStr : mg "str" = none) (I : ITxt K mg C fI dI) (AS : At K mg "split_text" sSplit ["text"] fS dS) :
    FnOk P w K mg base (L2.CX P w) 4 f fd ["text"] (spParts K C) := by
  have GS : FnOk P w K mg base CX0 3 fS dS ["text"] spSplit := ok_split AS.F T
  have GI : FnOk P w K mg base CX0 1 fI dI ["self", "problem"] (spInit C) := ok_init I
  refine F.okX scPa (fun vs H Q E h => ?_) (fun cdv A outer_ s H vs Q E hr h => ?_)
  · obtain ⟨x, rfl, _⟩ := h
    rfl
  · obtain ⟨x, rfl, h⟩ := h
    have mk : ∀ (H0 : Hp) (msg : Str), Bad C H0 msg E → (1 ≤ 1000 ∧ ∀ a, H0 a = none → spInit C (.ref a :: ([.str msg] ++ [])) (upd H0 a (exo a C none))
        (fun v H2 => v = .non ∧ ∃ (d : Addr) (fs : List (Str × V)), H2 a = some (exo a C (some d)) ∧ H2 d = some (exd d fs) ∧ H0 d = none ∧ E (.ref C) (some d) (upd (del H2 a) d (.xd fs))) (fun _ _ _ => False)) := fun H0 msg hb => by
      refine ⟨by decide, fun a ha => ⟨a, .str msg, rfl, upd_same, fun H2 d t hd hne he1 he2 hs => ⟨rfl, d, _, he1, he2, ?_, ?_⟩⟩⟩
      · rw [upd_ne hne] at hd
        exact hd
      · refine hb _ d [("_told", .ref t), ("problem", .str msg)] (fun b o e => ?_) (by rw [upd_ne hne] at hd; exact hd) upd_same (by rfl)
        have nb : b ≠ a := ne_of_none e ha
        have nd : b ≠ d := fun z => by
          rw [z] at e
          rw [upd_ne hne, e] at hd
          cases hd
        rw [upd_ne nd, del_ne nb]
        exact hs b o nb (by rw [upd_ne nb]; exact e)
    refine ⟨_, pss_cons (ps_if (pt_not (pt_val (pe_callB call_isi (by rfl) zIs (by decide +kernel) (pa_cons (pv 0) (pa_cons (pe_bltn (v := .ty "str") (u := .type "str") (by rfl) zStr (by decide +kernel) rfl) pa_nil)))))
        (pss_one (ps_raise rfl (takes_of rfl rfl rfl rfl) (pmk_oex I.o I.iC I.tI GI (hr.mono (by decide)) I.b .nil pass0 (by rfl) I.m (by exact (pa_cons pe_str pa_nil))))) pss_nil)
      (pss_cons (ps_set (i := 1) scPa.nd rfl (Or.inl rfl) (pe_call GS hr (by rfl) AS.m AS.F.kp AS.b .nil pass0 (pa_cons (pv 0) pa_nil)))
      (pss_cons (ps_if (pt_cmpR op_isN (pv 1) pe_non (nomark _)) (pss_one (ps_raise rfl (takes_of rfl rfl rfl rfl) (pmk_oex I.o I.iC I.tI GI (hr.mono (by decide)) I.b .nil pass0 (by rfl) I.m (by exact (pa_cons pe_str pa_nil))))) pss_nil)
      (pss_one (ps_ret (pv 1))))), ?_⟩
    rcases h with ⟨l, rfl, hl, ha, k1, k2⟩ | ⟨t, ty, kt, hb⟩
    · refine ⟨_, rfl, tv l, .ty "str", .type "str", .type "str", true, rfl, .ty "str", .base (.str _), kit_str, _, rfl, ?_⟩
      refine ⟨_, rfl, l, rfl, hl, ha, fun e H' s1 => ?_, fun ps e H' q s1 hq hL => ?_⟩
      · exact ⟨_, rfl, rfl, _, rfl, mk H' "form" (bad_of s1 (k1 e))⟩
      · exact ⟨_, rfl, rfl, _, rfl, _, rfl, k2 ps e H' q s1 hq hL⟩
    · refine ⟨_, rfl, x, .ty "str", t, .type "str", false, rfl, .ty "str", ty, kt, _, rfl, ?_⟩
      exact mk H "string" hb
end
end K21
namespace K21
open PySem L2
abbrev sWordEnd : Stmt := top 28
abbrev sEnded : Stmt := top 29
abbrev sBegun : Stmt := top 30
abbrev sClosed : Stmt := top 31
abbrev sScanned : Stmt := top 32
/-! ### the scanner's dict -/
abbrev kk (x : Str) : Key := Sum.inr x
theorem k_at_depth : (("at" : Str) = ("depth" : Str)) = False := eq_false (by decide +kernel)
theorem k_at_ready : (("at" : Str) = ("ready" : Str)) = False := eq_false (by decide +kernel)
theorem k_at_begin : (("at" : Str) = ("begin" : Str)) = False := eq_false (by decide +kernel)
theorem k_at_found : (("at" : Str) = ("found" : Str)) = False := eq_false (by decide +kernel)
theorem k_depth_at : (("depth" : Str) = ("at" : Str)) = False := eq_false (by decide +kernel)
theorem k_depth_ready : (("depth" : Str) = ("ready" : Str)) = False := eq_false (by decide +kernel)
theorem k_depth_begin : (("depth" : Str) = ("begin" : Str)) = False := eq_false (by decide +kernel)
theorem k_depth_found : (("depth" : Str) = ("found" : Str)) = False := eq_false (by decide +kernel)
theorem k_ready_at : (("ready" : Str) = ("at" : Str)) = False := eq_false (by decide +kernel)
theorem k_ready_depth : (("ready" : Str) = ("depth" : Str)) = False := eq_false (by decide +kernel)
theorem k_ready_begin : (("ready" : Str) = ("begin" : Str)) = False := eq_false (by decide +kernel)
theorem k_ready_found : (("ready" : Str) = ("found" : Str)) = False := eq_false (by decide +kernel)
theorem k_begin_at : (("begin" : Str) = ("at" : Str)) = False := eq_false (by decide +kernel)
theorem k_begin_depth : (("begin" : Str) = ("depth" : Str)) = False := eq_false (by decide +kernel)
theorem k_begin_ready : (("begin" : Str) = ("ready" : Str)) = False := eq_false (by decide +kernel)
theorem k_begin_found : (("begin" : Str) = ("found" : Str)) = False := eq_false (by decide +kernel)
theorem k_found_at : (("found" : Str) = ("at" : Str)) = False := eq_false (by decide +kernel)
theorem k_found_depth : (("found" : Str) = ("depth" : Str)) = False := eq_false (by decide +kernel)
theorem k_found_ready : (("found" : Str) = ("ready" : Str)) = False := eq_false (by decide +kernel)
theorem k_found_begin : (("found" : Str) = ("begin" : Str)) = False := eq_false (by decide +kernel)
def kst (a b c d e : V) : List (Key × V) := [(kk "at", a), (kk "depth", b), (kk "ready", c), (kk "begin", d), (kk "found", e)]
theorem get_at (a b c d e : V) : valV (kst a b c d e) (kk "at") = some a := by simp [kst, valV, k_at_depth, k_at_ready, k_at_begin, k_at_found, k_depth_at, k_depth_ready, k_depth_begin, k_depth_found, k_ready_at, k_ready_depth, k_ready_begin, k_ready_found, k_begin_at, k_begin_depth, k_begin_ready, k_begin_found, k_found_at, k_found_depth, k_found_ready, k_found_begin]
theorem put_at (a b c d e x : V) : putK (kst a b c d e) (kk "at") x = kst x b c d e := by simp [kst, putK, k_at_depth, k_at_ready, k_at_begin, k_at_found, k_depth_at, k_depth_ready, k_depth_begin, k_depth_found, k_ready_at, k_ready_depth, k_ready_begin, k_ready_found, k_begin_at, k_begin_depth, k_begin_ready, k_begin_found, k_found_at, k_found_depth, k_found_ready, k_found_begin]
theorem get_depth (a b c d e : V) : valV (kst a b c d e) (kk "depth") = some b := by simp [kst, valV, k_at_depth, k_at_ready, k_at_begin, k_at_found, k_depth_at, k_depth_ready, k_depth_begin, k_depth_found, k_ready_at, k_ready_depth, k_ready_begin, k_ready_found, k_begin_at, k_begin_depth, k_begin_ready, k_begin_found, k_found_at, k_found_depth, k_found_ready, k_found_begin]
theorem put_depth (a b c d e x : V) : putK (kst a b c d e) (kk "depth") x = kst a x c d e := by simp [kst, putK, k_at_depth, k_at_ready, k_at_begin, k_at_found, k_depth_at, k_depth_ready, k_depth_begin, k_depth_found, k_ready_at, k_ready_depth, k_ready_begin, k_ready_found, k_begin_at, k_begin_depth, k_begin_ready, k_begin_found, k_found_at, k_found_depth, k_found_ready, k_found_begin]
theorem get_ready (a b c d e : V) : valV (kst a b c d e) (kk "ready") = some c := by simp [kst, valV, k_at_depth, k_at_ready, k_at_begin, k_at_found, k_depth_at, k_depth_ready, k_depth_begin, k_depth_found, k_ready_at, k_ready_depth, k_ready_begin, k_ready_found, k_begin_at, k_begin_depth, k_begin_ready, k_begin_found, k_found_at, k_found_depth, k_found_ready, k_found_begin]
theorem put_ready (a b c d e x : V) : putK (kst a b c d e) (kk "ready") x = kst a b x d e := by simp [kst, putK, k_at_depth, k_at_ready, k_at_begin, k_at_found, k_depth_at, k_depth_ready, k_depth_begin, k_depth_found, k_ready_at, k_ready_depth, k_ready_begin, k_ready_found, k_begin_at, k_begin_depth, k_begin_ready, k_begin_found, k_found_at, k_found_depth, k_found_ready, k_found_begin]
theorem get_begin (a b c d e : V) : valV (kst a b c d e) (kk "begin") = some d := by simp [kst, valV, k_at_depth, k_at_ready, k_at_begin, k_at_found, k_depth_at, k_depth_ready, k_depth_begin, k_depth_found, k_ready_at, k_ready_depth, k_ready_begin, k_ready_found, k_begin_at, k_begin_depth, k_begin_ready, k_begin_found, k_found_at, k_found_depth, k_found_ready, k_found_begin]
theorem put_begin (a b c d e x : V) : putK (kst a b c d e) (kk "begin") x = kst a b c x e := by simp [kst, putK, k_at_depth, k_at_ready, k_at_begin, k_at_found, k_depth_at, k_depth_ready, k_depth_begin, k_depth_found, k_ready_at, k_ready_depth, k_ready_begin, k_ready_found, k_begin_at, k_begin_depth, k_begin_ready, k_begin_found, k_found_at, k_found_depth, k_found_ready, k_found_begin]
theorem get_found (a b c d e : V) : valV (kst a b c d e) (kk "found") = some e := by simp [kst, valV, k_at_depth, k_at_ready, k_at_begin, k_at_found, k_depth_at, k_depth_ready, k_depth_begin, k_depth_found, k_ready_at, k_ready_depth, k_ready_begin, k_ready_found, k_begin_at, k_begin_depth, k_begin_ready, k_begin_found, k_found_at, k_found_depth, k_found_ready, k_found_begin]
theorem put_found (a b c d e x : V) : putK (kst a b c d e) (kk "found") x = kst a b c d x := by simp [kst, putK, k_at_depth, k_at_ready, k_at_begin, k_at_found, k_depth_at, k_depth_ready, k_depth_begin, k_depth_found, k_ready_at, k_ready_depth, k_ready_begin, k_ready_found, k_begin_at, k_begin_depth, k_begin_ready, k_begin_found, k_found_at, k_found_depth, k_found_ready, k_found_begin]
def rd : Nat → Str
  | 0 => "start"
  | 1 => "first"
  | 2 => "behind"
  | 3 => "part"
  | _ => "end"
def stK (s : Sc) (p : Addr) : List (Key × V) := kst (.int (s.pos : Int)) (.int s.depth) (.str (rd s.ready)) (.int (s.begin : Int)) (.ref p)
structure StAt (H : Hp) (st p : Addr) (s : Sc) : Prop where
  d : H st = some (.dK (stK s p))
  f : H p = some (.lst (s.found.map tv))
theorem StAt.ne {H : Hp} {st p : Addr} {s : Sc} (h : StAt H st p s) : st ≠ p := ne_of h.d h.f (by intro z; cases z)
/-- all that was tracked is as it was, but at two places -/
def But (st p : Addr) (H H' : Hp) : Prop := ∀ b o, b ≠ st → b ≠ p → H b = some o → H' b = some o
theorem But.refl (st p : Addr) (H : Hp) : But st p H H := fun _ _ _ _ h => h
theorem But.trans {st p : Addr} {H H1 H2 : Hp} (a : But st p H H1) (b : But st p H1 H2) : But st p H H2 := fun c o h1 h2 h => b c o h1 h2 (a c o h1 h2 h)
theorem But.at {st p : Addr} {H : Hp} {o : HO} : But st p H (upd H st o) := fun b u h1 _ h => by rw [upd_ne h1]; exact h
theorem But.at2 {st p : Addr} {H : Hp} {o : HO} : But st p H (upd H p o) := fun b u _ h2 h => by rw [upd_ne h2]; exact h
theorem But.new {st p q : Addr} {H : Hp} {o : HO} (h : H q = none) : But st p H (upd H q o) := fun b u _ _ e => by rw [upd_ne (ne_of_none e h)]; exact e
/-- d[k] = v, by values -/
def rSetD : TSet := fun o i v H Q => ∃ (a : Addr) (H' : Hp), o = .ref a ∧ DPut H a i v H' ∧ Q H'
theorem set_dict {X : Cx} (hu : X.A.units + 1 < cLine) : PSet X rSetD := by
  rintro pins s σ H o i v ov iv u Q I ro ri rv ⟨a, H', rfl, g, q⟩
  obtain rfl : ov = Value.ref a := ro
  exact d_setItem hu I g ri rv fun s' I' => ⟨H', I', q⟩
theorem lit_stop2 : Str.ofString " ()'" = txt [32, 40, 41, 39] := by decide +kernel
theorem few5 (a b c d e : V) : (kst a b c d e).length < sizeLine := by show 5 < sizeLine; decide

section
variable {H : Hp} {st p : Addr} {s : Sc}
theorem StAt.gAt (h : StAt H st p s) : DGet H st (.str "at") (some (.int (s.pos : Int))) := by
  have q := DGet.k (k := kk "at") h.d
  unfold stK at q
  rw [get_at] at q
  exact q
theorem StAt.gDepth (h : StAt H st p s) : DGet H st (.str "depth") (some (.int s.depth)) := by
  have q := DGet.k (k := kk "depth") h.d
  unfold stK at q
  rw [get_depth] at q
  exact q
theorem StAt.gReady (h : StAt H st p s) : DGet H st (.str "ready") (some (.str (rd s.ready))) := by
  have q := DGet.k (k := kk "ready") h.d
  unfold stK at q
  rw [get_ready] at q
  exact q
theorem StAt.gBegin (h : StAt H st p s) : DGet H st (.str "begin") (some (.int (s.begin : Int))) := by
  have q := DGet.k (k := kk "begin") h.d
  unfold stK at q
  rw [get_begin] at q
  exact q
theorem StAt.gFound (h : StAt H st p s) : DGet H st (.str "found") (some (.ref p)) := by
  have q := DGet.k (k := kk "found") h.d
  unfold stK at q
  rw [get_found] at q
  exact q
def hAt (H : Hp) (st p : Addr) (s : Sc) (n : Nat) : Hp := upd H st (.dK (stK { s with pos := n } p))
def hDepth (H : Hp) (st p : Addr) (s : Sc) (n : Int) : Hp := upd H st (.dK (stK { s with depth := n } p))
def hReady (H : Hp) (st p : Addr) (s : Sc) (n : Nat) : Hp := upd H st (.dK (stK { s with ready := n } p))
def hBegin (H : Hp) (st p : Addr) (s : Sc) (n : Nat) : Hp := upd H st (.dK (stK { s with begin := n } p))
theorem StAt.put (h : StAt H st p s) (s' : Sc) (e : s'.found = s.found) : StAt (upd H st (.dK (stK s' p))) st p s' :=
  ⟨upd_same, by rw [upd_ne (Ne.symm h.ne), e]; exact h.f⟩
theorem StAt.pAt (h : StAt H st p s) (n : Nat) : DPut H st (.str "at") (.int (n : Int)) (hAt H st p s n) := by
  have q := DPut.k (k := kk "at") (v := .int (n : Int)) h.d (few5 _ _ _ _ _)
  unfold stK at q
  rw [put_at] at q
  exact q
theorem StAt.pDepth (h : StAt H st p s) (n : Int) : DPut H st (.str "depth") (.int n) (hDepth H st p s n) := by
  have q := DPut.k (k := kk "depth") (v := .int n) h.d (few5 _ _ _ _ _)
  unfold stK at q
  rw [put_depth] at q
  exact q
theorem StAt.pReady (h : StAt H st p s) (n : Nat) : DPut H st (.str "ready") (.str (rd n)) (hReady H st p s n) := by
  have q := DPut.k (k := kk "ready") (v := .str (rd n)) h.d (few5 _ _ _ _ _)
  unfold stK at q
  rw [put_ready] at q
  exact q
theorem StAt.pBegin (h : StAt H st p s) (n : Nat) : DPut H st (.str "begin") (.int (n : Int)) (hBegin H st p s n) := by
  have q := DPut.k (k := kk "begin") (v := .int (n : Int)) h.d (few5 _ _ _ _ _)
  unfold stK at q
  rw [put_begin] at q
  exact q
theorem StAt.app (h : StAt H st p s) (t : Tx) : StAt (upd H p (.lst (s.found.map tv ++ [tv t]))) st p { s with found := s.found ++ [t] } :=
  ⟨by rw [upd_ne h.ne]; exact h.d, by rw [upd_same, List.map_append]; rfl⟩
theorem StAt.same {H' : Hp} (h : StAt H st p s) (q : Same H H') : StAt H' st p s := ⟨q _ _ h.d, q _ _ h.f⟩
theorem But.of_same {H H' : Hp} (q : Same H H') : But st p H H' := fun b o _ _ e => q b o e
end
section
variable {P : Program} {w : World} {K : PySem.W.Frag} {mg : Str → Option Value} {base : Heap}
/-! ### _law_word_end -/
def spWordEnd : Sp := fun vs H Q _ => ∃ (l : Tx) (i : Nat), vs = [tv l, .int (i : Int)] ∧ i ≤ l.length ∧ l.length ≤ big ∧ Q (.int (wordEnd l i : Nat)) H
theorem scWE : FnScope ["_law_line", "_law_at", "_law_end"] ["_law_line", "_law_at"] (defScope sWordEnd) := ⟨rfl, rfl, rfl, by decide +kernel, rfl, by decide +kernel, by decide +kernel⟩
theorem ok_wordEnd {f : Addr} {fd : FuncData} (F : Fun K "_law_word_end" "_law_word_end" sWordEnd f fd) (zLen : mg "len" = none) : FnOk P w K mg base CX0 1 f fd ["_law_line", "_law_at"] spWordEnd := by
  refine F.ok scWE (fun vs H Q E h => ?_) (fun cdv A outer_ s H vs Q E hr h => ?_)
  · obtain ⟨l, i, rfl, _⟩ := h
    rfl
  · obtain ⟨l, i, rfl, hi, hl, k⟩ := h
    have hline : (txt l).length ≤ sizeLine := by rw [txt_len]; exact Nat.le_trans hl big_line
    refine ⟨_, pss_cons (ps_set (i := 2) scWE.nd rfl (Or.inl rfl) (pv 1))
      (pss_cons (ps_while PassesOwn.never (PW.pt (pw_and (pt_cmpR op_lt (pv 2) (pe_callB call_len_str (by rfl) zLen PySem.boot_len (pa_cons (pv 0) pa_nil)) (nomark _)) (pw_and1 (pt_cmpR op_notIn_sign (pe_ix ix_str (pv 0) (pv 2) (fun _ _ => rfl)) pe_str (by rfl)))))
        (pss_one (ps_set (i := 2) scWE.nd rfl (Or.inl rfl) (pe_op op_add (pv 2) pe_int))))
      (pss_one (ps_ret (pv 2)))), ?_⟩
    refine ⟨_, rfl, ?_⟩
    refine while_by (fun σ H' => ∃ j : Nat, σ = [some (tv l), some (.int (i : Int)), some (.int (j : Int))] ∧ H' = H ∧ j ≤ l.length ∧ wordEnd l j = wordEnd l i)
      (fun σ _ => match σ with | [_, _, some (.int j)] => l.length - j.toNat | _ => 0) ⟨i, rfl, rfl, hi, rfl⟩ ?_ ?_
    · rintro σ H' ⟨j, rfl, rfl, hj, hw⟩
      refine ⟨_, rfl, _, rfl, txt l, rfl, hline, _, _, rfl, rfl, _, rfl, ?_⟩
      rw [txt_len]
      refine ite2 (fun h3 => ?_) (fun h3 => ?_)
      · have h3' : j < l.length := by have := of_decide_eq_true h3; omega
        obtain ⟨d, hd⟩ : ∃ d, l[j]? = some d := ⟨_, List.getElem?_eq_getElem h3'⟩
        refine ⟨_, rfl, _, rfl, _, _, d, rfl, rfl, hline, atI_nat hd, d, Str.ofString " ()'", rfl, rfl, _, rfl, ?_⟩
        rw [lit_stop2, txt_list]
        have ed : decide (d ∈ [32, 40, 41, 39]) = stop d := by
          unfold stop
          by_cases q1 : d = 40 <;> by_cases q2 : d = 41 <;> by_cases q3 : d = 32 <;> by_cases q4 : d = 39 <;> simp [q1, q2, q3, q4]
        rw [ed]
        cases hs : stop d with
        | true =>
          have e := wordEnd_stop hd hs
          rw [← hw, e] at k
          exact ⟨_, rfl, k⟩
        | false =>
          refine ⟨_, rfl, _, _, rfl, rfl, ?_⟩
          refine ⟨⟨j + 1, rfl, rfl, h3', by rw [← wordEnd_more hd hs]; exact hw⟩, ?_⟩
          show l.length - ((j : Int) + 1).toNat < l.length - (j : Int).toNat
          omega
      · have h3' : ¬ j < l.length := fun q => h3 (decide_eq_true (by omega))
        have e := wordEnd_len h3'
        rw [← hw, e] at k
        exact ⟨_, rfl, k⟩
    · rintro σ H' Q1 Q2 hm ⟨x, h1, y, h2, z, h3, h4, i1, j1, e1, e2, b, e3, q⟩
      refine ⟨x, h1, y, h2, z, h3, h4, i1, j1, e1, e2, b, e3, ?_⟩
      cases b with
      | false => exact hm _ _ q
      | true =>
        obtain ⟨x, h1, y, h2, z, i2, c2, h3, h4, h5, h6, c3, z3, e4, e5, b, e3, q⟩ := q
        exact ⟨x, h1, y, h2, z, i2, c2, h3, h4, h5, h6, c3, z3, e4, e5, b, e3, hm _ _ q⟩
/-! ### _law_ended -/
def spEnded : Sp := fun vs H Q _ => ∃ (l : Tx) (st p : Addr) (s : Sc) (e : Nat), vs = [tv l, .ref st, .int (e : Int)] ∧ StAt H st p s ∧ l.length ≤ big ∧ e ≤ l.length ∧ s.begin ≤ e ∧ s.found.length ≤ big ∧
  ∀ H', StAt H' st p (ended l s e) → But st p H H' → Q .non H'
theorem scEd : FnScope ["_law_line", "_law_state", "_law_end"] ["_law_line", "_law_state", "_law_end"] (defScope sEnded) := ⟨rfl, rfl, rfl, by decide +kernel, rfl, by decide +kernel, by decide +kernel⟩
theorem ok_ended {f : Addr} {fd : FuncData} (F : Fun K "_law_ended" "_law_ended" sEnded f fd) : FnOk P w K mg base CX0 1 f fd ["_law_line", "_law_state", "_law_end"] spEnded := by
  refine F.ok scEd (fun vs H Q E h => ?_) (fun cdv A outer_ s H vs Q E hr h => ?_)
  · obtain ⟨l, st, p, sc, e, rfl, _⟩ := h
    rfl
  · obtain ⟨l, st, p, sc, e, rfl, hS, hl, he, hb, hf, k⟩ := h
    have hline : (txt l).length ≤ sizeLine := by rw [txt_len]; exact Nat.le_trans hl big_line
    have hu := hu_of hr
    refine ⟨_, pss_cons (ps_if (pt_cmpR op_eq (pe_dget hu (pv 1) pe_str (fun _ _ => rfl)) pe_int (nomark _))
        (pss_one (ps_expr (pe_bm PySem.F.plainAttrs_list PySem.F.slot_list_append PySem.F.type_list_append mt_append (pe_dget hu (pv 1) pe_str (fun _ _ => rfl)) (pa_cons (pe_slice sl_str (pv 0) (po_some (pe_dget hu (pv 1) pe_str (fun _ _ => rfl))) (po_some (pv 2))) pa_nil)))) pss_nil)
      (pss_one (ps_asg (pe_tup (pa_cons (pv 2) (pa_cons pe_str pa_nil))) (pg_tup rfl (pgs_cons (pg_sub (pv 1) pe_str (set_dict hu)) (pgs_cons (pg_sub (pv 1) pe_str (set_dict hu)) pgs_nil))))), ?_⟩
    -- the two stores at the end
    have fin : ∀ (H1 : Hp) (s1 : Sc), StAt H1 st p s1 → But st p H H1 → ended l sc e = { s1 with pos := e, ready := 2 } → ∀ t, H1 t = none →
        ∃ H3, DPut (upd H1 t (.tup [.int (e : Int), .str "behind"])) st (.str "at") (.int (e : Int)) H3 ∧ ∃ H4, DPut H3 st (.str "ready") (.str "behind") H4 ∧ Q .non H4 := fun H1 s1 S1 b1 ee t ht => by
      have S2 := S1.same (same_upd (o := .tup [.int (e : Int), .str "behind"]) ht)
      have S3 : StAt (hAt _ st p s1 e) st p { s1 with pos := e } := S2.put _ rfl
      have S4 : StAt (hReady _ st p { s1 with pos := e } 2) st p { s1 with pos := e, ready := 2 } := S3.put _ rfl
      refine ⟨_, S2.pAt e, _, S3.pReady 2, k _ (by rw [ee]; exact S4) ?_⟩
      exact ((b1.trans (But.new ht)).trans But.at).trans But.at
    refine ⟨_, rfl, st, _, rfl, hS.gDepth, rfl, _, rfl, ?_⟩
    rw [int_eq]
    refine ite2 (fun h1 => ?_) (fun h1 => ?_)
    · have h1' := of_decide_eq_true h1
      refine ⟨_, rfl, st, _, rfl, hS.gFound, .inl ⟨rfl, _, SqL.of hS.f⟩, _, rfl, _, rfl, st, _, rfl, hS.gBegin, _, rfl, _, rfl, _, rfl, txt l, rfl, hline, p, _, _, rfl, rfl, hS.f, ?_, ?_⟩
      · rw [List.length_map]
        exact Nat.lt_of_le_of_lt hf (by decide)
      · rw [cutS_nat l sc.begin e hb he]
        refine ⟨_, rfl, (by show 2 ≤ sizeLine; decide), fun t ht => ?_⟩
        obtain ⟨H3, d3, H4, d4, q⟩ := fin _ _ (hS.app (cut l sc.begin e)) But.at2 (by unfold ended; rw [if_pos h1']) t ht
        exact ⟨t, _, rfl, SqT.of upd_same, rfl, _, _, rfl, _, rfl, st, _, rfl, d3, _, _, rfl, _, rfl, st, _, rfl, d4, rfl, q⟩
    · have h1' : ¬ sc.depth = 1 := fun z => h1 (decide_eq_true z)
      refine ⟨_, rfl, (by show 2 ≤ sizeLine; decide), fun t ht => ?_⟩
      obtain ⟨H3, d3, H4, d4, q⟩ := fin _ _ hS (But.refl _ _ _) (by unfold ended; rw [if_neg h1']) t ht
      exact ⟨t, _, rfl, SqT.of upd_same, rfl, _, _, rfl, _, rfl, st, _, rfl, d3, _, _, rfl, _, rfl, st, _, rfl, d4, rfl, q⟩
/-- what the scanner keeps -/
structure InvS (l : Tx) (s : Sc) : Prop where
  b : s.begin ≤ s.pos
  n : s.pos ≤ l.length
  f : s.found.length ≤ s.pos
theorem ended_inv {l : Tx} {s : Sc} {e : Nat} (hb : s.begin ≤ s.pos) (hf : s.found.length ≤ s.pos) (h1 : s.pos < e) (h2 : e ≤ l.length) : InvS l (ended l s e) := by
  unfold ended
  refine ⟨by dsimp only; omega, h2, ?_⟩
  dsimp only
  split
  · rw [List.length_append, List.length_singleton]; omega
  · omega
theorem closed_inv {l : Tx} {s : Sc} (h : InvS l s) (hp : s.pos < l.length) : InvS l (closed l s) := by
  have q := ended_inv (l := l) (s := { s with depth := s.depth - 1 }) (e := s.pos + 1) h.b h.f (Nat.lt_succ_self _) hp
  unfold closed
  dsimp only
  split
  · exact ⟨q.b, q.n, q.f⟩
  · exact q
theorem begun_inv {l : Tx} {s s' : Sc} {c : Nat} (h : InvS l s) (hp : l[s.pos]? = some c) (e : begun l s c = some s') : InvS l s' := by
  have hlt := (List.getElem?_eq_some_iff.mp hp).1
  have hq := quoteEnd_le l s.pos
  have hw := wordEnd_le l s.pos (Nat.le_of_lt hlt)
  unfold begun at e
  dsimp only at e
  by_cases h1 : c = 40
  · rw [if_pos h1] at e
    by_cases h2 : s.depth + 1 < 14
    · rw [if_pos h2] at e
      injection e with e
      subst e
      by_cases h3 : s.depth = 1
      · rw [if_pos h3]; exact ⟨Nat.le_succ _, hlt, Nat.le_succ_of_le h.f⟩
      · rw [if_neg h3]; exact ⟨Nat.le_succ_of_le h.b, hlt, Nat.le_succ_of_le h.f⟩
    · rw [if_neg h2] at e; cases e
  · rw [if_neg h1] at e
    have hle : (if c = 39 then quoteEnd l s.pos else wordEnd l s.pos) ≤ l.length := by split <;> assumption
    generalize (if c = 39 then quoteEnd l s.pos else wordEnd l s.pos) = x at e hle
    by_cases h2 : x > s.pos
    · rw [if_pos h2] at e
      injection e with e
      subst e
      by_cases h3 : s.depth = 1
      · rw [if_pos h3]; exact ended_inv (Nat.le_refl _) h.f h2 hle
      · rw [if_neg h3]; exact ended_inv h.b h.f h2 hle
    · rw [if_neg h2] at e; cases e
theorem step_inv {l : Tx} {s s' : Sc} {c : Nat} (h : InvS l s) (hp : l[s.pos]? = some c) (e : step l s c = some s') : InvS l s' := by
  have hlt := (List.getElem?_eq_some_iff.mp hp).1
  unfold step at e
  by_cases h1 : c = 41 ∧ (s.ready = 1 ∨ s.ready = 2)
  · rw [if_pos h1] at e
    injection e with e
    subst e
    exact closed_inv h hlt
  · rw [if_neg h1] at e
    by_cases h2 : c = 32 ∧ s.ready = 2
    · rw [if_pos h2] at e
      injection e with e
      subst e
      exact ⟨Nat.le_succ_of_le h.b, hlt, Nat.le_succ_of_le h.f⟩
    · rw [if_neg h2] at e
      by_cases h3 : (s.ready = 2 ∨ s.ready = 4) ∨ (s.ready = 0 ∧ c ≠ 40)
      · rw [if_pos h3] at e; cases e
      · rw [if_neg h3] at e; exact begun_inv h hp e
/-! ### _law_closed -/
def spClosed : Sp := fun vs H Q _ => ∃ (l : Tx) (st p : Addr) (s : Sc), vs = [tv l, .ref st] ∧ StAt H st p s ∧ l.length ≤ big ∧ InvS l s ∧ s.pos < l.length ∧
  ∀ H', StAt H' st p (closed l s) → But st p H H' → Q .non H'
theorem scCl : FnScope ["_law_line", "_law_state"] ["_law_line", "_law_state"] (defScope sClosed) := ⟨rfl, rfl, rfl, by decide +kernel, rfl, by decide +kernel, by decide +kernel⟩
theorem ok_closed {f fE : Addr} {fd dE : FuncData} (F : Fun K "_law_closed" "_law_closed" sClosed f fd) (AE : At K mg "_law_ended" sEnded ["_law_line", "_law_state", "_law_end"] fE dE) : FnOk P w K mg base CX0 2 f fd ["_law_line", "_law_state"] spClosed := by
  have GE : FnOk P w K mg base CX0 1 fE dE ["_law_line", "_law_state", "_law_end"] spEnded := ok_ended AE.F
  refine F.ok scCl (fun vs H Q E h => ?_) (fun cdv A outer_ s H vs Q E hr h => ?_)
  · obtain ⟨l, st, p, sc, rfl, _⟩ := h
    rfl
  · obtain ⟨l, st, p, sc, rfl, hS, hl, hI, hp, k⟩ := h
    have hu := hu_of hr
    refine ⟨_, pss_cons (ps_dput hu (pv 1) pe_str (pe_op op_sub (pe_dget hu (pv 1) pe_str (fun _ _ => rfl)) pe_int) rfl)
      (pss_cons (ps_expr (pe_call GE hr (by rfl) AE.m AE.F.kp AE.b .nil pass0 (pa_cons (pv 0) (pa_cons (pv 1) (pa_cons (pe_op op_add (pe_dget hu (pv 1) pe_str (fun _ _ => rfl)) pe_int) pa_nil)))))
      (pss_one (ps_if (pt_cmpR op_eq (pe_dget hu (pv 1) pe_str (fun _ _ => rfl)) pe_int (nomark _)) (pss_one (ps_dput hu (pv 1) pe_str pe_str rfl)) pss_nil))), ?_⟩
    have S1 : StAt (hDepth H st p sc (sc.depth - 1)) st p { sc with depth := sc.depth - 1 } := hS.put _ rfl
    refine ⟨_, rfl, st, _, rfl, hS.gDepth, _, _, rfl, rfl, _, rfl, st, _, rfl, hS.pDepth (sc.depth - 1), ?_⟩
    refine ⟨_, rfl, _, rfl, _, rfl, st, _, rfl, S1.gAt, _, _, rfl, rfl, l, st, p, _, sc.pos + 1, rfl, S1, hl, hp, Nat.le_succ_of_le hI.b, Nat.le_trans (Nat.le_trans hI.f hI.n) hl, fun H2 S2 b2 => ?_⟩
    have b1 : But st p H H2 := But.trans But.at b2
    refine ⟨_, rfl, st, _, rfl, S2.gDepth, rfl, _, rfl, ?_⟩
    rw [int_eq]
    refine ite2 (fun h1 => ?_) (fun h1 => ?_)
    · have h1' := of_decide_eq_true h1
      refine ⟨_, rfl, st, _, rfl, S2.pReady 4, k _ ?_ (b1.trans But.at)⟩
      unfold closed
      dsimp only
      rw [if_pos h1']
      exact S2.put _ rfl
    · have h1' := fun z => h1 (decide_eq_true z)
      refine k _ ?_ b1
      unfold closed
      dsimp only
      rw [if_neg h1']
      exact S2
/-! ### _law_begun -/
def spBegun : Sp := fun vs H Q _ => ∃ (l : Tx) (st p : Addr) (s : Sc) (c : Nat), vs = [tv l, .ref st] ∧ StAt H st p s ∧ l.length ≤ big ∧ InvS l s ∧ l[s.pos]? = some c ∧
  (∀ s', begun l s c = some s' → ∀ H', StAt H' st p s' → But st p H H' → Q (.bl true) H') ∧ (begun l s c = none → ∀ H', But st p H H' → Q (.bl false) H')
theorem scBe : FnScope ["_law_line", "_law_state", "_law_at", "_law_end"] ["_law_line", "_law_state"] (defScope sBegun) := ⟨rfl, rfl, rfl, by decide +kernel, rfl, by decide +kernel, by decide +kernel⟩
theorem ok_begun {f fE fW : Addr} {fd dE dW : FuncData} (F : Fun K "_law_begun" "_law_begun" sBegun f fd) (zLen : mg "len" = none) (AE : At K mg "_law_ended" sEnded ["_law_line", "_law_state", "_law_end"] fE dE) (AW : At K mg "_law_word_end" sWordEnd ["_law_line", "_law_at"] fW dW) :
    FnOk P w K mg base CX0 2 f fd ["_law_line", "_law_state"] spBegun := by
  have GE : FnOk P w K mg base CX0 1 fE dE ["_law_line", "_law_state", "_law_end"] spEnded := ok_ended AE.F
  have GW : FnOk P w K mg base CX0 1 fW dW ["_law_line", "_law_at"] spWordEnd := ok_wordEnd AW.F zLen
  refine F.ok scBe (fun vs H Q E h => ?_) (fun cdv A outer_ s H vs Q E hr h => ?_)
  · obtain ⟨l, st, p, sc, c, rfl, _⟩ := h
    rfl
  · obtain ⟨l, st, p, sc, c, rfl, hS, hl, hI, hc, k1, k2⟩ := h
    have hu := hu_of hr
    have hlt := (List.getElem?_eq_some_iff.mp hc).1
    have hline : (txt l).length ≤ sizeLine := by rw [txt_len]; exact Nat.le_trans hl big_line
    refine ⟨_, pss_cons (ps_set (i := 2) scBe.nd rfl (Or.inl rfl) (pe_dget hu (pv 1) pe_str (fun _ _ => rfl)))
      (pss_cons (ps_if (pt_cmpR op_eq (pe_dget hu (pv 1) pe_str (fun _ _ => rfl)) pe_int (nomark _)) (pss_one (ps_dput hu (pv 1) pe_str (pv 2) rfl)) pss_nil)
      (pss_cons (ps_if (pt_cmpR op_eq (pe_ix ix_str (pv 0) (pv 2) (fun _ _ => rfl)) pe_str (nomark _))
        (pss_cons (ps_asg (pe_tup (pa_cons (pe_op op_add (pe_dget hu (pv 1) pe_str (fun _ _ => rfl)) pe_int) (pa_cons (pe_op op_add (pv 2) pe_int) (pa_cons pe_str pa_nil))))
            (pg_tup rfl (pgs_cons (pg_sub (pv 1) pe_str (set_dict hu)) (pgs_cons (pg_sub (pv 1) pe_str (set_dict hu)) (pgs_cons (pg_sub (pv 1) pe_str (set_dict hu)) pgs_nil)))))
          (pss_one (ps_ret (pe_cmpR op_lt (pe_dget hu (pv 1) pe_str (fun _ _ => rfl)) pe_int (nomark _))))) pss_nil)
      (pss_cons (ps_set (i := 3) scBe.nd rfl (Or.inl rfl) (pe_ifExp (pt_cmpR op_eq (pe_ix ix_str (pv 0) (pv 2) (fun _ _ => rfl)) pe_str (nomark _))
          (pe_op op_add (pe_bm PySem.F.plainAttrs_str PySem.F.slot_str_find PySem.F.type_str_find mt_find3 (pv 0) (pa_cons pe_str (pa_cons (pe_op op_add (pv 2) pe_int) pa_nil))) pe_int)
          (pe_call GW hr (by rfl) AW.m AW.F.kp AW.b .nil pass0 (pa_cons (pv 0) (pa_cons (pv 2) pa_nil)))))
      (pss_cons (ps_if (pt_cmpR op_gt (pv 3) (pv 2) (nomark _)) (pss_one (ps_expr (pe_call GE hr (by rfl) AE.m AE.F.kp AE.b .nil pass0 (pa_cons (pv 0) (pa_cons (pv 1) (pa_cons (pv 3) pa_nil)))))) pss_nil)
      (pss_one (ps_ret (pe_cmpR op_gt (pv 3) (pv 2) (nomark _)))))))), ?_⟩
    refine ⟨_, rfl, st, _, rfl, hS.gAt, ?_⟩
    refine ⟨_, rfl, st, _, rfl, hS.gDepth, rfl, _, rfl, ?_⟩
    rw [int_eq]
    have hq := quoteEnd_le l sc.pos
    have hw := wordEnd_le l sc.pos (Nat.le_of_lt hlt)
    have lo : Str.ofString "(" = ⟨#[40]⟩ := by decide +kernel
    obtain ⟨s1, e1⟩ : ∃ s1, s1 = (if sc.depth = 1 then { sc with begin := sc.pos } else sc) := ⟨_, rfl⟩
    have eb : begun l sc c = (if c = 40 then (if sc.depth + 1 < 14 then some { s1 with depth := sc.depth + 1, pos := sc.pos + 1, ready := 1 } else none)
        else if (if c = 39 then quoteEnd l sc.pos else wordEnd l sc.pos) > sc.pos then some (ended l s1 (if c = 39 then quoteEnd l sc.pos else wordEnd l sc.pos)) else none) := by
      unfold begun
      dsimp only
      rw [e1]
    have hp1 : s1.pos = sc.pos := by rw [e1]; split <;> rfl
    have hd1 : s1.depth = sc.depth := by rw [e1]; split <;> rfl
    have hf1 : s1.found = sc.found := by rw [e1]; split <;> rfl
    have hb1 : s1.begin ≤ sc.pos := by rw [e1]; split; exact Nat.le_refl _; exact hI.b
    rw [eb] at k1 k2
    refine ite2 (fun h1 => ?ga) (fun h1 => ?gb)
    case' ga => (
      refine ⟨_, rfl, _, rfl, st, _, rfl, hS.pBegin sc.pos, ?_⟩
      have S1 : StAt (hBegin H st p sc sc.pos) st p s1 := by rw [e1, if_pos (of_decide_eq_true h1)]; exact hS.put _ rfl
      have b1 : But st p H (hBegin H st p sc sc.pos) := But.at)
    case' gb => (
      have S1 : StAt H st p s1 := by rw [e1, if_neg (fun z => h1 (decide_eq_true z))]; exact hS
      have b1 : But st p H H := But.refl _ _ _)
    all_goals (
      refine ⟨_, rfl, _, rfl, _, _, c, rfl, rfl, hline, atI_nat hc, rfl, _, rfl, ?_⟩
      rw [lo, sign_eq]
      refine ite2 (fun h2 => ?_) (fun h2 => ?_)
      · have h2' := of_decide_eq_true h2
        rw [if_pos h2'] at k1 k2
        refine ⟨_, rfl, st, _, rfl, S1.gDepth, _, _, rfl, rfl, _, rfl, _, _, rfl, rfl, (by show 3 ≤ sizeLine; decide), fun t ht => ?_⟩
        have S2 := S1.same (same_upd (o := .tup [.int (s1.depth + 1), .int ((sc.pos : Int) + 1), .str "first"]) ht)
        have S3 := S2.put { s1 with depth := s1.depth + 1 } rfl
        have S4 := S3.put { s1 with depth := s1.depth + 1, pos := sc.pos + 1 } rfl
        have S5 := S4.put { s1 with depth := s1.depth + 1, pos := sc.pos + 1, ready := 1 } rfl
        refine ⟨t, _, rfl, SqT.of upd_same, rfl, _, _, rfl, _, rfl, st, _, rfl, S2.pDepth (s1.depth + 1), _, _, rfl, _, rfl, st, _, rfl, S3.pAt (sc.pos + 1), _, _, rfl, _, rfl, st, _, rfl, S4.pReady 1, rfl, ?_⟩
        refine ⟨_, rfl, st, _, rfl, S5.gDepth, _, _, rfl, rfl, ?_⟩
        rw [← hd1] at k1 k2
        by_cases h3 : s1.depth + 1 < 14
        · rw [if_pos h3] at k1
          have e3 : (fun i j : Int => V.bl (decide (i < j))) (s1.depth + 1) 14 = V.bl true := by
            dsimp only
            rw [decide_eq_true h3]
          rw [e3]
          exact k1 _ rfl _ S5 ((((b1.trans (But.new ht)).trans But.at).trans But.at).trans But.at)
        · rw [if_neg h3] at k2
          have e3 : (fun i j : Int => V.bl (decide (i < j))) (s1.depth + 1) 14 = V.bl false := by
            dsimp only
            rw [decide_eq_false h3]
          rw [e3]
          exact k2 rfl _ ((((b1.trans (But.new ht)).trans But.at).trans But.at).trans But.at)
      · have h2' : ¬ c = 40 := fun z => h2 (decide_eq_true z)
        rw [if_neg h2'] at k1 k2
        refine ⟨_, rfl, _, rfl, _, _, c, rfl, rfl, hline, atI_nat hc, rfl, _, rfl, ?_⟩
        rw [lit_quote, sign_eq]
        refine ite2 (fun h4 => ?_) (fun h4 => ?_)
        · have h4' := of_decide_eq_true h4
          rw [if_pos h4'] at k1 k2
          refine ⟨_, rfl, rfl, _, rfl, _, _, rfl, rfl, txt l, ⟨#[39]⟩, (sc.pos : Int) + 1, rfl, rfl, _, _, rfl, rfl, ?_⟩
          rw [show (fun i j : Int => V.int (i + j)) (Txt.find3 (txt l) ⟨#[39]⟩ ((sc.pos : Int) + 1)) 1 = V.int (quoteEnd l sc.pos : Nat) by rw [← quote_is l sc.pos hlt]]
          generalize quoteEnd l sc.pos = x at k1 k2 hq
          have hx := hq
          refine ⟨_, rfl, _, rfl, _, _, rfl, rfl, _, rfl, ?_⟩
          refine ite2 (fun h5 => ?_) (fun h5 => ?_)
          · have h5' : x > sc.pos := by have := of_decide_eq_true h5; omega
            rw [if_pos h5'] at k1
            refine ⟨_, rfl, _, rfl, _, rfl, l, st, p, s1, x, rfl, S1, hl, hx, by omega, ?_, fun H2 S2 b2 => ?_⟩
            · rw [hf1]
              exact Nat.le_trans (Nat.le_trans hI.f hI.n) hl
            · refine ⟨_, rfl, _, rfl, _, _, rfl, rfl, ?_⟩
              show Q (V.bl (decide ((sc.pos : Int) < (x : Int)))) _
              rw [h5]
              exact k1 _ rfl _ S2 (b1.trans b2)
          · have h5' : ¬ x > sc.pos := fun z => h5 (decide_eq_true (by omega))
            rw [if_neg h5'] at k2
            refine ⟨_, rfl, _, rfl, _, _, rfl, rfl, ?_⟩
            show Q (V.bl (decide ((sc.pos : Int) < (x : Int)))) _
            rw [show decide ((sc.pos : Int) < (x : Int)) = false from Bool.eq_false_iff.mpr h5]
            exact k2 rfl _ b1
        · have h4' : ¬ c = 39 := fun z => h4 (decide_eq_true z)
          rw [if_neg h4'] at k1 k2
          refine ⟨_, rfl, _, rfl, l, sc.pos, rfl, Nat.le_of_lt hlt, hl, ?_⟩
          generalize wordEnd l sc.pos = x at k1 k2 hw
          have hx := hw
          refine ⟨_, rfl, _, rfl, _, _, rfl, rfl, _, rfl, ?_⟩
          refine ite2 (fun h5 => ?_) (fun h5 => ?_)
          · have h5' : x > sc.pos := by have := of_decide_eq_true h5; omega
            rw [if_pos h5'] at k1
            refine ⟨_, rfl, _, rfl, _, rfl, l, st, p, s1, x, rfl, S1, hl, hx, by omega, ?_, fun H2 S2 b2 => ?_⟩
            · rw [hf1]
              exact Nat.le_trans (Nat.le_trans hI.f hI.n) hl
            · refine ⟨_, rfl, _, rfl, _, _, rfl, rfl, ?_⟩
              show Q (V.bl (decide ((sc.pos : Int) < (x : Int)))) _
              rw [h5]
              exact k1 _ rfl _ S2 (b1.trans b2)
          · have h5' : ¬ x > sc.pos := fun z => h5 (decide_eq_true (by omega))
            rw [if_neg h5'] at k2
            refine ⟨_, rfl, _, rfl, _, _, rfl, rfl, ?_⟩
            show Q (V.bl (decide ((sc.pos : Int) < (x : Int)))) _
            rw [show decide ((sc.pos : Int) < (x : Int)) = false from Bool.eq_false_iff.mpr h5]
            exact k2 rfl _ b1)
/-! ### _law_scanned -/
theorem ended_ready (l : Tx) (s : Sc) (e : Nat) : (ended l s e).ready = 2 := rfl
theorem step_ready {l : Tx} {s s' : Sc} {c : Nat} (h : step l s c = some s') : s'.ready ≤ 4 := by
  unfold step at h
  by_cases h1 : c = 41 ∧ (s.ready = 1 ∨ s.ready = 2)
  · rw [if_pos h1] at h
    injection h with h
    subst h
    unfold closed
    dsimp only
    split
    · exact Nat.le_refl _
    · rw [ended_ready]; decide
  · rw [if_neg h1] at h
    by_cases h2 : c = 32 ∧ s.ready = 2
    · rw [if_pos h2] at h; injection h with h; subst h; exact (by decide : 3 ≤ 4)
    · rw [if_neg h2] at h
      by_cases h3 : (s.ready = 2 ∨ s.ready = 4) ∨ (s.ready = 0 ∧ c ≠ 40)
      · rw [if_pos h3] at h; cases h
      · rw [if_neg h3] at h
        unfold begun at h
        dsimp only at h
        by_cases h4 : c = 40
        · rw [if_pos h4] at h
          by_cases h5 : s.depth + 1 < 14
          · rw [if_pos h5] at h; injection h with h; subst h; exact (by decide : 1 ≤ 4)
          · rw [if_neg h5] at h; cases h
        · rw [if_neg h4] at h
          generalize (if c = 39 then quoteEnd l s.pos else wordEnd l s.pos) = e at h
          by_cases h6 : e > s.pos
          · rw [if_pos h6] at h; injection h with h; subst h; rw [ended_ready]; decide
          · rw [if_neg h6] at h; cases h
theorem merge5 (a b c d e : V) : mergeK [] (kst a b c d e) = kst a b c d e := by simp [kst, mergeK, putK, k_at_depth, k_at_ready, k_at_begin, k_at_found, k_depth_at, k_depth_ready, k_depth_begin, k_depth_found, k_ready_at, k_ready_depth, k_ready_begin, k_ready_found, k_begin_at, k_begin_depth, k_begin_ready, k_begin_found, k_found_at, k_found_depth, k_found_ready, k_found_begin]
theorem rd_eq : ∀ (r q : Nat), r ≤ 4 → q ≤ 4 → decide ((V.str (rd r) : V) = V.str (rd q)) = decide (r = q) := by
  have key : ∀ r, r ≤ 4 → ∀ q, q ≤ 4 → decide ((V.str (rd r) : V) = V.str (rd q)) = decide (r = q) := by decide +kernel
  exact fun r q h1 h2 => key r h1 q h2
theorem rd_in1 : ∀ r, r ≤ 4 → inV (V.str (rd r)) [V.str (rd 1), V.str (rd 2)] = decide (r = 1 ∨ r = 2) := by decide +kernel
theorem rd_in2 : ∀ r, r ≤ 4 → inV (V.str (rd r)) [V.str (rd 2), V.str (rd 4)] = decide (r = 2 ∨ r = 4) := by decide +kernel
def mu (st : Addr) (n : Nat) (H : Hp) : Nat := match H st with
  | some (.dK ((_, .int j) :: _)) => n - j.toNat
  | _ => 0
theorem StAt.mu {H : Hp} {st p : Addr} {s : Sc} (h : StAt H st p s) (n : Nat) : mu st n H = n - s.pos := by
  unfold K21.mu
  rw [h.d]
  show n - (s.pos : Int).toNat = n - s.pos
  omega
theorem same_but {H H1 H2 : Hp} {st p : Addr} (s : Same H H1) (h1 : H st = none) (h2 : H p = none) (b : But st p H1 H2) : Same H H2 := fun c o e => b c o (ne_of_none e h1) (ne_of_none e h2) (s c o e)
def spScanned : Sp := fun vs H Q _ => ∃ l : Tx, vs = [tv l] ∧ l.length ≤ big ∧ (scan l sc0 = none → ∀ H', Same H H' → Q .non H') ∧
  ∀ ps, scan l sc0 = some ps → ∀ H' q, Same H H' → H q = none → H' q = some (.lst (ps.map tv)) → Q (.ref q) H'
theorem scSn : FnScope ["_law_line", "_law_state", "_law_sign", "_law_ready"] ["_law_line"] (defScope sScanned) := ⟨rfl, rfl, rfl, by decide +kernel, rfl, by decide +kernel, by decide +kernel⟩
theorem ok_scanned {f fE fW fB fC : Addr} {fd dE dW dB dC : FuncData} (F : Fun K "_law_scanned" "_law_scanned" sScanned f fd) (zLen : mg "len" = none) (AE : At K mg "_law_ended" sEnded ["_law_line", "_law_state", "_law_end"] fE dE) (AW : At K mg "_law_word_end" sWordEnd ["_law_line", "_law_at"] fW dW)
    (AB : At K mg "_law_begun" sBegun ["_law_line", "_law_state"] fB dB) (AC : At K mg "_law_closed" sClosed ["_law_line", "_law_state"] fC dC) : FnOk P w K mg base CX0 3 f fd ["_law_line"] spScanned := by
  have GB : FnOk P w K mg base CX0 2 fB dB ["_law_line", "_law_state"] spBegun := ok_begun AB.F zLen AE AW
  have GC : FnOk P w K mg base CX0 2 fC dC ["_law_line", "_law_state"] spClosed := ok_closed AC.F AE
  refine F.ok scSn (fun vs H Q E h => ?_) (fun cdv A outer_ s H vs Q E hr h => ?_)
  · obtain ⟨l, rfl, _⟩ := h
    rfl
  · obtain ⟨l, rfl, hl, k1, k2⟩ := h
    have hu := hu_of hr
    have hline : (txt l).length ≤ sizeLine := by rw [txt_len]; exact Nat.le_trans hl big_line
    refine ⟨_, pss_cons (ps_set (i := 1) scSn.nd rfl (Or.inl rfl) (pe_disp (pps_cons pe_str pe_int (pps_cons pe_str pe_int (pps_cons pe_str pe_str (pps_cons pe_str pe_int (pps_cons pe_str (pe_lst pa_nil) pps_nil))))) (by rfl) (by rfl) (fun z => by cases z) (by decide)))
      (pss_cons (ps_while PassesOwn.never (pt_cmpR op_lt (pe_dget hu (pv 1) pe_str (fun _ _ => rfl)) (pe_callB call_len_str (by rfl) zLen PySem.boot_len (pa_cons (pv 0) pa_nil)) (nomark _))
        (pss_cons (ps_par (i := 2) (j := 3) (by rfl) scSn.nd rfl rfl (by decide) rfl rfl (pa_cons (pe_ix ix_str (pv 0) (pe_dget hu (pv 1) pe_str (fun _ _ => rfl)) (fun _ _ => rfl)) (pa_cons (pe_dget hu (pv 1) pe_str (fun _ _ => rfl)) pa_nil)) (by rfl))
        (pss_one (ps_if (PW.pt (pw_and (pt_cmpR op_eq (pv 2) pe_str (nomark _)) (pw_and1 (pt_cmpR op_in_seq (pv 3) (pe_tup (pa_cons pe_str (pa_cons pe_str pa_nil))) (by rfl)))))
          (pss_one (ps_expr (pe_call GC hr (by rfl) AC.m AC.F.kp AC.b .nil pass0 (pa_cons (pv 0) (pa_cons (pv 1) pa_nil)))))
          (pss_one (ps_if (PW.pt (pw_and (pt_cmpR op_eq (pv 2) pe_str (nomark _)) (pw_and1 (pt_cmpR op_eq (pv 3) pe_str (nomark _)))))
            (pss_one (ps_asg (pe_tup (pa_cons (pe_op op_add (pe_dget hu (pv 1) pe_str (fun _ _ => rfl)) pe_int) (pa_cons pe_str pa_nil))) (pg_tup rfl (pgs_cons (pg_sub (pv 1) pe_str (set_dict hu)) (pgs_cons (pg_sub (pv 1) pe_str (set_dict hu)) pgs_nil)))))
            (pss_one (ps_if (PW.pt (pw_or (pt_cmpR op_in_seq (pv 3) (pe_tup (pa_cons pe_str (pa_cons pe_str pa_nil))) (by rfl)) (pw_or (PW.pt (pw_and (pt_cmpR op_eq (pv 3) pe_str (nomark _)) (pw_and1 (pt_cmpR op_ne (pv 2) pe_str (nomark _))))) (pw_or1 (pt_not (pt_val (pe_call GB hr (by rfl) AB.m AB.F.kp AB.b .nil pass0 (pa_cons (pv 0) (pa_cons (pv 1) pa_nil)))))))))
              (pss_one (ps_ret pe_non)) pss_nil))))))))
      (pss_one (ps_ret (pe_ifExp (pt_cmpR op_eq (pe_dget hu (pv 1) pe_str (fun _ _ => rfl)) pe_str (nomark _)) (pe_dget hu (pv 1) pe_str (fun _ _ => rfl)) pe_non)))), ?_⟩
    intro st hst
    refine ⟨Nat.zero_le _, fun p hp => ?_⟩
    have nsp : st ≠ p := fun z => by rw [← z, upd_same] at hp; cases hp
    have hp0 : H p = none := by rw [upd_ne (Ne.symm nsp)] at hp; exact hp
    refine ⟨by rw [upd_ne nsp, upd_same], kst (.int 0) (.int 0) (.str (rd 0)) (.int 0) (.ref p), rfl, by show 5 ≤ 15; decide, ?_⟩
    rw [merge5]
    have S0 : StAt (upd (upd (upd H st (.dK [])) p (.lst [])) st (.dK (kst (.int 0) (.int 0) (.str (rd 0)) (.int 0) (.ref p)))) st p sc0 := ⟨upd_same, by rw [upd_ne (Ne.symm nsp), upd_same]; rfl⟩
    have sm0 : Same H (upd (upd (upd H st (.dK [])) p (.lst [])) st (.dK (kst (.int 0) (.int 0) (.str (rd 0)) (.int 0) (.ref p)))) := fun b o e => by
      rw [upd_ne (ne_of_none e hst), upd_ne (ne_of_none e hp0), upd_ne (ne_of_none e hst)]
      exact e
    have lit_open1 : Str.ofString "(" = ⟨#[40]⟩ := by decide +kernel
    have lit_close1 : Str.ofString ")" = ⟨#[41]⟩ := by decide +kernel
    have lit_space1 : Str.ofString " " = ⟨#[32]⟩ := by decide +kernel
    refine while_by (fun σ H' => ∃ (s : Sc) (x y : Option V), σ = [some (tv l), some (.ref st), x, y] ∧ StAt H' st p s ∧ InvS l s ∧ s.ready ≤ 4 ∧ scan l sc0 = scan l s ∧ Same H H')
      (fun _ H' => mu st l.length H') ⟨sc0, none, none, rfl, S0, ⟨Nat.le_refl _, Nat.zero_le _, Nat.le_refl _⟩, Nat.zero_le _, rfl, sm0⟩ ?_ ?_
    · rintro σ H' ⟨s, x, y, rfl, S, I, hR, hsc, sm⟩
      refine ⟨_, rfl, st, _, rfl, S.gAt, _, rfl, txt l, rfl, hline, _, _, rfl, rfl, _, rfl, ?_⟩
      rw [txt_len]
      refine ite2 (fun h1 => ?_) (fun h1 => ?_)
      · have hlt : s.pos < l.length := by have := of_decide_eq_true h1; omega
        obtain ⟨c, hc⟩ : ∃ c, l[s.pos]? = some c := ⟨_, List.getElem?_eq_getElem hlt⟩
        have yes : ∀ s', step l s c = some s' → ∀ (H2 : Hp) (x y : V), StAt H2 st p s' → Same H H2 →
            (∃ (s : Sc) (x' y' : Option V), [some (tv l), some (.ref st), some x, some y] = [some (tv l), some (.ref st), x', y'] ∧ StAt H2 st p s ∧ InvS l s ∧ s.ready ≤ 4 ∧ scan l sc0 = scan l s ∧ Same H H2) ∧ mu st l.length H2 < mu st l.length H' := fun s' e H2 x y S2 sm2 => by
          refine ⟨⟨s', _, _, rfl, S2, step_inv I hc e, step_ready e, by rw [hsc, scan_some hc e], sm2⟩, ?_⟩
          rw [S2.mu, S.mu]
          have := step_pos e
          omega
        have no : step l s c = none → ∀ H2, Same H H2 → Q .non H2 := fun e H2 sm2 => k1 (by rw [hsc, scan_none hc e]) H2 sm2
        refine ⟨_, rfl, _, rfl, st, _, rfl, S.gAt, _, _, c, rfl, rfl, hline, atI_nat hc, _, rfl, st, _, rfl, S.gReady, _, _, rfl, ?_⟩
        refine ⟨_, rfl, rfl, _, rfl, ?_⟩
        rw [lit_close1, sign_eq]
        refine ite2 (fun h2 => ?_) (fun h2 => ?_)
        · have h2' := of_decide_eq_true h2
          refine ⟨_, rfl, (by show 2 ≤ sizeLine; decide), fun t ht => ⟨t, _, rfl, .inr (SqT.of upd_same), rfl, rfl, _, rfl, ?_⟩⟩
          rw [if_neg Bool.false_ne_true]
          have S' := S.same (same_upd (o := .tup [V.str (rd 1), V.str (rd 2)]) ht)
          have sm' := sm.trans (same_upd (o := .tup [V.str (rd 1), V.str (rd 2)]) ht)
          rw [show inV (V.str (rd s.ready)) [V.str (Str.ofString "first"), V.str (Str.ofString "behind")] = decide (s.ready = 1 ∨ s.ready = 2) from rd_in1 s.ready hR]
          refine ite2 (fun h3 => ?_) (fun h3 => ?_)
          · have h3' := of_decide_eq_true h3
            refine ⟨_, rfl, _, rfl, l, st, p, s, rfl, S', hl, I, hlt, fun H2 S2 b2 => ?_⟩
            exact yes _ (by unfold step; rw [if_pos ⟨h2', h3'⟩]) H2 _ _ S2 (same_but sm' hst hp0 b2)
          · have h3' : ¬ (s.ready = 1 ∨ s.ready = 2) := fun z => h3 (decide_eq_true z)
            have hs : step l s c = if (s.ready = 2 ∨ s.ready = 4) ∨ (s.ready = 0 ∧ c ≠ 40) then none else begun l s c := by
              unfold step
              rw [if_neg (fun z => h3' z.2), if_neg (fun z => h3' (.inr z.2))]
            refine ⟨_, rfl, rfl, _, rfl, ?_⟩
            rw [lit_space1, sign_eq, decide_eq_false (show ¬ c = 32 by omega)]
            refine ⟨_, rfl, (by show 2 ≤ sizeLine; decide), fun t3 ht3 => ⟨t3, _, rfl, .inr (SqT.of upd_same), rfl, rfl, _, rfl, ?_⟩⟩
            rw [if_neg Bool.false_ne_true]
            have S3 := S'.same (same_upd (o := .tup [V.str (rd 2), V.str (rd 4)]) ht3)
            have sm3 := sm'.trans (same_upd (o := .tup [V.str (rd 2), V.str (rd 4)]) ht3)
            rw [show inV (V.str (rd s.ready)) [V.str (Str.ofString "behind"), V.str (Str.ofString "end")] = decide (s.ready = 2 ∨ s.ready = 4) from rd_in2 s.ready hR]
            refine ite2 (fun h6 => ?_) (fun h6 => ?_)
            · exact no (by rw [hs, if_pos (.inl (of_decide_eq_true h6))]) _ sm3
            · have h6' : ¬ (s.ready = 2 ∨ s.ready = 4) := fun z => h6 (decide_eq_true z)
              refine ⟨_, rfl, rfl, _, rfl, ?_⟩
              rw [show decide ((V.str (rd s.ready) : V) = V.str (Str.ofString "start")) = decide (s.ready = 0) from rd_eq s.ready 0 hR (by decide)]
              refine ite2 (fun h7 => ?_) (fun h7 => ?_)
              · have h7' := of_decide_eq_true h7
                refine ⟨_, rfl, rfl, _, rfl, ?_⟩
                rw [lit_open1, sign_eq]
                by_cases h8 : c = 40
                · rw [decide_eq_true h8]
                  have hno : ¬ ((s.ready = 2 ∨ s.ready = 4) ∨ (s.ready = 0 ∧ c ≠ 40)) := fun z => z.elim h6' fun w => w.2 h8
                  refine ⟨_, rfl, _, rfl, l, st, p, s, c, rfl, S3, hl, I, hc, fun s' e H4 S4 b4 => ?_, fun e H4 b4 => ?_⟩
                  · refine ⟨_, rfl, ?_⟩
                    exact yes s' (by rw [hs, if_neg hno]; exact e) H4 _ _ S4 (same_but sm3 hst hp0 b4)
                  · refine ⟨_, rfl, ?_⟩
                    exact no (by rw [hs, if_neg hno]; exact e) H4 (same_but sm3 hst hp0 b4)
                · rw [decide_eq_false h8]
                  exact no (by rw [hs, if_pos (.inr ⟨h7', h8⟩)]) _ sm3
              · have h7' : ¬ s.ready = 0 := fun z => h7 (decide_eq_true z)
                have hno : ¬ ((s.ready = 2 ∨ s.ready = 4) ∨ (s.ready = 0 ∧ c ≠ 40)) := fun z => z.elim h6' fun w => h7' w.1
                refine ⟨_, rfl, _, rfl, l, st, p, s, c, rfl, S3, hl, I, hc, fun s' e H4 S4 b4 => ?_, fun e H4 b4 => ?_⟩
                · refine ⟨_, rfl, ?_⟩
                  exact yes s' (by rw [hs, if_neg hno]; exact e) H4 _ _ S4 (same_but sm3 hst hp0 b4)
                · refine ⟨_, rfl, ?_⟩
                  exact no (by rw [hs, if_neg hno]; exact e) H4 (same_but sm3 hst hp0 b4)
        · have h2' : ¬ c = 41 := fun z => h2 (decide_eq_true z)
          refine ⟨_, rfl, rfl, _, rfl, ?_⟩
          rw [lit_space1, sign_eq]
          have S' := S
          have sm' := sm
          refine ite2 (fun h3 => ?_) (fun h3 => ?_)
          · have h3' := of_decide_eq_true h3
            refine ⟨_, rfl, rfl, _, rfl, ?_⟩
            rw [show decide ((V.str (rd s.ready) : V) = V.str (Str.ofString "behind")) = decide (s.ready = 2) from rd_eq s.ready 2 hR (by decide)]
            refine ite2 (fun h4 => ?_) (fun h4 => ?_)
            · have h4' := of_decide_eq_true h4
              refine ⟨_, rfl, st, _, rfl, S.gAt, _, _, rfl, rfl, (by show 2 ≤ sizeLine; decide), fun t ht => ?_⟩
              have S2 := S.same (same_upd (o := .tup [.int ((s.pos : Int) + 1), V.str (rd 3)]) ht)
              have sm2 := sm.trans (same_upd (o := .tup [.int ((s.pos : Int) + 1), V.str (rd 3)]) ht)
              have S3 := S2.put { s with pos := s.pos + 1 } rfl
              have S4 := S3.put { s with pos := s.pos + 1, ready := 3 } rfl
              refine ⟨t, _, rfl, SqT.of upd_same, rfl, _, _, rfl, _, rfl, st, _, rfl, S2.pAt (s.pos + 1), _, _, rfl, _, rfl, st, _, rfl, S3.pReady 3, rfl, ?_⟩
              exact yes _ (by unfold step; rw [if_neg (fun z => h2' z.1), if_pos ⟨h3', h4'⟩]) _ _ _ S4 (same_but sm2 hst hp0 (But.at.trans But.at))
            · have h4' : ¬ s.ready = 2 := fun z => h4 (decide_eq_true z)
              have hs : step l s c = if (s.ready = 2 ∨ s.ready = 4) ∨ (s.ready = 0 ∧ c ≠ 40) then none else begun l s c := by
                unfold step
                rw [if_neg (fun z => h2' z.1), if_neg (fun z => h4' z.2)]
              refine ⟨_, rfl, (by show 2 ≤ sizeLine; decide), fun t3 ht3 => ⟨t3, _, rfl, .inr (SqT.of upd_same), rfl, rfl, _, rfl, ?_⟩⟩
              rw [if_neg Bool.false_ne_true]
              have S3 := S'.same (same_upd (o := .tup [V.str (rd 2), V.str (rd 4)]) ht3)
              have sm3 := sm'.trans (same_upd (o := .tup [V.str (rd 2), V.str (rd 4)]) ht3)
              rw [show inV (V.str (rd s.ready)) [V.str (Str.ofString "behind"), V.str (Str.ofString "end")] = decide (s.ready = 2 ∨ s.ready = 4) from rd_in2 s.ready hR]
              refine ite2 (fun h6 => ?_) (fun h6 => ?_)
              · exact no (by rw [hs, if_pos (.inl (of_decide_eq_true h6))]) _ sm3
              · have h6' : ¬ (s.ready = 2 ∨ s.ready = 4) := fun z => h6 (decide_eq_true z)
                refine ⟨_, rfl, rfl, _, rfl, ?_⟩
                rw [show decide ((V.str (rd s.ready) : V) = V.str (Str.ofString "start")) = decide (s.ready = 0) from rd_eq s.ready 0 hR (by decide)]
                refine ite2 (fun h7 => ?_) (fun h7 => ?_)
                · have h7' := of_decide_eq_true h7
                  refine ⟨_, rfl, rfl, _, rfl, ?_⟩
                  rw [lit_open1, sign_eq]
                  by_cases h8 : c = 40
                  · rw [decide_eq_true h8]
                    have hno : ¬ ((s.ready = 2 ∨ s.ready = 4) ∨ (s.ready = 0 ∧ c ≠ 40)) := fun z => z.elim h6' fun w => w.2 h8
                    refine ⟨_, rfl, _, rfl, l, st, p, s, c, rfl, S3, hl, I, hc, fun s' e H4 S4 b4 => ?_, fun e H4 b4 => ?_⟩
                    · refine ⟨_, rfl, ?_⟩
                      exact yes s' (by rw [hs, if_neg hno]; exact e) H4 _ _ S4 (same_but sm3 hst hp0 b4)
                    · refine ⟨_, rfl, ?_⟩
                      exact no (by rw [hs, if_neg hno]; exact e) H4 (same_but sm3 hst hp0 b4)
                  · rw [decide_eq_false h8]
                    exact no (by rw [hs, if_pos (.inr ⟨h7', h8⟩)]) _ sm3
                · have h7' : ¬ s.ready = 0 := fun z => h7 (decide_eq_true z)
                  have hno : ¬ ((s.ready = 2 ∨ s.ready = 4) ∨ (s.ready = 0 ∧ c ≠ 40)) := fun z => z.elim h6' fun w => h7' w.1
                  refine ⟨_, rfl, _, rfl, l, st, p, s, c, rfl, S3, hl, I, hc, fun s' e H4 S4 b4 => ?_, fun e H4 b4 => ?_⟩
                  · refine ⟨_, rfl, ?_⟩
                    exact yes s' (by rw [hs, if_neg hno]; exact e) H4 _ _ S4 (same_but sm3 hst hp0 b4)
                  · refine ⟨_, rfl, ?_⟩
                    exact no (by rw [hs, if_neg hno]; exact e) H4 (same_but sm3 hst hp0 b4)
          · have h3' : ¬ c = 32 := fun z => h3 (decide_eq_true z)
            have hs : step l s c = if (s.ready = 2 ∨ s.ready = 4) ∨ (s.ready = 0 ∧ c ≠ 40) then none else begun l s c := by
              unfold step
              rw [if_neg (fun z => h2' z.1), if_neg (fun z => h3' z.1)]
            refine ⟨_, rfl, (by show 2 ≤ sizeLine; decide), fun t3 ht3 => ⟨t3, _, rfl, .inr (SqT.of upd_same), rfl, rfl, _, rfl, ?_⟩⟩
            rw [if_neg Bool.false_ne_true]
            have S3 := S'.same (same_upd (o := .tup [V.str (rd 2), V.str (rd 4)]) ht3)
            have sm3 := sm'.trans (same_upd (o := .tup [V.str (rd 2), V.str (rd 4)]) ht3)
            rw [show inV (V.str (rd s.ready)) [V.str (Str.ofString "behind"), V.str (Str.ofString "end")] = decide (s.ready = 2 ∨ s.ready = 4) from rd_in2 s.ready hR]
            refine ite2 (fun h6 => ?_) (fun h6 => ?_)
            · exact no (by rw [hs, if_pos (.inl (of_decide_eq_true h6))]) _ sm3
            · have h6' : ¬ (s.ready = 2 ∨ s.ready = 4) := fun z => h6 (decide_eq_true z)
              refine ⟨_, rfl, rfl, _, rfl, ?_⟩
              rw [show decide ((V.str (rd s.ready) : V) = V.str (Str.ofString "start")) = decide (s.ready = 0) from rd_eq s.ready 0 hR (by decide)]
              refine ite2 (fun h7 => ?_) (fun h7 => ?_)
              · have h7' := of_decide_eq_true h7
                refine ⟨_, rfl, rfl, _, rfl, ?_⟩
                rw [lit_open1, sign_eq]
                by_cases h8 : c = 40
                · rw [decide_eq_true h8]
                  have hno : ¬ ((s.ready = 2 ∨ s.ready = 4) ∨ (s.ready = 0 ∧ c ≠ 40)) := fun z => z.elim h6' fun w => w.2 h8
                  refine ⟨_, rfl, _, rfl, l, st, p, s, c, rfl, S3, hl, I, hc, fun s' e H4 S4 b4 => ?_, fun e H4 b4 => ?_⟩
                  · refine ⟨_, rfl, ?_⟩
                    exact yes s' (by rw [hs, if_neg hno]; exact e) H4 _ _ S4 (same_but sm3 hst hp0 b4)
                  · refine ⟨_, rfl, ?_⟩
                    exact no (by rw [hs, if_neg hno]; exact e) H4 (same_but sm3 hst hp0 b4)
                · rw [decide_eq_false h8]
                  exact no (by rw [hs, if_pos (.inr ⟨h7', h8⟩)]) _ sm3
              · have h7' : ¬ s.ready = 0 := fun z => h7 (decide_eq_true z)
                have hno : ¬ ((s.ready = 2 ∨ s.ready = 4) ∨ (s.ready = 0 ∧ c ≠ 40)) := fun z => z.elim h6' fun w => h7' w.1
                refine ⟨_, rfl, _, rfl, l, st, p, s, c, rfl, S3, hl, I, hc, fun s' e H4 S4 b4 => ?_, fun e H4 b4 => ?_⟩
                · refine ⟨_, rfl, ?_⟩
                  exact yes s' (by rw [hs, if_neg hno]; exact e) H4 _ _ S4 (same_but sm3 hst hp0 b4)
                · refine ⟨_, rfl, ?_⟩
                  exact no (by rw [hs, if_neg hno]; exact e) H4 (same_but sm3 hst hp0 b4)
      · have hlt : ¬ s.pos < l.length := fun z => h1 (decide_eq_true (by omega))
        rw [hsc, scan_end hlt] at k1 k2
        refine ⟨_, rfl, st, _, rfl, S.gReady, rfl, _, rfl, ?_⟩
        rw [show decide ((V.str (rd s.ready) : V) = V.str (Str.ofString "end")) = decide (s.ready = 4) from rd_eq s.ready 4 hR (by decide)]
        refine ite2 (fun h2 => ?_) (fun h2 => ?_)
        · have h2' := of_decide_eq_true h2
          rw [if_pos h2'] at k2
          exact ⟨_, rfl, st, _, rfl, S.gFound, k2 _ rfl H' p sm hp0 S.f⟩
        · have h2' : ¬ s.ready = 4 := fun z => h2 (decide_eq_true z)
          rw [if_neg h2'] at k1
          exact k1 rfl H' sm
    · rintro σ H' Q1 Q2 hm ⟨x, h1, a, v, e1, g, y, h2, z, h3, h4, i1, j1, e2, e3, b, e4, q⟩
      exact ⟨x, h1, a, v, e1, g, y, h2, z, h3, h4, i1, j1, e2, e3, b, e4, hm _ _ q⟩
end
end K21
/-! isinstance of a caught error that has its own dict -/
namespace PySem.W
open PySem PySem.Spec PySem.Calls PyProof.Rows
section
variable {prog : Program} {w : World} {A : Around} {E : Value → Shared → Prop} {s : Shared} {K : Frag} {x D : Addr} {ox : Obj} {od : Option Obj}
theorem k21_find {C : Addr} {name : Str} {a g : Value} (hc : (clsIn K C).isSome = true) (ha : findIn K (.ref C) name = some (some a)) (hg : specialIn K a "__get__" = some (some g)) (ht : takesIn K a = some true) : findObj K C od name = some (.bind g a) := by
  cases hq : clsIn K C with
  | none => rw [hq] at hc; cases hc
  | some cd => unfold findObj; rw [hq, Option.bind_some, ha, Option.bind_some]; simp [hg, ht]
theorem k21_class {Q : Option Value → Shared → Prop} (C : L2.ExcC K D) (X : K.In s.heap) (I : InstAt s.heap x ox D od) (h : Q (some (.ref D)) { s with toks := s.toks + 1 }) : wpAny (model prog w) A (getAttr? (.ref x) "__class__") Q E s := by
  obtain ⟨hga, hgt, hsub, hdct, ha, hn, htk, hm⟩ := C
  have hf : findObj K D od "__class__" = some (.bind (.builtin "getset_descriptor.__get__") (.builtin "object.__class__")) := k21_find (by obtain ⟨cd, hc, _⟩ := any_some hdct; rw [hc]; rfl) ha hn htk
  obtain ⟨hp, g, d, t, os⟩ := s
  have J0 := I.type (M := model prog w)
  have J1 := looks_findIn (M := model prog w) X hga
  have J2 := looks_findIn (M := model prog w) X hgt
  have J3 := looks_find (M := model prog w) X I hf
  have sb : Looks (model prog w) hp (isInstance (.ref x) (.type "BaseException")) true := J0.andThen (looks_subIn X hsub)
  have z0 : (false && onTheHeap (Value.builtin "BaseException.__getattribute__")) = false := rfl
  have z2 : (Value.builtin "BaseException.__getattribute__" == Value.builtin "object.__getattribute__") = false := by decide +kernel
  have z1 : (onTheHeap (Value.ref D) && Value.builtin "BaseException.__getattribute__" == Value.builtin "object.__getattribute__") = false := by rw [z2]; rfl
  unfold getAttr? getAttrBy? getAttrBy
  apply wpAny_bind; apply wpAny_mkText; apply wpAny_bind; apply wpAny_attempt; apply wpAny_holding; apply wpAny_bind; apply J0.at; apply wpAny_bind; apply J1.at
  show wpAny _ _ (if (onTheHeap (Value.ref D) && Value.builtin "BaseException.__getattribute__" == Value.builtin "object.__getattribute__") = true then _ else _) _ _ _
  rw [z1, if_neg Bool.false_ne_true]
  unfold getAttrByItsOwn hookBefore
  apply wpAny_bind
  rw [if_pos (show onTheHeap (Value.ref D) = true from rfl)]
  apply J2.at; apply wpAny_bind; apply wpAny_attempt; apply wpAny_holding
  unfold callGetattribute
  rw [z0, if_neg Bool.false_ne_true]
  unfold boundAndCalled
  rw [PySem.F.excAttr_ValueError.ga.bind (.ref x)]
  apply wpAny_bind; apply wpAny_pure
  show wpAny _ _ (call (.builtin "BaseException.__getattribute__") [.ref x, .str "__class__" t]) _ _ _
  apply wpAny_call; apply codeAny_call_builtin PySem.F.excAttr_ValueError.ga.plain PySem.F.entry_bexc_ga
  apply @check_slot (model prog w) _ _ ⟨hp, g, d, t + 1, os⟩ "BaseException.__getattribute__" "BaseException" "__getattribute__" (.ref x) [.str "__class__" t] [] _ (by decide +kernel) (by decide +kernel) sb (PySem.F.args_bexc_ga (.ref x) (.str "__class__" t))
  unfold Builtin.«object.__getattribute__»
  apply wpAny_bind; apply wpAny_of_eq (a := ((Value.ref x : Value), [Value.str "__class__" t])) (by first | rfl | (simp only [slotArgs]; rfl))
  apply wpAny_bind; apply wpAny_pure; apply wpAny_bind; apply J0.at; apply wpAny_bind; apply J3.at
  show wpAny _ _ (holding [Value.builtin "object.__class__"] (call (.builtin "getset_descriptor.__get__") [.builtin "object.__class__", .ref x, .ref D]) >>= ret) _ _ _
  apply wpAny_bind; apply wpAny_holding; apply wpAny_call; apply class_get (s := ⟨hp, g, d, t + 1, os⟩) (ox := ox) (od := od) X I hm
  apply wpAny_pure
  show wpAny _ _ (handedOut (.ref D)) _ _ _
  rw [handedOut_of (v := .ref D) rfl]
  first
    | exact wpAny_pure (wpAny_pure h)
    | exact wpAny_pure h
    | exact wpAny_pure (wpAny_bind (wpAny_pure (wpAny_pure h)))
theorem k21_cls {C : Addr} (h : (clsIn K C).isSome = true) : ∃ cc dd dt sl, K.lookup C = some ⟨cc, dd, .cls dt, sl⟩ := by
  unfold clsIn at h
  split at h
  · rename_i e; exact ⟨_, _, _, _, e⟩
  · cases h
theorem k21_kit (C : L2.ExcC K D) : KitX K (.ref x) (.ref D) (fun h => ∃ (ox : Obj) (od : Option Obj), InstAt h x ox D od) where
  ty := fun _ _ _ ⟨_, _, I⟩ => I.type
  it := fun _ _ X _ => by
    obtain ⟨cd, hcd, _⟩ := any_some C.hd
    obtain ⟨cc, dd, dt, sl, ho⟩ := k21_cls (K := K) (C := D) (by rw [hcd]; rfl)
    intro A' Q' E' s' k q
    unfold isType loadHead
    exact wpAny_bind (wpAny_loadPart (k _ _ (X _ _ ho)) (wpAny_pure q))
  ne := fun h tp dd its n sl X htp => by
    obtain ⟨cd, hcd, _⟩ := any_some C.hd
    obtain ⟨cc, dd', dt, sl', ho⟩ := k21_cls (K := K) (C := D) (by rw [hcd]; rfl)
    by_cases e : D = tp
    · subst e
      have z := (X _ _ ho).symm.trans htp
      cases z
    · exact beq_eq_false_iff_ne.mpr fun q => e (Value.ref.inj q)
  ca := fun X ⟨_, _, I⟩ k => k21_class C X I k
end
end PySem.W
namespace L2
open PySem PySem.Spec PyProof.Rows
/-! ### f(k = v) in a try -/
section
variable {X : Cx} {CX : CXT} {k : Nat} {f : Addr} {fd : FuncData} {kn : Str} {sp : Sp} {E : St → XK} {x : Str} {p pos kpos : Pos} {e : Expr} {te : TE}
def tKw1 (sp : Sp) (E : St → XK) (te : TE) : TE := fun σ H Q => tCons te tNil σ H fun vs H1 => vs.length = 1 ∧ sp vs H1 Q (E σ)
theorem pe_callKw1 (F : FnOk X.prog X.w X.K X.mg X.base CX k f fd [kn] sp) (hr : Room k X.A) (hg : Gl X x) (hm : X.mg x = some (.ref f)) (hk : PySem.W.keepIn X.K (.ref f) = true)
    (hb : ∀ (s : Shared) (u : Value), BindsTo s fd ⟨[], [(kn, u)]⟩ [(kn, u)]) (hx : ∀ σ, PassesAt CX X σ (E σ)) (he : PE X e te)
    (hall : (backToKw pos (keywordEach [⟨some kn, e, kpos⟩] X.env)).all (·.1.isSome) = true := by rfl) (hks : (backToKw pos (keywordEach [⟨some kn, e, kpos⟩] X.env)).filterMap (·.1) = [kn] := by rfl)
    (hdb : (x == ("__debug__" : Str)) = false := by decide) (hpl : ((backTo pos (starEach [] X.env)).any (·.1) || (backToKw pos (keywordEach [⟨some kn, e, kpos⟩] X.env)).any (·.1.isNone)) = false := by rfl) :
    PE X (.Call (.Name x p) [] [⟨some kn, e, kpos⟩] pos) (tKw1 sp E te) := ⟨by
  intro pins s σ H Q I h
  have pk : PK X [⟨some kn, e, kpos⟩] (tCons te tNil) := pk_cons he pk_nil
  apply wpAny_Call_Name_kw
  apply ld_glob I hg hm _ hdb
  apply PySem.W.callWith_KW0 (h₀ := X.base) I.ok.mod.kin hk hall _ hpl
  apply thn (pk.run pos pins s σ H _ I h)
  rintro ws s2 ⟨zs, H2, I2, rz, hl, q2⟩
  refine ⟨I2.kIn, ?_⟩
  rw [hks]
  obtain ⟨v, rfl⟩ : ∃ v, zs = [v] := List.length_eq_one_iff.mp hl
  obtain ⟨u, rfl, ru⟩ := vals1 rz
  apply wpAny_call
  apply codeAny_mono (F.run X.A X.stack s2 H2 ⟨[], [(kn, u)]⟩ [u] [v] Q (E σ) hr I2.env0 (hb s2 u) rz q2)
  intro r s' hq
  match r, hq with
  | .error er, hq => exact hx σ pins H2 s2 er s' I2 hq
  | .ok (.ret _), hq => exact I2.after hq
  | .ok .next, hq => exact hq.elim
  | .ok .brk, hq => exact hq.elim
  | .ok .cont, hq => exact hq.elim⟩
end
/-! ### isinstance(e, c), isinstance(e, (c, ..)), e the error that the suite holds -/
def rIsX (K : PySem.W.Frag) (a : Addr) (cls : Value) (d : Option Addr) : List V → Hp → VK → Prop := fun xs H Q => ∃ (D dd : Addr) (fs : List (Str × V)) (c : V) (cv : Value) (b : Bool),
  cls = .ref D ∧ d = some dd ∧ ExcC K D ∧ H dd = some (.xd fs) ∧ xs = [.ref a, c] ∧ ClsV c cv ∧ PySem.W.kitOne K (.ref D) cv = some b ∧ Q (.bl b) H
def rIsXT (K : PySem.W.Frag) (a : Addr) (cls : Value) (d : Option Addr) : List V → Hp → VK → Prop := fun xs H Q => ∃ (D dd tp : Addr) (fs : List (Str × V)) (cs : List V) (us : List Value) (b : Bool),
  cls = .ref D ∧ d = some dd ∧ ExcC K D ∧ H dd = some (.xd fs) ∧ xs = [.ref a, .ref tp] ∧ H tp = some (.tup cs) ∧ Paired ClsV cs us ∧ PySem.W.kitAny K (.ref D) us = some b ∧ Q (.bl b) H
section
variable {X : Cx} {a : Addr} {oe : Obj} {cls : Value} {d : Option Addr} {pn : List (Addr × Obj)}
theorem suite_inst {pins : List (Addr × Obj)} {σ : St} {H : Hp} {s : Shared} {D dd : Addr} {fs : List (Str × V)} (hz : Zc (.ref D) (some dd) oe) (hf : ∃ vs, oe.data = .fields vs) (I : Inv (X.suite a ((a, oe) :: pn)) pins σ H s) (hd : H dd = some (.xd fs)) :
    ∃ od, PySem.W.InstAt s.heap a oe D (some od) := by
  obtain ⟨hget, _⟩ := I.pin (a, oe) (List.mem_append_left _ List.mem_cons_self)
  obtain ⟨vs, hv⟩ := hf
  obtain ⟨mA, hns, _⟩ := (show ObjOk X.prog X.w H s.heap dd (.xd fs) from I.hok dd _ hd)
  obtain ⟨od, ho, _⟩ := lookIn_ns hns
  exact ⟨od, hget, hz.1, by unfold PySem.W.notCls; rw [hv] <;> rfl, by rw [hz.2]; exact ho⟩
theorem call_isX (hz : Zc cls d oe) (hf : ∃ vs, oe.data = .fields vs) : CallR (X.suite a ((a, oe) :: pn)) (.builtin "isinstance") (rIsX X.K a cls d) := by
  rintro pins s σ H xs us Q I r ⟨D, dd, fs, c, cv, b, rfl, rfl, C, hd, rfl, k, e, q⟩
  obtain ⟨u1, u2, rfl, r1, r2⟩ := vals2 r
  obtain rfl : u1 = Value.ref a := r1
  have ec := k.eq r2
  subst ec
  obtain ⟨od, J⟩ := suite_inst hz hf I hd
  exact PySem.W.kia_one (PySem.W.k21_kit C) I.kIn ⟨oe, some od, J⟩ e (fun z => nomatch z) fun tk => ⟨.bl b, H, I.tok tk, rfl, q⟩
theorem call_isXT (hz : Zc cls d oe) (hf : ∃ vs, oe.data = .fields vs) : CallR (X.suite a ((a, oe) :: pn)) (.builtin "isinstance") (rIsXT X.K a cls d) := by
  rintro pins s σ H xs us Q I r ⟨D, dd, tp, fs, cs, ws, b, rfl, rfl, C, hd, rfl, hT, k, e, q⟩
  obtain ⟨u1, u2, rfl, r1, r2⟩ := vals2 r
  obtain rfl : u1 = Value.ref a := r1
  obtain rfl : u2 = Value.ref tp := r2
  obtain ⟨od, J⟩ := suite_inst hz hf I hd
  obtain ⟨_, its, rv, o, h1, h2, n, h3⟩ := (show ObjOk X.prog X.w H s.heap tp (.tup cs) from I.hok tp _ hT)
  have e3 := ClsV.all k rv
  subst e3
  obtain ⟨oc, od', dt, sl⟩ := o
  dsimp only at h2 h3
  subst h2 h3
  exact PySem.W.kia_tup (PySem.W.k21_kit C) I.kIn ⟨oe, some od, J⟩ h1 e (fun z => nomatch z) fun tk => ⟨.bl b, H, I.tok tk, rfl, q⟩
end
end L2
namespace K21
open PySem L2
abbrev sTold : Stmt := top 33
abbrev sRight : Stmt := top 34
/-- the classes of the errors, as the law asks for them -/
structure EEnv (K : PySem.W.Frag) (mg : Str → Option Value) (C C0 c1 c2 c3 c4 : Addr) : Prop where
  ex : ExcC K C
  xf : XfC K C
  te : PySem.W.exmOne K (.ref C) (.ref C) = some true
  m0 : mg "InvalidError" = some (.ref C0)
  m1 : mg "InvalidCount" = some (.ref c1)
  m2 : mg "InvalidKey" = some (.ref c2)
  m3 : mg "InvalidName" = some (.ref c3)
  m4 : mg "InvalidSource" = some (.ref c4)
  mV : mg "ValueError" = none
  k0 : PySem.W.kitOne K (.ref C) (.ref C0) = some true
  kV : PySem.W.kitOne K (.ref C) (.type "ValueError") = some true
  kN : PySem.W.kitAny K (.ref C) [.ref c1, .ref c2, .ref c3, .ref c4] = some false
section
variable {P : Program} {w : World} {K : PySem.W.Frag} {mg : Str → Option Value} {base : Heap}
def spTold (K : PySem.W.Frag) : Sp := fun vs H Q _ => ∃ x : V, vs = [x] ∧
  ((∃ l : Tx, x = tv l ∧ l.length ≤ big ∧ asc l ∧ (prog l = none → ∀ H', Same H H' → Q (.str "form") H') ∧ ∀ ps, prog l = some ps → ∀ H' q, Same H H' → H q = none → H' q = some (.lst (ps.map tv)) → Q (.ref q) H') ∨
   ∃ t : Value, TyX K H x t ∧ PySem.W.kitOne K t (.type "str") = some false ∧ ∀ H', Same H H' → Q (.str "string") H')
theorem scTo : FnScope ["_law_line", "_law_found", "e", "_law_others", "_law_is_one"] ["_law_line"] (defScope sTold) := ⟨rfl, rfl, rfl, by decide +kernel, rfl, by decide +kernel, by decide +kernel⟩
theorem ok_told {f fP fS C fI C0 c1 c2 c3 c4 : Addr} {fd dP dS dI : FuncData} (F : Fun K "_law_told" "_law_told" sTold f fd) (T : TxEnv K mg w) (zIs : mg "isinstance" = none) (zStr : mg "str" = none) (I : ITxt K mg C fI dI) (AS : At K mg "split_text" sSplit ["text"] fS dS)
    (FP : Fun K "parts_of" "parts_of" sParts fP dP) (mP : mg "parts_of" = some (.ref fP)) (bP : ∀ (s : Shared) (u : Value), BindsTo s dP ⟨[], [("text", u)]⟩ [("text", u)]) (EE : EEnv K mg C C0 c1 c2 c3 c4) :
    FnOk P w K mg base CX0 5 f fd ["_law_line"] (spTold K) := by
  have GP : FnOk P w K mg base (L2.CX P w) 4 fP dP ["text"] (spParts K C) := ok_parts FP T zIs zStr I AS
  refine F.ok scTo (fun vs H Q E h => ?_) (fun cdv A outer_ s H vs Q E hr h => ?_)
  · obtain ⟨x, rfl, _⟩ := h
    rfl
  · obtain ⟨x, rfl, h⟩ := h
    refine ⟨_, pss_cons (ps_try_as (i := 2) (tb := fun W => tAsg (tKw1 (spParts K C) (WE W) (tVar 0)) (gName 1)) (Wout := fun _ _ _ _ => False) rfl rfl scTo.nd rfl rfl ⟨rfl, by decide, .inl I.m⟩ takes0
        (fun W pn xe tk _ => pss_one (ps_set (i := 1) scTo.nd rfl (Or.inl rfl) (by exact (pe_callKw1 GP hr rfl mP FP.kp bP (fun σ => passAt tk σ) (pv 0)))))
        (fun a oe cls d pn hz hf => pss_cons (ps_set (i := 3) scTo.nd rfl (Or.inl rfl) (pe_callB (call_isXT hz hf) (by rfl) zIs (by decide +kernel) (pa_cons (pv 2) (pa_cons (pe_tup (pa_cons (pe_glob (v := .ref c1) rfl EE.m1 rfl) (pa_cons (pe_glob (v := .ref c2) rfl EE.m2 rfl) (pa_cons (pe_glob (v := .ref c3) rfl EE.m3 rfl) (pa_cons (pe_glob (v := .ref c4) rfl EE.m4 rfl) pa_nil))))) pa_nil))))
          (pss_cons (ps_set (i := 4) scTo.nd rfl (Or.inl rfl) (pe_and (pe_callB (call_isX hz hf) (by rfl) zIs (by decide +kernel) (pa_cons (pv 2) (pa_cons (pe_glob (v := .ref C0) rfl EE.m0 rfl) pa_nil)))
            (pe_and (pe_callB (call_isX hz hf) (by rfl) zIs (by decide +kernel) (pa_cons (pv 2) (pa_cons (pe_bltn (v := .ty "ValueError") (u := .type "ValueError") (by rfl) EE.mV (by decide +kernel) rfl) pa_nil))) (pe_one (pe_not (pv 3))))))
          (pss_one (ps_set (i := 1) scTo.nd rfl (Or.inl rfl) (pe_ifExp (pt_val (pv 4)) (pe_xf EE.xf I.n1 hz hf (pv 2)) pe_str))))))
      (pss_one (ps_ret (pv 1))), ?_⟩
    refine ⟨_, rfl, rfl, x, rfl, ?_⟩
    rcases h with ⟨l, rfl, hl, ha, k1, k2⟩ | ⟨t, ty, kt, k3⟩
    · refine .inl ⟨l, rfl, hl, ha, fun e H1 d fs sm hd hx hlk => ?_, fun ps e H1 q sm hq hL => ?_⟩
      · refine ⟨true, EE.te, fun _ a0 _ => ?_, fun q => Bool.noConfusion q⟩
        refine ⟨_, rfl, (by show 4 ≤ sizeLine; decide), fun tp htp => ?_⟩
        have hx2 : (upd H1 tp (.tup [V.ref c1, V.ref c2, V.ref c3, V.ref c4])) d = some (.xd fs) := by rw [upd_ne (ne_of_none hx htp)]; exact hx
        refine ⟨C, d, tp, fs, _, [.ref c1, .ref c2, .ref c3, .ref c4], false, rfl, rfl, EE.ex, hx2, rfl, upd_same, .cons (.own _) (.cons (.own _) (.cons (.own _) (.cons (.own _) .nil))), EE.kN, ?_⟩
        refine ⟨_, rfl, C, d, fs, _, .ref C0, true, rfl, rfl, EE.ex, hx2, rfl, .own _, EE.k0, _, rfl, ?_⟩
        refine ⟨_, rfl, C, d, fs, _, .type "ValueError", true, rfl, rfl, EE.ex, hx2, rfl, .ty _, EE.kV, _, rfl, ?_⟩
        refine ⟨_, rfl, _, rfl, ?_⟩
        refine ⟨_, rfl, _, rfl, ?_⟩
        refine ⟨_, rfl, rfl, rfl, d, fs, _, rfl, hx2, hlk, ?_⟩
        exact ⟨_, rfl, k1 e _ (sm.trans (same_upd htp))⟩
      · exact ⟨_, rfl, k2 ps e H1 q sm hq hL⟩
    · refine .inr ⟨t, ty, kt, fun H1 d fs sm hd hx hlk => ?_⟩
      refine ⟨true, EE.te, fun _ a0 _ => ?_, fun q => Bool.noConfusion q⟩
      refine ⟨_, rfl, (by show 4 ≤ sizeLine; decide), fun tp htp => ?_⟩
      have hx2 : (upd H1 tp (.tup [V.ref c1, V.ref c2, V.ref c3, V.ref c4])) d = some (.xd fs) := by rw [upd_ne (ne_of_none hx htp)]; exact hx
      refine ⟨C, d, tp, fs, _, [.ref c1, .ref c2, .ref c3, .ref c4], false, rfl, rfl, EE.ex, hx2, rfl, upd_same, .cons (.own _) (.cons (.own _) (.cons (.own _) (.cons (.own _) .nil))), EE.kN, ?_⟩
      refine ⟨_, rfl, C, d, fs, _, .ref C0, true, rfl, rfl, EE.ex, hx2, rfl, .own _, EE.k0, _, rfl, ?_⟩
      refine ⟨_, rfl, C, d, fs, _, .type "ValueError", true, rfl, rfl, EE.ex, hx2, rfl, .ty _, EE.kV, _, rfl, ?_⟩
      refine ⟨_, rfl, _, rfl, ?_⟩
      refine ⟨_, rfl, _, rfl, ?_⟩
      refine ⟨_, rfl, rfl, rfl, d, fs, _, rfl, hx2, hlk, ?_⟩
      exact ⟨_, rfl, k3 _ (sm.trans (same_upd htp))⟩
/-! ### _law_right -/
theorem outerGo_facts : ∀ (ts done : List Tx) (cur : Tx) (d : Int), (∀ t ∈ ts, asc t) → (∀ t ∈ done, asc t) → asc cur → (∀ t ∈ outerGo done cur d ts, asc t) ∧ (outerGo done cur d ts).length ≤ done.length + 1 + ts.length
  | [], done, cur, d, _, h2, h3 => by
    refine ⟨fun t ht => ?_, by show (done ++ [cur]).length ≤ _; simp⟩
    rcases List.mem_append.mp (show t ∈ done ++ [cur] from ht) with e | e
    · exact h2 t e
    · rw [List.mem_singleton.mp e]; exact h3
  | t :: r, done, cur, d, h1, h2, h3 => by
    have hr := fun u hu => h1 u (List.mem_cons_of_mem _ hu)
    by_cases h : t = [32] ∧ d + nest t = 0
    · rw [outerGo_new _ h]
      obtain ⟨a, b⟩ := outerGo_facts r (done ++ [cur]) [] (d + nest t) hr (fun u hu => by
        rcases List.mem_append.mp hu with e | e
        · exact h2 u e
        · rw [List.mem_singleton.mp e]; exact h3) (fun _ z => by cases z)
      refine ⟨a, ?_⟩
      rw [List.length_append, List.length_singleton] at b
      rw [List.length_cons]
      omega
    · rw [outerGo_plain _ h]
      obtain ⟨a, b⟩ := outerGo_facts r done (cur ++ t) (d + nest t) hr h2 (fun c hc => by
        rcases List.mem_append.mp hc with e | e
        · exact h3 c e
        · exact h1 t List.mem_cons_self c e)
      refine ⟨a, ?_⟩
      rw [List.length_cons]
      omega
theorem prog_facts {l : Tx} (ha : asc l) {ps : List Tx} (h : prog l = some ps) : (∀ t ∈ ps, asc t) ∧ ps.length ≤ l.length + 1 := by
  unfold prog progT at h
  cases e : toks l 0 with
  | none =>
    rw [e] at h
    cases h
  | some ts =>
    rw [e] at h
    obtain ⟨a1, _⟩ := toks_facts l.length 0 ts (by omega) e
    obtain ⟨_, b2⟩ := toks_more ha l.length 0 ts (by omega) e
    replace h : (if (inSeq (ts.map kind) && nested ts) = true then some (outer (ts.drop 1).dropLast) else none) = some ps := h
    by_cases hc : (inSeq (ts.map kind) && nested ts) = true
    · rw [if_pos hc] at h
      have h := Option.some.inj h
      subst h
      unfold outer
      split
      · exact ⟨(fun _ z => by cases z), Nat.zero_le _⟩
      · obtain ⟨p1, p2⟩ := outerGo_facts (ts.drop 1).dropLast [] [] 0 (fun t ht => b2 t (List.mem_of_mem_drop ((List.dropLast_sublist _).subset ht))) (fun _ z => by cases z) (fun _ z => by cases z)
        refine ⟨p1, ?_⟩
        rw [List.length_dropLast, List.length_drop, List.length_nil] at p2
        omega
    · rw [if_neg hc] at h
      cases h
def spRight : Sp := fun vs H Q _ => ∃ l : Tx, vs = [tv l] ∧ l.length ≤ big ∧ asc l ∧ ∀ H', Same H H' → Q (.bl true) H'
theorem scRi : FnScope ["_law_line", "_law_due", "_law_found"] ["_law_line"] (defScope sRight) := ⟨rfl, rfl, rfl, by decide +kernel, rfl, by decide +kernel, by decide +kernel⟩
theorem ok_right {f fT fS : Addr} {fd dT dS : FuncData} (F : Fun K "_law_right" "_law_right" sRight f fd) (GT : FnOk P w K mg base CX0 5 fT dT ["_law_line"] (spTold K)) (AT : At K mg "_law_told" sTold ["_law_line"] fT dT)
    (GS : FnOk P w K mg base CX0 3 fS dS ["_law_line"] spScanned) (AS : At K mg "_law_scanned" sScanned ["_law_line"] fS dS) : FnOk P w K mg base CX0 6 f fd ["_law_line"] spRight := by
  refine F.ok scRi (fun vs H Q E h => ?_) (fun cdv A outer_ s H vs Q E hr h => ?_)
  · obtain ⟨l, rfl, _⟩ := h
    rfl
  · obtain ⟨l, rfl, hl, ha, k⟩ := h
    have hr3 := hr.mono (j := 3) (by decide)
    refine ⟨_, pss_cons (ps_set (i := 1) scRi.nd rfl (Or.inl rfl) (pe_call GS hr3 (by rfl) AS.m AS.F.kp AS.b .nil pass0 (pa_cons (pv 0) pa_nil)))
      (pss_cons (ps_set (i := 2) scRi.nd rfl (Or.inl rfl) (pe_call GT hr (by rfl) AT.m AT.F.kp AT.b .nil pass0 (pa_cons (pv 0) pa_nil)))
      (pss_cons (ps_if (pt_cmpR (op_neD hr.units) (pv 2) (pe_ifExp (pt_cmpR op_isN (pv 1) pe_non (nomark _)) pe_str (pv 1)) (nomark _)) (pss_one (ps_ret pe_bl)) pss_nil)
      (pss_cons (ps_if (pt_cmpR op_notN (pv 1) pe_non (nomark _)) (pss_one (ps_expr (pe_bm PySem.F.plainAttrs_list PySem.F.slot_list_append PySem.F.type_list_append mt_append (pv 2) (pa_cons pe_str pa_nil)))) pss_nil)
      (pss_one (ps_ret (pe_cmpR (op_eqD hr.units) (pe_call GT hr (by rfl) AT.m AT.F.kp AT.b .nil pass0 (pa_cons (pv 0) pa_nil)) (pe_ifExp (pt_cmpR op_isN (pv 1) pe_non (nomark _)) pe_str (pv 1)) (nomark _))))))), ?_⟩
    have shF : SeqAt.shaped (.str (Str.ofString "form")) = true := by decide +kernel
    have eqF : PyData.eqv (.str (Str.ofString "form")) (.str (Str.ofString "form")) = true := by rw [PyData.eqv]; simp
    refine ⟨_, rfl, l, rfl, hl, fun e H1 s1 => ?_, fun ps e H1 q1 s1 hq1 hL1 => ?_⟩
    · rw [scan_prog] at e
      refine ⟨_, rfl, _, rfl, .inl ⟨l, rfl, hl, ha, fun _ H2 s2 => ?_, fun ps e2 => absurd (e.symm.trans e2) (fun z => nomatch z)⟩⟩
      refine ⟨_, rfl, _, rfl, rfl, _, rfl, .str _, .str _, .str _, .str _, shF, shF, _, rfl, ?_⟩
      rw [eqF]
      refine ⟨_, rfl, rfl, _, rfl, ?_⟩
      refine ⟨_, rfl, _, rfl, .inl ⟨l, rfl, hl, ha, fun _ H3 s3 => ?_, fun ps e2 => absurd (e.symm.trans e2) (fun z => nomatch z)⟩⟩
      refine ⟨_, rfl, rfl, _, rfl, .str _, .str _, .str _, .str _, shF, shF, ?_⟩
      rw [eqF]
      exact k H3 ((s1.trans s2).trans s3)
    · rw [scan_prog] at e
      obtain ⟨pa, pn⟩ := prog_facts ha e
      have shP := shS ps pa
      have eqP : PyData.eqv (.list (ps.map fun t => PyData.str (txt t))) (.list (ps.map fun t => PyData.str (txt t))) = true := by rw [eqvLS]; simp
      refine ⟨_, rfl, _, rfl, .inl ⟨l, rfl, hl, ha, fun e2 => absurd (e.symm.trans e2) (fun z => nomatch z), fun ps2 e2 H2 q2 s2 hq2 hL2 => ?_⟩⟩
      obtain rfl : ps = ps2 := Option.some.inj (e.symm.trans e2)
      have n12 : q1 ≠ q2 := ne_of_none hL1 hq2
      refine ⟨_, rfl, _, rfl, rfl, _, rfl, _, rfl, .list _, .list _, .lst (SqL.of hL2) (dpS ps), .lst (SqL.of (s2 _ _ hL1)) (dpS ps), shP, shP, _, rfl, ?_⟩
      rw [eqP]
      refine ⟨_, rfl, rfl, _, rfl, ?_⟩
      refine ⟨_, rfl, .inl ⟨rfl, _, SqL.of hL2⟩, q2, _, _, rfl, rfl, hL2, ?_, ?_⟩
      · rw [List.length_map]
        exact Nat.lt_of_le_of_lt (Nat.le_trans pn (Nat.succ_le_succ hl)) (by decide)
      · have hL1' : (upd H2 q2 (.lst (ps.map tv ++ [V.str "more"]))) q1 = some (.lst (ps.map tv)) := by rw [upd_ne n12]; exact s2 _ _ hL1
        refine ⟨_, rfl, _, rfl, .inl ⟨l, rfl, hl, ha, fun e2 => absurd (e.symm.trans e2) (fun z => nomatch z), fun ps3 e3 H3 q3 s3 hq3 hL3 => ?_⟩⟩
        obtain rfl : ps = ps3 := Option.some.inj (e.symm.trans e3)
        refine ⟨_, rfl, rfl, _, rfl, _, rfl, .list _, .list _, .lst (SqL.of hL3) (dpS ps), .lst (SqL.of (s3 _ _ hL1')) (dpS ps), shP, shP, ?_⟩
        rw [eqP]
        refine k H3 fun b o q => s3 b o ?_
        have nb : b ≠ q2 := ne_of_none (s1 b o q) hq2
        rw [upd_ne nb]
        exact s2 b o (s1 b o q)
end
end K21
namespace K21
open PySem L2
abbrev sRng : Stmt := top 20
abbrev sDraw : Stmt := top 21
abbrev sChoice : Stmt := top 22
abbrev sWord : Stmt := top 23
abbrev sPart : Stmt := top 24
abbrev sText : Stmt := top 25
abbrev sDeep : Stmt := top 26
abbrev sBent : Stmt := top 27
/-! ### a text times an int -/
def rep (n : Nat) (l : Tx) : Tx := (List.replicate n l).flatten
theorem rep_len (n : Nat) (l : Tx) : (rep n l).length = n * l.length := by unfold rep; simp
theorem fold_rep (l : Tx) : ∀ (k : Nat) (acc : Tx), List.foldl (fun a b : Array Nat => a ++ b) acc.toArray (List.replicate k l.toArray) = (acc ++ rep k l).toArray
  | 0, acc => by simp [rep]
  | k + 1, acc => by
    have e : acc.toArray ++ l.toArray = (acc ++ l).toArray := by simp
    rw [List.replicate_succ, List.foldl_cons, e, fold_rep l k (acc ++ l)]
    unfold rep
    rw [List.replicate_succ, List.flatten_cons, List.append_assoc]
theorem op_mulS {X : Cx} : OpR X (binaryOp .Mult) (fun x y H Q => ∃ (l : Tx) (n : Nat), x = tv l ∧ y = .int (n : Int) ∧ n ≤ big ∧ l.length * n ≤ big ∧ Q (tv (rep n l)) H) := by
  rintro pins s σ H x y v u Q I rx ry ⟨l, n, rfl, rfl, hn, hl, q⟩
  obtain ⟨t, rfl⟩ := rx
  obtain ⟨t', rfl⟩ := ry
  have hb : big = 1000000 := rfl
  have hsl : sizeLine = 16777216 := sizeLine_eq
  refine PySem.P.mul_str (by rw [decide_eq_false (by omega), decide_eq_false (by omega)]; rfl) (fun h1 _ => ?_) (fun h1 _ => ?_) ?_
  · rw [txt_len]
    have hdiv : (l.length : Int) ≤ (2 ^ 63 - 1) / (n : Int) := by
      rw [Int.le_ediv_iff_mul_le (by omega)]
      have : ((l.length * n : Nat) : Int) ≤ 1000000 := by omega
      rw [Int.natCast_mul] at this
      omega
    omega
  · rw [txt_len, Int.toNat_natCast]
    unfold PySem.Builtin.Str.tooLong
    exact decide_eq_false (by rw [hsl]; omega)
  · have fin : ∀ tk' k, EP X pins σ Q (.str (txt (rep n l)) tk') { s with toks := k } := fun tk' k => ⟨tv (rep n l), H, I.tok k, ⟨tk', rfl⟩, q⟩
    by_cases h1 : (n : Int) < 1
    · rw [if_pos h1]
      have e0 : n = 0 := by omega
      subst e0
      exact ⟨by decide, fin _ _⟩
    · rw [if_neg h1]
      by_cases h2 : (((n : Int) == 1 || (txt l).length == 0) = true)
      · rw [if_pos h2]
        have e : rep n l = l := by
          rcases Bool.or_eq_true_iff.mp h2 with h | h
          · have : n = 1 := by have := beq_iff_eq.mp h; omega
            subst this
            simp [rep]
          · rw [txt_len] at h
            have h0 : l = [] := List.eq_nil_of_length_eq_zero (beq_iff_eq.mp h)
            subst h0
            simp [rep]
        have f := fin t s.toks
        rw [e] at f
        exact f
      · rw [if_neg h2]
        have e : (⟨List.foldl (fun x1 x2 => x1 ++ x2) #[] (List.replicate (n : Int).toNat (txt l).cps)⟩ : Str) = txt (rep n l) := by
          rw [Int.toNat_natCast]
          have q := fold_rep l n []
          rw [List.nil_append] at q
          exact congrArg Str.mk q
        rw [e]
        refine ⟨?_, fin _ _⟩
        rw [txt_len, rep_len, Nat.mul_comm]
        omega
/-! ### the draws -/
/-- at r: a stock of draws -/
def Rg (H : Hp) (r : Addr) : Prop := ∃ x y : Int, H r = some (.lst [.int x, .int y]) ∧ 0 ≤ x ∧ 0 ≤ y ∧ y ≤ 2147483629
/-- what was tracked stands, but r, which is a stock as before -/
def Kp (r : Addr) (H H' : Hp) : Prop := (∀ b o, b ≠ r → H b = some o → H' b = some o) ∧ (Rg H r → Rg H' r)
theorem Kp.refl (r : Addr) (H : Hp) : Kp r H H := ⟨fun _ _ _ h => h, fun h => h⟩
theorem Kp.trans {r : Addr} {H H1 H2 : Hp} (a : Kp r H H1) (b : Kp r H1 H2) : Kp r H H2 := ⟨fun c o h e => b.1 c o h (a.1 c o h e), fun h => b.2 (a.2 h)⟩
theorem Kp.of_same {r : Addr} {H H' : Hp} (s : Same H H') : Kp r H H' := ⟨fun b o _ e => s b o e, fun ⟨x, y, h, p⟩ => ⟨x, y, s _ _ h, p⟩⟩
theorem Kp.free {r : Addr} {H H' : Hp} (k : Kp r H H') (g : Rg H r) {b : Addr} (h : H' b = none) : H b = none := by
  by_cases e : b = r
  · subst e
    obtain ⟨x, y, q, _⟩ := k.2 g
    rw [q] at h
    cases h
  · cases q : H b with
    | none => rfl
    | some o =>
      rw [k.1 b o e q] at h
      cases h
section
variable {P : Program} {w : World} {K : PySem.W.Frag} {mg : Str → Option Value} {base : Heap}
def spRng (K : PySem.W.Frag) : Sp := fun vs H Q _ => ∃ (a : Addr) (ns : List Int) (k : Nat), vs = [.ref a, .int (k : Int)] ∧ SqL K H a (ns.map V.int) ∧ k ≤ 1000 ∧ ∀ H' p, Same H H' → H p = none → Rg H' p → Q (.ref p) H'
theorem scRn : FnScope ["_law_script", "_law_k", "_law_cell"] ["_law_script", "_law_k"] (defScope sRng) := ⟨rfl, rfl, rfl, by decide +kernel, rfl, by decide +kernel, by decide +kernel⟩
/-- the built-in names that the law leans on -/
structure BEnv (mg : Str → Option Value) : Prop where
  zLen : mg "len" = none
  zAbs : mg "abs" = none
  zMax : mg "max" = none
  zMin : mg "min" = none
  zInt : mg "int" = none
  zDm : mg "divmod" = none
  zRange : mg "range" = none
  zAll : mg "all" = none
theorem ok_rng {f : Addr} {fd : FuncData} (F : Fun K "_law_rng" "_law_rng" sRng f fd) (B : BEnv mg) : FnOk P w K mg base CX0 1 f fd ["_law_script", "_law_k"] (spRng K) := by
  refine F.ok scRn (fun vs H Q E h => ?_) (fun cdv A outer_ s H vs Q E hr h => ?_)
  · obtain ⟨a, ns, k, rfl, _⟩ := h
    rfl
  · obtain ⟨a, ns, k, rfl, hS, hk, kk⟩ := h
    refine ⟨_, pss_cons (ps_set (i := 2) scRn.nd rfl (Or.inl rfl) (pe_ifExp (pt_cmpR op_lt (pv 1) (pe_callB call_len_seq (by rfl) B.zLen PySem.boot_len (pa_cons (pv 0) pa_nil)) (nomark _)) (pe_callB call_abs (by rfl) B.zAbs (by decide +kernel) (pa_cons (pe_ix ix_list (pv 0) (pv 1) (fun _ _ => rfl)) pa_nil)) pe_int))
      (pss_one (ps_ret (pe_lst (pa_cons (pe_callB (call_max2 rfl) (by rfl) B.zMax (by decide +kernel) (pa_cons pe_int (pa_cons (pe_op op_sub (pv 2) (pe_op op_pow pe_int pe_int)) pa_nil)))
        (pa_cons (pe_op op_add (pe_op op_mod (pe_callTy call_int1 (by rfl) B.zInt (by decide +kernel) (pa_cons (pe_op op_pow (pe_op op_add (pe_op op_add (pe_op op_mod (pe_callTy call_int1 (by rfl) B.zInt (by decide +kernel) (pa_cons (pv 2) pa_nil)) pe_int) (pe_op op_mul pe_int (pv 1))) pe_int) pe_int) pa_nil)) pe_int) pe_int) pa_nil))))), ?_⟩
    have rest : ∀ c : Int, 0 ≤ c → 0 ≤ (if c - 10 ^ (18 : Int).toNat > 0 then c - 10 ^ (18 : Int).toNat else 0) ∧ (c % 2147483549 + 4127 * (k : Int) + 29).natAbs < 2 ^ 64 := fun c hc => by
      have h1 := Int.emod_nonneg c (show (2147483549 : Int) ≠ 0 by decide)
      have h2 := Int.emod_lt_of_pos c (show (0 : Int) < 2147483549 by decide)
      refine ⟨by split <;> omega, by omega⟩
    have last : ∀ z : Int, 0 ≤ z % 2147483477 + 1 ∧ z % 2147483477 + 1 ≤ 2147483629 := fun z => by
      have h1 := Int.emod_nonneg z (show (2147483477 : Int) ≠ 0 by decide)
      have h2 := Int.emod_lt_of_pos z (show (0 : Int) < 2147483477 by decide)
      omega
    have cell : ∀ c : Int, 0 ≤ c → (∀ (H' : Hp) (p : Addr), Same H H' → H p = none → Rg H' p → Q (.ref p) H') → True := fun _ _ _ => trivial
    refine ⟨_, rfl, _, rfl, a, _, rfl, .inl hS, _, _, rfl, rfl, _, rfl, ?_⟩
    refine ite2 (fun h1 => ?_) (fun h1 => ?_)
    · have hlt : k < ns.length := by
        have := of_decide_eq_true h1
        rw [List.length_map] at this
        omega
      have hv : (ns.map V.int)[k]? = some (V.int ns[k]) := by rw [List.getElem?_map, List.getElem?_eq_getElem hlt]; rfl
      refine ⟨_, rfl, _, rfl, a, _, _, _, rfl, rfl, hS, atI_nat hv, _, rfl, ?_⟩
      have hc : 0 ≤ (if ns[k] < 0 then -ns[k] else ns[k]) := by split <;> omega
      generalize (if ns[k] < 0 then -ns[k] else ns[k]) = c at hc
      obtain ⟨r1, r2⟩ := rest c hc
      refine ⟨_, rfl, _, _, rfl, rfl, ⟨by decide, by decide, by decide⟩, _, _, rfl, rfl, _, _, rfl, ?_⟩
      refine ⟨_, rfl, .inl ⟨_, rfl, _, _, rfl, rfl, (by show (0 : Int) < 2147483549; decide), _, rfl, _, _, rfl, rfl, .inl ⟨by decide, by decide⟩, _, _, rfl, rfl, _, _, rfl, rfl, _, _, rfl, rfl, ⟨by decide, by decide, r2⟩,
        .inl ⟨_, rfl, _, _, rfl, rfl, (by show (0 : Int) < 2147483477; decide), _, _, rfl, rfl, (by show 2 ≤ sizeLine; decide), fun p hp => kk _ p (same_upd hp) hp ⟨_, _, upd_same, r1, (last _).1, (last _).2⟩⟩⟩⟩
    · have hc : (0 : Int) ≤ 0 := Int.le_refl 0
      obtain ⟨r1, r2⟩ := rest 0 hc
      refine ⟨_, rfl, _, _, rfl, rfl, ⟨by decide, by decide, by decide⟩, _, _, rfl, rfl, _, _, rfl, ?_⟩
      refine ⟨_, rfl, .inl ⟨_, rfl, _, _, rfl, rfl, (by show (0 : Int) < 2147483549; decide), _, rfl, _, _, rfl, rfl, .inl ⟨by decide, by decide⟩, _, _, rfl, rfl, _, _, rfl, rfl, _, _, rfl, rfl, ⟨by decide, by decide, r2⟩,
        .inl ⟨_, rfl, _, _, rfl, rfl, (by show (0 : Int) < 2147483477; decide), _, _, rfl, rfl, (by show 2 ≤ sizeLine; decide), fun p hp => kk _ p (same_upd hp) hp ⟨_, _, upd_same, r1, (last _).1, (last _).2⟩⟩⟩⟩
/-! ### _law_draw -/
def spDraw : Sp := fun vs H Q _ => ∃ (r : Addr) (m : Nat), vs = [.ref r, .int (m : Int)] ∧ Rg H r ∧ 0 < m ∧ m ≤ big ∧ ∀ H' (n : Nat), Kp r H H' → n < m → Q (.int (n : Int)) H'
theorem scDr : FnScope ["_law_rng_here", "_law_many", "_law_digit"] ["_law_rng_here", "_law_many"] (defScope sDraw) := ⟨rfl, rfl, rfl, by decide +kernel, rfl, by decide +kernel, by decide +kernel⟩
theorem mod_nat (z : Int) {m : Nat} (h : 0 < m) : ∃ n : Nat, z % (m : Int) = (n : Int) ∧ n < m := by
  have h1 := Int.emod_nonneg z (show (m : Int) ≠ 0 by omega)
  have h2 := Int.emod_lt_of_pos z (show (0 : Int) < m by omega)
  exact ⟨(z % (m : Int)).toNat, by omega, by omega⟩
theorem ixN_0 (n : Nat) : ixN (n + 1) 0 = some 0 := by
  unfold ixN
  rw [if_pos (by decide)]
  simp
theorem ixN_1 (n : Nat) : ixN (n + 2) 1 = some 1 := by
  unfold ixN
  rw [if_pos (by decide)]
  simp
  omega
theorem ok_draw {f : Addr} {fd : FuncData} (F : Fun K "_law_draw" "_law_draw" sDraw f fd) (B : BEnv mg) : FnOk P w K mg base CX0 1 f fd ["_law_rng_here", "_law_many"] spDraw := by
  refine F.ok scDr (fun vs H Q E h => ?_) (fun cdv A outer_ s H vs Q E hr h => ?_)
  · obtain ⟨r, m, rfl, _⟩ := h
    rfl
  · obtain ⟨r, m, rfl, ⟨x, y, hL, hx, hy, hy2⟩, hm, hm2, k⟩ := h
    refine ⟨_, pss_cons (ps_if (pt_cmpR op_gt (pe_ix ix_list (pv 0) pe_int (fun _ _ => rfl)) pe_int (nomark _))
        (pss_cons (ps_asg (pe_callB call_divmod (by rfl) B.zDm (by decide +kernel) (pa_cons (pe_ix ix_list (pv 0) pe_int (fun _ _ => rfl)) (pa_cons (pv 1) pa_nil))) (pg_tup rfl (pgs_cons (pg_sub (pv 0) pe_int set_list) (pgs_cons (pg_name (i := 2) scDr.nd rfl (Or.inl rfl)) pgs_nil))))
        (pss_one (ps_ret (pv 2)))) pss_nil)
      (pss_cons (ps_asg (pe_op op_mod (pe_callTy call_int1 (by rfl) B.zInt (by decide +kernel) (pa_cons (pe_op op_add (pe_op op_mul (pe_ix ix_list (pv 0) pe_int (fun _ _ => rfl)) pe_int) pe_int) pa_nil)) pe_int) (pg_sub (pv 0) pe_int set_list))
      (pss_one (ps_ret (pe_op op_mod (pe_callTy call_int1 (by rfl) B.zInt (by decide +kernel) (pa_cons (pe_op op_fdiv (pe_op op_mod (pe_callTy call_int1 (by rfl) B.zInt (by decide +kernel) (pa_cons (pe_op op_mul (pe_ix ix_list (pv 0) pe_int (fun _ _ => rfl)) (pe_ix ix_list (pv 0) pe_int (fun _ _ => rfl))) pa_nil)) pe_int) pe_int) pa_nil)) (pv 1))))), ?_⟩
    have hb : big = 1000000 := rfl
    refine ⟨_, rfl, r, _, _, _, rfl, rfl, SqL.of hL, atI_nat (j := 0) rfl, _, _, rfl, rfl, _, rfl, ?_⟩
    refine ite2 (fun h1 => ?_) (fun h1 => ?_)
    · obtain ⟨n, en, hn⟩ := mod_nat x hm
      refine ⟨_, rfl, r, _, _, _, rfl, rfl, SqL.of hL, atI_nat (j := 0) rfl, _, rfl, _, _, rfl, ⟨by omega, by omega⟩, fun t ht => ?_⟩
      have nt : r ≠ t := ne_of_none hL ht
      refine ⟨t, _, rfl, SqT.of upd_same, rfl, _, _, rfl, _, rfl, r, [.int x, .int y], _, 0, rfl, rfl, by rw [upd_ne nt]; exact hL, ixN_0 1, ?_⟩
      refine ⟨_, _, rfl, rfl, ?_⟩
      refine ⟨_, rfl, ?_⟩
      rw [en]
      refine k _ n ⟨fun b o hb e => ?_, fun _ => ⟨x / (m : Int), y, upd_same, Int.ediv_nonneg hx (by omega), hy, hy2⟩⟩ hn
      rw [upd_ne hb, upd_ne (ne_of_none e ht)]
      exact e
    · refine ⟨_, rfl, r, _, _, _, rfl, rfl, SqL.of hL, atI_nat (j := 1) rfl, _, _, rfl, rfl, .inr ⟨by decide, by decide⟩, _, _, rfl, rfl, .inl ⟨_, rfl, _, _, rfl, rfl, (by show (0 : Int) < 2147483629; decide), _, rfl, r, [.int x, .int y], _, 1, rfl, rfl, hL, ixN_1 0, ?_⟩⟩
      have e1 := Int.emod_nonneg (y * 39373 + 9973) (show (2147483629 : Int) ≠ 0 by decide)
      have e2 := Int.emod_lt_of_pos (y * 39373 + 9973) (show (0 : Int) < 2147483629 by decide)
      obtain ⟨z, ez⟩ : ∃ z, z = (y * 39373 + 9973) % 2147483629 := ⟨_, rfl⟩
      rw [← ez] at e1 e2
      rw [show ([V.int x, V.int y].set 1 ((fun i j : Int => V.int (i % j)) (y * 39373 + 9973) 2147483629)) = [.int x, .int z] by rw [ez]; rfl]
      have hL2 : (upd H r (.lst [.int x, .int z])) r = some (.lst [.int x, .int z]) := upd_same
      have cm : CMul z z := .inl ⟨by omega, by omega⟩
      obtain ⟨n, en, hn⟩ := mod_nat (z * z % 2147483563 / 13) hm
      refine ⟨_, rfl, r, _, _, _, rfl, rfl, SqL.of hL2, atI_nat (j := 1) rfl, _, rfl, r, _, _, _, rfl, rfl, SqL.of hL2, atI_nat (j := 1) rfl, _, _, rfl, rfl, cm, .inl ⟨_, rfl, _, _, rfl, rfl, (by show (0 : Int) < 2147483563; decide), _, _, rfl, rfl, ⟨by decide, by decide⟩,
        .inl ⟨_, rfl, _, rfl, _, _, rfl, rfl, (by show (0 : Int) < (m : Int); omega), ?_⟩⟩⟩
      show Q (.int (z * z % 2147483563 / 13 % (m : Int))) _
      rw [en]
      refine k _ n ⟨fun b o hb e => ?_, fun _ => ⟨x, z, upd_same, hx, e1, by omega⟩⟩ hn
      rw [upd_ne hb]
      exact e
/-! ### _law_choice -/
def spChoice (K : PySem.W.Frag) : Sp := fun vs H Q _ => ∃ (r : Addr) (o : V), vs = [.ref r, o] ∧ Rg H r ∧
  ((∃ (a : Addr) (xs : List V), o = .ref a ∧ H a = some (.lst xs) ∧ a ≠ r ∧ xs ≠ [] ∧ xs.length ≤ big ∧ ∀ H' x, Kp r H H' → x ∈ xs → Q x H') ∨
   ∃ l : Tx, o = tv l ∧ l ≠ [] ∧ l.length ≤ big ∧ ∀ H' c, Kp r H H' → c ∈ l → Q (tv [c]) H')
theorem scCh : FnScope ["_law_rng_here", "_law_options"] ["_law_rng_here", "_law_options"] (defScope sChoice) := ⟨rfl, rfl, rfl, by decide +kernel, rfl, by decide +kernel, by decide +kernel⟩
theorem ok_choice {f fD : Addr} {fd dD : FuncData} (F : Fun K "_law_choice" "_law_choice" sChoice f fd) (B : BEnv mg) (AD : At K mg "_law_draw" sDraw ["_law_rng_here", "_law_many"] fD dD) : FnOk P w K mg base CX0 2 f fd ["_law_rng_here", "_law_options"] (spChoice K) := by
  have GD : FnOk P w K mg base CX0 1 fD dD ["_law_rng_here", "_law_many"] spDraw := ok_draw AD.F B
  refine F.ok scCh (fun vs H Q E h => ?_) (fun cdv A outer_ s H vs Q E hr h => ?_)
  · obtain ⟨r, o, rfl, _⟩ := h
    rfl
  · obtain ⟨r, o, rfl, g, h⟩ := h
    refine ⟨_, pss_one (ps_ret (pe_ix ix_seq (pv 1) (pe_call GD hr (by rfl) AD.m AD.F.kp AD.b .nil pass0 (pa_cons (pv 0) (pa_cons (pe_callB call_len (by rfl) B.zLen PySem.boot_len (pa_cons (pv 1) pa_nil)) pa_nil))) (fun _ _ => rfl))), ?_⟩
    rcases h with ⟨a, xs, rfl, hL, hne, hx, hlen, k⟩ | ⟨l, rfl, hl0, hlen, k⟩
    · have hpos : 0 < xs.length := List.length_pos_iff.mpr hx
      refine ⟨_, rfl, _, rfl, _, rfl, _, xs.length, rfl, .inl ⟨_, SqL.of hL, rfl⟩, r, xs.length, rfl, g, hpos, hlen, fun H' n kp hn => ?_⟩
      have hv : xs[n]? = some xs[n] := List.getElem?_eq_getElem hn
      exact .inl ⟨a, _, _, _, rfl, rfl, SqL.of (kp.1 a _ hne hL), atI_nat hv, k H' _ kp (List.getElem_mem hn)⟩
    · have hpos : 0 < l.length := List.length_pos_iff.mpr hl0
      have hline : (txt l).length ≤ sizeLine := by rw [txt_len]; exact Nat.le_trans hlen big_line
      refine ⟨_, rfl, _, rfl, _, rfl, _, l.length, rfl, ⟨hline, (txt_len l).symm⟩, r, l.length, rfl, g, hpos, hlen, fun H' n kp hn => ?_⟩
      have hv : l[n]? = some l[n] := List.getElem?_eq_getElem hn
      exact .inr (.inr ⟨_, _, _, rfl, rfl, hline, atI_nat hv, k H' _ kp (List.getElem_mem hn)⟩)
end
end K21
namespace K21
open PySem L2
theorem asc_app {a b : Tx} (ha : asc a) (hb : asc b) : asc (a ++ b) := fun c hc => (List.mem_append.mp hc).elim (ha c) (hb c)
theorem asc_of {l : Tx} (h : (l.all fun c => decide (c < 128)) = true) : asc l := fun c hc => of_decide_eq_true (List.all_eq_true.mp h c hc)
theorem asc_nil : asc [] := fun _ z => by cases z
theorem join_txt {sep : Tx} (hs : asc sep) : ∀ ts : List Tx, (∀ t ∈ ts, asc t) → ∃ l, Str.join (txt sep) (ts.map txt) = txt l ∧ asc l ∧ l.length ≤ tot ts + ts.length * sep.length
  | [], _ => ⟨[], rfl, asc_nil, Nat.zero_le _⟩
  | [t], h => ⟨t, rfl, h t List.mem_cons_self, by show t.length ≤ t.length + 0 + _; omega⟩
  | t :: u :: r, h => by
    obtain ⟨l, e, a, n⟩ := join_txt hs (u :: r) fun x hx => h x (List.mem_cons_of_mem _ hx)
    refine ⟨t ++ sep ++ l, ?_, asc_app (asc_app (h t List.mem_cons_self) hs) a, ?_⟩
    · show txt t ++ txt sep ++ Str.join (txt sep) ((u :: r).map txt) = _
      rw [e, txt_app, txt_app]
    · have e2 : tot (t :: u :: r) = t.length + tot (u :: r) := rfl
      have e3 : (t :: u :: r).length * sep.length = (u :: r).length * sep.length + sep.length := Nat.succ_mul _ _
      rw [List.length_append, List.length_append, e2, e3]
      omega
theorem join_is {sep : Tx} (hs : asc sep) (ts : List Tx) (h : ∀ t ∈ ts, asc t) : ∃ l, Txt.join (txt sep) (ts.map txt) = txt l ∧ asc l ∧ l.length ≤ tot ts + ts.length * sep.length := by
  obtain ⟨l, e, q⟩ := join_txt hs ts h
  exact ⟨l, (StrLaws.glued_eq_join _ _).trans e, q⟩
theorem tot_le {b : Nat} : ∀ ts : List Tx, (∀ t ∈ ts, t.length ≤ b) → tot ts ≤ ts.length * b
  | [], _ => Nat.zero_le _
  | t :: r, h => by
    have ih := tot_le r fun u hu => h u (List.mem_cons_of_mem _ hu)
    have h1 := h t List.mem_cons_self
    have e : (t :: r).length * b = r.length * b + b := Nat.succ_mul _ _
    show t.length + tot r ≤ _
    omega
theorem sum_len (ts : List Tx) : ((ts.map txt).map (·.length)).sum = tot ts := by
  induction ts with
  | nil => rfl
  | cons t r ih =>
    show (txt t).length + ((r.map txt).map (·.length)).sum = t.length + tot r
    rw [ih, txt_len]
theorem Kp.put {r D : Addr} {H H2 : Hp} {o : HO} (k : Kp r H H2) (hD : H D = none) (n : D ≠ r) : Kp r H (upd H2 D o) :=
  ⟨fun b u hb e => by rw [upd_ne (ne_of_none e hD)]; exact k.1 b u hb e, fun g => by
    obtain ⟨x, y, h, q⟩ := k.2 g
    exact ⟨x, y, by rw [upd_ne (Ne.symm n)]; exact h, q⟩⟩
theorem Rg.ne {H : Hp} {r D : Addr} (g : Rg H r) (h : H D = none) : D ≠ r := by
  obtain ⟨x, y, e, _⟩ := g
  exact (ne_of_none e h).symm
/-- a list of texts that a comprehension makes: each by f, of at most b signs -/
def Acc (D : Addr) (H : Hp) (b i : Nat) : Prop := ∃ acc : List Tx, H D = some (.lst (acc.map tv)) ∧ (∀ t ∈ acc, asc t) ∧ (∀ t ∈ acc, t.length ≤ b) ∧ acc.length = i
theorem Acc.nil (D : Addr) (H : Hp) (b : Nat) : Acc D (upd H D (.lst [])) b 0 := ⟨[], upd_same, (fun _ z => by cases z), (fun _ z => by cases z), rfl⟩
theorem Acc.more {D : Addr} {H2 : Hp} {b i : Nat} {acc : List Tx} {t : Tx} (h2 : ∀ t ∈ acc, asc t) (h3 : ∀ t ∈ acc, t.length ≤ b) (h4 : acc.length = i) (ha : asc t) (hb : t.length ≤ b) : Acc D (upd H2 D (.lst (acc.map tv ++ [tv t]))) b (i + 1) := by
  refine ⟨acc ++ [t], by rw [upd_same, List.map_append]; rfl, fun u hu => ?_, fun u hu => ?_, by rw [List.length_append, List.length_singleton, h4]⟩
  · rcases List.mem_append.mp hu with e | e
    · exact h2 u e
    · rw [List.mem_singleton.mp e]; exact ha
  · rcases List.mem_append.mp hu with e | e
    · exact h3 u e
    · rw [List.mem_singleton.mp e]; exact hb
theorem strs_of (acc : List Tx) : acc.map tv = (acc.map txt).map V.str := by rw [List.map_map]; rfl
section
variable {P : Program} {w : World} {K : PySem.W.Frag} {mg : Str → Option Value} {base : Heap}
/-- a text of at most so many plain signs comes back -/
def Out (n : Nat) (r : Addr) (H : Hp) (Q : VK) : Prop := ∀ H' l, Kp r H H' → asc l → l.length ≤ n → Q (tv l) H'
def spWord : Sp := fun vs H Q _ => ∃ r : Addr, vs = [.ref r] ∧ Rg H r ∧ Out 3 r H Q
theorem scWd : FnScope ["_law_rng_here", "_law_signs", "_law_k"] ["_law_rng_here"] (defScope sWord) := ⟨rfl, rfl, rfl, by decide +kernel, rfl, by decide +kernel, by decide +kernel⟩
def signs : Tx := (Str.ofString "!\"#$&*+,-./0123456789:;<=>?@ABCDEFGHIJKLMNOPQRSTUVWXYZ[\\]^_`abcdefghijklmnopqrstuvwxyz{|}~").cps.toList
theorem signs_ok : (signs.all fun c => decide (c < 128)) = true ∧ signs.length = 90 := by decide +kernel
theorem signs_txt : Str.ofString "!\"#$&*+,-./0123456789:;<=>?@ABCDEFGHIJKLMNOPQRSTUVWXYZ[\\]^_`abcdefghijklmnopqrstuvwxyz{|}~" = txt signs := txt_of _
theorem ok_word {f fD fC : Addr} {fd dD dC : FuncData} (F : Fun K "_law_word" "_law_word" sWord f fd) (B : BEnv mg) (AD : At K mg "_law_draw" sDraw ["_law_rng_here", "_law_many"] fD dD) (AC : At K mg "_law_choice" sChoice ["_law_rng_here", "_law_options"] fC dC) :
    FnOk P w K mg base CX0 3 f fd ["_law_rng_here"] spWord := by
  have GD : FnOk P w K mg base CX0 1 fD dD ["_law_rng_here", "_law_many"] spDraw := ok_draw AD.F B
  have GC : FnOk P w K mg base CX0 2 fC dC ["_law_rng_here", "_law_options"] (spChoice K) := ok_choice AC.F B AD
  refine F.ok scWd (fun vs H Q E h => ?_) (fun cdv A outer_ s H vs Q E hr h => ?_)
  · obtain ⟨r, rfl, _⟩ := h
    rfl
  · obtain ⟨r, rfl, g, k⟩ := h
    have hr1 := hr.mono (j := 1) (by decide)
    refine ⟨_, pss_cons (ps_set (i := 1) scWd.nd rfl (Or.inr rfl) pe_str) (pss_one (ps_ret (pe_join pe_str (pe_lc (own := [("_law_k", 2)]) (g := gName 2) (tt := tYes) rfl scWd.nd (pi_range1 rfl B.zRange (pa_cons (pe_op op_add pe_int (pe_call GD hr1 (by rfl) AD.m AD.F.kp AD.b .nil pass0 (pa_cons (pv 0) (pa_cons pe_int pa_nil)))) pa_nil))
      (blkOk_by (N := ["_law_rng_here", "_law_signs", "_law_k"]) (sc := defScope sWord) (by decide +kernel)) (fun _ _ _ _ _ => pg_name (i := 2) scWd.nd rfl (Or.inl rfl)) (fun _ _ _ _ _ => pts_nil)
      (fun _ _ _ _ _ => pe_call GC hr (by rfl) AC.m AC.F.kp AC.b .nil pass0 (pa_cons (pv 0) (pa_cons (pv 1) pa_nil))))))), ?_⟩
    rw [signs_txt]
    refine ⟨⟨_, rfl⟩, _, rfl, r, 3, rfl, g, by decide, by decide, fun H1 n kp hn => ?_⟩
    have n1 : (1 + (n : Int)).toNat = n + 1 := by omega
    refine ⟨_, _, rfl, rfl, _, rfl, (by show -(2 ^ 62) ≤ (1 : Int) + (n : Int); omega), (by show (1 : Int) + (n : Int) < 2 ^ 62; omega), fun D hD => ?_⟩
    have hDr := (kp.2 g).ne hD
    show ∃ W, _
    rw [n1]
    refine lc_range (lo := 0) (n := n + 1) (fun i H' => Kp r H1 H' ∧ Acc D H' 1 i) ⟨Kp.of_same (same_upd hD), Acc.nil D H1 1⟩ ?_ ?_
    · rintro i H' hi ⟨ki, acc, hL, h2, h3, h4⟩
      refine ⟨rfl, _, rfl, _, rfl, r, tv signs, rfl, ki.2 (kp.2 g), .inr ⟨signs, rfl, (fun e => by have := signs_ok.2; rw [e] at this; cases this), (by rw [signs_ok.2]; decide), fun H2 c kp2 hc => ?_⟩⟩
      refine ⟨_, kp2.1 D _ hDr hL, (by rw [List.length_map, h4]; exact Nat.lt_of_lt_of_le hi (by show n + 1 ≤ 16777216; omega)), (ki.trans kp2).put hD hDr, Acc.more h2 h3 h4 (fun x hx => ?_) (Nat.le_refl _)⟩
      rw [List.mem_singleton.mp hx]
      exact of_decide_eq_true (List.all_eq_true.mp signs_ok.1 c hc)
    · rintro H' ⟨ki, acc, hL, h2, h3, h4⟩
      rw [strs_of] at hL
      have ht : tot acc ≤ acc.length * 1 := tot_le acc h3
      obtain ⟨l, e, a, m⟩ := join_is asc_nil acc h2
      refine ⟨_, D, acc.map txt, rfl, rfl, .inl (SqL.of hL), ?_, ?_⟩
      · rw [sum_len, List.length_map, lit_nil, txt_len]
        show tot acc + acc.length * 0 ≤ 16777216
        omega
      · rw [lit_nil, e]
        exact k H' l (kp.trans ki) a (by rw [List.length_nil] at m; omega)
/-! ### _law_part and _law_text, which call each other -/
def okV (n : Nat) : V → Bool
  | .str z => (z.cps.toList.all fun c => decide (c < 128)) && decide (z.cps.toList.length ≤ n)
  | _ => false
theorem okV_is {n : Nat} {x : V} (h : okV n x = true) : ∃ l, x = tv l ∧ asc l ∧ l.length ≤ n := by
  cases x with
  | str z =>
    obtain ⟨h1, h2⟩ := Bool.and_eq_true_iff.mp h
    exact ⟨z.cps.toList, congrArg V.str (txt_of z), fun c hc => of_decide_eq_true (List.all_eq_true.mp h1 c hc), of_decide_eq_true h2⟩
  | _ => cases h
theorem okV_all {n : Nat} {xs : List V} (h : (xs.all (okV n)) = true) {x : V} (hx : x ∈ xs) : ∃ l, x = tv l ∧ asc l ∧ l.length ≤ n := okV_is (List.all_eq_true.mp h x hx)
def tb : Nat → Nat
  | 0 => 8
  | d + 1 => 6 + 4 * tb d
theorem tb_small : ∀ n, n ≤ 4 → tb n ≤ 2558 := by decide
theorem tb_ge : ∀ n, 8 ≤ tb n
  | 0 => Nat.le_refl 8
  | n + 1 => by have := tb_ge n; show 8 ≤ 6 + 4 * tb n; omega
def spPart (n : Nat) : Sp := fun vs H Q _ => ∃ (r : Addr) (d : Nat), vs = [.ref r, .int (d : Int)] ∧ 1 ≤ d ∧ d ≤ n + 1 ∧ Rg H r ∧ Out (tb n) r H Q
def spText (n : Nat) : Sp := fun vs H Q _ => ∃ (r : Addr) (d : Nat), vs = [.ref r, .int (d : Int)] ∧ 1 ≤ d ∧ d ≤ n ∧ Rg H r ∧ Out (tb n) r H Q
theorem scPt : FnScope ["_law_rng_here", "_law_depth", "_law_way"] ["_law_rng_here", "_law_depth"] (defScope sPart) := ⟨rfl, rfl, rfl, by decide +kernel, rfl, by decide +kernel, by decide +kernel⟩
theorem scTx : FnScope ["_law_rng_here", "_law_depth", "_law_k"] ["_law_rng_here", "_law_depth"] (defScope sText) := ⟨rfl, rfl, rfl, by decide +kernel, rfl, by decide +kernel, by decide +kernel⟩
/-- where the drawing defs stand -/
structure GEnv (K : PySem.W.Frag) (mg : Str → Option Value) (fD fC fW fP fT : Addr) (dD dC dW dP dT : FuncData) : Prop where
  B : BEnv mg
  D : At K mg "_law_draw" sDraw ["_law_rng_here", "_law_many"] fD dD
  C : At K mg "_law_choice" sChoice ["_law_rng_here", "_law_options"] fC dC
  W : At K mg "_law_word" sWord ["_law_rng_here"] fW dW
  P : At K mg "_law_part" sPart ["_law_rng_here", "_law_depth"] fP dP
  T : At K mg "_law_text" sText ["_law_rng_here", "_law_depth"] fT dT
variable {fD fC fW fP fT : Addr} {dD dC dW dP dT : FuncData}
theorem ok_part {n j : Nat} (G : GEnv K mg fD fC fW fP fT dD dC dW dP dT) (hn : n ≤ 4) (hj : 3 ≤ j) (GT : FnOk P w K mg base CX0 j fT dT ["_law_rng_here", "_law_depth"] (spText n)) : FnOk P w K mg base CX0 (j + 1) fP dP ["_law_rng_here", "_law_depth"] (spPart n) := by
  have GD : FnOk P w K mg base CX0 1 fD dD ["_law_rng_here", "_law_many"] spDraw := ok_draw G.D.F G.B
  have GC : FnOk P w K mg base CX0 2 fC dC ["_law_rng_here", "_law_options"] (spChoice K) := ok_choice G.C.F G.B G.D
  have GW : FnOk P w K mg base CX0 3 fW dW ["_law_rng_here"] spWord := ok_word G.W.F G.B G.D G.C
  refine G.P.F.ok scPt (fun vs H Q E h => ?_) (fun cdv A outer_ s H vs Q E hr h => ?_)
  · obtain ⟨r, d, rfl, _⟩ := h
    rfl
  · obtain ⟨r, d, rfl, h1, h2, g, k⟩ := h
    have hr1 := hr.mono (j := 1) (by omega)
    have hr2 := hr.mono (j := 2) (by omega)
    have hr3 := hr.mono (j := 3) (by omega)
    refine ⟨_, pss_cons (ps_set (i := 2) scPt.nd rfl (Or.inl rfl) (pe_call GD hr1 (by rfl) G.D.m G.D.F.kp G.D.b .nil pass0 (pa_cons (pv 0) (pa_cons pe_int pa_nil))))
      (pss_cons (ps_if (pt_cmpR op_eq (pv 2) pe_int (nomark _)) (pss_one (ps_ret (pe_call GW hr3 (by rfl) G.W.m G.W.F.kp G.W.b .nil pass0 (pa_cons (pv 0) pa_nil)))) pss_nil)
      (pss_cons (ps_if (pt_cmpR op_eq (pv 2) pe_int (nomark _)) (pss_one (ps_ret (pe_op op_add_str (pe_op op_add_str pe_str (pe_call GC hr2 (by rfl) G.C.m G.C.F.kp G.C.b .nil pass0 (pa_cons (pv 0) (pa_cons (pe_lst (pa_cons pe_str (pa_cons pe_str (pa_cons pe_str (pa_cons pe_str (pa_cons pe_str (pa_cons pe_str (pa_cons pe_str (pa_cons pe_str pa_nil))))))))) pa_nil)))) pe_str))) pss_nil)
      (pss_cons (ps_if (PW.pt (pw_and (pt_cmpR op_eq (pv 2) pe_int (nomark _)) (pw_and1 (pt_cmpR op_gt (pv 1) pe_int (nomark _))))) (pss_one (ps_ret (pe_call GT hr (by rfl) G.T.m G.T.F.kp G.T.b .nil pass0 (pa_cons (pv 0) (pa_cons (pe_op op_sub (pv 1) pe_int) pa_nil))))) pss_nil)
      (pss_one (ps_ret (pe_call GC hr2 (by rfl) G.C.m G.C.F.kp G.C.b .nil pass0 (pa_cons (pv 0) (pa_cons (pe_lst (pa_cons pe_str (pa_cons pe_str (pa_cons pe_str (pa_cons pe_str (pa_cons pe_str (pa_cons pe_str (pa_cons pe_str (pa_cons pe_str (pa_cons pe_str (pa_cons pe_str pa_nil))))))))))) pa_nil)))))))), ?_⟩
    have hge := tb_ge n
    refine ⟨_, rfl, r, 5, rfl, g, by decide, by decide, fun H1 way k1 _ => ?_⟩
    refine ⟨_, rfl, rfl, _, rfl, ?_⟩
    refine ite2 (fun _ => ?_) (fun _ => ?_)
    · exact ⟨_, rfl, r, rfl, k1.2 g, fun H2 l k2 a m => k H2 l (k1.trans k2) a (by omega)⟩
    · refine ⟨_, rfl, rfl, _, rfl, ?_⟩
      refine ite2 (fun _ => ?_) (fun _ => ?_)
      · refine ⟨_, rfl, (by show 8 ≤ sizeLine; decide), fun a ha => ?_⟩
        refine ⟨r, _, rfl, (Kp.of_same (same_upd ha)).2 (k1.2 g), .inl ⟨a, _, rfl, upd_same, (k1.2 g).ne ha, (fun e => nomatch e), (by decide), fun H2 x k2 hx => ?_⟩⟩
        obtain ⟨l, rfl, la, lm⟩ := okV_all (n := 5) (by decide +kernel) hx
        have lq : Str.ofString "'" = txt [39] := by decide +kernel
        refine ⟨_, _, rfl, rfl, ?_, _, _, rfl, rfl, ?_, ?_⟩
        · rw [lq, txt_len, txt_len]
          exact Nat.le_trans (by show 1 + l.length ≤ 1000; omega) (by decide)
        · rw [lq, txt_app, txt_len, txt_len, List.length_append]
          exact Nat.le_trans (by show 1 + l.length + 1 ≤ 1000; omega) (by decide)
        · rw [lq, txt_app, txt_app]
          refine k H2 _ ((k1.trans (Kp.of_same (same_upd ha))).trans k2) (asc_app (asc_app (asc_of (by decide)) la) (asc_of (by decide))) ?_
          rw [List.length_append, List.length_append]
          show 1 + l.length + 1 ≤ tb n
          omega
      · refine ⟨_, rfl, rfl, _, rfl, ?_⟩
        refine ite2 (fun _ => ?_) (fun _ => ?_)
        · refine ⟨_, rfl, _, _, rfl, rfl, _, rfl, ?_⟩
          refine ite2 (fun h5 => ?_) (fun h5 => ?_)
          · have h5' : 1 < d := by have := of_decide_eq_true h5; omega
            refine ⟨_, rfl, _, rfl, _, _, rfl, rfl, r, d - 1, ?_, by omega, by omega, k1.2 g, fun H2 l k2 a m => k H2 l (k1.trans k2) a m⟩
            show [V.ref r, V.int ((d : Int) - 1)] = [V.ref r, V.int ((d - 1 : Nat) : Int)]
            congr 3
            omega
          · refine ⟨_, rfl, (by show 10 ≤ sizeLine; decide), fun a ha => ?_⟩
            refine ⟨r, _, rfl, (Kp.of_same (same_upd ha)).2 (k1.2 g), .inl ⟨a, _, rfl, upd_same, (k1.2 g).ne ha, (fun e => nomatch e), (by decide), fun H2 x k2 hx => ?_⟩⟩
            obtain ⟨l, rfl, la, lm⟩ := okV_all (n := 8) (by decide +kernel) hx
            exact k H2 l ((k1.trans (Kp.of_same (same_upd ha))).trans k2) la (by omega)
        · refine ⟨_, rfl, (by show 10 ≤ sizeLine; decide), fun a ha => ?_⟩
          refine ⟨r, _, rfl, (Kp.of_same (same_upd ha)).2 (k1.2 g), .inl ⟨a, _, rfl, upd_same, (k1.2 g).ne ha, (fun e => nomatch e), (by decide), fun H2 x k2 hx => ?_⟩⟩
          obtain ⟨l, rfl, la, lm⟩ := okV_all (n := 8) (by decide +kernel) hx
          exact k H2 l ((k1.trans (Kp.of_same (same_upd ha))).trans k2) la (by omega)
theorem ok_text {n j : Nat} (G : GEnv K mg fD fC fW fP fT dD dC dW dP dT) (hn : n ≤ 3) (hj : 3 ≤ j) (GP : FnOk P w K mg base CX0 j fP dP ["_law_rng_here", "_law_depth"] (spPart n)) : FnOk P w K mg base CX0 (j + 1) fT dT ["_law_rng_here", "_law_depth"] (spText (n + 1)) := by
  have GD : FnOk P w K mg base CX0 1 fD dD ["_law_rng_here", "_law_many"] spDraw := ok_draw G.D.F G.B
  refine G.T.F.ok scTx (fun vs H Q E h => ?_) (fun cdv A outer_ s H vs Q E hr h => ?_)
  · obtain ⟨r, d, rfl, _⟩ := h
    rfl
  · obtain ⟨r, d, rfl, h1, h2, g, k⟩ := h
    have hr1 := hr.mono (j := 1) (by omega)
    refine ⟨_, pss_one (ps_ret (pe_op op_add_str (pe_op op_add_str pe_str (pe_join pe_str (pe_lc (own := [("_law_k", 2)]) (g := gName 2) (tt := tYes) rfl scTx.nd (pi_range1 rfl G.B.zRange (pa_cons (pe_call GD hr1 (by rfl) G.D.m G.D.F.kp G.D.b .nil pass0 (pa_cons (pv 0) (pa_cons pe_int pa_nil))) pa_nil))
      (blkOk_by (N := ["_law_rng_here", "_law_depth", "_law_k"]) (sc := defScope sText) (by decide +kernel)) (fun _ _ _ _ _ => pg_name (i := 2) scTx.nd rfl (Or.inl rfl)) (fun _ _ _ _ _ => pts_nil)
      (fun _ _ _ _ _ => pe_call GP hr (by rfl) G.P.m G.P.F.kp G.P.b .nil pass0 (pa_cons (pv 0) (pa_cons (pv 1) pa_nil)))))) pe_str)), ?_⟩
    have hsm := tb_small n (by omega)
    refine ⟨⟨_, rfl⟩, _, rfl, r, 5, rfl, g, by decide, by decide, fun H1 c kp hn5 => ?_⟩
    refine ⟨_, rfl, by omega, by omega, fun D hD => ?_⟩
    have hDr := (kp.2 g).ne hD
    show ∃ W, _
    rw [Int.toNat_natCast]
    refine lc_range (lo := 0) (n := c) (fun i H' => Kp r H1 H' ∧ Acc D H' (tb n) i) ⟨Kp.of_same (same_upd hD), Acc.nil D H1 (tb n)⟩ ?_ ?_
    · rintro i H' hi ⟨ki, acc, hL, h3, h4, h5⟩
      refine ⟨rfl, _, rfl, _, rfl, r, d, rfl, h1, h2, ki.2 (kp.2 g), fun H2 l k2 a m => ?_⟩
      exact ⟨_, k2.1 D _ hDr hL, (by rw [List.length_map, h5]; exact Nat.lt_of_lt_of_le hi (by show c ≤ 16777216; omega)), (ki.trans k2).put hD hDr, Acc.more h3 h4 h5 a m⟩
    · rintro H' ⟨ki, acc, hL, h3, h4, h5⟩
      rw [strs_of] at hL
      have ht : tot acc ≤ acc.length * tb n := tot_le acc h4
      have hm : acc.length * tb n ≤ 4 * tb n := Nat.mul_le_mul_right _ (by omega)
      obtain ⟨l, e, a, m⟩ := join_is (sep := [32]) (asc_of (by decide)) acc h3
      have lo : Str.ofString "(" = txt [40] := lit_open
      have lc : Str.ofString ")" = txt [41] := lit_close
      have lm : l.length ≤ 4 * tb n + 4 := by
        have : acc.length * ([32] : Tx).length ≤ 4 := by show acc.length * 1 ≤ 4; omega
        omega
      refine ⟨_, D, acc.map txt, rfl, rfl, .inl (SqL.of hL), ?_, ?_⟩
      · rw [sum_len, List.length_map, lit_space, txt_len]
        show tot acc + acc.length * 1 ≤ 16777216
        omega
      · rw [lit_space, e, lo, lc]
        refine ⟨_, _, rfl, rfl, ?_, _, _, rfl, rfl, ?_, ?_⟩
        · rw [txt_len, txt_len]
          exact Nat.le_trans (by show 1 + l.length ≤ 100000; omega) (by decide)
        · rw [txt_app, txt_len, txt_len, List.length_append]
          exact Nat.le_trans (by show 1 + l.length + 1 ≤ 100000; omega) (by decide)
        · rw [txt_app, txt_app]
          refine k H' _ (kp.trans ki) (asc_app (asc_app (asc_of (by decide)) a) (asc_of (by decide))) ?_
          rw [List.length_append, List.length_append]
          show 1 + l.length + 1 ≤ 6 + 4 * tb n
          omega
/-- at depth n -/
theorem ok_texts (G : GEnv K mg fD fC fW fP fT dD dC dW dP dT) : ∀ n, n ≤ 4 → FnOk P w K mg base CX0 (2 * n + 3) fT dT ["_law_rng_here", "_law_depth"] (spText n)
  | 0, _ => by
    refine (G.T.F.ok (k := 2) (sp := spText 0) scTx (fun vs H Q E h => ?_) (fun cdv A outer_ s H vs Q E hr h => ?_))
    · obtain ⟨r, d, rfl, _⟩ := h
      rfl
    · obtain ⟨r, d, rfl, h1, h2, _⟩ := h
      omega
  | n + 1, hn => by
    have ih := ok_texts G n (by omega)
    have p := ok_part G (by omega) (by omega) ih
    have t := ok_text G (by omega) (by omega) p
    exact t
end
end K21
namespace K21
open PySem L2
theorem asc_rep {l : Tx} (h : asc l) (n : Nat) : asc (rep n l) := fun c hc => by
  obtain ⟨x, hx, hc⟩ := List.mem_flatten.mp hc
  rw [List.eq_of_mem_replicate hx] at hc
  exact h c hc
theorem cutS_any (l : Tx) (lo hi : Option Int) : ∃ l', cutS (txt l) lo hi = txt l' ∧ (asc l → asc l') ∧ l'.length ≤ l.length := by
  refine ⟨(l.drop (HT.sIx (txt l).length 0 lo)).take (HT.sIx (txt l).length (txt l).length hi - HT.sIx (txt l).length 0 lo), rfl, fun h c hc => h c (List.mem_of_mem_drop (List.mem_of_mem_take hc)), ?_⟩
  rw [List.length_take, List.length_drop]
  omega
def bd : Nat → Nat
  | 0 => 5000
  | i + 1 => 2 * bd i + 1
theorem bd_ge : ∀ i, 5000 ≤ bd i
  | 0 => Nat.le_refl _
  | i + 1 => by have := bd_ge i; show 5000 ≤ 2 * bd i + 1; omega
theorem bd_le : ∀ i, i ≤ 3 → bd i ≤ 40007 := by decide
section
variable {P : Program} {w : World} {K : PySem.W.Frag} {mg : Str → Option Value} {base : Heap}
variable {fD fC fW fP fT : Addr} {dD dC dW dP dT : FuncData}
/-! ### _law_deep -/
def spDeep : Sp := fun vs H Q _ => ∃ (r : Addr) (d : Nat), vs = [.ref r, .int (d : Int)] ∧ 1 ≤ d ∧ d ≤ 16 ∧ Rg H r ∧ Out 100 r H Q
theorem scDe : FnScope ["_law_rng_here", "_law_depth", "_law_word_here"] ["_law_rng_here", "_law_depth"] (defScope sDeep) := ⟨rfl, rfl, rfl, by decide +kernel, rfl, by decide +kernel, by decide +kernel⟩
theorem ok_deep {f : Addr} {fd : FuncData} (F : Fun K "_law_deep" "_law_deep" sDeep f fd) (G : GEnv K mg fD fC fW fP fT dD dC dW dP dT) : FnOk P w K mg base CX0 3 f fd ["_law_rng_here", "_law_depth"] spDeep := by
  have GC : FnOk P w K mg base CX0 2 fC dC ["_law_rng_here", "_law_options"] (spChoice K) := ok_choice G.C.F G.B G.D
  refine F.ok scDe (fun vs H Q E h => ?_) (fun cdv A outer_ s H vs Q E hr h => ?_)
  · obtain ⟨r, d, rfl, _⟩ := h
    rfl
  · obtain ⟨r, d, rfl, h1, h2, g, k⟩ := h
    refine ⟨_, pss_cons (ps_set (i := 2) scDe.nd rfl (Or.inl rfl) (pe_call GC hr (by rfl) G.C.m G.C.F.kp G.C.b .nil pass0 (pa_cons (pv 0) (pa_cons (pe_lst (pa_cons pe_str (pa_cons pe_str (pa_cons pe_str (pa_cons pe_str pa_nil))))) pa_nil))))
      (pss_one (ps_ret (pe_op op_add_str (pe_op op_add_str (pe_op op_add_str (pe_op op_mulS (pe_op op_add_str pe_str (pv 2)) (pe_op op_sub (pv 1) pe_int)) pe_str) (pe_call GC hr (by rfl) G.C.m G.C.F.kp G.C.b .nil pass0 (pa_cons (pv 0) (pa_cons (pe_lst (pa_cons pe_str (pa_cons pe_str (pa_cons pe_str pa_nil)))) pa_nil)))) (pe_op op_mulS pe_str (pv 1))))), ?_⟩
    refine ⟨_, rfl, (by show 4 ≤ sizeLine; decide), fun a ha => ?_⟩
    refine ⟨r, _, rfl, (Kp.of_same (same_upd ha)).2 g, .inl ⟨a, _, rfl, upd_same, g.ne ha, (fun e => nomatch e), (by decide), fun H1 x k1 hx => ?_⟩⟩
    obtain ⟨u, rfl, ua, um⟩ := okV_all (n := 4) (by decide +kernel) hx
    have k1' : Kp r H H1 := Kp.trans (Kp.of_same (same_upd ha)) k1
    have ll : ∀ (x y : Tx), x.length + y.length ≤ 100000 → (txt x).length + (txt y).length ≤ sizeLine := fun x y h => by
      rw [txt_len, txt_len]
      exact Nat.le_trans h (by decide)
    have hb : big = 1000000 := rfl
    have m5 : (([40] ++ u).length) * (d - 1) ≤ 5 * 15 := Nat.mul_le_mul (by rw [List.length_append]; show 1 + u.length ≤ 5; omega) (by omega)
    have r1 : (rep (d - 1) ([40] ++ u)).length ≤ 75 := by rw [rep_len, Nat.mul_comm]; exact m5
    have r2 : (rep d [41]).length = d := by rw [rep_len]; show d * 1 = d; omega
    refine ⟨_, rfl, txt [40], txt u, (by rw [lit_open]), rfl, ll _ _ (by show 1 + u.length ≤ 100000; omega), _, rfl, _, _, rfl, rfl, [40] ++ u, d - 1, by rw [txt_app], ?_, by omega, by omega, _, txt [40], rfl, (by rw [lit_open]), ll _ _ (by show _ + 1 ≤ 100000; omega), ?_⟩
    · show V.int ((d : Int) - 1) = V.int ((d - 1 : Nat) : Int)
      congr 1
      omega
    refine ⟨_, rfl, (by show 3 ≤ sizeLine; decide), fun a2 ha2 => ?_⟩
    refine ⟨r, _, rfl, (Kp.of_same (same_upd ha2)).2 (k1'.2 g), .inl ⟨a2, _, rfl, upd_same, (k1'.2 g).ne ha2, (fun e => nomatch e), (by decide), fun H2 x k2 hx => ?_⟩⟩
    obtain ⟨v, rfl, va, vm⟩ := okV_all (n := 3) (by decide +kernel) hx
    have k2' : Kp r H H2 := k1'.trans (Kp.trans (Kp.of_same (same_upd ha2)) k2)
    refine ⟨txt (rep (d - 1) ([40] ++ u) ++ [40]), txt v, (by rw [txt_app]), rfl, ll _ _ (by rw [List.length_append]; show _ + 1 + v.length ≤ 100000; omega), _, rfl, [41], d, (by rw [lit_close]), rfl, by omega, by show 1 * d ≤ big; omega, txt (rep (d - 1) ([40] ++ u) ++ [40] ++ v), txt (rep d [41]), (by rw [txt_app]), rfl, ll _ _ (by rw [List.length_append, List.length_append]; show _ + 1 + v.length + _ ≤ 100000; omega), ?_⟩
    rw [txt_app]
    refine k H2 _ k2' (asc_app (asc_app (asc_app (asc_rep (asc_app (asc_of (by decide)) ua) _) (asc_of (by decide))) va) (asc_rep (asc_of (by decide)) _)) ?_
    rw [List.length_append, List.length_append, List.length_append]
    show _ + 1 + v.length + _ ≤ 100
    omega
/-! ### _law_bent -/
def spBent : Sp := fun vs H Q _ => ∃ (r : Addr) (l : Tx), vs = [.ref r, tv l] ∧ Rg H r ∧ asc l ∧ l.length ≤ 5000 ∧ Out 40007 r H Q
theorem scBn : FnScope ["_law_rng_here", "_law_line", "_law_turn", "_law_at", "_law_way", "_law_sign"] ["_law_rng_here", "_law_line"] (defScope sBent) := ⟨rfl, rfl, rfl, by decide +kernel, rfl, by decide +kernel, by decide +kernel⟩
def bends : Tx := (Str.ofString " ()'a-+:  ();\"/").cps.toList
theorem bends_ok : (bends.all fun c => decide (c < 128)) = true ∧ bends.length = 15 := by decide +kernel
theorem bends_txt : Str.ofString " ()'a-+:  ();\"/" = txt bends := txt_of _
theorem ok_bent {f : Addr} {fd : FuncData} (F : Fun K "_law_bent" "_law_bent" sBent f fd) (G : GEnv K mg fD fC fW fP fT dD dC dW dP dT) : FnOk P w K mg base CX0 3 f fd ["_law_rng_here", "_law_line"] spBent := by
  have GD : FnOk P w K mg base CX0 1 fD dD ["_law_rng_here", "_law_many"] spDraw := ok_draw G.D.F G.B
  have GC : FnOk P w K mg base CX0 2 fC dC ["_law_rng_here", "_law_options"] (spChoice K) := ok_choice G.C.F G.B G.D
  refine F.ok scBn (fun vs H Q E h => ?_) (fun cdv A outer_ s H vs Q E hr h => ?_)
  · obtain ⟨r, l, rfl, _⟩ := h
    rfl
  · obtain ⟨r, l, rfl, g, la, lm, k⟩ := h
    have hr1 := hr.mono (j := 1) (by decide)
    refine ⟨_, pss_cons (ps_for PassesOwn.never rfl (pi_range1 (by rfl) G.B.zRange (pa_cons (pe_call GC hr (by rfl) G.C.m G.C.F.kp G.C.b .nil pass0 (pa_cons (pv 0) (pa_cons (pe_lst (pa_cons pe_int (pa_cons pe_int (pa_cons pe_int (pa_cons pe_int (pa_cons pe_int pa_nil)))))) pa_nil))) pa_nil)) (pg_name (i := 2) scBn.nd rfl (Or.inl rfl))
        (pss_cons (ps_par3 (i := 3) (j := 4) (l := 5) rfl scBn.nd rfl rfl rfl (by decide) (by decide) (by decide) rfl rfl rfl
          (pa_cons (pe_call GD hr1 (by rfl) G.D.m G.D.F.kp G.D.b .nil pass0 (pa_cons (pv 0) (pa_cons (pe_op op_add (pe_callB call_len_str (by rfl) G.B.zLen PySem.boot_len (pa_cons (pv 1) pa_nil)) pe_int) pa_nil)))
            (pa_cons (pe_call GD hr1 (by rfl) G.D.m G.D.F.kp G.D.b .nil pass0 (pa_cons (pv 0) (pa_cons pe_int pa_nil)))
            (pa_cons (pe_call GC hr (by rfl) G.C.m G.C.F.kp G.C.b .nil pass0 (pa_cons (pv 0) (pa_cons pe_str pa_nil))) pa_nil))) (by rfl))
        (pss_one (ps_if (pt_cmpR op_eq (pv 4) pe_int (nomark _))
          (pss_one (ps_set (i := 1) scBn.nd rfl (Or.inl rfl) (pe_op op_add_str (pe_op op_add_str (pe_slice sl_str (pv 1) po_none (po_some (pv 3))) (pv 5)) (pe_slice sl_str (pv 1) (po_some (pv 3)) po_none))))
          (pss_one (ps_set (i := 1) scBn.nd rfl (Or.inl rfl) (pe_op op_add_str (pe_op op_add_str (pe_slice sl_str (pv 1) po_none (po_some (pv 3))) (pe_ix ix_list (pe_lst (pa_cons pe_str (pa_cons (pv 5) pa_nil))) (pe_op op_sub (pv 4) pe_int) (fun _ _ => rfl))) (pe_slice sl_str (pv 1) (po_some (pe_op op_add (pv 3) pe_int)) po_none))))))))
      (pss_one (ps_ret (pv 1))), ?_⟩
    have hb : big = 1000000 := rfl
    refine ⟨_, rfl, (by show 5 ≤ sizeLine; decide), fun a ha => ?_⟩
    refine ⟨r, _, rfl, (Kp.of_same (same_upd ha)).2 g, .inl ⟨a, _, rfl, upd_same, g.ne ha, (fun e => nomatch e), (by decide), fun H1 x k1 hx => ?_⟩⟩
    have k1' : Kp r H H1 := Kp.trans (Kp.of_same (same_upd ha)) k1
    obtain ⟨n, rfl, hn⟩ : ∃ n : Nat, x = V.int (n : Int) ∧ n ≤ 3 := by
      rcases List.mem_cons.mp hx with e | hx
      · exact ⟨0, e, by decide⟩
      rcases List.mem_cons.mp hx with e | hx
      · exact ⟨0, e, by decide⟩
      rcases List.mem_cons.mp hx with e | hx
      · exact ⟨1, e, by decide⟩
      rcases List.mem_cons.mp hx with e | hx
      · exact ⟨2, e, by decide⟩
      · exact ⟨3, List.mem_singleton.mp hx, by decide⟩
    refine ⟨_, rfl, by omega, by omega, ?_⟩
    show ∃ W, _
    rw [Int.toNat_natCast]
    refine for_range (lo := 0) (n := n) (fun i σ H' => ∃ (u : Tx) (x y z q : Option V), σ = [some (.ref r), some (tv u), x, y, z, q] ∧ Kp r H H' ∧ asc u ∧ u.length ≤ bd i) ⟨l, none, none, none, none, rfl, k1', la, lm⟩ ?_ ?_
    · rintro i σ H' hi ⟨u, x, y, z, q, rfl, kp, ua, um⟩
      have hu : u.length ≤ 40007 := Nat.le_trans um (bd_le i (by omega))
      have hu2 : i + 1 ≤ 3 → 2 * u.length + 1 ≤ bd (i + 1) := fun _ => by show _ ≤ 2 * bd i + 1; omega
      have hline : (txt u).length ≤ sizeLine := by rw [txt_len]; exact Nat.le_trans hu (by decide)
      have ll : ∀ (x y : Tx), x.length + y.length ≤ 100000 → (txt x).length + (txt y).length ≤ sizeLine := fun x y h => by
        rw [txt_len, txt_len]
        exact Nat.le_trans h (by decide)
      refine ⟨_, rfl, _, rfl, txt u, rfl, hline, _, _, rfl, rfl, r, u.length + 1, ?_, kp.2 g, Nat.succ_pos _, by omega, fun H2 at_ k2 hat => ?_⟩
      · rw [txt_len]
        rfl
      refine ⟨_, rfl, r, 3, rfl, k2.2 (kp.2 g), by decide, by decide, fun H3 way k3 hway => ?_⟩
      refine ⟨_, rfl, r, tv bends, (by rw [bends_txt]; rfl), k3.2 (k2.2 (kp.2 g)), .inr ⟨bends, rfl, (fun e => by have := bends_ok.2; rw [e] at this; cases this), (by rw [bends_ok.2]; decide), fun H4 c k4 hc => ?_⟩⟩
      have kp4 : Kp r H H4 := ((kp.trans k2).trans k3).trans k4
      have ca : asc [c] := fun x hx => by rw [List.mem_singleton.mp hx]; exact of_decide_eq_true (List.all_eq_true.mp bends_ok.1 c hc)
      refine ⟨_, _, _, rfl, ?_⟩
      refine ⟨_, rfl, rfl, _, rfl, ?_⟩
      obtain ⟨p1, e1, a1, m1⟩ := cutS_any u none (some (at_ : Int))
      refine ite2 (fun h1 => ?_) (fun h1 => ?_)
      · obtain ⟨p2, e2, a2, m2⟩ := cutS_any u (some (at_ : Int)) none
        refine ⟨_, rfl, _, rfl, _, rfl, txt u, rfl, hline, ?_⟩
        rw [e1]
        refine ⟨_, rfl, _, _, rfl, rfl, ll _ _ (by show p1.length + 1 ≤ 100000; omega), ?_⟩
        refine ⟨_, rfl, _, rfl, _, rfl, txt u, rfl, hline, ?_⟩
        rw [e2]
        refine ⟨txt (p1 ++ [c]), txt p2, (by rw [txt_app]), rfl, ll _ _ (by rw [List.length_append]; show p1.length + 1 + _ ≤ 100000; omega), ?_⟩
        rw [txt_app]
        refine ⟨_, _, _, _, _, rfl, kp4, asc_app (asc_app (a1 ua) ca) (a2 ua), ?_⟩
        rw [List.length_append, List.length_append]
        show p1.length + 1 + p2.length ≤ 2 * bd i + 1
        omega
      · have hw : way = 1 ∨ way = 2 := by
          have : ¬ way = 0 := fun e => h1 (by rw [e]; decide)
          omega
        obtain ⟨p2, e2, a2, m2⟩ := cutS_any u (some ((at_ : Int) + 1)) none
        refine ⟨_, rfl, _, rfl, _, rfl, txt u, rfl, hline, ?_⟩
        rw [e1]
        refine ⟨_, rfl, (by show 2 ≤ sizeLine; decide), fun b hb => ?_⟩
        obtain ⟨mid, em, am, lm⟩ : ∃ mid, atI [V.str (Str.ofString ""), tv [c]] ((way : Int) - 1) = some (tv mid) ∧ asc mid ∧ mid.length ≤ 1 := by
          rcases hw with e | e
          · subst e
            exact ⟨[], by rw [lit_nil]; exact atI_nat (j := 0) rfl, asc_nil, Nat.zero_le _⟩
          · subst e
            exact ⟨[c], atI_nat (j := 1) rfl, ca, Nat.le_refl _⟩
        refine ⟨_, rfl, _, _, rfl, rfl, b, _, _, _, rfl, rfl, SqL.of upd_same, em, _, _, rfl, rfl, ll _ _ (by omega), ?_⟩
        refine ⟨_, rfl, _, rfl, _, _, rfl, rfl, _, rfl, txt u, rfl, hline, ?_⟩
        rw [e2]
        refine ⟨txt (p1 ++ mid), txt p2, (by rw [txt_app]), rfl, ll _ _ (by rw [List.length_append]; omega), ?_⟩
        rw [txt_app]
        refine ⟨_, _, _, _, _, rfl, kp4.trans (Kp.of_same (same_upd hb)), asc_app (asc_app (a1 ua) am) (a2 ua), ?_⟩
        rw [List.length_append, List.length_append]
        show p1.length + mid.length + p2.length ≤ 2 * bd i + 1
        omega
    · rintro σ H' ⟨u, x, y, z, q, rfl, kp, ua, um⟩
      exact ⟨_, rfl, k H' u kp ua (Nat.le_trans um (bd_le n hn))⟩
end
end K21
namespace K21
open PySem L2
def lastT : Tx := [40, 97, 32, 40, 98, 32, 99, 41, 32, 39, 100, 32, 40, 101, 39, 41]
theorem last_txt : Str.ofString "(a (b c) 'd (e')" = txt lastT := by decide +kernel
theorem p1 : prog [40, 41] = some [] := by decide +kernel
theorem p2 : prog lastT = some [[97], [40, 98, 32, 99, 41], [39, 100, 32, 40, 101, 39]] := by decide +kernel
theorem rep_add (a b : Nat) (l : Tx) : rep (a + b) l = rep a l ++ rep b l := by unfold rep; rw [← List.replicate_append_replicate, List.flatten_append]
theorem begun_open {l : Tx} {s : Sc} (h : s.depth + 1 < 14) : ∃ s', begun l s 40 = some s' ∧ s'.pos = s.pos + 1 ∧ s'.depth = s.depth + 1 ∧ s'.ready = 1 := by
  unfold begun
  dsimp only
  rw [if_pos rfl, if_pos h]
  exact ⟨_, rfl, rfl, rfl, rfl⟩
theorem begun_full {l : Tx} {s : Sc} (h : ¬ s.depth + 1 < 14) : begun l s 40 = none := by
  unfold begun
  dsimp only
  rw [if_pos rfl, if_neg h]
theorem step_open {l : Tx} {s : Sc} (h : s.ready = 0 ∨ s.ready = 1 ∨ s.ready = 3) : step l s 40 = begun l s 40 := by
  unfold step
  rw [if_neg (by omega), if_neg (by omega), if_neg (by omega)]
theorem open_none {l : Tx} (h : ∀ i, i < 14 → l[i]? = some 40) : scan l sc0 = none := by
  have key : ∀ j : Nat, j ≤ 13 → ∃ s : Sc, s.pos = j ∧ s.depth = (j : Int) ∧ (s.ready = 0 ∨ s.ready = 1) ∧ scan l sc0 = scan l s := by
    intro j
    induction j with
    | zero => intro _; exact ⟨sc0, rfl, rfl, .inl rfl, rfl⟩
    | succ j ih =>
      intro hj
      obtain ⟨s, h1, h2, h3, h4⟩ := ih (by omega)
      obtain ⟨s', e, e1, e2, e3⟩ := begun_open (l := l) (s := s) (by omega)
      exact ⟨s', by omega, by omega, .inr e3, by rw [h4, scan_some (s := s) (by rw [h1]; exact h j (by omega)) ((step_open (by omega)).trans e)]⟩
  obtain ⟨s, h1, h2, h3, h4⟩ := key 13 (Nat.le_refl _)
  rw [h4, scan_none (s := s) (by rw [h1]; exact h 13 (by omega)) ((step_open (by omega)).trans (begun_full (by omega)))]
theorem pair_none {l : Tx} (h : ∀ j, j < 14 → l[3 * j]? = some 40 ∧ l[3 * j + 1]? = some 97 ∧ l[3 * j + 2]? = some 32) : scan l sc0 = none := by
  have key : ∀ j : Nat, j ≤ 13 → ∃ s : Sc, s.pos = 3 * j ∧ s.depth = (j : Int) ∧ (s.ready = 0 ∨ s.ready = 3) ∧ scan l sc0 = scan l s := by
    intro j
    induction j with
    | zero => intro _; exact ⟨sc0, rfl, rfl, .inl rfl, rfl⟩
    | succ j ih =>
      intro hj
      obtain ⟨s, h1, h2, h3, h4⟩ := ih (by omega)
      obtain ⟨c1, c2, c3⟩ := h j (by omega)
      obtain ⟨s', e, e1, e2, e3⟩ := begun_open (l := l) (s := s) (by omega)
      have hw : wordEnd l s'.pos = s'.pos + 1 := by
        rw [e1, h1, wordEnd_more c2 rfl, wordEnd_stop (i := 3 * j + 1 + 1) c3 rfl]
      obtain ⟨s2, f, f1, f2, f3⟩ : ∃ s2, step l s' 97 = some s2 ∧ s2.pos = s'.pos + 1 ∧ s2.depth = s'.depth ∧ s2.ready = 2 := by
        unfold step
        rw [if_neg (fun z => by cases z.1), if_neg (fun z => by cases z.1), if_neg (by omega)]
        unfold begun
        dsimp only
        rw [if_neg (by decide), if_neg (show ¬ (97 : Nat) = 39 by decide), hw, if_pos (Nat.lt_succ_self _)]
        refine ⟨_, rfl, rfl, ?_, rfl⟩
        unfold ended
        dsimp only
        split <;> rfl
      have g : step l s2 32 = some { s2 with pos := s2.pos + 1, ready := 3 } := by
        unfold step
        rw [if_neg (fun z => by cases z.1), if_pos ⟨rfl, f3⟩]
      refine ⟨{ s2 with pos := s2.pos + 1, ready := 3 }, by show s2.pos + 1 = _; omega, by show s2.depth = _; omega, .inr rfl, ?_⟩
      rw [h4, scan_some (s := s) (by rw [h1]; exact c1) ((step_open (by omega)).trans e), scan_some (s := s') (by rw [e1, h1]; exact c2) f, scan_some (s := s2) (by rw [f1, e1, h1]; exact c3) g]
  obtain ⟨s, h1, h2, h3, h4⟩ := key 13 (Nat.le_refl _)
  rw [h4, scan_none (s := s) (by rw [h1]; exact (h 13 (by omega)).1) ((step_open (by omega)).trans (begun_full (by omega)))]
theorem far1 (x : Tx) : prog (rep 1200 [40] ++ x) = none := by
  rw [← scan_prog, show 1200 = 14 + 1186 from rfl, rep_add, List.append_assoc]
  refine open_none fun i hi => ?_
  rw [List.getElem?_append_left (by rw [rep_len]; exact hi)]
  exact (by decide : ∀ i, i < 14 → (rep 14 [40])[i]? = some 40) i hi
theorem far3 (x : Tx) : prog (rep 1200 [40, 97, 32] ++ x) = none := by
  rw [← scan_prog, show 1200 = 14 + 1186 from rfl, rep_add, List.append_assoc]
  have e : ∀ i, i < 42 → (rep 14 [40, 97, 32] ++ (rep 1186 [40, 97, 32] ++ x))[i]? = (rep 14 [40, 97, 32])[i]? := fun i hi => List.getElem?_append_left (by rw [rep_len]; exact hi)
  have d : ∀ j, j < 14 → (rep 14 [40, 97, 32])[3 * j]? = some 40 ∧ (rep 14 [40, 97, 32])[3 * j + 1]? = some 97 ∧ (rep 14 [40, 97, 32])[3 * j + 2]? = some 32 := by decide
  refine pair_none fun j hj => ?_
  rw [e _ (by omega), e _ (by omega), e _ (by omega)]
  exact d j hj
theorem far4 : prog (rep 1200 [41]) = none := by
  rw [← scan_prog]
  refine scan_none (c := 41) rfl ?_
  unfold step
  rw [if_neg (fun z => by rcases z.2 with q | q <;> cases q), if_neg (fun z => by cases z.1), if_pos (.inr ⟨rfl, by decide⟩)]
end K21
namespace K21
open PySem L2
abbrev sLaw : Stmt := top 35
theorem same_kp {r : Addr} {H H1 H2 : Hp} (s : Same H H1) (h : H r = none) (k : Kp r H1 H2) : Same H H2 := fun b o e => k.1 b o (ne_of_none e h) (s b o e)
theorem fin1 : Str.ofString "a" = txt [97] := by decide +kernel
theorem fin2 : Str.ofString "(b c)" = txt [40, 98, 32, 99, 41] := by decide +kernel
theorem fin3 : Str.ofString "'d (e'" = txt [39, 100, 32, 40, 101, 39] := by decide +kernel
def finD : PyData := .list [.list [], .list [.str (txt [97]), .str (txt [40, 98, 32, 99, 41]), .str (txt [39, 100, 32, 40, 101, 39])]]
theorem finSh : SeqAt.shaped finD = true := by decide +kernel
theorem finEq : PyData.eqv finD finD = true := by simp [finD, PyData.eqv, PyData.eqvAll]
theorem lit_pair : Str.ofString "()" = txt [40, 41] := by decide +kernel
theorem lit_a : Str.ofString "(a " = txt [40, 97, 32] := by decide +kernel
theorem lit_b : Str.ofString "b" = txt [98] := by decide +kernel
def far : List Tx := [rep 1200 [40], rep 1200 [40] ++ rep 1200 [41], rep 1200 [40, 97, 32] ++ [98] ++ rep 1200 [41], rep 1200 [41], rep 1200 [40, 97, 32]]
theorem far_ok : ∀ l ∈ far, l.length ≤ big ∧ asc l ∧ prog l = none := by
  have a1 : asc (rep 1200 [40]) := asc_rep (asc_of (by decide)) _
  have a2 : asc (rep 1200 [41]) := asc_rep (asc_of (by decide)) _
  have a3 : asc (rep 1200 [40, 97, 32]) := asc_rep (asc_of (by decide)) _
  have b1 : (rep 1200 [40]).length = 1200 := by rw [rep_len]; rfl
  have b2 : (rep 1200 [41]).length = 1200 := by rw [rep_len]; rfl
  have b3 : (rep 1200 [40, 97, 32]).length = 3600 := by rw [rep_len]; rfl
  have hb : big = 1000000 := rfl
  intro l hl
  rcases List.mem_cons.mp hl with e | hl
  · subst e
    exact ⟨by omega, a1, by rw [← List.append_nil (rep 1200 [40])]; exact far1 []⟩
  rcases List.mem_cons.mp hl with e | hl
  · subst e
    exact ⟨by rw [List.length_append]; omega, asc_app a1 a2, far1 _⟩
  rcases List.mem_cons.mp hl with e | hl
  · subst e
    exact ⟨by rw [List.length_append, List.length_append, List.length_singleton]; omega, asc_app (asc_app a3 (asc_of (by decide))) a2, by rw [List.append_assoc]; exact far3 _⟩
  rcases List.mem_cons.mp hl with e | hl
  · subst e
    exact ⟨by omega, a2, far4⟩
  · rw [List.mem_singleton.mp hl]
    exact ⟨by omega, a3, by rw [← List.append_nil (rep 1200 [40, 97, 32])]; exact far3 []⟩
theorem dpRep {K : PySem.W.Frag} {H : Hp} (x : Str) : ∀ n : Nat, DpAll K H (List.replicate n (.str x)) (List.replicate n (.str x))
  | 0 => .nil
  | n + 1 => .cons (.str x) (dpRep x n)
theorem shF5 : SeqAt.shaped (.list (List.replicate 5 (.str (Str.ofString "form")))) = true := by decide +kernel
theorem shF6 : SeqAt.shaped (.list (List.replicate 6 (.str (Str.ofString "string")))) = true := by decide +kernel
theorem eqRep (x : Str) (n : Nat) : PyData.eqv (.list (List.replicate n (.str x))) (.list (List.replicate n (.str x))) = true := by
  rw [PyData.eqv]
  induction n with
  | zero => simp [PyData.eqvAll]
  | succ n ih =>
    rw [List.replicate_succ, PyData.eqvAll, ih, PyData.eqv]
    simp
section
variable {P : Program} {w : World} {K : PySem.W.Frag} {mg : Str → Option Value} {base : Heap}
variable {fD fC fW fP fT : Addr} {dD dC dW dP dT : FuncData}
def spLaw (K : PySem.W.Frag) : Sp := fun vs H Q _ => ∃ (a : Addr) (ns : List Int), vs = [.ref a] ∧ SqL K H a (ns.map V.int) ∧ ns.length ≤ 63 ∧ ∀ H', Q (.bl true) H'
theorem scLw : FnScope ["_law_script", "_law_k", "_law_rng_here", "_law_texts", "_law_far", "_law_odd", "_law_line", "_law_one"] ["_law_script"] (defScope sLaw) := ⟨rfl, rfl, rfl, by decide +kernel, rfl, by decide +kernel, by decide +kernel⟩
theorem ok_law {f fR fDe fB fRi fTo fPa C : Addr} {fd dR dDe dB dRi dTo dPa : FuncData} (F : Fun K "law" "law" sLaw f fd) (G : GEnv K mg fD fC fW fP fT dD dC dW dP dT)
    (AR : At K mg "_law_rng" sRng ["_law_script", "_law_k"] fR dR) (ADe : At K mg "_law_deep" sDeep ["_law_rng_here", "_law_depth"] fDe dDe) (AB : At K mg "_law_bent" sBent ["_law_rng_here", "_law_line"] fB dB)
    (ARi : At K mg "_law_right" sRight ["_law_line"] fRi dRi) (GRi : FnOk P w K mg base CX0 6 fRi dRi ["_law_line"] spRight) (ATo : At K mg "_law_told" sTold ["_law_line"] fTo dTo) (GTo : FnOk P w K mg base CX0 5 fTo dTo ["_law_line"] (spTold K))
    (APa : At K mg "parts_of" sParts ["text"] fPa dPa) (GPa : FnOk P w K mg base (L2.CX P w) 4 fPa dPa ["text"] (spParts K C)) : FnOk P w K mg base CX0 12 f fd ["_law_script"] (spLaw K) := by
  have GR : FnOk P w K mg base CX0 1 fR dR ["_law_script", "_law_k"] (spRng K) := ok_rng AR.F G.B
  have GD : FnOk P w K mg base CX0 1 fD dD ["_law_rng_here", "_law_many"] spDraw := ok_draw G.D.F G.B
  have GT : FnOk P w K mg base CX0 11 fT dT ["_law_rng_here", "_law_depth"] (spText 4) := ok_texts G 4 (Nat.le_refl _)
  have GDe : FnOk P w K mg base CX0 3 fDe dDe ["_law_rng_here", "_law_depth"] spDeep := ok_deep ADe.F G
  have GB : FnOk P w K mg base CX0 3 fB dB ["_law_rng_here", "_law_line"] spBent := ok_bent AB.F G
  refine F.ok scLw (fun vs H Q E h => ?_) (fun cdv A outer_ s H vs Q E hr h => ?_)
  · obtain ⟨a, ns, rfl, _⟩ := h
    rfl
  · obtain ⟨a, ns, rfl, hS, hlen, k⟩ := h
    have hr1 := hr.mono (j := 1) (by decide)
    have hr3 := hr.mono (j := 3) (by decide)
    have hr4 := hr.mono (j := 4) (by decide)
    have hr5 := hr.mono (j := 5) (by decide)
    have hr6 := hr.mono (j := 6) (by decide)
    refine ⟨_, pss_cons (ps_for PassesOwn.never rfl (pi_range1 (by rfl) G.B.zRange (pa_cons (pe_callB (call_max2 rfl) (by rfl) G.B.zMax (by decide +kernel) (pa_cons pe_int (pa_cons (pe_callB (call_min2 rfl) (by rfl) G.B.zMin (by decide +kernel) (pa_cons pe_int (pa_cons (pe_callB call_len_seq (by rfl) G.B.zLen PySem.boot_len (pa_cons (pv 0) pa_nil)) pa_nil))) pa_nil))) pa_nil)) (pg_name (i := 1) scLw.nd rfl (Or.inl rfl))
        (pss_cons (ps_set (i := 2) scLw.nd rfl (Or.inl rfl) (pe_call GR hr1 (by rfl) AR.m AR.F.kp AR.b .nil pass0 (pa_cons (pv 0) (pa_cons (pv 1) pa_nil))))
        (pss_cons (ps_set (i := 3) scLw.nd rfl (Or.inl rfl) (pe_lst (pa_cons (pe_call GT hr (by rfl) G.T.m G.T.F.kp G.T.b .nil pass0 (pa_cons (pv 2) (pa_cons (pe_op op_add pe_int (pe_call GD hr1 (by rfl) G.D.m G.D.F.kp G.D.b .nil pass0 (pa_cons (pv 2) (pa_cons pe_int pa_nil)))) pa_nil)))
          (pa_cons (pe_call GDe hr3 (by rfl) ADe.m ADe.F.kp ADe.b .nil pass0 (pa_cons (pv 2) (pa_cons (pe_op op_add pe_int (pe_call GD hr1 (by rfl) G.D.m G.D.F.kp G.D.b .nil pass0 (pa_cons (pv 2) (pa_cons pe_int pa_nil)))) pa_nil))) pa_nil))))
        (pss_cons (ps_expr (pe_bm PySem.F.plainAttrs_list PySem.F.slot_list_append PySem.F.type_list_append mt_append (pv 3) (pa_cons (pe_call GB hr3 (by rfl) AB.m AB.F.kp AB.b .nil pass0 (pa_cons (pv 2) (pa_cons (pe_ix ix_list (pv 3) (pe_call GD hr1 (by rfl) G.D.m G.D.F.kp G.D.b .nil pass0 (pa_cons (pv 2) (pa_cons pe_int pa_nil))) (fun _ _ => rfl)) pa_nil))) pa_nil)))
        (pss_one (ps_if (pt_not (pt_val (pe_callB (cr_all rfl) (by rfl) G.B.zAll (by decide +kernel) (pa_cons (pe_lc (own := [("_law_line", 6)]) (g := gName 6) (tt := tYes) rfl scLw.nd (pi_list (pv 3)) (blkOk_by (N := ["_law_script", "_law_k", "_law_rng_here", "_law_texts", "_law_far", "_law_odd", "_law_line", "_law_one"]) (sc := defScope sLaw) (by decide +kernel))
          (fun _ _ _ _ _ => pg_name (i := 6) scLw.nd rfl (Or.inl rfl)) (fun _ _ _ _ _ => pts_nil) (fun _ _ _ _ _ => pe_call GRi hr6 (by rfl) ARi.m ARi.F.kp ARi.b .nil pass0 (pa_cons (pv 6) pa_nil))) pa_nil)))) (pss_one (ps_ret pe_bl)) pss_nil))))))
      (pss_cons (ps_set (i := 4) scLw.nd rfl (Or.inl rfl) (pe_lst (pa_cons (pe_op op_mulS pe_str pe_int) (pa_cons (pe_op op_add_str (pe_op op_mulS pe_str pe_int) (pe_op op_mulS pe_str pe_int)) (pa_cons (pe_op op_add_str (pe_op op_add_str (pe_op op_mulS pe_str pe_int) pe_str) (pe_op op_mulS pe_str pe_int)) (pa_cons (pe_op op_mulS pe_str pe_int) (pa_cons (pe_op op_mulS pe_str pe_int) pa_nil)))))))
      (pss_cons (ps_set (i := 5) scLw.nd rfl (Or.inl rfl) (pe_lst (pa_cons pe_non (pa_cons pe_int (pa_cons pe_bl (pa_cons (pe_lst (pa_cons pe_str pa_nil)) (pa_cons (pe_tup (pa_cons pe_str pa_nil)) (pa_cons pe_dnewK pa_nil))))))))
      (pss_cons (ps_if (PW.pt (pw_or (pt_cmpR (op_neD hr.units) (pe_lc (own := [("_law_line", 6)]) (g := gName 6) (tt := tYes) rfl scLw.nd (pi_list (pv 4)) (blkOk_by (N := ["_law_script", "_law_k", "_law_rng_here", "_law_texts", "_law_far", "_law_odd", "_law_line", "_law_one"]) (sc := defScope sLaw) (by decide +kernel))
            (fun _ _ _ _ _ => pg_name (i := 6) scLw.nd rfl (Or.inl rfl)) (fun _ _ _ _ _ => pts_nil) (fun _ _ _ _ _ => pe_call GTo hr5 (by rfl) ATo.m ATo.F.kp ATo.b .nil pass0 (pa_cons (pv 6) pa_nil))) (pe_op op_rep (pe_lst (pa_cons pe_str pa_nil)) pe_int) (nomark _))
          (pw_or1 (pt_cmpR (op_neD hr.units) (pe_lc (own := [("_law_one", 7)]) (g := gName 7) (tt := tYes) rfl scLw.nd (pi_list (pv 5)) (blkOk_by (N := ["_law_script", "_law_k", "_law_rng_here", "_law_texts", "_law_far", "_law_odd", "_law_line", "_law_one"]) (sc := defScope sLaw) (by decide +kernel))
            (fun _ _ _ _ _ => pg_name (i := 7) scLw.nd rfl (Or.inl rfl)) (fun _ _ _ _ _ => pts_nil) (fun _ _ _ _ _ => pe_call GTo hr5 (by rfl) ATo.m ATo.F.kp ATo.b .nil pass0 (pa_cons (pv 7) pa_nil))) (pe_op op_rep (pe_lst (pa_cons pe_str pa_nil)) pe_int) (nomark _))))) (pss_one (ps_ret pe_bl)) pss_nil)
      (pss_one (ps_ret (pe_cmpR (op_eqD hr.units) (pe_lst (pa_cons (pe_call GPa hr4 (by rfl) APa.m APa.F.kp APa.b .nil passL (pa_cons pe_str pa_nil)) (pa_cons (pe_call GPa hr4 (by rfl) APa.m APa.F.kp APa.b .nil passL (pa_cons pe_str pa_nil)) pa_nil)))
        (pe_lst (pa_cons (pe_lst pa_nil) (pa_cons (pe_lst (pa_cons pe_str (pa_cons pe_str (pa_cons pe_str pa_nil)))) pa_nil))) (nomark _))))))), ?_⟩
    have hb : big = 1000000 := rfl
    refine ⟨_, rfl, a, _, rfl, .inl hS, _, _, rfl, _, _, rfl, _, rfl, ?_⟩
    rw [List.length_map]
    have hj : 1 ≤ (if (if (ns.length : Int) < 8 then (ns.length : Int) else 8) > 1 then (if (ns.length : Int) < 8 then (ns.length : Int) else 8) else 1) ∧ (if (if (ns.length : Int) < 8 then (ns.length : Int) else 8) > 1 then (if (ns.length : Int) < 8 then (ns.length : Int) else 8) else 1) ≤ 8 := by
      constructor <;> split <;> split <;> omega
    generalize (if (if (ns.length : Int) < 8 then (ns.length : Int) else 8) > 1 then (if (ns.length : Int) < 8 then (ns.length : Int) else 8) else 1) = j at hj
    refine ⟨by omega, by omega, ?_⟩
    refine for_range (lo := 0) (n := j.toNat) (fun i σ H' => ∃ (x1 x2 x3 : Option V), σ = [some (.ref a), x1, x2, x3, none, none, none, none] ∧ Same H H') ⟨none, none, none, rfl, Same.refl H⟩ ?_ ?_
    · rintro i σ H' hi ⟨x1, x2, x3, rfl, sm⟩
      refine ⟨_, rfl, _, rfl, a, ns, i, ?_, sm.seq hS, by omega, fun H1 r s1 hr0 g1 => ?_⟩
      · show [V.ref a, V.int (0 + (i : Int))] = [V.ref a, V.int (i : Int)]
        rw [Int.zero_add]
      have sm1 : Same H H1 := sm.trans s1
      have hrH : H r = none := sm.free hr0
      refine ⟨_, rfl, _, rfl, r, 4, rfl, g1, by decide, by decide, fun H2 n2 k2 hn2 => ?_⟩
      refine ⟨_, _, rfl, rfl, r, n2 + 1, ?_, by omega, by omega, k2.2 g1, fun H3 l1 k3 a1 m1 => ?_⟩
      · show [V.ref r, V.int (1 + (n2 : Int))] = [V.ref r, V.int ((n2 + 1 : Nat) : Int)]
        congr 3
        omega
      have kp3 : Kp r H1 H3 := k2.trans k3
      refine ⟨_, rfl, _, rfl, r, 16, rfl, kp3.2 g1, by decide, by decide, fun H4 n4 k4 hn4 => ?_⟩
      refine ⟨_, _, rfl, rfl, r, n4 + 1, ?_, by omega, by omega, (kp3.trans k4).2 g1, fun H5 l2 k5 a2 m2 => ?_⟩
      · show [V.ref r, V.int (1 + (n4 : Int))] = [V.ref r, V.int ((n4 + 1 : Nat) : Int)]
        congr 3
        omega
      have kp5 : Kp r H1 H5 := (kp3.trans k4).trans k5
      have m1' : l1.length ≤ 5000 := Nat.le_trans m1 (by decide)
      have m2' : l2.length ≤ 5000 := Nat.le_trans m2 (by decide)
      refine ⟨by show 2 ≤ sizeLine; decide, fun t ht => ?_⟩
      have g5 := kp5.2 g1
      have ntr : t ≠ r := g5.ne ht
      have kp6 : Kp r H1 (upd H5 t (.lst [tv l1, tv l2])) := kp5.trans (Kp.of_same (same_upd ht))
      have htH1 : H1 t = none := kp5.free g1 ht
      have hL6 : (upd H5 t (.lst [tv l1, tv l2])) t = some (.lst [tv l1, tv l2]) := upd_same
      revert kp6 hL6
      generalize upd H5 t (.lst [tv l1, tv l2]) = H6
      intro kp6 hL6
      have g6 := kp6.2 g1
      refine ⟨_, rfl, .inl ⟨rfl, _, SqL.of hL6⟩, _, rfl, _, rfl, _, rfl, r, 2, rfl, g6, by decide, by decide, fun H7 n7 k7 hn7 => ?_⟩
      have hL7 : H7 t = some (.lst [tv l1, tv l2]) := k7.1 t _ ntr hL6
      obtain ⟨l0, e0, a0, m0⟩ : ∃ l0, ([tv l1, tv l2] : List V)[n7]? = some (tv l0) ∧ asc l0 ∧ l0.length ≤ 5000 := by
        have : n7 = 0 ∨ n7 = 1 := by omega
        rcases this with e | e
        · subst e; exact ⟨l1, rfl, a1, m1'⟩
        · subst e; exact ⟨l2, rfl, a2, m2'⟩
      refine ⟨t, _, _, _, rfl, rfl, SqL.of hL7, atI_nat e0, r, l0, rfl, k7.2 g6, a0, m0, fun H8 l3 k8 a3 m3 => ?_⟩
      have hL8 : H8 t = some (.lst [tv l1, tv l2]) := k8.1 t _ ntr hL7
      refine ⟨t, _, _, rfl, rfl, hL8, by show 2 < sizeLine; decide, ?_⟩
      have kp8 : Kp r H1 (upd H8 t (.lst ([tv l1, tv l2] ++ [tv l3]))) := ((kp6.trans k7).trans k8).put htH1 ntr
      have sm8 : Same H (upd H8 t (.lst ([tv l1, tv l2] ++ [tv l3]))) := same_kp sm1 hrH kp8
      have hL9 : (upd H8 t (.lst ([tv l1, tv l2] ++ [tv l3]))) t = some (.lst ([l1, l2, l3].map tv)) := upd_same
      revert sm8 hL9
      generalize upd H8 t (.lst ([tv l1, tv l2] ++ [tv l3])) = H9
      intro sm8 hL9
      refine ⟨_, rfl, t, rfl, ⟨_, SqL.of hL9⟩, fun D hD => ?_⟩
      refine lc_list (K := K) (a := t) (xs := [l1, l2, l3].map tv) (fun i H' => Same H9 H' ∧ H' D = some (.lst ((List.replicate i true).map V.bl))) ⟨same_upd hD, upd_same⟩ (fun i H' _ h => h.1.seq (SqL.of hL9)) ?_ ?_
      · rintro i x H' hi2 ⟨s9, hLD⟩
        obtain ⟨l, hl, rfl⟩ := map_at hi2
        have hin := List.mem_of_getElem? hl
        have la : asc l ∧ l.length ≤ big := by
          rcases List.mem_cons.mp hin with e | hin
          · subst e; exact ⟨a1, by omega⟩
          rcases List.mem_cons.mp hin with e | hin
          · subst e; exact ⟨a2, by omega⟩
          · rw [List.mem_singleton.mp hin]; exact ⟨a3, by omega⟩
        have hi3 : i < 3 := (List.getElem?_eq_some_iff.mp hl).1
        refine ⟨rfl, _, rfl, l, rfl, la.2, la.1, fun H10 s10 => ⟨_, s10 _ _ hLD, ?_, fun b o e => ?_, ?_⟩⟩
        · rw [List.length_map, List.length_replicate]
          exact Nat.lt_of_lt_of_le hi3 (by decide)
        · rw [upd_ne (ne_of_none e hD)]
          exact s10 _ _ (s9 b o e)
        · rw [upd_same, List.replicate_succ', List.map_append]
          rfl
      · rintro H10 ⟨s10, hLD⟩
        refine ⟨D, _, rfl, SqL.of hLD, _, rfl, ?_⟩
        have e3 : (List.replicate (([l1, l2, l3].map tv).length) true).all id = true := by
          rw [List.length_map]
          rfl
        rw [e3]
        exact ⟨_, _, _, rfl, sm8.trans s10⟩
    · rintro σ H' ⟨x1, x2, x3, rfl, sm⟩
      have len40 : (txt (rep 1200 [40])).length = 1200 := by rw [txt_len, rep_len]; rfl
      have len41 : (txt (rep 1200 [41])).length = 1200 := by rw [txt_len, rep_len]; rfl
      have len3 : (txt (rep 1200 [40, 97, 32])).length = 3600 := by rw [txt_len, rep_len]; rfl
      have lenb : (txt [98]).length = 1 := txt_len _
      have hsl : sizeLine = 16777216 := sizeLine_eq
      have len3b : (txt (rep 1200 [40, 97, 32]) ++ Str.ofString "b").length = 3601 := by rw [lit_b, txt_app, txt_len, List.length_append, rep_len]; rfl
      refine ⟨[40], 1200, congrArg V.str lit_open, rfl, by decide, by decide, ?_⟩
      refine ⟨[40], 1200, congrArg V.str lit_open, rfl, by decide, by decide, [41], 1200, congrArg V.str lit_close, rfl, by decide, by decide, _, _, rfl, rfl, by rw [len40, len41]; omega, ?_⟩
      refine ⟨[40, 97, 32], 1200, congrArg V.str lit_a, rfl, by decide, by decide, _, _, rfl, rfl, by rw [len3, lit_b, lenb]; omega, [41], 1200, congrArg V.str lit_close, rfl, by decide, by decide, _, _, rfl, rfl, by rw [len3b, len41]; omega, ?_⟩
      refine ⟨[41], 1200, congrArg V.str lit_close, rfl, by decide, by decide, [40, 97, 32], 1200, congrArg V.str lit_a, rfl, by decide, by decide, by show 5 ≤ sizeLine; omega, fun fa hfa => ?_⟩
      have fv : [tv (rep 1200 [40]), V.str (txt (rep 1200 [40]) ++ txt (rep 1200 [41])), V.str (txt (rep 1200 [40, 97, 32]) ++ Str.ofString "b" ++ txt (rep 1200 [41])), tv (rep 1200 [41]), tv (rep 1200 [40, 97, 32])] = far.map tv := by
        rw [lit_b, txt_app, txt_app, txt_app]
        rfl
      have smF : Same H (upd H' fa (.lst (far.map tv))) := sm.trans (same_upd hfa)
      have hF : (upd H' fa (.lst (far.map tv))) fa = some (.lst (far.map tv)) := upd_same
      rw [fv]
      revert smF hF
      generalize upd H' fa (.lst (far.map tv)) = H1
      intro smF hF
      refine ⟨by show 1 ≤ sizeLine; omega, fun o1 ho1 => ?_⟩
      refine ⟨by show 1 ≤ sizeLine; omega, fun o2 ho2 o3 ho3 => ?_⟩
      refine ⟨by show 6 ≤ sizeLine; omega, fun o ho => ?_⟩
      have s2 := (same_upd (o := HO.lst [V.str (Str.ofString "(a)")]) ho1)
      have s3 := s2.trans (same_upd (o := HO.tup [V.str (Str.ofString "a")]) ho2)
      have s4 := s3.trans (same_upd (o := HO.dK []) ho3)
      have s5 := s4.trans (same_upd (o := HO.lst [V.non, V.int 7, V.bl true, V.ref o1, V.ref o2, V.ref o3]) ho)
      have hO : (upd (upd (upd (upd H1 o1 (HO.lst [V.str (Str.ofString "(a)")])) o2 (HO.tup [V.str (Str.ofString "a")])) o3 (HO.dK [])) o (HO.lst [V.non, V.int 7, V.bl true, V.ref o1, V.ref o2, V.ref o3])) o = some (HO.lst [V.non, V.int 7, V.bl true, V.ref o1, V.ref o2, V.ref o3]) := upd_same
      have hO1 := ((same_upd ho2).trans ((same_upd ho3).trans (same_upd (o := HO.lst [V.non, V.int 7, V.bl true, V.ref o1, V.ref o2, V.ref o3]) ho))) o1 _ (upd_same (o := HO.lst [V.str (Str.ofString "(a)")]))
      have hO2 := ((same_upd ho3).trans (same_upd (o := HO.lst [V.non, V.int 7, V.bl true, V.ref o1, V.ref o2, V.ref o3]) ho)) o2 _ (upd_same (o := HO.tup [V.str (Str.ofString "a")]))
      have hO3 := (same_upd (o := HO.lst [V.non, V.int 7, V.bl true, V.ref o1, V.ref o2, V.ref o3]) ho) o3 _ (upd_same (o := HO.dK []))
      have hF5 := s5 fa _ hF
      have sm5 := smF.trans s5
      revert hO hO1 hO2 hO3 hF5 sm5
      generalize upd (upd (upd (upd H1 o1 (HO.lst [V.str (Str.ofString "(a)")])) o2 (HO.tup [V.str (Str.ofString "a")])) o3 (HO.dK [])) o (HO.lst [V.non, V.int 7, V.bl true, V.ref o1, V.ref o2, V.ref o3]) = H5
      intro hO hO1 hO2 hO3 hF5 sm5
      refine ⟨_, rfl, fa, rfl, ⟨_, SqL.of hF5⟩, fun D hD => ?_⟩
      refine lc_list (K := K) (a := fa) (xs := far.map tv) (fun i H' => Same H5 H' ∧ H' D = some (.lst (List.replicate i (V.str (Str.ofString "form"))))) ⟨same_upd hD, upd_same⟩ (fun i H' _ h => h.1.seq (SqL.of hF5)) ?_ ?_
      · rintro i x H' hi2 ⟨s9, hLD⟩
        obtain ⟨l, hl, rfl⟩ := map_at hi2
        obtain ⟨l1, l2, l3⟩ := far_ok l (List.mem_of_getElem? hl)
        have hi3 : i < 5 := (List.getElem?_eq_some_iff.mp hl).1
        refine ⟨rfl, _, rfl, _, rfl, .inl ⟨l, rfl, l1, l2, fun _ H10 s10 => ⟨_, s10 _ _ hLD, ?_, fun b o e => ?_, ?_⟩, fun ps e2 => absurd (l3.symm.trans e2) (fun z => nomatch z)⟩⟩
        · rw [List.length_replicate]
          omega
        · rw [upd_ne (ne_of_none e hD)]
          exact s10 _ _ (s9 b o e)
        · rw [upd_same, List.replicate_succ']
      · rintro H6 ⟨s6, hLD⟩
        refine ⟨by show 1 ≤ sizeLine; omega, fun p hp => ?_⟩
        refine ⟨p, 5, _, rfl, rfl, upd_same, by decide, by decide, by show 1 * 5 ≤ sizeLine; omega, fun q hq => ?_⟩
        have sA : Same H5 (upd H6 p (.lst [V.str (Str.ofString "form")])) := s6.trans (same_upd hp)
        have sB : Same H5 (upd (upd H6 p (.lst [V.str (Str.ofString "form")])) q (.lst (List.replicate (5 : Int).toNat [V.str (Str.ofString "form")]).flatten)) := sA.trans (same_upd hq)
        have hD6 := ((same_upd (o := HO.lst [V.str (Str.ofString "form")]) hp).trans (same_upd (o := HO.lst (List.replicate (5 : Int).toNat [V.str (Str.ofString "form")]).flatten) hq)) D _ hLD
        have hQ6 : (upd (upd H6 p (.lst [V.str (Str.ofString "form")])) q (.lst (List.replicate (5 : Int).toNat [V.str (Str.ofString "form")]).flatten)) q = some (.lst (List.replicate 5 (V.str (Str.ofString "form")))) := upd_same
        revert sB hD6 hQ6
        generalize upd (upd H6 p (.lst [V.str (Str.ofString "form")])) q (.lst (List.replicate (5 : Int).toNat [V.str (Str.ofString "form")]).flatten) = H7
        intro sB hD6 hQ6
        refine ⟨_, _, .lst (SqL.of hD6) (dpRep _ 5), .lst (SqL.of hQ6) (dpRep _ 5), shF5, shF5, _, rfl, ?_⟩
        rw [eqRep]
        refine ⟨_, rfl, o, rfl, ⟨_, SqL.of (sB _ _ hO)⟩, fun D2 hD2 => ?_⟩
        refine lc_list (K := K) (a := o) (xs := [V.non, V.int 7, V.bl true, V.ref o1, V.ref o2, V.ref o3]) (fun i H' => Same H7 H' ∧ H' D2 = some (.lst (List.replicate i (V.str (Str.ofString "string"))))) ⟨same_upd hD2, upd_same⟩ (fun i H' _ h => (sB.trans h.1).seq (SqL.of hO)) ?_ ?_
        · rintro i x H' hi2 ⟨s9, hLD2⟩
          have hi3 : i < 6 := (List.getElem?_eq_some_iff.mp hi2).1
          obtain ⟨t, ty, kt⟩ : ∃ t : Value, TyX K H' x t ∧ PySem.W.kitOne K t (.type "str") = some false := by
            have hx := List.mem_of_getElem? hi2
            rcases List.mem_cons.mp hx with e | hx
            · subst e; exact ⟨_, .base .non, kit_ty (by decide +kernel)⟩
            rcases List.mem_cons.mp hx with e | hx
            · subst e; exact ⟨_, .base (.int 7), kit_ty (by decide +kernel)⟩
            rcases List.mem_cons.mp hx with e | hx
            · subst e; exact ⟨_, .base (.bl true), kit_ty (by decide +kernel)⟩
            rcases List.mem_cons.mp hx with e | hx
            · subst e; exact ⟨_, .base (.lst ((sB.trans s9) _ _ hO1)), kit_ty (by decide +kernel)⟩
            rcases List.mem_cons.mp hx with e | hx
            · subst e; exact ⟨_, .base (.tup ((sB.trans s9) _ _ hO2)), kit_ty (by decide +kernel)⟩
            · rw [List.mem_singleton.mp hx]; exact ⟨_, .base (.dK ((sB.trans s9) _ _ hO3)), kit_ty (by decide +kernel)⟩
          refine ⟨rfl, _, rfl, _, rfl, .inr ⟨t, ty, kt, fun H10 s10 => ⟨_, s10 _ _ hLD2, ?_, fun b o e => ?_, ?_⟩⟩⟩
          · rw [List.length_replicate]
            omega
          · rw [upd_ne (ne_of_none e hD2)]
            exact s10 _ _ (s9 b o e)
          · rw [upd_same, List.replicate_succ']
        · rintro H8 ⟨s8, hLD2⟩
          refine ⟨by show 1 ≤ sizeLine; omega, fun p2 hp2 => ?_⟩
          refine ⟨p2, 6, _, rfl, rfl, upd_same, by decide, by decide, by show 1 * 6 ≤ sizeLine; omega, fun q2 hq2 => ?_⟩
          have sC := s8.trans ((same_upd (o := HO.lst [V.str (Str.ofString "string")]) hp2).trans (same_upd (o := HO.lst (List.replicate (6 : Int).toNat [V.str (Str.ofString "string")]).flatten) hq2))
          have hD8 := ((same_upd (o := HO.lst [V.str (Str.ofString "string")]) hp2).trans (same_upd (o := HO.lst (List.replicate (6 : Int).toNat [V.str (Str.ofString "string")]).flatten) hq2)) D2 _ hLD2
          have hQ8 : (upd (upd H8 p2 (.lst [V.str (Str.ofString "string")])) q2 (.lst (List.replicate (6 : Int).toNat [V.str (Str.ofString "string")]).flatten)) q2 = some (.lst (List.replicate 6 (V.str (Str.ofString "string")))) := upd_same
          revert sC hD8 hQ8
          generalize upd (upd H8 p2 (.lst [V.str (Str.ofString "string")])) q2 (.lst (List.replicate (6 : Int).toNat [V.str (Str.ofString "string")]).flatten) = H9
          intro sC hD8 hQ8
          refine ⟨_, _, .lst (SqL.of hD8) (dpRep _ 6), .lst (SqL.of hQ8) (dpRep _ 6), shF6, shF6, _, rfl, ?_⟩
          rw [eqRep]
          refine ⟨_, rfl, .inl ⟨[40, 41], congrArg V.str lit_pair, by decide, asc_of (by decide), fun e => absurd (p1.symm.trans e) (fun z => nomatch z), fun ps e G1 r1 g1 h1 k1 => ?_⟩⟩
          obtain rfl := Option.some.inj (p1.symm.trans e)
          refine ⟨_, rfl, .inl ⟨lastT, congrArg V.str last_txt, by decide, asc_of (by decide), fun e => absurd (K21.p2.symm.trans e) (fun z => nomatch z), fun ps e2 G2 r2 g2 h2 k2 => ?_⟩⟩
          obtain rfl := Option.some.inj (K21.p2.symm.trans e2)
          refine ⟨by show 2 ≤ sizeLine; omega, fun r3 hr3' => ⟨by show 0 ≤ sizeLine; omega, fun r4 hr4' => ⟨by show 3 ≤ sizeLine; omega, fun r5 hr5' => ⟨by show 2 ≤ sizeLine; omega, fun r6 hr6' => ?_⟩⟩⟩⟩
          have sP := (same_upd (o := HO.lst [V.ref r1, V.ref r2]) hr3').trans ((same_upd (o := HO.lst []) hr4').trans ((same_upd (o := HO.lst [V.str (Str.ofString "a"), V.str (Str.ofString "(b c)"), V.str (Str.ofString "'d (e'")]) hr5').trans (same_upd (o := HO.lst [V.ref r4, V.ref r5]) hr6')))
          have j1 := sP r1 _ (g2 _ _ k1)
          have j2 := sP r2 _ k2
          have j3 := ((same_upd (o := HO.lst []) hr4').trans ((same_upd (o := HO.lst [V.str (Str.ofString "a"), V.str (Str.ofString "(b c)"), V.str (Str.ofString "'d (e'")]) hr5').trans (same_upd (o := HO.lst [V.ref r4, V.ref r5]) hr6'))) r3 _ (upd_same (o := HO.lst [V.ref r1, V.ref r2]))
          have j4 := ((same_upd (o := HO.lst [V.str (Str.ofString "a"), V.str (Str.ofString "(b c)"), V.str (Str.ofString "'d (e'")]) hr5').trans (same_upd (o := HO.lst [V.ref r4, V.ref r5]) hr6')) r4 _ (upd_same (o := HO.lst []))
          have j5 := (same_upd (o := HO.lst [V.ref r4, V.ref r5]) hr6') r5 _ (upd_same (o := HO.lst [V.str (Str.ofString "a"), V.str (Str.ofString "(b c)"), V.str (Str.ofString "'d (e'")]))
          have j6 : (upd (upd (upd (upd G2 r3 (HO.lst [V.ref r1, V.ref r2])) r4 (HO.lst [])) r5 (HO.lst [V.str (Str.ofString "a"), V.str (Str.ofString "(b c)"), V.str (Str.ofString "'d (e'")])) r6 (HO.lst [V.ref r4, V.ref r5])) r6 = _ := upd_same
          refine ⟨finD, finD, ?_, ?_, finSh, finSh, ?_⟩
          · refine .lst (SqL.of j3) (.cons (.lst (SqL.of j1) .nil) (.cons (.lst (SqL.of j2) ?_) .nil))
            exact dpS [[97], [40, 98, 32, 99, 41], [39, 100, 32, 40, 101, 39]]
          · refine .lst (SqL.of j6) (.cons (.lst (SqL.of j4) .nil) (.cons (.lst (SqL.of j5) ?_) .nil))
            rw [fin1, fin2, fin3]
            exact dpS [[97], [40, 98, 32, 99, 41], [39, 100, 32, 40, 101, 39]]
          · rw [finEq]
            exact k _
end
end K21
namespace K21
open PySem L2
/-! ### the end: what the top has left -/
theorem kit_ref {K : PySem.W.Frag} {C D : Addr} {b : Bool} (n : (Value.ref C == Value.ref D) = false) (i : PySem.W.isClsIn K D = true) (t : PySem.W.typeIn K (.ref D) = some (.type "type")) (s : PySem.W.subIn K (.ref C) (.ref D) = some b) : PySem.W.kitOne K (.ref C) (.ref D) = some b := by
  have i' : (PySem.W.clsIn K D).isSome = true := i
  have g : ((PySem.W.clsIn K D).isSome && PySem.W.typeIn K (.ref D) == some (.type "type")) = true := by rw [i', t] <;> rfl
  unfold PySem.W.kitOne
  rw [if_neg (by rw [n]; decide)]
  show (if ((PySem.W.clsIn K D).isSome && PySem.W.typeIn K (.ref D) == some (.type "type")) = true then PySem.W.subIn K (.ref C) (.ref D) else none) = some b
  rw [if_pos g]
  exact s
theorem kit_blt {K : PySem.W.Frag} {C : Addr} {T : String} {b : Bool} (m : PySem.W.kitMeta T = true) (s : PySem.W.subIn K (.ref C) (.type T) = some b) : PySem.W.kitOne K (.ref C) (.type T) = some b := by
  unfold PySem.W.kitOne
  rw [if_neg (fun z => by cases z)]
  show (if PySem.W.kitMeta T = true then PySem.W.subIn K (.ref C) (.type T) else none) = some b
  rw [if_pos m]
  exact s
theorem exm_ref {K : PySem.W.Frag} {C : Addr} (x : PySem.W.subIn K (.ref C) (.type "BaseException") = some true) (i : PySem.W.isClsIn K C = true) (t : PySem.W.typeIn K (.ref C) = some (.type "type")) (s : PySem.W.subIn K (.ref C) (.ref C) = some true) : PySem.W.exmOne K (.ref C) (.ref C) = some true := by
  have i' : (PySem.W.clsIn K C).isSome = true := i
  have g : ((PySem.W.clsIn K C).isSome && PySem.W.typeIn K (.ref C) == some (.type "type")) = true := by rw [i', t] <;> rfl
  unfold PySem.W.exmOne
  rw [if_pos (by rw [x] <;> rfl)]
  show (if ((PySem.W.clsIn K C).isSome && PySem.W.typeIn K (.ref C) == some (.type "type")) = true then PySem.W.subIn K (.ref C) (.ref C) else none) = some true
  rw [if_pos g]
  exact s
theorem ns_no {K : PySem.W.Frag} {a : Addr} {es : Array DictEntry} {n : Nat} {x : Str} (l : K.lookup a = some ⟨.type "dict", none, .dict es n, #[]⟩) (h1 : es.toList.find? (fun e => e.key.isStr x) = none) (h2 : es.toList.any (fun e => e.refKey) = false) : PySem.W.nsIn K a x = some none := by
  unfold PySem.W.nsIn
  rw [l]
  dsimp only
  rw [h1]
  dsimp only
  rw [h2]
  rfl
theorem ns_at {K : PySem.W.Frag} {a : Addr} {es : Array DictEntry} {n : Nat} {x : Str} {e : DictEntry} (l : K.lookup a = some ⟨.type "dict", none, .dict es n, #[]⟩) (h1 : es.toList.find? (fun e => e.key.isStr x) = some e) : PySem.W.nsIn K a x = some (some e.val) := by
  unfold PySem.W.nsIn
  rw [l]
  dsimp only
  rw [h1]
theorem at_mk {K : PySem.W.Frag} {h : Heap} {mg : Str → Option Value} {x : Str} {st : Stmt} {ps : List Str} {f : Addr} {fd : FuncData} (X : K.In h) (G : h.Ns mainGlobals mg) (a : PySem.W.nsIn K mainGlobals x = some (some (.ref f))) (F : Fun K x x st f fd)
    (b : ∀ (kV doc pm : Value) (an : Option Addr) (cdv ct : Value) (us : List Value), us.length = ps.length → bindArgs (PySem.W.fnOf x x (defArgs st) (defBody st) (defScope st) .none kV doc pm an cdv ct) ⟨us, []⟩ = pure (ps.zip us)) : At K mg x st ps f fd := ⟨F, F.binds b, PySem.W.mg_of X G a⟩
theorem all_mk {P : Program} {w : World} {K : PySem.W.Frag} {h : Heap} {mg : Str → Option Value} {fa : Addr} (X : K.In h) (G : h.Ns mainGlobals mg) (hfa : mg "law" = some (.ref fa))
    {f0 f1 f2 f3 f4 f5 f6 f7 f8 f9 f10 f11 f12 f13 f14 f15 f16 f17 f18 f19 f20 f21 f22 f23 : Addr} {d0 d1 d2 d3 d4 d5 d6 d7 d8 d9 d10 d11 d12 d13 d14 d15 d16 d17 d18 d19 d20 d21 d22 d23 : FuncData} {fI C C0 c1 c2 c3 c4 aF aN : Addr} {dI : FuncData} {tk : Tok}
    {nm q : Str} {N : Addr} {bs bm : List Value} {sn : List Str} {sub : List Value} {ab : Bool} {col : Option Bool} {dd : Option Addr} {k0 k1 k2 k3 k5 : Option Value}
    {g1 g2 g3 g4 g5 g6 : Int} {y1 y2 y3 y4 y5 y6 u1 u2 u3 u4 u5 u6 : Tok} {n4 n2 : Nat}
    (a0 : PySem.W.nsIn K mainGlobals "parts_of" = some (some (.ref f0)))
    (F0 : Fun K "parts_of" "parts_of" sParts f0 d0)
    (a1 : PySem.W.nsIn K mainGlobals "split_text" = some (some (.ref f1)))
    (F1 : Fun K "split_text" "split_text" sSplit f1 d1)
    (a2 : PySem.W.nsIn K mainGlobals "tokens_of" = some (some (.ref f2)))
    (F2 : Fun K "tokens_of" "tokens_of" sTokens f2 d2)
    (a3 : PySem.W.nsIn K mainGlobals "token_end" = some (some (.ref f3)))
    (F3 : Fun K "token_end" "token_end" sTokEnd f3 d3)
    (a4 : PySem.W.nsIn K mainGlobals "token_kind" = some (some (.ref f4)))
    (F4 : Fun K "token_kind" "token_kind" sKind f4 d4)
    (a5 : PySem.W.nsIn K mainGlobals "are_in_sequence" = some (some (.ref f5)))
    (F5 : Fun K "are_in_sequence" "are_in_sequence" sInSeq f5 d5)
    (a6 : PySem.W.nsIn K mainGlobals "are_nested" = some (some (.ref f6)))
    (F6 : Fun K "are_nested" "are_nested" sNested f6 d6)
    (a7 : PySem.W.nsIn K mainGlobals "outer_parts" = some (some (.ref f7)))
    (F7 : Fun K "outer_parts" "outer_parts" sOuter f7 d7)
    (a8 : PySem.W.nsIn K mainGlobals "_law_rng" = some (some (.ref f8)))
    (F8 : Fun K "_law_rng" "_law_rng" sRng f8 d8)
    (a9 : PySem.W.nsIn K mainGlobals "_law_draw" = some (some (.ref f9)))
    (F9 : Fun K "_law_draw" "_law_draw" sDraw f9 d9)
    (a10 : PySem.W.nsIn K mainGlobals "_law_choice" = some (some (.ref f10)))
    (F10 : Fun K "_law_choice" "_law_choice" sChoice f10 d10)
    (a11 : PySem.W.nsIn K mainGlobals "_law_word" = some (some (.ref f11)))
    (F11 : Fun K "_law_word" "_law_word" sWord f11 d11)
    (a12 : PySem.W.nsIn K mainGlobals "_law_part" = some (some (.ref f12)))
    (F12 : Fun K "_law_part" "_law_part" sPart f12 d12)
    (a13 : PySem.W.nsIn K mainGlobals "_law_text" = some (some (.ref f13)))
    (F13 : Fun K "_law_text" "_law_text" sText f13 d13)
    (a14 : PySem.W.nsIn K mainGlobals "_law_deep" = some (some (.ref f14)))
    (F14 : Fun K "_law_deep" "_law_deep" sDeep f14 d14)
    (a15 : PySem.W.nsIn K mainGlobals "_law_bent" = some (some (.ref f15)))
    (F15 : Fun K "_law_bent" "_law_bent" sBent f15 d15)
    (a16 : PySem.W.nsIn K mainGlobals "_law_word_end" = some (some (.ref f16)))
    (F16 : Fun K "_law_word_end" "_law_word_end" sWordEnd f16 d16)
    (a17 : PySem.W.nsIn K mainGlobals "_law_ended" = some (some (.ref f17)))
    (F17 : Fun K "_law_ended" "_law_ended" sEnded f17 d17)
    (a18 : PySem.W.nsIn K mainGlobals "_law_begun" = some (some (.ref f18)))
    (F18 : Fun K "_law_begun" "_law_begun" sBegun f18 d18)
    (a19 : PySem.W.nsIn K mainGlobals "_law_closed" = some (some (.ref f19)))
    (F19 : Fun K "_law_closed" "_law_closed" sClosed f19 d19)
    (a20 : PySem.W.nsIn K mainGlobals "_law_scanned" = some (some (.ref f20)))
    (F20 : Fun K "_law_scanned" "_law_scanned" sScanned f20 d20)
    (a21 : PySem.W.nsIn K mainGlobals "_law_told" = some (some (.ref f21)))
    (F21 : Fun K "_law_told" "_law_told" sTold f21 d21)
    (a22 : PySem.W.nsIn K mainGlobals "_law_right" = some (some (.ref f22)))
    (F22 : Fun K "_law_right" "_law_right" sRight f22 d22)
    (a23 : PySem.W.nsIn K mainGlobals "law" = some (some (.ref f23)))
    (F23 : Fun K "law" "law" sLaw f23 d23)
    (zlen : PySem.W.nsIn K mainGlobals "len" = some none)
    (zabs : PySem.W.nsIn K mainGlobals "abs" = some none)
    (zmax : PySem.W.nsIn K mainGlobals "max" = some none)
    (zmin : PySem.W.nsIn K mainGlobals "min" = some none)
    (zint : PySem.W.nsIn K mainGlobals "int" = some none)
    (zdivmod : PySem.W.nsIn K mainGlobals "divmod" = some none)
    (zrange : PySem.W.nsIn K mainGlobals "range" = some none)
    (zall : PySem.W.nsIn K mainGlobals "all" = some none)
    (zzip : PySem.W.nsIn K mainGlobals "zip" = some none)
    (zisinstance : PySem.W.nsIn K mainGlobals "isinstance" = some none)
    (zstr : PySem.W.nsIn K mainGlobals "str" = some none)
    (zValueError : PySem.W.nsIn K mainGlobals "ValueError" = some none)
    (aC : PySem.W.nsIn K mainGlobals "InvalidText" = some (some (.ref C)))
    (lC : K.lookup C = some (PySem.excClassObj nm q C N bs bm true sn sub ab col dd k0 k1 k2 k3 k5 "ValueError.__new__"))
    (bC : PySem.HandSPX.refsVE bm = true)
    (sa : PySem.W.findIn K (.ref C) "__setattr__" = some (some (.builtin "object.__setattr__")))
    (xC : PySem.W.subIn K (.ref C) (.type "BaseException") = some true)
    (tC : PySem.W.typeIn K (.ref C) = some (.type "type"))
    (kC : PySem.W.keepIn K (.ref C) = true)
    (hg : PySem.W.findIn K (.ref C) "__getattribute__" = some (some (.builtin "BaseException.__getattribute__")))
    (hk : PySem.W.findIn K (.ref C) "__getattr__" = some none)
    (hd : PySem.W.hasDictIn K C = true)
    (ha : PySem.W.findIn K (.ref C) "__class__" = some (some (.builtin "object.__class__")))
    (hn : PySem.W.specialIn K (.builtin "object.__class__") "__get__" = some (some (.builtin "getset_descriptor.__get__")))
    (ht : PySem.W.takesIn K (.builtin "object.__class__") = some true)
    (hm : PySem.W.mroIn K C (.type "object") = some true)
    (iC : PySem.W.isClsIn K C = true)
    (sC : PySem.W.subIn K (.ref C) (.ref C) = some true)
    (vC : PySem.W.subIn K (.ref C) (.type "ValueError") = some true)
    (inC : PySem.W.findIn K (.ref C) "__init__" = some (some (.ref fI)))
    (tI : PySem.W.typeIn K (.ref fI) = some (.type "function"))
    (m1 : PySem.W.findIn K (.ref C) "problem" = some none)
    (m2 : PySem.W.findIn K (.ref C) "_told" = some none)
    (FI : Fun K "__init__" "InvalidText.__init__" sInit fI dI)
    (gC0 : PySem.W.nsIn K mainGlobals "InvalidError" = some (some (.ref C0)))
    (iC0 : PySem.W.isClsIn K C0 = true)
    (tC0 : PySem.W.typeIn K (.ref C0) = some (.type "type"))
    (sC0 : PySem.W.subIn K (.ref C) (.ref C0) = some true)
    (nC0 : (Value.ref C == Value.ref C0) = false)
    (gc1 : PySem.W.nsIn K mainGlobals "InvalidCount" = some (some (.ref c1)))
    (ic1 : PySem.W.isClsIn K c1 = true)
    (tc1 : PySem.W.typeIn K (.ref c1) = some (.type "type"))
    (sc1 : PySem.W.subIn K (.ref C) (.ref c1) = some false)
    (nc1 : (Value.ref C == Value.ref c1) = false)
    (gc2 : PySem.W.nsIn K mainGlobals "InvalidKey" = some (some (.ref c2)))
    (ic2 : PySem.W.isClsIn K c2 = true)
    (tc2 : PySem.W.typeIn K (.ref c2) = some (.type "type"))
    (sc2 : PySem.W.subIn K (.ref C) (.ref c2) = some false)
    (nc2 : (Value.ref C == Value.ref c2) = false)
    (gc3 : PySem.W.nsIn K mainGlobals "InvalidName" = some (some (.ref c3)))
    (ic3 : PySem.W.isClsIn K c3 = true)
    (tc3 : PySem.W.typeIn K (.ref c3) = some (.type "type"))
    (sc3 : PySem.W.subIn K (.ref C) (.ref c3) = some false)
    (nc3 : (Value.ref C == Value.ref c3) = false)
    (gc4 : PySem.W.nsIn K mainGlobals "InvalidSource" = some (some (.ref c4)))
    (ic4 : PySem.W.isClsIn K c4 = true)
    (tc4 : PySem.W.typeIn K (.ref c4) = some (.type "type"))
    (sc4 : PySem.W.subIn K (.ref C) (.ref c4) = some false)
    (nc4 : (Value.ref C == Value.ref c4) = false)
    (haF : PySem.W.nsIn K mainGlobals "FOLLOWERS" = some (some (.ref aF)))
    (lF : K.lookup aF = some ⟨.type "dict", none, .dict #[⟨g1, .str "(" y1, .str "()w" u1⟩, ⟨g2, .str ")" y2, .str " )" u2⟩, ⟨g3, .str "w" y3, .str " )" u3⟩, ⟨g4, .str " " y4, .str "(w" u4⟩] n4, #[]⟩)
    (eF : g1 = PyData.keyHash w.params "(" ∧ g2 = PyData.keyHash w.params ")" ∧ g3 = PyData.keyHash w.params "w" ∧ g4 = PyData.keyHash w.params " ")
    (oF : (aF == sysModules) = false)
    (haN : PySem.W.nsIn K mainGlobals "NESTING" = some (some (.ref aN)))
    (lN : K.lookup aN = some ⟨.type "dict", none, .dict #[⟨g5, .str "(" y5, .int 1 u5⟩, ⟨g6, .str ")" y6, .int (-1) u6⟩] n2, #[]⟩)
    (eN : g5 = PyData.keyHash w.params "(" ∧ g6 = PyData.keyHash w.params ")")
    (oN : (aN == sysModules) = false)
    (aM : PySem.W.nsIn K mainGlobals "MOST_NESTED" = some (some (.int 13 tk))) :
    ∃ fd : FuncData, (∀ (s : Shared) (u : Value), BindsTo s fd ⟨[u], []⟩ [("_law_script", u)]) ∧ ∀ base : Heap, K.In base → base.Ns mainGlobals mg → FnOk P w K mg base CX0 12 fa fd ["_law_script"] (spLaw K) := by
  have e := hfa.symm.trans (PySem.W.mg_of X G a23)
  cases e
  have A0 : At K mg "parts_of" sParts ["text"] f0 d0 := at_mk X G a0 F0 fun _ _ _ _ _ _ us hl => match us, hl with | [_], _ => rfl
  have A1 : At K mg "split_text" sSplit ["text"] f1 d1 := at_mk X G a1 F1 fun _ _ _ _ _ _ us hl => match us, hl with | [_], _ => rfl
  have A2 : At K mg "tokens_of" sTokens ["text"] f2 d2 := at_mk X G a2 F2 fun _ _ _ _ _ _ us hl => match us, hl with | [_], _ => rfl
  have A3 : At K mg "token_end" sTokEnd ["text", "at"] f3 d3 := at_mk X G a3 F3 fun _ _ _ _ _ _ us hl => match us, hl with | [_, _], _ => rfl
  have A4 : At K mg "token_kind" sKind ["token"] f4 d4 := at_mk X G a4 F4 fun _ _ _ _ _ _ us hl => match us, hl with | [_], _ => rfl
  have A5 : At K mg "are_in_sequence" sInSeq ["tokens"] f5 d5 := at_mk X G a5 F5 fun _ _ _ _ _ _ us hl => match us, hl with | [_], _ => rfl
  have A6 : At K mg "are_nested" sNested ["tokens"] f6 d6 := at_mk X G a6 F6 fun _ _ _ _ _ _ us hl => match us, hl with | [_], _ => rfl
  have A7 : At K mg "outer_parts" sOuter ["tokens"] f7 d7 := at_mk X G a7 F7 fun _ _ _ _ _ _ us hl => match us, hl with | [_], _ => rfl
  have A8 : At K mg "_law_rng" sRng ["_law_script", "_law_k"] f8 d8 := at_mk X G a8 F8 fun _ _ _ _ _ _ us hl => match us, hl with | [_, _], _ => rfl
  have A9 : At K mg "_law_draw" sDraw ["_law_rng_here", "_law_many"] f9 d9 := at_mk X G a9 F9 fun _ _ _ _ _ _ us hl => match us, hl with | [_, _], _ => rfl
  have A10 : At K mg "_law_choice" sChoice ["_law_rng_here", "_law_options"] f10 d10 := at_mk X G a10 F10 fun _ _ _ _ _ _ us hl => match us, hl with | [_, _], _ => rfl
  have A11 : At K mg "_law_word" sWord ["_law_rng_here"] f11 d11 := at_mk X G a11 F11 fun _ _ _ _ _ _ us hl => match us, hl with | [_], _ => rfl
  have A12 : At K mg "_law_part" sPart ["_law_rng_here", "_law_depth"] f12 d12 := at_mk X G a12 F12 fun _ _ _ _ _ _ us hl => match us, hl with | [_, _], _ => rfl
  have A13 : At K mg "_law_text" sText ["_law_rng_here", "_law_depth"] f13 d13 := at_mk X G a13 F13 fun _ _ _ _ _ _ us hl => match us, hl with | [_, _], _ => rfl
  have A14 : At K mg "_law_deep" sDeep ["_law_rng_here", "_law_depth"] f14 d14 := at_mk X G a14 F14 fun _ _ _ _ _ _ us hl => match us, hl with | [_, _], _ => rfl
  have A15 : At K mg "_law_bent" sBent ["_law_rng_here", "_law_line"] f15 d15 := at_mk X G a15 F15 fun _ _ _ _ _ _ us hl => match us, hl with | [_, _], _ => rfl
  have A16 : At K mg "_law_word_end" sWordEnd ["_law_line", "_law_at"] f16 d16 := at_mk X G a16 F16 fun _ _ _ _ _ _ us hl => match us, hl with | [_, _], _ => rfl
  have A17 : At K mg "_law_ended" sEnded ["_law_line", "_law_state", "_law_end"] f17 d17 := at_mk X G a17 F17 fun _ _ _ _ _ _ us hl => match us, hl with | [_, _, _], _ => rfl
  have A18 : At K mg "_law_begun" sBegun ["_law_line", "_law_state"] f18 d18 := at_mk X G a18 F18 fun _ _ _ _ _ _ us hl => match us, hl with | [_, _], _ => rfl
  have A19 : At K mg "_law_closed" sClosed ["_law_line", "_law_state"] f19 d19 := at_mk X G a19 F19 fun _ _ _ _ _ _ us hl => match us, hl with | [_, _], _ => rfl
  have A20 : At K mg "_law_scanned" sScanned ["_law_line"] f20 d20 := at_mk X G a20 F20 fun _ _ _ _ _ _ us hl => match us, hl with | [_], _ => rfl
  have A21 : At K mg "_law_told" sTold ["_law_line"] f21 d21 := at_mk X G a21 F21 fun _ _ _ _ _ _ us hl => match us, hl with | [_], _ => rfl
  have A22 : At K mg "_law_right" sRight ["_law_line"] f22 d22 := at_mk X G a22 F22 fun _ _ _ _ _ _ us hl => match us, hl with | [_], _ => rfl
  have B : BEnv mg := ⟨PySem.W.mg_none_of X G zlen, PySem.W.mg_none_of X G zabs, PySem.W.mg_none_of X G zmax, PySem.W.mg_none_of X G zmin, PySem.W.mg_none_of X G zint, PySem.W.mg_none_of X G zdivmod, PySem.W.mg_none_of X G zrange, PySem.W.mg_none_of X G zall⟩
  have GE : GEnv K mg f9 f10 f11 f12 f13 d9 d10 d11 d12 d13 := ⟨B, A9, A10, A11, A12, A13⟩
  have wF : WD K w aF := ⟨_, _, lF, ⟨⟨_, _, rfl, eF.1⟩, ⟨_, _, rfl, eF.2.1⟩, ⟨_, _, rfl, eF.2.2.1⟩, ⟨_, _, rfl, eF.2.2.2⟩, trivial⟩, oF⟩
  have wN : WD K w aN := ⟨_, _, lN, ⟨⟨_, _, rfl, eN.1⟩, ⟨_, _, rfl, eN.2⟩, trivial⟩, oN⟩
  have FL : Fol K mg w aF := ⟨PySem.W.mg_of X G haF, wF, ⟨u1, ns_at (e := ⟨g1, .str "(" y1, .str "()w" u1⟩) lF rfl⟩, ⟨u2, ns_at (e := ⟨g2, .str ")" y2, .str " )" u2⟩) lF rfl⟩, ⟨u3, ns_at (e := ⟨g3, .str "w" y3, .str " )" u3⟩) lF rfl⟩, ⟨u4, ns_at (e := ⟨g4, .str " " y4, .str "(w" u4⟩) lF rfl⟩⟩
  have NS : Nst K mg w aN := ⟨PySem.W.mg_of X G haN, wN, ⟨u5, ns_at (e := ⟨g5, .str "(" y5, .int 1 u5⟩) lN rfl⟩, ⟨u6, ns_at (e := ⟨g6, .str ")" y6, .int (-1) u6⟩) lN rfl⟩, fun t e1 e2 => ns_no lN (by
    have q1 : (Value.str (Str.ofString "(") y5).isStr (txt t) = false := by
      cases z : (Value.str (Str.ofString "(") y5).isStr (txt t) with
      | false => rfl
      | true =>
        exfalso
        have z1 : Str.ofString "(" = txt t := eq_of_beq z
        rw [lit_open] at z1
        exact e1 (txt_inj z1).symm
    have q2 : (Value.str (Str.ofString ")") y6).isStr (txt t) = false := by
      cases z : (Value.str (Str.ofString ")") y6).isStr (txt t) with
      | false => rfl
      | true =>
        exfalso
        have z1 : Str.ofString ")" = txt t := eq_of_beq z
        rw [lit_close] at z1
        exact e2 (txt_inj z1).symm
    show List.find? (fun e : DictEntry => e.key.isStr (txt t)) [⟨g5, .str "(" y5, .int 1 u5⟩, ⟨g6, .str ")" y6, .int (-1) u6⟩] = none
    rw [List.find?_cons_of_neg (by rw [q1]; decide), List.find?_cons_of_neg (by rw [q2]; decide)]
    rfl) rfl⟩
  have T : TxEnv K mg w := ⟨PySem.W.mg_none_of X G zlen, PySem.W.mg_none_of X G zall, PySem.W.mg_none_of X G zzip, PySem.W.mg_none_of X G zmin, PySem.W.mg_none_of X G zmax, ⟨aF, FL⟩, ⟨aN, NS⟩, ⟨tk, PySem.W.mg_of X G aM⟩, ⟨f3, d3, A3⟩, ⟨f4, d4, A4⟩, ⟨f2, d2, A2⟩, ⟨f5, d5, A5⟩, ⟨f6, d6, A6⟩, ⟨f7, d7, A7⟩⟩
  have I : ITxt K mg C fI dI := { o := ⟨⟨nm, q, N, bs, bm, sn, sub, ab, col, dd, k0, k1, k2, k3, k5, lC, bC⟩, sa, xC, tC, kC⟩, iC := inC, tI := tI, n1 := m1, n2 := m2, m := PySem.W.mg_of X G aC, F := FI, b := FI.binds fun _ _ _ _ _ _ us hl => match us, hl with | [_, _], _ => rfl }
  have EE : EEnv K mg C C0 c1 c2 c3 c4 := { ex := ⟨hg, hk, xC, hd, ha, hn, ht, hm⟩, xf := ⟨hg, hk, xC, hd⟩, te := exm_ref xC iC tC sC, m0 := PySem.W.mg_of X G gC0, m1 := PySem.W.mg_of X G gc1, m2 := PySem.W.mg_of X G gc2, m3 := PySem.W.mg_of X G gc3, m4 := PySem.W.mg_of X G gc4, mV := PySem.W.mg_none_of X G zValueError, k0 := kit_ref nC0 iC0 tC0 sC0, kV := kit_blt (by decide +kernel) vC, kN := kitAny_cons (kit_ref nc1 ic1 tc1 sc1) (fun _ => kitAny_cons (kit_ref nc2 ic2 tc2 sc2) (fun _ => kitAny_cons (kit_ref nc3 ic3 tc3 sc3) (fun _ => kitAny_cons (kit_ref nc4 ic4 tc4 sc4) (fun _ => kitAny_nil) (fun z => nomatch z)) (fun z => nomatch z)) (fun z => nomatch z)) (fun z => nomatch z) }
  have zIs := PySem.W.mg_none_of X G zisinstance
  have zStr := PySem.W.mg_none_of X G zstr
  have bP : ∀ (s : Shared) (u : Value), BindsTo s d0 ⟨[], [("text", u)]⟩ [("text", u)] := by
    obtain ⟨oc, od, kV, doc, pm, an, cdv, ct, osl, rfl, lk, hcd⟩ := F0.ex
    exact fun s u => .of_eq rfl
  have bL : ∀ (s : Shared) (u : Value), BindsTo s d23 ⟨[u], []⟩ [("_law_script", u)] := by
    obtain ⟨oc, od, kV, doc, pm, an, cdv, ct, osl, rfl, lk, hcd⟩ := F23.ex
    exact fun s u => .of_eq rfl
  refine ⟨d23, bL, fun base _ _ => ?_⟩
  have GTo : FnOk P w K mg base CX0 5 f21 d21 ["_law_line"] (spTold K) := ok_told F21 T zIs zStr I A1 F0 A0.m bP EE
  have GS : FnOk P w K mg base CX0 3 f20 d20 ["_law_line"] spScanned := ok_scanned F20 B.zLen A17 A16 A18 A19
  have GRi : FnOk P w K mg base CX0 6 f22 d22 ["_law_line"] spRight := ok_right F22 GTo A21 GS A20
  exact ok_law F23 GE A8 A14 A15 A22 GRi A21 GTo A0 (ok_parts F0 T zIs zStr I A1)

theorem walk {l : PySem.W.OpenLaw} {q : Program} {loose : List Str} {XP : (Str → Option Value) → Heap → Prop} {YP : World → Heap → Prop} {d : DefRec} {K : Params → PySem.W.Frag} (hn : l.most = some 63) (hdf : d.params.defaults = [])
    (hY : ∀ (w : World) (h : Heap), YP w h → (K w.params).In h)
    (F : ∀ (w : World) (mg : Str → Option Value) (fa : Addr) (h : Heap), (K w.params).In h → h.Ns mainGlobals mg → mg d.name = some (.ref fa) →
      ∃ fd : FuncData, (∀ (s : Shared) (u : Value), BindsTo s fd ⟨[u], []⟩ [("_law_script", u)]) ∧ ∀ base : Heap, (K w.params).In base → base.Ns mainGlobals mg → FnOk l.prog w (K w.params) mg base CX0 12 fa fd ["_law_script"] (spLaw (K w.params))) :
    PySem.W.WalkO q loose XP YP l.row.toRowW d [] (fun f vs => PySem.call f vs) :=
  L2.walk_of (n := 63) (k := 12) (x := "_law_script") (CX := fun _ => CX0) (sp := fun w => spLaw (K w.params)) hn (by decide) hdf ⟨rfl, by decide, by decide⟩ hY F (fun _ _ a ns hl _ hS => ⟨a, ns, rfl, hS, hl, fun _ => rfl⟩) fun _ _ _ _ _ z => z
end K21
open PySem PySem.W PyProof.Rows in
set_option maxRecDepth 100000 in
set_option maxHeartbeats 0 in
theorem PySem.Challenge.cw_aboveless_k21_parts_of_texts_holds : PySem.Challenge.rw_aboveless_k21_parts_of_texts.Holds := by
  w_on; o_law; k_head; (case hw => w_witness2)
  k_fill
  refine K21.walk (l := PySem.Challenge.rw_aboveless_k21_parts_of_texts) rfl rfl (fun w h Y => PySem.W.kIn_of Y) ?F
  case F =>
    intro w mg fa h KX G hmg
    refine' K21.all_mk KX G hmg ?a0 ?F0 ?a1 ?F1 ?a2 ?F2 ?a3 ?F3 ?a4 ?F4 ?a5 ?F5 ?a6 ?F6 ?a7 ?F7 ?a8 ?F8 ?a9 ?F9 ?a10 ?F10 ?a11 ?F11 ?a12 ?F12 ?a13 ?F13 ?a14 ?F14 ?a15 ?F15 ?a16 ?F16 ?a17 ?F17 ?a18 ?F18 ?a19 ?F19 ?a20 ?F20 ?a21 ?F21 ?a22 ?F22 ?a23 ?F23 ?zlen ?zabs ?zmax ?zmin ?zint ?zdivmod ?zrange ?zall ?zzip ?zisinstance ?zstr ?zValueError ?aC ?lC ?bC ?sa ?xC ?tC ?kC ?hg ?hk ?hd ?ha ?hn ?ht ?hm ?iC ?sC ?vC ?inC ?tI ?m1 ?m2 ?FI ?gC0 ?iC0 ?tC0 ?sC0 ?nC0 ?gc1 ?ic1 ?tc1 ?sc1 ?nc1 ?gc2 ?ic2 ?tc2 ?sc2 ?nc2 ?gc3 ?ic3 ?tc3 ?sc3 ?nc3 ?gc4 ?ic4 ?tc4 ?sc4 ?nc4 ?haF ?lF ?eF ?oF ?haN ?lN ?eN ?oN ?aM
    (case a0 => k_is)
    (case F0 => refine' L2.fun_mk ?l ?c ?k; (case l => k_is); (case c => k_is); (case k => k_is))
    (case a1 => k_is)
    (case F1 => refine' L2.fun_mk ?l ?c ?k; (case l => k_is); (case c => k_is); (case k => k_is))
    (case a2 => k_is)
    (case F2 => refine' L2.fun_mk ?l ?c ?k; (case l => k_is); (case c => k_is); (case k => k_is))
    (case a3 => k_is)
    (case F3 => refine' L2.fun_mk ?l ?c ?k; (case l => k_is); (case c => k_is); (case k => k_is))
    (case a4 => k_is)
    (case F4 => refine' L2.fun_mk ?l ?c ?k; (case l => k_is); (case c => k_is); (case k => k_is))
    (case a5 => k_is)
    (case F5 => refine' L2.fun_mk ?l ?c ?k; (case l => k_is); (case c => k_is); (case k => k_is))
    (case a6 => k_is)
    (case F6 => refine' L2.fun_mk ?l ?c ?k; (case l => k_is); (case c => k_is); (case k => k_is))
    (case a7 => k_is)
    (case F7 => refine' L2.fun_mk ?l ?c ?k; (case l => k_is); (case c => k_is); (case k => k_is))
    (case a8 => k_is)
    (case F8 => refine' L2.fun_mk ?l ?c ?k; (case l => k_is); (case c => k_is); (case k => k_is))
    (case a9 => k_is)
    (case F9 => refine' L2.fun_mk ?l ?c ?k; (case l => k_is); (case c => k_is); (case k => k_is))
    (case a10 => k_is)
    (case F10 => refine' L2.fun_mk ?l ?c ?k; (case l => k_is); (case c => k_is); (case k => k_is))
    (case a11 => k_is)
    (case F11 => refine' L2.fun_mk ?l ?c ?k; (case l => k_is); (case c => k_is); (case k => k_is))
    (case a12 => k_is)
    (case F12 => refine' L2.fun_mk ?l ?c ?k; (case l => k_is); (case c => k_is); (case k => k_is))
    (case a13 => k_is)
    (case F13 => refine' L2.fun_mk ?l ?c ?k; (case l => k_is); (case c => k_is); (case k => k_is))
    (case a14 => k_is)
    (case F14 => refine' L2.fun_mk ?l ?c ?k; (case l => k_is); (case c => k_is); (case k => k_is))
    (case a15 => k_is)
    (case F15 => refine' L2.fun_mk ?l ?c ?k; (case l => k_is); (case c => k_is); (case k => k_is))
    (case a16 => k_is)
    (case F16 => refine' L2.fun_mk ?l ?c ?k; (case l => k_is); (case c => k_is); (case k => k_is))
    (case a17 => k_is)
    (case F17 => refine' L2.fun_mk ?l ?c ?k; (case l => k_is); (case c => k_is); (case k => k_is))
    (case a18 => k_is)
    (case F18 => refine' L2.fun_mk ?l ?c ?k; (case l => k_is); (case c => k_is); (case k => k_is))
    (case a19 => k_is)
    (case F19 => refine' L2.fun_mk ?l ?c ?k; (case l => k_is); (case c => k_is); (case k => k_is))
    (case a20 => k_is)
    (case F20 => refine' L2.fun_mk ?l ?c ?k; (case l => k_is); (case c => k_is); (case k => k_is))
    (case a21 => k_is)
    (case F21 => refine' L2.fun_mk ?l ?c ?k; (case l => k_is); (case c => k_is); (case k => k_is))
    (case a22 => k_is)
    (case F22 => refine' L2.fun_mk ?l ?c ?k; (case l => k_is); (case c => k_is); (case k => k_is))
    (case a23 => k_is)
    (case F23 => refine' L2.fun_mk ?l ?c ?k; (case l => k_is); (case c => k_is); (case k => k_is))
    (case zlen => k_is)
    (case zabs => k_is)
    (case zmax => k_is)
    (case zmin => k_is)
    (case zint => k_is)
    (case zdivmod => k_is)
    (case zrange => k_is)
    (case zall => k_is)
    (case zzip => k_is)
    (case zisinstance => k_is)
    (case zstr => k_is)
    (case zValueError => k_is)
    (case aC => k_is)
    (case lC => k_is)
    (case bC => decide +kernel)
    (case sa => k_is)
    (case xC => k_is)
    (case tC => k_is)
    (case kC => k_is)
    (case hg => k_is)
    (case hk => k_is)
    (case hd => k_is)
    (case ha => k_is)
    (case hn => k_is)
    (case ht => k_is)
    (case hm => k_is)
    (case iC => k_is)
    (case sC => first | k_is | rfl)
    (case vC => k_is)
    (case inC => k_is)
    (case tI => k_is)
    (case m1 => k_is)
    (case m2 => k_is)
    (case FI => refine' L2.fun_mk ?l ?c ?k; (case l => k_is); (case c => k_is); (case k => k_is))
    (case gC0 => k_is)
    (case iC0 => k_is)
    (case tC0 => k_is)
    (case sC0 => k_is)
    (case nC0 => rfl)
    (case gc1 => k_is)
    (case ic1 => k_is)
    (case tc1 => k_is)
    (case sc1 => k_is)
    (case nc1 => rfl)
    (case gc2 => k_is)
    (case ic2 => k_is)
    (case tc2 => k_is)
    (case sc2 => k_is)
    (case nc2 => rfl)
    (case gc3 => k_is)
    (case ic3 => k_is)
    (case tc3 => k_is)
    (case sc3 => k_is)
    (case nc3 => rfl)
    (case gc4 => k_is)
    (case ic4 => k_is)
    (case tc4 => k_is)
    (case sc4 => k_is)
    (case nc4 => rfl)
    (case haF => k_is)
    (case lF => k_is)
    (case eF => exact ⟨rfl, rfl, rfl, rfl⟩)
    (case oF => rfl)
    (case haN => k_is)
    (case lN => k_is)
    (case eN => exact ⟨rfl, rfl⟩)
    (case oN => rfl)
    (case aM => k_is)
