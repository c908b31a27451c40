import PyProof.Rows.All
import Wide.All
import OpenK.AllK
import Wide.FinOn
import PyProof.NeKinds
import PyProof.EqKinds
import HandS.List
import KE.KSortKey
import KE.KSortKeySt
import HandS.SortKw
import KE.KSortTup
import KE.KSortTupAny
import PyProof.EqAt
import HandS.TupLe
import HandS.Keys
import HandS.SlotsOwn
import HandS.Words
import HandS.Lambda
import HandS.Base
import HandS.Call
import HandS.Dict
import HandS.Exc
import HandS.TryMany
import PyProof.InstNe
import HandS.IsInst
import HandS.Star
import KE.KCallOwn
import HandS.ForMost
import HandS.ExcInitHot
import KE.KItemsList
import KE.KDictList
import HandS.Iter
import HandS.Conv
import HandS.Set
import HandS.SetFor
import PyProof.Rows.StrMeet
import PyProof.Rows.SortStr
import PyProof.StrLawsChain
import HandS.ForExc
import HandS.StrMore
import HandS.WideBits
import HandS.Zip
import HandS.ExcInit
import HandS.ExcField
import HandS.ExcIs
import HandS.Style
import HandS.Flow
import HandS.WrittenGet
import HandS.Steps
import HandS.Walk
import HandS.Text
import HandS.FStr
import HandS.RaiseMore
import PyProof.ReprRoads
import KE.KxStill
import KE.KStrOpen
import PyProof.Rows.ReprOcc
import HandS.Defaults
import KE.KExcInit
import HandS.ClsMeth
import HandS.Property
import HandS.ExcOwn
import HandS.TupAny
import HandS.ForList
import HandS.OwnEq
import PyProof.P3Eq
import HandS.More
import HandS.EndTab
import HandS.NestedK
import KE.KNestM
import KE.KExcLine
import PySem.Challenge.RW_aboveless_k15_labels_and_values_in_order
set_option Elab.async false
set_option linter.all false
set_option maxRecDepth 100000
set_option maxHeartbeats 4000000
/-! lists of the same texts: == and != -/
namespace StL
open PySem PySem.Spec PySem.SeqAt PyProof.Rows L2
theorem same_txt {A : Around} {s : Shared} {xs : List Str} : ∀ {us ws : List Value}, Vals (xs.map V.str) us → Vals (xs.map V.str) ws → ∀ (j : Nat) (h1 : j < us.length) (h2 : j < ws.length), EqAt A s us[j] ws[j] true := by
  induction xs with
  | nil =>
    intro us ws a b j h1 h2
    cases a
    exact absurd h1 (Nat.not_lt_zero _)
  | cons x xs ih =>
    intro us ws a b j h1 h2
    cases a with
    | cons ra a =>
      cases b with
      | cons rb b =>
        cases j with
        | zero =>
          obtain ⟨t, e⟩ := ra
          obtain ⟨t', e'⟩ := rb
          subst e e'
          have z := EqAt.str_str (A := A) (s := s) x t x t'
          rw [beq_self_eq_true] at z
          exact z
        | succ j => exact ih a b j (Nat.lt_of_succ_lt_succ h1) (Nat.lt_of_succ_lt_succ h2)
def rSame (K : PySem.W.Frag) (c : Bool) : R2 := fun x y H Q => ∃ (a b : Addr) (xs : List Str), x = .ref a ∧ y = .ref b ∧ SqL K H a (xs.map V.str) ∧ SqL K H b (xs.map V.str) ∧ Q (.bl c) H
section
variable {X : Cx}
theorem op_ne (hu0 : X.A.units + 64 < cLine) : OpR X (compareOp .NotEq) (rSame X.K false) := by
  rintro pins s σ H _ _ v u Q I rx ry ⟨a, b, xs, rfl, rfl, h1, h2, q⟩
  cases rx
  cases ry
  obtain ⟨i1, r1, t1, z1⟩ := I.list h1
  obtain ⟨i2, r2, t2, z2⟩ := I.list h2
  have hu : X.A.units < cLine := by omega
  have e1 := r1.length
  have e2 := r2.length
  have z := RcNeAt.lists (e := fun _ => true) t1.isList t2.isList (by rw [List.size_toArray, List.size_toArray]; omega) hu (fun j h1 h2 => same_txt r1 r2 j h1 h2)
  refine z X.prog X.w X.xe _ ?_
  have z : ((List.range i1.toArray.size).all fun _ => true) = true := List.all_eq_true.mpr fun _ _ => rfl
  rw [z]
  exact ⟨.bl false, H, I, rfl, q⟩
theorem op_eq (hu0 : X.A.units + 64 < cLine) : OpR X (compareOp .Eq) (rSame X.K true) := by
  rintro pins s σ H _ _ v u Q I rx ry ⟨a, b, xs, rfl, rfl, h1, h2, q⟩
  cases rx
  cases ry
  obtain ⟨i1, r1, t1, z1⟩ := I.list h1
  obtain ⟨i2, r2, t2, z2⟩ := I.list h2
  have hu : X.A.units < cLine := by omega
  have e1 := r1.length
  have e2 := r2.length
  have z := RcAt.lists (e := fun _ => true) t1.isList t2.isList (by rw [List.size_toArray, List.size_toArray]; omega) hu (fun j h1 h2 => same_txt r1 r2 j h1 h2)
  refine z X.prog X.w X.xe _ ?_
  have z : ((List.range i1.toArray.size).all fun _ => true) = true := List.all_eq_true.mpr fun _ _ => rfl
  rw [z]
  exact ⟨.bl true, H, I, rfl, q⟩
end
end StL
/-! list.sort with key=: any key def, any order of the keys -/
namespace SortK
open PySem PySem.W PyProof.Rows Srt SrtO
section
variable {prog : Program} {w : World} {A : Around} {E : Value → Shared → Prop} {s : Shared} {a kS : Addr} {P : PySem.Fin → Shared → Prop} {ltv : Value → Value → Bool} {κ : SortKind} {vs : List Value} {keys : Array Value} {e e1 : Nat}
/-- what the sort leaves: the keys let go, the list filled again -/
def left (h : Heap) (kS a : Addr) (ps : List Keyed) : Heap := (h.update kS (Obj.mapSeq fun _ => (#[] : Array Value))).update a (Obj.mapSeq fun _ => (ps.map (·.2)).toArray)
theorem key_tail {st : SortSt} (hk : s.heap.get? kS = some (seqObj "list" keys e)) (ha : s.heap.get? a = some (seqObj "list" #[] e1)) (ne : kS ≠ a) (hz : keys.size ≤ sizeLine) (hzs : (arrOf st).size ≤ sizeLine) (hf : failedOf st = none)
    (h : P (.done (.ret .none)) { s with heap := left s.heap kS a (arrOf st).toList }) : wpAny (model prog w) A (ksk_tail a false e1 (.ref kS) st) P E s := by
  have same := Heap.SameBut.update s.heap kS (Obj.mapSeq fun _ => (#[] : Array Value))
  have ha1 := (same.2 a ne.symm).trans ha
  unfold ksk_tail
  try dsimp only
  refine wpAny_bind (listUpdate_at hk rfl ?_ hz (Nat.zero_le _))
  refine wpAny_bind (wpAny_letGo ?_)
  refine wpAny_bind (seqEpoch_at ha1 rfl ?_)
  refine wpAny_bind (listUpdate_at ha1 rfl ?_ (Nat.zero_le _) (by simp only [Bool.false_eq_true, if_false, Array.size_map]; exact Nat.le_trans hzs (Nat.le_succ _)))
  rw [hf]
  simp only [bne_self_eq_false, Bool.false_eq_true, if_false]
  refine wpAny_pure ?_
  have e2 : (arrOf st).map (·.2) = ((arrOf st).toList.map (·.2)).toArray := by
    rw [← Array.toList_map, Array.toArray_toList]
  unfold left at h
  rw [← e2] at h
  exact h
theorem key_end (O : Swo ltv) (hk : s.heap.get? kS = some (seqObj "list" keys e)) (ha : s.heap.get? a = some (seqObj "list" #[] e1)) (ne : kS ≠ a) (hl : keys.size = vs.length) (hz : vs.length ≤ sizeLine)
    (kind : 2 ≤ vs.length → ∀ (Q : SortKind → Shared → Prop) (E : Value → Shared → Prop), Q κ s → wpAny (model prog w) A (keyKind' keys) Q E s)
    (C : Cmp prog w A s κ (fun p => p.1 ∈ keys.toList) (lt2 ltv))
    (h : ∀ ps : List Keyed, Srtd (lt2 ltv) ps → Stb (lt2 ltv) ps (keys.zip vs.toArray).toList → P (.done (.ret .none)) { s with heap := left s.heap kS a ps }) :
    wpAny (model prog w) A (ksk_end a false vs.toArray e1 (.ref kS) keys) P E s := by
  have zs : (keys.zip vs.toArray).size = vs.length := by
    rw [Array.size_zip, List.size_toArray]
    have : keys.size = vs.length := hl
    show min keys.size vs.length = vs.length
    omega
  unfold ksk_end
  simp only [Bool.false_eq_true, if_false]
  have sz : vs.toArray.size = vs.length := by simp
  by_cases h2 : vs.toArray.size < 2
  · rw [if_pos h2, if_pos h2]
    refine wpAny_bind (wpAny_pure ?_)
    rw [StateT.run_pure]
    refine wpAny_bind (wpAny_pure ?_)
    try dsimp only
    refine key_tail hk ha ne (by omega) (Nat.le_trans (Nat.le_of_eq zs) hz) rfl (h _ ?_ (Stb.refl _))
    have l2 : (keys.zip vs.toArray).toList.length < 2 := by rw [Array.length_toList, zs]; omega
    show Srtd (lt2 ltv) (keys.zip vs.toArray).toList
    revert l2
    generalize (keys.zip vs.toArray).toList = l
    intro l2
    match l, l2 with
    | [], _ => exact List.Pairwise.nil
    | [v], _ => exact List.pairwise_singleton _ _
    | _ :: _ :: l, h => exact absurd h (by rw [List.length_cons, List.length_cons]; omega)
  · rw [if_neg h2, if_neg h2]
    refine wpAny_bind (kind (by omega) _ _ ?_)
    have all : AllL (fun p : Keyed => p.1 ∈ keys.toList) (keys.zip vs.toArray).toList := fun p hm => by
      rw [Array.toList_zip] at hm
      exact (List.of_mem_zip hm).1
    refine wpAny_bind (wpAny_mono (wpS_sortO (st0 := SortSt.mk' κ (keys.zip vs.toArray) #[] 7 none)
      (Q := fun _ st' => Srtd (lt2 ltv) (arrOf st').toList ∧ Stb (lt2 ltv) (arrOf st').toList (keys.zip vs.toArray).toList ∧ failedOf st' = none) (swo2 O) C rfl all rfl rfl fun st' a1 a2 a3 => ⟨a1, a2, a3⟩) ?_ fun _ _ x => x)
    rintro ⟨⟨⟩, st'⟩ s' ⟨rfl, p1, p2, hf⟩
    try dsimp only
    refine key_tail hk ha ne (by omega) ?_ hf (h _ p1 p2)
    have q : (arrOf st').toList.length = (keys.zip vs.toArray).toList.length := p2.perm.length_eq
    rw [Array.length_toList, Array.length_toList, zs] at q
    show (arrOf st').size ≤ sizeLine
    rw [q]
    exact hz
/-- the keys are made one after another; J tells the turn, the keys so far, and what stands -/
theorem key_rest {f : Value} (J : Nat → List Value → Shared → Prop) (j0 : J 0 [] s)
    (turn : ∀ (i : Nat) (ks : List Value) (st : Shared) (v : Value), J i ks st → vs[i]? = some v → wpAny (model prog w) A (call f [v])
      (fun k st' => ∃ ek, st'.heap.get? kS = some (seqObj "list" ks.toArray ek) ∧ ks.length < sizeLine ∧ J (i + 1) (ks ++ [k]) { st' with heap := st'.heap.update kS (Obj.mapSeq (·.push k)) }) (fun _ _ => False) st)
    (fin : ∀ (ks : List Value) (st : Shared), J vs.length ks st → (∃ ek, st.heap.get? kS = some (seqObj "list" ks.toArray ek)) ∧ wpAny (model prog w) A (ksk_end a false vs.toArray e1 (.ref kS) ks.toArray) P E st) :
    wpAny (model prog w) A (ksk_rest a f false vs.toArray e1 (.ref kS)) P E s := by
  unfold ksk_rest
  refine wpAny_bind (wpAny_rule ?_)
  rw [List.forIn_toArray]
  refine wpAny_bind (ksk_fold (fun i s' => ∃ ks, J i ks s') vs 0 s ⟨[], j0⟩ (fun j x s' hx hJ => ?_) fun s' hJ => ?_)
  · obtain ⟨ks, hJ⟩ := hJ
    rw [Nat.zero_add] at hJ ⊢
    refine wpAny_bind (wpAny_attempt (wpAny_mono (turn j ks s' x hJ hx) (fun k st hk => ?_) fun _ _ x => x.elim))
    obtain ⟨ek, g, lt, j1⟩ := hk
    try dsimp only
    refine wpAny_bind (listUpdate_at g rfl ?_ (by rw [List.size_toArray]; exact Nat.le_of_lt lt) (by rw [Array.size_push, List.size_toArray]; exact Nat.succ_le_succ (Nat.le_of_lt lt)))
    exact wpAny_pure ⟨rfl, _, j1⟩
  · obtain ⟨ks, hJ⟩ := hJ
    rw [Nat.zero_add] at hJ
    obtain ⟨⟨ek, g⟩, h⟩ := fin ks s' hJ
    try dsimp only
    refine wpAny_bind (listItems_at g rfl ?_)
    exact h
/-- the heap when the keys begin: the list emptied, its things held, the store of keys at the end -/
def begun (h : Heap) (a : Addr) (vs : List Value) : Heap := ((h.update a (Obj.mapSeq fun _ => #[])).push (seqObj "tuple" vs.toArray 0)).push (seqObj "list" #[] 0)
theorem sort_key {q : Addr} {n : Nat} (ho : s.heap.get? a = some (seqObj "list" vs.toArray n)) (hz : vs.length ≤ sizeLine)
    (h : ∀ e1, (begun s.heap a vs).get? a = some (seqObj "list" #[] e1) → (begun s.heap a vs).get? (s.heap.objs.size + 1) = some (seqObj "list" #[] 0) →
      wpAny (model prog w) A (ksk_rest a (.ref q) false vs.toArray e1 (.ref (s.heap.objs.size + 1))) P E { s with heap := begun s.heap a vs }) :
    wpAny (model prog w) A (Builtin.«list.sort» ⟨[.ref a], [(Str.ofString "key", .ref q)]⟩) P E s := by
  rw [ksk_t1]
  unfold ksk_tree
  refine wpAny_bind (listItems_at ho rfl ?_)
  refine wpAny_bind (listUpdate_at ho rfl ?_ (by rw [List.size_toArray]; exact hz) (Nat.zero_le _))
  obtain ⟨e1, ho1⟩ : ∃ e1, (s.heap.update a (Obj.mapSeq fun _ => #[])).get? a = some (seqObj "list" #[] e1) := ⟨_, get?_update_seq ho (fun _ => #[])⟩
  refine wpAny_bind (seqEpoch_at ho1 rfl ?_)
  refine wpAny_bind (wpAny_newTuple ?_ (by show vs.length ≤ _; exact hz))
  refine wpAny_bind (wpAny_newList ?_ (Nat.zero_le _))
  refine wpAny_holding ?_
  have sz : ((s.heap.update a (Obj.mapSeq fun _ => #[])).push (seqObj "tuple" vs.toArray 0)).objs.size = s.heap.objs.size + 1 := by
    rw [size_push', Heap.size_update]
  have z := h e1 (Heap.get?_push_of_some _ (Heap.get?_push_of_some _ ho1)) (by rw [← sz]; exact Heap.get?_push_size _ rfl)
  rw [← sz] at z
  exact z
/-- sorted(l, key=f), to the head of list.sort: p the new list -/
theorem sorted_head {l q : Addr} {Q : Value → Shared → Prop} (hl : s.heap.IsList l vs.toArray) (hz : vs.length ≤ sizeLine)
    (h : ∀ (h1 : Heap) (p : Addr), p = s.heap.objs.size + 1 → h1.objs.size = p + 1 → h1.get? p = some (seqObj "list" vs.toArray 0) → (∀ b o, s.heap.get? b = some o → h1.get? b = some o) →
      wpAny (model prog w) A.in1.in1 (Builtin.«list.sort» ⟨[.ref p], [(Str.ofString "key", .ref q)]⟩) (fun r s' => r = .done (.ret .none) ∧ Q (.ref p) s') (fun _ _ => False) { s with heap := h1 }) :
    wpAny (model prog w) A (call (.builtin "sorted") [.ref l] [(Str.ofString "key", .ref q)]) Q E s := by
  refine call_function_entry_kw kind_sorted plain_sorted entry_sorted (ksk_s1 _ _) ?_
  unfold Builtin.«sorted»
  refine wpAny_bind (m := checkCount "sorted" 1 1 _) (wpAny_pure ?_)
  refine wpAny_bind (collect_list hl ?_ hz)
  refine wpAny_bind (wpAny_newList ?_ hz)
  have sz : ((s.heap.push (seqObj "list" #[] 0)).update s.heap.objs.size (Obj.mapSeq (· ++ vs.toArray))).objs.size = s.heap.objs.size + 1 := by
    rw [Heap.size_update, size_push']
  have g : (((s.heap.push (seqObj "list" #[] 0)).update s.heap.objs.size (Obj.mapSeq (· ++ vs.toArray))).push (seqObj "list" vs.toArray 0)).get? (s.heap.objs.size + 1) = some (seqObj "list" vs.toArray 0) := by
    rw [← sz]; exact Heap.get?_push_size _ rfl
  have z := h _ _ rfl (by rw [size_push', sz]) g fun b o q => by
    have lt : b < s.heap.objs.size := Heap.lt_size q
    refine Heap.get?_push_of_some _ ?_
    rw [Heap.get?_update_ne _ _ _ _ (Nat.ne_of_lt lt)]
    exact Heap.get?_push_of_some _ q
  show wpAny _ _ _ _ _ { s with heap := ((s.heap.push (seqObj "list" #[] 0)).update s.heap.objs.size (Obj.mapSeq (· ++ vs.toArray))).push (seqObj "list" vs.toArray 0) }
  rw [sz]
  refine wpAny_bind (wpAny_holding (wpAny_call_entry_kw slot_list_sort ⟨_, g, rfl⟩ entry_list_sort ?_ (ksk_l1 _ _)))
  refine wpAny_mono z (fun r s' hr => ?_) fun _ _ x => x.elim
  obtain ⟨rfl, hq⟩ := hr
  exact ⟨_, rfl, wpAny_pure ⟨_, rfl, hq⟩⟩
end
end SortK
/-! keys that are a whole number and a tuple of texts: their order -/
namespace SortT
open PySem PySem.Spec PySem.SeqAt PySem.W PyProof.Rows Srt SrtO L2 Ob
abbrev Key := Int × List Str
def ltS (x y : Str) : Bool := decide (x.cps.toList < y.cps.toList)
def lexS : List Str → List Str → Bool
  | [], [] => false
  | [], _ :: _ => true
  | _ :: _, [] => false
  | x :: r, y :: q => if x = y then lexS r q else ltS x y
def ltK (a b : Key) : Bool := if a.1 = b.1 then lexS a.2 b.2 else decide (a.1 < b.1)
theorem ltS_asym {x y : Str} (h : ltS x y = true) : ltS y x = false := by
  have h' := of_decide_eq_true h
  exact decide_eq_false fun z => absurd (List.lt_trans h' z) (List.lt_irrefl _)
theorem ltS_tri {x y : Str} (h1 : ltS x y = false) (h2 : ltS y x = false) : x = y := by
  have a : y.cps.toList ≤ x.cps.toList := List.not_lt.mp (of_decide_eq_false h1)
  have b : x.cps.toList ≤ y.cps.toList := List.not_lt.mp (of_decide_eq_false h2)
  have e := List.le_antisymm b a
  exact Str.ext' (Array.toList_inj.mp e)
theorem ltS_tr {x y z : Str} (h1 : ltS y x = false) (h2 : ltS z y = false) : ltS z x = false := by
  have a : x.cps.toList ≤ y.cps.toList := List.not_lt.mp (of_decide_eq_false h1)
  have b : y.cps.toList ≤ z.cps.toList := List.not_lt.mp (of_decide_eq_false h2)
  exact decide_eq_false fun h => List.not_lt.mpr (List.le_trans a b) h
theorem lexS_self : ∀ l : List Str, lexS l l = false
  | [] => rfl
  | x :: r => by
    unfold lexS
    rw [if_pos rfl]
    exact lexS_self r
theorem lexS_asym : ∀ a b : List Str, lexS a b = true → lexS b a = false
  | [], [], h => by cases h
  | [], _ :: _, _ => rfl
  | _ :: _, [], h => by cases h
  | x :: r, y :: q, h => by
    unfold lexS at h ⊢
    by_cases e : x = y
    · subst e
      rw [if_pos rfl] at h ⊢
      exact lexS_asym r q h
    · rw [if_neg e] at h
      rw [if_neg fun z => e z.symm]
      exact ltS_asym h
theorem lexS_tr : ∀ a b c : List Str, lexS b a = false → lexS c b = false → lexS c a = false
  | [], _, [], _, _ => rfl
  | [], _, _ :: _, _, _ => rfl
  | x :: r, [], c, h1, _ => by cases h1
  | x :: r, y :: q, [], _, h2 => by cases h2
  | x :: r, y :: q, z :: p, h1, h2 => by
    unfold lexS at h1 h2 ⊢
    by_cases e1 : y = x
    · subst e1
      by_cases e2 : z = y
      · subst e2
        rw [if_pos rfl] at h1 h2 ⊢
        exact lexS_tr r q p h1 h2
      · rw [if_neg e2] at h2 ⊢
        exact h2
    · rw [if_neg e1] at h1
      by_cases e2 : z = y
      · subst e2
        rw [if_neg e1]
        exact h1
      · rw [if_neg e2] at h2
        by_cases e3 : z = x
        · subst e3
          exact absurd (ltS_tri h2 h1) e2
        · rw [if_neg e3]
          exact ltS_tr h1 h2
theorem swoK : Swo ltK := by
  refine ⟨fun a b h => ?_, fun a b c h1 h2 => ?_⟩
  · unfold ltK at h ⊢
    by_cases e : a.1 = b.1
    · rw [if_pos e] at h
      rw [if_pos e.symm]
      exact lexS_asym _ _ h
    · rw [if_neg e] at h
      rw [if_neg fun z => e z.symm]
      have := of_decide_eq_true h
      exact decide_eq_false (by omega)
  · unfold ltK at h1 h2 ⊢
    by_cases e1 : b.1 = a.1
    · rw [if_pos e1] at h1
      by_cases e2 : c.1 = b.1
      · rw [if_pos e2] at h2
        rw [if_pos (e2.trans e1)]
        exact lexS_tr _ _ _ h1 h2
      · rw [if_neg e2] at h2
        rw [if_neg (by rw [← e1]; exact e2), ← e1]
        exact h2
    · rw [if_neg e1] at h1
      have l1 := of_decide_eq_false h1
      by_cases e2 : c.1 = b.1
      · rw [if_neg (by rw [e2]; exact e1), e2]
        exact h1
      · rw [if_neg e2] at h2
        have l2 := of_decide_eq_false h2
        rw [if_neg (by omega)]
        exact decide_eq_false (by omega)
theorem arr_inj {α : Type} {a b : List α} (e : a.toArray = b.toArray) : a = b := congrArg Array.toList e
/-! the keys in the heap -/
def IsK (h : Heap) (u : Value) (k : Key) : Prop := ∃ (t m : Addr) (us : List Value) (tk : Tok), u = .ref t ∧ h.IsTuple t #[.int k.1 tk, .ref m] ∧ h.IsTuple m us.toArray ∧ Vals (k.2.map V.str) us
theorem tup_inj {h : Heap} {a : Addr} {i j : Array Value} (x : h.IsTuple a i) (y : h.IsTuple a j) : i = j := by
  obtain ⟨o, e1, _, n, d1⟩ := x
  obtain ⟨o', e2, _, n', d2⟩ := y
  rw [e1] at e2
  cases e2
  rw [d1] at d2
  cases d2
  rfl
theorem txts_inj : ∀ {zs ys : List Str} {us : List Value}, Vals (zs.map V.str) us → Vals (ys.map V.str) us → zs = ys := by
  intro zs
  induction zs with
  | nil =>
    intro ys us a b
    cases a
    cases ys with
    | nil => rfl
    | cons y ys => cases b
  | cons z zs ih =>
    intro ys us a b
    cases a with
    | cons ra a =>
      cases ys with
      | nil => cases b
      | cons y ys =>
        cases b with
        | cons rb b =>
          obtain ⟨t, e⟩ := ra
          obtain ⟨t', e'⟩ := rb
          subst e
          cases e'
          rw [ih a b]
theorem isk_inj {h : Heap} {u : Value} {k k' : Key} (x : IsK h u k) (y : IsK h u k') : k = k' := by
  obtain ⟨t, m, us, tk, rfl, a, b, c⟩ := x
  obtain ⟨t', m', us', tk', e, a', b', c'⟩ := y
  cases e
  have e1 := tup_inj a a'
  have e2 : [Value.int k.1 tk, .ref m] = [Value.int k'.1 tk', .ref m'] := arr_inj e1
  injection e2 with f1 f2
  injection f1 with g1 _
  injection f2 with f3 _
  injection f3 with g2
  subst g2
  have e3 := arr_inj (tup_inj b b')
  subst e3
  exact Prod.ext g1 (txts_inj c c')
open Classical in
noncomputable def dec (h : Heap) (u : Value) : Key := if ex : ∃ k, IsK h u k then ex.choose else (0, [])
theorem dec_eq {h : Heap} {u : Value} {k : Key} (x : IsK h u k) : dec h u = k := by
  unfold dec
  have ex : ∃ k, IsK h u k := ⟨k, x⟩
  rw [dif_pos ex]
  exact isk_inj ex.choose_spec x
noncomputable def ltv (h : Heap) : Value → Value → Bool := fun u v => ltK (dec h u) (dec h v)
theorem swo_v (h : Heap) : Swo (ltv h) := ⟨fun x y => swoK.asym _ _, fun x y z => swoK.tr _ _ _⟩
/-! the comparison of two tuples of texts -/
def eAt (zs ys : List Str) (j : Nat) : Bool := zs.getD j Str.empty == ys.getD j Str.empty
def rAt (zs ys : List Str) (j : Nat) : Bool := ltS (zs.getD j Str.empty) (ys.getD j Str.empty)
theorem lex_at (zs ys : List Str) : ∀ k i : Nat, i ≤ min zs.length ys.length → k = min zs.length ys.length - i → lexAt (eAt zs ys) (rAt zs ys) (decide (zs.length < ys.length)) i k = lexS (zs.drop i) (ys.drop i) := by
  intro k
  induction k with
  | zero =>
    intro i hi hk
    rw [lexAt_zero]
    have e : i = min zs.length ys.length := by omega
    by_cases l1 : zs.length < ys.length
    · have e1 : zs.drop i = [] := List.drop_of_length_le (by omega)
      have e2 : ys.drop i = ys[i]'(by omega) :: ys.drop (i + 1) := List.drop_eq_getElem_cons (by omega)
      rw [e1, e2, decide_eq_true l1]
      rfl
    · have e2 : ys.drop i = [] := List.drop_of_length_le (by omega)
      rw [e2, decide_eq_false l1]
      cases zs.drop i <;> rfl
  | succ k ih =>
    intro i hi hk
    have h1 : i < zs.length := by omega
    have h2 : i < ys.length := by omega
    rw [lexAt_succ, List.drop_eq_getElem_cons h1, List.drop_eq_getElem_cons h2]
    unfold lexS
    have g1 : zs.getD i Str.empty = zs[i] := by rw [List.getD_eq_getElem?_getD, List.getElem?_eq_getElem h1]; rfl
    have g2 : ys.getD i Str.empty = ys[i] := by rw [List.getD_eq_getElem?_getD, List.getElem?_eq_getElem h2]; rfl
    unfold eAt rAt
    rw [g1, g2]
    by_cases e : zs[i] = ys[i]
    · rw [if_pos (by rw [e]; exact beq_self_eq_true _), if_pos e]
      exact ih (i + 1) (by omega) (by omega)
    · rw [if_neg (fun z => e (eq_of_beq z)), if_neg e]
theorem all_at (zs ys : List Str) : ((List.range (min zs.length ys.length)).all (eAt zs ys) && zs.length == ys.length) = decide (zs = ys) := by
  by_cases e : zs = ys
  · subst e
    rw [decide_eq_true rfl, Nat.min_self, beq_self_eq_true, Bool.and_true]
    exact List.all_eq_true.mpr fun j _ => beq_self_eq_true _
  · rw [decide_eq_false e]
    refine Bool.eq_false_iff.mpr fun z => e ?_
    obtain ⟨z1, z2⟩ := Bool.and_eq_true_iff.mp z
    have l : zs.length = ys.length := eq_of_beq z2
    refine List.ext_getElem l fun j h1 h2 => ?_
    have z3 := eq_of_beq (List.all_eq_true.mp z1 j (List.mem_range.mpr (by omega)))
    rw [List.getD_eq_getElem?_getD, List.getD_eq_getElem?_getD, List.getElem?_eq_getElem h1, List.getElem?_eq_getElem h2] at z3
    exact z3
theorem val_at {zs : List Str} {us : List Value} (r : Vals (zs.map V.str) us) : ∀ (j : Nat) (h : j < us.length), ∃ t, us[j] = .str (zs.getD j Str.empty) t := by
  induction zs generalizing us with
  | nil => cases r; intro j h; exact absurd h (Nat.not_lt_zero _)
  | cons z zs ih =>
    cases r with
    | cons ra r =>
      intro j h
      cases j with
      | zero => exact ra
      | succ j => exact ih r j (Nat.lt_of_succ_lt_succ h)
section
variable {prog : Program} {w : World} {A : Around} {s : Shared} {m m' : Addr} {us ws : List Value} {zs ys : List Str}
theorem eq_txts (hm : s.heap.IsTuple m us.toArray) (hn : s.heap.IsTuple m' ws.toArray) (r : Vals (zs.map V.str) us) (q : Vals (ys.map V.str) ws) (hu : A.units < cLine) : EqAt A s (.ref m) (.ref m') (decide (zs = ys)) := by
  by_cases e : m = m'
  · subst e
    have e3 := arr_inj (tup_inj hm hn)
    subst e3
    rw [txts_inj r q, decide_eq_true rfl]
    exact .same _
  · refine .of_refs e ?_
    have l1 := r.length
    have l2 := q.length
    rw [List.length_map] at l1 l2
    have z := RcAt.tuples (A := A) (s := s) (e := eAt zs ys) hm hn hu fun j h1 h2 => by
      rw [List.size_toArray] at h1 h2
      obtain ⟨t, e1⟩ := val_at r j h1
      obtain ⟨t', e2⟩ := val_at q j h2
      rw [List.getElem_toArray, List.getElem_toArray, e1, e2]
      exact .str_str _ _ _ _
    rw [List.size_toArray, List.size_toArray, ← l1, ← l2, all_at] at z
    exact z
theorem lt_txts (hm : s.heap.IsTuple m us.toArray) (hn : s.heap.IsTuple m' ws.toArray) (r : Vals (zs.map V.str) us) (q : Vals (ys.map V.str) ws) (hu : A.units < cLine) : RcOp .Lt A s (.ref m) (.ref m') (lexS zs ys) := by
  have l1 := r.length
  have l2 := q.length
  rw [List.length_map] at l1 l2
  have z := RcOp.tuples_lt (A := A) (s := s) (e := eAt zs ys) (r := rAt zs ys) hm hn hu (fun j h1 h2 => by
      rw [List.size_toArray] at h1 h2
      obtain ⟨t, e1⟩ := val_at r j h1
      obtain ⟨t', e2⟩ := val_at q j h2
      rw [List.getElem_toArray, List.getElem_toArray, e1, e2]
      exact .str_str _ _ _ _) (fun j h1 h2 _ => by
      rw [List.size_toArray] at h1 h2
      obtain ⟨t, e1⟩ := val_at r j h1
      obtain ⟨t', e2⟩ := val_at q j h2
      rw [List.getElem_toArray, List.getElem_toArray, e1, e2]
      exact fun _ _ _ _ h => PySem.P.lt_str h)
  rw [List.size_toArray, List.size_toArray, ← l1, ← l2] at z
  have y := lex_at zs ys (min zs.length ys.length) 0 (Nat.zero_le _) (Nat.sub_zero _).symm
  rw [List.drop_zero, List.drop_zero] at y
  rw [y] at z
  exact z
theorem cmpK {p q : Value} {k1 k2 : Key} (hp : IsK s.heap p k1) (hq : IsK s.heap q k2) (hu : A.units < cLine) : wpAny (model prog w) A (keyLt' (tuples' true) p q) (fun r s' => s' = s ∧ r = ltK k1 k2) (fun _ _ => False) s := by
  obtain ⟨t, m, us, tk, rfl, ht, hm, r⟩ := hp
  obtain ⟨t2, m2, ws, tk2, rfl, ht2, hm2, r2⟩ := hq
  obtain ⟨o, ho, _, n, hd⟩ := ht
  obtain ⟨o2, ho2, _, n2, hd2⟩ := ht2
  refine kat_lt ho hd ho2 hd2 ?_
  show KatLex prog w A true (decide (2 < 2)) _ [(Value.int k1.1 tk, Value.int k2.1 tk2), (Value.ref m, Value.ref m2)] 0 s
  refine kat_cons (EqAt.int_int k1.1 tk k2.1 tk2 prog w (fun _ _ => False) _ ?_)
  by_cases e : k1.1 = k2.1
  · rw [show (k1.1 == k2.1) = true by rw [e]; exact beq_self_eq_true _]
    refine kat_yes (kat_cons (eq_txts hm hm2 r r2 hu prog w (fun _ _ => False) _ ?_))
    have lk : ltK k1 k2 = lexS k1.2 k2.2 := by
      unfold ltK
      exact if_pos e
    by_cases e2 : k1.2 = k2.2
    · rw [decide_eq_true e2]
      refine kat_yes (kat_nil ⟨rfl, ?_⟩)
      rw [lk, e2, lexS_self]
      rfl
    · rw [decide_eq_false e2]
      refine kat_no ?_
      show wpAny (model prog w) A (oneLt' false (.ref m) (.ref m2)) _ _ s
      rw [oneLt'_eq]
      simp only [Bool.false_eq_true, if_false]
      exact wpAny_bind (lt_txts hm hm2 r r2 hu prog w _ _ (wpAny_truthy_bool ⟨rfl, lk.symm⟩))
  · rw [show (k1.1 == k2.1) = false from beq_eq_false_iff_ne.mpr e]
    refine kat_no (oneLt_any_int ⟨rfl, ?_⟩)
    unfold ltK
    exact (if_neg e).symm
theorem firsts {h : Heap} : ∀ {keys : List Value}, (∀ u ∈ keys, ∃ k, IsK h u k) → ∃ fs, KatTups h keys fs ∧ (∀ v ∈ fs, ∃ n t, v = Value.int n t) ∧ fs.length = keys.length := by
  intro keys
  induction keys with
  | nil => exact fun _ => ⟨[], KatTups.nil, (fun _ z => nomatch z), rfl⟩
  | cons u keys ih =>
    intro hk
    obtain ⟨k, t, m, us, tk, rfl, ht, _, _⟩ := hk u List.mem_cons_self
    obtain ⟨fs, a, b, c⟩ := ih fun v hv => hk v (List.mem_cons_of_mem _ hv)
    obtain ⟨o, ho, hc, n, hd⟩ := ht
    refine ⟨.int k.1 tk :: fs, KatTups.cons ho hc hd rfl a, fun v hv => ?_, by rw [List.length_cons, List.length_cons, c]⟩
    rcases List.mem_cons.mp hv with rfl | hv
    · exact ⟨_, _, rfl⟩
    · exact b v hv
theorem kindK {M : Model} {keys : List Value} {Q : SortKind → Shared → Prop} {E : Value → Shared → Prop} (hk : ∀ u ∈ keys, ∃ k, IsK s.heap u k) (ne : 0 < keys.length) (h : Q (tuples' true) s) : wpAny M A (keyKind' keys.toArray) Q E s := by
  obtain ⟨fs, a, b, c⟩ := firsts hk
  refine kat_kind (T := .type "int") a (by rw [c]; exact ne) (fun v hv => ?_) rfl h
  obtain ⟨n, t, rfl⟩ := b v hv
  exact Looks.of_pure rfl
end
end SortT
/-! sorted(xs, key=f): f an own def whose keys are a whole number and a tuple of texts -/
namespace SortH
open PySem PySem.Spec PyProof.Rows SrtO L2 SortK SortT
def IsKey (kv : V) (k : SortT.Key) (H : Hp) : Prop := ∃ t m, kv = .ref t ∧ H t = some (.tup [.int k.1, .ref m]) ∧ H m = some (.tup (k.2.map V.str))
theorem IsKey.keep {kv : V} {k : SortT.Key} {H H' : Hp} (h : IsKey kv k H) (s : ∀ b o, H b = some o → (∃ xs, o = .tup xs) → H' b = some o) : IsKey kv k H' := by
  obtain ⟨t, m, e, h1, h2⟩ := h
  exact ⟨t, m, e, s _ _ h1 ⟨_, rfl⟩, s _ _ h2 ⟨_, rfl⟩⟩
/-- exactly this object stands at a -/
def exact_ (a : Addr) (o : Obj) : HO := .ext fun h => h.get? a = some o
theorem exact_ok {P : Program} {w : World} {H : Hp} {h : Heap} {a : Addr} {o : Obj} (e : h.get? a = some o) : ObjOk P w H h a (exact_ a o) := ⟨e, ⟨_, e⟩, fun _ _ x k => k _ x⟩
section
variable {X : Cx} {pins : List (Addr × Obj)} {σ : L2.St} {H : Hp} {s : Shared}
theorem exact_at (I : Inv X pins σ H s) {a : Addr} {o : Obj} (e : H a = some (exact_ a o)) : s.heap.get? a = some o := (I.hok a _ e).1
theorem isk_of (I : Inv X pins σ H s) {kv : V} {u : Value} {k : SortT.Key} (r : RelV kv u) (h : IsKey kv k H) : IsK s.heap u k := by
  obtain ⟨t, m, rfl, h1, h2⟩ := h
  cases r
  obtain ⟨_, its, r1, p1⟩ := I.hok t _ h1
  obtain ⟨_, us, r2, p2⟩ := I.hok m _ h2
  cases r1 with
  | cons ra r1 =>
    cases r1 with
    | cons rb r1 =>
      cases r1
      obtain ⟨tk, e⟩ := ra
      subst e
      cases rb
      exact ⟨t, m, us, tk, rfl, p1, p2, r2⟩
def rSortK (K : PySem.W.Frag) (sp : Sp) (f : Addr) : List V → List V → Hp → VK → Prop := fun vs zs H Q => ∃ (l : Addr) (xs : List V) (g : V → SortT.Key), vs = [V.ref l] ∧ zs = [V.ref f] ∧ SqL K H l xs ∧
  (∀ x ∈ xs, ∀ H' : Hp, (∀ b o, H b = some o → H' b = some o) → sp [x] H' (fun kv H'' => (∀ b o, H' b = some o → H'' b = some o) ∧ IsKey kv (g x) H'') E0) ∧
  ∀ (ys : List V) (H' : Hp) (p : Addr), ys.Perm xs → ys.Pairwise (fun a b => ltK (g b) (g a) = false) → (∀ b o, H b = some o → H' b = some o) → H p = none → H' p = some (.lst ys) → Q (.ref p) H'
theorem val_of {xs : List V} {us : List Value} (r : Vals xs us) : ∀ {j : Nat} {v : Value}, us[j]? = some v → ∃ x, xs[j]? = some x ∧ RelV x v := by
  induction xs generalizing us with
  | nil => cases r; intro j v h; cases h
  | cons x xs ih =>
    cases r with
    | cons ra r =>
      intro j v h
      cases j with
      | zero => cases h; exact ⟨x, rfl, ra⟩
      | succ j => exact ih r h
/-- the turns: what stands before turn i -/
def J (X : Cx) (pins : List (Addr × Obj)) (σ : L2.St) (H : Hp) (xs : List V) (g : V → SortT.Key) (p kS : Addr) (e1 : Nat) (i : Nat) (ks : List Value) (st : Shared) : Prop :=
  ∃ (H' : Hp) (kvs : List V) (ek : Nat), Inv X pins σ H' st ∧ (∀ b o, H b = some o → H' b = some o) ∧ H' p = some (exact_ p (seqObj "list" #[] e1)) ∧ H' kS = some (exact_ kS (seqObj "list" ks.toArray ek)) ∧ Vals kvs ks ∧ kvs.length = i ∧
    ∀ (j : Nat) (x kv : V), xs[j]? = some x → kvs[j]? = some kv → IsKey kv (g x) H'
/-- what stands at f is called with one value -/
def KF (X : Cx) (pins : List (Addr × Obj)) (σ : L2.St) (f : Addr) (sp : Sp) : Prop := ∀ (st : Shared) (H' : Hp) (v : Value) (x : V) (Q : VK), Inv X pins σ H' st → RelV x v → sp [x] H' Q E0 → codeAny (model X.prog X.w) X.A.in1.in1 (.call (.ref f) ⟨[v], []⟩) (CR CX0 X.stack X.prog X.w H' st Q E0) st
theorem sortK_of {sp : Sp} {f : Addr} {Q : VK} {vs zs : List V} {us ws : List Value} (F : KF X pins σ f sp) (hu : X.A.in1.in1.units < cLine) (I : Inv X pins σ H s) (rv : Vals vs us) (rz : Vals zs ws) (h : rSortK X.K sp f vs zs H Q) :
    wpAny (model X.prog X.w) X.A (call (.builtin "sorted") us ([Str.ofString "key"].zip ws)) (EP X pins σ Q) X.xe s := by
  obtain ⟨l, xs, g, rfl, rfl, hl, key, q⟩ := h
  obtain ⟨u, rfl, ru⟩ := rv.one
  obtain ⟨f', rfl, rf⟩ := rz.one
  cases ru
  cases rf
  obtain ⟨its, r, pl, zl⟩ := I.list hl
  have li := r.length
  have zi : its.length ≤ sizeLine := by rw [← li]; exact zl
  show wpAny _ _ (call (.builtin "sorted") [.ref l] [(Str.ofString "key", .ref f)]) _ _ s
  refine sorted_head (vs := its) pl.isList zi fun h1 p hp hs g1 k1 => ?_
  refine sort_key (s := { s with heap := h1 }) g1 zi fun e1 ga gk => ?_
  have hp' : @Eq Nat p (s.heap.objs.size + 1) := hp
  have hpn : H p = none := I.hok.fresh (by omega)
  obtain ⟨e1', ho1⟩ : ∃ e1', (h1.update p (Obj.mapSeq fun _ => #[])).get? p = some (seqObj "list" #[] e1') := ⟨_, get?_update_seq g1 (fun _ => #[])⟩
  have ee : e1' = e1 := by
    have z := ga.symm.trans (Heap.get?_push_of_some (seqObj "list" #[] 0) (Heap.get?_push_of_some (seqObj "tuple" its.toArray 0) ho1))
    have z2 := Option.some.inj z
    have z3 : (Data.seq #[] e1 : Data) = Data.seq #[] e1' := congrArg Obj.data z2
    injection z3 with _ z4
    exact z4.symm
  subst ee
  have szu : (h1.update p (Obj.mapSeq fun _ => #[])).objs.size = p + 1 := by rw [Heap.size_update, hs]
  have I1 : Inv X pins σ (upd H p (exact_ p (seqObj "list" #[] e1'))) { s with heap := h1.update p (Obj.mapSeq fun _ => #[]) } :=
    I.laid (t' := s.toks) (fun b o e => (Heap.get?_update_ne _ _ _ _ (fun z => by
      have z' : @Eq Nat b p := z
      have y : @LT.lt Nat _ b s.heap.objs.size := Heap.lt_size e
      omega)).trans (k1 b o e)) (by omega) (exact_ok ho1)
  have hkS : h1.objs.size + 1 = p + 2 := by omega
  have gk' : (begun h1 p its).get? (h1.objs.size + 1) = some (seqObj "list" #[] 0) := gk
  have I2 : Inv X pins σ (upd (upd H p (exact_ p (seqObj "list" #[] e1'))) (h1.objs.size + 1) (exact_ (h1.objs.size + 1) (seqObj "list" #[] 0))) { s with heap := begun h1 p its } :=
    I1.laid (t' := s.toks) (fun b o e => Heap.get?_push_of_some _ (Heap.get?_push_of_some _ e)) (by show (h1.update p _).objs.size ≤ _; omega) (exact_ok gk')
  show wpAny _ _ (ksk_rest p (.ref f) false its.toArray e1' (.ref (h1.objs.size + 1))) _ _ { s with heap := begun h1 p its }
  have hk0 : ∃ kS : Addr, kS = h1.objs.size + 1 := ⟨_, rfl⟩
  obtain ⟨kS, hk0⟩ := hk0
  have hk0' : @Eq Nat kS (h1.objs.size + 1) := hk0
  rw [← hk0] at I2 gk' ⊢
  have nkp : kS ≠ p := fun z => by
    have z' : @Eq Nat kS p := z
    omega
  have hkn : H kS = none := I.hok.fresh (by omega)
  refine key_rest (J X pins σ H xs g p kS e1') ⟨_, [], 0, I2, fun b o e => ?_, by rw [upd_ne nkp.symm, upd_same], upd_same, .nil, rfl, fun j x kv _ z => by cases z⟩ ?_ ?_
  · rw [upd_ne (ne_of_none e hkn), upd_ne (ne_of_none e hpn)]
    exact e
  · rintro i ks st v ⟨H', kvs, ek, I', ex, hpx, hk', rk, lk, isk⟩ hv
    obtain ⟨x, hx, rx⟩ := val_of r hv
    have i0 : i < its.length := (List.getElem?_eq_some_iff.mp hv).1
    have sp' := key x (List.mem_of_getElem? hx) H' ex
    refine wpAny_call (codeAny_mono (F st H' v x (fun kv H'' => (∀ b o, H' b = some o → H'' b = some o) ∧ IsKey kv (g x) H'') I' rx sp') ?_)
    rintro (e | fl) st' hq
    · exact hq.elim
    · cases fl with
      | ret k =>
        obtain ⟨kv, H2, I3, rkv, sm, ik⟩ := I'.after hq
        have hk2 := sm _ _ hk'
        have g2 := exact_at I3 hk2
        obtain ⟨e2, g3⟩ : ∃ e2, (st'.heap.update kS (Obj.mapSeq (·.push k))).get? kS = some (seqObj "list" (ks.toArray.push k) e2) := ⟨_, get?_update_seq g2 (·.push k)⟩
        have lks : ks.length = i := by rw [← rk.length]; exact lk
        refine ⟨ek, g2, by omega, upd H2 kS (exact_ kS (seqObj "list" (ks ++ [k]).toArray e2)), kvs ++ [kv], e2, ?_, fun b o e => ?_, ?_, upd_same, rk.append (.cons rkv .nil), by rw [List.length_append, List.length_singleton, lk], fun j y kw hy hkw => ?_⟩
        · have g4 : (st'.heap.update kS (Obj.mapSeq (·.push k))).get? kS = some (seqObj "list" (ks ++ [k]).toArray e2) := by
            rw [g3]
            simp
          exact I3.write (t' := st'.toks) (x := kS) (e := kS) (by rw [hk2]; exact trivial) (.inl rfl) (fun b o hb e => (Heap.get?_update_ne _ _ _ _ hb).trans e) ⟨_, g4⟩ (exact_ok g4)
        · rw [upd_ne (ne_of_none e hkn)]
          exact sm _ _ (ex _ _ e)
        · rw [upd_ne nkp.symm]
          exact sm _ _ hpx
        · have kk : IsKey kw (g y) H2 := by
            by_cases hj : j < kvs.length
            · rw [List.getElem?_append_left hj] at hkw
              exact (isk j y kw hy hkw).keep fun b o e _ => sm _ _ e
            · have ej : j = i := by
                have := (List.getElem?_eq_some_iff.mp hkw).1
                rw [List.length_append, List.length_singleton] at this
                omega
              subst ej
              rw [List.getElem?_append_right (by omega), lk, Nat.sub_self] at hkw
              cases hkw
              rw [hx] at hy
              cases hy
              exact ik
          refine kk.keep fun b o e tt => ?_
          rw [upd_ne (fun z => ?_)]
          · exact e
          · obtain ⟨ts, rfl⟩ := tt
            rw [z, hk2] at e
            cases e
      | next => exact False.elim hq
      | brk => exact False.elim hq
      | cont => exact False.elim hq
  · rintro ks st ⟨H', kvs, ek, I', ex, hpx, hk', rk, lk, isk⟩
    have gk2 := exact_at I' hk'
    have gp2 := exact_at I' hpx
    have lks : ks.length = its.length := by rw [← rk.length]; exact lk
    refine ⟨⟨_, gk2⟩, ?_⟩
    have keyAt : ∀ (j : Nat) (u : Value), ks[j]? = some u → ∃ x, xs[j]? = some x ∧ IsK st.heap u (g x) := fun j u hj => by
      obtain ⟨kv, h1, h2⟩ := val_of rk hj
      have j1 : j < xs.length := by
        have := (List.getElem?_eq_some_iff.mp hj).1
        omega
      exact ⟨xs[j], List.getElem?_eq_getElem j1, isk_of I' h2 (isk j _ kv (List.getElem?_eq_getElem j1) h1)⟩
    have keyIn : ∀ u ∈ ks, ∃ k, IsK st.heap u k := fun u hu => by
      obtain ⟨j, hj, e⟩ := List.getElem_of_mem hu
      obtain ⟨x, _, h⟩ := keyAt j u (by rw [List.getElem?_eq_getElem hj, e])
      exact ⟨_, h⟩
    refine key_end (κ := tuples' true) (swo_v st.heap) gk2 gp2 nkp (by rw [List.size_toArray]; exact lks) zi (fun h2 Q E h => kindK keyIn (by omega) h) ?_ ?_
    · intro a b ha hb
      have ha' : a.1 ∈ ks := by simpa using ha
      have hb' : b.1 ∈ ks := by simpa using hb
      obtain ⟨k1, h1⟩ := keyIn _ ha'
      obtain ⟨k2, h2⟩ := keyIn _ hb'
      refine wpAny_mono (cmpK h1 h2 hu) (fun c s' hc => ?_) fun _ _ x => x
      refine ⟨hc.1, hc.2.trans ?_⟩
      show _ = ltK (dec st.heap a.1) (dec st.heap b.1)
      rw [dec_eq h1, dec_eq h2]
    · intro ps srt stb
      have pz : ps.Perm (ks.zip its) := by
        have := stb.perm
        rw [Array.toList_zip] at this
        exact this
      have lz : (ks.zip its).length = its.length := by rw [List.length_zip]; omega
      obtain ⟨l', pm, el⟩ := perm_lift (fun z : V × Keyed => z.2) pz (xs.zip (ks.zip its)) (List.map_snd_zip (by omega))
      have mem : ∀ z ∈ xs.zip (ks.zip its), RelV z.1 z.2.2 ∧ dec st.heap z.2.1 = g z.1 := fun z hz => by
        obtain ⟨j, hj, e⟩ := List.getElem_of_mem hz
        have j1 : j < xs.length := by rw [List.length_zip] at hj; omega
        have j2 : j < ks.length := by omega
        have j3 : j < its.length := by omega
        rw [List.getElem_zip, List.getElem_zip] at e
        subst e
        obtain ⟨x, hx, rx⟩ := val_of r (List.getElem?_eq_getElem j3)
        obtain ⟨y, hy, ky⟩ := keyAt j _ (List.getElem?_eq_getElem j2)
        rw [List.getElem?_eq_getElem j1] at hx hy
        cases hx
        cases hy
        exact ⟨rx, dec_eq ky⟩
      have mem' : ∀ z ∈ l', RelV z.1 z.2.2 ∧ dec st.heap z.2.1 = g z.1 := fun z hz => mem z (pm.mem_iff.mp hz)
      have vals : Vals (l'.map (·.1)) (ps.map (·.2)) := by
        rw [← el, List.map_map]
        exact vals_maps (fun z : V × Keyed => z.1) (fun z => z.2.2) l' fun z hz => (mem' z hz).1
      have perm : (l'.map (·.1)).Perm xs := by
        have := pm.map (fun z : V × Keyed => z.1)
        rw [List.map_fst_zip (by omega)] at this
        exact this
      have pw : (l'.map (·.1)).Pairwise (fun a b => ltK (g b) (g a) = false) := by
        rw [← el] at srt
        refine List.pairwise_map.mpr (List.Pairwise.imp_of_mem (fun {a b} ha hb h => ?_) (List.pairwise_map.mp srt))
        have h' : ltK (dec st.heap b.2.1) (dec st.heap a.2.1) = false := h
        rw [(mem' a ha).2, (mem' b hb).2] at h'
        exact h'
      obtain ⟨e3, g3⟩ : ∃ e3, (st.heap.update kS (Obj.mapSeq fun _ => (#[] : Array Value))).get? kS = some (seqObj "list" #[] e3) := ⟨_, get?_update_seq gk2 fun _ => #[]⟩
      have I4 : Inv X pins σ (upd H' kS (exact_ kS (seqObj "list" #[] e3))) { st with heap := st.heap.update kS (Obj.mapSeq fun _ => (#[] : Array Value)) } :=
        I'.write (t' := st.toks) (x := kS) (e := kS) (by rw [hk']; exact trivial) (.inl rfl) (fun b o hb e => (Heap.get?_update_ne _ _ _ _ hb).trans e) ⟨_, g3⟩ (exact_ok g3)
      have gp3 : (st.heap.update kS (Obj.mapSeq fun _ => (#[] : Array Value))).get? p = some (seqObj "list" #[] e1') := (Heap.get?_update_ne _ _ _ _ nkp.symm).trans gp2
      obtain ⟨e4, g4⟩ : ∃ e4, (left st.heap kS p ps).get? p = some (seqObj "list" (ps.map (·.2)).toArray e4) := ⟨_, get?_update_seq gp3 (fun _ => (ps.map (fun z : Keyed => z.2)).toArray)⟩
      have len : (l'.map (·.1)).length ≤ sizeLine := by rw [perm.length_eq]; omega
      have I5 : Inv X pins σ (upd (upd H' kS (exact_ kS (seqObj "list" #[] e3))) p (.lst (l'.map (·.1)))) { st with heap := left st.heap kS p ps } :=
        I4.write (t' := st.toks) (x := p) (e := p) (by rw [upd_ne nkp.symm, hpx]; exact trivial) (.inl rfl) (fun b o hb e => (Heap.get?_update_ne _ _ _ _ hb).trans e) ⟨_, g4⟩ ⟨len, _, e4, vals, g4⟩
      refine ⟨rfl, .ref p, _, I5, rfl, q _ _ p perm pw (fun b o e => ?_) hpn upd_same⟩
      rw [upd_ne (ne_of_none e hpn), upd_ne (ne_of_none e hkn)]
      exact ex _ _ e
theorem cr_sortK {sp : Sp} {f : Addr} {n : Nat} (F : FnR X.prog X.w X.K X.mg X.base CX0 n f sp) (hr : Room n X.A.in1.in1) (hu : X.A.in1.in1.units < cLine) : CallRK X (.builtin "sorted") [Str.ofString "key"] (rSortK X.K sp f) :=
  fun pins s σ H vs zs us ws Q I rv rz h => sortK_of (fun st H' v x Q' I' rx h' => F X.A.in1.in1 X.stack st H' [v] [x] Q' E0 hr I'.env0.in1.in1 (.cons rx .nil) h') hu I rv rz h
end
end SortH
/-! sorted(xs, key=lambda x: ..) -/
namespace SortL
open PySem PySem.Spec L2 SortH LamX
open PyProof.Rows hiding St
theorem lam1_at {P : Program} {w : World} {K : PySem.W.Frag} {mg : Str → Option Value} {base : Heap} {A : Around} {outer : List Env} {st : Shared} {H : Hp} {f c' : Addr} {q : Str} {params : Arguments} {body : Expr} {scope : Scope} {pm ctv v : Value} {x : Str} {k : Nat} {xv : V} {tb : TE} {Q : VK}
    (hf : st.heap.get? f = some (PySem.W.kla_obj "<lambda>" q params body scope [] pm c' ctv)) (hc : ∃ (oc : Obj) (vs : Array Value) (t : Tok), st.heap.get? c' = some oc ∧ oc.data = .fields vs ∧ vs[1]? = some (.str q t)) (S : FnScope [x] [x] scope) (hl : scope.names.lookup x = some NameKind.local)
    (hbind : bindArgs (PySem.W.kla_fn "<lambda>" q params body scope [] pm (.ref c') ctv) ⟨[v], []⟩ = pure [(x, v)]) (hr : Room (k + 1) A) (e0 : Env0 P w K mg base A outer st H) (rv : RelV xv v)
    (hbody : Room k (A.deeper (envOfC q scope st.heap.objs.size f (.ref c'))) → PE (cxOf CX0 P w K mg base [x] q scope f (.ref c') A outer st H E0) body tb) (h : tb [some xv] H Q) :
    codeAny (model P w) A (.call (.ref f) ⟨[v], []⟩) (CR CX0 outer P w H st Q E0) st := by
  obtain ⟨oc, vs, t, hoc, hdc, hvc⟩ := hc
  have lim : st.heap.NoLimit := e0.mod.nolimit.keeps fun b o e => (e0.bs b o e).1
  have kinds : ∀ y ∈ [x].zip [v], scope.names.lookup y.1 = some .local ∨ (scope.names.lookup y.1 = some .cell ∧ ((cellsFrom (st.heap.objs.size + 1) scope.names []).lookup y.1).isSome = true) := by
    intro y hy
    have e : y = (x, v) := by simpa using hy
    rw [e]
    exact Or.inl hl
  refine PySem.W.kla_callFunE hr.depth hf rfl S.co S.gen rfl ⟨c', oc, vs, t, rfl, hoc, hdc, hvc⟩ ?_
  rw [hbind]
  refine wpAny_pure ?_
  show wpAny _ _ (newFunctionEnv scope mainGlobals [] ([x].zip [v]) (q ++ ".<locals>.") (some f) (.ref c') none builtinsNs) _ _ st
  refine wpAny_newFunctionEnv_cells S.kind kinds fun env he s1 z => ?_
  subst he
  refine ⟨lim.keeps z.toInCall.keep, ?_⟩
  have I := inv_start (CX := CX0) (E := E0) (vs := [xv]) S hr.hd e0 rfl (.cons rv .nil) z
  refine PySem.W.kla_codeExpr (wpAny_mono ((hbody (hr.deeper _)).run [] s1 _ H Q I h) (fun u s2 y => ?_) fun e s2 y => y)
  obtain ⟨y, H2, J, ry, qy⟩ := y
  exact ⟨y, H2, J.os, J.bare, J.base, J.hok, ry, qy⟩
def tSortLam (K : PySem.W.Frag) (T : List (Addr × Str)) (tb : TE) (t : TA) : TE := fun σ H Q => t σ H fun vs H1 => Tabs T H1 ∧ ∀ H2, ExtN H1 H2 → Tabs T H2 → ∃ (l : Addr) (xs : List V) (g : V → SortT.Key), vs = [.ref l] ∧ SqL K H2 l xs ∧
  (∀ x ∈ xs, ∀ H3 : Hp, (∀ b o, H2 b = some o → H3 b = some o) → tb [some x] H3 fun kv H4 => (∀ b o, H3 b = some o → H4 b = some o) ∧ IsKey kv (g x) H4) ∧
  ∀ (ys : List V) (H3 : Hp) (p : Addr), ys.Perm xs → ys.Pairwise (fun a b => SortT.ltK (g b) (g a) = false) → (∀ b o, H2 b = some o → H3 b = some o) → H2 p = none → H3 p = some (.lst ys) → Q (.ref p) H3
section
variable {X : Cx}
theorem pe_sortLam {T : List (Addr × Str)} {c P : Addr} {k : Nat} {e : Expr} {t : TA} {tb : TE} {x : Str} {params : Arguments} {body : Expr} {scope : Scope} {lpos kpos p pos : Pos} (ha : PA X [e] t) (hg : Gl X "sorted") (zO : X.mg "sorted" = none)
    (TB : TabB X.base X.mg c P) (hcode : X.env.code = .ref c) (hm : (P, X.env.qual ++ "<lambda>") ∈ T) (hu : ∀ p ∈ T, p.1 = P → p.2 = X.env.qual ++ "<lambda>") (hdef : defaultsOf params X.env = ([], [])) (hfree : ∀ y ∈ scope.names, y.2 ≠ .free) (hclo : cloFrom X.env.cells scope.names [] = [])
    (S : FnScope [x] [x] scope) (hl : scope.names.lookup x = some NameKind.local) (hbind : ∀ (q : Str) (pm cv ctv v : Value), bindArgs (PySem.W.kla_fn "<lambda>" q params body scope [] pm cv ctv) ⟨[v], []⟩ = pure [(x, v)])
    (hr : Room (k + 3) X.A) (hst : X.stack = X.env :: X.outer) (hfm : X.env.frame = some X.env.locals)
    (hbody : ∀ (A : Around) (outer : List Env) (s : Shared) (H : Hp) (f c' : Addr), Room k (A.deeper (envOfC (X.env.qual ++ "<lambda>") scope s.heap.objs.size f (.ref c'))) → PE (cxOf CX0 X.prog X.w X.K X.mg X.base [x] (X.env.qual ++ "<lambda>") scope f (.ref c') A outer s H E0) body tb)
    (he : backTo pos (starEach [e] X.env) = (false, eval e X.env) :: backTo pos (starEach [] X.env) := by rfl) (hpl : (backTo pos (starEach [e] X.env)).any (·.1) = false := by rfl) :
    PE X (.Call (.Name "sorted" p) [e] [⟨some "key", .Lambda params body scope lpos, kpos⟩] pos) (tSortLam X.K T tb t) := by
  refine ⟨fun pins s σ H Q I h => ?_⟩
  refine wpAny_Call_Name_kw (ld_blt I hg zO (show bootBuiltins "sorted" = some (.builtin "sorted") by decide +kernel) ?_ (by decide) (by decide))
  refine PyProof.Rows.callWith_kw (thn (ha.run pos pins s σ H _ I h) fun us s1 q1 => ?_) he hpl (by rfl) (by rfl)
  obtain ⟨vs, H1, I1, r1, hT, q1⟩ := q1
  show wpAny _ _ (evalAll [(do let v ← eval (.Lambda params body scope lpos) X.env; standAt pos; pure v)]) _ _ s1
  refine wpAny_evalAll_cons (wpAny_bind (lam_make2 I1 TB hcode hm hu hT hdef (fun y hy z => absurd z (hfree y hy)) fun f c' pm ctv H2 s2 I2 eN T2 hf hfn hfr hco => wpAny_bind (wpAny_standAt (wpAny_pure (wpAny_evalAll_nil ?_)))))
  rw [hclo] at hf
  obtain ⟨l, xs, g, rfl, hq, key, q2⟩ := q1 H2 eN T2
  have nL : f ≠ X.env.locals := fun z => hfr (List.mem_filterMap.mpr ⟨X.env, by rw [hst]; exact List.mem_cons_self, by rw [hfm, z]⟩)
  have nF : f ∉ X.fs := fun z => by
    obtain ⟨en, h1, h2⟩ := List.mem_filterMap.mp z
    exact hfr (List.mem_filterMap.mpr ⟨en, by rw [hst]; exact List.mem_cons_of_mem _ h1, h2⟩)
  have I3 : Inv X ((f, PySem.W.kla_obj "<lambda>" (X.env.qual ++ "<lambda>") params body scope [] pm c' ctv) :: pins) σ H2 s2 := I2.pins_of fun p hp => by
    rcases List.mem_cons.mp hp with z | z
    · rw [z]
      exact ⟨hf, hfn, nL, nF, fun v q => by cases q⟩
    · exact I2.pin p (List.mem_append_right _ z)
  have h2 := hr.in1.in1
  have run := sortK_of (X := X) (zs := [.ref f]) (ws := [.ref f]) (Q := Q) (sp := fun ws H Q _ => H c' = some (CodeO c' (X.env.qual ++ "<lambda>")) ∧ ∃ x, ws = [x] ∧ tb [some x] H Q) (f := f) (fun st H3 v xv Q3 I4 rx ⟨hc4, y, ey, h4⟩ => ?_) h2.units0 I3 r1 (.cons rfl .nil)
    ⟨l, xs, g, rfl, rfl, hq, fun y hy H3 k3 => ⟨k3 _ _ hco, y, rfl, key y hy H3 k3⟩, q2⟩
  · refine wpAny_mono run (fun u s3 z => ?_) fun _ _ z => z
    obtain ⟨y, H3, I4, ry, qy⟩ := z
    exact ⟨y, H3, I4.pins_of fun p hp => I4.pin p (List.mem_append_right _ (List.mem_cons_of_mem _ hp)), ry, qy⟩
  · cases ey
    have pf := (I4.pin (f, _) (List.mem_append_right _ List.mem_cons_self)).1
    obtain ⟨⟨oc, vs, t, hoc, hdc, hvc⟩, _, _⟩ := I4.hok c' _ hc4
    exact lam1_at pf ⟨oc, vs, t, hoc, hdc, hvc⟩ S hl (hbind _ _ _ _ _) h2 I4.env0.in1.in1 rx (fun h5 => hbody _ _ st H3 f c' h5) h4
end
end SortL
/-! dict(xs) of a list of pairs whose keys are tuples of whole numbers and texts -/
namespace DcT
open PySem PySem.Spec PyProof.Rows L2
def mergeT (kvs more : List (List L2.Key × V)) : List (List L2.Key × V) := more.foldl (fun acc kv => putK acc kv.1 kv.2) kvs
theorem length_mergeT : ∀ (more kvs : List (List L2.Key × V)), (mergeT kvs more).length ≤ kvs.length + more.length
  | [], kvs => by show kvs.length ≤ kvs.length + 0; omega
  | p :: r, kvs => by
    have h1 := length_mergeT r (putK kvs p.1 p.2)
    have h2 := length_putK kvs p.1 p.2
    show (mergeT (putK kvs p.1 p.2) r).length ≤ _
    rw [List.length_cons]
    omega
def mergedH (xs more : List (List L2.Key × Addr × Value)) : List (List L2.Key × Addr × Value) := more.foldl (fun acc q => storedH acc q.1 q.2.1 q.2.2) xs
theorem kt_merge {H : Hp} : ∀ {more : List (List L2.Key × V)} {rs : List (List L2.Key × Addr × Value)} {kvs : List (List L2.Key × V)} {vs : List (List L2.Key × Addr × Value)}, KT H more rs → KT H kvs vs → KT H (mergeT kvs more) (mergedH vs rs)
  | _, _, kvs, vs, .nil, h => h
  | _, _, kvs, vs, .cons (a := p) (b := q) ⟨e1, e2, e3⟩ t, h => by
    have z : KT H (putK kvs p.1 p.2) (storedH vs q.1 q.2.1 q.2.2) := by
      rw [← e1]
      exact h.put p.1 e2 e3
    show KT H (mergeT (putK kvs p.1 p.2) _) (mergedH (storedH vs q.1 q.2.1 q.2.2) _)
    exact kt_merge t z
section
variable {prog : Program} {w : World} {A : Around} {E : Value → Shared → Prop}
theorem is_tup {h : Heap} {k : List L2.Key} {a : Addr} (x : (tupleKind (mixKind prog w)).is h k a) : ∃ o, h.get? a = some o ∧ o.cls = .type "tuple" := by
  obtain ⟨o, its, n, h1, h2, _⟩ := x
  exact ⟨o, h1, h2⟩
theorem is_at {h h' : Heap} {k : List L2.Key} {a : Addr} (x : (tupleKind (mixKind prog w)).is h k a) (e : ∀ o, h.get? a = some o → h'.get? a = some o) : (tupleKind (mixKind prog w)).is h' k a := by
  obtain ⟨o, its, n, h1, r⟩ := x
  exact ⟨o, its, n, e o h1, r⟩
theorem dh_but {h h' : Heap} {S I : Addr} {xs : List (List L2.Key × Addr × Value)} {oi : Obj} (x : h.DictOfH (tupleKind (mixKind prog w)) S xs) (hi : h.get? I = some oi) (ni : oi.cls ≠ .type "tuple") (nS : S ≠ I) (e : ∀ b o, b ≠ I → h.get? b = some o → h'.get? b = some o) : h'.DictOfH (tupleKind (mixKind prog w)) S xs := by
  obtain ⟨o, es, ep, h1, h2, h3, h4, h5, h6⟩ := x
  refine ⟨o, es, ep, e _ _ nS h1, h2, h3, h4, fun y hy => ?_, h6⟩
  obtain ⟨ot, g1, g2⟩ := is_tup (h5 y hy)
  exact is_at (h5 y hy) fun o' q => e _ _ (fun z => ni (by rw [z, hi] at g1; cases g1; exact g2)) q
theorem dh_all {h h' : Heap} {S : Addr} {xs : List (List L2.Key × Addr × Value)} (x : h.DictOfH (tupleKind (mixKind prog w)) S xs) (e : ∀ b o, h.get? b = some o → h'.get? b = some o) : h'.DictOfH (tupleKind (mixKind prog w)) S xs := by
  obtain ⟨o, es, ep, h1, h2, h3, h4, h5, h6⟩ := x
  exact ⟨o, es, ep, e _ _ h1, h2, h3, h4, fun y hy => is_at (h5 y hy) fun o' q => e _ _ q, h6⟩
theorem stored_le (xs : List (List L2.Key × Addr × Value)) (k : List L2.Key) (a : Addr) (v : Value) : (storedH xs k a v).length ≤ xs.length + 1 := by
  unfold storedH
  split
  · rw [List.length_map]; omega
  · rw [List.length_append]; exact Nat.le_refl _
/-- the walk over the pairs -/
theorem upd_loopT {R : Result → Shared → Prop} {S I l : Addr} {items : Array Value} {res : Value} (hh : A.handled = none) (hlI : l ≠ I) (hSI : S ≠ I) (hSl : S ≠ l) (rm : (tupleKind (mixKind prog w)).room A.in1) :
    ∀ (rest : List (List L2.Key × Addr × Value)) (i : Nat) (acc : List (List L2.Key × Addr × Value)) (ix : Int) (t : Tok) (s : Shared), items.size = i + rest.length → acc.length + rest.length ≤ sizeLine →
      (∀ (j : Nat) (q : List L2.Key × Addr × Value), rest[j]? = some q → ∃ b : Addr, items[i + j]? = some (.ref b) ∧ b ≠ S ∧ b ≠ I ∧ IsTup s.heap b #[.ref q.2.1, q.2.2] ∧ q.2.1 ≠ S ∧ q.2.1 ≠ I ∧ (tupleKind (mixKind prog w)).is s.heap q.1 q.2.1) →
      s.heap.IsListIter I l i → s.heap.IsList l items → s.heap.DictOfH (tupleKind (mixKind prog w)) S acc →
      (∀ h' tk, h'.DictOfH (tupleKind (mixKind prog w)) S (mergedH acc rest) → (∀ b o, b ≠ S → b ≠ I → s.heap.get? b = some o → h'.get? b = some o) → R (.ok (.ret res)) { s with heap := h', toks := tk }) →
      codeAny (model prog w) A (.builtin "dict.update.loop" ⟨[.ref S, .ref I, .int ix t, res], []⟩) R s
  | [], i, acc, ix, t, s, hsz, hln, ht, hit, hl, hm, hR => by
    refine codeAny_builtin ud_entry ?_
    rw [Around.under_plainId ud_plain _]
    show wpAny _ A.in1 (pyNext (.ref I) >>= _) _ _ s
    refine wpAny_bind (wpAny_pyNext_list_end (A := A.in1) hh hit hl (by first | exact Array.getElem?_eq_none (Nat.le_of_eq hsz) | (simp at hsz; simp; omega)) fun h' he => ?_)
    show wpAny _ A.in1 (Builtin.Dict.addKeywords S [] >>= _) _ _ _
    refine wpAny_bind (wpAny_pure (wpAny_pure ?_))
    obtain ⟨oi, hi, hc, _⟩ := hit
    exact hR h' s.toks (dh_but hm hi (by rw [hc]; decide) hSI fun b o hb e => he b o hb e) fun b o _ hb e => he b o hb e
  | q :: rest, i, acc, ix, t, s, hsz, hln, ht, hit, hl, hm, hR => by
    obtain ⟨b, hb, hbS, hbI, htup, hkS, hkI, hk⟩ := ht 0 q rfl
    rw [List.length_cons] at hsz hln
    refine codeAny_builtin ud_entry ?_
    rw [Around.under_plainId ud_plain _]
    show wpAny _ A.in1 (pyNext (.ref I) >>= _) _ _ s
    have hit0 := hit
    refine wpAny_bind (wpAny_pyNext_list_item (x := .ref b) hit hl (by simpa using hb) fun h1 hit1 hs1 => ?_)
    have ht1 : IsTup h1 b #[.ref q.2.1, q.2.2] := htup.extBut hs1.extBut hbI
    have hl1 : h1.IsList l items := hl.extBut hs1.extBut hlI
    obtain ⟨oi, hi, hc0, _⟩ := hit0
    have hm1 : h1.DictOfH (tupleKind (mixKind prog w)) S acc := dh_but hm hi (by rw [hc0]; decide) hSI fun b o hb e => hs1.extBut b o hb e
    have hk1 : (tupleKind (mixKind prog w)).is h1 q.1 q.2.1 := is_at hk fun o e => hs1.extBut _ o hkI e
    obtain ⟨o, ho, hc, n, hd⟩ := id ht1
    show wpAny _ A.in1 (holding [Value.ref b] _ >>= _) _ _ _
    refine wpAny_bind (wpAny_holding ?_)
    refine wpAny_bind (wpAny_tryCatch ?_)
    unfold Builtin.Dict.pairItems
    refine wpAny_bind (wpAny_typeOf (T := "tuple") ⟨o, ho, hc⟩ ?_)
    rw [if_pos (by first | decide | rfl | simp)]
    refine wpAny_bind (wpAny_seqItems ho hd (wpAny_pure ?_))
    show wpAny _ A.in1 (holding [.ref q.2.1, q.2.2] (dictSet S (.ref q.2.1) q.2.2)) _ _ _
    refine wpAny_holding (wpAny_dictSet_heap (knd := tupleKind (mixKind prog w)) (k := q.1) rm hk1 hm1 (fun h2 hm2 hs2 => ?_) (by omega))
    refine wpAny_pure ⟨plainId_quiet ud_plain _, upd_loopT (items := items) hh hlI hSI hSl rm rest (i + 1) (storedH acc q.1 q.2.1 q.2.2) (ix + 1) 0 _ (show items.size = i + 1 + rest.length by omega) ?_ (fun j q' e => ?_) ?_ ?_ hm2 fun h' tk hd' k => ?_⟩
    · have z := stored_le acc q.1 q.2.1 q.2.2
      omega
    · obtain ⟨b', hb', hbS', hbI', htup', hkS', hkI', hk'⟩ := ht (j + 1) q' (by simpa using e)
      refine ⟨b', ?_, hbS', hbI', (htup'.extBut hs1.extBut hbI').extBut hs2.extBut hbS', hkS', hkI', is_at hk' fun o e => hs2.extBut _ o hkS' (hs1.extBut _ o hkI' e)⟩
      rw [show i + 1 + j = i + (j + 1) by omega]
      exact hb'
    · exact hit1.at fun o' e => hs2.extBut I o' (Ne.symm hSI) e
    · exact hl1.extBut hs2.extBut (Ne.symm hSl)
    · exact hR h' tk hd' fun c oc h3 h4 e => k c oc h3 h4 (hs2.extBut c oc h3 (hs1.extBut c oc h4 e))
/-- dict(l) of a list of pairs -/
theorem call_dict_pairsT {s : Shared} {l : Addr} {ol : Obj} {items : Array Value} {n : Nat} {prs : List (List L2.Key × Addr × Value)} {Q : Value → Shared → Prop} (hh : A.handled = none) (rm : (tupleKind (mixKind prog w)).room A.in1.in1) (hl : s.heap.get? l = some ol) (hc : ol.cls = .type "list") (hd : ol.dict = none)
    (hdat : ol.data = .seq items n) (hsz : items.size = prs.length) (hln : prs.length ≤ sizeLine)
    (ht : ∀ (j : Nat) (q : List L2.Key × Addr × Value), prs[j]? = some q → ∃ b : Addr, items[j]? = some (.ref b) ∧ IsTup s.heap b #[.ref q.2.1, q.2.2] ∧ (tupleKind (mixKind prog w)).is s.heap q.1 q.2.1)
    (h : ∀ h' tk, h'.DictOfH (tupleKind (mixKind prog w)) s.heap.objs.size (mergedH [] prs) → (∀ b o, s.heap.get? b = some o → h'.get? b = some o) → Q (.ref s.heap.objs.size) { s with heap := h', toks := tk }) :
    wpAny (model prog w) A (call (.type "dict") [.ref l]) Q E s := by
  refine callType_codes (Q₁ := fun obj s₁ => obj = .ref s.heap.objs.size ∧ s₁ = { s with heap := s.heap.push { cls := .type "dict", data := .dict #[] } }) PySem.F.kt_called_dict (PySem.F.kt_typeCall_dict_1 _) PySem.F.entry_dict_init (kt_code_dict_new _ ⟨rfl, rfl⟩) ?_
  rintro obj s₁ ⟨rfl, rfl⟩
  have hnew : (s.heap.push { cls := .type "dict", data := .dict #[] }).DictOfH (tupleKind (mixKind prog w)) s.heap.objs.size [] := Heap.DictOfH.new s.heap
  have k0 : ∀ b o, s.heap.get? b = some o → (s.heap.push { cls := .type "dict", data := .dict #[] }).get? b = some o := fun b o e => Heap.get?_push_of_some _ e
  refine ⟨hnew.typeIs, PySem.F.args_dict_init_2 _ _, ?_⟩
  unfold Builtin.«dict.__init__»
  refine wpAny_bind ?_
  unfold Builtin.Dict.selfAndRest
  refine wpAny_bind (wpAny_notOrdered_dict hnew.typeIs ?_)
  show wpAny _ _ (pure (s.heap.objs.size, [Value.ref l])) _ _ _
  refine wpAny_pure ?_
  show wpAny _ _ (Builtin.Dict.updateFrom "dict.__init__" s.heap.objs.size (.ref l) [] .none) _ _ _
  unfold Builtin.Dict.updateFrom
  refine wpAny_bind (wpAny_typeOf (T := "list") ⟨ol, k0 _ _ hl, hc⟩ ?_)
  rw [if_pos (by first | decide | rfl | simp)]
  refine wpAny_bind (miss_list (k0 _ _ hl) hc hdat hd hh fun h1 tk1 hk1 => ?_)
  rw [if_pos (show (none : Option Value).isNone = true from rfl)]
  refine wpAny_bind (wpAny_rule ?_)
  have hl1 : h1.IsList l items := ⟨ol, hk1 _ _ (k0 _ _ hl), hc, n, hdat⟩
  have hS1 : s.heap.objs.size < h1.objs.size := by
    have e : (s.heap.push { cls := .type "dict", data := .dict #[] }).get? s.heap.objs.size = some { cls := .type "dict", data := .dict #[] } := Heap.get?_push_size _ rfl
    exact Heap.lt_size (hk1 _ _ e)
  refine wpAny_bind (wpAny_pyIter_list hl1 ?_)
  have k2 : ∀ b o, h1.get? b = some o → (h1.push { cls := .type "list_iterator", data := .fields #[.ref l, .int 0 0] }).get? b = some o := fun b o e => Heap.get?_push_of_some _ e
  have hlt : l < s.heap.objs.size := Heap.lt_size hl
  have key := upd_loopT (prog := prog) (w := w) (A := A.in1) (R := wants (fun r s₂ => r = .none ∧ Q (.ref s.heap.objs.size) s₂) E) (S := s.heap.objs.size) (I := h1.objs.size) (l := l) (items := items) (res := Value.none) hh
    (Nat.ne_of_lt (Nat.lt_trans hlt hS1)) (Nat.ne_of_lt hS1) (Nat.ne_of_gt hlt) rm prs 0 [] 0 0
    { s with heap := h1.push { cls := .type "list_iterator", data := .fields #[.ref l, .int 0 0] }, toks := tk1 } (by rw [hsz, Nat.zero_add]) (by rw [List.length_nil, Nat.zero_add]; exact hln)
    (fun j q e => by
      obtain ⟨b, e1, e2, e3⟩ := ht j q e
      have hb : b < s.heap.objs.size := e2.lt
      obtain ⟨ok, g1, _⟩ := is_tup e3
      have hk : q.2.1 < s.heap.objs.size := Heap.lt_size g1
      exact ⟨b, by rw [Nat.zero_add]; exact e1, Nat.ne_of_lt hb, Nat.ne_of_lt (Nat.lt_trans hb hS1), e2.keeps fun c o z => k2 _ _ (hk1 _ _ (k0 _ _ z)), Nat.ne_of_lt hk, Nat.ne_of_lt (Nat.lt_trans hk hS1), is_at e3 fun o z => k2 _ _ (hk1 _ _ (k0 _ _ z))⟩)
    ⟨_, Heap.get?_push_size _ rfl, rfl, rfl⟩ (hl1.at fun o e => k2 _ _ e) (dh_all (dh_all hnew fun b o e => hk1 _ _ e) fun b o e => k2 _ _ e)
    (fun h' tk hd' k => ⟨rfl, h h' tk hd' fun b o e => k b o (Nat.ne_of_lt (Heap.lt_size e)) (Nat.ne_of_lt (Nat.lt_trans (Heap.lt_size e) hS1)) (k2 _ _ (hk1 _ _ (k0 _ _ e)))⟩)
  first
    | exact wpAny_pure ⟨plainId_quiet ud_plain _, key⟩
    | exact wpAny_bind (wpAny_pure (wpAny_pure ⟨plainId_quiet ud_plain _, key⟩))
end
section
variable {X : Cx}
theorem pairs_ofT {pins : List (Addr × Obj)} {σ : L2.St} {H : Hp} {s : Shared} (I : Inv X pins σ H s) : ∀ {ps : List Addr} {kvs : List (List L2.Key × V)}, Paired (fun (p : Addr) (kv : List L2.Key × V) => ∃ kp, SqT X.K H p [.ref kp, kv.2] ∧ H kp = some (.tup (kv.1.map kV))) ps kvs →
    ∃ prs : List (List L2.Key × Addr × Value), KT H kvs prs ∧ prs.length = ps.length ∧ ∀ (j : Nat) (q : List L2.Key × Addr × Value), prs[j]? = some q → ∃ b : Addr, ps[j]? = some b ∧ IsTup s.heap b #[.ref q.2.1, q.2.2] ∧ (tupleKind (mixKind X.prog X.w)).is s.heap q.1 q.2.1
  | _, _, .nil => ⟨[], .nil, rfl, fun j q e => by simp at e⟩
  | _, _, .cons (a := p) (b := kv) h t => by
    obtain ⟨prs, r, hl, hp⟩ := pairs_ofT I t
    obtain ⟨kp, h1, h2⟩ := h
    obtain ⟨its, rv, ht, _⟩ := I.tuple h1
    obtain ⟨u, y, ei, ru, ry⟩ := vals2 rv
    subst ei
    obtain rfl : u = Value.ref kp := ru
    refine ⟨(kv.1, kp, y) :: prs, .cons ⟨rfl, h2, ry⟩ r, by rw [List.length_cons, List.length_cons, hl], fun j q e => ?_⟩
    cases j with
    | zero =>
      have e' : (kv.1, kp, y) = q := Option.some.inj e
      subst e'
      exact ⟨p, rfl, ht, key_of I.hok h2⟩
    | succ j =>
      obtain ⟨b, e1, e2, e3⟩ := hp j q (by simpa using e)
      exact ⟨b, by simpa using e1, e2, e3⟩
/-- dict(xs) of a list of pairs (key, value), the keys tuples: later pairs win, the place is the first one's -/
theorem call_dictT (hcalm : X.calm = true) (hu : X.A.in1.units + 1 < cLine) : CallR X (.type "dict") (fun xs H Q => ∃ (a : Addr) (ps : List Addr) (kvs : List (List L2.Key × V)), xs = [.ref a] ∧ SqL X.K H a (ps.map V.ref) ∧
    Paired (fun (p : Addr) (kv : List L2.Key × V) => ∃ kp, SqT X.K H p [.ref kp, kv.2] ∧ H kp = some (.tup (kv.1.map kV))) ps kvs ∧ ∀ p, H p = none → Q (.ref p) (upd H p (.dT (mergeT [] kvs)))) := by
  intro pins s σ H xs us Q I r q
  obtain ⟨a, ps, kvs, ex, hq, hp, q⟩ := q
  subst ex
  obtain ⟨u, eu, rx⟩ := vals1 r
  subst eu
  cases rx
  obtain ⟨its, rv, pl, hz⟩ := I.list hq
  have ei := refs_at rv
  subst ei
  rw [List.length_map] at hz
  obtain ⟨prs, rel, hl, hpr⟩ := pairs_ofT I hp
  obtain ⟨o, n, ho, hc, hd, hdat⟩ := pl
  refine call_dict_pairsT (prs := prs) (I.ok.hd hcalm) (tupleKind_room_in1 hu) ho hc hd hdat (by simp [hl]) (by rw [hl]; exact hz) (fun j q' e => ?_) fun h' tk hd' k => ?_
  · obtain ⟨b, e1, e2, e3⟩ := hpr j q' e
    exact ⟨b, by simp [e1], e2, e3⟩
  · have hm : (s.heap.objs.size == sysModules) = false := beq_eq_false_iff_ne.mpr (Nat.ne_of_gt I.big)
    have hlen : (mergeT [] kvs).length ≤ sizeLine := by
      refine Nat.le_trans (length_mergeT kvs []) ?_
      rw [List.length_nil, Nat.zero_add, Paired.length rel, hl]
      exact hz
    obtain ⟨o', es, ep, g1, g2, g3, g4, g5, g6⟩ := hd'
    have kt : KT (upd H s.heap.objs.size (.dT (mergeT [] kvs))) (mergeT [] kvs) (mergedH [] prs) := (kt_merge rel .nil).keeps fun b ys e => by
      rw [upd_ne (fun z => by rw [z, I.hok.fresh (Nat.le_refl _)] at e; cases e)]
      exact e
    exact ⟨.ref s.heap.objs.size, upd H s.heap.objs.size (.dT (mergeT [] kvs)), I.laid (t' := tk) k (Nat.le_refl _) (show ObjOk X.prog X.w _ _ _ (.dT (mergeT [] kvs)) from ⟨hlen, hm, mergedH [] prs, kt, o', es, ep, g1, g2, g3, g4, g6⟩), rfl, q _ (I.hok.fresh (Nat.le_refl _))⟩
end
end DcT
/-! try with several clauses 'except C as e', one name for all -/
namespace TAs
open PySem PySem.Spec PyProof.Rows L2
abbrev Clause := Value × (Addr → Value → Option Addr → TS)
def wishes (K : PySem.W.Frag) (i : Nat) (Wout : WX) (D : Ends) : List Clause → WX
  | [] => Wout
  | (c, ts) :: more => wAs K c i ts (wishes K i Wout D more) D
inductive Clauses (X : Cx) (n : Str) : List ExceptHandler → List Clause → Prop
  | nil : Clauses X n [] []
  | cons {x : Str} {c : Value} {ts : Addr → Value → Option Addr → TS} {st : Stmt} {sts : List Stmt} {p1 p2 : Pos} {hs : List ExceptHandler} {cs : List Clause} (nm : Names X x c)
      (run : ∀ (e : Addr) (ob : Obj) (cls : Value) (d : Option Addr) (pn : List (Addr × Obj)), Zc cls d ob → (∃ fv, ob.data = .fields fv) → PSs (X.suite e ((e, ob) :: pn)) (st :: sts) (ts e cls d)) (more : Clauses X n hs cs) :
      Clauses X n (.ExceptHandler (some (.Name x p1)) (some n) (st :: sts) p2 :: hs) ((c, ts) :: cs)
section
variable {X : Cx} {n : Str} {i : Nat} {body : List Stmt} {h1 : ExceptHandler} {hs : List ExceptHandler} {cs : List Clause} {pos : Pos} {tb : WX → TS} {Wout : WX}
theorem ps_try (hst : X.stack = X.env :: X.outer) (hfm : X.env.frame = some X.env.locals) (nd : X.N.Nodup) (at_i : X.N[i]? = some n) (loc : X.env.kindOf n = some .local) (tk : Takes X Wout)
    (hb : ∀ (W : WX) (pn : List (Addr × Obj)) (xe : Value → Shared → Prop), Takes (X.tr pn xe) W → PassesOwn (model X.prog X.w) X.A X.env xe → PSs (X.tr pn xe) body (tb W))
    (all : Clauses X n (h1 :: hs) cs) : PS X (.Try body (h1 :: hs) [] [] pos) (fun D σ H => tb (wishes X.K i Wout D cs) D σ H) := ⟨by
  intro pins s σ H D I start
  have okI := I.ok
  have frames : X.A.frames = some (X.env :: X.outer) := by rw [okI.frames, hst]
  have isLoc : Loc X.env.scope n := .inl loc
  let after : Value → Shared → Prop := fun e s₁ => wpAny (model X.prog X.w) X.A (noteFrame e X.env) (fun _ s₂ => wpAny (model X.prog X.w) X.A (setFlight e none) (fun _ s₃ => wpAny (model X.prog X.w) X.A (handleBy e X.env (h1 :: hs)) (SP X pins D) X.xe s₃) X.xe s₂) X.xe s₁
  refine wpAny_Try_except (wpAny_mono ((hb (wishes X.K i Wout D cs) (X.pn ++ pins) after ?_ PassesOwn.looking).run [] s σ H D (I.toTry _) start) ?_ fun e s1 z => z)
  · rintro u sE ⟨e, B, sI, pins', σ', H', cls, d, rfl, JT, nb, grow, skyT, na, sos, ag, want⟩
    have J : Inv X pins σ' H' sI := JT.ofTry okI
    have sky : Sky B (X.env :: X.outer) e (Zc cls d) X.env.locals sE.heap := by rw [← hst]; exact skyT
    show wpAny _ X.A (noteFrame (.ref e) X.env) _ _ sE
    refine Sky.land Zc.steady frames hfm sky ?_
    intro hA flA upA
    have JA : Inv X pins σ' H' { sE with heap := hA } := J.landed nb flA.1 (grow.trans upA) sos ag
    obtain ⟨obA, fvA, getA, zcA, datA⟩ := flA.there
    have away : e ∉ frs (X.env :: X.outer) := fun mem => by
      obtain ⟨_, o', get', nf⟩ := flA.2.2.1.mem mem
      rw [getA] at get'
      cases get'
      exact nf _ datA
    have nLoc : e ≠ X.env.locals := fun z => away (List.mem_filterMap.mpr ⟨X.env, List.mem_cons_self, by rw [hfm, z]⟩)
    have nFs : e ∉ X.fs := fun mem => by
      obtain ⟨en, hen, q⟩ := List.mem_filterMap.mp mem
      exact away (List.mem_filterMap.mpr ⟨en, List.mem_cons_of_mem _ hen, q⟩)
    have SA := JA.suite getA datA na nLoc nFs
    have typed : PySem.W.Looks (model X.prog X.w) hA (typeOf (.ref e)) cls := fun A Q E s k q => wpAny_typeOf_ref (k _ _ getA) (by rw [zcA.1]; exact q)
    suffices walk : ∀ {ks : List ExceptHandler} {ls : List Clause}, Clauses X n ks ls → wishes X.K i Wout D ls cls d σ' H' → wpAny (model X.prog X.w) X.A (handleBy (.ref e) X.env ks) (SP X pins D) X.xe { sE with heap := hA } from walk all want
    intro ks ls cl
    induction cl with
    | nil =>
      intro w
      refine wpAny_handleBy_nil ?_
      obtain ⟨_, _, _, ob, fv, T, oT, ts', gob, zob, dob, d1, _⟩ := id flA
      unfold PySem.passOn
      refine wpAny_bind (wpAny_field gob dob d1 ?_)
      rw [if_neg (show ¬ ((Value.ref T == Value.none) = true) from by simp)]
      have leave : wpAny (model X.prog X.w) X.A (setFlight (.ref e) X.env.frame) (fun _ sN => wpAny (model X.prog X.w) X.A (throw (.ref e) : Sem Flow) (SP X pins D) X.xe sN) X.xe { sE with heap := hA } := by
        rw [hfm]
        refine HandSPX.setFlight_upZ flA ?_
        intro hB inB upB
        refine wpAny_throw (tk _ _ ⟨e, B, sI, pins, σ', H', cls, d, rfl, J, nb, (grow.trans upA).trans upB, .inr (.inr ?_), na, sos, ag, w⟩)
        rw [hst]
        exact inB
      first | exact wpAny_bind (wpAny_pure (wpAny_bind leave)) | exact wpAny_bind leave
    | @cons x c ts st sts p1 p2 hs2 cs2 nm run more ih =>
      rintro ⟨b, eb, yes, no⟩
      refine wpAny_handleBy_cons (codeAny_handlers_test ?_) (fun q => nomatch q)
      have isC := PySem.W.exm_one (M := model X.prog X.w) JA.kIn typed eb
      have named : ∀ {Q E : Value → Shared → Prop}, Q c { sE with heap := hA } → wpAny (model X.prog X.w) (X.A.mark (some (.ref e))) (eval (.Name x p1) X.env) Q E { sE with heap := hA } := by
        intro Q E q
        obtain ⟨gl, nd, m | ⟨m, bv, nn⟩⟩ := nm
        · exact ld_glob (X := X.suite e ((e, obA) :: (X.pn ++ pins))) SA gl m q nd
        · exact ld_blt (X := X.suite e ((e, obA) :: (X.pn ++ pins))) SA gl m bv q nn nd
      refine named (isC.here ?_)
      cases b with
      | false =>
        show wpAny _ X.A (handleBy (.ref e) X.env hs2) _ _ _
        exact ih (no rfl)
      | true =>
        refine codeAny_handlers_suite_as (HandSPX.lands_againZ flA ?_)
        intro hB flB upB
        have JB : Inv X pins σ' H' { sE with heap := hB } := J.landed nb flB.1 ((grow.trans upA).trans upB) sos ag
        obtain ⟨obB, fvB, getB, zcB, datB⟩ := flB.there
        have SB := JB.suite getB datB na nLoc nFs
        refine store_ok (X := X.suite e ((e, obB) :: (X.pn ++ pins))) (v := .ref e) SB nd at_i isLoc rfl (fun s5 S5 => ?_) (.inr loc)
        refine wpAny_mono ((run e obB cls d (X.pn ++ pins) zcB ⟨_, datB⟩).run [] s5 _ H' _ S5 (yes rfl e na)) (fun f s6 sp => ?_) fun _ _ z => z.elim
        have unbind : ∀ {σ6 : L2.St} {H6 : Hp} {Q : Shared → Prop}, Inv (X.suite e ((e, obB) :: (X.pn ++ pins))) [] σ6 H6 s6 → (∀ s7, Inv X pins (σ6.set i none) H6 s7 → Q s7) →
            wpAny (model X.prog X.w) X.A (do bindName X.env n .none; unbindBehindTheSuite X.env n p2) (fun _ s7 => Q s7) X.xe s6 := fun S6 go => gone_ok (S6.unsuite okI) nd at_i loc go
        rcases f with _ | _ | _ | u
        all_goals first
          | (obtain ⟨v6, σ6, H6, S6, r6, q6⟩ := sp; exact unbind S6 fun s7 J7 => ⟨_, _, _, J7, r6, q6⟩)
          | (obtain ⟨σ6, H6, S6, q6⟩ := sp; exact unbind S6 fun s7 J7 => ⟨_, _, J7, q6⟩)
  · intro f s1 sp
    rcases f with _ | _ | _ | u
    all_goals first
      | (obtain ⟨v, σ', H', J', r, q⟩ := sp; exact ⟨v, σ', H', J'.ofTry okI, r, q⟩)
      | (obtain ⟨σ', H', J', q⟩ := sp; first | exact wpAny_execs_nil ⟨σ', H', J'.ofTry okI, q⟩ | exact ⟨σ', H', J'.ofTry okI, q⟩)⟩
end
end TAs
/-! == and != of an instance that has its own __eq__, with whatever stands on the other side -/
namespace EqO
open PySem PySem.Spec PyProof.Rows L2
/-- a value of the built-in type T that declines == and != with the instance at x -/
structure Decl (s : Shared) (v : Value) (x : Addr) (T : String) : Prop where
  ty : s.TypeIs v T
  eq : ∀ (prog : Program) (w : World) (A : Around) (E : Value → Shared → Prop) (Q : Option Value → Shared → Prop), Q none s → wpAny (model prog w) A (tryCompare v "__eq__" (.ref x)) Q E s
  ne : ∀ (prog : Program) (w : World) (A : Around) (E : Value → Shared → Prop) (Q : Option Value → Shared → Prop), Q none s → wpAny (model prog w) A (tryCompare v "__ne__" (.ref x)) Q E s
theorem none_eq (l : Addr) : Gives (Builtin.«NoneType.__eq__» ⟨[.none, .ref l], []⟩) (.val (Value.notImplemented)) :=
  .of_wp fun M A E s Q h => by obtain ⟨hp, g, d, tk, os⟩ := s; wp_walk; exact ⟨_, rfl, h⟩
theorem none_ne (l : Addr) : Gives (Builtin.«NoneType.__ne__» ⟨[.none, .ref l], []⟩) (.val (Value.notImplemented)) :=
  .of_wp fun M A E s Q h => by obtain ⟨hp, g, d, tk, os⟩ := s; wp_walk; exact ⟨_, rfl, h⟩
theorem decl_none {s : Shared} (x : Addr) : Decl s .none x "NoneType" where
  ty := rfl
  eq := fun prog w A E Q h => wpAny_tryCompare_declines rfl F.slot_NoneType_eq (call_gives F.slot_NoneType_eq rfl F.entry_NoneType_eq (F.args_NoneType_eq_2 _ _) (none_eq x) ⟨rfl, h⟩)
  ne := fun prog w A E Q h => wpAny_tryCompare_declines rfl F.slot_NoneType_ne (call_gives F.slot_NoneType_ne rfl F.entry_NoneType_ne (F.args_NoneType_ne_2 _ _) (none_ne x) ⟨rfl, h⟩)
/-- the object at x is a plain one -/
def Pl (x : Addr) (s : Shared) : Prop := ∃ c dd sl, s.heap.get? x = some ({ cls := c, dict := dd, data := .plain, slots := sl } : Obj)
theorem bool_eq (b : Bool) (x : Addr) : Meets (Builtin.«int.__eq__» ⟨[.bool b, .ref x], []⟩) (fun _ R s => Pl x s ∧ R (.ok (.ret .notImplemented)) s) :=
  .of_wp fun prog w A R s h => by obtain ⟨hp, g, d, tk, os⟩ := s; obtain ⟨⟨c, dd, sl, hl⟩, h⟩ := h; wp_walk using wpAny_loadPart' hl, wpAny_load hl; exact ⟨_, rfl, h⟩
theorem bool_ne (b : Bool) (x : Addr) : Meets (Builtin.«int.__ne__» ⟨[.bool b, .ref x], []⟩) (fun _ R s => Pl x s ∧ R (.ok (.ret .notImplemented)) s) :=
  .of_wp fun prog w A R s h => by obtain ⟨hp, g, d, tk, os⟩ := s; obtain ⟨⟨c, dd, sl, hl⟩, h⟩ := h; wp_walk using wpAny_loadPart' hl, wpAny_load hl; exact ⟨_, rfl, h⟩
theorem int_eq (b : Int) (t : Tok) (x : Addr) : Meets (Builtin.«int.__eq__» ⟨[.int b t, .ref x], []⟩) (fun _ R s => Pl x s ∧ R (.ok (.ret .notImplemented)) s) :=
  .of_wp fun prog w A R s h => by obtain ⟨hp, g, d, tk, os⟩ := s; obtain ⟨⟨c, dd, sl, hl⟩, h⟩ := h; wp_walk using wpAny_loadPart' hl, wpAny_load hl; exact ⟨_, rfl, h⟩
theorem int_ne (b : Int) (t : Tok) (x : Addr) : Meets (Builtin.«int.__ne__» ⟨[.int b t, .ref x], []⟩) (fun _ R s => Pl x s ∧ R (.ok (.ret .notImplemented)) s) :=
  .of_wp fun prog w A R s h => by obtain ⟨hp, g, d, tk, os⟩ := s; obtain ⟨⟨c, dd, sl, hl⟩, h⟩ := h; wp_walk using wpAny_loadPart' hl, wpAny_load hl; exact ⟨_, rfl, h⟩
theorem str_eq (b : Str) (t : Tok) (x : Addr) : Meets (Builtin.«str.__eq__» ⟨[.str b t, .ref x], []⟩) (fun _ R s => Pl x s ∧ R (.ok (.ret .notImplemented)) s) :=
  .of_wp fun prog w A R s h => by obtain ⟨hp, g, d, tk, os⟩ := s; obtain ⟨⟨c, dd, sl, hl⟩, h⟩ := h; wp_walk using wpAny_loadPart' hl, wpAny_load hl; exact ⟨_, rfl, h⟩
theorem str_ne (b : Str) (t : Tok) (x : Addr) : Meets (Builtin.«str.__ne__» ⟨[.str b t, .ref x], []⟩) (fun _ R s => Pl x s ∧ R (.ok (.ret .notImplemented)) s) :=
  .of_wp fun prog w A R s h => by obtain ⟨hp, g, d, tk, os⟩ := s; obtain ⟨⟨c, dd, sl, hl⟩, h⟩ := h; wp_walk using wpAny_loadPart' hl, wpAny_load hl; exact ⟨_, rfl, h⟩
/-- the object at x is none of the built-in type T -/
def Not (x : Addr) (T : String) (M : Model) (s : Shared) : Prop := PySem.W.Looks M s.heap (isInstance (.ref x) (.type T)) false
theorem list_eq (l x : Addr) : Meets (Builtin.«list.__eq__» ⟨[.ref l, .ref x], []⟩) (fun A R s => (∀ M : Model, Not x "list" M s) ∧ R (.ok (.ret .notImplemented)) s) :=
  .of_wp fun prog w A R s h => by
    obtain ⟨n, h⟩ := h
    unfold Builtin.«list.__eq__»
    show wpAny _ _ (slotArgs "__eq__" 1 ⟨[.ref l, .ref x], []⟩ >>= _) _ _ _
    refine wpAny_bind (wpAny_pure (wpAny_bind ((n _).here ?_)))
    first | exact wpAny_pure h | exact wpAny_pure ⟨_, rfl, h⟩ | exact wpAny_pure (wpAny_pure h) | skip
theorem list_ne (l x : Addr) : Meets (Builtin.«list.__ne__» ⟨[.ref l, .ref x], []⟩) (fun A R s => (∀ M : Model, Not x "list" M s) ∧ R (.ok (.ret .notImplemented)) s) :=
  .of_wp fun prog w A R s h => by
    obtain ⟨n, h⟩ := h
    unfold Builtin.«list.__ne__»
    show wpAny _ _ (slotArgs "__ne__" 1 ⟨[.ref l, .ref x], []⟩ >>= _) _ _ _
    refine wpAny_bind (wpAny_pure (wpAny_bind ((n _).here ?_)))
    first | exact wpAny_pure h | exact wpAny_pure ⟨_, rfl, h⟩ | exact wpAny_pure (wpAny_pure h) | skip
theorem tuple_eq (l x : Addr) : Meets (Builtin.«tuple.__eq__» ⟨[.ref l, .ref x], []⟩) (fun A R s => (∀ M : Model, Not x "tuple" M s) ∧ R (.ok (.ret .notImplemented)) s) :=
  .of_wp fun prog w A R s h => by
    obtain ⟨n, h⟩ := h
    unfold Builtin.«tuple.__eq__»
    show wpAny _ _ (slotArgs "__eq__" 1 ⟨[.ref l, .ref x], []⟩ >>= _) _ _ _
    refine wpAny_bind (wpAny_pure (wpAny_bind ((n _).here ?_)))
    first | exact wpAny_pure h | exact wpAny_pure ⟨_, rfl, h⟩ | exact wpAny_pure (wpAny_pure h) | skip
theorem tuple_ne (l x : Addr) : Meets (Builtin.«tuple.__ne__» ⟨[.ref l, .ref x], []⟩) (fun A R s => (∀ M : Model, Not x "tuple" M s) ∧ R (.ok (.ret .notImplemented)) s) :=
  .of_wp fun prog w A R s h => by
    obtain ⟨n, h⟩ := h
    unfold Builtin.«tuple.__ne__»
    show wpAny _ _ (slotArgs "__ne__" 1 ⟨[.ref l, .ref x], []⟩ >>= _) _ _ _
    refine wpAny_bind (wpAny_pure (wpAny_bind ((n _).here ?_)))
    first | exact wpAny_pure h | exact wpAny_pure ⟨_, rfl, h⟩ | exact wpAny_pure (wpAny_pure h) | skip
theorem dict_eq (l x : Addr) : Meets (Builtin.«dict.__eq__» ⟨[.ref l, .ref x], []⟩) (fun A R s => (∀ M : Model, Not x "dict" M s) ∧ R (.ok (.ret .notImplemented)) s) :=
  .of_wp fun prog w A R s h => by
    obtain ⟨n, h⟩ := h
    unfold Builtin.«dict.__eq__»
    have f : Builtin.Dict.dictSlotArgs "__eq__" ⟨[.ref l, .ref x], []⟩ = pure (.ref l, .ref x) := by first | rfl | kernel_rfl
    show wpAny _ _ (Builtin.Dict.dictSlotArgs "__eq__" ⟨[.ref l, .ref x], []⟩ >>= _) _ _ _
    rw [f]
    refine wpAny_bind (wpAny_pure (wpAny_bind ((n _).here ?_)))
    rw [if_pos (show (!false) = true from rfl)]
    exact wpAny_bind (wpAny_rule (wpAny_pure ⟨_, rfl, h⟩))
theorem dict_ne (l x : Addr) : Meets (Builtin.«dict.__ne__» ⟨[.ref l, .ref x], []⟩) (fun A R s => (∀ M : Model, Not x "dict" M s) ∧ R (.ok (.ret .notImplemented)) s) :=
  .of_wp fun prog w A R s h => by
    obtain ⟨n, h⟩ := h
    unfold Builtin.«dict.__ne__»
    have f : Builtin.Dict.dictSlotArgs "__ne__" ⟨[.ref l, .ref x], []⟩ = pure (.ref l, .ref x) := by first | rfl | kernel_rfl
    show wpAny _ _ (Builtin.Dict.dictSlotArgs "__ne__" ⟨[.ref l, .ref x], []⟩ >>= _) _ _ _
    rw [f]
    refine wpAny_bind (wpAny_pure (wpAny_bind ((n _).here ?_)))
    rw [if_pos (show (!false) = true from rfl)]
    exact wpAny_bind (wpAny_rule (wpAny_pure ⟨_, rfl, h⟩))

theorem decl_bool {s : Shared} {x : Addr} (b : Bool) (p : Pl x s) : Decl s (.bool b) x "bool" where
  ty := rfl
  eq := fun prog w A E Q h => wpAny_tryCompare_declines (T := "bool") rfl F.slot_bool_eq (call_meets F.slot_bool_eq rfl F.entry_int_eq (F.args_int_eq_2 _ _) (bool_eq b x) ⟨p, rfl, h⟩)
  ne := fun prog w A E Q h => wpAny_tryCompare_declines (T := "bool") rfl F.slot_bool_ne (call_meets F.slot_bool_ne rfl F.entry_int_ne (F.args_int_ne_2 _ _) (bool_ne b x) ⟨p, rfl, h⟩)
theorem decl_int {s : Shared} {x : Addr} (b : Int) (t : Tok) (p : Pl x s) : Decl s (.int b t) x "int" where
  ty := rfl
  eq := fun prog w A E Q h => wpAny_tryCompare_declines (T := "int") rfl F.slot_int_eq (call_meets F.slot_int_eq rfl F.entry_int_eq (F.args_int_eq_2 _ _) (int_eq b t x) ⟨p, rfl, h⟩)
  ne := fun prog w A E Q h => wpAny_tryCompare_declines (T := "int") rfl F.slot_int_ne (call_meets F.slot_int_ne rfl F.entry_int_ne (F.args_int_ne_2 _ _) (int_ne b t x) ⟨p, rfl, h⟩)
theorem decl_str {s : Shared} {x : Addr} (b : Str) (t : Tok) (p : Pl x s) : Decl s (.str b t) x "str" where
  ty := rfl
  eq := fun prog w A E Q h => wpAny_tryCompare_declines (T := "str") rfl F.slot_str_eq (call_meets F.slot_str_eq rfl F.entry_str_eq (F.args_str_eq_2 _ _) (str_eq b t x) ⟨p, rfl, h⟩)
  ne := fun prog w A E Q h => wpAny_tryCompare_declines (T := "str") rfl F.slot_str_ne (call_meets F.slot_str_ne rfl F.entry_str_ne (F.args_str_ne_2 _ _) (str_ne b t x) ⟨p, rfl, h⟩)
theorem decl_list {s : Shared} {l x : Addr} (ty : s.TypeIs (.ref l) "list") (n : ∀ M : Model, Not x "list" M s) : Decl s (.ref l) x "list" where
  ty := ty
  eq := fun prog w A E Q h => wpAny_tryCompare_declines ty F.slot_list_eq (call_meets F.slot_list_eq ty F.entry_list_eq (F.args_list_eq_2 _ _) (list_eq l x) ⟨n, rfl, h⟩)
  ne := fun prog w A E Q h => wpAny_tryCompare_declines ty F.slot_list_ne (call_meets F.slot_list_ne ty F.entry_list_ne (F.args_list_ne_2 _ _) (list_ne l x) ⟨n, rfl, h⟩)
theorem decl_tuple {s : Shared} {l x : Addr} (ty : s.TypeIs (.ref l) "tuple") (n : ∀ M : Model, Not x "tuple" M s) : Decl s (.ref l) x "tuple" where
  ty := ty
  eq := fun prog w A E Q h => wpAny_tryCompare_declines ty F.slot_tuple_eq (call_meets F.slot_tuple_eq ty F.entry_tuple_eq (F.args_tuple_eq_2 _ _) (tuple_eq l x) ⟨n, rfl, h⟩)
  ne := fun prog w A E Q h => wpAny_tryCompare_declines ty F.slot_tuple_ne (call_meets F.slot_tuple_ne ty F.entry_tuple_ne (F.args_tuple_ne_2 _ _) (tuple_ne l x) ⟨n, rfl, h⟩)
theorem decl_dict {s : Shared} {l x : Addr} (ty : s.TypeIs (.ref l) "dict") (n : ∀ M : Model, Not x "dict" M s) : Decl s (.ref l) x "dict" where
  ty := ty
  eq := fun prog w A E Q h => wpAny_tryCompare_declines ty F.slot_dict_eq (call_meets F.slot_dict_eq ty F.entry_dict_eq (F.args_dict_eq_2 _ _) (dict_eq l x) ⟨n, rfl, h⟩)
  ne := fun prog w A E Q h => wpAny_tryCompare_declines ty F.slot_dict_ne (call_meets F.slot_dict_ne ty F.entry_dict_ne (F.args_dict_ne_2 _ _) (dict_ne l x) ⟨n, rfl, h⟩)

section
variable {prog : Program} {w : World} {A : Around} {E : Value → Shared → Prop} {s : Shared} {K : PySem.W.Frag} {x C g : Addr} {ox : Obj} {od : Option Obj} {v b : Value} {T : String}
theorem bne_of (C : Addr) (T : String) : (Value.type T != Value.ref C) = true := by
  have e : (Value.type T == Value.ref C) = false := Bool.eq_false_iff.mpr fun q => by cases beq_iff_eq.mp q
  simp [bne, e]
theorem try_eq {Q : Option Value → Shared → Prop} (X : K.In s.heap) (I : PySem.W.InstAt s.heap x ox C od) (hs : PySem.W.findIn K (.ref C) "__eq__" = some (some (.ref g))) (hf : PySem.W.isFn K (.ref g) = true)
    (h : wpAny (model prog w) A (call (.ref g) [.ref x, b]) (PySem.W.CmpBack fun v s' => Q (some v) s') E s) : wpAny (model prog w) A (tryCompare (.ref x) "__eq__" b) Q E s := by
  unfold tryCompare
  refine wpAny_bind (PySem.W.ifBound_K X I hs hf (wpAny_mono h (fun v s' hv => ?_) fun _ _ e => e))
  cases v <;> first | exact hv.elim | exact wpAny_pure hv
/-- b == x, b of a built-in type -/
theorem eq_right {Q : Value → Shared → Prop} (hu : A.units < cLine) (X : K.In s.heap) (I : PySem.W.InstAt s.heap x ox C od) (D : Decl s v x T) (sub : PySem.W.subIn K (.ref C) (.type T) = some false)
    (hs : PySem.W.findIn K (.ref C) "__eq__" = some (some (.ref g))) (hf : PySem.W.isFn K (.ref g) = true) (h : wpAny (model prog w) A (call (.ref g) [.ref x, v]) (PySem.W.CmpBack Q) E s) :
    wpAny (model prog w) A (richCompare .Eq v (.ref x)) Q E s := by
  unfold richCompare
  simp only [D.ty.oneThing_none]
  refine wpAny_holding (wpAny_bind (wpAny_cRoomFor hu (wpAny_bind (wpAny_typeOf D.ty (wpAny_bind (I.type.here ?_))))))
  rw [if_pos (bne_of C T)]
  refine wpAny_bind ((PySem.W.looks_subIn X sub).here ?_)
  simp only [Bool.false_eq_true, if_false, Bool.not_false, if_true]
  refine wpAny_bind (D.eq _ _ _ _ _ ?_)
  refine wpAny_bind (try_eq X I hs hf (wpAny_mono h (fun u s' hv => ?_) fun _ _ e => e))
  cases u <;> first | exact hv.elim | exact wpAny_pure hv
theorem obj_ne {Q : Fin → Shared → Prop} (hu : A.units < cLine) (X : K.In s.heap) (I : PySem.W.InstAt s.heap x ox C od) (hs : PySem.W.findIn K (.ref C) "__eq__" = some (some (.ref g))) (hf : PySem.W.isFn K (.ref g) = true)
    (h : wpAny (model prog w) A (call (.ref g) [.ref x, b]) (fun v s' => ∃ r, v = .bool r ∧ Q (.done (.ret (.bool (!r)))) s') E s) : wpAny (model prog w) A (Builtin.«object.__ne__» ⟨[.ref x, b], []⟩) Q E s := by
  unfold Builtin.«object.__ne__»
  show wpAny _ _ (slotArgs "__ne__" 1 ⟨[.ref x, b], []⟩ >>= _) _ _ _
  refine wpAny_bind (wpAny_pure (wpAny_bind (wpAny_cRoomFor hu (wpAny_bind (PySem.W.ifBound_K X I hs hf (wpAny_mono h ?_ fun _ _ e => e))))))
  rintro _ s' ⟨r, rfl, q⟩
  exact wpAny_bind (wpAny_truthy_bool (wpAny_pure q))
theorem try_ne {Q : Option Value → Shared → Prop} (hu : A.units + 1 < cLine) (X : K.In s.heap) (I : PySem.W.InstAt s.heap x ox C od) (hn : PySem.W.findIn K (.ref C) "__ne__" = some (some (.builtin "object.__ne__"))) (ob : PySem.W.subIn K (.ref C) (.type "object") = some true)
    (hs : PySem.W.findIn K (.ref C) "__eq__" = some (some (.ref g))) (hf : PySem.W.isFn K (.ref g) = true)
    (h : wpAny (model prog w) A.in1 (call (.ref g) [.ref x, b]) (fun v s' => ∃ r, v = .bool r ∧ Q (some (.bool (!r))) s') E s) : wpAny (model prog w) A (tryCompare (.ref x) "__ne__" b) Q E s := by
  have S := F.cmp_object.ne
  have isO : PySem.W.Looks (model prog w) s.heap (isInstance (.ref x) (.type "object")) true := I.type.andThen (PySem.W.looks_subIn X ob)
  have run : wpAny (model prog w) A (call (.builtin "object.__ne__") [.ref x, b]) (fun v s' => ∃ r, v = .bool r ∧ Q (some (.bool r)) s') E s := by
    refine wpAny_call (codeAny_call_builtin S.plain F.cmpEntry_ne (PySem.W.check_slot F.cmpKind_ne F.cmpSplit_ne isO (F.cmpArgs_ne _ _) (obj_ne (A := A.in1) hu X I hs hf (wpAny_mono h ?_ fun _ _ e => e))))
    rintro _ s' ⟨r, rfl, q⟩
    exact ⟨r, rfl, _, rfl, q⟩
  unfold tryCompare
  simp only [callSpecialIfBound?, bindSpecialIfBound?]
  have fin : wpAny (model prog w) A (call (.builtin "object.__ne__") ([.ref x] ++ [b]) >>= fun v => pure (some v)) (fun r s' => ∃ q, r = some (.bool q) ∧ Q (some (.bool q)) s') E s := wpAny_bind (wpAny_mono run (fun v s' h' => by
    obtain ⟨r, rfl, q⟩ := h'
    exact wpAny_pure ⟨r, rfl, q⟩) fun _ _ h' => h')
  refine wpAny_bind (wpAny_holding (wpAny_bind (wpAny_bind (wpAny_bind (I.type.here ((PySem.W.looks_findIn X hn).here ?_))))))
  simp only [S.bind]
  refine wpAny_bind (wpAny_askSetting (wpAny_ite ?_))
  split
  · refine wpAny_bind (wpAny_pure (wpAny_pure (wpAny_mono fin (fun r s' h' => ?_) fun _ _ e => e)))
    obtain ⟨q, rfl, z⟩ := h'
    exact wpAny_pure z
  · refine wpAny_tryCatch (wpAny_bind (wpAny_pure (wpAny_pure (wpAny_mono fin (fun r s' h' => ?_) fun _ _ e => e))))
    obtain ⟨q, rfl, z⟩ := h'
    exact wpAny_pure z
/-- b != x, b of a built-in type -/
theorem ne_right {Q : Value → Shared → Prop} (hu : A.units + 1 < cLine) (X : K.In s.heap) (I : PySem.W.InstAt s.heap x ox C od) (D : Decl s v x T) (sub : PySem.W.subIn K (.ref C) (.type T) = some false)
    (hn : PySem.W.findIn K (.ref C) "__ne__" = some (some (.builtin "object.__ne__"))) (ob : PySem.W.subIn K (.ref C) (.type "object") = some true)
    (hs : PySem.W.findIn K (.ref C) "__eq__" = some (some (.ref g))) (hf : PySem.W.isFn K (.ref g) = true) (h : wpAny (model prog w) A.in1 (call (.ref g) [.ref x, v]) (fun u s' => ∃ r, u = .bool r ∧ Q (.bool (!r)) s') E s) :
    wpAny (model prog w) A (richCompare .NotEq v (.ref x)) Q E s := by
  unfold richCompare
  simp only [D.ty.oneThing_none]
  refine wpAny_holding (wpAny_bind (wpAny_cRoomFor (Nat.lt_of_succ_lt hu) (wpAny_bind (wpAny_typeOf D.ty (wpAny_bind (I.type.here ?_))))))
  rw [if_pos (bne_of C T)]
  refine wpAny_bind ((PySem.W.looks_subIn X sub).here ?_)
  simp only [Bool.false_eq_true, if_false, Bool.not_false, if_true]
  refine wpAny_bind (D.ne _ _ _ _ _ ?_)
  refine wpAny_bind (try_ne hu X I hn ob hs hf (wpAny_mono h (fun u s' hv => ?_) fun _ _ e => e))
  obtain ⟨r, rfl, q⟩ := hv
  exact ⟨r, rfl, wpAny_pure q⟩
/-- x != b -/
theorem ne_left {tb : Value} {Q : Value → Shared → Prop} (hu : A.units + 1 < cLine) (X : K.In s.heap) (I : PySem.W.InstAt s.heap x ox C od) (hb : PySem.W.Looks (model prog w) s.heap (typeOf b) tb) (nf : PySem.W.notFirst K C tb = true)
    (hn : PySem.W.findIn K (.ref C) "__ne__" = some (some (.builtin "object.__ne__"))) (ob : PySem.W.subIn K (.ref C) (.type "object") = some true)
    (hs : PySem.W.findIn K (.ref C) "__eq__" = some (some (.ref g))) (hf : PySem.W.isFn K (.ref g) = true) (h : wpAny (model prog w) A.in1 (call (.ref g) [.ref x, b]) (fun u s' => ∃ r, u = .bool r ∧ Q (.bool (!r)) s') E s) :
    wpAny (model prog w) A (richCompare .NotEq (.ref x) b) Q E s := by
  have one := try_ne (Q := fun r s' => ∃ q, r = some (.bool q) ∧ Q (.bool q) s') hu X I hn ob hs hf (wpAny_mono h (fun u s' hv => by
    obtain ⟨r, rfl, q⟩ := hv
    exact ⟨r, rfl, _, rfl, q⟩) fun _ _ e => e)
  unfold richCompare
  simp only [oneThing_ref]
  refine wpAny_holding (wpAny_bind (wpAny_cRoomFor (Nat.lt_of_succ_lt hu) (wpAny_bind (I.type.here (wpAny_bind (hb.here ?_))))))
  have last : wpAny (model prog w) A (do
      if let some v ← tryCompare (.ref x) (cmpInfo .NotEq).2.1 b then return v
      if !false then
        if let some v ← tryCompare b (cmpInfo .NotEq).2.2 (.ref x) then return v
      rule "compare.ne-identity"
      return .bool (!(← isSame (.ref x) b))) Q E s := by
    refine wpAny_bind (wpAny_mono one (fun r s' z => ?_) fun _ _ e => e)
    obtain ⟨q, rfl, z⟩ := z
    exact wpAny_pure z
  split
  · rename_i q
    have e : PySem.W.subIn K tb (.ref C) = some false := by
      rcases Bool.or_eq_true_iff.mp nf with e | e
      · rw [beq_iff_eq.mp e] at q; simp at q
      · exact beq_iff_eq.mp e
    exact wpAny_bind ((PySem.W.looks_subIn X e).here last)
  · exact wpAny_bind (wpAny_pure last)
end
end EqO
namespace EqO
open PySem PySem.Spec PyProof.Rows L2
/-- a tracked value of a built-in type -/
inductive BtV (K : PySem.W.Frag) (H : Hp) : V → String → Prop
  | non : BtV K H .non "NoneType"
  | bl (b : Bool) : BtV K H (.bl b) "bool"
  | int (i : Int) : BtV K H (.int i) "int"
  | str (x : Str) : BtV K H (.str x) "str"
  | lst {a : Addr} {xs : List V} : H a = some (.lst xs) → BtV K H (.ref a) "list"
  | tup {a : Addr} {xs : List V} : H a = some (.tup xs) → BtV K H (.ref a) "tuple"
  | dic {a : Addr} {kvs : List (Key × V)} : H a = some (.dK kvs) → BtV K H (.ref a) "dict"
  | kTup {a : Addr} {o : Obj} : K.lookup a = some o → o.cls = .type "tuple" → BtV K H (.ref a) "tuple"
structure OwnE (K : PySem.W.Frag) (C g : Addr) : Prop where
  eq : PySem.W.findIn K (.ref C) "__eq__" = some (some (.ref g))
  fn : PySem.W.isFn K (.ref g) = true
  ne : PySem.W.findIn K (.ref C) "__ne__" = some (some (.builtin "object.__ne__"))
  ob : PySem.W.subIn K (.ref C) (.type "object") = some true
  sub : ∀ T ∈ ["NoneType", "bool", "int", "str", "list", "tuple", "dict"], PySem.W.subIn K (.ref C) (.type T) = some false ∧ PySem.W.notFirst K C (.type T) = true
theorem BtV.mem {K : PySem.W.Frag} {H : Hp} {v : V} {T : String} (h : BtV K H v T) : T ∈ ["NoneType", "bool", "int", "str", "list", "tuple", "dict"] := by
  cases h <;> decide
section
variable {X : Cx} {CX : CXT} {pins : List (Addr × Obj)} {σ : L2.St} {H : Hp} {s : Shared} {a C g dx : Addr} {fs : List (Str × V)} {n : Nat} {sp : Sp} {E : XK} {v : V} {u : Value} {T : String}
theorem decl_of (I : Inv X pins σ H s) (O : OwnE X.K C g) (J : PySem.W.InstAt s.heap a ox C od) (pl : Pl a s) (b : BtV X.K H v T) (r : RelV v u) : Decl s u a T := by
  have no : ∀ T, PySem.W.subIn X.K (.ref C) (.type T) = some false → ∀ M : Model, Not a T M s := fun T e M => J.type.andThen (PySem.W.looks_subIn I.kIn e)
  cases b with
  | non => cases r; exact decl_none a
  | bl b => cases r; exact decl_bool b pl
  | int i => obtain ⟨t, rfl⟩ := r; exact decl_int i t pl
  | str x => obtain ⟨t, rfl⟩ := r; exact decl_str x t pl
  | @lst l xs e =>
    cases r
    obtain ⟨_, _, n, _, h1⟩ := (show ObjOk X.prog X.w H s.heap l (.lst xs) from I.hok l _ e)
    exact decl_list ⟨_, h1, rfl⟩ (no _ (O.sub _ (by decide)).1)
  | @tup l xs e =>
    cases r
    obtain ⟨_, _, _, o, h1, h2, _⟩ := (show ObjOk X.prog X.w H s.heap l (.tup xs) from I.hok l _ e)
    exact decl_tuple ⟨o, h1, h2⟩ (no _ (O.sub _ (by decide)).1)
  | @dic l kvs e =>
    cases r
    obtain ⟨_, _, vs, _, o, es, ep, h1, h2, _⟩ := (show ObjOk X.prog X.w H s.heap l (.dK kvs) from I.hok l _ e)
    exact decl_dict ⟨o, h1, h2.1⟩ (no _ (O.sub _ (by decide)).1)
  | @kTup l o e c =>
    cases r
    exact decl_tuple ⟨o, I.kIn l o e, c⟩ (no _ (O.sub _ (by decide)).1)
theorem inst_of (I : Inv X pins σ H s) (h : H a = some (.ins C dx fs)) : ∃ ox od, PySem.W.InstAt s.heap a ox C od ∧ Pl a s := by
  obtain ⟨mA, O, _⟩ := ins_get I.hok h
  obtain ⟨od, J, _⟩ := O.look
  exact ⟨_, _, J, _, _, _, O.obj⟩
/-- what stands on the other side -/
def Oth (K : PySem.W.Frag) (C : Addr) (H : Hp) (y : V) : Prop := (∃ T, BtV K H y T) ∨ ∃ b dy gs, y = .ref b ∧ H b = some (.ins C dy gs)
def rEqO (K : PySem.W.Frag) (C : Addr) (sp : Sp) (E : XK) : R2 := fun x y H Q =>
  (∃ a dx fs, x = .ref a ∧ H a = some (.ins C dx fs) ∧ Oth K C H y ∧ sp [x, y] H Q E) ∨ ∃ a dx fs T, y = .ref a ∧ H a = some (.ins C dx fs) ∧ BtV K H x T ∧ sp [y, x] H Q E
def rNeO (K : PySem.W.Frag) (C : Addr) (sp : Sp) (E : XK) : R2 := fun x y H Q => rEqO K C (fun vs H1 Q1 E1 => sp vs H1 (fun v H' => ∃ r, v = .bl r ∧ Q (.bl (!r)) H') E1) E x y H fun _ _ => True
theorem type_of (I : Inv X pins σ H s) (O : OwnE X.K C g) (J : PySem.W.InstAt s.heap a ox C od) (pl : Pl a s) (o : Oth X.K C H v) (r : RelV v u) : ∃ tb, PySem.W.Looks (model X.prog X.w) s.heap (typeOf u) tb ∧ PySem.W.notFirst X.K C tb = true := by
  rcases o with ⟨T, b⟩ | ⟨b, dy, gs, rfl, e⟩
  · have D := decl_of I O J pl b r
    refine ⟨.type T, ?_, (O.sub T b.mem).2⟩
    have ty := D.ty
    intro A Q E s' k q
    cases u with
    | ref l =>
      obtain ⟨o, ho, hc⟩ := ty
      exact wpAny_typeOf (T := T) ⟨o, k _ _ ho, hc⟩ q
    | _ => exact wpAny_typeOf (T := T) ty q
  · cases r
    obtain ⟨ox, od, J2, _⟩ := inst_of I e
    exact ⟨.ref C, J2.type, by unfold PySem.W.notFirst; simp⟩
theorem op_eqO (O : OwnE X.K C g) (F : FnR X.prog X.w X.K X.mg X.base CX n g sp) (hr : Room n X.A) (hx : Passes CX X E) : OpR X (compareOp .Eq) (rEqO X.K C sp E) := by
  intro pins s σ H x y v u Q I rx ry h
  show wpAny _ _ (richCompare .Eq v u) _ _ _
  obtain ⟨m, hF⟩ := I.fr
  rcases h with ⟨a, dx, fs, rfl, e, o, q⟩ | ⟨a, dx, fs, T, rfl, e, b, q⟩
  · cases rx
    obtain ⟨ox, od, J, pl⟩ := inst_of I e
    obtain ⟨tb, L, nf⟩ := type_of I O J pl o ry
    refine PySem.W.cmp_K (op := .Eq) hr.units0 hF I.ok.mod.kin J L nf O.eq O.fn ?_
    refine wpAny_mono (wpAny_call (run_fnR (us := [.ref a, u]) (vs := [.ref a, y]) F hr hx I (.cons rfl (.cons ry .nil)) q)) (fun w s' z => ?_) fun _ _ x => x
    obtain ⟨z', H', I', rz, qz⟩ := z
    exact SlX.cmpback rz ⟨z', H', I', rz, qz⟩
  · cases ry
    obtain ⟨ox, od, J, pl⟩ := inst_of I e
    refine eq_right hr.units0 I.kIn J (decl_of I O J pl b rx) (O.sub T b.mem).1 O.eq O.fn ?_
    refine wpAny_mono (wpAny_call (run_fnR (us := [.ref a, v]) (vs := [.ref a, x]) F hr hx I (.cons rfl (.cons rx .nil)) q)) (fun w s' z => ?_) fun _ _ x => x
    obtain ⟨z', H', I', rz, qz⟩ := z
    exact SlX.cmpback rz ⟨z', H', I', rz, qz⟩
theorem op_neO (O : OwnE X.K C g) (F : FnR X.prog X.w X.K X.mg X.base CX n g sp) (hr : Room (n + 1) X.A) (hx : Passes CX X E) : OpR X (compareOp .NotEq) (rNeO X.K C sp E) := by
  intro pins s σ H x y v u Q I rx ry h
  show wpAny _ _ (richCompare .NotEq v u) _ _ _
  have hr1 : Room n X.A.in1 := hr.in1
  rcases h with ⟨a, dx, fs, rfl, e, o, q⟩ | ⟨a, dx, fs, T, rfl, e, b, q⟩
  · cases rx
    obtain ⟨ox, od, J, pl⟩ := inst_of I e
    obtain ⟨tb, L, nf⟩ := type_of I O J pl o ry
    refine ne_left hr1.units0 I.kIn J L nf O.ne O.ob O.eq O.fn ?_
    refine wpAny_mono (wpAny_call (SlX.run_at (us := [.ref a, u]) (ws := [.ref a, y]) F hr1 I.env0.in1 hx I (.cons rfl (.cons ry .nil)) q)) (fun w s' z => ?_) fun _ _ x => x
    obtain ⟨z', H', I', rz, r, rfl, qz⟩ := z
    cases rz
    exact ⟨r, rfl, .bl (!r), H', I', rfl, qz⟩
  · cases ry
    obtain ⟨ox, od, J, pl⟩ := inst_of I e
    refine ne_right hr1.units0 I.kIn J (decl_of I O J pl b rx) (O.sub T b.mem).1 O.ne O.ob O.eq O.fn ?_
    refine wpAny_mono (wpAny_call (SlX.run_at (us := [.ref a, v]) (ws := [.ref a, x]) F hr1 I.env0.in1 hx I (.cons rfl (.cons rx .nil)) q)) (fun w s' z => ?_) fun _ _ x => x
    obtain ⟨z', H', I', rz, r, rfl, qz⟩ := z
    cases rz
    exact ⟨r, rfl, .bl (!r), H', I', rfl, qz⟩
/-- f(x), f one of len, repr, str, x an instance of the class at C, what C's own method keeps: sp -/
def rLenO (C : Addr) (sp : Sp) (E : XK) : List V → Hp → VK → Prop := fun xs H Q => ∃ a dx fs, xs = [V.ref a] ∧ H a = some (.ins C dx fs) ∧ sp [.ref a] H (fun v H' => ∃ k : Nat, v = .int (k : Int) ∧ k < 2 ^ 60 ∧ Q v H') E
def rTxtO (C : Addr) (sp : Sp) (E : XK) : List V → Hp → VK → Prop := fun xs H Q => ∃ a dx fs, xs = [V.ref a] ∧ H a = some (.ins C dx fs) ∧ sp [.ref a] H (fun v H' => ∃ z : Str, v = .str z ∧ Q v H') E
theorem call_lenO (hs : PySem.W.findIn X.K (.ref C) "__len__" = some (some (.ref g))) (hf : PySem.W.isFn X.K (.ref g) = true) (F : FnR X.prog X.w X.K X.mg X.base CX n g sp) (hr : Room (n + 1) X.A) (hx : Passes CX X E) : CallR X (.builtin "len") (rLenO C sp E) := by
  rintro pins s σ H xs us Q I r ⟨a, dx, fs, rfl, e, q⟩
  obtain ⟨u, rfl, ru⟩ := r.one
  cases ru
  obtain ⟨ox, od, J, pl⟩ := inst_of I e
  obtain ⟨m, hF⟩ := I.fr
  refine PySem.W.len_K hF I.ok.mod.kin J hs hf (wpAny_mono (wpAny_call (SlX.run_at (us := [.ref a]) (ws := [.ref a]) F hr.in1 I.env0.in1 hx I (.cons rfl .nil) q)) (fun w s' z => ?_) fun _ _ x => x)
  obtain ⟨z', H', I', rz, k, rfl, hk, qz⟩ := z
  obtain ⟨t, rfl⟩ := rz
  exact ⟨⟨by omega, by omega⟩, .int (k : Int), H', I'.tok _, ⟨_, rfl⟩, qz⟩
theorem call_reprO (hs : PySem.W.findIn X.K (.ref C) "__repr__" = some (some (.ref g))) (hf : PySem.W.isFn X.K (.ref g) = true) (F : FnR X.prog X.w X.K X.mg X.base CX n g sp) (hr : Room (n + 1) X.A) (hx : Passes CX X E) : CallR X (.builtin "repr") (rTxtO C sp E) := by
  rintro pins s σ H xs us Q I r ⟨a, dx, fs, rfl, e, q⟩
  obtain ⟨u, rfl, ru⟩ := r.one
  cases ru
  obtain ⟨ox, od, J, pl⟩ := inst_of I e
  obtain ⟨m, hF⟩ := I.fr
  refine PySem.W.repr_K hr.in1.units0 hF I.ok.mod.kin J hs hf (wpAny_mono (wpAny_call (SlX.run_at (us := [.ref a]) (ws := [.ref a]) F hr.in1 I.env0.in1 hx I (.cons rfl .nil) q)) (fun w s' z => ?_) fun _ _ x => x)
  obtain ⟨z', H', I', rz, y, rfl, qz⟩ := z
  obtain ⟨t, rfl⟩ := rz
  exact ⟨.str y, H', I', ⟨_, rfl⟩, qz⟩
theorem call_strO (hs : PySem.W.findIn X.K (.ref C) "__str__" = some (some (.ref g))) (hf : PySem.W.isFn X.K (.ref g) = true) (F : FnR X.prog X.w X.K X.mg X.base CX n g sp) (hr : Room (n + 2) X.A) (hx : Passes CX X E) : CallR X (.type "str") (rTxtO C sp E) := by
  rintro pins s σ H xs us Q I r ⟨a, dx, fs, rfl, e, q⟩
  obtain ⟨u, rfl, ru⟩ := r.one
  cases ru
  obtain ⟨ox, od, J, pl⟩ := inst_of I e
  have hr2 : Room n X.A.in1.in1 := (show Room (n + 1) X.A.in1 from hr.in1).in1
  refine PySem.W.kso_call hr2.units0 I.kIn J hs hf (wpAny_mono (wpAny_call (SlX.run_at (us := [.ref a]) (ws := [.ref a]) F hr2 I.env0.in1.in1 hx I (.cons rfl .nil) q)) (fun w s' z => ?_) fun _ _ x => x)
  obtain ⟨z', H', I', rz, y, rfl, qz⟩ := z
  obtain ⟨t, rfl⟩ := rz
  exact ⟨.str y, H', I', ⟨_, rfl⟩, qz⟩
/-- v in x -/
def rInO (C : Addr) (sp : Sp) (E : XK) : R2 := fun y x H Q => ∃ a dx fs, x = V.ref a ∧ H a = some (.ins C dx fs) ∧ sp [.ref a, y] H (fun v H' => ∃ b : Bool, v = .bl b ∧ Q v H') E
theorem op_inO (hs : PySem.W.findIn X.K (.ref C) "__contains__" = some (some (.ref g))) (hf : PySem.W.isFn X.K (.ref g) = true) (F : FnR X.prog X.w X.K X.mg X.base CX n g sp) (hr : Room n X.A) (hx : Passes CX X E) : OpR X (compareOp .In) (rInO C sp E) := by
  rintro pins s σ H y x v u Q I ry rx ⟨a, dx, fs, rfl, e, q⟩
  cases rx
  obtain ⟨ox, od, J, pl⟩ := inst_of I e
  obtain ⟨m, hF⟩ := I.fr
  refine PySem.W.in_K hF I.ok.mod.kin J hs hf (wpAny_mono (wpAny_call (run_fnR (us := [.ref a, v]) (vs := [.ref a, y]) F hr hx I (.cons rfl (.cons ry .nil)) q)) (fun w s' z => ?_) fun _ _ x => x)
  obtain ⟨z', H', I', rz, b, rfl, qz⟩ := z
  cases rz
  exact wpAny_truthy_bool ⟨.bl b, H', I', rfl, qz⟩
end
end EqO
/-! where an exception is handled: a comprehension over an empty tuple; repr of an own instance; an own error raised, its context None -/
namespace HtT
open PySem PySem.Spec PyProof.Rows L2 HotX L2H
section
variable {prog : Program} {w : World} {A : Around} {E : Value → Shared → Prop} {s : Shared}
theorem tuple_done {it t x1 : Addr} {i : Nat} {items : Array Value} {Q : Option Value → Shared → Prop} (hot : HotAt A x1 s.heap) (hit : s.heap.IsTupleIter it t i) (ht : s.heap.IsTuple t items) (hx : items[i]? = none) (n1 : x1 ≠ it)
    (hQ : ∀ h', Heap.ExtBut it s.heap h' → Q none { s with heap := h' }) : wpAny (model prog w) A (pyNext (.ref it)) Q E s := by
  obtain ⟨o, ho, hc, hd⟩ := id hit
  obtain ⟨ol, hol, _, nl, hdl⟩ := ht
  obtain ⟨hh, o1, vs1, h1, d1, c1⟩ := hot
  unfold pyNext
  refine wpAny_bind (wpAny_attempt (wpAny_callSpecial?_slot (name := Str.ofString "__next__") hit.typeIs F.slot_tuple_iterator_next (wpAny_call_entry F.slot_tuple_iterator_next hit.typeIs F.entry_tuple_iterator_next ?_ (F.args_tuple_iterator_next_1 _))))
  show wpAny _ _ (field (.ref it) 0 >>= _) _ _ s
  refine wpAny_bind (wpAny_field ho hd (x := .ref t) rfl ?_)
  show wpAny _ _ (if (Value.ref t == Value.none) = true then _ else _) _ _ s
  rw [if_neg (show ¬ ((Value.ref t == Value.none) = true) from Bool.false_ne_true)]
  show wpAny _ _ (field (.ref it) 1 >>= _) _ _ s
  refine wpAny_bind (wpAny_field ho hd (x := .int i 0) rfl ?_)
  show wpAny _ _ (seqItems? (.ref t) >>= _) _ _ s
  refine wpAny_bind (wpAny_seqItems hol hdl ?_)
  simp only [Int.toNat_natCast, hx]
  refine wpAny_bind (wpAny_rule (wpAny_bind (wpAny_setField ho hd (by simp) ?_)))
  refine wpAny_bind ?_
  show wpAny _ _ (newExc (.type "StopIteration") [] >>= _) _ _ _
  refine wpAny_bind ?_
  simp only [newExc, newTuple]
  refine wpAny_bind (wpAny_newObj_type ?_ (by size_fits))
  refine wpAny_bind (m := firstArgMember _ _) (wpAny_of_eq (a := Value.none) (by first | rfl | (simp only [firstArgMember]; rfl)) ?_)
  refine wpAny_newObj_type ?_ (by size_fits)
  have h1u : (s.heap.update it (Obj.mapFields fun x => x.setIfInBounds 0 Value.none)).get? x1 = some o1 := by
    rw [Heap.get?_update_other _ _ (Ne.symm n1)]
    exact h1
  refine wpAny_pure ?_
  refine raiseNew_hot ⟨hh, o1, vs1, Heap.get?_push_of_some _ (Heap.get?_push_of_some _ h1u), d1, c1⟩ (Nat.ne_of_lt (Heap.lt_size (Heap.get?_push_of_some _ h1u))) (Heap.get?_push_size _ rfl) rfl (by first | (simp; done) | (simp; omega)) ?_
  refine wpAny_bind (wpAny_isInstance (T := "StopIteration") (b := true) ⟨_, Heap.get?_update_self _ (Heap.get?_push_size _ rfl) rfl, rfl⟩ isSubtype_stop ?_)
  refine wpAny_pure (hQ _ fun b o hb e => ?_)
  have eu : (s.heap.update it (Obj.mapFields fun x => x.setIfInBounds 0 Value.none)).get? b = some o := by
    rw [Heap.get?_update_other _ _ (Ne.symm hb)]
    exact e
  rw [Heap.get?_update_other _ _ (Nat.ne_of_gt (Heap.lt_size (Heap.get?_push_of_some _ eu)))]
  exact Heap.get?_push_of_some _ (Heap.get?_push_of_some _ eu)
end
section
variable {X : Cx} {elt tg iter : Expr} {ifs : List Expr} {scope : Scope} {own : List (Str × Nat)} {pos : Pos} {te : TE}
/-- [.. for .. in xs], xs an empty tuple, where an exception is handled -/
def tLcE (K : PySem.W.Frag) (te : TE) : TE := fun σ H Q => te σ H fun x H1 => ∃ a, x = .ref a ∧ SqT K H1 a [] ∧ ∀ D, H1 D = none → Q (.ref D) (upd H1 D (.lst []))
theorem pe_lcE (hc : HotC X) (hN : X.N.Nodup) (hi : PE X iter te) (ok : BlkOk X.N X.env.scope scope own) (hs : ∀ x, foldedSetIterable iter X.env x = pure x := by intro _; rfl) : PE X (.ListComp elt [⟨tg, iter, ifs, 0⟩] scope pos) (tLcE X.K te) := by
  refine ⟨fun pins s σ H Q I h => ?_⟩
  rw [eval_ListComp]
  have hfree : ∀ y ∈ scope.names, y.2 = .free → ∃ c, X.env.cells.lookup y.1 = some c := fun y hy e => (ok.free y hy e).elim (fun k => I.ok.has _ (.inl k)) fun k => I.ok.has _ (.inr k)
  refine wpAny_comprehension_free (use := none) rfl hs (closure_ok hfree) ok.kind (fun y hy e => by rw [ok.uniq y hy, e]) (thn (hi.run pins s σ H _ I h) fun xv s1 ⟨x, H1, I1, r1, a, e, hT, q⟩ => ?_)
  subst e
  cases r1
  obtain ⟨x1, hot⟩ := hc.at I1
  obtain ⟨its, rv, pt, hz⟩ := I1.tuple hT
  cases rv
  refine wpAny_pyIter_tuple (show s1.heap.IsTuple a #[] from pt) ?_
  refine wpAny_newObj_type (newEnv_comp ?_) (by show 0 ≤ sizeLine; decide)
  -- the iterator, the new list
  have I2 : Inv X pins σ H1 { s1 with heap := s1.heap.push { cls := .type "tuple_iterator", data := .fields #[.ref a, .int 0 0] } } := I1.kept (t' := s1.toks) fun b o e => Heap.get?_push_of_some _ e
  have gi : (s1.heap.push { cls := .type "tuple_iterator", data := .fields #[.ref a, .int 0 0] }).get? s1.heap.objs.size = some { cls := .type "tuple_iterator", data := .fields #[.ref a, .int 0 0] } := Heap.get?_push_size _ rfl
  have k2 : ∀ b o, s1.heap.get? b = some o → (s1.heap.push { cls := .type "tuple_iterator", data := .fields #[.ref a, .int 0 0] }).get? b = some o := fun b o e => Heap.get?_push_of_some _ e
  have fi : FpOk X pins H1 s1.heap.objs.size := I1.fpOk (Nat.le_refl _) (I1.hok.fresh (Nat.le_refl _))
  revert I2 gi k2
  generalize hh2 : s1.heap.push { cls := .type "tuple_iterator", data := .fields #[.ref a, .int 0 0] } = h2
  intro I2 gi k2
  have hDn : H1 h2.objs.size = none := I2.hok.fresh (Nat.le_refl _)
  have nDi : s1.heap.objs.size ≠ h2.objs.size := Nat.ne_of_lt (Heap.lt_size gi)
  have I3 : Inv X pins σ (upd H1 h2.objs.size (.lst [])) { s1 with heap := h2.push { cls := .type "list", data := .seq #[] } } :=
    I2.laid (t' := s1.toks) (fun b o e => Heap.get?_push_of_some _ e) (Nat.le_refl _) ⟨Nat.zero_le _, [], 0, .nil, Heap.get?_push_size _ rfl⟩
  have k3 : ∀ b o, h2.get? b = some o → (h2.push { cls := .type "list", data := .seq #[] }).get? b = some o := fun b o e => Heap.get?_push_of_some _ e
  have q3 := q h2.objs.size hDn
  have fi3 : FpOk X pins (upd H1 h2.objs.size (.lst [])) s1.heap.objs.size := ⟨by rw [upd_ne nDi]; exact fi.1, fi.2⟩
  revert I3 k3 q3 fi3
  generalize hH3 : upd H1 h2.objs.size (.lst []) = H3
  generalize hh3 : h2.push { cls := .type "list", data := .seq #[] } = h3
  intro I3 k3 q3 fi3
  have I4 := block_start (fp := [s1.heap.objs.size]) I3 ok hN fun b hb => by
    rw [List.mem_singleton.mp hb]
    exact ⟨fi3, Heap.lt_size (k3 _ _ gi)⟩
  have nC : H3 h3.objs.size = none := I3.hok.fresh (Nat.le_refl _)
  show codeAny _ _ (.compStart (.ListComp elt [⟨tg, iter, ifs, 0⟩] scope pos) 0 (.ref s1.heap.objs.size) (.ref h2.objs.size) (compEnvC scope (cellsFrom (h3.objs.size + 1) scope.names (cloFrom X.env.cells scope.names [])) h3.objs.size X.env)) (compPost (model X.prog X.w) X.A X.xe none _ (.ref h2.objs.size) h3.objs.size) { s1 with heap := pushCells (h3.push { cls := .type "dict", data := .dict #[] }) scope.names }
  have k4 : ∀ b o, h3.get? b = some o → (pushCells (h3.push { cls := .type "dict", data := .dict #[] }) scope.names).get? b = some o := fun b o e => pushCells_keeps _ _ _ _ (Heap.get?_push_of_some _ e)
  obtain ⟨m, hn, _⟩ := I4.loc
  have hn : (pushCells (h3.push { cls := .type "dict", data := .dict #[] }) scope.names).Ns h3.objs.size m := hn
  have I3k : Inv X pins σ H3 { s1 with heap := pushCells (h3.push { cls := .type "dict", data := .dict #[] }) scope.names } := I3.kept (t' := s1.toks) k4
  revert k4 hn I3k
  generalize pushCells (h3.push { cls := .type "dict", data := .dict #[] }) scope.names = h4
  intro k4 hn I3k
  generalize compEnvC scope (cellsFrom (h3.objs.size + 1) scope.names (cloFrom X.env.cells scope.names [])) h3.objs.size X.env = ce
  have st4 : h4.IsTupleIter s1.heap.objs.size a 0 := ⟨_, k4 _ _ (k3 _ _ gi), rfl, rfl⟩
  have up : ∀ b o, s1.heap.get? b = some o → h4.get? b = some o := fun b o e => k4 _ _ (k3 _ _ (k2 _ _ e))
  obtain ⟨hd1, o1, vs1, g1, d1, c1⟩ := hot
  have pt4 : h4.IsTuple a #[] := by
    obtain ⟨o, e, r⟩ := pt
    exact ⟨o, up _ _ e, r⟩
  have nCi : h3.objs.size ≠ s1.heap.objs.size := Nat.ne_of_gt (Heap.lt_size (k3 _ _ gi))
  have loop : codeAny (model X.prog X.w) X.A (.compLoop (.ListComp elt [⟨tg, iter, ifs, 0⟩] scope pos) 0 (.ref s1.heap.objs.size) (.ref h2.objs.size) ce) (compPost (model X.prog X.w) X.A X.xe none (EP X pins σ Q) (.ref h2.objs.size) h3.objs.size) { s1 with heap := h4 } := by
    refine compLoop_any (fun _ s' => s' = { s1 with heap := h4 }) (fun n s' e => ?_) 0 rfl
    subst e
    refine tuple_done ⟨hd1, o1, vs1, up _ _ g1, d1, c1⟩ st4 pt4 rfl (Nat.ne_of_lt (Heap.lt_size g1)) fun h' eb => ?_
    obtain ⟨f0, f1, f2, f3, f4, f5⟩ := fi3
    have J : Inv X pins σ H3 { s1 with heap := h' } := I3k.turned (t' := s1.toks) (fun b o hb e => eb b o hb e) f0 f1 f3 f4 f5
    obtain ⟨oc, es, ep, e1, e2, rest⟩ := hn
    refine ⟨m, ⟨oc, es, ep, eb _ _ nCi e1, e2, rest⟩, fun h'' sb => ?_⟩
    obtain ⟨c0, c1', c2, c3, c4, c5⟩ := I3.fpOk (Nat.le_refl _) nC
    exact ⟨.ref h2.objs.size, H3, J.turned (t' := s1.toks) (fun b o hb e => (sb.2 b hb).trans e) c0 c1' c3 c4 c5, rfl, q3⟩
  exact codeAny_compStart_list loop (wpAny_pyIter_tupleiter st4 loop)
end
/-! ### repr(x), x an instance of the class at C, where an exception is handled -/
theorem roomIn {k : Nat} {A : Around} (r : RoomH (k + 1) A) : RoomH k A.in1 := ⟨by have := r.dp; show A.depth + 3 * k + 5 < _; omega, by have := r.un; show A.units + 1 + 16 * k + 200 < _; omega⟩
section
variable {X : Cx} {n : Nat} {g C : Addr} {gd : FuncData} {sp : Sp}
theorem call_reprH (hs : PySem.W.findIn X.K (.ref C) "__repr__" = some (some (.ref g))) (hf : PySem.W.isFn X.K (.ref g) = true) (F : FnH X.prog X.w X.K X.mg X.base CX0 n g gd ["self"] sp) (hb : Binds X.K gd ["self"] []) (hr : RoomH (n + 1) X.A) (hc : HotC X) :
    CallR X (.builtin "repr") (EqO.rTxtO C sp E0) := by
  rintro pins s σ H xs us Q I r ⟨a, dx, fs, rfl, e, q⟩
  obtain ⟨u, rfl, ru⟩ := r.one
  cases ru
  obtain ⟨ox, od, J, pl⟩ := EqO.inst_of I e
  obtain ⟨m, hF⟩ := I.fr
  obtain ⟨p, hot, hp⟩ := hc
  have P1 := I.pin p (List.mem_append_left _ hp)
  have hpin : PinOk X.stack H s p := ⟨P1.1, P1.2.1, fun hm => (List.mem_cons.mp (I.stkSub p.1 hm)).elim P1.2.2.1 P1.2.2.2.1, P1.2.2.2.2⟩
  have un : X.A.in1.units < cLine := by have := hr.un; show X.A.units + 1 < _; omega
  have run : wpAny (model X.prog X.w) X.A.in1 (call (.ref g) [.ref a]) (EP X pins σ fun v H' => ∃ z : Str, v = .str z ∧ Q v H') X.xe s := by
    apply wpAny_call
    refine codeAny_mono (F.run X.A.in1 X.stack s H ⟨[.ref a], []⟩ [.ref a] [.ref a] _ E0 p (roomIn hr) ⟨hot.1, hot.2⟩ hpin I.env0.in1 (by simpa using hb s [.ref a] I.kIn rfl) (.cons rfl .nil) q) ?_
    rintro (er | fl) s' hq
    · exact hq.elim
    · cases fl <;> first | exact I.after hq | exact False.elim hq
  refine PySem.W.repr_K un hF I.ok.mod.kin J hs hf (wpAny_mono run (fun w s' z => ?_) fun _ _ x => x)
  obtain ⟨z', H', I', rz, y, rfl, qz⟩ := z
  obtain ⟨t, rfl⟩ := rz
  exact ⟨.str y, H', I', ⟨_, rfl⟩, qz⟩
end
/-! ### an own error with an __init__ of its own, raised where nothing is handled: its context is None -/
section
variable {X : Cx} {e : Expr} {es : List Expr} {ta : TA} {p pos : Pos}
theorem pmk_oexN {CX : CXT} {x : Str} {C fI : Addr} {k : Nat} {fd : FuncData} {ps : List Str} {sp : Sp} (T : OexC X.K C) (iC : PySem.W.findIn X.K (.ref C) "__init__" = some (some (.ref fI))) (tI : PySem.W.typeIn X.K (.ref fI) = some (.type "function"))
    (F1 : FnOk X.prog X.w X.K X.mg X.base CX k fI fd ps sp) (hr : Room (k + 1) X.A) (hb : Binds X.K fd ps []) (hx : Passes CX X (fun _ _ _ => False)) (hg : Gl X x) (hm : X.mg x = some (.ref C)) (ha : PA X (e :: es) ta)
    (hdb : (x == ("__debug__" : Str)) = false := by decide) (he : starEach (e :: es) X.env = (false, eval e X.env) :: starEach es X.env := by rfl) (hpl : (backTo pos (starEach es X.env)).any (·.1) = false := by rfl) :
    L2N.PMk X (.Call (.Name x p) (e :: es) [] pos) (tMkO C sp [] ta) := by
  intro pins s σ H Q I h
  obtain ⟨nm, q, N, bs, bm, sn, sub, ab, col, dd, k0, k1, k2, k3, k5, hC, hbm⟩ := T.cls
  refine wpAny_Call_Name_kw (ld_glob I hg hm ?_ hdb)
  refine PySem.W.callWith_K (h₀ := X.base) I.ok.mod.kin T.kC (thn (ha.run pos pins s σ H _ I h) ?_) he hpl
  rintro us ⟨hp, g, dr, tk, os⟩ ⟨vs, H1, I1, r1, hz, q1⟩
  refine ⟨I1.kIn, ?_⟩
  show wpAny _ _ (call (.ref C) us) _ _ _
  have lay : ∀ b o, hp.get? b = some o → ((hp.push (PySem.W.kdv_tup us)).push (PySem.HandSPX.excO C hp.objs.size)).get? b = some o := fun b o e => Heap.get?_push_of_some _ (Heap.get?_push_of_some _ e)
  have here : ((hp.push (PySem.W.kdv_tup us)).push (PySem.HandSPX.excO C hp.objs.size)).get? (hp.objs.size + 1) = some (PySem.HandSPX.excO C hp.objs.size) := by heap_get
  have new : hp.objs.size ≤ hp.objs.size + 1 := Nat.le_succ _
  have hq := q1 _ (I1.hok.fresh new)
  have I2 := I1.laid (t' := tk) (a := hp.objs.size + 1) (o := exo (hp.objs.size + 1) C none) lay new (exo_ok here)
  have r2 : Vals (V.ref (hp.objs.size + 1) :: (vs ++ [])) (Value.ref (hp.objs.size + 1) :: (us ++ [])) := .cons rfl (r1.append .nil)
  have len : (Value.ref (hp.objs.size + 1) :: us ++ []).length = ps.length := (F1.len _ _ _ _ hq).symm.trans r2.length |>.symm
  have few : us.length ≤ sizeLine := by have := Paired.length r1; rw [sizeLine_eq]; omega
  refine wpAny_call (PySem.HandSPX.call_own F.excBase_ValueError (fun Y => PySem.HandSPX.refsVE_contains Y bm hbm) (I1.kIn _ _ hC) (PySem.W.looks_findIn I1.kIn iC) (fun self => PySem.W.bind_fn I1.kIn self tI) few ?_)
  refine codeAny_mono (F1.run _ X.stack _ _ ⟨Value.ref (hp.objs.size + 1) :: us, []⟩ ((Value.ref (hp.objs.size + 1) :: us) ++ []) _ _ (fun _ _ _ => False) (hr.make C us []) (I2.env0.make C us []) (hb _ (Value.ref (hp.objs.size + 1) :: us) I2.kIn len) r2 hq) ?_
  rintro (er | fl) s' back
  · exact hx pins σ _ _ er s' I2 back
  · cases fl with
    | ret rv =>
      obtain ⟨_, H2, os2, bare2, un2, hok2, rv', rfl, d, fs, ea, ed, hd1, q2⟩ := back
      obtain ⟨h2, g2, d2, t2, os'⟩ := s'
      obtain ⟨t0, G, J, kG, ge, hoe, na⟩ := mk_end0 (d2 := d2) (t2 := t2) I1 new lay un2 hok2 os2 bare2 ea ed hd1
      refine ⟨rv', hp.objs.size + 1, _, _, ⟨G, g2, d2, t2, os'⟩, _, .ref C, some d, rfl, J, kG, ge, hoe, ⟨rfl, rfl, fun vs hv => ?_⟩, rfl, rfl, na, rfl, bare2, raises_own T.exC T.tyC, q2⟩
      cases hv
      rfl
    | next => exact back.elim
    | brk => exact back.elim
    | cont => exact back.elim
end
section
variable {P : Program} {w : World} {K : PySem.W.Frag} {mg : Str → Option Value} {base : Heap}
/-- a def that may raise, the context of what leaves None -/
theorem okN {x qual : Str} {st : Stmt} {f : Addr} {fd : FuncData} {N ps : List Str} {k : Nat} {sp : Sp} (F : L2.Fun K x qual st f fd) (S : FnScope N ps (defScope st)) (len : ∀ vs H Q E, sp vs H Q E → vs.length = ps.length)
    (body : ∀ (cdv : Value) (A : Around) (o_ : List Env) (s : Shared) (H : Hp) (vs : List V) (Q : VK) (E : XK), Room k (A.deeper (envOfC qual (defScope st) s.heap.objs.size f cdv)) → sp vs H Q E →
      ∃ t, PSs (cxOf (L2N.CX P w) P w K mg base N qual (defScope st) f cdv A o_ s H E) (defBody st) t ∧ t { nx := fun _ H' => Q .non H', rt := Q } (start N vs) H) : FnOk P w K mg base (L2N.CX P w) (k + 1) f fd ps sp := by
  obtain ⟨oc, od, kV, doc, pm, an, cdv, ct, osl, rfl, lk, hcd⟩ := F.ex
  exact fn_of lk hcd S len fun A o_ s H vs Q E hr h => body cdv A o_ s H vs Q E hr h
/-- a def run where an exception is handled -/
theorem okH {x qual : Str} {st : Stmt} {f : Addr} {fd : FuncData} {N ps : List Str} {k : Nat} {sp : Sp} (F : L2.Fun K x qual st f fd) (S : FnScope N ps (defScope st)) (len : ∀ vs H Q E, sp vs H Q E → vs.length = ps.length)
    (body : ∀ (cdv : Value) (A : Around) (o_ : List Env) (s : Shared) (H : Hp) (vs : List V) (Q : VK) (E : XK) (p : Addr × Obj), Hot1 A p → RoomH k (A.deeper (envOfC qual (defScope st) s.heap.objs.size f cdv)) → sp vs H Q E →
      ∃ t, PSs (cxH CX0 P w K mg base N qual (defScope st) f cdv A o_ s H E p) (defBody st) t ∧ t { nx := fun _ H' => Q .non H', rt := Q } (start N vs) H) : FnH P w K mg base CX0 (k + 1) f fd ps sp := by
  obtain ⟨oc, od, kV, doc, pm, an, cdv, ct, osl, rfl, lk, hcd⟩ := F.ex
  exact fn_ofH lk hcd S len fun A o_ s H vs Q E p hot hr h => body cdv A o_ s H vs Q E p hot hr h
end
end HtT
/-! for x in xs: xs a list or a tuple -/
namespace L2
open PySem PySem.Spec PyProof.Rows
section
variable {X : Cx} {tg : Expr}
def iSeq (K : PySem.W.Frag) (tl : TE) : TI := fun σ H R => tl σ H fun x H1 => ∃ a xs, x = .ref a ∧ ((SqL K H1 a xs ∧ R (Itl K a) H1) ∨ (SqT K H1 a xs ∧ R (Itt K a) H1))
theorem pi_seq {l : Expr} {tl : TE} (hl : PE X l tl) : PI X tg l (iSeq X.K tl) := by
  refine ⟨fun pins s σ H R I h => ?_⟩
  refine thn (hl.run pins s σ H _ I h) fun v s1 ⟨x, H1, I1, r1, q1⟩ => ?_
  obtain ⟨a, xs, e, q1⟩ := q1
  subst e
  cases r1
  rcases q1 with ⟨hq, q⟩ | ⟨hq, q⟩
  · obtain ⟨its, rv, p, hz⟩ := I1.list hq
    refine wpAny_pyIter_list p.isList ?_
    refine ⟨s1.heap.objs.size, [s1.heap.objs.size], _, _, H1, rfl, I1.kept (t' := s1.toks) fun b o e => Heap.get?_push_of_some _ e, turn_list a _, ⟨_, Heap.get?_push_size _ rfl, rfl, rfl⟩, fun b hb => ?_, q⟩
    have e : b = s1.heap.objs.size := by simpa using hb
    subst e
    exact I1.fpOk (Nat.le_refl _) (I1.hok.fresh (Nat.le_refl _))
  · obtain ⟨its, rv, p, hz⟩ := I1.tuple hq
    refine wpAny_pyIter_tuple (show s1.heap.IsTuple a its.toArray from p) ?_
    refine ⟨s1.heap.objs.size, [s1.heap.objs.size], _, _, H1, rfl, I1.kept (t' := s1.toks) fun b o e => Heap.get?_push_of_some _ e, turn_tuple a _, ⟨_, Heap.get?_push_size _ rfl, rfl, rfl⟩, fun b hb => ?_, q⟩
    have e : b = s1.heap.objs.size := by simpa using hb
    subst e
    exact I1.fpOk (Nat.le_refl _) (I1.hok.fresh (Nat.le_refl _))
end
end L2
/-! list(d.values()) -/
namespace LvV
open PySem PySem.Spec PyProof.Rows L2
def tListVals (te : TE) : TE := fun σ H Q => te σ H fun x H1 => ∃ d kvs, x = V.ref d ∧ H1 d = some (.dK kvs) ∧ ∀ p, H1 p = none → Q (.ref p) (upd H1 p (.lst (kvs.map (·.2))))
section
variable {X : Cx} {e : Expr} {te : TE} {p apos cpos pos : Pos}
theorem kv_at {kvs : List (L2.Key × V)} {vs : List (L2.Key × Value)} (h : KV kvs vs) : ∀ (j : Nat) (k : L2.Key) (u : Value), vs[j]? = some (k, u) → ∃ x, (kvs.map (·.2))[j]? = some x ∧ RelV x u := by
  induction h with
  | nil => intro j k u z; cases z
  | @cons a b as bs r t ih =>
    intro j k u z
    cases j with
    | zero =>
      have z' := Option.some.inj z
      subst z'
      exact ⟨_, rfl, r.2⟩
    | succ j => exact ih j k u z
theorem pe_listValues (hc : X.calm = true) (he : PE X e te) (hg : Gl X "list") (hm : X.mg "list" = none) (hv : bootBuiltins "list" = some (.type "list") := by first | rfl | decide +kernel) (hbase : attributeBase e "values" X.env (eval e X.env) = eval e X.env := by rfl) (hline : (apos.endLine == cpos.line) = true := by rfl)
    (hs : starEach [.Call (.Attribute e "values" apos) [] [] cpos] X.env = (false, eval (.Call (.Attribute e "values" apos) [] [] cpos) X.env) :: starEach [] X.env := by rfl) :
    PE X (.Call (.Name "list" p) [.Call (.Attribute e "values" apos) [] [] cpos] [] pos) (tListVals te) := by
  refine ⟨fun pins s σ H Q I hq => ?_⟩
  refine wpAny_Call_Name_kw (ld_blt I hg hm hv ?_)
  refine PyProof.Rows.callWith_type1 ?_ hs rfl
  rw [hs]
  show wpAny _ _ (spliced ((false, eval (.Call (.Attribute e "values" apos) [] [] cpos) X.env) :: backTo pos (starEach [] X.env))) _ _ s
  refine Calls.spliced_cons ?_
  refine wpAny_Call_method (T := "dict") (id := "dict.values") hbase rfl hline F.plainAttrs_dict F.slot_dict_values F.type_dict_values (thn (he.run pins s σ H _ I hq) fun u s1 ⟨x, H1, I1, rx, d, kvs, ex, hd, q⟩ => ?_)
  subst ex
  obtain rfl : u = Value.ref d := rx
  obtain ⟨hz, hs0, vs, kv, hdo⟩ := I1.hok d _ hd
  obtain ⟨ep, hat⟩ := hdo.dictAt
  have lk : kvs.length = vs.length := Paired.length kv
  have I2 : Inv X pins σ H1 { s1 with heap := s1.heap.push { cls := .type "dict_values", data := .fields #[.ref d] } } := I1.kept (t' := s1.toks) fun b ob q => Heap.get?_push_of_some _ q
  refine ⟨hdo.typeIs, hdo.mapOf.noDict, ?_⟩
  show wpAny _ _ (callWith cpos (.builtin "dict.values") [.ref d] [] []) _ X.xe s1
  refine method_meetsIn F.slot_dict_values F.entry_dict_values rfl (PySem.evalArgs_none ⟨rfl, hdo.typeIs, F.args_dict_values_1 _, _, meets_dict_values (mixKind X.prog X.w) d hs0, ⟨vs, hdo⟩, ?_⟩)
  refine Calls.spliced_nil ?_
  refine PySem.W.kdl_call (PySem.W.kdl_values (knd := mixKind X.prog X.w) (r := s1.heap.objs.size) (d := d) (kvs := vs) (ep := ep)) (I1.ok.hd hc) ⟨⟨_, Heap.get?_push_size _ rfl, rfl, rfl⟩, hat.push _⟩ (by rw [← lk]; exact hz) fun h' tk acc' c' hkeep hS hacc => ?_
  refine ⟨.ref _, upd H1 _ (.lst (kvs.map (·.2))), I2.laid hkeep (Nat.le_refl _) (show ObjOk X.prog X.w _ _ _ (.lst (kvs.map (·.2))) from ⟨?_, acc'.toList, c', ?_, ?_⟩), rfl, q _ (I2.hok.fresh (Nat.le_refl _))⟩
  · rw [List.length_map]; exact hz
  · have el : acc'.toList.length = acc'.size := by simp
    refine vals_of_at (by rw [List.length_map, el, hacc.1, lk]) fun j x w h1 h2 => ?_
    obtain ⟨k, hk⟩ := hacc.2 j w (by rw [← Array.getElem?_toList]; exact h2)
    obtain ⟨y, e1, e2⟩ := kv_at kv j k w hk
    rw [e1] at h1
    cases h1
    exact e2
  · rw [Array.toArray_toList]; exact hS
end
end LvV
/-! keys that are a whole number, and behind it a whole number or a text (a text behind 3 alone): their order -/
namespace SortV
open PySem PySem.Spec PySem.SeqAt PySem.W PyProof.Rows Srt SrtO L2 Ob
open SortT (ltS ltS_asym ltS_tri ltS_tr arr_inj tup_inj)
abbrev Key := Int × (Int ⊕ Str)
def lt2 : Int ⊕ Str → Int ⊕ Str → Bool
  | .inl a, .inl b => decide (a < b)
  | .inr x, .inr y => ltS x y
  | .inl _, .inr _ => true
  | .inr _, .inl _ => false
def ltK (a b : Key) : Bool := if a.1 = b.1 then lt2 a.2 b.2 else decide (a.1 < b.1)
theorem lt2_asym {x y : Int ⊕ Str} (h : lt2 x y = true) : lt2 y x = false := by
  cases x <;> cases y
  · have := of_decide_eq_true (show decide (_ < _) = true from h)
    exact decide_eq_false (by omega)
  · rfl
  · cases h
  · exact ltS_asym h
theorem lt2_tr {x y z : Int ⊕ Str} (h1 : lt2 y x = false) (h2 : lt2 z y = false) : lt2 z x = false := by
  cases x <;> cases y <;> cases z <;> first | rfl | (cases h1; done) | (cases h2; done) | skip
  · have a := of_decide_eq_false (show decide (_ < _) = false from h1)
    have b := of_decide_eq_false (show decide (_ < _) = false from h2)
    exact decide_eq_false (by omega)
  · exact ltS_tr h1 h2
theorem lt2_tri {x y : Int ⊕ Str} (h1 : lt2 x y = false) (h2 : lt2 y x = false) : x = y := by
  cases x <;> cases y
  · have a := of_decide_eq_false (show decide (_ < _) = false from h1)
    have b := of_decide_eq_false (show decide (_ < _) = false from h2)
    exact congrArg Sum.inl (by omega)
  · cases h1
  · cases h2
  · exact congrArg Sum.inr (ltS_tri h1 h2)
theorem lt2_self (x : Int ⊕ Str) : lt2 x x = false := by
  cases h : lt2 x x with
  | false => rfl
  | true => exact h.symm.trans (lt2_asym h)
theorem swoK : Swo ltK := by
  refine ⟨fun a b h => ?_, fun a b c h1 h2 => ?_⟩
  · unfold ltK at h ⊢
    by_cases e : a.1 = b.1
    · rw [if_pos e] at h
      rw [if_pos e.symm]
      exact lt2_asym h
    · rw [if_neg e] at h
      rw [if_neg fun z => e z.symm]
      have := of_decide_eq_true h
      exact decide_eq_false (by omega)
  · unfold ltK at h1 h2 ⊢
    by_cases e1 : b.1 = a.1
    · rw [if_pos e1] at h1
      by_cases e2 : c.1 = b.1
      · rw [if_pos e2] at h2
        rw [if_pos (e2.trans e1)]
        exact lt2_tr h1 h2
      · rw [if_neg e2] at h2
        rw [if_neg (by rw [← e1]; exact e2), ← e1]
        exact h2
    · rw [if_neg e1] at h1
      have l1 := of_decide_eq_false h1
      by_cases e2 : c.1 = b.1
      · rw [if_neg (by rw [e2]; exact e1), e2]
        exact h1
      · rw [if_neg e2] at h2
        have l2 := of_decide_eq_false h2
        rw [if_neg (by omega)]
        exact decide_eq_false (by omega)
theorem ltK_tri {a b : Key} (h1 : ltK a b = false) (h2 : ltK b a = false) : a = b := by
  unfold ltK at h1 h2
  by_cases e : a.1 = b.1
  · rw [if_pos e] at h1
    rw [if_pos e.symm] at h2
    exact Prod.ext e (lt2_tri h1 h2)
  · rw [if_neg e] at h1
    rw [if_neg fun z => e z.symm] at h2
    have l1 := of_decide_eq_false h1
    have l2 := of_decide_eq_false h2
    exact absurd (by omega) e
/-! the keys in the heap -/
def rel2 : Int ⊕ Str → Value → Prop
  | .inl i, u => ∃ t, u = .int i t
  | .inr x, u => ∃ t, u = .str x t
def Fit (k : Key) : Prop := k.1 = 3 ↔ k.2.isRight = true
def IsK (h : Heap) (u : Value) (k : Key) : Prop := ∃ (t : Addr) (v : Value) (tk : Tok), u = .ref t ∧ h.IsTuple t #[.int k.1 tk, v] ∧ rel2 k.2 v ∧ Fit k
theorem rel2_inj {x y : Int ⊕ Str} {u : Value} (a : rel2 x u) (b : rel2 y u) : x = y := by
  cases x <;> cases y <;> (obtain ⟨t, rfl⟩ := a; obtain ⟨t', e⟩ := b; cases e; try rfl)
theorem isk_inj {h : Heap} {u : Value} {k k' : Key} (x : IsK h u k) (y : IsK h u k') : k = k' := by
  obtain ⟨t, v, tk, rfl, a, b, _⟩ := x
  obtain ⟨t', v', tk', e, a', b', _⟩ := y
  cases e
  have e1 := tup_inj a a'
  have e2 : [Value.int k.1 tk, v] = [Value.int k'.1 tk', v'] := arr_inj e1
  injection e2 with f1 f2
  injection f1 with g1 _
  injection f2 with f3 _
  subst f3
  exact Prod.ext g1 (rel2_inj b b')
open Classical in
noncomputable def dec (h : Heap) (u : Value) : Key := if ex : ∃ k, IsK h u k then ex.choose else (0, .inl 0)
theorem dec_eq {h : Heap} {u : Value} {k : Key} (x : IsK h u k) : dec h u = k := by
  unfold dec
  have ex : ∃ k, IsK h u k := ⟨k, x⟩
  rw [dif_pos ex]
  exact isk_inj ex.choose_spec x
noncomputable def ltv (h : Heap) : Value → Value → Bool := fun u v => ltK (dec h u) (dec h v)
theorem swo_v (h : Heap) : Swo (ltv h) := ⟨fun x y => swoK.asym _ _, fun x y z => swoK.tr _ _ _⟩
section
variable {prog : Program} {w : World} {A : Around} {s : Shared}
theorem cmpK {p q : Value} {k1 k2 : Key} (hp : IsK s.heap p k1) (hq : IsK s.heap q k2) (hu : A.units < cLine) : wpAny (model prog w) A (keyLt' (tuples' true) p q) (fun r s' => s' = s ∧ r = ltK k1 k2) (fun _ _ => False) s := by
  obtain ⟨t, v, tk, rfl, ht, hv, f1⟩ := hp
  obtain ⟨t2, v2, tk2, rfl, ht2, hv2, f2⟩ := hq
  obtain ⟨o, ho, _, n, hd⟩ := ht
  obtain ⟨o2, ho2, _, n2, hd2⟩ := ht2
  refine kat_lt ho hd ho2 hd2 ?_
  show KatLex prog w A true (decide (2 < 2)) _ [(Value.int k1.1 tk, Value.int k2.1 tk2), (v, v2)] 0 s
  refine kat_cons (EqAt.int_int k1.1 tk k2.1 tk2 prog w (fun _ _ => False) _ ?_)
  by_cases e : k1.1 = k2.1
  · rw [show (k1.1 == k2.1) = true by rw [e]; exact beq_self_eq_true _]
    have lk : ltK k1 k2 = lt2 k1.2 k2.2 := by
      unfold ltK
      exact if_pos e
    obtain ⟨a1, a2⟩ := k1
    obtain ⟨b1, b2⟩ := k2
    have same : a2.isRight = b2.isRight := by
      have z : (a2.isRight = true) ↔ (b2.isRight = true) := f1.symm.trans ((by rw [show a1 = b1 from e] : (a1 = 3) ↔ (b1 = 3)).trans f2)
      cases h1 : a2.isRight <;> cases h2 : b2.isRight <;> simp_all
    cases a2 with
    | inl i =>
      cases b2 with
      | inr y => cases same
      | inl j =>
        obtain ⟨u, rfl⟩ := hv
        obtain ⟨u2, rfl⟩ := hv2
        refine kat_yes (kat_cons (EqAt.int_int i u j u2 prog w (fun _ _ => False) _ ?_))
        by_cases e2 : i = j
        · rw [show (i == j) = true by rw [e2]; exact beq_self_eq_true _]
          refine kat_yes (kat_nil ⟨rfl, ?_⟩)
          rw [lk, e2]
          exact (lt2_self _).symm
        · rw [show (i == j) = false from beq_eq_false_iff_ne.mpr e2]
          refine kat_no (oneLt_any_int ⟨rfl, lk.symm⟩)
    | inr x =>
      cases b2 with
      | inl j => cases same
      | inr y =>
        obtain ⟨u, rfl⟩ := hv
        obtain ⟨u2, rfl⟩ := hv2
        refine kat_yes (kat_cons (EqAt.str_str x u y u2 prog w (fun _ _ => False) _ ?_))
        by_cases e2 : x = y
        · rw [show (x == y) = true by rw [e2]; exact beq_self_eq_true _]
          refine kat_yes (kat_nil ⟨rfl, ?_⟩)
          rw [lk, e2]
          exact (lt2_self _).symm
        · rw [show (x == y) = false from beq_eq_false_iff_ne.mpr e2]
          refine kat_no (oneLt_any_str ⟨rfl, lk.symm⟩)
  · rw [show (k1.1 == k2.1) = false from beq_eq_false_iff_ne.mpr e]
    refine kat_no (oneLt_any_int ⟨rfl, ?_⟩)
    unfold ltK
    exact (if_neg e).symm
theorem firsts {h : Heap} : ∀ {keys : List Value}, (∀ u ∈ keys, ∃ k, IsK h u k) → ∃ fs, KatTups h keys fs ∧ (∀ v ∈ fs, ∃ n t, v = Value.int n t) ∧ fs.length = keys.length := by
  intro keys
  induction keys with
  | nil => exact fun _ => ⟨[], KatTups.nil, (fun _ z => nomatch z), rfl⟩
  | cons u keys ih =>
    intro hk
    obtain ⟨k, t, v, tk, rfl, ht, _, _⟩ := hk u List.mem_cons_self
    obtain ⟨fs, a, b, c⟩ := ih fun v hv => hk v (List.mem_cons_of_mem _ hv)
    obtain ⟨o, ho, hc, n, hd⟩ := ht
    refine ⟨.int k.1 tk :: fs, KatTups.cons ho hc hd rfl a, fun v hv => ?_, by rw [List.length_cons, List.length_cons, c]⟩
    rcases List.mem_cons.mp hv with rfl | hv
    · exact ⟨_, _, rfl⟩
    · exact b v hv
theorem kindK {M : Model} {keys : List Value} {Q : SortKind → Shared → Prop} {E : Value → Shared → Prop} (hk : ∀ u ∈ keys, ∃ k, IsK s.heap u k) (ne : 0 < keys.length) (h : Q (tuples' true) s) : wpAny M A (keyKind' keys.toArray) Q E s := by
  obtain ⟨fs, a, b, c⟩ := firsts hk
  refine kat_kind (T := .type "int") a (by rw [c]; exact ne) (fun v hv => ?_) rfl h
  obtain ⟨n, t, rfl⟩ := b v hv
  exact Looks.of_pure rfl
end
end SortV
/-! sorted(xs, key=f): f an own def whose keys are those of SortV -/
namespace SortVH
open PySem PySem.Spec PyProof.Rows SrtO L2 SortK SortV
def key2 : Int ⊕ Str → V
  | .inl i => .int i
  | .inr x => .str x
def IsKey (kv : V) (k : SortV.Key) (H : Hp) : Prop := ∃ t, kv = .ref t ∧ H t = some (.tup [.int k.1, key2 k.2]) ∧ Fit k
theorem IsKey.keep {kv : V} {k : SortV.Key} {H H' : Hp} (h : IsKey kv k H) (s : ∀ b o, H b = some o → (∃ xs, o = .tup xs) → H' b = some o) : IsKey kv k H' := by
  obtain ⟨t, e, h1, f⟩ := h
  exact ⟨t, e, s _ _ h1 ⟨_, rfl⟩, f⟩
/-- exactly this object stands at a -/
def exact_ (a : Addr) (o : Obj) : HO := .ext fun h => h.get? a = some o
theorem exact_ok {P : Program} {w : World} {H : Hp} {h : Heap} {a : Addr} {o : Obj} (e : h.get? a = some o) : ObjOk P w H h a (exact_ a o) := ⟨e, ⟨_, e⟩, fun _ _ x k => k _ x⟩
/-- a list or a tuple of these items -/
def IsSeq (h : Heap) (l : Addr) (vs : Array Value) : Prop := h.IsList l vs ∨ IsTup h l vs
theorem collect_tup {prog : Program} {w : World} {A : Around} {E : Value → Shared → Prop} {s : Shared} {l : Addr} {vs : List Value} {Q : List Value → Shared → Prop} (hl : IsTup s.heap l vs.toArray)
    (h : Q vs { s with heap := (s.heap.push (seqObj "list" #[] 0)).update s.heap.objs.size (Obj.mapSeq (· ++ vs.toArray)) }) (hsz : vs.length ≤ sizeLine) :
    wpAny (model prog w) A (collect (.ref l)) Q E s := by
  obtain ⟨o, ho, hc, n, hd⟩ := id hl
  unfold collect
  refine wpAny_bind (wpAny_runValue (codeAny_builtin entry_proto_collect' ?_))
  refine wpAny_bind (wpAny_newList (wpAny_pure ⟨Code.quiet_builtin _ (by decide +kernel), codeAny_builtin entry_list_iadd' ?_⟩))
  show wpAny _ _ (Builtin.List.listExtendWith (.ref s.heap.objs.size) (.ref l) (.ref s.heap.objs.size)) _ _ { s with heap := s.heap.push (seqObj "list" #[] 0) }
  unfold Builtin.List.listExtendWith
  have ho' : (s.heap.push (seqObj "list" #[] 0)).get? l = some o := Heap.get?_push_of_some _ ho
  refine wpAny_bind (wpAny_typeOf (T := "tuple") ⟨o, ho', hc⟩ ?_)
  have ht : (Value.type "tuple" == Value.type "tuple") = true := by rfl
  rw [if_pos (by rw [ht]; simp)]
  refine wpAny_bind (listItems_at ho' hd ?_)
  refine wpAny_bind (listItems_at (xs := #[]) (n := 0) (Heap.get?_push_size _ rfl) rfl ?_)
  rw [if_neg (by simp)]
  refine wpAny_bind (listUpdate_at (xs := #[]) (n := 0) (Heap.get?_push_size _ rfl) rfl ?_ (Nat.zero_le _) (by show (#[] ++ vs.toArray).size ≤ sizeLine + 1; simp only [Array.size_append, List.size_toArray, List.length_nil]; omega))
  refine wpAny_pure ?_
  refine wpAny_bind (wpAny_load (get?_update_seq (Heap.get?_push_size _ rfl) _) ?_)
  show wpAny _ _ (pure ((#[] : Array Value) ++ vs.toArray).toList) Q E _
  rw [show ((#[] : Array Value) ++ vs.toArray).toList = vs by simp]
  exact wpAny_pure h
/-- sorted(l, key=f), to the head of list.sort: p the new list -/
theorem sorted_headA {prog : Program} {w : World} {A : Around} {E : Value → Shared → Prop} {s : Shared} {vs : List Value} {l q : Addr} {Q : Value → Shared → Prop} (hl : IsSeq s.heap l vs.toArray) (hz : vs.length ≤ sizeLine)
    (h : ∀ (h1 : Heap) (p : Addr), p = s.heap.objs.size + 1 → h1.objs.size = p + 1 → h1.get? p = some (seqObj "list" vs.toArray 0) → (∀ b o, s.heap.get? b = some o → h1.get? b = some o) →
      wpAny (model prog w) A.in1.in1 (Builtin.«list.sort» ⟨[.ref p], [(Str.ofString "key", .ref q)]⟩) (fun r s' => r = .done (.ret .none) ∧ Q (.ref p) s') (fun _ _ => False) { s with heap := h1 }) :
    wpAny (model prog w) A (call (.builtin "sorted") [.ref l] [(Str.ofString "key", .ref q)]) Q E s := by
  rcases hl with hl | hl
  · exact sorted_head hl hz h
  refine call_function_entry_kw kind_sorted plain_sorted entry_sorted (ksk_s1 _ _) ?_
  unfold Builtin.«sorted»
  refine wpAny_bind (m := checkCount "sorted" 1 1 _) (wpAny_pure ?_)
  refine wpAny_bind (collect_tup hl ?_ hz)
  refine wpAny_bind (wpAny_newList ?_ hz)
  have sz : ((s.heap.push (seqObj "list" #[] 0)).update s.heap.objs.size (Obj.mapSeq (· ++ vs.toArray))).objs.size = s.heap.objs.size + 1 := by
    rw [Heap.size_update, size_push']
  have g : (((s.heap.push (seqObj "list" #[] 0)).update s.heap.objs.size (Obj.mapSeq (· ++ vs.toArray))).push (seqObj "list" vs.toArray 0)).get? (s.heap.objs.size + 1) = some (seqObj "list" vs.toArray 0) := by
    rw [← sz]; exact Heap.get?_push_size _ rfl
  have z := h _ _ rfl (by rw [size_push', sz]) g fun b o q => by
    have lt : b < s.heap.objs.size := Heap.lt_size q
    refine Heap.get?_push_of_some _ ?_
    rw [Heap.get?_update_ne _ _ _ _ (Nat.ne_of_lt lt)]
    exact Heap.get?_push_of_some _ q
  show wpAny _ _ _ _ _ { s with heap := ((s.heap.push (seqObj "list" #[] 0)).update s.heap.objs.size (Obj.mapSeq (· ++ vs.toArray))).push (seqObj "list" vs.toArray 0) }
  rw [sz]
  refine wpAny_bind (wpAny_holding (wpAny_call_entry_kw slot_list_sort ⟨_, g, rfl⟩ entry_list_sort ?_ (ksk_l1 _ _)))
  refine wpAny_mono z (fun r s' hr => ?_) fun _ _ x => x.elim
  obtain ⟨rfl, hq⟩ := hr
  exact ⟨_, rfl, wpAny_pure ⟨_, rfl, hq⟩⟩
section
variable {X : Cx} {pins : List (Addr × Obj)} {σ : L2.St} {H : Hp} {s : Shared}
theorem exact_at (I : Inv X pins σ H s) {a : Addr} {o : Obj} (e : H a = some (exact_ a o)) : s.heap.get? a = some o := (I.hok a _ e).1
theorem isk_of (I : Inv X pins σ H s) {kv : V} {u : Value} {k : SortV.Key} (r : RelV kv u) (h : IsKey kv k H) : IsK s.heap u k := by
  obtain ⟨t, rfl, h1, f⟩ := h
  cases r
  obtain ⟨_, its, r1, p1⟩ := I.hok t _ h1
  cases r1 with
  | cons ra r1 =>
    cases r1 with
    | cons rb r1 =>
      cases r1
      obtain ⟨tk, e⟩ := ra
      subst e
      refine ⟨t, _, tk, rfl, p1, ?_, f⟩
      obtain ⟨a, b⟩ := k
      cases b with
      | inl i => exact rb
      | inr x => exact rb
def rSortK (K : PySem.W.Frag) (sp : Sp) (f : Addr) : List V → List V → Hp → VK → Prop := fun vs zs H Q => ∃ (l : Addr) (xs : List V) (g : V → SortV.Key), vs = [V.ref l] ∧ zs = [V.ref f] ∧ (SqL K H l xs ∨ SqT K H l xs) ∧
  (∀ x ∈ xs, ∀ H' : Hp, (∀ b o, H b = some o → H' b = some o) → sp [x] H' (fun kv H'' => (∀ b o, H' b = some o → H'' b = some o) ∧ IsKey kv (g x) H'') E0) ∧
  ∀ (ys : List V) (H' : Hp) (p : Addr), ys.Perm xs → ys.Pairwise (fun a b => ltK (g b) (g a) = false) → (∀ b o, H b = some o → H' b = some o) → H p = none → H' p = some (.lst ys) → Q (.ref p) H'
theorem val_of {xs : List V} {us : List Value} (r : Vals xs us) : ∀ {j : Nat} {v : Value}, us[j]? = some v → ∃ x, xs[j]? = some x ∧ RelV x v := by
  induction xs generalizing us with
  | nil => cases r; intro j v h; cases h
  | cons x xs ih =>
    cases r with
    | cons ra r =>
      intro j v h
      cases j with
      | zero => cases h; exact ⟨x, rfl, ra⟩
      | succ j => exact ih r h
/-- the turns: what stands before turn i -/
def J (X : Cx) (pins : List (Addr × Obj)) (σ : L2.St) (H : Hp) (xs : List V) (g : V → SortV.Key) (p kS : Addr) (e1 : Nat) (i : Nat) (ks : List Value) (st : Shared) : Prop :=
  ∃ (H' : Hp) (kvs : List V) (ek : Nat), Inv X pins σ H' st ∧ (∀ b o, H b = some o → H' b = some o) ∧ H' p = some (exact_ p (seqObj "list" #[] e1)) ∧ H' kS = some (exact_ kS (seqObj "list" ks.toArray ek)) ∧ Vals kvs ks ∧ kvs.length = i ∧
    ∀ (j : Nat) (x kv : V), xs[j]? = some x → kvs[j]? = some kv → IsKey kv (g x) H'
/-- what stands at f is called with one value -/
def KF (X : Cx) (pins : List (Addr × Obj)) (σ : L2.St) (f : Addr) (sp : Sp) : Prop := ∀ (st : Shared) (H' : Hp) (v : Value) (x : V) (Q : VK), Inv X pins σ H' st → RelV x v → sp [x] H' Q E0 → codeAny (model X.prog X.w) X.A.in1.in1 (.call (.ref f) ⟨[v], []⟩) (CR CX0 X.stack X.prog X.w H' st Q E0) st
theorem sortK_of {sp : Sp} {f : Addr} {Q : VK} {vs zs : List V} {us ws : List Value} (F : KF X pins σ f sp) (hu : X.A.in1.in1.units < cLine) (I : Inv X pins σ H s) (rv : Vals vs us) (rz : Vals zs ws) (h : rSortK X.K sp f vs zs H Q) :
    wpAny (model X.prog X.w) X.A (call (.builtin "sorted") us ([Str.ofString "key"].zip ws)) (EP X pins σ Q) X.xe s := by
  obtain ⟨l, xs, g, rfl, rfl, hl, key, q⟩ := h
  obtain ⟨u, rfl, ru⟩ := rv.one
  obtain ⟨f', rfl, rf⟩ := rz.one
  cases ru
  cases rf
  obtain ⟨its, r, pl, zl⟩ : ∃ its : List Value, Vals xs its ∧ IsSeq s.heap l its.toArray ∧ xs.length ≤ sizeLine := by
    rcases hl with hl | hl
    · obtain ⟨its, r, pl, z⟩ := I.list hl
      exact ⟨its, r, .inl pl.isList, z⟩
    · obtain ⟨its, r, pl, z⟩ := I.tuple hl
      exact ⟨its, r, .inr pl, z⟩
  have li := r.length
  have zi : its.length ≤ sizeLine := by rw [← li]; exact zl
  show wpAny _ _ (call (.builtin "sorted") [.ref l] [(Str.ofString "key", .ref f)]) _ _ s
  refine sorted_headA (vs := its) pl zi fun h1 p hp hs g1 k1 => ?_
  refine sort_key (s := { s with heap := h1 }) g1 zi fun e1 ga gk => ?_
  have hp' : @Eq Nat p (s.heap.objs.size + 1) := hp
  have hpn : H p = none := I.hok.fresh (by omega)
  obtain ⟨e1', ho1⟩ : ∃ e1', (h1.update p (Obj.mapSeq fun _ => #[])).get? p = some (seqObj "list" #[] e1') := ⟨_, get?_update_seq g1 (fun _ => #[])⟩
  have ee : e1' = e1 := by
    have z := ga.symm.trans (Heap.get?_push_of_some (seqObj "list" #[] 0) (Heap.get?_push_of_some (seqObj "tuple" its.toArray 0) ho1))
    have z2 := Option.some.inj z
    have z3 : (Data.seq #[] e1 : Data) = Data.seq #[] e1' := congrArg Obj.data z2
    injection z3 with _ z4
    exact z4.symm
  subst ee
  have szu : (h1.update p (Obj.mapSeq fun _ => #[])).objs.size = p + 1 := by rw [Heap.size_update, hs]
  have I1 : Inv X pins σ (upd H p (exact_ p (seqObj "list" #[] e1'))) { s with heap := h1.update p (Obj.mapSeq fun _ => #[]) } :=
    I.laid (t' := s.toks) (fun b o e => (Heap.get?_update_ne _ _ _ _ (fun z => by
      have z' : @Eq Nat b p := z
      have y : @LT.lt Nat _ b s.heap.objs.size := Heap.lt_size e
      omega)).trans (k1 b o e)) (by omega) (exact_ok ho1)
  have hkS : h1.objs.size + 1 = p + 2 := by omega
  have gk' : (begun h1 p its).get? (h1.objs.size + 1) = some (seqObj "list" #[] 0) := gk
  have I2 : Inv X pins σ (upd (upd H p (exact_ p (seqObj "list" #[] e1'))) (h1.objs.size + 1) (exact_ (h1.objs.size + 1) (seqObj "list" #[] 0))) { s with heap := begun h1 p its } :=
    I1.laid (t' := s.toks) (fun b o e => Heap.get?_push_of_some _ (Heap.get?_push_of_some _ e)) (by show (h1.update p _).objs.size ≤ _; omega) (exact_ok gk')
  show wpAny _ _ (ksk_rest p (.ref f) false its.toArray e1' (.ref (h1.objs.size + 1))) _ _ { s with heap := begun h1 p its }
  have hk0 : ∃ kS : Addr, kS = h1.objs.size + 1 := ⟨_, rfl⟩
  obtain ⟨kS, hk0⟩ := hk0
  have hk0' : @Eq Nat kS (h1.objs.size + 1) := hk0
  rw [← hk0] at I2 gk' ⊢
  have nkp : kS ≠ p := fun z => by
    have z' : @Eq Nat kS p := z
    omega
  have hkn : H kS = none := I.hok.fresh (by omega)
  refine key_rest (J X pins σ H xs g p kS e1') ⟨_, [], 0, I2, fun b o e => ?_, by rw [upd_ne nkp.symm, upd_same], upd_same, .nil, rfl, fun j x kv _ z => by cases z⟩ ?_ ?_
  · rw [upd_ne (ne_of_none e hkn), upd_ne (ne_of_none e hpn)]
    exact e
  · rintro i ks st v ⟨H', kvs, ek, I', ex, hpx, hk', rk, lk, isk⟩ hv
    obtain ⟨x, hx, rx⟩ := val_of r hv
    have i0 : i < its.length := (List.getElem?_eq_some_iff.mp hv).1
    have sp' := key x (List.mem_of_getElem? hx) H' ex
    refine wpAny_call (codeAny_mono (F st H' v x (fun kv H'' => (∀ b o, H' b = some o → H'' b = some o) ∧ IsKey kv (g x) H'') I' rx sp') ?_)
    rintro (e | fl) st' hq
    · exact hq.elim
    · cases fl with
      | ret k =>
        obtain ⟨kv, H2, I3, rkv, sm, ik⟩ := I'.after hq
        have hk2 := sm _ _ hk'
        have g2 := exact_at I3 hk2
        obtain ⟨e2, g3⟩ : ∃ e2, (st'.heap.update kS (Obj.mapSeq (·.push k))).get? kS = some (seqObj "list" (ks.toArray.push k) e2) := ⟨_, get?_update_seq g2 (·.push k)⟩
        have lks : ks.length = i := by rw [← rk.length]; exact lk
        refine ⟨ek, g2, by omega, upd H2 kS (exact_ kS (seqObj "list" (ks ++ [k]).toArray e2)), kvs ++ [kv], e2, ?_, fun b o e => ?_, ?_, upd_same, rk.append (.cons rkv .nil), by rw [List.length_append, List.length_singleton, lk], fun j y kw hy hkw => ?_⟩
        · have g4 : (st'.heap.update kS (Obj.mapSeq (·.push k))).get? kS = some (seqObj "list" (ks ++ [k]).toArray e2) := by
            rw [g3]
            simp
          exact I3.write (t' := st'.toks) (x := kS) (e := kS) (by rw [hk2]; exact trivial) (.inl rfl) (fun b o hb e => (Heap.get?_update_ne _ _ _ _ hb).trans e) ⟨_, g4⟩ (exact_ok g4)
        · rw [upd_ne (ne_of_none e hkn)]
          exact sm _ _ (ex _ _ e)
        · rw [upd_ne nkp.symm]
          exact sm _ _ hpx
        · have kk : IsKey kw (g y) H2 := by
            by_cases hj : j < kvs.length
            · rw [List.getElem?_append_left hj] at hkw
              exact (isk j y kw hy hkw).keep fun b o e _ => sm _ _ e
            · have ej : j = i := by
                have := (List.getElem?_eq_some_iff.mp hkw).1
                rw [List.length_append, List.length_singleton] at this
                omega
              subst ej
              rw [List.getElem?_append_right (by omega), lk, Nat.sub_self] at hkw
              cases hkw
              rw [hx] at hy
              cases hy
              exact ik
          refine kk.keep fun b o e tt => ?_
          rw [upd_ne (fun z => ?_)]
          · exact e
          · obtain ⟨ts, rfl⟩ := tt
            rw [z, hk2] at e
            cases e
      | next => exact False.elim hq
      | brk => exact False.elim hq
      | cont => exact False.elim hq
  · rintro ks st ⟨H', kvs, ek, I', ex, hpx, hk', rk, lk, isk⟩
    have gk2 := exact_at I' hk'
    have gp2 := exact_at I' hpx
    have lks : ks.length = its.length := by rw [← rk.length]; exact lk
    refine ⟨⟨_, gk2⟩, ?_⟩
    have keyAt : ∀ (j : Nat) (u : Value), ks[j]? = some u → ∃ x, xs[j]? = some x ∧ IsK st.heap u (g x) := fun j u hj => by
      obtain ⟨kv, h1, h2⟩ := val_of rk hj
      have j1 : j < xs.length := by
        have := (List.getElem?_eq_some_iff.mp hj).1
        omega
      exact ⟨xs[j], List.getElem?_eq_getElem j1, isk_of I' h2 (isk j _ kv (List.getElem?_eq_getElem j1) h1)⟩
    have keyIn : ∀ u ∈ ks, ∃ k, IsK st.heap u k := fun u hu => by
      obtain ⟨j, hj, e⟩ := List.getElem_of_mem hu
      obtain ⟨x, _, h⟩ := keyAt j u (by rw [List.getElem?_eq_getElem hj, e])
      exact ⟨_, h⟩
    refine key_end (κ := tuples' true) (swo_v st.heap) gk2 gp2 nkp (by rw [List.size_toArray]; exact lks) zi (fun h2 Q E h => kindK keyIn (by omega) h) ?_ ?_
    · intro a b ha hb
      have ha' : a.1 ∈ ks := by simpa using ha
      have hb' : b.1 ∈ ks := by simpa using hb
      obtain ⟨k1, h1⟩ := keyIn _ ha'
      obtain ⟨k2, h2⟩ := keyIn _ hb'
      refine wpAny_mono (cmpK h1 h2 hu) (fun c s' hc => ?_) fun _ _ x => x
      refine ⟨hc.1, hc.2.trans ?_⟩
      show _ = ltK (dec st.heap a.1) (dec st.heap b.1)
      rw [dec_eq h1, dec_eq h2]
    · intro ps srt stb
      have pz : ps.Perm (ks.zip its) := by
        have := stb.perm
        rw [Array.toList_zip] at this
        exact this
      have lz : (ks.zip its).length = its.length := by rw [List.length_zip]; omega
      obtain ⟨l', pm, el⟩ := perm_lift (fun z : V × Keyed => z.2) pz (xs.zip (ks.zip its)) (List.map_snd_zip (by omega))
      have mem : ∀ z ∈ xs.zip (ks.zip its), RelV z.1 z.2.2 ∧ dec st.heap z.2.1 = g z.1 := fun z hz => by
        obtain ⟨j, hj, e⟩ := List.getElem_of_mem hz
        have j1 : j < xs.length := by rw [List.length_zip] at hj; omega
        have j2 : j < ks.length := by omega
        have j3 : j < its.length := by omega
        rw [List.getElem_zip, List.getElem_zip] at e
        subst e
        obtain ⟨x, hx, rx⟩ := val_of r (List.getElem?_eq_getElem j3)
        obtain ⟨y, hy, ky⟩ := keyAt j _ (List.getElem?_eq_getElem j2)
        rw [List.getElem?_eq_getElem j1] at hx hy
        cases hx
        cases hy
        exact ⟨rx, dec_eq ky⟩
      have mem' : ∀ z ∈ l', RelV z.1 z.2.2 ∧ dec st.heap z.2.1 = g z.1 := fun z hz => mem z (pm.mem_iff.mp hz)
      have vals : Vals (l'.map (·.1)) (ps.map (·.2)) := by
        rw [← el, List.map_map]
        exact vals_maps (fun z : V × Keyed => z.1) (fun z => z.2.2) l' fun z hz => (mem' z hz).1
      have perm : (l'.map (·.1)).Perm xs := by
        have := pm.map (fun z : V × Keyed => z.1)
        rw [List.map_fst_zip (by omega)] at this
        exact this
      have pw : (l'.map (·.1)).Pairwise (fun a b => ltK (g b) (g a) = false) := by
        rw [← el] at srt
        refine List.pairwise_map.mpr (List.Pairwise.imp_of_mem (fun {a b} ha hb h => ?_) (List.pairwise_map.mp srt))
        have h' : ltK (dec st.heap b.2.1) (dec st.heap a.2.1) = false := h
        rw [(mem' a ha).2, (mem' b hb).2] at h'
        exact h'
      obtain ⟨e3, g3⟩ : ∃ e3, (st.heap.update kS (Obj.mapSeq fun _ => (#[] : Array Value))).get? kS = some (seqObj "list" #[] e3) := ⟨_, get?_update_seq gk2 fun _ => #[]⟩
      have I4 : Inv X pins σ (upd H' kS (exact_ kS (seqObj "list" #[] e3))) { st with heap := st.heap.update kS (Obj.mapSeq fun _ => (#[] : Array Value)) } :=
        I'.write (t' := st.toks) (x := kS) (e := kS) (by rw [hk']; exact trivial) (.inl rfl) (fun b o hb e => (Heap.get?_update_ne _ _ _ _ hb).trans e) ⟨_, g3⟩ (exact_ok g3)
      have gp3 : (st.heap.update kS (Obj.mapSeq fun _ => (#[] : Array Value))).get? p = some (seqObj "list" #[] e1') := (Heap.get?_update_ne _ _ _ _ nkp.symm).trans gp2
      obtain ⟨e4, g4⟩ : ∃ e4, (left st.heap kS p ps).get? p = some (seqObj "list" (ps.map (·.2)).toArray e4) := ⟨_, get?_update_seq gp3 (fun _ => (ps.map (fun z : Keyed => z.2)).toArray)⟩
      have len : (l'.map (·.1)).length ≤ sizeLine := by rw [perm.length_eq]; omega
      have I5 : Inv X pins σ (upd (upd H' kS (exact_ kS (seqObj "list" #[] e3))) p (.lst (l'.map (·.1)))) { st with heap := left st.heap kS p ps } :=
        I4.write (t' := st.toks) (x := p) (e := p) (by rw [upd_ne nkp.symm, hpx]; exact trivial) (.inl rfl) (fun b o hb e => (Heap.get?_update_ne _ _ _ _ hb).trans e) ⟨_, g4⟩ ⟨len, _, e4, vals, g4⟩
      refine ⟨rfl, .ref p, _, I5, rfl, q _ _ p perm pw (fun b o e => ?_) hpn upd_same⟩
      rw [upd_ne (ne_of_none e hpn), upd_ne (ne_of_none e hkn)]
      exact ex _ _ e
theorem cr_sortK {sp : Sp} {f : Addr} {n : Nat} (F : FnR X.prog X.w X.K X.mg X.base CX0 n f sp) (hr : Room n X.A.in1.in1) (hu : X.A.in1.in1.units < cLine) : CallRK X (.builtin "sorted") [Str.ofString "key"] (rSortK X.K sp f) :=
  fun pins s σ H vs zs us ws Q I rv rz h => sortK_of (fun st H' v x Q' I' rx h' => F X.A.in1.in1 X.stack st H' [v] [x] Q' E0 hr I'.env0.in1.in1 (.cons rx .nil) h') hu I rv rz h
end
end SortVH
namespace LB
open PySem PySem.Spec PyProof.Rows L2
/-! ### sets of texts: a bag of keys -/
def nm (e : Int × Value) : Str := match e.2 with
  | .str x _ => x
  | _ => Str.empty
def Ent (w : World) (e : Int × Value) : Prop := ∃ x tk, e = (hashStr w x, Value.str x tk)
structure Tab (w : World) (es : Array (Int × Value)) (t : SetTable) : Prop where
  all : ∀ e ∈ es.toList, Ent w e
  few : es.size < scanBound
  fit : t.fits es.size = true
  ris : Ris t.place.toList
  led : w.params.followText "set-order" = true ∨ t.led = true
/-- at a: a set of the texts ks, no two alike -/
def Bag (w : World) (h : Heap) (a : Addr) (ks : List Str) : Prop :=
  ks.Nodup ∧ ∃ o es ep t, h.get? a = some o ∧ o.ExactSet ∧ o.data = .set es ep t ∧ Tab w es t ∧ es.toList.map nm = ks
section
variable {P : Program} {w : World} {A : Around} {E : Value → Shared → Prop} {s : Shared} {a : Addr}
theorem Bag.at {h h' : Heap} {ks : List Str} (B : Bag w h a ks) (k : ∀ o, h.get? a = some o → h'.get? a = some o) : Bag w h' a ks := by
  obtain ⟨nd, o, es, ep, t, e, r⟩ := B
  exact ⟨nd, o, es, ep, t, k o e, r⟩
theorem Bag.len {h : Heap} {ks : List Str} (B : Bag w h a ks) : ks.length < scanBound := by
  obtain ⟨_, o, es, ep, t, _, _, _, T, e⟩ := B
  rw [← e, List.length_map, Array.length_toList]
  exact T.few
theorem Tab.elems {es : Array (Int × Value)} {t : SetTable} (T : Tab w es t) : ElemsOf (PySem.strKind P w) es.toList := fun e he => by
  obtain ⟨x, tk, rfl⟩ := T.all e he
  exact ⟨⟨x, strKind_is P w x tk, rfl⟩, rfl⟩
theorem ent_is {e : Int × Value} {x : Str} (n : Ent w e) : (PySem.strKind P w).is x e.2 = true ↔ nm e = x := by
  obtain ⟨y, tk, rfl⟩ := n
  constructor
  · intro z
    obtain ⟨t2, q⟩ := Value.isStrOf_shape (x := x) (v := .str y tk) z
    cases q
    rfl
  · intro z
    have z' : y = x := z
    subst z'
    exact strKind_is P w y tk
/-- what is stored, and laid anew where the table is too full -/
theorem put_away {say : Bool → Sem Unit} (quiet : ∀ (b : Bool) (s1 : Shared) (R : Unit → Shared → Prop), R () s1 → wpAny (model P w) A (say b) R E s1) {o : Obj} {es es' : Array (Int × Value)} {ep : Nat} {t t' : SetTable} {old : Bool}
    (at_ : s.heap.get? a = some o) (xo : o.ExactSet) (od : o.data = .set es ep t) (T : Tab w es' t') {Q : Option Bool → Shared → Prop}
    (k : ∀ h', Heap.SameBut a s.heap h' → (∃ o2 es2 ep2 t2, h'.get? a = some o2 ∧ o2.ExactSet ∧ o2.data = .set es2 ep2 t2 ∧ Tab w es2 t2 ∧ es2.toList.Perm es'.toList) → Q (some true) { s with heap := h' }) :
    wpAny (model P w) A (do
      storeSet a es' t'
      if (!old && t'.tooFull) = true then do say (relayAll t' es' (SetTable.grown es'.size)).2.2; storeSet a (relayAll t' es' (SetTable.grown es'.size)).1 (relayAll t' es' (SetTable.grown es'.size)).2.1; pure (some true)
      else pure (some true)) Q E s := by
  have first := store_at (es' := es') (t' := t') at_ od
  have same1 := Heap.SameBut.update s.heap a (Obj.putSet es' t')
  apply wpAny_bind
  apply wpAny_storeSet_of at_ od (hz := fits_of_scanBound T.few)
  by_cases full : (!old && t'.tooFull) = true
  · simp only [full, if_true]
    have pe := relayAll_perm t' es' (SetTable.grown es'.size)
    have fe := relayAll_fits t' es' (SetTable.grown es'.size)
    have re := relayAll_ris t' es' (SetTable.grown es'.size)
    have le := relayAll_led t' es' (SetTable.grown es'.size)
    revert pe fe re le
    generalize relayAll t' es' (SetTable.grown es'.size) = laid
    rcases laid with ⟨es2, t2, gave⟩
    intro pe fe re le
    have sz : es2.size = es'.size := by simpa using pe.length_eq
    have T2 : Tab w es2 t2 := ⟨fun e he => T.all e (pe.mem_iff.mp he), sz ▸ T.few, fe, re, T.led.imp (fun z => z) fun z => le.trans z⟩
    apply wpAny_bind
    apply quiet
    apply wpAny_bind
    apply wpAny_storeSet_of first rfl (hz := fits_of_scanBound T2.few)
    have second := store_at (es' := es2) (t' := t2) first rfl
    exact wpAny_pure (k _ (same1.trans (Heap.SameBut.update _ a _)) ⟨_, es2, _, t2, second, xo, rfl, T2, pe⟩)
  · simp only [full]
    exact wpAny_pure (k _ same1 ⟨_, es', _, t', first, xo, rfl, T, List.Perm.refl _⟩)
theorem bag_add {ks : List Str} {x : Str} {tk : Tok} {Q : Bool → Shared → Prop} (B : Bag w s.heap a ks) (room : ks.length + 1 < scanBound)
    (k : ∀ b h' ks', Heap.SameBut a s.heap h' → Bag w h' a ks' → (∀ y, y ∈ ks' ↔ y = x ∨ y ∈ ks) → ks'.length ≤ ks.length + 1 → Q b { s with heap := h' }) :
    wpAny (model P w) A (setAddHashed a (.str x tk) (hashStr w x)) Q E s := by
  obtain ⟨nd, o, es, ep, t, at_, xo, od, T, names⟩ := B
  have el : ElemsOf (PySem.strKind P w) es.toList := T.elems
  have scans : (Value.str x tk).scannable = true := rfl
  have isx : (PySem.strKind P w).is x (.str x tk) = true := strKind_is P w x tk
  have hh : hashStr w x = (PySem.strKind P w).hash x := rfl
  rw [hh]
  unfold setAddHashed setAddHashedIn
  apply wpAny_holding
  apply wpAny_bind
  apply wpAny_setState_of at_ od T.fit
  simp only [byScan_of scans T.few el, if_true]
  unfold setAddByScan
  apply wpAny_bind
  apply wpAny_bind
  apply wpAny_rule
  apply wpAny_bind
  apply wpAny_setScan_of isx at_ od T.fit el
  cases seek : es.toList.findIdx? (fun e => (PySem.strKind P w).is x e.2) with
  | some j =>
    obtain ⟨lt, hit, _⟩ := List.findIdx?_eq_some_iff_getElem.mp seek
    have inside : x ∈ ks := by
      rw [← names]
      exact List.mem_map.mpr ⟨_, List.getElem_mem lt, (ent_is (P := P) (T.all _ (List.getElem_mem lt))).mp hit⟩
    exact wpAny_pure (wpAny_pure (k _ s.heap ks (Heap.SameBut.refl a s.heap) ⟨nd, o, es, ep, t, at_, xo, od, T, names⟩ (fun y => ⟨.inr, fun z => z.elim (fun e => e ▸ inside) id⟩) (Nat.le_succ _)))
  | none =>
    have out : x ∉ ks := fun z => by
      rw [← names] at z
      obtain ⟨e, he, q⟩ := List.mem_map.mp z
      have no := List.findIdx?_eq_none_iff.mp seek e he
      rw [(ent_is (P := P) (T.all e he)).mpr q] at no
      cases no
    have pe := layNew_perm t es ((PySem.strKind P w).hash x) (.str x tk)
    have fe := layNew_fits t es ((PySem.strKind P w).hash x) (.str x tk)
    have re := layNew_ris t es ((PySem.strKind P w).hash x) (.str x tk) T.ris
    have le := layNew_led t es ((PySem.strKind P w).hash x) (.str x tk)
    revert pe fe re le
    dsimp only
    generalize layNew t es ((PySem.strKind P w).hash x) (.str x tk) = laid
    rcases laid with ⟨es1, t1, old, gave⟩
    intro pe fe re le
    dsimp only at pe fe re le ⊢
    have pc : es1.toList.Perm ((hashStr w x, Value.str x tk) :: es.toList) := by
      rw [Array.toList_push] at pe
      exact pe.trans (List.perm_append_singleton _ _)
    have pn : (es1.toList.map nm).Perm (x :: ks) := by
      have q := pc.map nm
      rw [List.map_cons, names] at q
      exact q
    have sz : es1.size = ks.length + 1 := by
      have q := pn.length_eq
      simpa using q
    have T1 : Tab w es1 t1 := ⟨fun e he => by
      rcases List.mem_cons.mp (pc.mem_iff.mp he) with z | z
      · exact ⟨x, tk, z⟩
      · exact T.all e z, by rw [sz]; exact room, fe, re, T.led.imp (fun z => z) fun z => le.trans z⟩
    have fin : ∀ h', Heap.SameBut a s.heap h' → (∃ o2 es2 ep2 t2, h'.get? a = some o2 ∧ o2.ExactSet ∧ o2.data = .set es2 ep2 t2 ∧ Tab w es2 t2 ∧ es2.toList.Perm es1.toList) → Q true { s with heap := h' } := fun h' sb ⟨o2, es2, ep2, t2, g2, x2, d2, T2, p2⟩ => by
      have p3 : (es2.toList.map nm).Perm (x :: ks) := (p2.map nm).trans pn
      exact k true h' _ sb ⟨p3.nodup_iff.mpr (List.nodup_cons.mpr ⟨out, nd⟩), o2, es2, ep2, t2, g2, x2, d2, T2, rfl⟩ (fun y => by rw [p3.mem_iff, List.mem_cons]) (by rw [p3.length_eq, List.length_cons] <;> exact Nat.le_refl _)
    apply wpAny_bind
    have hush : ∀ (b : Bool) (s1 : Shared) (R : Unit → Shared → Prop), R () s1 → wpAny (model P w) A (match b with | true => rule "set.scan.the-table-gave-way" | false => pure ()) R E s1 := fun b s1 R q => by
      cases b
      · exact wpAny_pure q
      · exact wpAny_rule q
    apply hush
    by_cases pl : t1.plain = true
    · simp only [pl, if_true]
      rw [hashByValue_scannable 8 scans]
      apply wpAny_bind
      apply wpAny_pure
      have T1' : ∀ b : Bool, Tab w es1 (if b = true then t1 else { t1 with plain := false }) := fun b => by
        cases b
        · exact ⟨T1.all, T1.few, SetTable.fits_plain_off fe, re, T1.led⟩
        · exact T1
      refine put_away (say := fun b => match b with | true => rule "set.scan.the-table-gave-way" | false => pure ()) hush at_ xo od (T1' _) fun h' sb z => wpAny_pure (fin h' sb z)
    · simp only [pl]
      apply wpAny_bind
      apply wpAny_pure
      refine put_away (say := fun b => match b with | true => rule "set.scan.the-table-gave-way" | false => pure ()) hush at_ xo od T1 fun h' sb z => wpAny_pure (fin h' sb z)
/-- a walk over texts fills the bag at b -/
theorem bag_fill {I b : Addr} {fp wr : List Addr} {G : Array GenState → Array GenState → Prop} {n : Nat} {Pv : Nat → Value → Prop} {St : Nat → Shared → Prop} {R : Result → Shared → Prop} (W : WalksS P w A.in1 I fp wr G n Pv St) (away : b ∉ fp) (xs : List Str) (len : n = xs.length)
    (room : xs.length + 1 < scanBound) (val : ∀ i v, Pv i v → ∃ x t, xs[i]? = some x ∧ v = .str x t) : ∀ (left i : Nat) (s : Shared) (ks : List Str), n - i = left → i ≤ n → St i s → Bag w s.heap b ks → (∀ y, y ∈ ks ↔ y ∈ xs.take i) → ks.length ≤ i →
      (∀ s' ks', Moved (b :: wr) G s s' → Bag w s'.heap b ks' → (∀ y, y ∈ ks' ↔ y ∈ xs) → ks'.length ≤ xs.length → R (.ok (.ret .none)) s') → codeAny (model P w) A (.builtin "set.update.loop" ⟨[.ref b, .ref I], []⟩) R s := by
  have bw : b ∉ wr := fun z => away (W.sub _ z)
  have more : ∀ c ∈ wr, c ∈ b :: wr := fun _ z => List.mem_cons_of_mem _ z
  intro left
  induction left with
  | zero =>
    intro i s ks e1 e2 st B mem le k
    obtain rfl : i = n := by omega
    apply codeAny_builtin F.entry_set_update_loop
    rw [Around.under_plainId F.plain_set_update_loop _]
    show wpAny _ A.in1 (pyNext (.ref I) >>= _) _ _ s
    apply wpAny_bind
    refine W.done s _ _ st fun s' mv => ?_
    show wpAny _ A.in1 (ret Value.none) _ _ s'
    rw [len, List.take_length] at mem
    exact wpAny_pure (k s' ks (mv.mono more) (B.at fun o z => mv.heap b o bw z) mem (len ▸ le))
  | succ left ih =>
    intro i s ks e1 e2 st B mem le k
    have lt : i < n := by omega
    apply codeAny_builtin F.entry_set_update_loop
    rw [Around.under_plainId F.plain_set_update_loop _]
    show wpAny _ A.in1 (pyNext (.ref I) >>= _) _ _ s
    apply wpAny_bind
    refine W.item i s _ _ lt st fun v s1 pv st1 mv => ?_
    obtain ⟨x, t, at_, rfl⟩ := val i v pv
    show wpAny _ A.in1 (holding [Value.str x t] (setAdd b (.str x t)) >>= _) _ _ s1
    apply wpAny_bind
    apply wpAny_holding
    unfold setAdd
    apply wpAny_holding
    apply wpAny_bind
    refine (PySem.strKind P w).pyHash (k := x) (strKind_is P w x t) ?_
    refine bag_add (s := { s1 with toks := s1.toks + 1 }) (B.at fun o z => mv.heap b o bw z) (by omega) fun added h' ks' sb B' mem' le' => ?_
    have off : ∀ c, c ∉ b :: wr → c ≠ b := fun c z q => z (by rw [q]; exact List.mem_cons_self)
    refine wpAny_pure ⟨plainId_quiet F.plain_set_update_loop _, ih (i + 1) _ ks' (by omega) lt (W.frame _ s1 _ _ st1 (Nat.le_succ _) fun c hc o z => ?_) B' (fun y => ?_) (by omega) fun s2 ks2 mv2 B2 mem2 le2 => ?_⟩
    · rw [sb.2 c (fun q => away (q ▸ hc))]
      exact z
    · rw [mem' y, mem y, List.take_add_one, at_, Option.toList_some, List.mem_append, List.mem_singleton]
      exact Or.comm
    · refine k s2 ks2 (Moved.trans W.gtrans ((mv.mono more).then_heap (Nat.le_succ _) fun c o hc z => ?_) mv2) B2 mem2 le2
      rw [sb.2 c (off c hc)]
      exact z
theorem txt_at {us : List Value} {xs : List Str} (h : StrsAre us xs) : ∀ (i : Nat) (v : Value), us[i]? = some v → ∃ x t, xs[i]? = some x ∧ v = .str x t := by
  induction h with
  | nil => intro i v z; cases z
  | cons x t _ ih =>
    intro i v z
    cases i with
    | zero => cases z; exact ⟨x, t, rfl, rfl⟩
    | succ i => exact ih i v z
abbrev freshSet (w : World) : Obj := { cls := .type "set", dict := none, data := .set #[] 0 (.fresh 0 0 (!w.params.followText "set-order")) }
theorem bag_nil {h : Heap} {b : Addr} (e : h.get? b = some (freshSet w)) : Bag w h b [] := by
  refine ⟨List.nodup_nil, _, #[], 0, _, e, ⟨rfl, rfl, rfl⟩, rfl, ⟨fun _ z => (by simp at z), by decide, rfl, List.Pairwise.nil, ?_⟩, rfl⟩
  show w.params.followText "set-order" = true ∨ (!w.params.followText "set-order") = true
  cases w.params.followText "set-order"
  · exact .inr rfl
  · exact .inl rfl
theorem set_of_tuple {l : Addr} {items : Array Value} (xs : List Str) {Q : Value → Shared → Prop} (calm : A.handled = none) (src : s.heap.IsTuple l items) (are : StrsAre items.toList xs) (room : xs.length + 1 < scanBound)
    (k : ∀ (h' : Heap) (tk : Nat) (ks : List Str), Bag w h' s.heap.objs.size ks → (∀ y, y ∈ ks ↔ y ∈ xs) → ks.length ≤ xs.length → (∀ b o, s.heap.get? b = some o → h'.get? b = some o) → Q (.ref s.heap.objs.size) { s with heap := h', toks := tk }) :
    wpAny (model P w) A (call (.type "set") [.ref l]) Q E s := by
  have size_ : items.size = xs.length := by
    have q := are.length
    simpa using q
  obtain ⟨c, tl, hmro⟩ := F.called_set.mro
  have hmade := F.called_set.made
  have hsub := F.called_set.sub
  apply wpAny_call
  apply codeAny_of_tree
  show wpAny _ _ (callAny (.type "set") _) _ _ _
  refine wpAny_pure ⟨Code.quiet_builtin _ (by decide +kernel), codeAny_builtin F.entry_type_call ?_⟩
  rw [Around.under_plain (weight_type_call_type "set" [.ref l] []) rfl]
  have notType := F.called_set.notType
  have creates := F.called_set.canCreate
  have calls1 := F.typeCall_set_1 (.ref l)
  repeat (any_goals (first | assumption | wp_step))
  refine codeAny_mono (code_set_led1 (.ref l) (E := E) (Q₁ := fun ob s1 => ob = .ref s.heap.objs.size ∧ s1 = { s with heap := s.heap.push (freshSet w) }) ⟨rfl, rfl⟩) fun r s1 hr => ?_
  cases r with
  | error e => exact hr
  | ok fl =>
    cases fl with
    | next => exact hr.elim
    | brk => exact hr.elim
    | cont => exact hr.elim
    | ret ob =>
      obtain ⟨rfl, rfl⟩ := hr
      have made : (s.heap.push (freshSet w)).get? s.heap.objs.size = some (freshSet w) := Heap.get?_push_size _ rfl
      have madeT : Shared.TypeIs { s with heap := s.heap.push (freshSet w) } (.ref s.heap.objs.size) "set" := ⟨_, made, rfl⟩
      have initLook := F.called_set.init.lookup
      have initBind := F.called_set.init.bind (.ref s.heap.objs.size)
      repeat (any_goals (first | assumption | wp_step))
      refine codeAny_mono (codeAny_call_builtin (R := wants (fun r s2 => r = .none ∧ ∃ h' tk ks, s2 = { s with heap := h', toks := tk } ∧ Bag w h' s.heap.objs.size ks ∧ (∀ y, y ∈ ks ↔ y ∈ xs) ∧ ks.length ≤ xs.length ∧ ∀ b o, s.heap.get? b = some o → h'.get? b = some o) E)
        F.called_set.init.plain F.entry_set_init (check_set_init_1 madeT ?_)) fun r2 s2 hr2 => ?_
      · obtain ⟨⟨ocls, odict, odata, oslots⟩, hol, hcl, nl, hdl⟩ := src
        simp only at hcl hdl
        subst hcl
        subst hdl
        have srcAt := Heap.get?_push_of_some (freshSet w) hol
        have src1 : (s.heap.push (freshSet w)).IsTuple l items := ⟨_, srcAt, rfl, nl, rfl⟩
        have hsls := F.sub_tuple_set
        have hslf := F.sub_tuple_frozenset
        have noDict : (Value.type "tuple" == Value.type "dict") = false := by decide
        unfold Builtin.«set.__init__» noKeywords Builtin.Frozenset.updateFrom
        generalize hPI : pyIter = PI
        wp_walk
        subst hPI
        apply wpAny_pyIter_tuple src1
        apply wpAny_bind
        apply wpAny_runValue
        have low : l < s.heap.objs.size := Heap.lt_size hol
        have grown : (s.heap.push (freshSet w)).objs.size = s.heap.objs.size + 1 := Heap.size_push _ _
        have calm3 : A.in1.in1.in1.handled = none := by simp [calm]
        have apart : l ≠ (s.heap.push (freshSet w)).objs.size := by rw [grown]; exact Nat.ne_of_lt (Nat.lt_succ_of_lt low)
        have away : s.heap.objs.size ∉ [(s.heap.push (freshSet w)).objs.size, l] := fun z => by
          rcases List.mem_cons.mp z with z | z
          · rw [grown] at z
            exact absurd z (Nat.ne_of_lt (Nat.lt_succ_self _))
          · exact absurd (List.mem_singleton.mp z).symm (Nat.ne_of_lt low)
        refine bag_fill ((Walks.tuple calm3 _ l apart items).toS) away xs size_ room (fun i v z => txt_at are i v (by rw [Array.getElem?_toList]; exact z)) (items.size - 0) 0 _ [] rfl (Nat.zero_le _)
          ⟨⟨_, Heap.get?_push_size _ rfl, rfl, rfl⟩, src1.push _⟩ (bag_nil (Heap.get?_push_of_some _ made)) (fun y => by simp) (Nat.le_refl 0) fun s3 ks mv B mem le => ?_
        rcases s3 with ⟨h3, g3, d3, tk3, os3⟩
        cases (show g3 = s.gens from mv.gens)
        cases (show d3 = s.drawn from mv.drawn)
        cases (show os3 = s.os from mv.os)
        apply wpAny_pure
        show wpAny _ _ (ret Value.none) _ _ _
        refine wpAny_pure ⟨rfl, h3, tk3, ks, rfl, B, mem, le, fun b o e => mv.heap b o (fun z => ?_) (Heap.get?_push_of_some _ (Heap.get?_push_of_some _ e))⟩
        have lb := Heap.lt_size e
        rcases List.mem_cons.mp z with z | z
        · exact absurd z (Nat.ne_of_lt lb)
        · rw [grown] at z
          exact absurd (List.mem_singleton.mp z) (Nat.ne_of_lt (Nat.lt_succ_of_lt lb))
      · cases r2 with
        | error e => exact hr2
        | ok fl2 =>
          cases fl2 with
          | next => exact hr2.elim
          | brk => exact hr2.elim
          | cont => exact hr2.elim
          | ret r =>
            obtain ⟨rfl, h', tk, ks, rfl, B, mem, le, kp⟩ := hr2
            repeat (any_goals (first | assumption | wp_step))
            exact k _ _ _ B mem le kp
theorem set_of_list {l : Addr} {items : Array Value} (xs : List Str) {Q : Value → Shared → Prop} (calm : A.handled = none) (src : s.heap.IsList l items) (are : StrsAre items.toList xs) (room : xs.length + 1 < scanBound)
    (k : ∀ (h' : Heap) (tk : Nat) (ks : List Str), Bag w h' s.heap.objs.size ks → (∀ y, y ∈ ks ↔ y ∈ xs) → ks.length ≤ xs.length → (∀ b o, s.heap.get? b = some o → h'.get? b = some o) → Q (.ref s.heap.objs.size) { s with heap := h', toks := tk }) :
    wpAny (model P w) A (call (.type "set") [.ref l]) Q E s := by
  have size_ : items.size = xs.length := by
    have q := are.length
    simpa using q
  obtain ⟨c, tl, hmro⟩ := F.called_set.mro
  have hmade := F.called_set.made
  have hsub := F.called_set.sub
  apply wpAny_call
  apply codeAny_of_tree
  show wpAny _ _ (callAny (.type "set") _) _ _ _
  refine wpAny_pure ⟨Code.quiet_builtin _ (by decide +kernel), codeAny_builtin F.entry_type_call ?_⟩
  rw [Around.under_plain (weight_type_call_type "set" [.ref l] []) rfl]
  have notType := F.called_set.notType
  have creates := F.called_set.canCreate
  have calls1 := F.typeCall_set_1 (.ref l)
  repeat (any_goals (first | assumption | wp_step))
  refine codeAny_mono (code_set_led1 (.ref l) (E := E) (Q₁ := fun ob s1 => ob = .ref s.heap.objs.size ∧ s1 = { s with heap := s.heap.push (freshSet w) }) ⟨rfl, rfl⟩) fun r s1 hr => ?_
  cases r with
  | error e => exact hr
  | ok fl =>
    cases fl with
    | next => exact hr.elim
    | brk => exact hr.elim
    | cont => exact hr.elim
    | ret ob =>
      obtain ⟨rfl, rfl⟩ := hr
      have made : (s.heap.push (freshSet w)).get? s.heap.objs.size = some (freshSet w) := Heap.get?_push_size _ rfl
      have madeT : Shared.TypeIs { s with heap := s.heap.push (freshSet w) } (.ref s.heap.objs.size) "set" := ⟨_, made, rfl⟩
      have initLook := F.called_set.init.lookup
      have initBind := F.called_set.init.bind (.ref s.heap.objs.size)
      repeat (any_goals (first | assumption | wp_step))
      refine codeAny_mono (codeAny_call_builtin (R := wants (fun r s2 => r = .none ∧ ∃ h' tk ks, s2 = { s with heap := h', toks := tk } ∧ Bag w h' s.heap.objs.size ks ∧ (∀ y, y ∈ ks ↔ y ∈ xs) ∧ ks.length ≤ xs.length ∧ ∀ b o, s.heap.get? b = some o → h'.get? b = some o) E)
        F.called_set.init.plain F.entry_set_init (check_set_init_1 madeT ?_)) fun r2 s2 hr2 => ?_
      · obtain ⟨⟨ocls, odict, odata, oslots⟩, hol, hcl, nl, hdl⟩ := src
        simp only at hcl hdl
        subst hcl
        subst hdl
        have srcAt := Heap.get?_push_of_some (freshSet w) hol
        have src1 : (s.heap.push (freshSet w)).IsList l items := ⟨_, srcAt, rfl, nl, rfl⟩
        have hsls := F.sub_list_set
        have hslf := F.sub_list_frozenset
        have noDict : (Value.type "list" == Value.type "dict") = false := by decide
        unfold Builtin.«set.__init__» noKeywords Builtin.Frozenset.updateFrom
        generalize hPI : pyIter = PI
        wp_walk
        subst hPI
        apply wpAny_pyIter_list src1
        apply wpAny_bind
        apply wpAny_runValue
        have low : l < s.heap.objs.size := Heap.lt_size hol
        have grown : (s.heap.push (freshSet w)).objs.size = s.heap.objs.size + 1 := Heap.size_push _ _
        have calm3 : A.in1.in1.in1.handled = none := by simp [calm]
        have apart : l ≠ (s.heap.push (freshSet w)).objs.size := by rw [grown]; exact Nat.ne_of_lt (Nat.lt_succ_of_lt low)
        have away : s.heap.objs.size ∉ [(s.heap.push (freshSet w)).objs.size, l] := fun z => by
          rcases List.mem_cons.mp z with z | z
          · rw [grown] at z
            exact absurd z (Nat.ne_of_lt (Nat.lt_succ_self _))
          · exact absurd (List.mem_singleton.mp z).symm (Nat.ne_of_lt low)
        refine bag_fill ((Walks.list calm3 _ l apart items).toS) away xs size_ room (fun i v z => txt_at are i v (by rw [Array.getElem?_toList]; exact z)) (items.size - 0) 0 _ [] rfl (Nat.zero_le _)
          ⟨⟨_, Heap.get?_push_size _ rfl, rfl, rfl⟩, src1.push _⟩ (bag_nil (Heap.get?_push_of_some _ made)) (fun y => by simp) (Nat.le_refl 0) fun s3 ks mv B mem le => ?_
        rcases s3 with ⟨h3, g3, d3, tk3, os3⟩
        cases (show g3 = s.gens from mv.gens)
        cases (show d3 = s.drawn from mv.drawn)
        cases (show os3 = s.os from mv.os)
        apply wpAny_pure
        show wpAny _ _ (ret Value.none) _ _ _
        refine wpAny_pure ⟨rfl, h3, tk3, ks, rfl, B, mem, le, fun b o e => mv.heap b o (fun z => ?_) (Heap.get?_push_of_some _ (Heap.get?_push_of_some _ e))⟩
        have lb := Heap.lt_size e
        rcases List.mem_cons.mp z with z | z
        · exact absurd z (Nat.ne_of_lt lb)
        · rw [grown] at z
          exact absurd (List.mem_singleton.mp z) (Nat.ne_of_lt (Nat.lt_succ_of_lt lb))
      · cases r2 with
        | error e => exact hr2
        | ok fl2 =>
          cases fl2 with
          | next => exact hr2.elim
          | brk => exact hr2.elim
          | cont => exact hr2.elim
          | ret r =>
            obtain ⟨rfl, h', tk, ks, rfl, B, mem, le, kp⟩ := hr2
            repeat (any_goals (first | assumption | wp_step))
            exact k _ _ _ B mem le kp
end
end LB
namespace LB
open PySem PySem.Spec PyProof.Rows L2
section
variable {P : Program} {w : World} {A : Around} {E : Value → Shared → Prop} {s : Shared} {a : Addr}
/-- sorted(a bag), few members -/
theorem sorted_bag {b : Addr} {ks : List Str} {Q : Value → Shared → Prop} (B : Bag w s.heap b ks) (calm : A.handled = none) (few : ks.length < 64)
    (k : ∀ s' p (out : Array Value) (c : Nat) (ys : List Str), (∀ d o, s.heap.get? d = some o → s'.heap.get? d = some o) → s'.gens = s.gens → s'.os = s.os → s.heap.objs.size ≤ p → s'.heap.get? p = some (seqObj "list" out c) → StrsAre out.toList ys → ys.Perm ks → sortedS ys = true → Q (.ref p) s') :
    wpAny (model P w) A (call (.builtin "sorted") [.ref b]) Q E s := by
  obtain ⟨nd, o, es, ep, t, at_, xo, od, T, names⟩ := B
  apply Calls.call_function_entry kind_sorted plain_sorted entry_sorted (args_sorted1 _)
  unfold Builtin.«sorted»
  apply wpAny_bind (m := checkCount "sorted" 1 1 _)
  apply wpAny_pure
  apply wpAny_bind
  refine collect_set (A := A.in1) calm ⟨o, at_, xo.1, od⟩ T.fit T.few T.ris T.led fun s1 vs kp sz g1 o1 pm => ?_
  have tx : ∀ us : List Value, (∀ v ∈ us, ∃ x tk, v = Value.str x tk) → StrsAre us (us.map fun v => nm (0, v)) := fun us => by
    induction us with
    | nil => exact fun _ => .nil
    | cons v us ih =>
      intro z
      obtain ⟨x, tk, rfl⟩ := z v List.mem_cons_self
      exact .cons x tk (ih fun u hu => z u (List.mem_cons_of_mem _ hu))
  have are : StrsAre vs (vs.map fun v => nm (0, v)) := tx vs fun v hv => by
    obtain ⟨e, he, rfl⟩ := List.mem_map.mp (pm.mem_iff.mp hv)
    obtain ⟨x, tk, rfl⟩ := T.all e he
    exact ⟨x, tk, rfl⟩
  have pk : (vs.map fun v => nm (0, v)).Perm ks := by
    have q := pm.map fun v => nm (0, v)
    rw [List.map_map] at q
    exact q.trans (List.Perm.of_eq names)
  have vl : vs.length < 64 := by
    have q := pk.length_eq
    rw [List.length_map] at q
    omega
  apply wpAny_bind
  refine wpAny_newList ?_ (by rw [sizeLine_eq]; omega)
  have laid : (s1.heap.push (seqObj "list" vs.toArray 0)).get? s1.heap.objs.size = some (seqObj "list" vs.toArray 0) := Heap.get?_push_size _ rfl
  apply wpAny_bind
  apply wpAny_holding
  refine wpAny_call_entry slot_list_sort ⟨_, laid, rfl⟩ entry_list_sort ?_ (args_list_sort _)
  refine list_sort_treeK PyProof.Rows.strKind_oneLt laid are.keysOf (fun v1 v2 rest e => keyKind_strs (by rw [← e]; exact are)) vl fun st pt sd => ⟨_, rfl, ?_⟩
  obtain ⟨ys, y1, y2, y3⟩ := sorted_out_str are pt sd
  obtain ⟨c, hc⟩ := sortedHeap_at (vs := vs) (out := (arrOf st).map (·.2)) laid
  refine wpAny_pure ⟨_, rfl, k _ s1.heap.objs.size _ c ys (fun d u e => ?_) g1 o1 sz hc y1 (y2.trans pk) y3⟩
  have was := kp d u e
  have low := Heap.lt_size was
  show (sortedHeap (s1.heap.push (seqObj "list" vs.toArray 0)) s1.heap.objs.size vs _).get? d = some u
  rw [sortedHeap_old (Nat.ne_of_lt low) (by rw [size_push']; exact Nat.lt_succ_of_lt low)]
  exact Heap.get?_push_of_some _ was
end
/-! ### as rules -/
def BagO (w : World) (a : Addr) (ks : List Str) : HO := .ext fun h => Bag w h a ks
section
variable {X : Cx}
theorem bagO_ok {P : Program} {w : World} {H : Hp} {h : Heap} {a : Addr} {ks : List Str} (B : Bag w h a ks) : ObjOk P w H h a (BagO w a ks) := by
  have ⟨_, o, _, _, _, e, _⟩ := B
  exact ⟨B, ⟨o, e⟩, fun _ _ p k => Bag.at p k⟩
/-- set(xs): a tuple or a list of texts -/
def rBag (K : PySem.W.Frag) (w : World) : List V → Hp → VK → Prop := fun vs H Q => ∃ (l : Addr) (xs : List Str), vs = [V.ref l] ∧ (SqT K H l (xs.map V.str) ∨ SqL K H l (xs.map V.str)) ∧ xs.length < 63 ∧
  ∀ (p : Addr) (ks : List Str), H p = none → (∀ y, y ∈ ks ↔ y ∈ xs) → ks.Nodup → ks.length ≤ xs.length → Q (.ref p) (upd H p (BagO w p ks))
theorem cr_bag (hc : X.calm = true) : CallR X (.type "set") (rBag X.K X.w) := by
  intro pins s σ H vs us Q I r h
  obtain ⟨l, xs, rfl, src, few, k⟩ := h
  rw [Vals.ref1 r]
  have room : xs.length + 1 < scanBound := by
    have : scanBound = 4096 := rfl
    omega
  have free : H s.heap.objs.size = none := I.hok.fresh (Nat.le_refl _)
  have fin : ∀ (h' : Heap) (tk : Nat) (ks : List Str), Bag X.w h' s.heap.objs.size ks → (∀ y, y ∈ ks ↔ y ∈ xs) → ks.length ≤ xs.length → (∀ b o, s.heap.get? b = some o → h'.get? b = some o) → EP X pins σ Q (.ref s.heap.objs.size) { s with heap := h', toks := tk } :=
    fun h' tk ks B mem le kp => ⟨.ref _, _, I.laid (t' := tk) kp (Nat.le_refl _) (bagO_ok B), rfl, k _ ks free mem B.1 le⟩
  rcases src with src | src
  · obtain ⟨its, rv, pl, _⟩ := I.tuple src
    exact set_of_tuple xs (I.ok.hd hc) pl (by simpa using rv.strs) room fin
  · obtain ⟨its, rv, pl, _⟩ := I.list src
    exact set_of_list xs (I.ok.hd hc) pl.isList (by simpa using rv.strs) room fin
def rSortBag (w : World) : List V → Hp → VK → Prop := fun vs H Q => ∃ (a : Addr) (ks : List Str), vs = [V.ref a] ∧ H a = some (BagO w a ks) ∧ ks.length < 64 ∧
  ∀ (ys : List Str) (p : Addr), ys.Perm ks → sortedS ys = true → H p = none → Q (.ref p) (upd H p (.lst (ys.map V.str)))
theorem cr_sortBag (hc : X.calm = true) : CallR X (.builtin "sorted") (rSortBag X.w) := by
  intro pins s σ H vs us Q I r h
  obtain ⟨a, ks, rfl, at_, few, k⟩ := h
  have B : Bag X.w s.heap a ks := (I.hok a _ at_).1
  rw [Vals.ref1 r]
  refine sorted_bag B (I.ok.hd hc) few fun s' p out c ys kp g o le hp are pm srt => ?_
  have free : H p = none := I.hok.fresh le
  have lim : (ys.map V.str).length ≤ sizeLine := by rw [List.length_map, pm.length_eq]; exact small64 few
  have J : Inv X pins σ (upd H p (.lst (ys.map V.str))) { s with heap := s'.heap, gens := s'.gens, drawn := s'.drawn, toks := s'.toks } :=
    I.call (ch := []) (Un.laid kp le free) (I.hok.laid kp le ⟨lim, out.toList, c, vals_of_strs are, hp⟩) (by rw [g]; exact I.bare) (fun _ z => nomatch z)
  rcases s' with ⟨h2, g2, d2, t2, o2⟩
  cases (show o2 = s.os from o)
  exact ⟨.ref p, _, J, rfl, k ys p pm srt free⟩
end
end LB
/-! what sorted(set(texts)) is: unique, there -/
namespace SR
open PySem PySem.Spec PyProof.Rows
def Srt (xs ys : List Str) : Prop := ys.Nodup ∧ PyProof.Rows.sortedS ys = true ∧ ∀ y, y ∈ ys ↔ y ∈ xs
abbrev Le (a b : Str) : Prop := ltCps b.cps.toList a.cps.toList = false
theorem le_iff (a b : Str) : Le a b ↔ a.cps.toList ≤ b.cps.toList := by
  show ltCps _ _ = false ↔ _
  rw [ltCps_eq, decide_eq_false_iff_not, List.not_lt]
theorem le_trans {a b c : Str} (h1 : Le a b) (h2 : Le b c) : Le a c := (le_iff a c).mpr (List.le_trans ((le_iff a b).mp h1) ((le_iff b c).mp h2))
theorem le_anti {a b : Str} (h1 : Le a b) (h2 : Le b a) : a = b := by
  have e := List.le_antisymm ((le_iff a b).mp h1) ((le_iff b a).mp h2)
  cases a; cases b
  exact congrArg Str.mk (Array.toList_inj.mp e)
theorem le_total (a b : Str) : Le a b ∨ Le b a := (List.le_total a.cps.toList b.cps.toList).imp (le_iff a b).mpr (le_iff b a).mpr
theorem rising_pw : ∀ (p : Str) (l : List Str), risingS p l = true → (p :: l).Pairwise Le
  | p, [], _ => List.pairwise_singleton _ _
  | p, x :: r, h => by
    have h' : (!ltCps x.cps.toList p.cps.toList && risingS x r) = true := h
    obtain ⟨h1, h2⟩ := Bool.and_eq_true_iff.mp h'
    have px : Le p x := by simpa using h1
    have ih := rising_pw x r h2
    refine List.pairwise_cons.mpr ⟨fun y hy => ?_, ih⟩
    rcases List.mem_cons.mp hy with rfl | hy
    · exact px
    · exact le_trans px (List.rel_of_pairwise_cons ih hy)
theorem sorted_pw : ∀ {l : List Str}, sortedS l = true → l.Pairwise Le
  | [], _ => .nil
  | p :: l, h => rising_pw p l h
theorem unique {xs ys zs : List Str} (a : Srt xs ys) (b : Srt xs zs) : ys = zs :=
  List.Perm.eq_of_pairwise (fun _ _ _ _ h1 h2 => le_anti h1 h2) (sorted_pw a.2.1) (sorted_pw b.2.1) ((List.perm_ext_iff_of_nodup a.1 b.1).mpr fun y => (a.2.2 y).trans (b.2.2 y).symm)
theorem there (xs : List Str) : ∃ ys, Srt xs ys := by
  have sort : ∀ l : List Str, l.Nodup → ∃ ys, Srt l ys := fun l nd => by
    have pm := List.mergeSort_perm l (fun a b => !ltCps b.cps.toList a.cps.toList)
    have pw := List.pairwise_mergeSort (le := fun a b : Str => !ltCps b.cps.toList a.cps.toList) (fun a b c h1 h2 => by
      have := le_trans (a := a) (b := b) (c := c) (by simpa using h1) (by simpa using h2)
      simpa using this) (fun a b => by
      rcases le_total a b with h | h
      · simp [show ltCps b.cps.toList a.cps.toList = false from h]
      · simp [show ltCps a.cps.toList b.cps.toList = false from h]) l
    exact ⟨_, pm.nodup_iff.mpr nd, sortedS_of_pairwise _ (pw.imp fun h => by simpa using h), fun y => pm.mem_iff⟩
  have dd : ∀ l : List Str, ∃ m : List Str, m.Nodup ∧ ∀ y, y ∈ m ↔ y ∈ l := fun l => by
    induction l with
    | nil => exact ⟨[], .nil, fun _ => Iff.rfl⟩
    | cons x r ih =>
      obtain ⟨m, nd, mm⟩ := ih
      by_cases h : x ∈ m
      · refine ⟨m, nd, fun y => (mm y).trans ⟨List.mem_cons_of_mem _, fun z => (List.mem_cons.mp z).elim (fun e => by rw [e]; exact (mm x).mp h) id⟩⟩
      · exact ⟨x :: m, List.nodup_cons.mpr ⟨h, nd⟩, fun y => by rw [List.mem_cons, List.mem_cons, mm]⟩
  obtain ⟨m, nd, mm⟩ := dd xs
  obtain ⟨ys, a, b, c⟩ := sort m nd
  exact ⟨ys, a, b, fun y => (c y).trans (mm y)⟩
theorem self {xs ys : List Str} (a : Srt xs ys) : Srt ys ys := ⟨a.1, a.2.1, fun _ => Iff.rfl⟩
theorem congr {xs zs ys : List Str} (a : Srt xs ys) (h : ∀ y, y ∈ xs ↔ y ∈ zs) : Srt zs ys := ⟨a.1, a.2.1, fun y => (a.2.2 y).trans (h y)⟩
theorem tail {ys : List Str} (a : Srt ys ys) : Srt ys.tail ys.tail := by
  refine ⟨a.1.sublist (List.tail_sublist _), ?_, fun _ => Iff.rfl⟩
  exact sortedS_of_pairwise _ ((sorted_pw a.2.1).sublist (List.tail_sublist _))
theorem len_le {xs ys : List Str} (a : Srt xs ys) : ys.length ≤ xs.length := by
  have h : ∀ (l m : List Str), l.Nodup → (∀ y ∈ l, y ∈ m) → l.length ≤ m.length := fun l => by
    induction l with
    | nil => intro m _ _; exact Nat.zero_le _
    | cons x r ih =>
      intro m nd sub
      have nd' := List.nodup_cons.mp nd
      have hx := sub x List.mem_cons_self
      have := ih (m.erase x) nd'.2 fun y hy => (List.mem_erase_of_ne fun e : y = x => nd'.1 (e ▸ hy)).mpr (sub y (List.mem_cons_of_mem _ hy))
      rw [List.length_erase_of_mem hx] at this
      have pos := List.length_pos_of_mem hx
      rw [List.length_cons]
      omega
  exact h ys xs a.1 fun y hy => (a.2.2 y).mp hy
end SR
/-! what split by one sign gives, over codes -/
namespace SP
open PySem Builtin Builtin.Str StrLaws
abbrev Tx := List Nat
def tx (l : Tx) : Str := ⟨l.toArray⟩
def splA (c : Nat) : Tx → Tx → List Tx
  | acc, [] => [acc]
  | acc, a :: r => if a = c then acc :: splA c [] r else splA c (acc ++ [a]) r
def spots (c : Nat) : Tx → Nat → List Nat
  | [], _ => []
  | a :: r, k => if a = c then k :: spots c r (k + 1) else spots c r (k + 1)
theorem sub_at (l : Tx) (c k : Nat) : subAt (tx l) ⟨#[c]⟩ k = true ↔ l[k]? = some c := by
  rw [subAt_eq]
  show (((l.toArray.toList.drop k).take 1 == [c]) = true) ↔ _
  rw [beq_iff_eq, List.toList_toArray]
  cases h : l.drop k with
  | nil =>
    have e : l[k]? = none := by
      have := List.drop_eq_nil_iff.mp h
      exact List.getElem?_eq_none this
    simp [e]
  | cons a r =>
    have e : l[k]? = some a := by
      have := congrArg List.head? h
      rw [List.head?_drop] at this
      simpa using this
    simp [e]
theorem drop_at {l : Tx} {k : Nat} (h : k < l.length) : l.drop k = l[k] :: l.drop (k + 1) := List.drop_eq_getElem_cons h
theorem occ_from (l : Tx) (c limit : Nat) : ∀ (m k : Nat) (st : Array Nat × Nat), k + m = l.length + 1 → st.snd ≤ k → st.fst.size + m ≤ limit →
    (forIn (List.range' k m) st (occBody (tx l) ⟨#[c]⟩ l.length limit)).run.fst.toList = st.fst.toList ++ spots c (l.drop k) k
  | 0, k, st, hk, _, _ => by
    rw [List.drop_of_length_le (by omega)]
    simp [spots]
  | m + 1, k, st, hk, hs, hl => by
    rw [List.range'_succ, List.forIn_cons]
    unfold occBody
    have one : (⟨#[c]⟩ : Str).length = 1 := rfl
    rw [one]
    by_cases h : k < l.length
    · rw [drop_at h]
      by_cases e : l[k] = c
      · have yes : ((st.fst.size < limit ∧ st.snd ≤ k) ∧ k + 1 ≤ l.length) ∧ subAt (tx l) ⟨#[c]⟩ k = true := ⟨⟨⟨by omega, hs⟩, h⟩, (sub_at l c k).mpr (by rw [List.getElem?_eq_getElem h, e])⟩
        rw [if_pos yes]
        have ih := occ_from l c limit m (k + 1) (st.fst.push k, k + 1) (by omega) (Nat.le_refl _) (by show (st.fst.push k).size + m ≤ limit; rw [Array.size_push]; omega)
        show (forIn (List.range' (k + 1) m) (st.fst.push k, k + 1) (occBody (tx l) ⟨#[c]⟩ l.length limit)).run.fst.toList = _
        rw [ih]
        show (st.fst.push k).toList ++ _ = _
        rw [Array.toList_push]
        have un : spots c (l[k] :: l.drop (k + 1)) k = k :: spots c (l.drop (k + 1)) (k + 1) := if_pos e
        rw [un, List.append_assoc]
        rfl
      · have no : ¬ (((st.fst.size < limit ∧ st.snd ≤ k) ∧ k + 1 ≤ l.length) ∧ subAt (tx l) ⟨#[c]⟩ k = true) := fun z => by
          have q := (sub_at l c k).mp z.2
          rw [List.getElem?_eq_getElem h] at q
          exact e (Option.some.inj q)
        rw [if_neg no]
        have ih := occ_from l c limit m (k + 1) st (by omega) (by omega) (by omega)
        show (forIn (List.range' (k + 1) m) st (occBody (tx l) ⟨#[c]⟩ l.length limit)).run.fst.toList = _
        rw [ih]
        conv => rhs; unfold spots
        rw [if_neg e]
    · have no : ¬ (((st.fst.size < limit ∧ st.snd ≤ k) ∧ k + 1 ≤ l.length) ∧ subAt (tx l) ⟨#[c]⟩ k = true) := fun z => by omega
      rw [if_neg no]
      have ih := occ_from l c limit m (k + 1) st (by omega) (by omega) (by omega)
      show (forIn (List.range' (k + 1) m) st (occBody (tx l) ⟨#[c]⟩ l.length limit)).run.fst.toList = _
      rw [ih, List.drop_of_length_le (show l.length ≤ k by omega), List.drop_of_length_le (show l.length ≤ k + 1 by omega)]
      rfl
theorem occ_is (l : Tx) (c : Nat) : occurrences (tx l) ⟨#[c]⟩ 0 (tx l).length ((tx l).length + 1) = spots c l 0 := by
  rw [occ_eq]
  have e : (tx l).length = l.length := List.size_toArray
  rw [e]
  have h := occ_from l c (l.length + 1) (l.length + 1) 0 (#[], 0) (by omega) (Nat.le_refl _) (by show 0 + _ ≤ _; omega)
  rw [Nat.sub_zero, h]
  simp
theorem sub_is (l : Tx) (a b : Nat) : strSub (tx l) a b = tx ((l.drop a).take (b - a)) := by
  apply Str.ext'
  apply Array.toList_inj.mp
  rw [strSub_toList]
  show _ = ((l.drop a).take (b - a)).toArray.toList
  rw [List.toList_toArray]
  rfl
theorem parts_is (l : Tx) (c : Nat) : ∀ (n a b : Nat), b + n = l.length → a ≤ b → partsFrom (tx l) 1 a (spots c (l.drop b) b) = (splA c ((l.drop a).take (b - a)) (l.drop b)).map tx
  | 0, a, b, hb, hab => by
    rw [List.drop_of_length_le (by omega)]
    show [strSub (tx l) a (tx l).length] = [tx _]
    rw [sub_is]
    have e : (tx l).length = b := by show l.toArray.size = b; rw [List.size_toArray]; omega
    rw [e]
  | n + 1, a, b, hb, hab => by
    have h : b < l.length := by omega
    rw [drop_at h]
    by_cases e : l[b] = c
    · unfold spots splA
      rw [if_pos e, if_pos e]
      show strSub (tx l) a b :: partsFrom (tx l) 1 (b + 1) (spots c (l.drop (b + 1)) (b + 1)) = tx _ :: _
      rw [sub_is, parts_is l c n (b + 1) (b + 1) (by omega) (Nat.le_refl _), Nat.sub_self, List.take_zero]
    · unfold spots splA
      rw [if_neg e, if_neg e]
      rw [parts_is l c n a (b + 1) (by omega) (by omega)]
      congr 2
      rw [show b + 1 - a = (b - a) + 1 by omega, List.take_add_one]
      congr 1
      rw [List.getElem?_drop, show a + (b - a) = b by omega, List.getElem?_eq_getElem h]
      rfl
theorem kind_ge (x : Str) : 1 ≤ PySem.Builtin.Str.strKind x := by
  unfold PySem.Builtin.Str.strKind
  split
  · exact Nat.le_refl _
  · split <;> decide
theorem split_is (l : Tx) {c : Nat} (hc : c < 256) : Txt.split (tx l) ⟨#[c]⟩ = (splA c [] l).map tx := by
  unfold Txt.split
  have k1 : PySem.Builtin.Str.strKind (⟨#[c]⟩ : Str) = 1 := by unfold PySem.Builtin.Str.strKind; simp [hc]
  have one : (⟨#[c]⟩ : Str).length = 1 := rfl
  rw [k1, one, occ_is]
  have kg := kind_ge (tx l)
  rw [decide_eq_false (show ¬ PySem.Builtin.Str.strKind (tx l) < 1 by omega), Bool.or_false]
  have e : (tx l).length = l.length := List.size_toArray
  rw [e]
  cases l with
  | nil => rfl
  | cons a r =>
    rw [if_neg (by simp)]
    have p := parts_is (a :: r) c (a :: r).length 0 0 (by omega) (Nat.le_refl _)
    rw [List.drop_zero, Nat.sub_self, List.take_zero] at p
    split
    · rename_i q
      rw [List.isEmpty_iff.mp q] at p
      rw [← p]
      show [tx (a :: r)] = [strSub (tx (a :: r)) 0 (tx (a :: r)).length]
      rw [sub_is, e]
      simp
    · rw [partsBetween_eq]
      exact p
theorem splA_app (c : Nat) : ∀ (p acc rest : Tx), c ∉ p → splA c acc (p ++ rest) = splA c (acc ++ p) rest
  | [], acc, rest, _ => by rw [List.nil_append, List.append_nil]
  | a :: p, acc, rest, h => by
    have ha : a ≠ c := fun e => h (by rw [e]; exact List.mem_cons_self ..)
    rw [List.cons_append]
    conv => lhs; unfold splA
    rw [if_neg ha, splA_app c p (acc ++ [a]) rest fun z => h (List.mem_cons_of_mem _ z), List.append_assoc]
    rfl
def joinC (c : Nat) : List Tx → Tx
  | [] => []
  | [p] => p
  | p :: q :: r => p ++ c :: joinC c (q :: r)
theorem split_join (c : Nat) : ∀ (ps : List Tx), ps ≠ [] → (∀ p ∈ ps, c ∉ p) → splA c [] (joinC c ps) = ps
  | [], h, _ => absurd rfl h
  | [p], _, h => by
    have e := splA_app c p [] [] (h p (List.mem_cons_self ..))
    rw [List.append_nil, List.nil_append] at e
    exact e
  | p :: q :: r, _, h => by
    show splA c [] (p ++ c :: joinC c (q :: r)) = _
    rw [splA_app c p [] _ (h p (List.mem_cons_self ..)), List.nil_append]
    unfold splA
    rw [if_pos rfl, split_join c (q :: r) (by simp) fun z hz => h z (List.mem_cons_of_mem _ hz)]
theorem splA_mem (c : Nat) : ∀ (l acc : Tx), ∀ p ∈ splA c acc l, (∀ x ∈ p, x ∈ acc ∨ x ∈ l) ∧ p.length ≤ acc.length + l.length
  | [], acc, p, h => by
    rw [List.mem_singleton.mp h]
    exact ⟨fun x hx => .inl hx, Nat.le_add_right _ _⟩
  | a :: l, acc, p, h => by
    unfold splA at h
    by_cases e : a = c
    · rw [if_pos e] at h
      rcases List.mem_cons.mp h with rfl | h
      · exact ⟨fun x hx => .inl hx, Nat.le_add_right _ _⟩
      · obtain ⟨m, n⟩ := splA_mem c l [] p h
        refine ⟨fun x hx => (m x hx).elim (fun z => by cases z) fun z => .inr (List.mem_cons_of_mem _ z), ?_⟩
        rw [List.length_cons]
        rw [List.length_nil] at n
        omega
    · rw [if_neg e] at h
      obtain ⟨m, n⟩ := splA_mem c l (acc ++ [a]) p h
      refine ⟨fun x hx => (m x hx).elim (fun z => (List.mem_append.mp z).elim .inl fun z => .inr (by rw [List.mem_singleton.mp z]; exact List.mem_cons_self ..)) fun z => .inr (List.mem_cons_of_mem _ z), ?_⟩
      rw [List.length_append, List.length_singleton] at n
      rw [List.length_cons]
      omega
theorem splA_len (c : Nat) : ∀ (l acc : Tx), (splA c acc l).length ≤ l.length + 1 ∧ splA c acc l ≠ []
  | [], acc => ⟨Nat.le_refl _, by simp [splA]⟩
  | a :: l, acc => by
    unfold splA
    by_cases e : a = c
    · rw [if_pos e]
      have := (splA_len c l []).1
      rw [List.length_cons, List.length_cons]
      exact ⟨by omega, by simp⟩
    · rw [if_neg e]
      have := splA_len c l (acc ++ [a])
      rw [List.length_cons]
      exact ⟨by omega, this.2⟩
end SP
namespace K15
open PySem L2
abbrev Tx := List Nat
def top (i : Nat) : Stmt := PySem.Challenge.pw_aboveless_k15_labels_and_values_in_order.main.body.getD i (.Pass ⟨0, 0, 0, 0⟩)
def tot (ts : List Tx) : Nat := (ts.map List.length).sum
def asc (l : Tx) : Prop := ∀ c ∈ l, c < 128
abbrev sIsName : Stmt := top 13
abbrev sSortOf : Stmt := top 14
abbrev sIsVal : Stmt := top 15
abbrev sVRank : Stmt := top 16
abbrev sVOrder : Stmt := top 17
abbrev sCheck : Stmt := top 19
abbrev sRank : Stmt := top 20
abbrev sLRank : Stmt := top 21
abbrev sOrder : Stmt := top 22
abbrev sMarksOf : Stmt := top 23
abbrev sRng : Stmt := top 26
abbrev sDraw : Stmt := top 27
abbrev sChoice : Stmt := top 28
abbrev sWord : Stmt := top 29
abbrev sWords : Stmt := top 30
abbrev sMarks : Stmt := top 31
abbrev sValue : Stmt := top 32
abbrev sNoVal : Stmt := top 33
abbrev sNoLab : Stmt := top 34
abbrev sLRnk : Stmt := top 35
abbrev sLabTold : Stmt := top 36
abbrev sValTold : Stmt := top 37
abbrev sSpoilt : Stmt := top 38
abbrev sLabRight : Stmt := top 39
abbrev sValRight : Stmt := top 40
abbrev sRight : Stmt := top 41
abbrev sLaw : Stmt := top 42
/-- a text by its codes -/
def txt (l : Tx) : Str := ⟨l.toArray⟩
abbrev tv (l : Tx) : V := .str (txt l)
theorem txt_len (l : Tx) : (txt l).length = l.length := List.size_toArray
theorem txt_list (l : Tx) : (txt l).cps.toList = l := rfl
theorem txt_of (z : Str) : z = txt z.cps.toList := by cases z with | mk a => cases a; rfl
theorem txt_inj {a b : Tx} (h : txt a = txt b) : a = b := by
  have h2 : (txt a).cps.toList = (txt b).cps.toList := by rw [h]
  exact h2
theorem txt_app (a b : Tx) : txt a ++ txt b = txt (a ++ b) := by
  show (⟨a.toArray ++ b.toArray⟩ : Str) = ⟨(a ++ b).toArray⟩
  simp
/-- the most signs of a text here -/
def big : Nat := 1000000
theorem big_line : big ≤ sizeLine := by decide
theorem same_upd {H : Hp} {p : Addr} {o : HO} (h : H p = none) : Same H (upd H p o) := fun b u e => by
  rw [upd_ne (ne_of_none e h)]
  exact e
/-! ### a text times an int -/
def rep (n : Nat) (l : Tx) : Tx := (List.replicate n l).flatten
theorem rep_len (n : Nat) (l : Tx) : (rep n l).length = n * l.length := by unfold rep; simp
theorem fold_rep (l : Tx) : ∀ (k : Nat) (acc : Tx), List.foldl (fun a b : Array Nat => a ++ b) acc.toArray (List.replicate k l.toArray) = (acc ++ rep k l).toArray
  | 0, acc => by simp [rep]
  | k + 1, acc => by
    have e : acc.toArray ++ l.toArray = (acc ++ l).toArray := by simp
    rw [List.replicate_succ, List.foldl_cons, e, fold_rep l k (acc ++ l)]
    unfold rep
    rw [List.replicate_succ, List.flatten_cons, List.append_assoc]
theorem op_mulS {X : Cx} : OpR X (binaryOp .Mult) (fun x y H Q => ∃ (l : Tx) (n : Nat), x = tv l ∧ y = .int (n : Int) ∧ n ≤ big ∧ l.length * n ≤ big ∧ Q (tv (rep n l)) H) := by
  rintro pins s σ H x y v u Q I rx ry ⟨l, n, rfl, rfl, hn, hl, q⟩
  obtain ⟨t, rfl⟩ := rx
  obtain ⟨t', rfl⟩ := ry
  have hb : big = 1000000 := rfl
  have hsl : sizeLine = 16777216 := sizeLine_eq
  refine PySem.P.mul_str (by rw [decide_eq_false (by omega), decide_eq_false (by omega)]; rfl) (fun h1 _ => ?_) (fun h1 _ => ?_) ?_
  · rw [txt_len]
    have hdiv : (l.length : Int) ≤ (2 ^ 63 - 1) / (n : Int) := by
      rw [Int.le_ediv_iff_mul_le (by omega)]
      have : ((l.length * n : Nat) : Int) ≤ 1000000 := by omega
      rw [Int.natCast_mul] at this
      omega
    omega
  · rw [txt_len, Int.toNat_natCast]
    unfold PySem.Builtin.Str.tooLong
    exact decide_eq_false (by rw [hsl]; omega)
  · have fin : ∀ tk' k, EP X pins σ Q (.str (txt (rep n l)) tk') { s with toks := k } := fun tk' k => ⟨tv (rep n l), H, I.tok k, ⟨tk', rfl⟩, q⟩
    by_cases h1 : (n : Int) < 1
    · rw [if_pos h1]
      have e0 : n = 0 := by omega
      subst e0
      exact ⟨by decide, fin _ _⟩
    · rw [if_neg h1]
      by_cases h2 : (((n : Int) == 1 || (txt l).length == 0) = true)
      · rw [if_pos h2]
        have e : rep n l = l := by
          rcases Bool.or_eq_true_iff.mp h2 with h | h
          · have : n = 1 := by have := beq_iff_eq.mp h; omega
            subst this
            simp [rep]
          · rw [txt_len] at h
            have h0 : l = [] := List.eq_nil_of_length_eq_zero (beq_iff_eq.mp h)
            subst h0
            simp [rep]
        have f := fin t s.toks
        rw [e] at f
        exact f
      · rw [if_neg h2]
        have e : (⟨List.foldl (fun x1 x2 => x1 ++ x2) #[] (List.replicate (n : Int).toNat (txt l).cps)⟩ : Str) = txt (rep n l) := by
          rw [Int.toNat_natCast]
          have q := fold_rep l n []
          rw [List.nil_append] at q
          exact congrArg Str.mk q
        rw [e]
        refine ⟨?_, fin _ _⟩
        rw [txt_len, rep_len, Nat.mul_comm]
        omega
theorem txt_eq (a b : Tx) : (txt a == txt b) = decide (a = b) := by
  by_cases h : a = b
  · subst h; simp
  · rw [decide_eq_false h]
    exact beq_eq_false_iff_ne.mpr fun e => h (txt_inj e)
structure At (K : PySem.W.Frag) (mg : Str → Option Value) (x : Str) (st : Stmt) (ps : List Str) (f : Addr) (fd : FuncData) : Prop where
  F : Fun K x x st f fd
  b : Binds K fd ps []
  m : mg x = some (.ref f)
theorem map_at {ts : List Tx} {i : Nat} {x : V} (h : (ts.map tv)[i]? = some x) : ∃ t, ts[i]? = some t ∧ x = tv t := by
  rw [List.getElem?_map] at h
  cases e : ts[i]? with
  | none => rw [e] at h; cases h
  | some t => rw [e] at h; exact ⟨t, rfl, (Option.some.inj h).symm⟩
theorem asc_app {a b : Tx} (ha : asc a) (hb : asc b) : asc (a ++ b) := fun c hc => (List.mem_append.mp hc).elim (ha c) (hb c)
theorem asc_of {l : Tx} (h : (l.all fun c => decide (c < 128)) = true) : asc l := fun c hc => of_decide_eq_true (List.all_eq_true.mp h c hc)
theorem asc_nil : asc [] := fun _ z => by cases z
theorem asc_rep {l : Tx} (h : asc l) (n : Nat) : asc (rep n l) := fun c hc => by
  obtain ⟨x, hx, hc⟩ := List.mem_flatten.mp hc
  rw [List.eq_of_mem_replicate hx] at hc
  exact h c hc
theorem cutS_any (l : Tx) (lo hi : Option Int) : ∃ l', cutS (txt l) lo hi = txt l' ∧ (asc l → asc l') ∧ l'.length ≤ l.length := by
  refine ⟨(l.drop (HT.sIx (txt l).length 0 lo)).take (HT.sIx (txt l).length (txt l).length hi - HT.sIx (txt l).length 0 lo), rfl, fun h c hc => h c (List.mem_of_mem_drop (List.mem_of_mem_take hc)), ?_⟩
  rw [List.length_take, List.length_drop]
  omega
/-! ### the draws -/
/-- at r: a stock of draws -/
def Rg (H : Hp) (r : Addr) : Prop := ∃ x y : Int, H r = some (.lst [.int x, .int y]) ∧ 0 ≤ x ∧ 0 ≤ y ∧ y ≤ 2147483629
/-- what was tracked stands, but r, which is a stock as before -/
def Kp (r : Addr) (H H' : Hp) : Prop := (∀ b o, b ≠ r → H b = some o → H' b = some o) ∧ (Rg H r → Rg H' r)
theorem Kp.refl (r : Addr) (H : Hp) : Kp r H H := ⟨fun _ _ _ h => h, fun h => h⟩
theorem Kp.trans {r : Addr} {H H1 H2 : Hp} (a : Kp r H H1) (b : Kp r H1 H2) : Kp r H H2 := ⟨fun c o h e => b.1 c o h (a.1 c o h e), fun h => b.2 (a.2 h)⟩
theorem Kp.of_same {r : Addr} {H H' : Hp} (s : Same H H') : Kp r H H' := ⟨fun b o _ e => s b o e, fun ⟨x, y, h, p⟩ => ⟨x, y, s _ _ h, p⟩⟩
theorem Kp.free {r : Addr} {H H' : Hp} (k : Kp r H H') (g : Rg H r) {b : Addr} (h : H' b = none) : H b = none := by
  by_cases e : b = r
  · subst e
    obtain ⟨x, y, q, _⟩ := k.2 g
    rw [q] at h
    cases h
  · cases q : H b with
    | none => rfl
    | some o =>
      rw [k.1 b o e q] at h
      cases h
section
variable {P : Program} {w : World} {K : PySem.W.Frag} {mg : Str → Option Value} {base : Heap}
def spRng (K : PySem.W.Frag) : Sp := fun vs H Q _ => ∃ (a : Addr) (ns : List Int) (k : Nat), vs = [.ref a, .int (k : Int)] ∧ SqL K H a (ns.map V.int) ∧ k ≤ 1000 ∧ ∀ H' p, Same H H' → H p = none → Rg H' p → Q (.ref p) H'
theorem scRn : FnScope ["_law_script", "_law_k", "_law_cell"] ["_law_script", "_law_k"] (defScope sRng) := ⟨rfl, rfl, rfl, by decide +kernel, rfl, by decide +kernel, by decide +kernel⟩
/-- the built-in names that the law leans on -/
structure BEnv (mg : Str → Option Value) : Prop where
  zLen : mg "len" = none
  zAbs : mg "abs" = none
  zMax : mg "max" = none
  zMin : mg "min" = none
  zInt : mg "int" = none
  zDm : mg "divmod" = none
  zRange : mg "range" = none
  zAll : mg "all" = none
theorem ok_rng {f : Addr} {fd : FuncData} (F : Fun K "_law_rng" "_law_rng" sRng f fd) (B : BEnv mg) : FnOk P w K mg base CX0 1 f fd ["_law_script", "_law_k"] (spRng K) := by
  refine F.ok scRn (fun vs H Q E h => ?_) (fun cdv A outer_ s H vs Q E hr h => ?_)
  · obtain ⟨a, ns, k, rfl, _⟩ := h
    rfl
  · obtain ⟨a, ns, k, rfl, hS, hk, kk⟩ := h
    refine ⟨_, pss_cons (ps_set (i := 2) scRn.nd rfl (Or.inl rfl) (pe_ifExp (pt_cmpR op_lt (pv 1) (pe_callB call_len_seq (by rfl) B.zLen PySem.boot_len (pa_cons (pv 0) pa_nil)) (nomark _)) (pe_callB call_abs (by rfl) B.zAbs (by decide +kernel) (pa_cons (pe_ix ix_list (pv 0) (pv 1) (fun _ _ => rfl)) pa_nil)) pe_int))
      (pss_one (ps_ret (pe_lst (pa_cons (pe_callB (call_max2 rfl) (by rfl) B.zMax (by decide +kernel) (pa_cons pe_int (pa_cons (pe_op op_sub (pv 2) (pe_op op_pow pe_int pe_int)) pa_nil)))
        (pa_cons (pe_op op_add (pe_op op_mod (pe_callTy call_int1 (by rfl) B.zInt (by decide +kernel) (pa_cons (pe_op op_pow (pe_op op_add (pe_op op_add (pe_op op_mod (pe_callTy call_int1 (by rfl) B.zInt (by decide +kernel) (pa_cons (pv 2) pa_nil)) pe_int) (pe_op op_mul pe_int (pv 1))) pe_int) pe_int) pa_nil)) pe_int) pe_int) pa_nil))))), ?_⟩
    have rest : ∀ c : Int, 0 ≤ c → 0 ≤ (if c - 10 ^ (18 : Int).toNat > 0 then c - 10 ^ (18 : Int).toNat else 0) ∧ (c % 2147483549 + 4127 * (k : Int) + 29).natAbs < 2 ^ 64 := fun c hc => by
      have h1 := Int.emod_nonneg c (show (2147483549 : Int) ≠ 0 by decide)
      have h2 := Int.emod_lt_of_pos c (show (0 : Int) < 2147483549 by decide)
      refine ⟨by split <;> omega, by omega⟩
    have last : ∀ z : Int, 0 ≤ z % 2147483477 + 1 ∧ z % 2147483477 + 1 ≤ 2147483629 := fun z => by
      have h1 := Int.emod_nonneg z (show (2147483477 : Int) ≠ 0 by decide)
      have h2 := Int.emod_lt_of_pos z (show (0 : Int) < 2147483477 by decide)
      omega
    have cell : ∀ c : Int, 0 ≤ c → (∀ (H' : Hp) (p : Addr), Same H H' → H p = none → Rg H' p → Q (.ref p) H') → True := fun _ _ _ => trivial
    refine ⟨_, rfl, _, rfl, a, _, rfl, .inl hS, _, _, rfl, rfl, _, rfl, ?_⟩
    refine ite2 (fun h1 => ?_) (fun h1 => ?_)
    · have hlt : k < ns.length := by
        have := of_decide_eq_true h1
        rw [List.length_map] at this
        omega
      have hv : (ns.map V.int)[k]? = some (V.int ns[k]) := by rw [List.getElem?_map, List.getElem?_eq_getElem hlt]; rfl
      refine ⟨_, rfl, _, rfl, a, _, _, _, rfl, rfl, hS, atI_nat hv, _, rfl, ?_⟩
      have hc : 0 ≤ (if ns[k] < 0 then -ns[k] else ns[k]) := by split <;> omega
      generalize (if ns[k] < 0 then -ns[k] else ns[k]) = c at hc
      obtain ⟨r1, r2⟩ := rest c hc
      refine ⟨_, rfl, _, _, rfl, rfl, ⟨by decide, by decide, by decide⟩, _, _, rfl, rfl, _, _, rfl, ?_⟩
      refine ⟨_, rfl, .inl ⟨_, rfl, _, _, rfl, rfl, (by show (0 : Int) < 2147483549; decide), _, rfl, _, _, rfl, rfl, .inl ⟨by decide, by decide⟩, _, _, rfl, rfl, _, _, rfl, rfl, _, _, rfl, rfl, ⟨by decide, by decide, r2⟩,
        .inl ⟨_, rfl, _, _, rfl, rfl, (by show (0 : Int) < 2147483477; decide), _, _, rfl, rfl, (by show 2 ≤ sizeLine; decide), fun p hp => kk _ p (same_upd hp) hp ⟨_, _, upd_same, r1, (last _).1, (last _).2⟩⟩⟩⟩
    · have hc : (0 : Int) ≤ 0 := Int.le_refl 0
      obtain ⟨r1, r2⟩ := rest 0 hc
      refine ⟨_, rfl, _, _, rfl, rfl, ⟨by decide, by decide, by decide⟩, _, _, rfl, rfl, _, _, rfl, ?_⟩
      refine ⟨_, rfl, .inl ⟨_, rfl, _, _, rfl, rfl, (by show (0 : Int) < 2147483549; decide), _, rfl, _, _, rfl, rfl, .inl ⟨by decide, by decide⟩, _, _, rfl, rfl, _, _, rfl, rfl, _, _, rfl, rfl, ⟨by decide, by decide, r2⟩,
        .inl ⟨_, rfl, _, _, rfl, rfl, (by show (0 : Int) < 2147483477; decide), _, _, rfl, rfl, (by show 2 ≤ sizeLine; decide), fun p hp => kk _ p (same_upd hp) hp ⟨_, _, upd_same, r1, (last _).1, (last _).2⟩⟩⟩⟩
/-! ### _law_draw -/
def spDraw : Sp := fun vs H Q _ => ∃ (r : Addr) (m : Nat), vs = [.ref r, .int (m : Int)] ∧ Rg H r ∧ 0 < m ∧ m ≤ 1000000000 ∧ ∀ H' (n : Nat), Kp r H H' → n < m → Q (.int (n : Int)) H'
theorem scDr : FnScope ["_law_rng_here", "_law_many", "_law_digit"] ["_law_rng_here", "_law_many"] (defScope sDraw) := ⟨rfl, rfl, rfl, by decide +kernel, rfl, by decide +kernel, by decide +kernel⟩
theorem mod_nat (z : Int) {m : Nat} (h : 0 < m) : ∃ n : Nat, z % (m : Int) = (n : Int) ∧ n < m := by
  have h1 := Int.emod_nonneg z (show (m : Int) ≠ 0 by omega)
  have h2 := Int.emod_lt_of_pos z (show (0 : Int) < m by omega)
  exact ⟨(z % (m : Int)).toNat, by omega, by omega⟩
theorem ixN_0 (n : Nat) : ixN (n + 1) 0 = some 0 := by
  unfold ixN
  rw [if_pos (by decide)]
  simp
theorem ixN_1 (n : Nat) : ixN (n + 2) 1 = some 1 := by
  unfold ixN
  rw [if_pos (by decide)]
  simp
  omega
theorem ok_draw {f : Addr} {fd : FuncData} (F : Fun K "_law_draw" "_law_draw" sDraw f fd) (B : BEnv mg) : FnOk P w K mg base CX0 1 f fd ["_law_rng_here", "_law_many"] spDraw := by
  refine F.ok scDr (fun vs H Q E h => ?_) (fun cdv A outer_ s H vs Q E hr h => ?_)
  · obtain ⟨r, m, rfl, _⟩ := h
    rfl
  · obtain ⟨r, m, rfl, ⟨x, y, hL, hx, hy, hy2⟩, hm, hm2, k⟩ := h
    refine ⟨_, pss_cons (ps_if (pt_cmpR op_gt (pe_ix ix_list (pv 0) pe_int (fun _ _ => rfl)) pe_int (nomark _))
        (pss_cons (ps_asg (pe_callB call_divmod (by rfl) B.zDm (by decide +kernel) (pa_cons (pe_ix ix_list (pv 0) pe_int (fun _ _ => rfl)) (pa_cons (pv 1) pa_nil))) (pg_tup rfl (pgs_cons (pg_sub (pv 0) pe_int set_list) (pgs_cons (pg_name (i := 2) scDr.nd rfl (Or.inl rfl)) pgs_nil))))
        (pss_one (ps_ret (pv 2)))) pss_nil)
      (pss_cons (ps_asg (pe_op op_mod (pe_callTy call_int1 (by rfl) B.zInt (by decide +kernel) (pa_cons (pe_op op_add (pe_op op_mul (pe_ix ix_list (pv 0) pe_int (fun _ _ => rfl)) pe_int) pe_int) pa_nil)) pe_int) (pg_sub (pv 0) pe_int set_list))
      (pss_one (ps_ret (pe_op op_mod (pe_callTy call_int1 (by rfl) B.zInt (by decide +kernel) (pa_cons (pe_op op_fdiv (pe_op op_mod (pe_callTy call_int1 (by rfl) B.zInt (by decide +kernel) (pa_cons (pe_op op_mul (pe_ix ix_list (pv 0) pe_int (fun _ _ => rfl)) (pe_ix ix_list (pv 0) pe_int (fun _ _ => rfl))) pa_nil)) pe_int) pe_int) pa_nil)) (pv 1))))), ?_⟩
    have hb : big = 1000000 := rfl
    refine ⟨_, rfl, r, _, _, _, rfl, rfl, SqL.of hL, atI_nat (j := 0) rfl, _, _, rfl, rfl, _, rfl, ?_⟩
    refine ite2 (fun h1 => ?_) (fun h1 => ?_)
    · obtain ⟨n, en, hn⟩ := mod_nat x hm
      refine ⟨_, rfl, r, _, _, _, rfl, rfl, SqL.of hL, atI_nat (j := 0) rfl, _, rfl, _, _, rfl, ⟨by omega, by omega⟩, fun t ht => ?_⟩
      have nt : r ≠ t := ne_of_none hL ht
      refine ⟨t, _, rfl, SqT.of upd_same, rfl, _, _, rfl, _, rfl, r, [.int x, .int y], _, 0, rfl, rfl, by rw [upd_ne nt]; exact hL, ixN_0 1, ?_⟩
      refine ⟨_, _, rfl, rfl, ?_⟩
      refine ⟨_, rfl, ?_⟩
      rw [en]
      refine k _ n ⟨fun b o hb e => ?_, fun _ => ⟨x / (m : Int), y, upd_same, Int.ediv_nonneg hx (by omega), hy, hy2⟩⟩ hn
      rw [upd_ne hb, upd_ne (ne_of_none e ht)]
      exact e
    · refine ⟨_, rfl, r, _, _, _, rfl, rfl, SqL.of hL, atI_nat (j := 1) rfl, _, _, rfl, rfl, .inr ⟨by decide, by decide⟩, _, _, rfl, rfl, .inl ⟨_, rfl, _, _, rfl, rfl, (by show (0 : Int) < 2147483629; decide), _, rfl, r, [.int x, .int y], _, 1, rfl, rfl, hL, ixN_1 0, ?_⟩⟩
      have e1 := Int.emod_nonneg (y * 39373 + 9973) (show (2147483629 : Int) ≠ 0 by decide)
      have e2 := Int.emod_lt_of_pos (y * 39373 + 9973) (show (0 : Int) < 2147483629 by decide)
      obtain ⟨z, ez⟩ : ∃ z, z = (y * 39373 + 9973) % 2147483629 := ⟨_, rfl⟩
      rw [← ez] at e1 e2
      rw [show ([V.int x, V.int y].set 1 ((fun i j : Int => V.int (i % j)) (y * 39373 + 9973) 2147483629)) = [.int x, .int z] by rw [ez]; rfl]
      have hL2 : (upd H r (.lst [.int x, .int z])) r = some (.lst [.int x, .int z]) := upd_same
      have cm : CMul z z := .inl ⟨by omega, by omega⟩
      obtain ⟨n, en, hn⟩ := mod_nat (z * z % 2147483563 / 13) hm
      refine ⟨_, rfl, r, _, _, _, rfl, rfl, SqL.of hL2, atI_nat (j := 1) rfl, _, rfl, r, _, _, _, rfl, rfl, SqL.of hL2, atI_nat (j := 1) rfl, _, _, rfl, rfl, cm, .inl ⟨_, rfl, _, _, rfl, rfl, (by show (0 : Int) < 2147483563; decide), _, _, rfl, rfl, ⟨by decide, by decide⟩,
        .inl ⟨_, rfl, _, rfl, _, _, rfl, rfl, (by show (0 : Int) < (m : Int); omega), ?_⟩⟩⟩
      show Q (.int (z * z % 2147483563 / 13 % (m : Int))) _
      rw [en]
      refine k _ n ⟨fun b o hb e => ?_, fun _ => ⟨x, z, upd_same, hx, e1, by omega⟩⟩ hn
      rw [upd_ne hb]
      exact e
/-! ### _law_choice -/
def spChoice (K : PySem.W.Frag) : Sp := fun vs H Q _ => ∃ (r : Addr) (o : V), vs = [.ref r, o] ∧ Rg H r ∧
  ((∃ (a : Addr) (xs : List V), o = .ref a ∧ H a = some (.lst xs) ∧ a ≠ r ∧ xs ≠ [] ∧ xs.length ≤ big ∧ ∀ H' x, Kp r H H' → x ∈ xs → Q x H') ∨
   ∃ l : Tx, o = tv l ∧ l ≠ [] ∧ l.length ≤ big ∧ ∀ H' c, Kp r H H' → c ∈ l → Q (tv [c]) H')
theorem scCh : FnScope ["_law_rng_here", "_law_options"] ["_law_rng_here", "_law_options"] (defScope sChoice) := ⟨rfl, rfl, rfl, by decide +kernel, rfl, by decide +kernel, by decide +kernel⟩
theorem ok_choice {f fD : Addr} {fd dD : FuncData} (F : Fun K "_law_choice" "_law_choice" sChoice f fd) (B : BEnv mg) (AD : At K mg "_law_draw" sDraw ["_law_rng_here", "_law_many"] fD dD) : FnOk P w K mg base CX0 2 f fd ["_law_rng_here", "_law_options"] (spChoice K) := by
  have GD : FnOk P w K mg base CX0 1 fD dD ["_law_rng_here", "_law_many"] spDraw := ok_draw AD.F B
  refine F.ok scCh (fun vs H Q E h => ?_) (fun cdv A outer_ s H vs Q E hr h => ?_)
  · obtain ⟨r, o, rfl, _⟩ := h
    rfl
  · obtain ⟨r, o, rfl, g, h⟩ := h
    refine ⟨_, pss_one (ps_ret (pe_ix ix_seq (pv 1) (pe_call GD hr (by rfl) AD.m AD.F.kp AD.b .nil pass0 (pa_cons (pv 0) (pa_cons (pe_callB call_len (by rfl) B.zLen PySem.boot_len (pa_cons (pv 1) pa_nil)) pa_nil))) (fun _ _ => rfl))), ?_⟩
    rcases h with ⟨a, xs, rfl, hL, hne, hx, hlen, k⟩ | ⟨l, rfl, hl0, hlen, k⟩
    · have hpos : 0 < xs.length := List.length_pos_iff.mpr hx
      refine ⟨_, rfl, _, rfl, _, rfl, _, xs.length, rfl, .inl ⟨_, SqL.of hL, rfl⟩, r, xs.length, rfl, g, hpos, Nat.le_trans hlen (by decide), fun H' n kp hn => ?_⟩
      have hv : xs[n]? = some xs[n] := List.getElem?_eq_getElem hn
      exact .inl ⟨a, _, _, _, rfl, rfl, SqL.of (kp.1 a _ hne hL), atI_nat hv, k H' _ kp (List.getElem_mem hn)⟩
    · have hpos : 0 < l.length := List.length_pos_iff.mpr hl0
      have hline : (txt l).length ≤ sizeLine := by rw [txt_len]; exact Nat.le_trans hlen big_line
      refine ⟨_, rfl, _, rfl, _, rfl, _, l.length, rfl, ⟨hline, (txt_len l).symm⟩, r, l.length, rfl, g, hpos, Nat.le_trans hlen (by decide), fun H' n kp hn => ?_⟩
      have hv : l[n]? = some l[n] := List.getElem?_eq_getElem hn
      exact .inr (.inr ⟨_, _, _, rfl, rfl, hline, atI_nat hv, k H' _ kp (List.getElem_mem hn)⟩)
end
theorem strOk_asc {l : Tx} (h : asc l) : PyData.strOk (txt l) = true := by
  unfold PyData.strOk txt
  rw [List.all_toArray]
  exact List.all_eq_true.mpr fun c hc => decide_eq_true (Nat.lt_trans (h c hc) (by decide))
section
variable {K : PySem.W.Frag} {H : Hp}
theorem dpS : ∀ ts : List Tx, DpAll K H (ts.map tv) (ts.map fun t => PyData.str (txt t))
  | [] => .nil
  | t :: r => .cons (.str _) (dpS r)
end
theorem canS : ∀ ts : List Tx, (∀ t ∈ ts, asc t) → PyData.canLayAll0 (ts.map fun t => PyData.str (txt t)) = true ∧ PyData.depthAll (ts.map fun t => PyData.str (txt t)) = 0
  | [], _ => ⟨rfl, rfl⟩
  | t :: r, h => by
    obtain ⟨h1, h2⟩ := canS r fun u hu => h u (List.mem_cons_of_mem _ hu)
    refine ⟨?_, ?_⟩
    · show (PyData.canLay0 (.str (txt t)) && PyData.canLayAll0 (r.map fun t => PyData.str (txt t))) = true
      rw [h1]
      simp [PyData.canLay0, strOk_asc (h t List.mem_cons_self)]
    · show max (PyData.depth (.str (txt t))) (PyData.depthAll (r.map fun t => PyData.str (txt t))) = 0
      rw [h2]
      simp [PyData.depth]
theorem shS (ts : List Tx) (h : ∀ t ∈ ts, asc t) : SeqAt.shaped (.list (ts.map fun t => PyData.str (txt t))) = true := by
  obtain ⟨h1, h2⟩ := canS ts h
  unfold SeqAt.shaped
  have e1 : PyData.canLay0 (.list (ts.map fun t => PyData.str (txt t))) = true := by rw [PyData.canLay0]; exact h1
  have e2 : PyData.depth (.list (ts.map fun t => PyData.str (txt t))) = 1 := by rw [PyData.depth, h2]
  rw [e1, e2]
  rfl
theorem eqvS : ∀ ts us : List Tx, PyData.eqvAll (ts.map fun t => PyData.str (txt t)) (us.map fun t => PyData.str (txt t)) = decide (ts = us)
  | [], [] => by simp [PyData.eqvAll]
  | [], m :: ms => by simp [PyData.eqvAll]
  | n :: ns, [] => by simp [PyData.eqvAll]
  | n :: ns, m :: ms => by
    have ih := eqvS ns ms
    show PyData.eqvAll (PyData.str (txt n) :: ns.map fun t => PyData.str (txt t)) (PyData.str (txt m) :: ms.map fun t => PyData.str (txt t)) = _
    rw [PyData.eqvAll, ih, PyData.eqv, txt_eq]
    by_cases h : n = m
    · subst h; simp
    · simp [h]
theorem eqvLS (ts us : List Tx) : PyData.eqv (.list (ts.map fun t => PyData.str (txt t))) (.list (us.map fun t => PyData.str (txt t))) = decide (ts = us) := by rw [PyData.eqv]; exact eqvS ts us
end K15
namespace K15
open PySem L2
/-! ### functions that are run where nothing is being shown -/
structure FnG (P : Program) (w : World) (K : PySem.W.Frag) (mg : Str → Option Value) (base : Heap) (k : Nat) (f : Addr) (fd : FuncData) (ps : List Str) (sp : Sp) : Prop where
  len : ∀ vs H Q E, sp vs H Q E → vs.length = ps.length
  run : ∀ (A : Around) (o_ : List Env) (s : Shared) (H : Hp) (gs : Args) (us : List Value) (vs : List V) (Q : VK) (E : XK), A.guards = some [] → Room k A → Env0 P w K mg base A o_ s H → BindsTo s fd gs (ps.zip us) → Vals vs us → sp vs H Q E →
    codeAny (model P w) A (.call (.ref f) gs) (CR CX0 o_ P w H s Q E) s
section
variable {X : Cx} {k : Nat} {f : Addr} {fd : FuncData} {ps : List Str} {sp : Sp} {x : Str} {p pos : Pos} {e : Expr} {es : List Expr} {t : TA}
theorem pe_callG (F : FnG X.prog X.w X.K X.mg X.base k f fd ps sp) (gd : X.A.guards = some []) (hr : Room k X.A) (hg : Gl X x) (hm : X.mg x = some (.ref f)) (hk : PySem.W.keepIn X.K (.ref f) = true) (hb : Binds X.K fd ps []) (ha : PA X (e :: es) t)
    (hdb : (x == ("__debug__" : Str)) = false := by decide) (he : starEach (e :: es) X.env = (false, eval e X.env) :: starEach es X.env := by rfl) (hpl : (backTo pos (starEach es X.env)).any (·.1) = false := by rfl) :
    PE X (.Call (.Name x p) (e :: es) [] pos) (tCall sp [] E0 t) := ⟨by
  intro pins s σ H Q I h
  apply wpAny_Call_Name_kw (ld_glob I hg hm ?_ hdb)
  apply PySem.W.callWith_K (h₀ := X.base) I.ok.mod.kin hk (thn (ha.run pos pins s σ H _ I h) ?_) he hpl
  rintro us s1 ⟨vs, H1, I1, r, q⟩
  refine ⟨I1.kIn, ?_⟩
  have q' : sp vs H1 Q E0 := by
    have z : sp (vs ++ []) H1 Q E0 := q
    rw [List.append_nil] at z
    exact z
  have hl : (us ++ []).length = ps.length := by
    rw [List.append_nil, ← r.length]
    exact F.len _ _ _ _ q'
  have b1 := hb s1 us I1.kIn hl
  rw [List.append_nil] at b1
  apply wpAny_call (codeAny_mono (F.run X.A X.stack s1 H1 ⟨us, []⟩ us vs Q E0 gd hr I1.env0 b1 r q') ?_)
  rintro (e | fl) s2 hq
  · exact hq.elim
  · cases fl <;> first | exact I1.after hq | exact False.elim hq⟩
end
section
variable {P : Program} {w : World} {K : PySem.W.Frag} {mg : Str → Option Value} {base : Heap}
theorem okG {x qual : Str} {st : Stmt} {f : Addr} {fd : FuncData} {N ps : List Str} {k : Nat} {sp : Sp} (F : Fun K x qual st f fd) (S : FnScope N ps (defScope st)) (len : ∀ vs H Q E, sp vs H Q E → vs.length = ps.length)
    (body : ∀ (cdv : Value) (A : Around) (o_ : List Env) (s : Shared) (H : Hp) (vs : List V) (Q : VK) (E : XK), A.guards = some [] → Room k (A.deeper (PyProof.Rows.envOfC qual (defScope st) s.heap.objs.size f cdv)) → sp vs H Q E →
      ∃ t, PSs (cxOf CX0 P w K mg base N qual (defScope st) f cdv A o_ s H E).nox (defBody st) t ∧ t { nx := fun _ H' => Q .non H', rt := Q } (start N vs) H) : FnG P w K mg base (k + 1) f fd ps sp := by
  obtain ⟨oc, od, kV, doc, pm, an, cdv, ct, osl, rfl, lk, cok⟩ := F.ex
  refine ⟨len, fun A o_ s H gs us vs Q E gd hr e0 hb r hsp => ?_⟩
  have up : ∀ b o, base.get? b = some o → s.heap.get? b = some o := fun b o q => (e0.bs b o q).1
  have KX : K.In s.heap := e0.mod.kin.keeps up
  have lm : s.heap.NoLimit := e0.mod.nolimit.keeps up
  have kinds : ∀ y ∈ ps.zip us, (defScope st).names.lookup y.1 = some .local ∨ ((defScope st).names.lookup y.1 = some .cell ∧ ((cellsFrom (s.heap.objs.size + 1) (defScope st).names []).lookup y.1).isSome = true) := by
    rintro ⟨n, v⟩ hy
    cases S.par n (List.of_mem_zip hy).1 with
    | inl q => exact .inl q
    | inr q => exact .inr ⟨q, PySem.W.cellsFrom_some _ _ _ (.inl q)⟩
  apply codeAny_call_function hr.depth (KX _ _ lk) rfl S.co S.gen rfl (PySem.W.codeRec_of KX cok) (hb _ _ _ _ ?_)
  apply wpAny_newFunctionEnv_cells S.kind kinds
  rintro env rfl s1 x
  refine ⟨lm.keeps x.toInCall.keep, codeAny_func ?_⟩
  obtain ⟨t, ht, hq⟩ := body cdv A o_ s H vs Q E gd (hr.deeper _) hsp
  have I : Inv (cxOf CX0 P w K mg base N qual (defScope st) f cdv A o_ s H E) [] (start N vs) H s1 := inv_start S hr.hd e0 (len _ _ _ _ hsp) r x
  apply wpAny_mono (ht.nox.run [] s1 (start N vs) H _ I hq)
  · rintro fl s2 hs
    cases fl with
    | ret u =>
      obtain ⟨v, σ2, H2, J, rv, q⟩ := hs
      exact ⟨v, H2, J.os, J.bare, J.base, J.hok, rv, q⟩
    | next =>
      obtain ⟨σ2, H2, J, q⟩ := hs
      exact ⟨V.non, H2, J.os, J.bare, J.base, J.hok, rfl, q⟩
    | brk =>
      obtain ⟨_, _, _, q⟩ := hs
      exact q.elim
    | cont =>
      obtain ⟨_, _, _, q⟩ := hs
      exact q.elim
  · exact fun e s2 z => z
end
/-! ### what a thing is, and how it is shown -/
/-- a thing of the law: its data -/
inductive Th (K : PySem.W.Frag) (H : Hp) : V → PyData → Prop
  | non : Th K H .non .none
  | bl (b : Bool) : Th K H (.bl b) (.bool b)
  | int (i : Int) : Th K H (.int i) (.int i)
  | str (x : Str) : Th K H (.str x) (.str x)
  | lst {a : Addr} {xs : List V} {ds : List PyData} : H a = some (.lst xs) → (∀ H1, DpAll K H1 xs ds) → PyData.hasDictAll ds = false → Th K H (.ref a) (.list ds)
  | tup {a : Addr} {xs : List V} {ds : List PyData} : H a = some (.tup xs) → (∀ H1, DpAll K H1 xs ds) → PyData.hasDictAll ds = false → Th K H (.ref a) (.tuple ds)
  | d0 {a : Addr} : H a = some (.dK []) → Th K H (.ref a) (.dict [])
  | d1 {a : Addr} {x : Str} {i : Int} : H a = some (.dK [(.inr x, .int i)]) → Th K H (.ref a) (.dict [(.str x, .int i)])
theorem Th.keep {K : PySem.W.Frag} {H H' : Hp} {v : V} {d : PyData} (h : Th K H v d) (k : ∀ a o, v = .ref a → H a = some o → H' a = some o) : Th K H' v d := by
  cases h with
  | non => exact .non
  | bl b => exact .bl b
  | int i => exact .int i
  | str x => exact .str x
  | lst e a n => exact .lst (k _ _ rfl e) a n
  | tup e a n => exact .tup (k _ _ rfl e) a n
  | d0 e => exact .d0 (k _ _ rfl e)
  | d1 e => exact .d1 (k _ _ rfl e)
/-- shown in little room -/
def Sho (d : PyData) : Prop := d.showable = true ∧ d.shown.length ≤ 60000 ∧ d.depth ≤ 5
theorem Sho.fits {d : PyData} (h : Sho d) : d.shown.length ≤ sizeLine := Nat.le_trans h.2.1 (by decide)
section
variable {X : Cx} {pins : List (Addr × Obj)} {σ : St} {H : Hp} {s : Shared}
theorem Th.reads (I : Inv X pins σ H s) {v : V} {d : PyData} {u : Value} (h : Th X.K H v d) (r : RelV v u) : ∃ as, Reads s.heap u d as ∧ (d.hasDict = true → sysModules ∉ as) := by
  cases h with
  | non => exact (Dp.reads I _ _ _ .non r).elim fun as q => ⟨as, q, fun z => by cases z⟩
  | bl b => exact (Dp.reads I _ _ _ (.bl b) r).elim fun as q => ⟨as, q, fun z => by cases z⟩
  | int i => exact (Dp.reads I _ _ _ (.int i) r).elim fun as q => ⟨as, q, fun z => by cases z⟩
  | str x => exact (Dp.reads I _ _ _ (.str x) r).elim fun as q => ⟨as, q, fun z => by cases z⟩
  | lst e a n => exact (Dp.reads I _ _ _ (.lst (SqL.of e) (a _)) r).elim fun as q => ⟨as, q, fun z => by rw [PyData.hasDict, n] at z; cases z⟩
  | tup e a n => exact (Dp.reads I _ _ _ (.tup (SqT.of e) (a _)) r).elim fun as q => ⟨as, q, fun z => by rw [PyData.hasDict, n] at z; cases z⟩
  | d0 e =>
    cases r
    obtain ⟨_, low, vs, kv, o, es, ep, ho, ex, hd, _, hp, _⟩ := I.hok _ _ e
    cases kv
    have hz : es.toList = [] := by
      generalize es.toList = l at hp
      cases hp
      rfl
    refine ⟨_, Reads.dict (as := []) (bs := []) ho ex.1 hd (by rw [hz]; exact .nil) (by rw [hz]; exact .nil), fun _ m => ?_⟩
    have := List.mem_singleton.mp m
    rw [this] at low
    simp at low
  | @d1 a0 x0 i0 e =>
    cases r
    obtain ⟨_, low, vs, kv, o, es, ep, ho, ex, hd, _, hp, _⟩ := I.hok _ _ e
    cases kv with
    | cons q1 q2 =>
      cases q2
      obtain ⟨k1, t, k2⟩ := q1
      obtain ⟨e1, z1, z2, hz⟩ : ∃ e1 : DictEntry, keyIs (.inr x0) e1.key = true ∧ e1.val = .int i0 t ∧ es.toList = [e1] := by
        generalize es.toList = l at hp
        cases hp with
        | cons a b c =>
          cases c
          refine ⟨_, ?_, b.trans k2, rfl⟩
          rw [← k1] at a
          exact a
      obtain ⟨x2, t2, y1, y2⟩ : ∃ x2 t2, (Sum.inr x0 : Key) = Sum.inr x2 ∧ e1.key = Value.str x2 t2 := by
        rcases keyIs_shape z1 with ⟨i, t, a, b⟩ | ⟨x, t, a, b⟩
        · cases a
        · exact ⟨x, t, a, b⟩
      cases y1
      refine ⟨_, Reads.dict (as := []) (bs := []) ho ex.1 hd (by rw [hz]; show ReadsAll _ [e1.key] _ _; rw [y2]; exact .cons (.str _ _) .nil) (by rw [hz]; show ReadsAll _ [e1.val] _ _; rw [z2]; exact .cons (.int _ _) .nil), fun _ m => ?_⟩
      have := List.mem_singleton.mp m
      rw [this] at low
      simp at low
/-- repr(x), where nothing is being shown -/
theorem call_reprD (gd : X.A.guards = some []) (un : X.A.units + 200 < cLine) : CallR X (.builtin "repr") (fun xs H Q => ∃ v d, xs = [v] ∧ Th X.K H v d ∧ Sho d ∧ Q (.str d.shown) H) := by
  rintro pins s σ H xs us Q I r ⟨v, d, rfl, th, sh, q⟩
  have s1 := sh.1
  have s2 := sh.fits
  have s3 := sh.2.2
  obtain ⟨u, rfl, ru⟩ := vals1 r
  obtain ⟨as, rd, hm⟩ := Th.reads I th ru
  cases rd with
  | none => exact PySem.P.repr_of_none ⟨.str _, H, I.tok _, ⟨_, rfl⟩, by simpa only [PyData.shown] using q⟩
  | bool b =>
    refine PySem.P.repr_of_bool ⟨.str _, H, I.tok _, ⟨_, rfl⟩, ?_⟩
    simp only [PyData.shown] at q
    cases b <;> exact q
  | int i t =>
    simp only [PyData.shown] at q
    exact PySem.P.repr_of_int (by simpa [PyData.showable] using s1) ⟨.str _, H, I.tok _, ⟨_, rfl⟩, q⟩
  | str x t =>
    simp only [PyData.shown] at q s2
    exact PySem.P.repr_of_str ⟨.str _, H, I.tok _, ⟨_, rfl⟩, q⟩ s2
  | list a b c e => exact repr_of_reads' (Reads.list a b c e) s1 hm gd (by omega) (fun _ _ z => z) (fun h' u tk k => ⟨.str _, H, I.kept k, ⟨_, rfl⟩, q⟩) s2
  | tuple a b c e => exact repr_of_reads' (Reads.tuple a b c e) s1 hm gd (by omega) (fun _ _ z => z) (fun h' u tk k => ⟨.str _, H, I.kept k, ⟨_, rfl⟩, q⟩) s2
  | dict a b c e g => exact repr_of_reads' (Reads.dict a b c e g) s1 hm gd (by omega) (fun _ _ z => z) (fun h' u tk k => ⟨.str _, H, I.kept k, ⟨_, rfl⟩, q⟩) s2
end
end K15
namespace K15
open PySem L2
/-! ### what a thing is to isinstance -/
def vB : V → Bool
  | .bl _ => true
  | _ => false
def vI : V → Bool
  | .bl _ => true
  | .int _ => true
  | _ => false
def vS : V → Bool
  | .str _ => true
  | _ => false
inductive Cl (K : PySem.W.Frag) (H : Hp) : V → Prop
  | non : Cl K H .non
  | bl (b : Bool) : Cl K H (.bl b)
  | int (i : Int) : Cl K H (.int i)
  | str (l : Tx) : l.length ≤ 4000 → Cl K H (tv l)
  | oth {a : Addr} {t : Value} : TyX K H (.ref a) t → PySem.W.kitOne K t (.type "bool") = some false → PySem.W.kitOne K t (.type "int") = some false → PySem.W.kitOne K t (.type "str") = some false → Cl K H (.ref a)
theorem Cl.kit {K : PySem.W.Frag} {H : Hp} {v : V} (h : Cl K H v) : ∃ t, TyX K H v t ∧ PySem.W.kitOne K t (.type "bool") = some (vB v) ∧ PySem.W.kitOne K t (.type "int") = some (vI v) ∧ PySem.W.kitOne K t (.type "str") = some (vS v) := by
  cases h with
  | non => exact ⟨_, .base .non, kit_ty (a := "NoneType") (b := "bool") (r := false) (by decide +kernel), kit_ty (a := "NoneType") (b := "int") (r := false) (by decide +kernel), kit_ty (a := "NoneType") (b := "str") (r := false) (by decide +kernel)⟩
  | bl b => exact ⟨_, .base (.bl b), kit_ty (a := "bool") (b := "bool") (r := true) (by decide +kernel), kit_ty (a := "bool") (b := "int") (r := true) (by decide +kernel), kit_ty (a := "bool") (b := "str") (r := false) (by decide +kernel)⟩
  | int i => exact ⟨_, .base (.int i), kit_ty (a := "int") (b := "bool") (r := false) (by decide +kernel), kit_ty (a := "int") (b := "int") (r := true) (by decide +kernel), kit_ty (a := "int") (b := "str") (r := false) (by decide +kernel)⟩
  | str l _ => exact ⟨_, .base (.str _), kit_ty (a := "str") (b := "bool") (r := false) (by decide +kernel), kit_ty (a := "str") (b := "int") (r := false) (by decide +kernel), kit_ty (a := "str") (b := "str") (r := true) (by decide +kernel)⟩
  | oth t b i s => exact ⟨_, t, b, i, s⟩
theorem Cl.text {K : PySem.W.Frag} {H : Hp} {v : V} (h : Cl K H v) (s : vS v = true) : ∃ l : Tx, v = tv l ∧ l.length ≤ 4000 := by
  cases h with
  | str l e => exact ⟨l, rfl, e⟩
  | _ => cases s
/-! ### names -/
def low (c : Nat) : Bool := decide (97 ≤ c) && decide (c ≤ 122)
def nmC (l : Tx) : Bool := decide (l.length ≤ 8) && (!decide (l = []) && l.all low)
def nameV : V → Bool
  | .str x => nmC x.cps.toList
  | _ => false
def abc : Tx := (Str.ofString "abcdefghijklmnopqrstuvwxyz").cps.toList
theorem abc_is : abc = (List.range 26).map (97 + ·) := by decide +kernel
theorem mem_abc (c : Nat) : decide (c ∈ (Str.ofString "abcdefghijklmnopqrstuvwxyz").cps.toList) = low c := by
  show decide (c ∈ abc) = _
  rw [abc_is]
  unfold low
  by_cases h : 97 ≤ c ∧ c ≤ 122
  · rw [decide_eq_true h.1, decide_eq_true h.2]
    refine decide_eq_true (List.mem_map.mpr ⟨c - 97, List.mem_range.mpr (by omega), by omega⟩)
  · have e : (decide (97 ≤ c) && decide (c ≤ 122)) = false := by
      by_cases a : 97 ≤ c
      · rw [decide_eq_false (show ¬ c ≤ 122 by omega)]; simp
      · rw [decide_eq_false a]; rfl
    rw [e]
    refine decide_eq_false fun z => h ?_
    obtain ⟨k, hk, rfl⟩ := List.mem_map.mp z
    have := List.mem_range.mp hk
    omega
theorem abc_all : abc.all low = true ∧ abc.length = 26 := by decide +kernel
theorem lit_nil : Str.ofString "" = txt [] := by decide +kernel
theorem lit_q : Str.ofString "'" = txt [39] := by decide +kernel
theorem tv_eq (a b : Tx) : decide ((tv a : V) = tv b) = decide (a = b) := by
  by_cases h : a = b
  · subst h; simp
  · rw [decide_eq_false h]
    exact decide_eq_false fun e => h (txt_inj (V.str.inj e))
theorem take_snoc {α : Type} {l : List α} {i : Nat} {x : α} (h : l[i]? = some x) : l.take (i + 1) = l.take i ++ [x] := by
  rw [List.take_succ, h, Option.toList_some]
/-- the built-in names -/
structure Zn (mg : Str → Option Value) : Prop where
  zIs : mg "isinstance" = none
  zBool : mg "bool" = none
  zInt : mg "int" = none
  zStr : mg "str" = none
  zAbs : mg "abs" = none
  zLen : mg "len" = none
  zAll : mg "all" = none
  zRepr : mg "repr" = none
section
variable {P : Program} {w : World} {K : PySem.W.Frag} {mg : Str → Option Value} {base : Heap}
/-- all([.. for a sign in a text]) of low signs -/
theorem all_low (l : Tx) : ((l.map low).take l.length).all id = l.all low := by
  rw [List.take_of_length_le (by rw [List.length_map]; exact Nat.le_refl _), List.all_map]
  rfl
/-! ### is_name -/
def spName (K : PySem.W.Frag) : Sp := fun vs H Q _ => ∃ v : V, vs = [v] ∧ Cl K H v ∧ ∀ H', Same H H' → Q (.bl (nameV v)) H'
theorem scNm : FnScope ["value", "letter"] ["value"] (defScope sIsName) := ⟨rfl, rfl, rfl, by decide +kernel, rfl, by decide +kernel, by decide +kernel⟩
theorem ok_name {f : Addr} {fd : FuncData} {tk t2 : Tok} (F : Fun K "is_name" "is_name" sIsName f fd) (Z : Zn mg) (mM : mg "MOST_LETTERS" = some (.int 8 tk)) (mL : mg "LETTERS" = some (.str "abcdefghijklmnopqrstuvwxyz" t2)) : FnOk P w K mg base CX0 1 f fd ["value"] (spName K) := by
  refine F.ok scNm (fun vs H Q E h => ?_) (fun cdv A outer_ s H vs Q E hr h => ?_)
  · obtain ⟨v, rfl, _⟩ := h
    rfl
  · obtain ⟨v, rfl, cl, k⟩ := h
    refine ⟨_, pss_cons (ps_if (PW.pt (pw_or (pt_not (pt_val (pe_callB call_isi (by rfl) Z.zIs (by decide +kernel) (pa_cons (pv 0) (pa_cons (pe_bltn (v := .ty "str") (u := .type "str") (by rfl) Z.zStr (by decide +kernel) rfl) pa_nil)))))
          (pw_or1 (pt_cmpR op_gt (pe_callB call_len_str (by rfl) Z.zLen PySem.boot_len (pa_cons (pv 0) pa_nil)) (pe_glob (v := .int 8) rfl mM ⟨_, rfl⟩) (nomark _))))) (pss_one (ps_ret pe_bl)) pss_nil)
      (pss_one (ps_ret (pe_and (pe_cmpR op_ne (pv 0) pe_str (nomark _)) (pe_one (pe_callB (cr_all rfl) (by rfl) Z.zAll (by decide +kernel) (pa_cons (pe_lc (own := [("letter", 1)]) (g := gName 1) (tt := tYes) rfl scNm.nd (pi_str (pv 0))
        (blkOk_by (N := ["value", "letter"]) (sc := defScope sIsName) (by decide +kernel)) (fun _ _ _ _ _ => pg_name (i := 1) scNm.nd rfl (Or.inl rfl)) (fun _ _ _ _ _ => pts_nil)
        (fun _ _ _ _ _ => pe_cmpR op_in_sign (pv 1) (pe_glob (v := .str "abcdefghijklmnopqrstuvwxyz") rfl mL ⟨_, rfl⟩) (by rfl))) pa_nil)))))), ?_⟩
    obtain ⟨t, ty, kb, ki, ks⟩ := cl.kit
    refine ⟨_, rfl, v, .ty "str", t, .type "str", vS v, rfl, .ty _, ty, ks, _, rfl, ?_⟩
    by_cases hs : vS v = true
    · obtain ⟨l, rfl, hl⟩ := cl.text hs
      have hline : (txt l).length ≤ sizeLine := by rw [txt_len, sizeLine_eq]; omega
      rw [hs]
      refine ⟨_, rfl, _, rfl, hline, _, _, rfl, rfl, _, rfl, ?_⟩
      rw [txt_len]
      have nm : nameV (tv l) = nmC l := rfl
      refine ite2 (fun h1 => ?_) (fun h1 => ?_)
      · have e : nmC l = false := by
          unfold nmC
          rw [decide_eq_false (show ¬ l.length ≤ 8 by have := of_decide_eq_true h1; omega)]
          rfl
        have z := k H (Same.refl H)
        rw [nm, e] at z
        exact z
      have l8 : l.length ≤ 8 := by
        have : ¬ ((l.length : Int) > 8) := fun z => h1 (decide_eq_true z)
        omega
      rw [lit_nil]
      refine ⟨_, rfl, rfl, _, rfl, ?_⟩
      rw [tv_eq]
      by_cases h2 : l = []
      · subst h2
        exact k H (Same.refl H)
      rw [decide_eq_false h2]
      refine ⟨_, rfl, _, rfl, fun D hD => ?_⟩
      refine lc_it (walk_str (z := txt l)) (fun i H' => Same H H' ∧ H' D = some (.lst (((l.map low).take i).map V.bl))) ⟨same_upd hD, upd_same⟩ (fun _ _ _ _ => trivial) ?_ ?_
      · rintro i x H1 H2 hi ⟨sm, hL⟩ ⟨rfl, c, hc, rfl⟩
        have hc' : l[i]? = some c := by
          have z : l.toArray[i]? = some c := hc
          simpa using z
        refine ⟨rfl, _, rfl, c, _, rfl, rfl, _, hL, ?_, fun b o q => ?_, ?_⟩
        · rw [List.length_map, List.length_take, List.length_map, sizeLine_eq]
          omega
        · rw [upd_ne (ne_of_none q hD)]
          exact sm b o q
        · rw [upd_same, take_snoc (x := low c) (by rw [List.getElem?_map, hc']; rfl), List.map_append, mem_abc]
          rfl
      · rintro H1 ⟨sm, hL⟩
        refine ⟨D, _, rfl, SqL.of hL, ?_⟩
        have e : ((l.map low).take (txt l).cps.size).all id = nmC l := by
          rw [show (txt l).cps.size = l.length from txt_len l, all_low]
          unfold nmC
          rw [decide_eq_true l8, decide_eq_false h2]
          rfl
        rw [e]
        exact k H1 sm
    · have hs' : vS v = false := by simpa using hs
      rw [hs']
      have e : nameV v = false := by cases v <;> first | rfl | cases hs'
      have z := k H (Same.refl H)
      rw [e] at z
      exact z
end
end K15
/-! own exceptions below ArithmeticError, with a walked __init__ -/
namespace AEx
open PySem PySem.Spec PyProof.Rows L2
def aeMro : List Value := ["ArithmeticError", "Exception", "BaseException", "object"].map Value.type
structure AeC (K : PySem.W.Frag) (C : Addr) : Prop where
  made : PySem.W.excInitIn K C aeMro "ArithmeticError.__new__" = true
  over : PySem.W.excOver K C aeMro = true
  dct : PySem.W.hasDictIn K C = true
  setA : PySem.W.findIn K (.ref C) "__setattr__" = some (some (.builtin "object.__setattr__"))
  exc : PySem.W.subIn K (.ref C) (.type "BaseException") = some true
  typ : PySem.W.typeIn K (.ref C) = some (.type "type")
  keep : PySem.W.keepIn K (.ref C) = true
theorem upd_swap {H : Hp} {a b : Addr} {o u v : HO} (h : a ≠ b) : upd (upd (upd H b o) a u) b v = upd (upd H b v) a u := by
  funext c
  by_cases hb : c = b
  · subst hb
    rw [upd_same, upd_ne (Ne.symm h), upd_same]
  · rw [upd_ne hb]
    by_cases ha : c = a
    · subst ha
      rw [upd_same, upd_same]
    · rw [upd_ne ha, upd_ne ha, upd_ne hb, upd_ne hb]
section
variable {X : Cx} {pins : List (Addr × Obj)} {σ : L2.St} {H : Hp} {s : Shared} {a C dx : Addr} {f : Str} {y : V} {u : Value} {fs : List (Str × V)} {Q : Unit → Shared → Prop} {E : Value → Shared → Prop} {A : Around}
theorem put_first (T : AeC X.K C) (I : Inv X pins σ H s) (e : H a = some (exo a C none)) (ht : PySem.W.takerIn X.K C f = some none) (ry : RelV y u)
    (h : ∀ dx s', H dx = none → dx ≠ a → Inv X pins σ (upd (upd H dx (exd dx [(f, y)])) a (exo a C (some dx))) s' → Q () s') : wpAny (model X.prog X.w) A (setAttr (.ref a) f u) Q E s := by
  obtain ⟨t1, ho⟩ := exo_at I.hok e
  obtain ⟨hp, g, dr, t, os⟩ := s
  have inst : PySem.W.InstAt hp a { cls := .ref C, dict := none, data := .fields #[.ref t1, .none, .none, .none, .bool false, .none] } C none := ⟨ho, rfl, rfl, trivial⟩
  refine PySem.W.set_plain I.kIn inst T.setA (PySem.W.osa_openX (s := ⟨hp, g, dr, t + 1, os⟩) F.store_ArithmeticError I.kIn inst T.over ht fun b => ?_)
  obtain ⟨cd, hc, hd'⟩ := PySem.W.any_some T.dct
  have J : Inv X pins σ H ⟨hp, g, dr, t + 1, os⟩ := I.tok (t + 1)
  refine wpAny_bind (wpAny_pure (wpAny_bind (PySem.W.instanceDict_exc (s := ⟨hp, g, dr, t + 1, os⟩) (C := C) ho (PySem.W.looks_clsIn J.kIn hc) hd' ?_)))
  have lt : a < hp.objs.size := Heap.lt_size ho
  have free : H hp.objs.size = none := I.hok.fresh (Nat.le_refl _)
  have ne : hp.objs.size ≠ a := Nat.ne_of_gt lt
  have get0 : (hp.push (PySem.W.dictOf [] 0)).get? hp.objs.size = some (PySem.W.dictOf [] 0) := Heap.get?_push_at rfl rfl
  have get1 : ((hp.push (PySem.W.dictOf [] 0)).update a fun o => { o with dict := some hp.objs.size }).get? hp.objs.size = some (PySem.W.dictOf [] 0) := (Heap.get?_update_ne _ _ _ _ ne).trans get0
  have nil0 : ∀ G : Heap, G.get? hp.objs.size = some (PySem.W.dictOf [] 0) → G.Ns hp.objs.size (fun _ => none) := fun G e => ⟨_, #[], 0, e, rfl, fun e he => absurd he (by simp), fun _ => rfl⟩
  refine PySem.HandSPX.store_in_new (nil0 _ get1) fun h' tk' hn' sb => ?_
  have J1 : Inv X pins σ (upd H hp.objs.size (exd hp.objs.size [])) ⟨hp.push (PySem.W.dictOf [] 0), g, dr, t + 1, os⟩ :=
    J.laid (t' := t + 1) (a := hp.objs.size) (o := exd hp.objs.size []) (h' := hp.push (PySem.W.dictOf [] 0)) (fun b o q => Heap.get?_push_of_some _ q) (Nat.le_refl _) (exd_ok (Heap.Ns1.of_empty (nil0 _ get0)) fun g => True.intro)
  have geta : (hp.push (PySem.W.dictOf [] 0)).get? a = some ({ cls := .ref C, dict := none, data := .fields #[.ref t1, .none, .none, .none, .bool false, .none] } : Obj) := Heap.get?_push_of_some _ ho
  have getb : ((hp.push (PySem.W.dictOf [] 0)).update a fun o => { o with dict := some hp.objs.size }).get? a = some ({ cls := .ref C, dict := some hp.objs.size, data := .fields #[.ref t1, .none, .none, .none, .bool false, .none] } : Obj) := Heap.get?_update_self _ geta rfl
  have J2 := J1.write (t' := t + 1) (h' := (hp.push (PySem.W.dictOf [] 0)).update a fun o => { o with dict := some hp.objs.size }) (x := a) (e := a) (o := exo a C (some hp.objs.size)) (by rw [upd_ne (Ne.symm ne), e]; exact True.intro) (.inl rfl)
    (fun b o nb q => (Heap.get?_update_ne _ _ _ _ nb).trans q) ⟨_, getb⟩ (exo_ok getb)
  have J3 := J2.write (t' := tk') (h' := h') (x := hp.objs.size) (e := hp.objs.size) (o := exd hp.objs.size [(f, y)]) (by rw [upd_ne ne, upd_same]; exact True.intro) (.inl rfl)
    (fun b o nb q => (sb.2 b nb).trans q) (by obtain ⟨o, _, _, e', _⟩ := hn'; exact ⟨o, e'⟩) (exd_ok hn' (relO_put (fs := []) ry fun g => True.intro))
  rw [upd_swap (Ne.symm ne)] at J3
  exact h _ _ free ne J3
theorem put_next (T : AeC X.K C) (I : Inv X pins σ H s) (e : H a = some (exo a C (some dx))) (ed : H dx = some (exd dx fs)) (hl : fs.length ≤ 900) (ht : PySem.W.takerIn X.K C f = some none) (ry : RelV y u)
    (h : ∀ s', Inv X pins σ (upd H dx (exd dx ((f, y) :: fs))) s' → Q () s') : wpAny (model X.prog X.w) A (setAttr (.ref a) f u) Q E s := by
  obtain ⟨t1, ho⟩ := exo_at I.hok e
  obtain ⟨mA, hns, rel⟩ := exd_at I.hok ed
  have win := within_of rel
  obtain ⟨hp, g, dr, t, os⟩ := s
  obtain ⟨oD, _, _, hoD, _, _⟩ := hns.count win
  have inst : PySem.W.InstAt hp a { cls := .ref C, dict := some dx, data := .fields #[.ref t1, .none, .none, .none, .bool false, .none] } C (some oD) := ⟨ho, rfl, rfl, hoD⟩
  refine PySem.W.set_plain I.kIn inst T.setA (PySem.W.osa_openX (s := ⟨hp, g, dr, t + 1, os⟩) F.store_ArithmeticError I.kIn inst T.over ht fun b => ?_)
  obtain ⟨cd, hc, hd'⟩ := PySem.W.any_some T.dct
  have J : Inv X pins σ H ⟨hp, g, dr, t + 1, os⟩ := I.tok (t + 1)
  refine wpAny_bind (wpAny_pure (wpAny_bind (wpAny_bind (wpAny_loadPart ho (wpAny_bind (PySem.W.Looks.here (s := ⟨hp, g, dr, t + 1, os⟩) (PySem.W.looks_clsIn J.kIn hc) ?_))))))
  rw [hd']
  refine wpAny_pure (a := some dx) ?_
  refine PySem.OEX.store_in_old hns win (by rw [List.length_map]; omega) fun h' tk' hn' sb => ?_
  refine h _ (I.write (t' := tk') (h' := h') (x := dx) (e := dx) (o := exd dx ((f, y) :: fs)) (by rw [ed]; exact True.intro) (.inl rfl) (fun b o nb q => (sb.2 b nb).trans q) ?_ (exd_ok hn' (relO_put ry rel)))
  obtain ⟨o, _, _, e', _⟩ := hn'
  exact ⟨o, e'⟩
end
/-- self.f = e in the __init__ of such a class -/
def tPut (K : PySem.W.Frag) (f : Str) (to te : TE) : TS := fun D σ H => te σ H fun y H1 => to σ H1 fun x H2 => ∃ a C : Addr, x = .ref a ∧ AeC K C ∧ PySem.W.takerIn K C f = some none ∧
  ((H2 a = some (exo a C none) ∧ ∀ dx, H2 dx = none → dx ≠ a → D.nx σ (upd (upd H2 dx (exd dx [(f, y)])) a (exo a C (some dx)))) ∨
   ∃ (dx : Addr) (fs : List (Str × V)), fs.length ≤ 900 ∧ H2 a = some (exo a C (some dx)) ∧ H2 dx = some (exd dx fs) ∧ D.nx σ (upd H2 dx (exd dx ((f, y) :: fs))))
section
variable {X : Cx} {o e : Expr} {es : List Expr} {to te : TE} {ta : TA} {f : Str} {p p' pos : Pos}
theorem ps_put (ho : PE X o to) (he : PE X e te) (hs : swapsWith e (some (.Attribute o f p')) pos.line X.env = pure false := by rfl) : PS X (.Assign [.Attribute o f p'] e pos) (tPut X.K f to te) := ⟨by
  intro pins s σ H D I h
  refine plainObj_wpAny_Assign_Attribute (thn (he.run pins s σ H _ I h) ?_) hs
  rintro v s1 ⟨y, H1, I1, r1, q1⟩
  refine thn (ho.run pins s1 σ H1 _ I1 q1) ?_
  rintro _ s2 ⟨_, H2, I2, r2, a, C, rfl, T, ht, q⟩
  cases r2
  rcases q with ⟨ea, q⟩ | ⟨dx, fs, hl, ea, ed, q⟩
  · exact put_first T I2 ea ht r1 fun dx s' n ne J => ⟨σ, _, J, q dx n ne⟩
  · exact put_next T I2 ea ed hl ht r1 fun s' J => ⟨σ, _, J, q⟩⟩
/-- C(e, ..) of such a class -/
theorem pmk_ae {CX : CXT} {x : Str} {C fI : Addr} {k : Nat} {fd : FuncData} {ps : List Str} {sp : Sp} (T : AeC X.K C) (iC : PySem.W.findIn X.K (.ref C) "__init__" = some (some (.ref fI))) (tI : PySem.W.typeIn X.K (.ref fI) = some (.type "function"))
    (F1 : FnOk X.prog X.w X.K X.mg X.base CX k fI fd ps sp) (hr : Room (k + 1) X.A) (hb : Binds X.K fd ps []) (hx : Passes CX X (fun _ _ _ => False)) (hg : Gl X x) (hm : X.mg x = some (.ref C)) (ha : PA X (e :: es) ta)
    (hdb : (x == ("__debug__" : Str)) = false := by decide) (he : starEach (e :: es) X.env = (false, eval e X.env) :: starEach es X.env := by rfl) (hpl : (backTo pos (starEach es X.env)).any (·.1) = false := by rfl) :
    PMk X (.Call (.Name x p) (e :: es) [] pos) (tMkO C sp [] ta) := by
  intro pins s σ H Q I h
  refine wpAny_Call_Name_kw (ld_glob I hg hm ?_ hdb)
  refine PySem.W.callWith_K (h₀ := X.base) I.ok.mod.kin T.keep (thn (ha.run pos pins s σ H _ I h) ?_) he hpl
  rintro us ⟨hp, g, dr, tk, os⟩ ⟨vs, H1, I1, r1, hz, q1⟩
  refine ⟨I1.kIn, ?_⟩
  show wpAny _ _ (call (.ref C) us) _ _ _
  obtain ⟨nm, N, qn, bs, bm, hdct, sn, sub, ab, col, dd, k0, k1, k2, k3, k5, hC, hT⟩ := PySem.W.excInit_of I1.kIn T.made
  have lay : ∀ b o, hp.get? b = some o → ((hp.push (PySem.W.kdv_tup us)).push (PySem.HandSPX.excO C hp.objs.size)).get? b = some o := fun b o e => Heap.get?_push_of_some _ (Heap.get?_push_of_some _ e)
  have here : ((hp.push (PySem.W.kdv_tup us)).push (PySem.HandSPX.excO C hp.objs.size)).get? (hp.objs.size + 1) = some (PySem.HandSPX.excO C hp.objs.size) := by heap_get
  have new : hp.objs.size ≤ hp.objs.size + 1 := Nat.le_succ _
  have hq := q1 _ (I1.hok.fresh new)
  have I2 := I1.laid (t' := tk) (a := hp.objs.size + 1) (o := exo (hp.objs.size + 1) C none) lay new (exo_ok here)
  have r2 : Vals (V.ref (hp.objs.size + 1) :: (vs ++ [])) (Value.ref (hp.objs.size + 1) :: (us ++ [])) := .cons rfl (r1.append .nil)
  have len : (Value.ref (hp.objs.size + 1) :: us ++ []).length = ps.length := (F1.len _ _ _ _ hq).symm.trans r2.length |>.symm
  have few : us.length ≤ sizeLine := by have := Paired.length r1; rw [sizeLine_eq]; omega
  refine wpAny_call (PySem.HandSPX.call_own F.excBase_ArithmeticError hT hC (PySem.W.looks_findIn I1.kIn iC) (fun self => PySem.W.bind_fn I1.kIn self tI) few ?_)
  refine codeAny_mono (F1.run _ X.stack _ _ ⟨Value.ref (hp.objs.size + 1) :: us, []⟩ ((Value.ref (hp.objs.size + 1) :: us) ++ []) _ _ (fun _ _ _ => False) (hr.make C us []) (I2.env0.make C us []) (hb _ (Value.ref (hp.objs.size + 1) :: us) I2.kIn len) r2 hq) ?_
  rintro (er | fl) s' back
  · exact hx pins σ _ _ er s' I2 back
  · cases fl with
    | ret rv =>
      obtain ⟨_, H2, os2, bare2, un2, hok2, rv', rfl, d, fs, ea, ed, hd1, q2⟩ := back
      obtain ⟨h2, g2, d2, t2, os'⟩ := s'
      exact ⟨rv', mk_end (raises_own T.exc T.typ) I1 new lay un2 hok2 os2 bare2 ea ed hd1 q2⟩
    | next => exact back.elim
    | brk => exact back.elim
    | cont => exact back.elim
end
end AEx
/-! isinstance of a caught error that has its own dict -/
namespace PySem.W
open PySem PySem.Spec PySem.Calls PyProof.Rows
section
variable {prog : Program} {w : World} {A : Around} {E : Value → Shared → Prop} {s : Shared} {K : Frag} {x D : Addr} {ox : Obj} {od : Option Obj}
theorem k14_find {C : Addr} {name : Str} {a g : Value} (hc : (clsIn K C).isSome = true) (ha : findIn K (.ref C) name = some (some a)) (hg : specialIn K a "__get__" = some (some g)) (ht : takesIn K a = some true) : findObj K C od name = some (.bind g a) := by
  cases hq : clsIn K C with
  | none => rw [hq] at hc; cases hc
  | some cd => unfold findObj; rw [hq, Option.bind_some, ha, Option.bind_some]; simp [hg, ht]
theorem k14_class {Q : Option Value → Shared → Prop} (C : L2.ExcC K D) (X : K.In s.heap) (I : InstAt s.heap x ox D od) (h : Q (some (.ref D)) { s with toks := s.toks + 1 }) : wpAny (model prog w) A (getAttr? (.ref x) "__class__") Q E s := by
  obtain ⟨hga, hgt, hsub, hdct, ha, hn, htk, hm⟩ := C
  have hf : findObj K D od "__class__" = some (.bind (.builtin "getset_descriptor.__get__") (.builtin "object.__class__")) := k14_find (by obtain ⟨cd, hc, _⟩ := any_some hdct; rw [hc]; rfl) ha hn htk
  obtain ⟨hp, g, d, t, os⟩ := s
  have J0 := I.type (M := model prog w)
  have J1 := looks_findIn (M := model prog w) X hga
  have J2 := looks_findIn (M := model prog w) X hgt
  have J3 := looks_find (M := model prog w) X I hf
  have sb : Looks (model prog w) hp (isInstance (.ref x) (.type "BaseException")) true := J0.andThen (looks_subIn X hsub)
  have z0 : (false && onTheHeap (Value.builtin "BaseException.__getattribute__")) = false := rfl
  have z2 : (Value.builtin "BaseException.__getattribute__" == Value.builtin "object.__getattribute__") = false := by decide +kernel
  have z1 : (onTheHeap (Value.ref D) && Value.builtin "BaseException.__getattribute__" == Value.builtin "object.__getattribute__") = false := by rw [z2]; rfl
  unfold getAttr? getAttrBy? getAttrBy
  apply wpAny_bind; apply wpAny_mkText; apply wpAny_bind; apply wpAny_attempt; apply wpAny_holding; apply wpAny_bind; apply J0.at; apply wpAny_bind; apply J1.at
  show wpAny _ _ (if (onTheHeap (Value.ref D) && Value.builtin "BaseException.__getattribute__" == Value.builtin "object.__getattribute__") = true then _ else _) _ _ _
  rw [z1, if_neg Bool.false_ne_true]
  unfold getAttrByItsOwn hookBefore
  apply wpAny_bind
  rw [if_pos (show onTheHeap (Value.ref D) = true from rfl)]
  apply J2.at; apply wpAny_bind; apply wpAny_attempt; apply wpAny_holding
  unfold callGetattribute
  rw [z0, if_neg Bool.false_ne_true]
  unfold boundAndCalled
  rw [PySem.F.excAttr_ValueError.ga.bind (.ref x)]
  apply wpAny_bind; apply wpAny_pure
  show wpAny _ _ (call (.builtin "BaseException.__getattribute__") [.ref x, .str "__class__" t]) _ _ _
  apply wpAny_call; apply codeAny_call_builtin PySem.F.excAttr_ValueError.ga.plain PySem.F.entry_bexc_ga
  apply @check_slot (model prog w) _ _ ⟨hp, g, d, t + 1, os⟩ "BaseException.__getattribute__" "BaseException" "__getattribute__" (.ref x) [.str "__class__" t] [] _ (by decide +kernel) (by decide +kernel) sb (PySem.F.args_bexc_ga (.ref x) (.str "__class__" t))
  unfold Builtin.«object.__getattribute__»
  apply wpAny_bind; apply wpAny_of_eq (a := ((Value.ref x : Value), [Value.str "__class__" t])) (by first | rfl | (simp only [slotArgs]; rfl))
  apply wpAny_bind; apply wpAny_pure; apply wpAny_bind; apply J0.at; apply wpAny_bind; apply J3.at
  show wpAny _ _ (holding [Value.builtin "object.__class__"] (call (.builtin "getset_descriptor.__get__") [.builtin "object.__class__", .ref x, .ref D]) >>= ret) _ _ _
  apply wpAny_bind; apply wpAny_holding; apply wpAny_call; apply class_get (s := ⟨hp, g, d, t + 1, os⟩) (ox := ox) (od := od) X I hm
  apply wpAny_pure
  show wpAny _ _ (handedOut (.ref D)) _ _ _
  rw [handedOut_of (v := .ref D) rfl]
  first
    | exact wpAny_pure (wpAny_pure h)
    | exact wpAny_pure h
    | exact wpAny_pure (wpAny_bind (wpAny_pure (wpAny_pure h)))
theorem k14_cls {C : Addr} (h : (clsIn K C).isSome = true) : ∃ cc dd dt sl, K.lookup C = some ⟨cc, dd, .cls dt, sl⟩ := by
  unfold clsIn at h
  split at h
  · rename_i e; exact ⟨_, _, _, _, e⟩
  · cases h
theorem k14_kit (C : L2.ExcC K D) : KitX K (.ref x) (.ref D) (fun h => ∃ (ox : Obj) (od : Option Obj), InstAt h x ox D od) where
  ty := fun _ _ _ ⟨_, _, I⟩ => I.type
  it := fun _ _ X _ => by
    obtain ⟨cd, hcd, _⟩ := any_some C.hd
    obtain ⟨cc, dd, dt, sl, ho⟩ := k14_cls (K := K) (C := D) (by rw [hcd]; rfl)
    intro A' Q' E' s' k q
    unfold isType loadHead
    exact wpAny_bind (wpAny_loadPart (k _ _ (X _ _ ho)) (wpAny_pure q))
  ne := fun h tp dd its n sl X htp => by
    obtain ⟨cd, hcd, _⟩ := any_some C.hd
    obtain ⟨cc, dd', dt, sl', ho⟩ := k14_cls (K := K) (C := D) (by rw [hcd]; rfl)
    by_cases e : D = tp
    · subst e
      have z := (X _ _ ho).symm.trans htp
      cases z
    · exact beq_eq_false_iff_ne.mpr fun q => e (Value.ref.inj q)
  ca := fun X ⟨_, _, I⟩ k => k14_class C X I k
end
end PySem.W
namespace L2
open PySem PySem.Spec PyProof.Rows
/-! ### f(k = v) in a try -/
section
variable {X : Cx} {CX : CXT} {k : Nat} {f : Addr} {fd : FuncData} {kn : Str} {sp : Sp} {E : St → XK} {x : Str} {p pos kpos : Pos} {e : Expr} {te : TE}
def tKw1 (sp : Sp) (E : St → XK) (te : TE) : TE := fun σ H Q => tCons te tNil σ H fun vs H1 => vs.length = 1 ∧ sp vs H1 Q (E σ)
theorem pe_callKw1 (F : FnOk X.prog X.w X.K X.mg X.base CX k f fd [kn] sp) (hr : Room k X.A) (hg : Gl X x) (hm : X.mg x = some (.ref f)) (hk : PySem.W.keepIn X.K (.ref f) = true)
    (hb : ∀ (s : Shared) (u : Value), BindsTo s fd ⟨[], [(kn, u)]⟩ [(kn, u)]) (hx : ∀ σ, PassesAt CX X σ (E σ)) (he : PE X e te)
    (hall : (backToKw pos (keywordEach [⟨some kn, e, kpos⟩] X.env)).all (·.1.isSome) = true := by rfl) (hks : (backToKw pos (keywordEach [⟨some kn, e, kpos⟩] X.env)).filterMap (·.1) = [kn] := by rfl)
    (hdb : (x == ("__debug__" : Str)) = false := by decide) (hpl : ((backTo pos (starEach [] X.env)).any (·.1) || (backToKw pos (keywordEach [⟨some kn, e, kpos⟩] X.env)).any (·.1.isNone)) = false := by rfl) :
    PE X (.Call (.Name x p) [] [⟨some kn, e, kpos⟩] pos) (tKw1 sp E te) := ⟨by
  intro pins s σ H Q I h
  have pk : PK X [⟨some kn, e, kpos⟩] (tCons te tNil) := pk_cons he pk_nil
  apply wpAny_Call_Name_kw
  apply ld_glob I hg hm _ hdb
  apply PySem.W.callWith_KW0 (h₀ := X.base) I.ok.mod.kin hk hall _ hpl
  apply thn (pk.run pos pins s σ H _ I h)
  rintro ws s2 ⟨zs, H2, I2, rz, hl, q2⟩
  refine ⟨I2.kIn, ?_⟩
  rw [hks]
  obtain ⟨v, rfl⟩ : ∃ v, zs = [v] := List.length_eq_one_iff.mp hl
  obtain ⟨u, rfl, ru⟩ := vals1 rz
  apply wpAny_call
  apply codeAny_mono (F.run X.A X.stack s2 H2 ⟨[], [(kn, u)]⟩ [u] [v] Q (E σ) hr I2.env0 (hb s2 u) rz q2)
  intro r s' hq
  match r, hq with
  | .error er, hq => exact hx σ pins H2 s2 er s' I2 hq
  | .ok (.ret _), hq => exact I2.after hq
  | .ok .next, hq => exact hq.elim
  | .ok .brk, hq => exact hq.elim
  | .ok .cont, hq => exact hq.elim⟩
end
/-! ### isinstance(e, c), isinstance(e, (c, ..)), e the error that the suite holds -/
def rIsX (K : PySem.W.Frag) (a : Addr) (cls : Value) (d : Option Addr) : List V → Hp → VK → Prop := fun xs H Q => ∃ (D dd : Addr) (fs : List (Str × V)) (c : V) (cv : Value) (b : Bool),
  cls = .ref D ∧ d = some dd ∧ ExcC K D ∧ H dd = some (.xd fs) ∧ xs = [.ref a, c] ∧ ClsV c cv ∧ PySem.W.kitOne K (.ref D) cv = some b ∧ Q (.bl b) H
def rIsXT (K : PySem.W.Frag) (a : Addr) (cls : Value) (d : Option Addr) : List V → Hp → VK → Prop := fun xs H Q => ∃ (D dd tp : Addr) (fs : List (Str × V)) (cs : List V) (us : List Value) (b : Bool),
  cls = .ref D ∧ d = some dd ∧ ExcC K D ∧ H dd = some (.xd fs) ∧ xs = [.ref a, .ref tp] ∧ H tp = some (.tup cs) ∧ Paired ClsV cs us ∧ PySem.W.kitAny K (.ref D) us = some b ∧ Q (.bl b) H
section
variable {X : Cx} {a : Addr} {oe : Obj} {cls : Value} {d : Option Addr} {pn : List (Addr × Obj)}
theorem suite_inst {pins : List (Addr × Obj)} {σ : St} {H : Hp} {s : Shared} {D dd : Addr} {fs : List (Str × V)} (hz : Zc (.ref D) (some dd) oe) (hf : ∃ vs, oe.data = .fields vs) (I : Inv (X.suite a ((a, oe) :: pn)) pins σ H s) (hd : H dd = some (.xd fs)) :
    ∃ od, PySem.W.InstAt s.heap a oe D (some od) := by
  obtain ⟨hget, _⟩ := I.pin (a, oe) (List.mem_append_left _ List.mem_cons_self)
  obtain ⟨vs, hv⟩ := hf
  obtain ⟨mA, hns, _⟩ := (show ObjOk X.prog X.w H s.heap dd (.xd fs) from I.hok dd _ hd)
  obtain ⟨od, ho, _⟩ := lookIn_ns hns
  exact ⟨od, hget, hz.1, by unfold PySem.W.notCls; rw [hv] <;> rfl, by rw [hz.2]; exact ho⟩
theorem call_isX (hz : Zc cls d oe) (hf : ∃ vs, oe.data = .fields vs) : CallR (X.suite a ((a, oe) :: pn)) (.builtin "isinstance") (rIsX X.K a cls d) := by
  rintro pins s σ H xs us Q I r ⟨D, dd, fs, c, cv, b, rfl, rfl, C, hd, rfl, k, e, q⟩
  obtain ⟨u1, u2, rfl, r1, r2⟩ := vals2 r
  obtain rfl : u1 = Value.ref a := r1
  have ec := k.eq r2
  subst ec
  obtain ⟨od, J⟩ := suite_inst hz hf I hd
  exact PySem.W.kia_one (PySem.W.k14_kit C) I.kIn ⟨oe, some od, J⟩ e (fun z => nomatch z) fun tk => ⟨.bl b, H, I.tok tk, rfl, q⟩
theorem call_isXT (hz : Zc cls d oe) (hf : ∃ vs, oe.data = .fields vs) : CallR (X.suite a ((a, oe) :: pn)) (.builtin "isinstance") (rIsXT X.K a cls d) := by
  rintro pins s σ H xs us Q I r ⟨D, dd, tp, fs, cs, ws, b, rfl, rfl, C, hd, rfl, hT, k, e, q⟩
  obtain ⟨u1, u2, rfl, r1, r2⟩ := vals2 r
  obtain rfl : u1 = Value.ref a := r1
  obtain rfl : u2 = Value.ref tp := r2
  obtain ⟨od, J⟩ := suite_inst hz hf I hd
  obtain ⟨_, its, rv, o, h1, h2, n, h3⟩ := (show ObjOk X.prog X.w H s.heap tp (.tup cs) from I.hok tp _ hT)
  have e3 := ClsV.all k rv
  subst e3
  obtain ⟨oc, od', dt, sl⟩ := o
  dsimp only at h2 h3
  subst h2 h3
  exact PySem.W.kia_tup (PySem.W.k14_kit C) I.kIn ⟨oe, some od, J⟩ h1 e (fun z => nomatch z) fun tk => ⟨.bl b, H, I.tok tk, rfl, q⟩
end
end L2
namespace K15
open PySem L2
section
variable {P : Program} {w : World} {K : PySem.W.Frag} {mg : Str → Option Value} {base : Heap}
abbrev sInitT : Stmt := inClass (top 5) 0
structure IT (K : PySem.W.Frag) (mg : Str → Option Value) (C fI : Addr) (fd : FuncData) : Prop where
  o : OexC K C
  iC : PySem.W.findIn K (.ref C) "__init__" = some (some (.ref fI))
  tI : PySem.W.typeIn K (.ref fI) = some (.type "function")
  n1 : PySem.W.findIn K (.ref C) "problem" = some none
  n2 : PySem.W.findIn K (.ref C) "_told" = some none
  m : mg "InvalidText" = some (.ref C)
  F : Fun K "__init__" "InvalidText.__init__" sInitT fI fd
  b : Binds K fd ["self", "problem"] []
def spInitT (C : Addr) : Sp := fun vs H Q _ => ∃ (a : Addr) (v : V), vs = [.ref a, v] ∧ H a = some (exo a C none) ∧
  ∀ (H' : Hp) (d t : Addr), H d = none → d ≠ a → H' a = some (exo a C (some d)) → H' d = some (exd d [("_told", .ref t), ("problem", v)]) → (∀ b o, b ≠ a → H b = some o → H' b = some o) → Q .non H'
theorem scInT : FnScope ["self", "problem"] ["self", "problem"] (defScope sInitT) := ⟨rfl, rfl, rfl, by decide +kernel, rfl, by decide +kernel, by decide +kernel⟩
theorem ok_initT {C f : Addr} {fd : FuncData} (T : IT K mg C f fd) : FnOk P w K mg base CX0 1 f fd ["self", "problem"] (spInitT C) := by
  refine T.F.ok scInT (fun vs H Q E h => ?_) (fun cdv A outer_ s H vs Q E hr h => ?_)
  · obtain ⟨a, v, rfl, _⟩ := h
    rfl
  · obtain ⟨a, v, rfl, he, k⟩ := h
    refine ⟨_, pss_cons (ps_ost (pv 0) (pv 1)) (pss_one (ps_ost (pv 0) (pe_tup (pa_cons (pv 1) pa_nil)))), ?_⟩
    refine ⟨_, rfl, _, rfl, a, C, rfl, T.o, T.n1, .inl ⟨he, fun d hd hne => ?_⟩⟩
    refine ⟨_, rfl, (by show 1 ≤ sizeLine; decide), fun t ht => ?_⟩
    have nt : t ≠ a := fun e => by rw [e, upd_same] at ht; cases ht
    have nd : t ≠ d := fun e => by rw [e, upd_ne hne, upd_same] at ht; cases ht
    refine ⟨_, rfl, a, C, rfl, T.o, T.n2, .inr ⟨d, [("problem", v)], ?_, ?_, (show 1 ≤ 900 by decide), ?_⟩⟩
    · rw [upd_ne (Ne.symm nt), upd_same]
    · rw [upd_ne (Ne.symm nd), upd_ne hne, upd_same]
    · refine k _ d t hd hne ?_ upd_same fun b o hb e => ?_
      · rw [upd_ne (Ne.symm hne), upd_ne (Ne.symm nt), upd_same]
      · have n1 : b ≠ d := ne_of_none e hd
        have n2 : b ≠ t := fun z => by
          rw [upd_ne nt, upd_ne nd] at ht
          rw [z, ht] at e
          cases e
        rw [upd_ne n1, upd_ne n2, upd_ne hb, upd_ne n1]
        exact e
abbrev sInitK : Stmt := inClass (top 3) 0
structure IK (K : PySem.W.Frag) (mg : Str → Option Value) (C fI : Addr) (fd : FuncData) : Prop where
  o : OexC K C
  iC : PySem.W.findIn K (.ref C) "__init__" = some (some (.ref fI))
  tI : PySem.W.typeIn K (.ref fI) = some (.type "function")
  n1 : PySem.W.findIn K (.ref C) "value" = some none
  n2 : PySem.W.findIn K (.ref C) "_told" = some none
  m : mg "InvalidName" = some (.ref C)
  F : Fun K "__init__" "InvalidName.__init__" sInitK fI fd
  b : Binds K fd ["self", "value"] []
def spInitK (C : Addr) : Sp := fun vs H Q _ => ∃ (a : Addr) (v : V), vs = [.ref a, v] ∧ H a = some (exo a C none) ∧
  ∀ (H' : Hp) (d t : Addr), H d = none → d ≠ a → H' a = some (exo a C (some d)) → H' d = some (exd d [("_told", .ref t), ("value", v)]) → (∀ b o, b ≠ a → H b = some o → H' b = some o) → Q .non H'
theorem scInK : FnScope ["self", "value"] ["self", "value"] (defScope sInitK) := ⟨rfl, rfl, rfl, by decide +kernel, rfl, by decide +kernel, by decide +kernel⟩
theorem ok_initK {C f : Addr} {fd : FuncData} (T : IK K mg C f fd) : FnOk P w K mg base CX0 1 f fd ["self", "value"] (spInitK C) := by
  refine T.F.ok scInK (fun vs H Q E h => ?_) (fun cdv A outer_ s H vs Q E hr h => ?_)
  · obtain ⟨a, v, rfl, _⟩ := h
    rfl
  · obtain ⟨a, v, rfl, he, k⟩ := h
    refine ⟨_, pss_cons (ps_ost (pv 0) (pv 1)) (pss_one (ps_ost (pv 0) (pe_tup (pa_cons (pv 1) pa_nil)))), ?_⟩
    refine ⟨_, rfl, _, rfl, a, C, rfl, T.o, T.n1, .inl ⟨he, fun d hd hne => ?_⟩⟩
    refine ⟨_, rfl, (by show 1 ≤ sizeLine; decide), fun t ht => ?_⟩
    have nt : t ≠ a := fun e => by rw [e, upd_same] at ht; cases ht
    have nd : t ≠ d := fun e => by rw [e, upd_ne hne, upd_same] at ht; cases ht
    refine ⟨_, rfl, a, C, rfl, T.o, T.n2, .inr ⟨d, [("value", v)], ?_, ?_, (show 1 ≤ 900 by decide), ?_⟩⟩
    · rw [upd_ne (Ne.symm nt), upd_same]
    · rw [upd_ne (Ne.symm nd), upd_ne hne, upd_same]
    · refine k _ d t hd hne ?_ upd_same fun b o hb e => ?_
      · rw [upd_ne (Ne.symm hne), upd_ne (Ne.symm nt), upd_same]
      · have n1 : b ≠ d := ne_of_none e hd
        have n2 : b ≠ t := fun z => by
          rw [upd_ne nt, upd_ne nd] at ht
          rw [z, ht] at e
          cases e
        rw [upd_ne n1, upd_ne n2, upd_ne hb, upd_ne n1]
        exact e
/-- the error leaves, with this one in its field -/
def Bad (fld : Str) (C : Addr) (H : Hp) (v : V) (E : XK) : Prop := ∀ (H' : Hp) (d : Addr) (fs : List (Str × V)), Same H H' → H d = none → H' d = some (.xd fs) → List.lookup fld fs = some v → E (.ref C) (some d) H'
theorem bad_of {fld : Str} {C : Addr} {H H0 : Hp} {v : V} {E : XK} (s : Same H H0) (b : Bad fld C H v E) : Bad fld C H0 v E := fun H' d fs s' hd e1 e2 => b H' d fs (s.trans s') (s.free hd) e1 e2
theorem mkK {C : Addr} {E : XK} (H0 : Hp) (v : V) (hb : Bad "value" C H0 v E) : 1 ≤ 1000 ∧ ∀ a, H0 a = none → spInitK C (.ref a :: ([v] ++ [])) (upd H0 a (exo a C none))
    (fun u H2 => u = .non ∧ ∃ (d : Addr) (fs : List (Str × V)), H2 a = some (exo a C (some d)) ∧ H2 d = some (exd d fs) ∧ H0 d = none ∧ E (.ref C) (some d) (upd (del H2 a) d (.xd fs))) (fun _ _ _ => False) := by
  refine ⟨by decide, fun a ha => ⟨a, v, rfl, upd_same, fun H2 d t hd hne he1 he2 hs => ⟨rfl, d, _, he1, he2, ?_, ?_⟩⟩⟩
  · rw [upd_ne hne] at hd
    exact hd
  · refine hb _ d [("_told", .ref t), ("value", v)] (fun b o e => ?_) (by rw [upd_ne hne] at hd; exact hd) upd_same (by rfl)
    have nb : b ≠ a := ne_of_none e ha
    have nd : b ≠ d := fun z => by
      rw [z] at e
      rw [upd_ne hne, e] at hd
      cases hd
    rw [upd_ne nd, del_ne nb]
    exact hs b o nb (by rw [upd_ne nb]; exact e)
theorem mkT {C : Addr} {E : XK} (H0 : Hp) (v : V) (hb : Bad "problem" C H0 v E) : 1 ≤ 1000 ∧ ∀ a, H0 a = none → spInitT C (.ref a :: ([v] ++ [])) (upd H0 a (exo a C none))
    (fun u H2 => u = .non ∧ ∃ (d : Addr) (fs : List (Str × V)), H2 a = some (exo a C (some d)) ∧ H2 d = some (exd d fs) ∧ H0 d = none ∧ E (.ref C) (some d) (upd (del H2 a) d (.xd fs))) (fun _ _ _ => False) := by
  refine ⟨by decide, fun a ha => ⟨a, v, rfl, upd_same, fun H2 d t hd hne he1 he2 hs => ⟨rfl, d, _, he1, he2, ?_, ?_⟩⟩⟩
  · rw [upd_ne hne] at hd
    exact hd
  · refine hb _ d [("_told", .ref t), ("problem", v)] (fun b o e => ?_) (by rw [upd_ne hne] at hd; exact hd) upd_same (by rfl)
    have nb : b ≠ a := ne_of_none e ha
    have nd : b ≠ d := fun z => by
      rw [z] at e
      rw [upd_ne hne, e] at hd
      cases hd
    rw [upd_ne nd, del_ne nb]
    exact hs b o nb (by rw [upd_ne nb]; exact e)
end
end K15
namespace K15
open PySem L2
section
variable {P : Program} {w : World} {K : PySem.W.Frag} {mg : Str → Option Value} {base : Heap}
/-! ### TooMany -/
abbrev sInitM : Stmt := inClass (top 8) 0
structure IM (K : PySem.W.Frag) (mg : Str → Option Value) (C fI : Addr) (fd : FuncData) : Prop where
  o : AEx.AeC K C
  iC : PySem.W.findIn K (.ref C) "__init__" = some (some (.ref fI))
  tI : PySem.W.typeIn K (.ref fI) = some (.type "function")
  t1 : PySem.W.takerIn K C "kind" = some none
  t2 : PySem.W.takerIn K C "limit" = some none
  t3 : PySem.W.takerIn K C "_told" = some none
  m : mg "TooMany" = some (.ref C)
  F : Fun K "__init__" "TooMany.__init__" sInitM fI fd
  b : Binds K fd ["self", "kind", "limit"] []
def spInitM (C : Addr) : Sp := fun vs H Q _ => ∃ (a : Addr) (u v : V), vs = [.ref a, u, v] ∧ H a = some (exo a C none) ∧
  ∀ (H' : Hp) (d t : Addr), H d = none → d ≠ a → H' a = some (exo a C (some d)) → H' d = some (exd d [("_told", .ref t), ("limit", v), ("kind", u)]) → (∀ b o, b ≠ a → H b = some o → H' b = some o) → Q .non H'
theorem scInM : FnScope ["self", "kind", "limit"] ["self", "kind", "limit"] (defScope sInitM) := ⟨rfl, rfl, rfl, by decide +kernel, rfl, by decide +kernel, by decide +kernel⟩
theorem ok_initM {C f : Addr} {fd : FuncData} (T : IM K mg C f fd) : FnOk P w K mg base CX0 1 f fd ["self", "kind", "limit"] (spInitM C) := by
  refine T.F.ok scInM (fun vs H Q E h => ?_) (fun cdv A outer_ s H vs Q E hr h => ?_)
  · obtain ⟨a, u, v, rfl, _⟩ := h
    rfl
  · obtain ⟨a, u, v, rfl, he, k⟩ := h
    refine ⟨_, pss_cons (AEx.ps_put (pv 0) (pv 1)) (pss_cons (AEx.ps_put (pv 0) (pv 2)) (pss_one (AEx.ps_put (pv 0) (pe_tup (pa_cons (pv 1) (pa_cons (pv 2) pa_nil)))))), ?_⟩
    refine ⟨_, rfl, _, rfl, a, C, rfl, T.o, T.t1, .inl ⟨he, fun d hd hne => ?_⟩⟩
    have ea : (upd (upd H d (exd d [("kind", u)])) a (exo a C (some d))) a = some (exo a C (some d)) := upd_same
    have ed : (upd (upd H d (exd d [("kind", u)])) a (exo a C (some d))) d = some (exd d [("kind", u)]) := by rw [upd_ne hne, upd_same]
    have kp : ∀ b o, b ≠ a → H b = some o → (upd (upd H d (exd d [("kind", u)])) a (exo a C (some d))) b = some o := fun b o nb e => by rw [upd_ne nb, upd_ne (ne_of_none e hd)]; exact e
    revert ea ed kp
    generalize upd (upd H d (exd d [("kind", u)])) a (exo a C (some d)) = H1
    intro ea ed kp
    refine ⟨_, rfl, _, rfl, a, C, rfl, T.o, T.t2, .inr ⟨d, [("kind", u)], (show 1 ≤ 900 by decide), ea, ed, ?_⟩⟩
    refine ⟨_, rfl, _, rfl, (by show 2 ≤ sizeLine; decide), fun t ht => ?_⟩
    have na : t ≠ a := fun e => by rw [e, upd_ne (Ne.symm hne), ea] at ht; cases ht
    have nt : t ≠ d := fun e => by rw [e, upd_same] at ht; cases ht
    refine ⟨_, rfl, a, C, rfl, T.o, T.t3, .inr ⟨d, [("limit", v), ("kind", u)], (show 2 ≤ 900 by decide), ?_, ?_, ?_⟩⟩
    · rw [upd_ne (Ne.symm na), upd_ne (Ne.symm hne)]
      exact ea
    · rw [upd_ne (Ne.symm nt), upd_same]
    · refine k _ d t hd hne ?_ upd_same fun b o nb e => ?_
      · rw [upd_ne (Ne.symm hne), upd_ne (Ne.symm na), upd_ne (Ne.symm hne)]
        exact ea
      · have n1 : b ≠ d := ne_of_none e hd
        have n2 : b ≠ t := fun z => by
          rw [upd_ne nt] at ht
          rw [z] at e
          rw [kp _ _ (z ▸ nb) e] at ht
          cases ht
        rw [upd_ne n1, upd_ne n2, upd_ne n1]
        exact kp b o nb e
/-- the error leaves, with these two in its fields -/
def BadM (C : Addr) (H : Hp) (u v : V) (E : XK) : Prop := ∀ (H' : Hp) (d : Addr) (fs : List (Str × V)), Same H H' → H d = none → H' d = some (.xd fs) → List.lookup ("kind" : Str) fs = some u → List.lookup ("limit" : Str) fs = some v → E (.ref C) (some d) H'
theorem badM_of {C : Addr} {H H0 : Hp} {u v : V} {E : XK} (s : Same H H0) (b : BadM C H u v E) : BadM C H0 u v E := fun H' d fs s' hd e1 e2 e3 => b H' d fs (s.trans s') (s.free hd) e1 e2 e3
theorem mkM {C : Addr} {E : XK} (H0 : Hp) (u v : V) (hb : BadM C H0 u v E) : 2 ≤ 1000 ∧ ∀ a, H0 a = none → spInitM C (.ref a :: ([u, v] ++ [])) (upd H0 a (exo a C none))
    (fun r H2 => r = .non ∧ ∃ (d : Addr) (fs : List (Str × V)), H2 a = some (exo a C (some d)) ∧ H2 d = some (exd d fs) ∧ H0 d = none ∧ E (.ref C) (some d) (upd (del H2 a) d (.xd fs))) (fun _ _ _ => False) := by
  refine ⟨by decide, fun a ha => ⟨a, u, v, rfl, upd_same, fun H2 d t hd hne he1 he2 hs => ⟨rfl, d, _, he1, he2, ?_, ?_⟩⟩⟩
  · rw [upd_ne hne] at hd
    exact hd
  · refine hb _ d [("_told", .ref t), ("limit", v), ("kind", u)] (fun b o e => ?_) (by rw [upd_ne hne] at hd; exact hd) upd_same (by rfl) (by rfl)
    have nb : b ≠ a := ne_of_none e ha
    have nd : b ≠ d := fun z => by
      rw [z] at e
      rw [upd_ne hne, e] at hd
      cases hd
    rw [upd_ne nd, del_ne nb]
    exact hs b o nb (by rw [upd_ne nb]; exact e)
end
end K15
namespace K15
open PySem L2 SR
/-! ### Label -/
abbrev sInit : Stmt := inClass (top 24) 1
theorem scInit : FnScope ["self", "marks", "mark", "different"] ((["self"] : List Str) ++ [("marks" : Str)]) (defScope sInit) := ⟨rfl, rfl, rfl, by decide +kernel, rfl, by decide +kernel, by decide +kernel⟩
def plus : Str := "+"
def ltext (ys : List Str) : Str := if (Txt.join plus ys).length = 0 then "-" else Txt.join plus ys
def isNm (x : Str) : Bool := nmC x.cps.toList
theorem putF2 (u v : V) : putF "_text" v (putF "_marks" u []) = ([(("_marks" : Str), u), (("_text" : Str), v)] : List (Str × V)) := if_neg (by decide +kernel)
theorem join_is (sep : Str) (ts : List Str) : Txt.join sep ts = Str.join sep ts := StrLaws.glued_eq_join _ _
theorem isNm_len {x : Str} (h : isNm x = true) : x.cps.toList.length ≤ 8 := of_decide_eq_true (Bool.and_eq_true_iff.mp h).1
theorem isNm_str {x : Str} (h : isNm x = true) : x.length ≤ 8 := by
  rw [txt_of x, txt_len]
  exact isNm_len h
theorem lens_of {ys : List Str} (h : ∀ y ∈ ys, isNm y = true) : (ys.map (·.length)).sum ≤ 8 * ys.length := by
  induction ys with
  | nil => exact Nat.le_refl _
  | cons y r ih =>
    have a := isNm_str (h y List.mem_cons_self)
    have b := ih fun z hz => h z (List.mem_cons_of_mem _ hz)
    rw [List.map_cons, List.sum_cons, List.length_cons]
    omega
theorem plus_len : plus.length = 1 := by decide +kernel
theorem jlen {ys : List Str} (h : ∀ y ∈ ys, isNm y = true) : (Txt.join plus ys).length ≤ 9 * ys.length := by
  rw [join_is]
  have a := StrLaws.join_length_le plus ys
  rw [plus_len] at a
  have b := lens_of h
  omega
abbrev bad (v : V) : Bool := !nameV v
theorem find_first {xs : List V} {i : Nat} {v : V} (h : xs[i]? = some v) (good : (xs.take i).all nameV = true) (b : nameV v = false) : xs.find? bad = some v := by
  have hi : i < xs.length := (List.getElem?_eq_some_iff.mp h).1
  have hv : xs[i] = v := (List.getElem?_eq_some_iff.mp h).2
  have e : xs = xs.take i ++ v :: xs.drop (i + 1) := by
    rw [← hv, ← List.drop_eq_getElem_cons hi, List.take_append_drop]
  rw [e, List.find?_append, List.find?_eq_none.mpr fun u hu => by simp [bad, List.all_eq_true.mp good u hu]]
  simp [bad, b]
theorem all_names : ∀ {xs : List V}, xs.all nameV = true → ∃ ts : List Str, xs = ts.map V.str ∧ ts.all isNm = true
  | [], _ => ⟨[], rfl, rfl⟩
  | v :: r, h => by
    rw [List.all_cons, Bool.and_eq_true] at h
    obtain ⟨ts, e, q⟩ := all_names h.2
    cases v with
    | str x => exact ⟨x :: ts, by rw [e]; rfl, by rw [List.all_cons, q, Bool.and_true]; exact h.1⟩
    | _ => cases h.1
/-- the class Label at C; InvalidName at CN, TooMany at CM -/
structure LabC (K : PySem.W.Frag) (mg : Str → Option Value) (C f CN fN CM fM : Addr) (fd dN dM : FuncData) : Prop where
  mkr : Mk K C f
  cl : Cls K C
  m : mg "Label" = some (.ref C)
  rd : ∃ mc tk, ClX.CRead K C mc ∧ ClX.CVal K C mc "MOST" (.int 4) (.int 4 tk)
  n1 : NoAttr K C "_marks"
  n2 : NoAttr K C "_text"
  F : Fun K "__init__" "Label.__init__" sInit f fd
  N : IK K mg CN fN dN
  M : IM K mg CM fM dM
section
variable {P : Program} {w : World} {K : PySem.W.Frag} {mg : Str → Option Value} {base : Heap}
def spInit (K : PySem.W.Frag) (C CN CM : Addr) : Sp := fun vs H Q E => ∃ (x dx p : Addr) (xs : List V), vs = [.ref x, .ref p] ∧ H x = some (.ins C dx []) ∧ H p = some (.tup xs) ∧ xs.length < 60 ∧ (∀ v ∈ xs, Cl K H v) ∧
  (∀ v, xs.find? bad = some v → Bad "value" CN H v E) ∧ ∀ ts ys, xs = ts.map V.str → ts.all isNm = true → Srt ts ys → (4 < ys.length → BadM CM H (.str "marks") (.int 4) E) ∧
  (ys.length ≤ 4 → ∀ H' t, (∀ b o, b ≠ x → H b = some o → H' b = some o) → H' x = some (.ins C dx [("_marks", .ref t), ("_text", .str (ltext ys))]) → H' t = some (.tup (ys.map V.str)) → Q .non H')
theorem Cl.same {H H' : Hp} {v : V} (h : Cl K H v) (s : ∀ a t, v = .ref a → TyX K H (.ref a) t → TyX K H' (.ref a) t) : Cl K H' v := by
  cases h with
  | non => exact .non
  | bl b => exact .bl b
  | int i => exact .int i
  | str l q => exact .str l q
  | oth t a b c => exact .oth (s _ _ rfl t) a b c
theorem tyx_same {H H' : Hp} {v : V} {t : Value} (h : TyX K H v t) (s : Same H H') : TyX K H' v t := by
  cases h with
  | base h =>
    cases h with
    | lst e => exact .base (.lst (s _ _ e))
    | tup e => exact .base (.tup (s _ _ e))
    | dK e => exact .base (.dK (s _ _ e))
    | dT e => exact .base (.dT (s _ _ e))
    | frz e => exact .base (.frz (s _ _ e))
    | ins e c a n tk m => exact .base (.ins (s _ _ e) c a n tk m)
    | non => exact .base .non
    | bl b => exact .base (.bl b)
    | int i => exact .base (.int i)
    | str x => exact .base (.str x)
    | flt x => exact .base (.flt x)
  | byt b => exact .byt b
  | set e => exact .set (s _ _ e)
  | kList e c => exact .kList e c
  | kTuple e c => exact .kTuple e c
  | kDict e c => exact .kDict e c
  | fTuple e => exact .fTuple (s _ _ e)
  | fDict e => exact .fDict (s _ _ e)
theorem ok_init {C f CN fN CM fM fI : Addr} {fd dN dM dI : FuncData} {tk t2 : Tok} (L : LabC K mg C f CN fN CM fM fd dN dM) (Z : Zn mg) (zT : mg "tuple" = none) (zS : mg "set" = none) (zO : mg "sorted" = none) (mM : mg "MOST_LETTERS" = some (.int 8 tk)) (mL : mg "LETTERS" = some (.str "abcdefghijklmnopqrstuvwxyz" t2))
    (AN : At K mg "is_name" sIsName ["value"] fI dI) : FnR P w K mg base (L2.CX P w) 3 f (fun vs H Q E => ∃ ws rest, vs = ws ++ rest ∧ ws.length = ([("self" : Str)]).length ∧ rest.length ≤ sizeLine ∧ ∀ p, H p = Option.none → spInit K C CN CM (ws ++ [V.ref p]) (upd H p (.tup rest)) Q E) := by
  have GN : FnOk P w K mg base CX0 1 fI dI ["value"] (spName K) := ok_name AN.F Z mM mL
  have GK : FnOk P w K mg base CX0 1 fN dN ["self", "value"] (spInitK CN) := ok_initK L.N
  have GM : FnOk P w K mg base CX0 1 fM dM ["self", "kind", "limit"] (spInitM CM) := ok_initM L.M
  obtain ⟨oc, od, kV, doc, pm, an, cdv, ct, osl, rfl, lk, hcd⟩ := L.F.ex
  obtain ⟨mc, tc, rd, cv⟩ := L.rd
  refine StX.fn_star lk hcd scInit StX.cxUp (StX.bind_star1 (B := fun us => bindArgs (PySem.W.fnOf "__init__" "Label.__init__" (defArgs sInit) (defBody sInit) (defScope sInit) .none kV doc pm an cdv ct) ⟨us, []⟩) (fun _ => rfl) (fun _ _ _ => rfl)) fun A outer_ s H vs Q E hr h => ?_
  obtain ⟨x, dx, p, xs, rfl, hx, hp, few, cls, kb, kt⟩ := h
  refine ⟨_, pss_cons (ps_for (passes_of rfl) rfl (pi_tup (pv 1)) (pg_name (i := 2) scInit.nd rfl (Or.inl rfl)) (pss_one (ps_if (pt_not (pt_val (pe_call GN (hr.mono (by decide)) (by rfl) AN.m AN.F.kp AN.b .nil pass0 (pa_cons (pv 2) pa_nil))))
      (pss_one (ps_raise rfl (takes_of rfl rfl rfl rfl) (pmk_oex L.N.o L.N.iC L.N.tI GK hr L.N.b .nil pass0 (by rfl) L.N.m (by exact (pa_cons (pv 2) pa_nil))))) pss_nil)))
    (pss_cons (ps_set (i := 3) scInit.nd rfl (Or.inl rfl) (pe_callB (LB.cr_sortBag rfl) (by rfl) zO (by decide +kernel) (pa_cons (pe_callTy (LB.cr_bag rfl) (by rfl) zS (by decide +kernel) (pa_cons (pv 1) pa_nil)) pa_nil)))
    (pss_cons (ps_if (pt_cmpR op_gt (pe_callB call_len_seq (by rfl) Z.zLen PySem.boot_len (pa_cons (pv 3) pa_nil)) (ClX.pe_cval (pe_glob (v := .ref C) rfl L.m rfl)) (nomark _))
      (pss_one (ps_raise rfl (takes_of rfl rfl rfl rfl) (AEx.pmk_ae L.M.o L.M.iC L.M.tI GM hr L.M.b pass0 (by rfl) L.M.m (by exact (pa_cons pe_str (pa_cons (ClX.pe_cval (pe_glob (v := .ref C) rfl L.m rfl)) pa_nil)))))) pss_nil)
    (pss_cons (ps_fld (pv 0) (pe_callTy call_tuple_of (by rfl) zT (by decide +kernel) (pa_cons (pv 3) pa_nil)) rfl)
    (pss_one (ps_fld (pv 0) (pe_orT (pe_join pe_str (pv 3)) (pe_one pe_str)) rfl))))), ?_⟩
  have hsl : sizeLine = 16777216 := sizeLine_eq
  refine ⟨_, rfl, p, rfl, ⟨_, SqT.of hp⟩, ?_⟩
  refine for_tup (xs := xs) (fun i σ H' => Same H H' ∧ (xs.take i).all nameV = true ∧ ∃ m, σ = [some (.ref x), some (.ref p), m, none]) ⟨Same.refl H, rfl, none, rfl⟩ (fun i σ H' _ q => SqT.of (q.1 _ _ hp)) ?_ ?_
  · rintro i v σ H' hi ⟨sm, good, m, rfl⟩
    have cl : Cl K H' v := Cl.same (cls v (List.mem_of_getElem? hi)) fun a t _ ty => tyx_same ty sm
    refine ⟨_, rfl, v, rfl, cl, fun H2 s2 => ⟨_, rfl, ?_⟩⟩
    have sm2 : Same H H2 := fun b o q => s2 _ _ (sm _ _ q)
    by_cases nm : nameV v = true
    · rw [nm]
      exact ⟨sm2, by rw [take_snoc hi, List.all_append, good, List.all_cons, nm]; rfl, some v, rfl⟩
    · have nm' : nameV v = false := by simpa using nm
      rw [nm']
      exact ⟨_, rfl, mkK H2 v (bad_of sm2 (kb v (find_first hi good nm')))⟩
  · rintro σ H1 ⟨sm, good, m, rfl⟩
    rw [List.take_of_length_le (Nat.le_refl _)] at good
    obtain ⟨ts, rfl, nms⟩ := all_names good
    have nmAt : ∀ y ∈ ts, isNm y = true := fun y hy => List.all_eq_true.mp nms y hy
    rw [List.length_map] at few
    refine ⟨_, rfl, p, ts, rfl, .inl (SqT.of (sm _ _ hp)), by omega, fun b ks hb mem nd le => ?_⟩
    refine ⟨b, ks, rfl, upd_same, by omega, fun ys d pm srt hd => ?_⟩
    have srtd : Srt ts ys := ⟨pm.nodup_iff.mpr nd, srt, fun y => pm.mem_iff.trans (mem y)⟩
    obtain ⟨k5, k4⟩ := kt ts ys rfl nms srtd
    obtain ⟨H2, eH⟩ : ∃ H2, H2 = upd (upd H1 b (LB.BagO w b ks)) d (.lst (ys.map V.str)) := ⟨_, rfl⟩
    have sm2 : Same H H2 := fun c o q => by
      rw [eH, upd_ne (ne_of_none (by rw [upd_ne (ne_of_none (sm _ _ q) hb)]; exact sm _ _ q) hd), upd_ne (ne_of_none (sm _ _ q) hb)]
      exact sm _ _ q
    have hL : H2 d = some (.lst (ys.map V.str)) := by rw [eH, upd_same]
    suffices z : ∀ F : Hp → Prop, F H2 → F (upd (upd H1 b (LB.BagO w b ks)) d (.lst (ys.map V.str))) by
      refine z _ ?_
      clear z
      clear eH
      dsimp only
      refine ⟨_, rfl, d, _, rfl, .inl (SqL.of hL), C, mc, _, _, rfl, rd, cv, _, _, rfl, rfl, _, rfl, ?_⟩
      rw [List.length_map]
      show if decide ((4 : Int) < (ys.length : Int)) = true then _ else _
      refine ite2 (fun h5 => ?_) (fun h5 => ?_)
      · have l5 : 4 < ys.length := by have := of_decide_eq_true h5; omega
        refine ⟨C, mc, _, _, rfl, rd, cv, ?_⟩
        exact mkM H2 _ _ (badM_of sm2 (k5 l5))
      have l4 : ys.length ≤ 4 := by
        have : ¬ ((4 : Int) < (ys.length : Int)) := fun z => h5 (decide_eq_true z)
        omega
      refine ⟨_, rfl, d, _, rfl, .inl ⟨SqL.of hL, fun t ht => ?_⟩⟩
      have hx2 := sm2 _ _ hx
      have nx : x ≠ t := ne_of_none hx2 ht
      have nd2 : d ≠ t := ne_of_none hL ht
      have xd : d ≠ x := ne_of hL hx2 (by intro z; cases z)
      refine ⟨_, rfl, x, C, dx, [], rfl, by rw [upd_ne nx]; exact hx2, L.cl, L.n1, by decide, ?_⟩
      have hL3 : (upd (upd H2 t (.tup (ys.map V.str))) x (.ins C dx (putF "_marks" (.ref t) []))) d = some (.lst (ys.map V.str)) := by
        rw [upd_ne xd, upd_ne nd2]
        exact hL
      have nmY : ∀ y ∈ ys, isNm y = true := fun y hy => nmAt y ((srtd.2.2 y).mp hy)
      have lens : (ys.map (·.length)).sum + ys.length * plus.length ≤ 16777216 := by
        have a := lens_of nmY
        rw [plus_len]
        omega
      have jl : (Txt.join plus ys).length ≤ 16777216 := by
        have := jlen nmY
        omega
      refine ⟨⟨_, rfl⟩, _, rfl, plus, d, ys, rfl, rfl, .inl (SqL.of hL3), lens, ?_⟩
      refine ⟨_, ⟨by rw [hsl]; exact jl, rfl⟩, ?_⟩
      have fin : ∀ z : Str, z = ltext ys → Q .non (upd (upd (upd H2 t (.tup (ys.map V.str))) x (.ins C dx (putF "_marks" (.ref t) []))) x (.ins C dx (putF "_text" (.str z) (putF "_marks" (.ref t) [])))) := fun z hz => by
        subst hz
        refine k4 l4 _ t (fun c o nc q => ?_) ?_ ?_
        · rw [upd_ne nc, upd_ne nc, upd_ne (ne_of_none (sm2 _ _ q) ht)]
          exact sm2 _ _ q
        · rw [upd_same, putF2]
        · rw [upd_ne (Ne.symm nx), upd_ne (Ne.symm nx), upd_same]
      refine ite2 (fun h => ?_) (fun h => ?_)
      · refine ⟨_, rfl, x, C, dx, _, rfl, upd_same, L.cl, L.n2, (by show 1 < 1000; decide), fin _ (if_neg fun z => ?_).symm⟩
        rw [z] at h
        cases h
      · refine ⟨_, rfl, x, C, dx, _, rfl, upd_same, L.cl, L.n2, (by show 1 < 1000; decide), fin _ (if_pos ?_).symm⟩
        have h2 : ((Txt.join plus ys).length : Int) = 0 := by simpa using h
        omega
    intro F h; rw [← eH]; exact h
end
end K15
namespace K15
open PySem L2 SR
/-! ### marks_of_text -/
def piecesC (l : Tx) : List Tx := SP.splA 43 [] l
/-- the marks of the label with this text -/
def rdM (l : Tx) : Option (List Str) :=
  if l = [45] then some [] else
  if 4 < (piecesC l).length then none else
  if (piecesC l).all nmC = true then (if ((piecesC l).map txt).Nodup ∧ PyProof.Rows.sortedS ((piecesC l).map txt) = true then some ((piecesC l).map txt) else none) else none
theorem dash_txt : Str.ofString "-" = txt [45] := by decide +kernel
theorem split_plus (l : Tx) : Txt.split (txt l) (Str.ofString "+") = (piecesC l).map txt := by
  have e : (Str.ofString "+" : Str) = ⟨#[43]⟩ := by decide +kernel
  rw [e]
  exact SP.split_is l (c := 43) (by decide)
theorem pieces_len (l : Tx) : (piecesC l).length ≤ l.length + 1 ∧ ∀ p ∈ piecesC l, p.length ≤ l.length := by
  refine ⟨(SP.splA_len 43 l []).1, fun p hp => ?_⟩
  have := (SP.splA_mem 43 l [] p hp).2
  rw [List.length_nil] at this
  omega
theorem low_lt {c : Nat} (h : low c = true) : c < 128 := by
  unfold low at h
  have := of_decide_eq_true (Bool.and_eq_true_iff.mp h).2
  omega
theorem nm_asc {l : Tx} (h : nmC l = true) : asc l := fun c hc => by
  unfold nmC at h
  have h2 := (Bool.and_eq_true_iff.mp (Bool.and_eq_true_iff.mp h).2).2
  exact low_lt (List.all_eq_true.mp h2 c hc)
theorem srt_iff {ms ys : List Str} (s : Srt ms ys) : (ms.Nodup ∧ PyProof.Rows.sortedS ms = true) ↔ ms = ys :=
  ⟨fun h => SR.unique ⟨h.1, h.2, fun _ => Iff.rfl⟩ s, fun e => by rw [e]; exact ⟨s.1, s.2.1⟩⟩
theorem nms_is (ts : List Tx) : (ts.map txt).all isNm = ts.all nmC := by
  rw [List.all_map]
  rfl
theorem map_tv (ts : List Tx) : (ts.map txt).map V.str = ts.map tv := by
  rw [List.map_map]
  rfl
theorem tx_of (xs : List Str) : ∃ ts : List Tx, xs = ts.map txt := ⟨xs.map fun x => x.cps.toList, by
  rw [List.map_map]
  have : (txt ∘ fun x : Str => x.cps.toList) = id := by funext x; exact (txt_of x).symm
  rw [this, List.map_id]⟩
section
variable {P : Program} {w : World} {K : PySem.W.Frag} {mg : Str → Option Value} {base : Heap}
def spMk : Sp := fun vs H Q _ => ∃ l : Tx, vs = [tv l] ∧ l.length ≤ 4000 ∧ (rdM l = none → ∀ H', Same H H' → Q .non H') ∧ (∀ ms, rdM l = some ms → ∀ H' p, Same H H' → H p = none → H' p = some (.lst (ms.map V.str)) → Q (.ref p) H')
theorem scMk : FnScope ["text", "marks", "mark"] ["text"] (defScope sMarksOf) := ⟨rfl, rfl, rfl, by decide +kernel, rfl, by decide +kernel, by decide +kernel⟩
theorem ok_mk {C f CN fN CM fM fI f1 : Addr} {fd dN dM dI d1 : FuncData} {tk t2 : Tok} (F : Fun K "marks_of_text" "marks_of_text" sMarksOf f1 d1) (L : LabC K mg C f CN fN CM fM fd dN dM) (Z : Zn mg) (zS : mg "set" = none) (zO : mg "sorted" = none) (mM : mg "MOST_LETTERS" = some (.int 8 tk)) (mL : mg "LETTERS" = some (.str "abcdefghijklmnopqrstuvwxyz" t2))
    (AN : At K mg "is_name" sIsName ["value"] fI dI) : FnOk P w K mg base CX0 2 f1 d1 ["text"] spMk := by
  have GN : FnOk P w K mg base CX0 1 fI dI ["value"] (spName K) := ok_name AN.F Z mM mL
  obtain ⟨mc, tc, rd, cv⟩ := L.rd
  refine F.ok scMk (fun vs H Q E h => ?_) (fun cdv A outer_ s H vs Q E hr h => ?_)
  · obtain ⟨l, rfl, _⟩ := h
    rfl
  · obtain ⟨l, rfl, hl, kn, ks⟩ := h
    have un : (A.deeper (PyProof.Rows.envOfC "marks_of_text" (defScope sMarksOf) s.heap.objs.size f1 cdv)).units + 64 < cLine := by have := hr.units; omega
    refine ⟨_, pss_cons (ps_if (pt_cmpR op_eq (pv 0) pe_str (nomark _)) (pss_one (ps_ret (pe_lst pa_nil))) pss_nil)
      (pss_cons (ps_set (i := 1) scMk.nd rfl (Or.inl rfl) (pe_split (pv 0) pe_str))
      (pss_cons (ps_if (PW.pt (pw_or (pt_cmpR op_gt (pe_callB call_len_seq (by rfl) Z.zLen PySem.boot_len (pa_cons (pv 1) pa_nil)) (ClX.pe_cval (pe_glob (v := .ref C) rfl L.m rfl)) (nomark _))
          (pw_or1 (pt_not (pt_val (pe_callB (cr_all rfl) (by rfl) Z.zAll (by decide +kernel) (pa_cons (pe_lc (own := [("mark", 2)]) (g := gName 2) (tt := tYes) rfl scMk.nd (pi_list (pv 1))
            (blkOk_by (N := ["text", "marks", "mark"]) (sc := defScope sMarksOf) (by decide +kernel)) (fun _ _ _ _ _ => pg_name (i := 2) scMk.nd rfl (Or.inl rfl)) (fun _ _ _ _ _ => pts_nil)
            (fun _ _ _ _ _ => pe_call GN hr (by rfl) AN.m AN.F.kp AN.b .nil pass0 (pa_cons (pv 2) pa_nil))) pa_nil)))))))
        (pss_one (ps_ret pe_non)) pss_nil)
      (pss_one (ps_ret (pe_ifExp (pt_cmpR (op_eqD un) (pv 1) (pe_callB (LB.cr_sortBag rfl) (by rfl) zO (by decide +kernel) (pa_cons (pe_callTy (LB.cr_bag rfl) (by rfl) zS (by decide +kernel) (pa_cons (pv 1) pa_nil)) pa_nil)) (nomark _)) (pv 1) pe_non))))), ?_⟩
    have hsl : sizeLine = 16777216 := sizeLine_eq
    have hline : (txt l).length + 2 ≤ sizeLine := by rw [txt_len]; omega
    refine ⟨_, rfl, rfl, _, rfl, ?_⟩
    rw [dash_txt, tv_eq]
    refine ite2 (fun a => ?_) (fun a => ?_)
    · have e : rdM l = some [] := by unfold rdM; rw [if_pos (of_decide_eq_true a)]
      refine ⟨(by show 0 ≤ sizeLine; decide), fun p hp => ?_⟩
      exact ks [] e _ p (same_upd hp) hp upd_same
    have nd : l ≠ [45] := fun z => a (decide_eq_true z)
    refine ⟨_, rfl, ⟨_, rfl⟩, txt l, Str.ofString "+", rfl, rfl, (by decide +kernel), hline, fun p hp => ?_⟩
    rw [split_plus, map_tv]
    obtain ⟨pl, pe⟩ := pieces_len l
    have sm1 : Same H (upd H p (.lst ((piecesC l).map tv))) := same_upd hp
    have hL1 : (upd H p (.lst ((piecesC l).map tv))) p = some (.lst ((piecesC l).map tv)) := upd_same
    revert sm1 hL1
    generalize upd H p (.lst ((piecesC l).map tv)) = H1
    intro sm1 hL1
    refine ⟨_, rfl, p, _, rfl, .inl (SqL.of hL1), C, mc, _, _, rfl, rd, cv, _, _, rfl, rfl, _, rfl, ?_⟩
    rw [List.length_map]
    show if decide ((4 : Int) < ((piecesC l).length : Int)) = true then _ else _
    refine ite2 (fun b => ?_) (fun b => ?_)
    · have l5 : 4 < (piecesC l).length := by have := of_decide_eq_true b; omega
      exact kn (by unfold rdM; rw [if_neg nd, if_pos l5]) _ sm1
    have l4 : ¬ 4 < (piecesC l).length := fun z => b (decide_eq_true (by omega))
    refine ⟨_, rfl, p, rfl, ⟨_, SqL.of hL1⟩, fun D hD => ?_⟩
    refine lc_it walk_list (fun i H' => Same H1 H' ∧ H' D = some (.lst ((((piecesC l).map nmC).take i).map V.bl))) ⟨same_upd hD, upd_same⟩ (fun i H' _ q => SqL.of (q.1 _ _ hL1)) ?_ ?_
    · rintro i x H2 H3 hi ⟨sm, hL⟩ ⟨rfl, hv⟩
      rw [List.getElem?_map] at hv
      obtain ⟨y, hy, rfl⟩ := Option.map_eq_some_iff.mp hv
      have hyl : y.length ≤ 4000 := Nat.le_trans (pe y (List.mem_of_getElem? hy)) hl
      refine ⟨rfl, _, rfl, tv y, rfl, .str y hyl, fun H4 s4 => ⟨_, s4 _ _ hL, ?_, fun b o q => ?_, ?_⟩⟩
      · rw [List.length_map, List.length_take, List.length_map]
        omega
      · rw [upd_ne (ne_of_none q hD)]
        exact s4 _ _ (sm b o q)
      · rw [upd_same, take_snoc (x := nmC y) (by rw [List.getElem?_map, hy]; rfl), List.map_append]
        rfl
    · rintro H2 ⟨sm, hL⟩
      rw [List.length_map, List.take_of_length_le (by rw [List.length_map]; exact Nat.le_refl _)] at hL
      refine ⟨D, _, rfl, SqL.of hL, _, rfl, ?_⟩
      have ea : ((piecesC l).map nmC).all id = (piecesC l).all nmC := by rw [List.all_map]; rfl
      rw [ea]
      have sm2 : Same H H2 := sm1.trans sm
      by_cases al : (piecesC l).all nmC = true
      · rw [al]
        have hL2 := sm _ _ hL1
        have asc_all : ∀ t ∈ piecesC l, asc t := fun t ht => nm_asc (List.all_eq_true.mp al t ht)
        refine ⟨_, rfl, _, rfl, p, (piecesC l).map txt, rfl, .inr (by rw [map_tv]; exact SqL.of hL2), by rw [List.length_map]; omega, fun c ks2 hc mem nd2 le => ?_⟩
        rw [List.length_map] at le
        refine ⟨c, ks2, rfl, upd_same, by omega, fun ys d pm srt hd => ?_⟩
        have srtd : Srt ((piecesC l).map txt) ys := ⟨pm.nodup_iff.mpr nd2, srt, fun y => pm.mem_iff.trans (mem y)⟩
        obtain ⟨us, rfl⟩ := tx_of ys
        have asc_us : ∀ t ∈ us, asc t := fun t ht => by
          have m := (srtd.2.2 (txt t)).mp (List.mem_map.mpr ⟨t, ht, rfl⟩)
          obtain ⟨z, hz, e⟩ := List.mem_map.mp m
          rw [← txt_inj e]
          exact asc_all z hz
        have hL3 : (upd (upd H2 c (LB.BagO w c ks2)) d (.lst ((us.map txt).map V.str))) p = some (.lst ((piecesC l).map tv)) := by
          rw [upd_ne (ne_of_none (by rw [upd_ne (ne_of_none hL2 hc)]; exact hL2) hd), upd_ne (ne_of_none hL2 hc)]
          exact hL2
        have hL4 : (upd (upd H2 c (LB.BagO w c ks2)) d (.lst ((us.map txt).map V.str))) d = some (.lst (us.map tv)) := by rw [upd_same, map_tv]
        have sm3 : Same H (upd (upd H2 c (LB.BagO w c ks2)) d (.lst ((us.map txt).map V.str))) := fun e o q => by
          have q2 := sm2 _ _ q
          rw [upd_ne (ne_of_none (by rw [upd_ne (ne_of_none q2 hc)]; exact q2) hd), upd_ne (ne_of_none q2 hc)]
          exact q2
        refine ⟨_, _, .lst (SqL.of hL3) (dpS _), .lst (SqL.of hL4) (dpS _), shS _ asc_all, shS _ asc_us, ?_⟩
        rw [eqvLS]
        refine ⟨_, rfl, ?_⟩
        have eq2 : (piecesC l = us) ↔ (piecesC l).map txt = us.map txt := ⟨fun e => by rw [e], fun e => by
          have inj : ∀ a b : List Tx, a.map txt = b.map txt → a = b := fun a => by
            induction a with
            | nil => intro b e; cases b with
              | nil => rfl
              | cons _ _ => cases e
            | cons x r ih => intro b e; cases b with
              | nil => cases e
              | cons y q =>
                rw [List.map_cons, List.map_cons] at e
                rw [txt_inj (List.cons.inj e).1, ih q (List.cons.inj e).2]
          exact inj _ _ e⟩
        refine ite2 (fun z => ?_) (fun z => ?_)
        · have e := of_decide_eq_true z
          have good := (srt_iff srtd).mpr (eq2.mp e)
          have r : rdM l = some ((piecesC l).map txt) := by unfold rdM; rw [if_neg nd, if_neg l4, if_pos al, if_pos good]
          exact ⟨_, rfl, ks _ r _ p sm3 hp (hL3.trans (by rw [map_tv]))⟩
        · have no : ¬ (((piecesC l).map txt).Nodup ∧ PyProof.Rows.sortedS ((piecesC l).map txt) = true) := fun g => z (decide_eq_true (eq2.mpr ((srt_iff srtd).mp g)))
          exact kn (by unfold rdM; rw [if_neg nd, if_neg l4, if_pos al, if_neg no]) _ sm3
      · have al' : (piecesC l).all nmC = false := by simpa using al
        rw [al']
        exact kn (by unfold rdM; rw [if_neg nd, if_neg l4, if_neg al]) _ sm2
end
end K15
namespace K15
open PySem L2 SR
/-! ### what a label is, and its methods -/
abbrev sGetM : Stmt := inClass (top 24) 3
abbrev sHas : Stmt := inClass (top 24) 8
abbrev sEq : Stmt := inClass (top 24) 9
abbrev sLen : Stmt := inClass (top 24) 10
abbrev sStr : Stmt := inClass (top 24) 11
abbrev sRepr : Stmt := inClass (top 24) 12
def Lb (C : Addr) (H : Hp) (a : Addr) (ys : List Str) : Prop := ys.all isNm = true ∧ ys.length ≤ 4 ∧ Srt ys ys ∧ ∃ dx t, H a = some (.ins C dx [(("_marks" : Str), .ref t), (("_text" : Str), .str (ltext ys))]) ∧ H t = some (.tup (ys.map V.str))
theorem Lb.keep {C : Addr} {H H' : Hp} {a : Addr} {ys : List Str} (h : Lb C H a ys) (s : ∀ b o, H b = some o → (∃ xs, o = .tup xs) ∨ (∃ D dx fs, o = .ins D dx fs) → H' b = some o) : Lb C H' a ys := by
  obtain ⟨n, l, z, dx, t, h1, h2⟩ := h
  exact ⟨n, l, z, dx, t, s _ _ h1 (.inr ⟨_, _, _, rfl⟩), s _ _ h2 (.inl ⟨_, rfl⟩)⟩
theorem Lb.same {C : Addr} {H H' : Hp} {a : Addr} {ys : List Str} (h : Lb C H a ys) (s : Same H H') : Lb C H' a ys := h.keep fun b o e _ => s b o e
theorem Lb.ins {C : Addr} {H : Hp} {a : Addr} {ys : List Str} (h : Lb C H a ys) : ∃ dx fs, H a = some (.ins C dx fs) := by
  obtain ⟨_, _, _, dx, t, h1, _⟩ := h
  exact ⟨_, _, h1⟩
section
variable {X : Cx} {CX : CXT} {k : Nat} {f C : Addr} {sp : Sp} {E : XK} {x : Str} {e : Expr} {te : TE} {p p2 pos : Pos}
theorem pe_make0 (M : Mk X.K C f) (F : FnR X.prog X.w X.K X.mg X.base CX k f sp) (hr : Room (k + 1) X.A) (hg : Gl X x) (hm : X.mg x = some (.ref C)) (hx : Passes CX X E) (hd : (x == ("__debug__" : Str)) = false := by decide) :
    PE X (.Call (.Name x p) [] [] pos) (StX.tMakeR C sp E tNil) := ⟨by
  intro pins s σ H Q I h
  apply wpAny_Call_Name_kw (ld_glob I hg hm ?_ hd)
  exact PySem.W.callWith_K0 I.kIn M.kp (StX.run_makeR (us := []) (vs := []) M F hr hx I .nil h)⟩
/-- C(*y) -/
def tMakeS (K : PySem.W.Frag) (C : Addr) (sp : Sp) (E : XK) (te : TE) : TE := fun σ H Q => te σ H fun y H1 => ∃ p xs, y = V.ref p ∧ (SqT K H1 p xs ∨ SqL K H1 p xs) ∧ ∀ z dz, H1 z = Option.none → H1 dz = Option.none → dz ≠ z →
  sp (V.ref z :: xs) (upd (upd H1 dz (.own z)) z (.ins C dz [])) (fun v H2 => v = .non ∧ Q (.ref z) H2) E
theorem pe_makeS (M : Mk X.K C f) (F : FnR X.prog X.w X.K X.mg X.base CX k f sp) (hr : Room (k + 1) X.A) (hg : Gl X x) (hm : X.mg x = some (.ref C)) (hx : Passes CX X E) (he : PE X e te) (hd : (x == ("__debug__" : Str)) = false := by decide)
    (one : starEach [.Starred e p2] X.env = [(true, eval e X.env)] := by rfl) : PE X (.Call (.Name x p) [.Starred e p2] [] pos) (tMakeS X.K C sp E te) := ⟨by
  intro pins s σ H Q I h
  apply wpAny_Call_Name_kw (ld_glob I hg hm ?_ hd)
  refine PySem.W.callWith_S (h₀ := X.base) I.ok.mod.kin M.kp (thn (he.run pins s σ H _ I h) ?_) one
  rintro v s1 ⟨_, H1, I1, ry, a, xs, rfl, hxs, q⟩
  cases ry
  exact StX.star_any I1 hxs fun us s2 I2 rv => ⟨I2.kIn, StX.run_makeR M F hr hx I2 rv q⟩⟩
theorem call_reprS : CallR X (.builtin "repr") (fun xs H Q => ∃ y : Str, xs = [.str y] ∧ (reprText y).length ≤ sizeLine ∧ Q (.str (reprText y)) H) := by
  rintro pins s σ H xs us Q I r ⟨y, rfl, hz, q⟩
  obtain ⟨u, rfl, t, rfl⟩ := vals1 r
  exact PySem.P.repr_of_str ⟨.str _, H, I.tok _, ⟨_, rfl⟩, q⟩ hz
end
/-- the methods of Label, at the class at C -/
structure LabM (K : PySem.W.Frag) (mg : Str → Option Value) (C gE gL gS gR gH pM gM : Addr) (dE dL dS dR dH dM : FuncData) : Prop where
  cl : Cls K C
  n1 : NoAttr K C "_marks"
  n2 : NoAttr K C "_text"
  m : mg "Label" = some (.ref C)
  E : Fun K "__eq__" "Label.__eq__" sEq gE dE
  O : EqO.OwnE K C gE
  L : Fun K "__len__" "Label.__len__" sLen gL dL
  fL : PySem.W.findIn K (.ref C) "__len__" = some (some (.ref gL))
  iL : PySem.W.isFn K (.ref gL) = true
  S : Fun K "__str__" "Label.__str__" sStr gS dS
  fS : PySem.W.findIn K (.ref C) "__str__" = some (some (.ref gS))
  iS : PySem.W.isFn K (.ref gS) = true
  R : Fun K "__repr__" "Label.__repr__" sRepr gR dR
  fR : PySem.W.findIn K (.ref C) "__repr__" = some (some (.ref gR))
  iR : PySem.W.isFn K (.ref gR) = true
  H : Fun K "__contains__" "Label.__contains__" sHas gH dH
  fH : PySem.W.findIn K (.ref C) "__contains__" = some (some (.ref gH))
  iH : PySem.W.isFn K (.ref gH) = true
  M : Fun K "marks" "Label.marks" sGetM gM dM
  pr : PropOf K C "marks" pM gM
  bE : Binds K dE ["self", "other"] []
  bL : Binds K dL ["self"] []
  bS : Binds K dS ["self"] []
  bR : Binds K dR ["self"] []
  bH : Binds K dH ["self", "mark"] []
  bM : Binds K dM ["self"] []
  kt : ∀ T ∈ ["NoneType", "bool", "int", "str", "list", "tuple", "dict"], PySem.W.kitOne K (.type T) (.ref C) = some false
  kc : PySem.W.kitOne K (.ref C) (.ref C) = some true
  ca : PySem.W.findIn K (.ref C) "__class__" = some (some (.builtin "object.__class__"))
  cn : PySem.W.specialIn K (.builtin "object.__class__") "__get__" = some (some (.builtin "getset_descriptor.__get__"))
  ct : PySem.W.takesIn K (.builtin "object.__class__") = some true
  cm : PySem.W.mroIn K C (.type "object") = some true
theorem bt_ty {K : PySem.W.Frag} {H : Hp} {v : V} {T : String} (h : EqO.BtV K H v T) : TyX K H v (.type T) := by
  cases h with
  | non => exact .base .non
  | bl b => exact .base (.bl b)
  | int i => exact .base (.int i)
  | str x => exact .base (.str x)
  | lst e => exact .base (.lst e)
  | tup e => exact .base (.tup e)
  | dic e => exact .base (.dK e)
  | kTup e c => exact .kTuple e c
theorem canT : ∀ ds : List Str, (∀ x ∈ ds, PyData.strOk x = true) → PyData.canLayAll0 (ds.map PyData.str) = true ∧ PyData.depthAll (ds.map PyData.str) = 0
  | [], _ => ⟨rfl, rfl⟩
  | x :: r, h => by
    obtain ⟨h1, h2⟩ := canT r fun u hu => h u (List.mem_cons_of_mem _ hu)
    refine ⟨?_, ?_⟩
    · show (PyData.canLay0 (.str x) && PyData.canLayAll0 (r.map PyData.str)) = true
      rw [h1]
      simp [PyData.canLay0, h x List.mem_cons_self]
    · show max (PyData.depth (.str x)) (PyData.depthAll (r.map PyData.str)) = 0
      rw [h2]
      simp [PyData.depth]
theorem shT (ds : List Str) (h : ∀ x ∈ ds, PyData.strOk x = true) : SeqAt.shaped (.tuple (ds.map PyData.str)) = true := by
  obtain ⟨h1, h2⟩ := canT ds h
  unfold SeqAt.shaped
  have e1 : PyData.canLay0 (.tuple (ds.map PyData.str)) = true := by rw [PyData.canLay0]; exact h1
  have e2 : PyData.depth (.tuple (ds.map PyData.str)) = 1 := by rw [PyData.depth, h2]
  rw [e1, e2]
  rfl
theorem eqvTS : ∀ ds es : List Str, PyData.eqvAll (ds.map PyData.str) (es.map PyData.str) = decide (ds = es)
  | [], [] => by simp [PyData.eqvAll]
  | [], m :: ms => by simp [PyData.eqvAll]
  | n :: ns, [] => by simp [PyData.eqvAll]
  | n :: ns, m :: ms => by
    have ih := eqvTS ns ms
    show PyData.eqvAll (PyData.str n :: ns.map PyData.str) (PyData.str m :: ms.map PyData.str) = _
    rw [PyData.eqvAll, ih, PyData.eqv]
    by_cases h : n = m
    · subst h; simp
    · simp [h]
theorem eqvT (ds es : List Str) : PyData.eqv (.tuple (ds.map PyData.str)) (.tuple (es.map PyData.str)) = decide (ds = es) := by rw [PyData.eqv]; exact eqvTS ds es
theorem dpT {K : PySem.W.Frag} {H : Hp} : ∀ ds : List Str, DpAll K H (ds.map V.str) (ds.map PyData.str)
  | [] => .nil
  | x :: r => .cons (.str x) (dpT r)
theorem nm_ok {x : Str} (h : isNm x = true) : PyData.strOk x = true := by
  rw [txt_of x]
  exact strOk_asc (nm_asc h)
section
variable {P : Program} {w : World} {K : PySem.W.Frag} {mg : Str → Option Value} {base : Heap}
variable {C gE gL gS gR gH pM gM : Addr} {dE dL dS dR dH dM : FuncData}
/-! .marks -/
theorem ok_get (L : LabM K mg C gE gL gS gR gH pM gM dE dL dS dR dH dM) : FnOk P w K mg base CX0 1 gM dM ["self"] (getSp C "_marks") := by
  obtain ⟨oc, od, kV, doc, pm, an, cdv, ct, osl, rfl, lk, hcd⟩ := L.M.ex
  exact fn_getter (N := ["self"]) lk hcd ⟨rfl, rfl, rfl, by decide +kernel, rfl, by decide +kernel, by decide +kernel⟩ rfl rfl L.cl L.n1
/-! len -/
def spLen (C : Addr) : Sp := fun vs H Q _ => ∃ (a : Addr) (ys : List Str), vs = [.ref a] ∧ Lb C H a ys ∧ Q (.int (ys.length : Int)) H
theorem sc1 {st : Stmt} (h : FnScope ["self"] ["self"] (defScope st)) : FnScope ["self"] ["self"] (defScope st) := h
theorem ok_len (L : LabM K mg C gE gL gS gR gH pM gM dE dL dS dR dH dM) (Z : Zn mg) : FnOk P w K mg base CX0 1 gL dL ["self"] (spLen C) := by
  refine L.L.ok (N := ["self"]) ⟨rfl, rfl, rfl, by decide +kernel, rfl, by decide +kernel, by decide +kernel⟩ (fun vs H Q E h => ?_) (fun cdv A outer_ s H vs Q E hr h => ?_)
  · obtain ⟨a, ys, rfl, _⟩ := h
    rfl
  · obtain ⟨a, ys, rfl, ⟨nms, l4, sy, dx, t, ha, ht⟩, k⟩ := h
    refine ⟨_, pss_one (ps_ret (pe_callB call_len_seq (by rfl) Z.zLen PySem.boot_len (pa_cons (pe_fld (pv 0) rfl) pa_nil))), ?_⟩
    refine ⟨_, rfl, a, C, dx, _, .ref t, rfl, ha, L.cl, L.n1, rfl, t, _, rfl, .inr (SqT.of ht), ?_⟩
    rw [List.length_map]
    exact k
/-! str -/
def spStr (C : Addr) : Sp := fun vs H Q _ => ∃ (a : Addr) (ys : List Str), vs = [.ref a] ∧ Lb C H a ys ∧ Q (.str (ltext ys)) H
theorem ok_str (L : LabM K mg C gE gL gS gR gH pM gM dE dL dS dR dH dM) (Z : Zn mg) : FnOk P w K mg base CX0 1 gS dS ["self"] (spStr C) := by
  refine L.S.ok (N := ["self"]) ⟨rfl, rfl, rfl, by decide +kernel, rfl, by decide +kernel, by decide +kernel⟩ (fun vs H Q E h => ?_) (fun cdv A outer_ s H vs Q E hr h => ?_)
  · obtain ⟨a, ys, rfl, _⟩ := h
    rfl
  · obtain ⟨a, ys, rfl, ⟨nms, l4, sy, dx, t, ha, ht⟩, k⟩ := h
    refine ⟨_, pss_one (ps_ret (pe_callTy SkE.call_str_str (by rfl) Z.zStr (by decide +kernel) (pa_cons (pe_fld (pv 0) rfl) pa_nil))), ?_⟩
    exact ⟨_, rfl, a, C, dx, _, .str (ltext ys), rfl, ha, L.cl, L.n2, rfl, _, rfl, k⟩
/-! in -/
def hasV (v : V) (ys : List Str) : Bool := match v with
  | .str x => decide (x ∈ ys)
  | _ => false
theorem inV_str (x : Str) : ∀ ys : List Str, inV (.str x) (ys.map V.str) = decide (x ∈ ys)
  | [] => by simp [inV]
  | y :: r => by
    have ih := inV_str x r
    unfold inV at ih ⊢
    rw [List.map_cons, List.any_cons, ih]
    show ((y == x) || _) = _
    by_cases h : y = x
    · subst h; simp
    · have h' : ¬ x = y := fun e => h e.symm
      simp [h, h', List.mem_cons]
def spHas (K : PySem.W.Frag) (C : Addr) : Sp := fun vs H Q _ => ∃ (a : Addr) (v : V) (ys : List Str), vs = [.ref a, v] ∧ Lb C H a ys ∧ Cl K H v ∧ Q (.bl (hasV v ys)) H
theorem flat_all (ys : List Str) : (ys.map V.str).all flatV = true := by
  rw [List.all_map]
  exact List.all_eq_true.mpr fun _ _ => rfl
theorem ok_has (L : LabM K mg C gE gL gS gR gH pM gM dE dL dS dR dH dM) (Z : Zn mg) : FnOk P w K mg base CX0 1 gH dH ["self", "mark"] (spHas K C) := by
  refine L.H.ok (N := ["self", "mark"]) ⟨rfl, rfl, rfl, by decide +kernel, rfl, by decide +kernel, by decide +kernel⟩ (fun vs H Q E h => ?_) (fun cdv A outer_ s H vs Q E hr h => ?_)
  · obtain ⟨a, v, ys, rfl, _⟩ := h
    rfl
  · obtain ⟨a, v, ys, rfl, ⟨nms, l4, sy, dx, t, ha, ht⟩, cl, k⟩ := h
    refine ⟨_, pss_one (ps_ret (pe_and (pe_callB call_isi (by rfl) Z.zIs (by decide +kernel) (pa_cons (pv 1) (pa_cons (pe_bltn (v := .ty "str") (u := .type "str") (by rfl) Z.zStr (by decide +kernel) rfl) pa_nil))) (pe_one (pe_cmpR op_in_seq (pv 1) (pe_fld (pv 0) rfl) (by rfl))))), ?_⟩
    obtain ⟨ty, tx, kb, ki, ks⟩ := cl.kit
    refine ⟨_, rfl, v, .ty "str", ty, .type "str", vS v, rfl, .ty _, tx, ks, _, rfl, ?_⟩
    by_cases hs : vS v = true
    · obtain ⟨l, rfl, hl⟩ := cl.text hs
      rw [hs]
      refine ⟨_, rfl, _, rfl, a, C, dx, _, .ref t, rfl, ha, L.cl, L.n1, rfl, t, _, rfl, .inr (SqT.of ht), rfl, flat_all ys, ?_⟩
      rw [if_neg Bool.false_ne_true, inV_str]
      exact k
    · have hs' : vS v = false := by simpa using hs
      rw [hs']
      have e : hasV v ys = false := by cases v <;> first | rfl | cases hs'
      rw [e] at k
      exact k
/-! == -/
def spEqL (K : PySem.W.Frag) (C : Addr) : Sp := fun vs H Q _ => ∃ (a : Addr) (y : V) (xs : List Str), vs = [.ref a, y] ∧ Lb C H a xs ∧
  ((∃ T, EqO.BtV K H y T ∧ Q (.bl false) H) ∨ ∃ b ys, y = .ref b ∧ Lb C H b ys ∧ Q (.bl (decide (xs = ys))) H)
theorem ok_eq (L : LabM K mg C gE gL gS gR gH pM gM dE dL dS dR dH dM) (Z : Zn mg) : FnOk P w K mg base CX0 1 gE dE ["self", "other"] (spEqL K C) := by
  refine L.E.ok (N := ["self", "other"]) ⟨rfl, rfl, rfl, by decide +kernel, rfl, by decide +kernel, by decide +kernel⟩ (fun vs H Q E h => ?_) (fun cdv A outer_ s H vs Q E hr h => ?_)
  · obtain ⟨a, y, xs, rfl, _⟩ := h
    rfl
  · obtain ⟨a, y, xs, rfl, ⟨nms, l4, sy, dx, t, ha, ht⟩, h⟩ := h
    have un : (A.deeper (PyProof.Rows.envOfC "Label.__eq__" (defScope sEq) s.heap.objs.size gE cdv)).units + 64 < cLine := by have := hr.units; omega
    refine ⟨_, pss_one (ps_ret (pe_and (pe_callB call_isi (by rfl) Z.zIs (by decide +kernel) (pa_cons (pv 1) (pa_cons (pe_glob (v := .ref C) rfl L.m rfl) pa_nil))) (pe_one (pe_cmpR (op_eqD un) (pe_fld (pv 0) rfl) (pe_fld (pv 1) rfl) (nomark _))))), ?_⟩
    rcases h with ⟨T, bt, k⟩ | ⟨b, ys, rfl, ⟨nmy, l4y, syy, dy, ty, hb, hty⟩, k⟩
    · exact ⟨_, rfl, y, .ref C, .type T, .ref C, false, rfl, .own _, bt_ty bt, L.kt T bt.mem, _, rfl, k⟩
    · refine ⟨_, rfl, .ref b, .ref C, .ref C, .ref C, true, rfl, .own _, .base (.ins hb L.cl L.ca L.cn L.ct L.cm), L.kc, _, rfl, ?_⟩
      refine ⟨_, rfl, a, C, dx, _, .ref t, rfl, ha, L.cl, L.n1, rfl, _, rfl, b, C, dy, _, .ref ty, rfl, hb, L.cl, L.n1, rfl, ?_⟩
      refine ⟨_, _, .tup (SqT.of ht) (dpT xs), .tup (SqT.of hty) (dpT ys), shT _ fun z hz => nm_ok (List.all_eq_true.mp nms z hz), shT _ fun z hz => nm_ok (List.all_eq_true.mp nmy z hz), ?_⟩
      rw [eqvT]
      exact k
end
end K15
/-! calls in a try whose wish rests on the locals: of a classmethod; what passes -/
namespace CmS
open PySem PySem.Spec PyProof.Rows L2 ClX
theorem passE {X : Cx} {E : XK} (tk : Takes X (fun cls d _ H => E cls d H)) : Passes (L2.CX X.prog X.w) X E := fun pins σ H s e s' I c => passAt tk σ pins H s e s' I c
section
variable {X : Cx} {CX : CXT} {pins : List (Addr × Obj)} {σ : L2.St} {H : Hp} {s : Shared} {C p g q : Addr} {mc : Value} {k : Nat} {sp : Sp} {E : XK} {Q : VK} {us : List Value} {vs : List V}
theorem run_at (F : FnR X.prog X.w X.K X.mg X.base CX k g sp) (hr : Room k X.A) (hx : PassesAt CX X σ E) (I : Inv X pins σ H s) (r : Vals vs us) (h : sp vs H Q E) :
    codeAny (model X.prog X.w) X.A (.call (.ref g) ⟨us, []⟩) (fun r s' => match r with | .ok (.ret v) => EP X pins σ Q v s' | .ok _ => False | .error e => X.xe e s') s := by
  refine codeAny_mono (F X.A X.stack s H us vs Q E hr I.env0 r h) ?_
  rintro (e | fl) s' hq
  · exact hx pins H s e s' I hq
  · cases fl <;> first | exact I.after hq | exact hq.elim
theorem run_met (F : FnR X.prog X.w X.K X.mg X.base CX k g sp) (hr : Room k X.A) (hx : PassesAt CX X σ E) (I : Inv X ((q, PySem.W.methodObj (.ref g) (.ref C)) :: pins) σ H s) (r : Vals vs us) (h : sp (.ref C :: vs) H Q E) :
    wpAny (model X.prog X.w) X.A (call (.ref q) us) (EP X pins σ Q) X.xe s := by
  have z : wpAny (model X.prog X.w) X.A (call (.ref q) us) (EP X ((q, PySem.W.methodObj (.ref g) (.ref C)) :: pins) σ Q) X.xe s :=
    wpAny_call (PySem.W.method_call (pin_at I) (run_at (us := .ref C :: us) (vs := .ref C :: vs) F hr hx I (.cons rfl r) h))
  exact thn z fun _ _ y => unpinE y
end
def tCm (C : Addr) (sp : Sp) (E : L2.St → XK) (to : TE) (t : TA) : TE := fun σ H Q => to σ H fun x H1 => x = .ref C ∧ t σ H1 fun vs H2 => sp (.ref C :: vs) H2 Q (E σ)
section
variable {X : Cx} {CX : CXT} {k : Nat} {C p g : Addr} {mc : Value} {sp : Sp} {E : L2.St → XK} {o e : Expr} {es : List Expr} {m : Str} {pos apos : Pos} {to : TE} {t : TA} {pl : Sem Bool}
theorem pe_cm (ho : PE X o to) (r : CRead X.K C mc) (c : CMet X.K C mc m p g) (F : FnR X.prog X.w X.K X.mg X.base CX k g sp) (hr : Room k X.A) (hx : ∀ σ, PassesAt CX X σ (E σ)) (ha : PA X (e :: es) t)
    (st : starEach (e :: es) X.env = (false, eval e X.env) :: starEach es X.env := by rfl) (np : (backTo pos (starEach es X.env)).any (·.1) = false := by rfl)
    (ev : eval (.Call (.Attribute o m apos) (e :: es) [] pos) X.env = (do
      let ov ← eval o X.env
      standAt apos.atName
      let (f, first) ← holding [ov] (getMethod ov m pl)
      callWith pos f first (backTo pos (starEach (e :: es) X.env)) (backToKw pos (keywordEach [] X.env))) := by rfl) :
    PE X (.Call (.Attribute o m apos) (e :: es) [] pos) (tCm C sp E to t) := ⟨by
  intro pins s σ H Q I h
  refine PySem.W.methodCall_KW (pl := pl) (thn (ho.run pins s σ H _ I h) ?_) ev
  rintro u s1 ⟨_, H1, I1, rx, rfl, q⟩
  cases rx
  refine getmethcm_ok I1 r c fun s2 I2 => callwith_cm I2 (base_none I1 (Nat.le_refl _)) c.fi (thn (ha.run pos _ s2 σ H1 _ I2 q) ?_) st np
  rintro us s3 ⟨vs, H2, I3, rv, q2⟩
  exact ⟨⟨pin_at I3, I3.kIn⟩, run_met F hr (hx σ) I3 rv q2⟩⟩
end
end CmS
namespace K15
open PySem L2 SR
section
variable {P : Program} {w : World} {K : PySem.W.Frag} {mg : Str → Option Value} {base : Heap}
variable {C gE gL gS gR gH pM gM : Addr} {dE dL dS dR dH dM : FuncData}
/-! repr -/
def comma : Str := ", "
def lshow (ys : List Str) : Str := Str.empty ++ "Label(" ++ Txt.join comma (ys.map reprText) ++ ")"
theorem repr_len8 {y : Str} (h : isNm y = true) : (reprText y).length ≤ 82 := by
  have l8 := isNm_len h
  have lo : y.cps.toList.all low = true := (Bool.and_eq_true_iff.mp (Bool.and_eq_true_iff.mp h).2).2
  have e := StrLaws.reprText_len (txt y.cps.toList) (fun c hc => by
    have z := Bool.and_eq_true_iff.mp (List.all_eq_true.mp lo c hc)
    have := of_decide_eq_true z.2
    omega)
  rw [← txt_of y] at e
  have e2 : y.length = y.cps.toList.length := by rw [txt_of y, txt_len]; rfl
  omega
def spRepr (C : Addr) : Sp := fun vs H Q _ => ∃ (a : Addr) (ys : List Str), vs = [.ref a] ∧ Lb C H a ys ∧ ∀ H', Same H H' → Q (.str (lshow ys)) H'
theorem scRe : FnScope ["self", "mark"] ["self"] (defScope sRepr) := ⟨rfl, rfl, rfl, by decide +kernel, rfl, by decide +kernel, by decide +kernel⟩
theorem ok_repr (L : LabM K mg C gE gL gS gR gH pM gM dE dL dS dR dH dM) (Z : Zn mg) : FnOk P w K mg base CX0 1 gR dR ["self"] (spRepr C) := by
  refine L.R.ok scRe (fun vs H Q E h => ?_) (fun cdv A outer_ s H vs Q E hr h => ?_)
  · obtain ⟨a, ys, rfl, _⟩ := h
    rfl
  · obtain ⟨a, ys, rfl, ⟨nms, l4, sy, dx, t, ha, ht⟩, k⟩ := h
    refine ⟨_, pss_one (ps_ret (pe_joined (PJ.cons pe_str (PJ.cons (pe_fmt (pe_join pe_str (pe_lc (own := [("mark", 1)]) (g := gName 1) (tt := tYes) rfl scRe.nd (pi_tup (pe_fld (pv 0) rfl))
      (blkOk_by (N := ["self", "mark"]) (sc := defScope sRepr) (by decide +kernel)) (fun _ _ _ _ _ => pg_name (i := 1) scRe.nd rfl (Or.inl rfl)) (fun _ _ _ _ _ => pts_nil)
      (fun _ _ _ _ _ => pe_callB call_reprS (by rfl) Z.zRepr (by decide +kernel) (pa_cons (pv 1) pa_nil))))) (PJ.cons pe_str PJ.nil))))), ?_⟩
    have hsl : sizeLine = 16777216 := sizeLine_eq
    have nmAt : ∀ y ∈ ys, isNm y = true := fun y hy => List.all_eq_true.mp nms y hy
    refine ⟨_, rfl, by decide +kernel, ?_⟩
    refine ⟨⟨_, rfl⟩, _, rfl, a, C, dx, _, .ref t, rfl, ha, L.cl, L.n1, rfl, t, rfl, ⟨_, SqT.of ht⟩, fun D hD => ?_⟩
    refine lc_tup (xs := ys.map V.str) (fun i H' => Same H H' ∧ H' D = some (.lst (((ys.map reprText).take i).map V.str))) ⟨same_upd hD, upd_same⟩ (fun i H' _ q => SqT.of (q.1 _ _ ht)) ?_ ?_
    · rintro i v H1 hv ⟨sm, hL⟩
      rw [List.getElem?_map] at hv
      obtain ⟨y, hy, rfl⟩ := Option.map_eq_some_iff.mp hv
      have l82 := repr_len8 (nmAt y (List.mem_of_getElem? hy))
      refine ⟨rfl, _, rfl, y, rfl, by omega, _, hL, ?_, fun b o q => ?_, ?_⟩
      · rw [List.length_map, List.length_take, List.length_map]
        omega
      · rw [upd_ne (ne_of_none q hD)]
        exact sm b o q
      · rw [upd_same, take_snoc (x := reprText y) (by rw [List.getElem?_map, hy]; rfl), List.map_append]
        rfl
    · rintro H1 ⟨sm, hL⟩
      rw [List.length_map, List.take_of_length_le (by rw [List.length_map]; exact Nat.le_refl _)] at hL
      have lens : ((ys.map reprText).map (·.length)).sum + (ys.map reprText).length * comma.length ≤ 1000 := by
        have each : ∀ zs : List Str, (∀ y ∈ zs, isNm y = true) → ((zs.map reprText).map (·.length)).sum ≤ 82 * zs.length := fun zs => by
          induction zs with
          | nil => intro _; decide
          | cons z zs ih =>
            intro hz
            have a := repr_len8 (hz z List.mem_cons_self)
            have b := ih fun y hy => hz y (List.mem_cons_of_mem _ hy)
            rw [List.map_cons, List.map_cons, List.sum_cons, List.length_cons]
            omega
        have a := each ys nmAt
        have b : comma.length = 2 := by decide +kernel
        rw [b, List.length_map]
        omega
      have jl : (Txt.join comma (ys.map reprText)).length ≤ 1000 := by
        rw [join_is]
        exact Nat.le_trans (StrLaws.join_length_le comma _) lens
      have jl' : (Txt.join (", " : Str) (ys.map reprText)).length ≤ 1000 := jl
      have e7 : ("Label(" : Str).length = 6 := by decide +kernel
      have e8 : (")" : Str).length = 1 := by decide +kernel
      refine ⟨_, D, ys.map reprText, rfl, rfl, .inl (SqL.of hL), by exact Nat.le_trans lens (by decide), .inl ⟨_, rfl, by omega, _, rfl, ?_, _, rfl, ?_, k _ sm⟩⟩
      · rw [strLen_append, strLen_append, e7]
        show 0 + 6 + _ ≤ _
        omega
      · rw [strLen_append, strLen_append, strLen_append, e7, e8]
        show 0 + 6 + _ + 1 ≤ _
        omega

/-! ### of_text -/
abbrev sOf : Stmt := inClass (top 24) 2
theorem scOf : FnScope ["cls", "text", "marks"] ["cls", "text"] (defScope sOf) := ⟨rfl, rfl, rfl, by decide +kernel, rfl, by decide +kernel, by decide +kernel⟩
def spOf (K : PySem.W.Frag) (C CT : Addr) : Sp := fun vs H Q E => ∃ v : V, vs = [.ref C, v] ∧
  ((Cl K H v ∧ vS v = false ∧ Bad "problem" CT H (.str "string") E) ∨
   ∃ l : Tx, v = tv l ∧ l.length ≤ 4000 ∧ (rdM l = none → Bad "problem" CT H (.str "label") E) ∧ ∀ ms, rdM l = some ms → ∀ H' a, Same H H' → H a = none → Lb C H' a ms → Q (.ref a) H')
theorem rd_facts {l : Tx} {ms : List Str} (h : rdM l = some ms) : ms.all isNm = true ∧ ms.length ≤ 4 ∧ Srt ms ms := by
  unfold rdM at h
  split at h
  · cases h
    exact ⟨rfl, by decide, .nil, rfl, fun _ => Iff.rfl⟩
  · split at h
    · cases h
    · rename_i h4
      split at h
      · rename_i al
        split at h
        · rename_i g
          cases h
          exact ⟨by rw [nms_is]; exact al, by rw [List.length_map]; omega, g.1, g.2, fun _ => Iff.rfl⟩
        · cases h
      · cases h
theorem find_none {ts : List Str} (h : ts.all isNm = true) : (ts.map V.str).find? bad = none := by
  rw [List.find?_map, Option.map_eq_none_iff]
  exact List.find?_eq_none.mpr fun u hu => by
    have := List.all_eq_true.mp h u hu
    show ¬ (!isNm u) = true
    rw [this]
    decide
theorem cl_names {H : Hp} {ts : List Str} (h : ts.all isNm = true) : ∀ v ∈ ts.map V.str, Cl K H v := fun v hv => by
  obtain ⟨y, hy, rfl⟩ := List.mem_map.mp hv
  have := isNm_len (List.all_eq_true.mp h y hy)
  rw [txt_of y]
  exact .str _ (Nat.le_trans this (by decide))
theorem str_inj : ∀ {a b : List Str}, a.map V.str = b.map V.str → a = b
  | [], [], _ => rfl
  | [], _ :: _, e => by cases e
  | _ :: _, [], e => by cases e
  | x :: r, y :: q, e => by
    rw [List.map_cons, List.map_cons] at e
    rw [V.str.inj (List.cons.inj e).1, str_inj (List.cons.inj e).2]
/-- a call of Label with names, at most four different ones -/
theorem mk_lab {H1 : Hp} {C CN CM z dz : Addr} {ts ys : List Str} {Q : VK} {E : XK} (hz : H1 z = none) (hd : H1 dz = none) (ne : dz ≠ z) (nms : ts.all isNm = true) (few : ts.length < 60) (s : Srt ts ys) (l4 : ys.length ≤ 4)
    (k : ∀ H', Same H1 H' → Lb C H' z ys → Q (.ref z) H') : ∃ ws rest, V.ref z :: ts.map V.str = ws ++ rest ∧ ws.length = ([("self" : Str)]).length ∧ rest.length ≤ sizeLine ∧
      ∀ p, (upd (upd H1 dz (.own z)) z (.ins C dz [])) p = Option.none → spInit K C CN CM (ws ++ [V.ref p]) (upd (upd (upd H1 dz (.own z)) z (.ins C dz [])) p (.tup rest)) (fun v H2 => v = .non ∧ Q (.ref z) H2) E := by
  refine ⟨[.ref z], ts.map V.str, rfl, rfl, by rw [List.length_map, sizeLine_eq]; omega, fun p hp => ?_⟩
  have np : p ≠ z := fun e => by rw [e, upd_same] at hp; cases hp
  refine ⟨z, dz, p, ts.map V.str, rfl, by rw [upd_ne (Ne.symm np), upd_same], upd_same, by rw [List.length_map]; exact few, cl_names nms, (fun v e => by rw [find_none nms] at e; cases e), fun ts' ys' e nms' s' => ?_⟩
  obtain rfl := str_inj e
  obtain rfl := SR.unique s s'
  refine ⟨fun l5 => absurd l4 (by omega), fun _ H' t kp hz' ht => ⟨rfl, k H' (fun b o q => ?_) ⟨?_, l4, SR.self s, dz, t, hz', ht⟩⟩⟩
  · have nb : b ≠ z := ne_of_none q hz
    have nd : b ≠ dz := ne_of_none q hd
    refine kp b o nb ?_
    have q2 : (upd (upd H1 dz (.own z)) z (.ins C dz [])) b = some o := by rw [upd_ne nb, upd_ne nd]; exact q
    rw [upd_ne (ne_of_none q2 hp)]
    exact q2
  · exact List.all_eq_true.mpr fun y hy => List.all_eq_true.mp nms y ((s.2.2 y).mp hy)
theorem ok_of {C f CN fN CM fM fI f1 CT fT gO : Addr} {fd dN dM dI d1 dT dO : FuncData} {tk t2 : Tok} (FO : Fun K "of_text" "Label.of_text" sOf gO dO) (T : IT K mg CT fT dT) (AM : At K mg "marks_of_text" sMarksOf ["text"] f1 d1) (L : LabC K mg C f CN fN CM fM fd dN dM) (Z : Zn mg) (zT : mg "tuple" = none) (zS : mg "set" = none) (zO : mg "sorted" = none)
    (mM : mg "MOST_LETTERS" = some (.int 8 tk)) (mL : mg "LETTERS" = some (.str "abcdefghijklmnopqrstuvwxyz" t2)) (AN : At K mg "is_name" sIsName ["value"] fI dI) : FnOk P w K mg base (L2.CX P w) 5 gO dO ["cls", "text"] (spOf K C CT) := by
  have GK : FnOk P w K mg base CX0 2 f1 d1 ["text"] spMk := ok_mk AM.F L Z zS zO mM mL AN
  have GI := ok_init (P := P) (w := w) (base := base) L Z zT zS zO mM mL AN
  have GT : FnOk P w K mg base CX0 1 fT dT ["self", "problem"] (spInitT CT) := ok_initT T
  refine FO.okX scOf (fun vs H Q E h => ?_) (fun cdv A outer_ s H vs Q E hr h => ?_)
  · obtain ⟨v, rfl, _⟩ := h
    rfl
  · obtain ⟨v, rfl, h⟩ := h
    refine ⟨_, pss_cons (ps_if (pt_not (pt_val (pe_callB call_isi (by rfl) Z.zIs (by decide +kernel) (pa_cons (pv 1) (pa_cons (pe_bltn (v := .ty "str") (u := .type "str") (by rfl) Z.zStr (by decide +kernel) rfl) pa_nil)))))
        (pss_one (ps_raise rfl (takes_of rfl rfl rfl rfl) (pmk_oex T.o T.iC T.tI GT (hr.mono (by decide)) T.b .nil pass0 (by rfl) T.m (by exact (pa_cons pe_str pa_nil))))) pss_nil)
      (pss_cons (ps_set (i := 2) scOf.nd rfl (Or.inl rfl) (pe_call GK (hr.mono (by decide)) (by rfl) AM.m AM.F.kp AM.b .nil pass0 (pa_cons (pv 1) pa_nil)))
      (pss_cons (ps_if (pt_cmp (pc_isN (pv 2))) (pss_one (ps_raise rfl (takes_of rfl rfl rfl rfl) (pmk_oex T.o T.iC T.tI GT (hr.mono (by decide)) T.b .nil pass0 (by rfl) T.m (by exact (pa_cons pe_str pa_nil))))) pss_nil)
      (pss_one (ps_ret (pe_makeS (E := E) L.mkr GI hr (by rfl) L.m (CmS.passE (takes_of rfl rfl rfl rfl)) (pv 2)))))), ?_⟩
    rcases h with ⟨cl, hs, hb⟩ | ⟨l, rfl, hl, kn, ks⟩
    · obtain ⟨t, ty, _, _, ks⟩ := cl.kit
      rw [hs] at ks
      exact ⟨_, rfl, v, .ty "str", t, .type "str", false, rfl, .ty _, ty, ks, _, rfl, mkT H _ hb⟩
    · refine ⟨_, rfl, tv l, .ty "str", .type "str", .type "str", true, rfl, .ty "str", .base (.str _), kit_ty (a := "str") (b := "str") (r := true) (by decide +kernel), _, rfl, ?_⟩
      refine ⟨_, rfl, l, rfl, hl, fun e H1 s1 => ?_, fun ms e H1 p s1 hp hL => ?_⟩
      · exact ⟨_, rfl, _, rfl, mkT H1 _ (bad_of s1 (kn e))⟩
      · refine ⟨_, rfl, false, rfl, ?_⟩
        obtain ⟨nms, l4, sr⟩ := rd_facts e
        refine ⟨_, rfl, p, ms.map V.str, rfl, .inr (SqL.of hL), fun z dz hz hd ne => ?_⟩
        exact mk_lab (ts := ms) (ys := ms) hz hd ne nms (by omega) sr l4 fun H' s2 lb => ks ms e H' z (s1.trans s2) (s1.free hz) lb
end
end K15
namespace K15
open PySem L2
/-! ### InvalidLabel, InvalidKey -/
section
variable {P : Program} {w : World} {K : PySem.W.Frag} {mg : Str → Option Value} {base : Heap}
abbrev sInitL : Stmt := inClass (top 4) 0
structure IL (K : PySem.W.Frag) (mg : Str → Option Value) (C fI : Addr) (fd : FuncData) : Prop where
  o : OexC K C
  iC : PySem.W.findIn K (.ref C) "__init__" = some (some (.ref fI))
  tI : PySem.W.typeIn K (.ref fI) = some (.type "function")
  n1 : PySem.W.findIn K (.ref C) "value" = some none
  n2 : PySem.W.findIn K (.ref C) "_told" = some none
  m : mg "InvalidLabel" = some (.ref C)
  F : Fun K "__init__" "InvalidLabel.__init__" sInitL fI fd
  b : Binds K fd ["self", "value"] []
def spInitL (C : Addr) : Sp := fun vs H Q _ => ∃ (a : Addr) (v : V), vs = [.ref a, v] ∧ H a = some (exo a C none) ∧
  ∀ (H' : Hp) (d t : Addr), H d = none → d ≠ a → H' a = some (exo a C (some d)) → H' d = some (exd d [("_told", .ref t), ("value", v)]) → (∀ b o, b ≠ a → H b = some o → H' b = some o) → Q .non H'
theorem scInL : FnScope ["self", "value"] ["self", "value"] (defScope sInitL) := ⟨rfl, rfl, rfl, by decide +kernel, rfl, by decide +kernel, by decide +kernel⟩
theorem ok_initL {C f : Addr} {fd : FuncData} (T : IL K mg C f fd) : FnOk P w K mg base CX0 1 f fd ["self", "value"] (spInitL C) := by
  refine T.F.ok scInL (fun vs H Q E h => ?_) (fun cdv A outer_ s H vs Q E hr h => ?_)
  · obtain ⟨a, v, rfl, _⟩ := h
    rfl
  · obtain ⟨a, v, rfl, he, k⟩ := h
    refine ⟨_, pss_cons (ps_ost (pv 0) (pv 1)) (pss_one (ps_ost (pv 0) (pe_tup (pa_cons (pv 1) pa_nil)))), ?_⟩
    refine ⟨_, rfl, _, rfl, a, C, rfl, T.o, T.n1, .inl ⟨he, fun d hd hne => ?_⟩⟩
    refine ⟨_, rfl, (by show 1 ≤ sizeLine; decide), fun t ht => ?_⟩
    have nt : t ≠ a := fun e => by rw [e, upd_same] at ht; cases ht
    have nd : t ≠ d := fun e => by rw [e, upd_ne hne, upd_same] at ht; cases ht
    refine ⟨_, rfl, a, C, rfl, T.o, T.n2, .inr ⟨d, [("value", v)], ?_, ?_, (show 1 ≤ 900 by decide), ?_⟩⟩
    · rw [upd_ne (Ne.symm nt), upd_same]
    · rw [upd_ne (Ne.symm nd), upd_ne hne, upd_same]
    · refine k _ d t hd hne ?_ upd_same fun b o hb e => ?_
      · rw [upd_ne (Ne.symm hne), upd_ne (Ne.symm nt), upd_same]
      · have n1 : b ≠ d := ne_of_none e hd
        have n2 : b ≠ t := fun z => by
          rw [upd_ne nt, upd_ne nd] at ht
          rw [z, ht] at e
          cases e
        rw [upd_ne n1, upd_ne n2, upd_ne hb, upd_ne n1]
        exact e
theorem mkL {C : Addr} {E : XK} (H0 : Hp) (v : V) (hb : Bad "value" C H0 v E) : 1 ≤ 1000 ∧ ∀ a, H0 a = none → spInitL C (.ref a :: ([v] ++ [])) (upd H0 a (exo a C none))
    (fun u H2 => u = .non ∧ ∃ (d : Addr) (fs : List (Str × V)), H2 a = some (exo a C (some d)) ∧ H2 d = some (exd d fs) ∧ H0 d = none ∧ E (.ref C) (some d) (upd (del H2 a) d (.xd fs))) (fun _ _ _ => False) := by
  refine ⟨by decide, fun a ha => ⟨a, v, rfl, upd_same, fun H2 d t hd hne he1 he2 hs => ⟨rfl, d, _, he1, he2, ?_, ?_⟩⟩⟩
  · rw [upd_ne hne] at hd
    exact hd
  · refine hb _ d [("_told", .ref t), ("value", v)] (fun b o e => ?_) (by rw [upd_ne hne] at hd; exact hd) upd_same (by rfl)
    have nb : b ≠ a := ne_of_none e ha
    have nd : b ≠ d := fun z => by
      rw [z] at e
      rw [upd_ne hne, e] at hd
      cases hd
    rw [upd_ne nd, del_ne nb]
    exact hs b o nb (by rw [upd_ne nb]; exact e)
abbrev sInitY : Stmt := inClass (top 6) 0
structure IY (K : PySem.W.Frag) (mg : Str → Option Value) (C fI : Addr) (fd : FuncData) : Prop where
  o : OexC K C
  iC : PySem.W.findIn K (.ref C) "__init__" = some (some (.ref fI))
  tI : PySem.W.typeIn K (.ref fI) = some (.type "function")
  n1 : PySem.W.findIn K (.ref C) "value" = some none
  n2 : PySem.W.findIn K (.ref C) "_told" = some none
  m : mg "InvalidKey" = some (.ref C)
  F : Fun K "__init__" "InvalidKey.__init__" sInitY fI fd
  b : Binds K fd ["self", "value"] []
def spInitY (C : Addr) : Sp := fun vs H Q _ => ∃ (a : Addr) (v : V), vs = [.ref a, v] ∧ H a = some (exo a C none) ∧
  ∀ (H' : Hp) (d t : Addr), H d = none → d ≠ a → H' a = some (exo a C (some d)) → H' d = some (exd d [("_told", .ref t), ("value", v)]) → (∀ b o, b ≠ a → H b = some o → H' b = some o) → Q .non H'
theorem scInY : FnScope ["self", "value"] ["self", "value"] (defScope sInitY) := ⟨rfl, rfl, rfl, by decide +kernel, rfl, by decide +kernel, by decide +kernel⟩
theorem ok_initY {C f : Addr} {fd : FuncData} (T : IY K mg C f fd) : FnOk P w K mg base CX0 1 f fd ["self", "value"] (spInitY C) := by
  refine T.F.ok scInY (fun vs H Q E h => ?_) (fun cdv A outer_ s H vs Q E hr h => ?_)
  · obtain ⟨a, v, rfl, _⟩ := h
    rfl
  · obtain ⟨a, v, rfl, he, k⟩ := h
    refine ⟨_, pss_cons (ps_ost (pv 0) (pv 1)) (pss_one (ps_ost (pv 0) (pe_tup (pa_cons (pv 1) pa_nil)))), ?_⟩
    refine ⟨_, rfl, _, rfl, a, C, rfl, T.o, T.n1, .inl ⟨he, fun d hd hne => ?_⟩⟩
    refine ⟨_, rfl, (by show 1 ≤ sizeLine; decide), fun t ht => ?_⟩
    have nt : t ≠ a := fun e => by rw [e, upd_same] at ht; cases ht
    have nd : t ≠ d := fun e => by rw [e, upd_ne hne, upd_same] at ht; cases ht
    refine ⟨_, rfl, a, C, rfl, T.o, T.n2, .inr ⟨d, [("value", v)], ?_, ?_, (show 1 ≤ 900 by decide), ?_⟩⟩
    · rw [upd_ne (Ne.symm nt), upd_same]
    · rw [upd_ne (Ne.symm nd), upd_ne hne, upd_same]
    · refine k _ d t hd hne ?_ upd_same fun b o hb e => ?_
      · rw [upd_ne (Ne.symm hne), upd_ne (Ne.symm nt), upd_same]
      · have n1 : b ≠ d := ne_of_none e hd
        have n2 : b ≠ t := fun z => by
          rw [upd_ne nt, upd_ne nd] at ht
          rw [z, ht] at e
          cases e
        rw [upd_ne n1, upd_ne n2, upd_ne hb, upd_ne n1]
        exact e
theorem mkY {C : Addr} {E : XK} (H0 : Hp) (v : V) (hb : Bad "value" C H0 v E) : 1 ≤ 1000 ∧ ∀ a, H0 a = none → spInitY C (.ref a :: ([v] ++ [])) (upd H0 a (exo a C none))
    (fun u H2 => u = .non ∧ ∃ (d : Addr) (fs : List (Str × V)), H2 a = some (exo a C (some d)) ∧ H2 d = some (exd d fs) ∧ H0 d = none ∧ E (.ref C) (some d) (upd (del H2 a) d (.xd fs))) (fun _ _ _ => False) := by
  refine ⟨by decide, fun a ha => ⟨a, v, rfl, upd_same, fun H2 d t hd hne he1 he2 hs => ⟨rfl, d, _, he1, he2, ?_, ?_⟩⟩⟩
  · rw [upd_ne hne] at hd
    exact hd
  · refine hb _ d [("_told", .ref t), ("value", v)] (fun b o e => ?_) (by rw [upd_ne hne] at hd; exact hd) upd_same (by rfl)
    have nb : b ≠ a := ne_of_none e ha
    have nd : b ≠ d := fun z => by
      rw [z] at e
      rw [upd_ne hne, e] at hd
      cases hd
    rw [upd_ne nd, del_ne nb]
    exact hs b o nb (by rw [upd_ne nb]; exact e)
end
end K15
namespace K15
open PySem L2 SR
/-! ### check_label, is_below, the joined and the common label -/
theorem srt_sub {xs ys : List Str} (a : Srt xs xs) (s : ys.Sublist xs) : Srt ys ys :=
  ⟨a.1.sublist s, PyProof.Rows.sortedS_of_pairwise _ ((sorted_pw a.2.1).sublist s), fun _ => Iff.rfl⟩
section
variable {P : Program} {w : World} {K : PySem.W.Frag} {mg : Str → Option Value} {base : Heap}
variable {C fL CN fN CM fM CE fE fC fI gE gL gS gR gH pM gM g : Addr} {dL0 dN dM dE0 dC dI dE dL dS dR dH dG fd : FuncData}
def Odd (K : PySem.W.Frag) (CE : Addr) (H : Hp) (y : V) (E : XK) : Prop := (∃ T, EqO.BtV K H y T) ∧ Bad "value" CE H y E
def spCheck (K : PySem.W.Frag) (C CE : Addr) : Sp := fun vs H Q E => ∃ y : V, vs = [y] ∧ (Odd K CE H y E ∨ ∃ b ys, y = .ref b ∧ Lb C H b ys ∧ Q .non H)
theorem lab_ty (M : LabM K mg C gE gL gS gR gH pM gM dE dL dS dR dH dG) {H : Hp} {b : Addr} {ys : List Str} (h : Lb C H b ys) : TyX K H (.ref b) (.ref C) := by
  obtain ⟨_, _, _, dx, t, ha, _⟩ := h
  exact .base (.ins ha M.cl M.ca M.cn M.ct M.cm)
theorem ok_check (F : Fun K "check_label" "check_label" sCheck fC dC) (T : IL K mg CE fE dE0) (M : LabM K mg C gE gL gS gR gH pM gM dE dL dS dR dH dG) (Z : Zn mg) : FnOk P w K mg base (L2.CX P w) 3 fC dC ["value"] (spCheck K C CE) := by
  have GT : FnOk P w K mg base CX0 1 fE dE0 ["self", "value"] (spInitL CE) := ok_initL T
  refine F.okX (N := ["value"]) ⟨rfl, rfl, rfl, by decide +kernel, rfl, by decide +kernel, by decide +kernel⟩ (fun vs H Q E h => ?_) (fun cdv A outer_ s H vs Q E hr h => ?_)
  · obtain ⟨y, rfl, _⟩ := h
    rfl
  · obtain ⟨y, rfl, h⟩ := h
    refine ⟨_, pss_one (ps_if (pt_not (pt_val (pe_callB call_isi (by rfl) Z.zIs (by decide +kernel) (pa_cons (pv 0) (pa_cons (pe_glob (v := .ref C) rfl M.m rfl) pa_nil)))))
        (pss_one (ps_raise rfl (takes_of rfl rfl rfl rfl) (pmk_oex T.o T.iC T.tI GT hr T.b .nil pass0 (by rfl) T.m (by exact (pa_cons (pv 0) pa_nil))))) pss_nil), ?_⟩
    rcases h with ⟨⟨ty, bt⟩, hb⟩ | ⟨b, ys, rfl, lb, k⟩
    · exact ⟨_, rfl, y, .ref C, .type ty, .ref C, false, rfl, .own _, bt_ty bt, M.kt ty bt.mem, _, rfl, _, rfl, mkL H _ hb⟩
    · exact ⟨_, rfl, .ref b, .ref C, .ref C, .ref C, true, rfl, .own _, lab_ty M lb, M.kc, _, rfl, k⟩
end
theorem ix_of {K : PySem.W.Frag} {H : Hp} {p : Addr} {xs : List V} {i : Int} {v : V} {Q : VK} (h : SqL K H p xs ∨ SqT K H p xs) (e : atI xs i = some v) (q : Q v H) : rIx K (.ref p) (.int i) H Q :=
  h.elim (fun s => .inl ⟨p, xs, i, v, rfl, rfl, s, e, q⟩) fun s => .inr (.inl ⟨p, xs, i, v, rfl, rfl, s, e, q⟩)
theorem shL (ds : List Str) (h : ∀ x ∈ ds, PyData.strOk x = true) : SeqAt.shaped (.list (ds.map PyData.str)) = true := by
  obtain ⟨h1, h2⟩ := canT ds h
  unfold SeqAt.shaped
  have e1 : PyData.canLay0 (.list (ds.map PyData.str)) = true := by rw [PyData.canLay0]; exact h1
  have e2 : PyData.depth (.list (ds.map PyData.str)) = 1 := by rw [PyData.depth, h2]
  rw [e1, e2]
  rfl
theorem eqvL (ds es : List Str) : PyData.eqv (.list (ds.map PyData.str)) (.list (es.map PyData.str)) = decide (ds = es) := by rw [PyData.eqv]; exact eqvTS ds es
end K15
namespace K15
open PySem L2 SR
/-! ### drawing -/
theorem lit_letters : Str.ofString "abcdefghijklmnopqrstuvwxyz" = txt abc := by decide +kernel
theorem join_signs : ∀ ts : Tx, Str.join (txt []) (ts.map fun c => txt [c]) = txt ts
  | [] => rfl
  | [c] => rfl
  | c :: u :: r => by
    have ih := join_signs (u :: r)
    show txt [c] ++ txt [] ++ Str.join (txt []) ((u :: r).map fun c => txt [c]) = _
    rw [ih, txt_app, txt_app]
    rfl
theorem join_of (ts : Tx) : Txt.join (txt []) (ts.map fun c => txt [c]) = txt ts := (join_is _ _).trans (join_signs ts)
theorem sum_signs (ts : Tx) : ((ts.map fun c => txt [c]).map (·.length)).sum = ts.length := by
  induction ts with
  | nil => rfl
  | cons t r ih =>
    show (txt [t]).length + ((r.map fun c => txt [c]).map (·.length)).sum = r.length + 1
    rw [ih, txt_len]
    show 1 + r.length = _
    omega
theorem Kp.put {r D : Addr} {H H2 : Hp} {o : HO} (k : Kp r H H2) (hD : H D = none) (n : D ≠ r) : Kp r H (upd H2 D o) :=
  ⟨fun b u hb e => by rw [upd_ne (ne_of_none e hD)]; exact k.1 b u hb e, fun g => by
    obtain ⟨x, y, h, q⟩ := k.2 g
    exact ⟨x, y, by rw [upd_ne (Ne.symm n)]; exact h, q⟩⟩
theorem Rg.ne {H : Hp} {r D : Addr} (g : Rg H r) (h : H D = none) : D ≠ r := by
  obtain ⟨x, y, e, _⟩ := g
  exact (ne_of_none e h).symm
def Acc (p : Nat → Bool) (D : Addr) (H : Hp) (i : Nat) : Prop := ∃ acc : Tx, H D = some (.lst (acc.map fun c => tv [c])) ∧ acc.all p = true ∧ acc.length = i
theorem Acc.nil (p : Nat → Bool) (D : Addr) (H : Hp) : Acc p D (upd H D (.lst [])) 0 := ⟨[], upd_same, rfl, rfl⟩
theorem Acc.more {p : Nat → Bool} {D : Addr} {H2 : Hp} {i c : Nat} {acc : Tx} (h2 : acc.all p = true) (h4 : acc.length = i) (hc : p c = true) : Acc p D (upd H2 D (.lst (acc.map (fun c => tv [c]) ++ [tv [c]]))) (i + 1) :=
  ⟨acc ++ [c], by rw [upd_same, List.map_append]; rfl, by rw [List.all_append, h2]; show (true && (p c && true)) = true; rw [hc]; rfl, by rw [List.length_append, h4]; rfl⟩
theorem strs_of (acc : Tx) : acc.map (fun c => tv [c]) = (acc.map fun c => txt [c]).map V.str := by rw [List.map_map]; rfl
theorem nm_of {l : Tx} (h1 : l.length ≤ 8) (h2 : l ≠ []) (h3 : l.all low = true) : nmC l = true := by
  unfold nmC
  rw [decide_eq_true h1, decide_eq_false h2, h3]
  rfl
theorem cut_to (u : Tx) (a : Nat) : cutS (txt u) none (some (a : Int)) = txt (u.take a) := by
  unfold cutS
  rw [HT.sIx_none, HT.sIx_nat, txt_len, List.drop_zero, Nat.sub_zero]
  show (⟨(u.take (min a u.length)).toArray⟩ : Str) = ⟨(u.take a).toArray⟩
  congr 2
  by_cases h : a ≤ u.length
  · rw [Nat.min_eq_left h]
  · rw [Nat.min_eq_right (by omega), List.take_of_length_le (Nat.le_refl _), List.take_of_length_le (by omega)]

theorem sub_le {α : Type} [BEq α] [LawfulBEq α] : ∀ (l m : List α), l.Nodup → (∀ y ∈ l, y ∈ m) → l.length ≤ m.length := fun l => by
  induction l with
  | nil => intro m _ _; exact Nat.zero_le _
  | cons x r ih =>
    intro m nd sub
    have nd' := List.nodup_cons.mp nd
    have hx := sub x List.mem_cons_self
    have := ih (m.erase x) nd'.2 fun y hy => (List.mem_erase_of_ne fun e : y = x => nd'.1 (e ▸ hy)).mpr (sub y (List.mem_cons_of_mem _ hy))
    rw [List.length_erase_of_mem hx] at this
    have pos := List.length_pos_of_mem hx
    rw [List.length_cons]
    omega
/-- not among these -/
def sel (us : List Tx) (x : Tx) : Bool := !decide (txt x ∈ us.map txt)
theorem sel_not {us : List Tx} {x : Tx} (h : sel us x = true) : x ∉ us := fun m => by
  unfold sel at h
  rw [decide_eq_true (List.mem_map.mpr ⟨x, m, rfl⟩)] at h
  cases h
theorem tvs_eq (us : List Tx) : us.map tv = (us.map txt).map V.str := by rw [List.map_map]; rfl
def near (w : Tx) : List Tx := w :: abc.map fun c => w.take 7 ++ [c]
theorem abc_nd : abc.Nodup := by decide +kernel
theorem near_free (w : Tx) {us : List Tx} (l : us.length ≤ 20) : (near w).filter (sel us) ≠ [] := fun e => by
  have all : ∀ x ∈ near w, x ∈ us := fun x hx => by
    have := List.filter_eq_nil_iff.mp e x hx
    have m : txt x ∈ us.map txt := by
      unfold sel at this
      simpa using this
    obtain ⟨y, hy, ey⟩ := List.mem_map.mp m
    rw [← txt_inj ey]
    exact hy
  have nd : (abc.map fun c => w.take 7 ++ [c]).Nodup := by
    refine List.Pairwise.map _ (fun a b n e => n ?_) abc_nd
    exact List.singleton_inj.mp (List.append_cancel_left e)
  have := sub_le (abc.map fun c => w.take 7 ++ [c]) us nd fun y hy => all y (List.mem_cons_of_mem _ hy)
  rw [List.length_map, abc_all.2] at this
  omega
theorem near_nm {w : Tx} (h1 : w.length ≤ 8) (h2 : w ≠ []) (h3 : w.all low = true) : ∀ x ∈ near w, nmC x = true := fun x hx => by
  rcases List.mem_cons.mp hx with rfl | hx
  · exact nm_of h1 h2 h3
  · obtain ⟨c, hc, rfl⟩ := List.mem_map.mp hx
    refine nm_of (by rw [List.length_append, List.length_take, List.length_singleton]; omega) (by simp) ?_
    rw [List.all_append, List.all_cons, List.all_nil, List.all_eq_true.mp abc_all.1 c hc]
    rw [show (w.take 7).all low = true from List.all_eq_true.mpr fun y hy => List.all_eq_true.mp h3 y (List.mem_of_mem_take hy)]
    rfl
section
variable {P : Program} {w : World} {K : PySem.W.Frag} {mg : Str → Option Value} {base : Heap}
/-! ### _law_word -/
abbrev nWo : List Str := ["_law_rng_here", "_law_used", "_law_letters", "_law_word_here", "_law_near", "_law_k", "_law_sign", "_law_one"]
theorem scWo : FnScope nWo ["_law_rng_here", "_law_used"] (defScope sWord) := ⟨rfl, rfl, rfl, by decide +kernel, rfl, by decide +kernel, by decide +kernel⟩
def spWord : Sp := fun vs H Q _ => ∃ (r p : Addr) (us : List Tx), vs = [.ref r, .ref p] ∧ Rg H r ∧ H p = some (.lst (us.map tv)) ∧ p ≠ r ∧ us.length ≤ 20 ∧ ∀ H' x, Kp r H H' → nmC x = true → x ∉ us → Q (tv x) H'
theorem ok_word {f fD fC : Addr} {fd dD dC : FuncData} (F : Fun K "_law_word" "_law_word" sWord f fd) (B : BEnv mg) (AD : At K mg "_law_draw" sDraw ["_law_rng_here", "_law_many"] fD dD) (AC : At K mg "_law_choice" sChoice ["_law_rng_here", "_law_options"] fC dC) :
    FnOk P w K mg base CX0 3 f fd ["_law_rng_here", "_law_used"] spWord := by
  have GD : FnOk P w K mg base CX0 1 fD dD ["_law_rng_here", "_law_many"] spDraw := ok_draw AD.F B
  have GC : FnOk P w K mg base CX0 2 fC dC ["_law_rng_here", "_law_options"] (spChoice K) := ok_choice AC.F B AD
  refine F.ok scWo (fun vs H Q E h => ?_) (fun cdv A outer_ s H vs Q E hr h => ?_)
  · obtain ⟨r, p, us, rfl, _⟩ := h
    rfl
  · obtain ⟨r, p, us, rfl, g, hp, npr, ul, k⟩ := h
    have hr1 := hr.mono (j := 1) (by decide)
    refine ⟨_, pss_cons (ps_set (i := 2) scWo.nd rfl (Or.inr rfl) pe_str)
      (pss_cons (ps_set (i := 3) scWo.nd rfl (Or.inr rfl) (pe_join pe_str (pe_lc (own := [("_law_k", 5)]) (g := gName 5) (tt := tYes) rfl scWo.nd (pi_range1 rfl B.zRange (pa_cons (pe_call GC hr (by rfl) AC.m AC.F.kp AC.b .nil pass0 (pa_cons (pv 0) (pa_cons (pe_lst (pa_cons pe_int (pa_cons pe_int (pa_cons pe_int (pa_cons pe_int pa_nil))))) pa_nil))) pa_nil))
          (blkOk_by (N := nWo) (sc := defScope sWord) (by decide +kernel)) (fun _ _ _ _ _ => pg_name (i := 5) scWo.nd rfl (Or.inl rfl)) (fun _ _ _ _ _ => pts_nil) (fun _ _ _ _ _ => pe_ix ix_str (pv 2) (pe_call GD hr1 (by rfl) AD.m AD.F.kp AD.b .nil pass0 (pa_cons (pv 0) (pa_cons pe_int pa_nil))) (fun _ _ => rfl)))))
      (pss_cons (ps_set (i := 4) scWo.nd rfl (Or.inl rfl) (pe_op op_cat (pe_lst (pa_cons (pv 3) pa_nil)) (pe_lc (own := [("_law_sign", 6)]) (g := gName 6) (tt := tYes) rfl scWo.nd (pi_str (pv 2)) (blkOk_by (N := nWo) (sc := defScope sWord) (by decide +kernel)) (fun _ _ _ _ _ => pg_name (i := 6) scWo.nd rfl (Or.inl rfl)) (fun _ _ _ _ _ => pts_nil)
          (fun _ _ _ _ _ => pe_op op_add_str (pe_slice sl_str (pv 3) po_none (po_some pe_int)) (pv 6)))))
      (pss_one (ps_ret (pe_ix ix_seq (pe_lc (own := [("_law_one", 7)]) (g := gName 7) (tt := tTest (tOp (rIn K true) (tVar 7) (tVar 1))) rfl scWo.nd (pi_list (pv 4)) (blkOk_by (N := nWo) (sc := defScope sWord) (by decide +kernel)) (fun _ _ _ _ _ => pg_name (i := 7) scWo.nd rfl (Or.inl rfl))
          (fun _ _ _ _ _ => pts_one (pt_cmpR (show OpR _ (compareOp .NotIn) (rIn K true) from op_notIn_seq) (pv 7) (pv 1) (by rfl))) (fun _ _ _ _ _ => pv 7)) pe_int (fun _ _ => rfl)))))), ?_⟩
    rw [lit_letters, lit_nil]
    have hsl : sizeLine = 16777216 := sizeLine_eq
    refine ⟨⟨_, rfl⟩, _, rfl, by show 4 ≤ sizeLine; omega, fun o ho => ?_⟩
    have s1 := same_upd (o := .lst [V.int 1, V.int 1, V.int 2, V.int 8]) ho
    have f1 : (upd H o (.lst [V.int 1, V.int 1, V.int 2, V.int 8])) o = some (.lst [V.int 1, V.int 1, V.int 2, V.int 8]) := upd_same
    have no : o ≠ r := g.ne ho
    revert s1 f1
    generalize upd H o _ = H1
    intro s1 f1
    have k1 : Kp r H H1 := Kp.of_same s1
    have g1 := k1.2 g
    refine ⟨r, .ref o, rfl, g1, .inl ⟨o, _, rfl, f1, no, by simp, by show 4 ≤ big; decide, fun H2 x k2 hx => ?_⟩⟩
    have hm : ∃ m : Nat, x = .int (m : Int) ∧ 1 ≤ m ∧ m ≤ 8 := by
      revert hx
      simp only [List.mem_cons, List.not_mem_nil, or_false]
      rintro (rfl | rfl | rfl | rfl)
      · exact ⟨1, rfl, by decide, by decide⟩
      · exact ⟨1, rfl, by decide, by decide⟩
      · exact ⟨2, rfl, by decide, by decide⟩
      · exact ⟨8, rfl, by decide, by decide⟩
    obtain ⟨m, rfl, m1, m8⟩ := hm
    have k12 := k1.trans k2
    have g2 := k12.2 g
    refine ⟨(m : Int), rfl, by omega, by omega, fun D hD => ?_⟩
    have hDr := g2.ne hD
    show ∃ W, _
    rw [Int.toNat_natCast]
    refine lc_range (lo := 0) (n := m) (fun i H' => Kp r H2 H' ∧ Acc low D H' i) ⟨Kp.of_same (same_upd hD), Acc.nil low D H2⟩ ?_ ?_
    · rintro i H' hi ⟨ki, acc, hL, h2, h4⟩
      refine ⟨rfl, _, rfl, _, rfl, r, 26, rfl, ki.2 g2, by decide, by decide, fun H4 n k4 hn => ?_⟩
      have hv : abc[n]? = some (abc[n]'(by rw [abc_all.2]; exact hn)) := List.getElem?_eq_getElem _
      refine ⟨_, _, _, rfl, rfl, by rw [txt_len, abc_all.2]; omega, atI_nat hv, ?_⟩
      exact ⟨_, k4.1 D _ hDr hL, (by rw [List.length_map, h4]; omega), (ki.trans k4).put hD hDr, Acc.more h2 h4 (List.all_eq_true.mp abc_all.1 _ (List.getElem_mem _))⟩
    rintro H3 ⟨k3, acc, hL, h2, h4⟩
    rw [strs_of] at hL
    refine ⟨_, D, acc.map (fun c => txt [c]), rfl, rfl, .inl (SqL.of hL), ?_, ?_⟩
    · rw [sum_signs, List.length_map, txt_len]
      show acc.length + acc.length * 0 ≤ 16777216
      omega
    rw [join_of]
    have a0 : acc ≠ [] := fun e => by rw [e] at h4; exact absurd h4.symm (by show m ≠ 0; omega)
    have a8 : acc.length ≤ 8 := by omega
    have k13 := k12.trans k3
    clear hL k3 hD g2 k2 hDr hx s1 f1 ho g1 k1 k12
    have g3 := k13.2 g
    -- near
    refine ⟨_, rfl, by show 1 ≤ sizeLine; omega, fun l1 hl1 => ?_⟩
    have s4 := same_upd (o := .lst [tv acc]) hl1
    have f4 : (upd H3 l1 (.lst [tv acc])) l1 = some (.lst [tv acc]) := upd_same
    revert s4 f4
    generalize upd H3 l1 _ = H4
    intro s4 f4
    refine ⟨_, rfl, _, rfl, fun D2 hD2 => ?_⟩
    refine lc_it (walk_str (z := txt abc)) (fun i H' => Same H4 H' ∧ H' D2 = some (.lst (((abc.map fun c => acc.take 7 ++ [c]).take i).map tv))) ⟨same_upd hD2, upd_same⟩ (fun _ _ _ _ => trivial) ?_ ?_
    · rintro i x H5 H6 hi ⟨sm, hM⟩ ⟨rfl, c, hc, rfl⟩
      have hc' : abc[i]? = some c := by
        have z : abc.toArray[i]? = some c := hc
        simpa using z
      have e7 : cutS (txt acc) none (some 7) = txt (acc.take 7) := cut_to acc 7
      have l7 : (acc.take 7).length ≤ 7 := by rw [List.length_take]; omega
      refine ⟨rfl, _, rfl, 7, rfl, _, rfl, by rw [txt_len]; omega, _, rfl, _, _, rfl, rfl, ?_, _, hM, ?_, fun b o q => ?_, ?_⟩
      · rw [e7, txt_len]
        show _ + 1 ≤ _
        omega
      · rw [List.length_map, List.length_take, List.length_map, abc_all.2]
        omega
      · rw [upd_ne (ne_of_none q hD2)]
        exact sm b o q
      · rw [upd_same, take_snoc (x := acc.take 7 ++ [c]) (by rw [List.getElem?_map, hc']; rfl), List.map_append, e7]
        show some (HO.lst (_ ++ [V.str (txt (acc.take 7) ++ txt [c])])) = _
        rw [txt_app]
        rfl
    rintro H5 ⟨s5, hM⟩
    rw [List.take_of_length_le (by rw [List.length_map, abc_all.2]; exact Nat.le_refl _)] at hM
    have f5 := s5 _ _ f4
    refine ⟨l1, D2, _, _, rfl, rfl, f5, hM, by rw [List.length_map, List.length_map, abc_all.2]; show 1 + 26 ≤ _; omega, fun c1 hc1 => ?_⟩
    have en : [tv acc] ++ (abc.map fun c => acc.take 7 ++ [c]).map tv = (near acc).map tv := rfl
    rw [en]
    have s6 := same_upd (o := .lst ((near acc).map tv)) hc1
    have f6 : (upd H5 c1 (.lst ((near acc).map tv))) c1 = some (.lst ((near acc).map tv)) := upd_same
    revert s6 f6
    generalize upd H5 c1 _ = H6
    intro s6 f6
    have k6 : Kp r H H6 := k13.trans (Kp.of_same ((s4.trans s5).trans s6))
    have hp6 := k6.1 p _ npr hp
    have ln : (near acc).length = 27 := by
      unfold near
      rw [List.length_cons, List.length_map, abc_all.2]
    clear s4 f4 s5 hM f5 hc1 s6 hD2 hl1 k13 g3
    refine ⟨_, rfl, c1, rfl, ⟨_, SqL.of f6⟩, fun D3 hD3 => ?_⟩
    refine lc_list (xs := (near acc).map tv) (fun i H' => Same H6 H' ∧ H' D3 = some (.lst ((((near acc).take i).filter (sel us)).map tv))) ⟨same_upd hD3, upd_same⟩ (fun i H' _ q => SqL.of (q.1 _ _ f6)) ?_ ?_
    · rintro i v H' hv ⟨sm, hL⟩
      rw [List.getElem?_map] at hv
      obtain ⟨x, hx, rfl⟩ := Option.map_eq_some_iff.mp hv
      have i27 : i < 27 := by rw [← ln]; exact (List.getElem?_eq_some_iff.mp hx).1
      have hp' := sm _ _ hp6
      rw [tvs_eq] at hp'
      refine ⟨rfl, _, rfl, _, rfl, p, _, rfl, .inl (SqL.of hp'), rfl, flat_all _, sel us x, ?_, ?_⟩
      · rw [if_pos rfl]
        show V.bl (!inV (.str (txt x)) _) = _
        rw [inV_str]
        rfl
      show (if sel us x = true then _ else _)
      by_cases m : sel us x = true
      · rw [if_pos m]
        refine ⟨_, rfl, _, hL, ?_, fun b o q => ?_, ?_⟩
        · rw [List.length_map]
          have := List.length_filter_le (sel us) ((near acc).take i)
          rw [List.length_take] at this
          omega
        · rw [upd_ne (ne_of_none q hD3)]
          exact sm b o q
        · rw [upd_same, take_snoc hx, List.filter_append, List.filter_cons_of_pos m, List.filter_nil, List.map_append]
          rfl
      · rw [if_neg m]
        refine ⟨sm, ?_⟩
        rw [take_snoc hx, List.filter_append, List.filter_cons_of_neg m, List.filter_nil, List.append_nil]
        exact hL
    rintro H7 ⟨s7, hL⟩
    rw [List.length_map, List.take_of_length_le (Nat.le_refl _)] at hL
    have fr := near_free acc ul
    cases e : (near acc).filter (sel us) with
    | nil => exact absurd e fr
    | cons x rest =>
      rw [e] at hL
      have hx : x ∈ (near acc).filter (sel us) := by rw [e]; exact List.mem_cons_self
      obtain ⟨hx1, hx2⟩ := List.mem_filter.mp hx
      refine ix_of (.inl (SqL.of hL)) (show atI (tv x :: rest.map tv) ((0 : Nat) : Int) = some (tv x) from atI_nat rfl) ?_
      exact k H7 x (k6.trans (Kp.of_same s7)) (near_nm a8 a0 h2 x hx1) (sel_not hx2)
end
end K15
namespace K15
open PySem L2 SR
section
variable {P : Program} {w : World} {K : PySem.W.Frag} {mg : Str → Option Value} {base : Heap}
/-! ### _law_words -/
def spWords : Sp := fun vs H Q _ => ∃ (r : Addr) (m : Nat), vs = [.ref r, .int (m : Int)] ∧ Rg H r ∧ m ≤ 20 ∧ ∀ H' p (ws : List Tx), Kp r H H' → H p = none → p ≠ r → H' p = some (.lst (ws.map tv)) → ws.length = m → ws.Nodup → (∀ x ∈ ws, nmC x = true) → Q (.ref p) H'
abbrev nWs : List Str := ["_law_rng_here", "_law_many", "_law_found", "_law_k"]
theorem scWs : FnScope nWs ["_law_rng_here", "_law_many"] (defScope sWords) := ⟨rfl, rfl, rfl, by decide +kernel, rfl, by decide +kernel, by decide +kernel⟩
theorem ok_words {f fW fD fC : Addr} {fd dW dD dC : FuncData} (F : Fun K "_law_words" "_law_words" sWords f fd) (B : BEnv mg) (AD : At K mg "_law_draw" sDraw ["_law_rng_here", "_law_many"] fD dD) (AC : At K mg "_law_choice" sChoice ["_law_rng_here", "_law_options"] fC dC) (AW : At K mg "_law_word" sWord ["_law_rng_here", "_law_used"] fW dW) :
    FnOk P w K mg base CX0 4 f fd ["_law_rng_here", "_law_many"] spWords := by
  have GW : FnOk P w K mg base CX0 3 fW dW ["_law_rng_here", "_law_used"] spWord := ok_word AW.F B AD AC
  refine F.ok scWs (fun vs H Q E h => ?_) (fun cdv A outer_ s H vs Q E hr h => ?_)
  · obtain ⟨r, m, rfl, _⟩ := h
    rfl
  · obtain ⟨r, m, rfl, g, m20, k⟩ := h
    refine ⟨_, pss_cons (ps_set (i := 2) scWs.nd rfl (Or.inl rfl) (pe_lst pa_nil))
      (pss_cons (ps_for PassesOwn.never rfl (pi_range1 (by rfl) B.zRange (pa_cons (pv 1) pa_nil)) (pg_name (i := 3) scWs.nd rfl (Or.inl rfl))
        (pss_one (ps_expr (pe_bm PySem.F.plainAttrs_list PySem.F.slot_list_append PySem.F.type_list_append mt_append (pv 2) (pa_cons (pe_call GW hr (by rfl) AW.m AW.F.kp AW.b .nil pass0 (pa_cons (pv 0) (pa_cons (pv 2) pa_nil))) pa_nil)))))
      (pss_one (ps_ret (pv 2)))), ?_⟩
    have hsl : sizeLine = 16777216 := sizeLine_eq
    refine ⟨by show 0 ≤ sizeLine; decide, fun q hq => ?_⟩
    have nq : q ≠ r := g.ne hq
    refine ⟨_, rfl, _, rfl, by omega, by omega, ?_⟩
    show ∃ W, _
    rw [Int.toNat_natCast]
    refine for_range (lo := 0) (n := m) (fun i σ H' => ∃ (t : Option V) (ws : List Tx), σ = [some (.ref r), some (.int (m : Int)), some (.ref q), t] ∧ Kp r H H' ∧ H' q = some (.lst (ws.map tv)) ∧ ws.length = i ∧ ws.Nodup ∧ ∀ x ∈ ws, nmC x = true)
      ⟨none, [], rfl, (Kp.refl r H).put hq nq, upd_same, rfl, .nil, fun _ h => nomatch h⟩ ?_ ?_
    · rintro i σ H' hi ⟨t, ws, rfl, kp, fq, lw, nd, nm⟩
      have g' := kp.2 g
      refine ⟨_, rfl, (.inl ⟨rfl, _, SqL.of fq⟩), _, rfl, _, rfl, r, q, ws, rfl, g', fq, nq, by omega, fun H3 x k3 nx ni => ?_⟩
      have fq3 := k3.1 q _ nq fq
      refine ⟨q, _, _, rfl, rfl, fq3, (by rw [List.length_map]; omega), ?_⟩
      refine ⟨_, ws ++ [x], rfl, (kp.trans k3).put hq nq, by rw [upd_same, List.map_append]; rfl, by rw [List.length_append, List.length_singleton, lw], ?_, fun y hy => ?_⟩
      · refine List.nodup_append.mpr ⟨nd, List.nodup_cons.mpr ⟨List.not_mem_nil, .nil⟩, fun a ha b hb e => ?_⟩
        rw [List.mem_singleton.mp hb] at e
        exact ni (e ▸ ha)
      · rcases List.mem_append.mp hy with hy | hy
        · exact nm y hy
        · rw [List.mem_singleton.mp hy]
          exact nx
    · rintro σ H' ⟨t, ws, rfl, kp, fq, lw, nd, nm⟩
      exact ⟨_, rfl, k H' q ws kp hq nq fq lw nd nm⟩
end
end K15
namespace K15
open PySem L2
def absI (i : Int) : Int := if i < 0 then -i else i
def noQ (x : Str) : Bool := !decide ((39 : Nat) ∈ x.cps.toList)
def srt : V → V
  | .bl _ => .str "truth"
  | .int i => if absI i < 10 ^ (30 : Int).toNat then .str "int" else .non
  | .str x => if (decide ((x.length : Int) ≤ 60) && noQ x) = true then .str "text" else .non
  | _ => .non
theorem lit_quote : Str.ofString "'" = ⟨#[39]⟩ := by decide +kernel
theorem srt_cases (v : V) : srt v = .non ∨ ∃ x, srt v = .str x := by
  cases v with
  | bl _ => exact .inr ⟨_, rfl⟩
  | int i =>
    show (if _ then _ else _) = V.non ∨ _
    by_cases h : absI i < 10 ^ (30 : Int).toNat
    · exact .inr ⟨"int", if_pos h⟩
    · exact .inl (if_neg h)
  | str x =>
    by_cases h : (decide ((x.length : Int) ≤ 60) && noQ x) = true
    · exact .inr ⟨"text", if_pos h⟩
    · exact .inl (if_neg h)
  | _ => exact .inl rfl
section
variable {P : Program} {w : World} {K : PySem.W.Frag} {mg : Str → Option Value} {base : Heap}
/-! ### sort_of -/
theorem scSo : FnScope ["value"] ["value"] (defScope sSortOf) := ⟨rfl, rfl, rfl, by decide +kernel, rfl, by decide +kernel, by decide +kernel⟩
def spSort (K : PySem.W.Frag) : Sp := fun vs H Q _ => ∃ v : V, vs = [v] ∧ Cl K H v ∧ Q (srt v) H
theorem ok_sort {f : Addr} {fd : FuncData} {tk : Tok} (F : Fun K "sort_of" "sort_of" sSortOf f fd) (Z : Zn mg) (mC : mg "MOST_CHARACTERS" = some (.int 60 tk)) : FnOk P w K mg base CX0 1 f fd ["value"] (spSort K) := by
  refine F.ok scSo (fun vs H Q E h => ?_) (fun cdv A outer_ s H vs Q E hr h => ?_)
  · obtain ⟨v, rfl, _⟩ := h
    rfl
  · obtain ⟨v, rfl, cl, k⟩ := h
    refine ⟨_, pss_cons (ps_if (pt_val (pe_callB call_isi (by rfl) Z.zIs (by decide +kernel) (pa_cons (pv 0) (pa_cons (pe_bltn (v := .ty "bool") (u := .type "bool") (by rfl) Z.zBool (by decide +kernel) rfl) pa_nil)))) (pss_one (ps_ret pe_str)) pss_nil)
      (pss_cons (ps_if (pt_val (pe_callB call_isi (by rfl) Z.zIs (by decide +kernel) (pa_cons (pv 0) (pa_cons (pe_bltn (v := .ty "int") (u := .type "int") (by rfl) Z.zInt (by decide +kernel) rfl) pa_nil))))
        (pss_one (ps_ret (pe_ifExp (pt_cmpR op_lt (pe_callB call_abs (by rfl) Z.zAbs (by decide +kernel) (pa_cons (pv 0) pa_nil)) (pe_op op_pow pe_int pe_int) (nomark _)) pe_str pe_non))) pss_nil)
      (pss_cons (ps_if (PW.pt (pw_and (pt_val (pe_callB call_isi (by rfl) Z.zIs (by decide +kernel) (pa_cons (pv 0) (pa_cons (pe_bltn (v := .ty "str") (u := .type "str") (by rfl) Z.zStr (by decide +kernel) rfl) pa_nil))))
          (pw_and (pt_cmpR op_le (pe_callB call_len_str (by rfl) Z.zLen PySem.boot_len (pa_cons (pv 0) pa_nil)) (pe_glob (v := .int 60) rfl mC ⟨_, rfl⟩) (nomark _)) (pw_and1 (pt_cmpR op_notInS pe_str (pv 0) (by rfl))))))
        (pss_one (ps_ret pe_str)) pss_nil)
      (pss_one (ps_ret pe_non)))), ?_⟩
    obtain ⟨t, ty, kb, ki, ks⟩ := cl.kit
    refine ⟨_, rfl, v, .ty "bool", t, .type "bool", vB v, rfl, .ty _, ty, kb, _, rfl, ?_⟩
    by_cases hb : vB v = true
    · rw [hb]
      cases v <;> first | exact Bool.noConfusion (show false = true from hb) | exact k
    have hb' : vB v = false := by simpa using hb
    rw [hb']
    refine ⟨_, rfl, v, .ty "int", t, .type "int", vI v, rfl, .ty _, ty, ki, _, rfl, ?_⟩
    by_cases hi : vI v = true
    · rw [hi]
      obtain ⟨i, rfl⟩ : ∃ i, v = .int i := by
        cases v <;> first | exact ⟨_, rfl⟩ | exact Bool.noConfusion (show true = false from hb') | exact Bool.noConfusion (show false = true from hi)
      refine ⟨_, rfl, _, rfl, _, _, rfl, rfl, ⟨by decide, by decide, by decide⟩, _, _, rfl, rfl, _, rfl, ?_⟩
      refine ite2 (fun h1 => ?_) (fun h1 => ?_)
      · have e : srt (.int i) = .str "int" := if_pos (of_decide_eq_true h1)
        rw [e] at k
        exact k
      · have e : srt (.int i) = .non := if_neg (fun z => h1 (decide_eq_true z))
        rw [e] at k
        exact k
    have hi' : vI v = false := by simpa using hi
    rw [hi']
    refine ⟨_, rfl, v, .ty "str", t, .type "str", vS v, rfl, .ty _, ty, ks, _, rfl, ?_⟩
    by_cases hs : vS v = true
    · rw [hs]
      obtain ⟨l, rfl, hl⟩ := cl.text hs
      have hline : (txt l).length ≤ sizeLine := by rw [txt_len, sizeLine_eq]; omega
      refine ⟨_, rfl, _, rfl, hline, _, _, rfl, rfl, _, rfl, ?_⟩
      refine ite2 (fun h1 => ?_) (fun h1 => ?_)
      · refine ⟨_, rfl, 39, txt l, congrArg V.str lit_quote, rfl, _, rfl, ?_⟩
        show if (noQ (txt l)) = true then _ else _
        refine ite2 (fun h2 => ?_) (fun h2 => ?_)
        · have e : srt (tv l) = .str "text" := if_pos (Bool.and_eq_true_iff.mpr ⟨h1, h2⟩)
          rw [e] at k
          exact k
        · have e : srt (tv l) = .non := if_neg (fun z => h2 (Bool.and_eq_true_iff.mp z).2)
          rw [e] at k
          exact k
      · have e : srt (tv l) = .non := if_neg (fun z => h1 (Bool.and_eq_true_iff.mp z).1)
        rw [e] at k
        exact k
    have hs' : vS v = false := by simpa using hs
    rw [hs']
    cases v <;> first | exact Bool.noConfusion (show true = false from hb') | exact Bool.noConfusion (show true = false from hi') | exact Bool.noConfusion (show true = false from hs') | exact k
/-! ### is_value_or_empty -/
def goodV (v : V) : Bool := decide (v = .non) || !decide (srt v = .non)
abbrev badV (v : V) : Bool := !goodV v
def spB (K : PySem.W.Frag) (g : V → Bool) : Sp := fun vs H Q _ => ∃ v : V, vs = [v] ∧ Cl K H v ∧ Q (.bl (g v)) H
theorem ok_isVal {f fO : Addr} {fd dO : FuncData} {tk : Tok} (F : Fun K "is_value_or_empty" "is_value_or_empty" sIsVal f fd) (Z : Zn mg) (mC : mg "MOST_CHARACTERS" = some (.int 60 tk)) (AO : At K mg "sort_of" sSortOf ["value"] fO dO) : FnOk P w K mg base CX0 2 f fd ["value"] (spB K goodV) := by
  have GO : FnOk P w K mg base CX0 1 fO dO ["value"] (spSort K) := ok_sort AO.F Z mC
  refine F.ok (N := ["value"]) ⟨rfl, rfl, rfl, by decide +kernel, rfl, by decide +kernel, by decide +kernel⟩ (fun vs H Q E h => ?_) (fun cdv A outer_ s H vs Q E hr h => ?_)
  · obtain ⟨v, rfl, _⟩ := h
    rfl
  · obtain ⟨v, rfl, cl, k⟩ := h
    refine ⟨_, pss_one (ps_ret (pe_or (pe_cmp (pc_isN (pv 0))) (pe_one (pe_cmp (pc_notN (pe_call GO hr (by rfl) AO.m AO.F.kp AO.b .nil pass0 (pa_cons (pv 0) pa_nil))))))), ?_⟩
    unfold goodV at k
    by_cases h : v = .non
    · rw [decide_eq_true h] at k
      refine ⟨_, rfl, _, rfl, ?_⟩
      rw [decide_eq_true h]
      exact k
    · rw [decide_eq_false h] at k
      refine ⟨_, rfl, _, rfl, ?_⟩
      rw [decide_eq_false h]
      refine ⟨_, rfl, v, rfl, cl, ?_⟩
      exact k
/-! ### value_rank -/
def vrank : V → SortV.Key
  | .bl b => (1, .inl (if b then 1 else 0))
  | .int i => (2, .inl i)
  | .str x => (3, .inr x)
  | _ => (0, .inl 0)
theorem vrank_fit (v : V) : SortV.Fit (vrank v) := by
  cases v <;> (unfold SortV.Fit vrank; simp)
/-- what is sorted: no object -/
def flatN : V → Bool
  | .non => true
  | .bl _ => true
  | .int _ => true
  | .str _ => true
  | _ => false
theorem flat_good {v : V} (h : goodV v = true) : flatN v = true := by
  cases v <;> first | rfl | (exact absurd h (by unfold goodV srt; simp))
theorem vrank_inj {u v : V} (hu : flatN u = true) (hv : flatN v = true) (e : vrank u = vrank v) : u = v := by
  cases u <;> first | cases hu; done | skip
  all_goals (cases v <;> first | cases hv; done | skip)
  all_goals first | rfl | (simp [vrank] at e; done) | skip
  all_goals simp only [vrank, Prod.mk.injEq, Sum.inl.injEq, Sum.inr.injEq, true_and] at e
  all_goals first | rw [e] | skip
  rename_i a b
  cases a <;> cases b <;> first | rfl | (simp at e)
/-- sorted by rank -/
def VS (xs ys : List V) : Prop := ys.Perm xs ∧ ys.Pairwise fun a b => SortV.ltK (vrank b) (vrank a) = false
theorem VS.unique {xs ys zs : List V} (f : ∀ v ∈ xs, flatN v = true) (a : VS xs ys) (b : VS xs zs) : ys = zs := by
  have pm : ys.Perm zs := a.1.trans b.1.symm
  refine List.Perm.eq_of_pairwise (le := fun a b => SortV.ltK (vrank b) (vrank a) = false) (fun u v hu hv h1 h2 => ?_) a.2 b.2 pm
  exact vrank_inj (f u (a.1.mem_iff.mp hu)) (f v (b.1.mem_iff.mp hv)) (SortV.ltK_tri h2 h1)
def spVRank (K : PySem.W.Frag) : Sp := fun vs H Q _ => ∃ v : V, vs = [v] ∧ Cl K H v ∧ flatN v = true ∧ ∀ kv H', (∀ b o, H b = some o → H' b = some o) → SortVH.IsKey kv (vrank v) H' → Q kv H'
theorem ok_vrank {f : Addr} {fd : FuncData} (F : Fun K "value_rank" "value_rank" sVRank f fd) (Z : Zn mg) : FnOk P w K mg base CX0 1 f fd ["value"] (spVRank K) := by
  refine F.ok (N := ["value"]) ⟨rfl, rfl, rfl, by decide +kernel, rfl, by decide +kernel, by decide +kernel⟩ (fun vs H Q E h => ?_) (fun cdv A outer_ s H vs Q E hr h => ?_)
  · obtain ⟨v, rfl, _⟩ := h
    rfl
  · obtain ⟨v, rfl, cl, fl, k⟩ := h
    refine ⟨_, pss_cons (ps_if (pt_cmp (pc_isN (pv 0))) (pss_one (ps_ret (pe_tup (pa_cons pe_int (pa_cons pe_int pa_nil))))) pss_nil)
      (pss_cons (ps_if (pt_val (pe_callB call_isi (by rfl) Z.zIs (by decide +kernel) (pa_cons (pv 0) (pa_cons (pe_bltn (v := .ty "bool") (u := .type "bool") (by rfl) Z.zBool (by decide +kernel) rfl) pa_nil)))) (pss_one (ps_ret (pe_tup (pa_cons pe_int (pa_cons (pe_callTy call_int1 (by rfl) Z.zInt (by decide +kernel) (pa_cons (pv 0) pa_nil)) pa_nil))))) pss_nil)
      (pss_cons (ps_if (pt_val (pe_callB call_isi (by rfl) Z.zIs (by decide +kernel) (pa_cons (pv 0) (pa_cons (pe_bltn (v := .ty "int") (u := .type "int") (by rfl) Z.zInt (by decide +kernel) rfl) pa_nil)))) (pss_one (ps_ret (pe_tup (pa_cons pe_int (pa_cons (pv 0) pa_nil))))) pss_nil)
      (pss_one (ps_ret (pe_tup (pa_cons pe_int (pa_cons (pv 0) pa_nil))))))), ?_⟩
    obtain ⟨t, ty, kb, ki, ks⟩ := cl.kit
    have fin : ∀ (u : V) (t : Addr) (H1 : Hp), H t = none → H1 = upd H t (.tup [.int (vrank v).1, u]) → u = SortVH.key2 (vrank v).2 → Q (.ref t) H1 := fun u t H1 ht e1 e2 => by
      subst e1
      subst e2
      exact k _ _ (fun b o e => by rw [upd_ne (ne_of_none e ht)]; exact e) ⟨t, rfl, upd_same, vrank_fit v⟩
    have l2 : (2 : Nat) ≤ sizeLine := by decide
    by_cases hn : v = .non
    · subst hn
      refine ⟨_, rfl, _, rfl, ?_⟩
      exact ⟨l2, fun t ht => fin _ t _ ht rfl rfl⟩
    refine ⟨_, rfl, _, rfl, ?_⟩
    rw [decide_eq_false hn]
    refine ⟨_, rfl, v, .ty "bool", t, .type "bool", vB v, rfl, .ty _, ty, kb, _, rfl, ?_⟩
    by_cases hb : vB v = true
    · rw [hb]
      obtain ⟨b, rfl⟩ : ∃ b, v = .bl b := by
        cases v <;> first | exact Bool.noConfusion (show false = true from hb) | exact ⟨_, rfl⟩
      exact ⟨_, rfl, .inr ⟨b, rfl, l2, fun t ht => fin _ t _ ht rfl (by cases b <;> rfl)⟩⟩
    have hb' : vB v = false := by simpa using hb
    rw [hb']
    refine ⟨_, rfl, v, .ty "int", t, .type "int", vI v, rfl, .ty _, ty, ki, _, rfl, ?_⟩
    by_cases hi : vI v = true
    · rw [hi]
      obtain ⟨i, rfl⟩ : ∃ i, v = .int i := by
        cases v <;> first | exact ⟨_, rfl⟩ | exact Bool.noConfusion (show true = false from hb') | exact Bool.noConfusion (show false = true from hi)
      exact ⟨_, rfl, l2, fun t ht => fin _ t _ ht rfl rfl⟩
    have hi' : vI v = false := by simpa using hi
    rw [hi']
    obtain ⟨x, rfl⟩ : ∃ x, v = .str x := by
      cases v <;> first | exact ⟨_, rfl⟩ | exact absurd rfl hn | exact Bool.noConfusion (show true = false from hb') | exact Bool.noConfusion (show true = false from hi') | exact Bool.noConfusion (show false = true from fl)
    exact ⟨_, rfl, l2, fun t ht => fin _ t _ ht rfl rfl⟩
/-- the law's own -/
theorem ok_lrank {f : Addr} {fd : FuncData} (F : Fun K "_law_rank" "_law_rank" sLRnk f fd) (Z : Zn mg) : FnOk P w K mg base CX0 1 f fd ["_law_value_here"] (spVRank K) := by
  refine F.ok (N := ["_law_value_here"]) ⟨rfl, rfl, rfl, by decide +kernel, rfl, by decide +kernel, by decide +kernel⟩ (fun vs H Q E h => ?_) (fun cdv A outer_ s H vs Q E hr h => ?_)
  · obtain ⟨v, rfl, _⟩ := h
    rfl
  · obtain ⟨v, rfl, cl, fl, k⟩ := h
    refine ⟨_, pss_cons (ps_if (pt_cmp (pc_isN (pv 0))) (pss_one (ps_ret (pe_tup (pa_cons pe_int (pa_cons pe_int pa_nil))))) pss_nil)
      (pss_cons (ps_if (pt_val (pe_callB call_isi (by rfl) Z.zIs (by decide +kernel) (pa_cons (pv 0) (pa_cons (pe_bltn (v := .ty "bool") (u := .type "bool") (by rfl) Z.zBool (by decide +kernel) rfl) pa_nil)))) (pss_one (ps_ret (pe_tup (pa_cons pe_int (pa_cons (pe_callTy call_int1 (by rfl) Z.zInt (by decide +kernel) (pa_cons (pv 0) pa_nil)) pa_nil))))) pss_nil)
      (pss_one (ps_ret (pe_ifExp (pt_val (pe_callB call_isi (by rfl) Z.zIs (by decide +kernel) (pa_cons (pv 0) (pa_cons (pe_bltn (v := .ty "int") (u := .type "int") (by rfl) Z.zInt (by decide +kernel) rfl) pa_nil)))) (pe_tup (pa_cons pe_int (pa_cons (pv 0) pa_nil))) (pe_tup (pa_cons pe_int (pa_cons (pv 0) pa_nil))))))), ?_⟩
    obtain ⟨t, ty, kb, ki, ks⟩ := cl.kit
    have fin : ∀ (u : V) (t : Addr) (H1 : Hp), H t = none → H1 = upd H t (.tup [.int (vrank v).1, u]) → u = SortVH.key2 (vrank v).2 → Q (.ref t) H1 := fun u t H1 ht e1 e2 => by
      subst e1
      subst e2
      exact k _ _ (fun b o e => by rw [upd_ne (ne_of_none e ht)]; exact e) ⟨t, rfl, upd_same, vrank_fit v⟩
    have l2 : (2 : Nat) ≤ sizeLine := by decide
    by_cases hn : v = .non
    · subst hn
      refine ⟨_, rfl, _, rfl, ?_⟩
      exact ⟨l2, fun t ht => fin _ t _ ht rfl rfl⟩
    refine ⟨_, rfl, _, rfl, ?_⟩
    rw [decide_eq_false hn]
    refine ⟨_, rfl, v, .ty "bool", t, .type "bool", vB v, rfl, .ty _, ty, kb, _, rfl, ?_⟩
    by_cases hb : vB v = true
    · rw [hb]
      obtain ⟨b, rfl⟩ : ∃ b, v = .bl b := by
        cases v <;> first | exact Bool.noConfusion (show false = true from hb) | exact ⟨_, rfl⟩
      exact ⟨_, rfl, .inr ⟨b, rfl, l2, fun t ht => fin _ t _ ht rfl (by cases b <;> rfl)⟩⟩
    have hb' : vB v = false := by simpa using hb
    rw [hb']
    refine ⟨_, rfl, v, .ty "int", t, .type "int", vI v, rfl, .ty _, ty, ki, _, rfl, ?_⟩
    by_cases hi : vI v = true
    · rw [hi]
      obtain ⟨i, rfl⟩ : ∃ i, v = .int i := by
        cases v <;> first | exact ⟨_, rfl⟩ | exact Bool.noConfusion (show true = false from hb') | exact Bool.noConfusion (show false = true from hi)
      exact ⟨_, rfl, l2, fun t ht => fin _ t _ ht rfl rfl⟩
    have hi' : vI v = false := by simpa using hi
    rw [hi']
    obtain ⟨x, rfl⟩ : ∃ x, v = .str x := by
      cases v <;> first | exact ⟨_, rfl⟩ | exact absurd rfl hn | exact Bool.noConfusion (show true = false from hb') | exact Bool.noConfusion (show true = false from hi') | exact Bool.noConfusion (show false = true from fl)
    exact ⟨_, rfl, l2, fun t ht => fin _ t _ ht rfl rfl⟩
/-! ### in_value_order -/
theorem seqT_same {H H' : Hp} {a : Addr} {xs : List V} (e : Same H H') (h : SqT K H a xs) : SqT K H' a xs := by
  rcases h with (h | ⟨o, h⟩) | h
  · exact .inl (.inl (e _ _ h))
  · exact .inl (.inr ⟨o, e _ _ h⟩)
  · exact .inr h

def spVO (K : PySem.W.Frag) (CY : Addr) : Sp := fun vs H Q E => ∃ (a : Addr) (xs : List V), vs = [.ref a] ∧ (SqL K H a xs ∨ SqT K H a xs) ∧ xs.length ≤ 60 ∧ (∀ v ∈ xs, Cl K H v) ∧ (∀ v, xs.find? badV = some v → Bad "value" CY H v E) ∧
  (xs.all goodV = true → ∀ ys H' p, VS xs ys → Same H H' → H p = none → H' p = some (.lst ys) → Q (.ref p) H')
theorem find_bad {xs : List V} {i : Nat} {v : V} (h : xs[i]? = some v) (good : (xs.take i).all goodV = true) (b : goodV v = false) : xs.find? badV = some v := by
  have hi : i < xs.length := (List.getElem?_eq_some_iff.mp h).1
  have hv : xs[i] = v := (List.getElem?_eq_some_iff.mp h).2
  have e : xs = xs.take i ++ v :: xs.drop (i + 1) := by
    rw [← hv, ← List.drop_eq_getElem_cons hi, List.take_append_drop]
  rw [e, List.find?_append, List.find?_eq_none.mpr fun u hu => by simp [badV, List.all_eq_true.mp good u hu]]
  simp [badV, b]
theorem scVO : FnScope ["values", "value"] ["values"] (defScope sVOrder) := ⟨rfl, rfl, rfl, by decide +kernel, rfl, by decide +kernel, by decide +kernel⟩
theorem ok_vorder {f fI fO fR fY CY : Addr} {fd dI dO dR dY : FuncData} {tk : Tok} (F : Fun K "in_value_order" "in_value_order" sVOrder f fd) (Z : Zn mg) (zO : mg "sorted" = none) (mC : mg "MOST_CHARACTERS" = some (.int 60 tk)) (AO : At K mg "sort_of" sSortOf ["value"] fO dO)
    (AI : At K mg "is_value_or_empty" sIsVal ["value"] fI dI) (AR : At K mg "value_rank" sVRank ["value"] fR dR) (T : IY K mg CY fY dY) : FnOk P w K mg base (L2N.CX P w) 4 f fd ["values"] (spVO K CY) := by
  have GI : FnOk P w K mg base CX0 2 fI dI ["value"] (spB K goodV) := ok_isVal AI.F Z mC AO
  have GY : FnOk P w K mg base CX0 1 fY dY ["self", "value"] (spInitY CY) := ok_initY T
  have GR : FnR P w K mg base CX0 1 fR (fun vs H Q E => spVRank K (vs ++ []) H Q E) := (ok_vrank AR.F Z).raw AR.b .nil
  refine HtT.okN F scVO (fun vs H Q E h => ?_) (fun cdv A outer_ s H vs Q E hr h => ?_)
  · obtain ⟨a, xs, rfl, _⟩ := h
    rfl
  · obtain ⟨a, xs, rfl, hS, few, cls, kb, k⟩ := h
    have h2 := hr.mono (j := 2) (by decide)
    have h3 := hr.mono (j := 3) (by decide)
    refine ⟨_, pss_cons (ps_for (passes_of rfl) rfl (pi_seq (pv 0)) (pg_name (i := 1) scVO.nd rfl (Or.inl rfl)) (pss_one (ps_if (pt_not (pt_val (pe_call GI h2 (by rfl) AI.m AI.F.kp AI.b .nil pass0 (pa_cons (pv 1) pa_nil))))
        (pss_one (L2N.ps_raise rfl (L2N.takes_of rfl rfl rfl rfl) (HtT.pmk_oexN T.o T.iC T.tI GY h2 T.b pass0 (by rfl) T.m (by exact (pa_cons (pv 1) pa_nil))))) pss_nil)))
      (pss_one (ps_ret (pe_callBK (SortVH.cr_sortK GR ((hr.mono (j := 3) (by decide)).in1.in1) (hr.mono (j := 3) (by decide)).in1.in1.units0) (by rfl) zO (by decide +kernel) (pa_cons (pv 0) pa_nil) (pk_cons (pe_glob (v := .ref fR) (by rfl) AR.m rfl) pk_nil)))), ?_⟩
    have turn : ∀ (i : Nat) (v : V) (σ : St) (tS : V → St) (D : Ends) (Nx : St → Hp → Prop), xs[i]? = some v → True := fun _ _ _ _ _ _ _ => trivial
    have fin : ∀ H1, Same H H1 → (xs.take xs.length).all goodV = true → _ := fun H1 (sm : Same H H1) (good : (xs.take xs.length).all goodV = true) =>
      show ∃ (l : Addr) (ys : List V) (g : V → SortV.Key), [V.ref a] = [.ref l] ∧ [V.ref fR] = [V.ref fR] ∧ (SqL K H1 l ys ∨ SqT K H1 l ys) ∧ (∀ x ∈ ys, ∀ H' : Hp, (∀ b o, H1 b = some o → H' b = some o) → spVRank K ([x] ++ []) H' (fun kv H'' => (∀ b o, H' b = some o → H'' b = some o) ∧ SortVH.IsKey kv (g x) H'') E0) ∧
        ∀ (zs : List V) (H' : Hp) (p : Addr), zs.Perm ys → zs.Pairwise (fun a b => SortV.ltK (g b) (g a) = false) → (∀ b o, H1 b = some o → H' b = some o) → H1 p = none → H' p = some (.lst zs) → Q (.ref p) H' from by
      rw [List.take_of_length_le (Nat.le_refl _)] at good
      have fl : ∀ v ∈ xs, flatN v = true := fun v hv => flat_good (List.all_eq_true.mp good v hv)
      refine ⟨a, xs, vrank, rfl, rfl, hS.elim (fun q => .inl (sm.seq q)) (fun q => .inr (seqT_same sm q)), fun x hx H2 k2 => ?_, fun zs H2 p pm pw k2 hp hL => ?_⟩
      · exact ⟨x, rfl, (cls x hx).same fun a t _ ty => tyx_same ty (sm.trans k2), fl x hx, fun kv H3 k3 ik => ⟨k3, ik⟩⟩
      · exact k good zs H2 p ⟨pm, pw⟩ (sm.trans k2) (sm.free hp) hL
    refine ⟨_, rfl, a, xs, rfl, ?_⟩
    have go : ∀ {i : Nat} {v : V} {H' : Hp} {Nx : Prop}, xs[i]? = some v → Same H H' → (xs.take i).all goodV = true → ((xs.take (i + 1)).all goodV = true → Nx) → True := fun _ _ _ _ => trivial
    clear go turn
    rcases hS with hS | hS
    · refine .inl ⟨hS, for_list (xs := xs) (fun i σ H' => Same H H' ∧ (xs.take i).all goodV = true ∧ ∃ m, σ = [some (.ref a), m]) ⟨Same.refl H, rfl, none, rfl⟩ (fun i σ H' _ q => q.1.seq hS) ?_ ?_⟩
      · rintro i v σ H' hi ⟨sm, good, m, rfl⟩
        have cl : Cl K H' v := (cls v (List.mem_of_getElem? hi)).same fun a t _ ty => tyx_same ty sm
        refine ⟨_, rfl, v, rfl, cl, _, rfl, ?_⟩
        by_cases nm : goodV v = true
        · rw [nm]
          exact ⟨sm, by rw [take_snoc hi, List.all_append, good, List.all_cons, nm]; rfl, some v, rfl⟩
        · have nm' : goodV v = false := by simpa using nm
          rw [nm']
          exact ⟨_, rfl, mkY H' v (bad_of sm (kb v (find_bad hi good nm')))⟩
      · rintro σ H1 ⟨sm, good, m, rfl⟩
        exact ⟨_, rfl, fin H1 sm good⟩
    · refine .inr ⟨hS, for_tup (xs := xs) (fun i σ H' => Same H H' ∧ (xs.take i).all goodV = true ∧ ∃ m, σ = [some (.ref a), m]) ⟨Same.refl H, rfl, none, rfl⟩ (fun i σ H' _ q => seqT_same q.1 hS) ?_ ?_⟩
      · rintro i v σ H' hi ⟨sm, good, m, rfl⟩
        have cl : Cl K H' v := (cls v (List.mem_of_getElem? hi)).same fun a t _ ty => tyx_same ty sm
        refine ⟨_, rfl, v, rfl, cl, _, rfl, ?_⟩
        by_cases nm : goodV v = true
        · rw [nm]
          exact ⟨sm, by rw [take_snoc hi, List.all_append, good, List.all_cons, nm]; rfl, some v, rfl⟩
        · have nm' : goodV v = false := by simpa using nm
          rw [nm']
          exact ⟨_, rfl, mkY H' v (bad_of sm (kb v (find_bad hi good nm')))⟩
      · rintro σ H1 ⟨sm, good, m, rfl⟩
        exact ⟨_, rfl, fin H1 sm good⟩
end
end K15
namespace K15
open PySem L2 SR
/-- the key of some marks -/
def keyOf (t : List Str) : SortT.Key := ((t.length : Int), t)
def InOrd (S : List (List Str)) : Prop := S.Pairwise fun a b => SortT.ltK (keyOf b) (keyOf a) = false
theorem lex_tri : ∀ a b : List Str, SortT.lexS a b = false → SortT.lexS b a = false → a = b := by
  intro a
  induction a with
  | nil =>
    intro b h1 h2
    cases b with
    | nil => rfl
    | cons y b => simp [SortT.lexS] at h1
  | cons x a ih =>
    intro b h1 h2
    cases b with
    | nil => simp [SortT.lexS] at h2
    | cons y b =>
      unfold SortT.lexS at h1 h2
      by_cases e : x = y
      · subst e
        rw [if_pos rfl] at h1 h2
        rw [ih b h1 h2]
      · rw [if_neg e] at h1
        rw [if_neg (Ne.symm e)] at h2
        exact absurd (SortT.ltS_tri h1 h2) e
theorem ord_eq {S T : List (List Str)} (p : S.Perm T) (hs : InOrd S) (ht : InOrd T) : S = T := by
  refine p.eq_of_pairwise (le := fun a b => SortT.ltK (keyOf b) (keyOf a) = false) (fun a b _ _ h1 h2 => ?_) hs ht
  unfold SortT.ltK keyOf at h1 h2
  by_cases e : (a.length : Int) = (b.length : Int)
  · rw [if_pos e.symm] at h1
    rw [if_pos e] at h2
    exact lex_tri a b h2 h1
  · rw [if_neg (Ne.symm e)] at h1
    rw [if_neg e] at h2
    have h1 := of_decide_eq_false h1
    have h2 := of_decide_eq_false h2
    exact absurd (Int.le_antisymm (Int.not_lt.mp h1) (Int.not_lt.mp h2)) (by first | exact e | exact Ne.symm e)
/-- these stand for these texts, as tuples -/
def Tups (H : Hp) (vs : List V) (S : List (List Str)) : Prop := vs.length = S.length ∧ ∀ (j : Nat) (zs : List Str), S[j]? = some zs → ∃ p, vs[j]? = some (.ref p) ∧ H p = some (.tup (zs.map V.str))
theorem Tups.same {H H' : Hp} {vs : List V} {S : List (List Str)} (h : Tups H vs S) (s : Same H H') : Tups H' vs S := ⟨h.1, fun j zs e => let ⟨p, a, b⟩ := h.2 j zs e; ⟨p, a, s _ _ b⟩⟩
theorem Tups.app {H : Hp} {vs us : List V} {S T : List (List Str)} (h : Tups H vs S) (k : Tups H us T) : Tups H (vs ++ us) (S ++ T) := by
  refine ⟨by rw [List.length_append, List.length_append, h.1, k.1], fun j zs e => ?_⟩
  by_cases hj : j < S.length
  · rw [List.getElem?_append_left hj] at e
    obtain ⟨p, a, b⟩ := h.2 j zs e
    exact ⟨p, by rw [List.getElem?_append_left (by rw [h.1]; exact hj)]; exact a, b⟩
  · rw [List.getElem?_append_right (by omega)] at e
    obtain ⟨p, a, b⟩ := k.2 _ zs e
    exact ⟨p, by rw [List.getElem?_append_right (by rw [h.1]; omega), h.1]; exact a, b⟩
theorem Tups.one {H : Hp} {p : Addr} {zs : List Str} (h : H p = some (.tup (zs.map V.str))) : Tups H [.ref p] [zs] := ⟨rfl, fun j us e => by
  cases j with
  | zero =>
    cases e
    exact ⟨p, rfl, h⟩
  | succ j => simp at e⟩
/-- the texts that a tuple holds -/
def strOf (u : V) : Option Str := match u with
  | .str z => some z
  | _ => none
def txsOf (o : Option HO) : List Str := match o with
  | some (.tup xs) => xs.filterMap strOf
  | _ => []
def zsOf (H : Hp) (v : V) : List Str := match v with
  | .ref p => txsOf (H p)
  | _ => []
theorem zs_at {H : Hp} {p : Addr} {zs : List Str} (h : H p = some (.tup (zs.map V.str))) : zsOf H (.ref p) = zs := by
  show txsOf (H p) = zs
  rw [h]
  show List.filterMap strOf (zs.map V.str) = zs
  rw [List.filterMap_map]
  exact List.filterMap_some
theorem Tups.map {H : Hp} {vs : List V} {S : List (List Str)} (h : Tups H vs S) : vs.map (zsOf H) = S := by
  refine List.ext_getElem? fun j => ?_
  rw [List.getElem?_map]
  cases e : S[j]? with
  | none =>
    have : vs[j]? = none := by
      rw [List.getElem?_eq_none_iff] at e ⊢
      rw [h.1]
      exact e
    rw [this] <;> rfl
  | some zs =>
    obtain ⟨p, a, b⟩ := h.2 j zs e
    rw [a]
    show some (zsOf H (.ref p)) = some zs
    rw [zs_at b]
theorem Tups.at {H : Hp} {vs : List V} {S : List (List Str)} (h : Tups H vs S) {v : V} (hv : v ∈ vs) : ∃ p, v = .ref p ∧ H p = some (.tup ((zsOf H v).map V.str)) := by
  obtain ⟨j, hj, e⟩ := List.getElem_of_mem hv
  have hs : j < S.length := by rw [← h.1]; exact hj
  obtain ⟨p, a, b⟩ := h.2 j S[j] (List.getElem?_eq_getElem hs)
  rw [List.getElem?_eq_getElem hj, e] at a
  cases a
  exact ⟨p, rfl, by rw [zs_at b]; exact b⟩
theorem plus_txt : plus = txt [43] := by decide +kernel
theorem join_joinC : ∀ ts : List Tx, Str.join plus (ts.map txt) = txt (SP.joinC 43 ts)
  | [] => by decide +kernel
  | [p] => rfl
  | p :: q :: r => by
    have ih := join_joinC (q :: r)
    show txt p ++ plus ++ Str.join plus ((q :: r).map txt) = txt (p ++ 43 :: SP.joinC 43 (q :: r))
    rw [ih, plus_txt, txt_app, txt_app, List.append_assoc]
    rfl
theorem nm_no {t : Tx} (h : nmC t = true) : 43 ∉ t := fun z => by
  have := List.all_eq_true.mp (Bool.and_eq_true_iff.mp (Bool.and_eq_true_iff.mp h).2).2 43 z
  exact absurd this (by decide)
/-! ### the texts of labels differ -/
def lcode (ts : List Tx) : Tx := if ts = [] then [45] else SP.joinC 43 ts
theorem ltext_code {ts : List Tx} (nms : ∀ t ∈ ts, nmC t = true) : ltext (ts.map txt) = txt (lcode ts) := by
  unfold ltext lcode
  cases ts with
  | nil =>
    rw [if_pos (by decide +kernel), if_pos rfl]
    decide +kernel
  | cons y r =>
    have y0 : 0 < (txt y).length := by
      rw [txt_len]
      refine List.length_pos_iff.mpr fun e => ?_
      have := nms y List.mem_cons_self
      rw [e] at this
      exact absurd this (by decide)
    have jl : 0 < (Txt.join plus ((y :: r).map txt)).length := by
      rw [join_is]
      cases r with
      | nil => exact y0
      | cons z q =>
        show 0 < (txt y ++ plus ++ Str.join plus ((z :: q).map txt)).length
        rw [strLen_append, strLen_append]
        omega
    rw [if_neg (by omega), if_neg (by simp), join_is, join_joinC]
theorem lcode_inj {ts us : List Tx} (n1 : ∀ t ∈ ts, nmC t = true) (n2 : ∀ t ∈ us, nmC t = true) (e : lcode ts = lcode us) : ts = us := by
  have sp : ∀ ts : List Tx, (∀ t ∈ ts, nmC t = true) → ts ≠ [] → piecesC (lcode ts) = ts := fun ts h ne => by
    unfold lcode
    rw [if_neg ne]
    exact SP.split_join 43 ts ne fun t ht => nm_no (h t ht)
  have no : ∀ ts : List Tx, (∀ t ∈ ts, nmC t = true) → ts ≠ [] → lcode ts ≠ [45] := fun ts h ne z => by
    have q := sp ts h ne
    rw [z] at q
    have q2 : piecesC [45] = [[45]] := by decide
    rw [q2] at q
    have := h [45] (by rw [← q]; exact List.mem_singleton.mpr rfl)
    exact absurd this (by decide)
  by_cases a : ts = []
  · by_cases b : us = []
    · rw [a, b]
    · exact absurd (e.symm.trans (by rw [a]; rfl)) (no us n2 b)
  · by_cases b : us = []
    · exact absurd (e.trans (by rw [b]; rfl)) (no ts n1 a)
    · rw [← sp ts n1 a, ← sp us n2 b, e]
theorem ltext_inj {ys zs : List Str} (n1 : ys.all isNm = true) (n2 : zs.all isNm = true) (e : ltext ys = ltext zs) : ys = zs := by
  obtain ⟨ts, rfl⟩ := tx_of ys
  obtain ⟨us, rfl⟩ := tx_of zs
  rw [nms_is] at n1 n2
  have m1 : ∀ t ∈ ts, nmC t = true := fun t ht => List.all_eq_true.mp n1 t ht
  have m2 : ∀ t ∈ us, nmC t = true := fun t ht => List.all_eq_true.mp n2 t ht
  rw [ltext_code m1, ltext_code m2] at e
  rw [lcode_inj m1 m2 (txt_inj e)]
section
variable {P : Program} {w : World} {K : PySem.W.Frag} {mg : Str → Option Value} {base : Heap}
/-! ### marks_rank -/
def spRank : Sp := fun vs H Q _ => ∃ (p : Addr) (zs : List Str), vs = [.ref p] ∧ H p = some (.tup (zs.map V.str)) ∧ ∀ kv H', (∀ b o, H b = some o → H' b = some o) → SortH.IsKey kv ((zs.length : Int), zs) H' → Q kv H'
theorem ok_rank {f : Addr} {fd : FuncData} (F : Fun K "marks_rank" "marks_rank" sRank f fd) (Z : Zn mg) (zT : mg "tuple" = none) : FnOk P w K mg base CX0 1 f fd ["marks"] spRank := by
  refine F.ok (N := ["marks"]) ⟨rfl, rfl, rfl, by decide +kernel, rfl, by decide +kernel, by decide +kernel⟩ (fun vs H Q E h => ?_) (fun cdv A outer_ s H vs Q E hr h => ?_)
  · obtain ⟨p, zs, rfl, _⟩ := h
    rfl
  · obtain ⟨p, zs, rfl, hp, k⟩ := h
    refine ⟨_, pss_one (ps_ret (pe_tup (pa_cons (pe_callB call_len_seq (by rfl) Z.zLen PySem.boot_len (pa_cons (pv 0) pa_nil)) (pa_cons (pe_callTy call_tuple_of (by rfl) zT (by decide +kernel) (pa_cons (pv 0) pa_nil)) pa_nil)))), ?_⟩
    refine ⟨_, rfl, p, zs.map V.str, rfl, .inr (SqT.of hp), _, rfl, p, zs.map V.str, rfl, .inr ⟨SqT.of hp, by show 2 ≤ sizeLine; decide, fun t ht => ?_⟩⟩
    rw [List.length_map]
    refine k _ _ (fun b o e => ?_) ⟨t, p, rfl, upd_same, ?_⟩
    · rw [upd_ne (ne_of_none e ht)]
      exact e
    · rw [upd_ne (ne_of_none hp ht)]
      exact hp
end
end K15
namespace K15
open PySem L2 SR
/-! ### label_rank, in_order -/
/-- a label with these marks, or what is none -/
inductive It (K : PySem.W.Frag) (C : Addr) (H : Hp) : V → Option (List Str) → Prop
  | lab {b : Addr} {ys : List Str} : Lb C H b ys → It K C H (.ref b) (some ys)
  | odd {v : V} {T : String} : EqO.BtV K H v T → It K C H v none
theorem bt_same {K : PySem.W.Frag} {H H' : Hp} {v : V} {T : String} (h : EqO.BtV K H v T) (s : Same H H') : EqO.BtV K H' v T := by
  cases h with
  | non => exact .non
  | bl b => exact .bl b
  | int i => exact .int i
  | str x => exact .str x
  | lst e => exact .lst (s _ _ e)
  | tup e => exact .tup (s _ _ e)
  | dic e => exact .dic (s _ _ e)
  | kTup e c => exact .kTup e c
theorem It.same {K : PySem.W.Frag} {C : Addr} {H H' : Hp} {v : V} {o : Option (List Str)} (h : It K C H v o) (s : Same H H') : It K C H' v o := by
  cases h with
  | lab h => exact .lab (h.same s)
  | odd h => exact .odd (bt_same h s)
/-- the marks of what stands there -/
def marksAt (H : Hp) : V → List Str
  | .ref a => match H a with
    | some (.ins _ _ fs) => match fs.lookup ("_marks" : Str) with
      | some u => zsOf H u
      | _ => []
    | _ => []
  | _ => []
theorem marks_at {C : Addr} {H : Hp} {a : Addr} {ys : List Str} (h : Lb C H a ys) : marksAt H (.ref a) = ys := by
  obtain ⟨_, _, _, dx, t, h1, h2⟩ := h
  show (match H a with | some (.ins _ _ fs) => _ | _ => _) = _
  rw [h1]
  exact zs_at h2
/-- the entries of the dict of labels -/
abbrev Ent := Addr × List Str
def enc (e : Ent) : Key × V := (.inr (ltext e.2), .ref e.1)
def putL (L : List Ent) (b : Addr) (ys : List Str) : List Ent := if (L.any fun e => decide (e.2 = ys)) = true then L.map fun e => if e.2 = ys then (b, ys) else e else L ++ [(b, ys)]
theorem putL_enc {L : List Ent} {b : Addr} {ys : List Str} (n : ys.all isNm = true) (ns : ∀ e ∈ L, e.2.all isNm = true) : putK (L.map enc) (.inr (ltext ys)) (.ref b) = (putL L b ys).map enc := by
  have eq : ∀ e ∈ L, decide ((enc e).1 = .inr (ltext ys)) = decide (e.2 = ys) := fun e he => by
    by_cases q : e.2 = ys
    · rw [decide_eq_true q]
      exact decide_eq_true (by show (Sum.inr (ltext e.2) : Key) = _; rw [q])
    · rw [decide_eq_false q]
      exact decide_eq_false fun z => q (ltext_inj (ns e he) n (Sum.inr.inj z))
  have an : ((L.map enc).any fun kv => decide (kv.1 = .inr (ltext ys))) = L.any fun e => decide (e.2 = ys) := by
    rw [List.any_map]
    have : ∀ M : List Ent, (∀ e ∈ M, e ∈ L) → M.any ((fun kv : Key × V => decide (kv.1 = .inr (ltext ys))) ∘ enc) = M.any fun e => decide (e.2 = ys) := fun M => by
      induction M with
      | nil => intro _; rfl
      | cons e M ih =>
        intro h
        rw [List.any_cons, List.any_cons, ih fun x hx => h x (List.mem_cons_of_mem _ hx)]
        exact congrArg (· || _) (eq e (h e List.mem_cons_self))
    exact this L fun _ h => h
  unfold putK putL
  rw [an]
  by_cases c : (L.any fun e => decide (e.2 = ys)) = true
  · rw [if_pos c, if_pos c, List.map_map, List.map_map]
    refine List.map_congr_left fun e he => ?_
    show (if (enc e).1 = .inr (ltext ys) then _ else _) = enc (if e.2 = ys then (b, ys) else e)
    by_cases q : e.2 = ys
    · rw [if_pos q, if_pos (of_decide_eq_true ((eq e he).trans (decide_eq_true q)))]
      show ((enc e).1, V.ref b) = enc (b, ys)
      unfold enc
      rw [q]
    · rw [if_neg q, if_neg (of_decide_eq_false ((eq e he).trans (decide_eq_false q)))]
  · rw [if_neg c, if_neg c, List.map_append]
    rfl
theorem putL_snd (L : List Ent) (b : Addr) (ys : List Str) : (putL L b ys).map (·.2) = if ys ∈ L.map (·.2) then L.map (·.2) else L.map (·.2) ++ [ys] := by
  have e : ((L.any fun e => decide (e.2 = ys)) = true) ↔ ys ∈ L.map (·.2) := by
    rw [List.any_eq_true, List.mem_map]
    exact ⟨fun ⟨x, h1, h2⟩ => ⟨x, h1, of_decide_eq_true h2⟩, fun ⟨x, h1, h2⟩ => ⟨x, h1, decide_eq_true h2⟩⟩
  unfold putL
  by_cases c : ys ∈ L.map (·.2)
  · rw [if_pos (e.mpr c), if_pos c, List.map_map]
    refine List.map_congr_left fun x _ => ?_
    show (if x.2 = ys then (b, ys) else x).2 = x.2
    by_cases q : x.2 = ys
    · rw [if_pos q, q]
    · rw [if_neg q]
  · rw [if_neg fun z => c (e.mp z), if_neg c, List.map_append]
    rfl
theorem putL_mem {L : List Ent} {b : Addr} {ys : List Str} {e : Ent} (h : e ∈ putL L b ys) : e = (b, ys) ∨ e ∈ L := by
  unfold putL at h
  split at h
  · obtain ⟨x, hx, rfl⟩ := List.mem_map.mp h
    by_cases q : x.2 = ys
    · rw [if_pos q]; exact .inl rfl
    · rw [if_neg q]; exact .inr hx
  · rcases List.mem_append.mp h with h | h
    · exact .inr h
    · exact .inl (List.mem_singleton.mp h)
theorem putL_len (L : List Ent) (b : Addr) (ys : List Str) : (putL L b ys).length ≤ L.length + 1 := by
  unfold putL
  split
  · rw [List.length_map]; omega
  · rw [List.length_append]; exact Nat.le_refl _
section
variable {P : Program} {w : World} {K : PySem.W.Frag} {mg : Str → Option Value} {base : Heap}
variable {C gE gL gS gR gH pM gM : Addr} {dE dL dS dR dH dG : FuncData}
def spLRank (C : Addr) : Sp := fun vs H Q _ => ∃ (a : Addr) (ys : List Str), vs = [.ref a] ∧ Lb C H a ys ∧ ∀ kv H', (∀ b o, H b = some o → H' b = some o) → SortH.IsKey kv (keyOf ys) H' → Q kv H'
theorem ok_lbrank {f fR : Addr} {fd dR : FuncData} (F : Fun K "label_rank" "label_rank" sLRank f fd) (M : LabM K mg C gE gL gS gR gH pM gM dE dL dS dR0 dH dG) (Z : Zn mg) (zT : mg "tuple" = none) (AR : At K mg "marks_rank" sRank ["marks"] fR dR) : FnOk P w K mg base CX0 3 f fd ["label"] (spLRank C) := by
  have GR : FnOk P w K mg base CX0 1 fR dR ["marks"] spRank := ok_rank AR.F Z zT
  have GG : FnOk P w K mg base CX0 1 gM dG ["self"] (getSp C "_marks") := ok_get M
  refine F.ok (N := ["label"]) ⟨rfl, rfl, rfl, by decide +kernel, rfl, by decide +kernel, by decide +kernel⟩ (fun vs H Q E h => ?_) (fun cdv A outer_ s H vs Q E hr h => ?_)
  · obtain ⟨a, ys, rfl, _⟩ := h
    rfl
  · obtain ⟨a, ys, rfl, lb, k⟩ := h
    refine ⟨_, pss_one (ps_ret (pe_call GR (hr.mono (by decide)) (by rfl) AR.m AR.F.kp AR.b .nil pass0 (pa_cons (pe_prop (E := E0) (pv 0) M.cl M.pr GG hr M.bM .nil pass0 rfl) pa_nil))), ?_⟩
    obtain ⟨nx, l4, sx, dx, t, ha, ht⟩ := id lb
    exact ⟨_, rfl, a, dx, _, rfl, ha, a, dx, _, .ref t, rfl, ha, rfl, t, ys, rfl, ht, k⟩
def spIO (K : PySem.W.Frag) (C CL : Addr) : Sp := fun vs H Q E => ∃ (a : Addr) (xs : List V) (os : List (Option (List Str))), vs = [.ref a] ∧ (SqL K H a xs ∨ SqT K H a xs) ∧ xs.length ≤ 60 ∧ os.length = xs.length ∧ (∀ (i : Nat) v o, xs[i]? = some v → os[i]? = some o → It K C H v o) ∧
  (∀ (i : Nat) v, xs[i]? = some v → os[i]? = some none → (∀ j : Nat, j < i → os[j]? ≠ some none) → Bad "value" CL H v E) ∧
  (∀ S : List (List Str), os = S.map some → ∀ (zs : List Addr) (M : List (List Str)) H' p, Same H H' → H p = none → H' p = some (.lst (zs.map V.ref)) → zs.length = M.length → (∀ (j : Nat) z t, zs[j]? = some z → M[j]? = some t → Lb C H z t) → M.Nodup → (∀ t, t ∈ M ↔ t ∈ S) → InOrd M → Q (.ref p) H')
theorem scIO : FnScope ["labels", "found", "label"] ["labels"] (defScope sOrder) := ⟨rfl, rfl, rfl, by decide +kernel, rfl, by decide +kernel, by decide +kernel⟩
/-- what stands behind i labels -/
def Found (C : Addr) (H : Hp) (os : List (Option (List Str))) (d : Addr) (i : Nat) (H' : Hp) : Prop := Same H H' ∧ (∀ j : Nat, j < i → os[j]? ≠ some none) ∧ ∃ L : List Ent, H' d = some (.dK (L.map enc)) ∧ L.length ≤ i ∧ (∀ e ∈ L, Lb C H e.1 e.2) ∧ (L.map (·.2)).Nodup ∧ ∀ t, t ∈ L.map (·.2) ↔ some t ∈ os.take i
theorem Found.more {C : Addr} {H H' : Hp} {os : List (Option (List Str))} {d b : Addr} {i : Nat} {ys : List Str} {L : List Ent} (hd : H d = none) (s : Same H H') (no : ∀ j : Nat, j < i → os[j]? ≠ some none) (l : L.length ≤ i) (lbs : ∀ e ∈ L, Lb C H e.1 e.2) (nd : (L.map (·.2)).Nodup) (mm : ∀ t, t ∈ L.map (·.2) ↔ some t ∈ os.take i)
    (lb : Lb C H b ys) (ho : os[i]? = some (some ys)) : Found C H os d (i + 1) (upd H' d (.dK (putK (L.map enc) (.inr (ltext ys)) (.ref b)))) := by
  refine ⟨fun c o e => by rw [upd_ne (ne_of_none e hd)]; exact s c o e, fun j hj => ?_, putL L b ys, by rw [upd_same, putL_enc lb.1 fun e he => (lbs e he).1], by have := putL_len L b ys; omega, fun e he => ?_, ?_, fun t => ?_⟩
  · by_cases e : j = i
    · rw [e, ho]; intro z; cases z
    · exact no j (by omega)
  · rcases putL_mem he with rfl | he
    · exact lb
    · exact lbs e he
  · rw [putL_snd]
    split
    · exact nd
    · rename_i c
      refine List.nodup_append.mpr ⟨nd, List.nodup_cons.mpr ⟨List.not_mem_nil, .nil⟩, fun a ha b' hb e => ?_⟩
      rw [List.mem_singleton.mp hb] at e
      exact c (e ▸ ha)
  · rw [putL_snd, take_snoc ho, List.mem_append, ← mm t]
    split
    · rename_i c
      exact ⟨.inl, fun z => z.elim id fun z => by rw [Option.some.inj (List.mem_singleton.mp z)]; exact c⟩
    · rw [List.mem_append]
      exact ⟨fun z => z.imp id fun z => by rw [List.mem_singleton.mp z]; exact List.mem_singleton.mpr rfl, fun z => z.imp id fun z => by rw [Option.some.inj (List.mem_singleton.mp z)]; exact List.mem_singleton.mpr rfl⟩
theorem ok_inorder {CL fCh fK fR fL f : Addr} {dL dCh dK dR dL' fd : FuncData} (F : Fun K "in_order" "in_order" sOrder f fd) (M : LabM K mg C gE gL gS gR gH pM gM dE dL dS dR0 dH dG) (Z : Zn mg) (zT : mg "tuple" = none) (zL : mg "list" = none) (zO : mg "sorted" = none)
    (AC : At K mg "check_label" sCheck ["value"] fCh dCh) (AR : At K mg "marks_rank" sRank ["marks"] fR dR) (AK : At K mg "label_rank" sLRank ["label"] fK dK) (T : IL K mg CL fL dL') : FnOk P w K mg base (L2.CX P w) 6 f fd ["labels"] (spIO K C CL) := by
  have GC : FnOk P w K mg base (L2.CX P w) 3 fCh dCh ["value"] (spCheck K C CL) := ok_check AC.F T M Z
  have GS : FnR P w K mg base CX0 1 gS (fun vs H Q E => spStr C (vs ++ []) H Q E) := (ok_str M Z).raw M.bS .nil
  have GK : FnR P w K mg base CX0 3 fK (fun vs H Q E => spLRank C (vs ++ []) H Q E) := (ok_lbrank AK.F M Z zT AR).raw AK.b .nil
  refine F.okX scIO (fun vs H Q E h => ?_) (fun cdv A outer_ s H vs Q E hr h => ?_)
  · obtain ⟨a, xs, os, rfl, _⟩ := h
    rfl
  · obtain ⟨a, xs, os, rfl, hS, few, lo, its, kb, k⟩ := h
    have h3 := hr.mono (j := 3) (by decide)
    have h5 := hr.mono (j := 5) (by decide)
    refine ⟨_, pss_cons (ps_set (i := 1) scIO.nd rfl (Or.inl rfl) pe_dnewK)
      (pss_cons (ps_for (passes_of rfl) rfl (pi_seq (pv 0)) (pg_name (i := 2) scIO.nd rfl (Or.inl rfl)) (pss_cons (ps_expr (pe_call (E := E) GC h3 (by rfl) AC.m AC.F.kp AC.b .nil (CmS.passE (takes_of rfl rfl rfl rfl)) (pa_cons (pv 2) pa_nil)))
        (pss_one (ps_dput (hu_of hr) (pv 1) (pe_callTy (EqO.call_strO M.fS M.iS GS (E := E0) h3 pass0) (by rfl) Z.zStr (by decide +kernel) (pa_cons (pv 2) pa_nil)) (pv 2) rfl))))
      (pss_one (ps_ret (pe_callBK (SortH.cr_sortK GK h5.in1.in1 h5.in1.in1.units0) (by rfl) zO (by decide +kernel) (pa_cons (LvV.pe_listValues rfl (pv 1) (by rfl) zL) pa_nil) (pk_cons (pe_glob (v := .ref fK) (by rfl) AK.m rfl) pk_nil))))), ?_⟩
    have hsl : sizeLine = 16777216 := sizeLine_eq
    refine fun d hd => ?_
    have sm0 := same_upd (o := HO.dK []) hd
    have f0 : (upd H d (.dK [])) d = some (.dK []) := upd_same
    revert sm0 f0
    generalize upd H d (.dK []) = H0
    intro sm0 f0
    have P0 : Found C H os d 0 H0 := ⟨sm0, fun j hj => absurd hj (Nat.not_lt_zero _), [], f0, Nat.le_refl _, (fun _ z => nomatch z), List.nodup_nil, fun t => ⟨(fun z => nomatch z), (fun z => nomatch z)⟩⟩
    clear sm0 f0
    -- one turn
    have turn : ∀ (i : Nat) (v : V) (σ : L2.St) (H' : Hp) (D : Ends), xs[i]? = some v → (Found C H os d i H' ∧ ∃ m, σ = [some (.ref a), some (.ref d), m]) → D.nx = (fun σ H' => Found C H os d (i + 1) H' ∧ ∃ m, σ = [some (.ref a), some (.ref d), m]) →
        gName 2 v σ H' fun σ2 H2 => tSeq (tDrop (tCall (spCheck K C CL) [] E (tCons (tVar 2) tNil))) (sDPut (tVar 1) (tCB (EqO.rTxtO C (fun vs H Q E => spStr C (vs ++ []) H Q E) E0) (tCons (tVar 2) tNil)) (tVar 2)) D σ2 H2 := by
      rintro i v σ H' D hv ⟨⟨sm, no, L, hL, lL, lbs, nd, mm⟩, m, rfl⟩ hD
      have ix : i < os.length := by rw [lo]; exact (List.getElem?_eq_some_iff.mp hv).1
      have ho := List.getElem?_eq_getElem ix
      have it := its i v _ hv ho
      cases e : os[i] with
      | none =>
        rw [e] at it ho
        cases it with
        | odd bt => exact ⟨_, rfl, v, rfl, .inl ⟨⟨_, bt_same bt sm⟩, bad_of sm (kb i v hv ho no)⟩⟩
      | some ys =>
        rw [e] at it ho
        cases it with
        | @lab b _ lb =>
          have lb' := lb.same sm
          obtain ⟨dx, fs, hi⟩ := lb'.ins
          refine ⟨_, rfl, .ref b, rfl, .inr ⟨b, ys, rfl, lb', ?_⟩⟩
          refine ⟨_, rfl, _, rfl, _, rfl, b, dx, fs, rfl, hi, b, ys, rfl, lb', ltext ys, rfl, d, _, rfl, DPut.k (k := .inr (ltext ys)) hL (by rw [List.length_map, hsl]; have := (List.getElem?_eq_some_iff.mp hv).1; omega), ?_⟩
          rw [hD]
          exact ⟨Found.more hd sm no lL lbs nd mm lb ho, _, rfl⟩
    have fin : ∀ (σ : L2.St) (H1 : Hp), (Found C H os d xs.length H1 ∧ ∃ m, σ = [some (.ref a), some (.ref d), m]) → tRet (tCKw (SortH.rSortK K (fun vs H Q E => spLRank C (vs ++ []) H Q E) fK) (tCons (LvV.tListVals (tVar 1)) tNil) (tCons (tC (V.ref fK)) tNil)) { nx := fun x H' => Q V.non H', rt := Q } σ H1 := by
      rintro σ H1 ⟨⟨sm, no, L, hL, lL, lbs, nd, mm⟩, m, rfl⟩
      rw [List.take_of_length_le (by rw [lo]; exact Nat.le_refl _)] at mm
      refine ⟨_, rfl, d, _, rfl, hL, fun l hl => ?_⟩
      have sml : Same H (upd H1 l (.lst ((L.map enc).map (·.2)))) := sm.trans (same_upd hl)
      have el : (L.map enc).map (·.2) = L.map fun e => V.ref e.1 := by rw [List.map_map]; rfl
      rw [el] at sml ⊢
      have hl2 : (upd H1 l (.lst (L.map fun e => V.ref e.1))) l = some (.lst (L.map fun e => V.ref e.1)) := upd_same
      revert sml hl2
      generalize upd H1 l (.lst (L.map fun e => V.ref e.1)) = H2
      intro sml hl2
      have all : ∃ S : List (List Str), os = S.map some := by
        have z : ∀ ps : List (Option (List Str)), (∀ o ∈ ps, o ≠ none) → ∃ S : List (List Str), ps = S.map some := fun ps => by
          induction ps with
          | nil => exact fun _ => ⟨[], rfl⟩
          | cons o ps ih =>
            intro h
            obtain ⟨S, e⟩ := ih fun x hx => h x (List.mem_cons_of_mem _ hx)
            cases o with
            | none => exact absurd rfl (h none List.mem_cons_self)
            | some t => exact ⟨t :: S, by rw [e]; rfl⟩
        refine z os fun o ho e => ?_
        obtain ⟨j, hj, q⟩ := List.getElem_of_mem ho
        exact no j (by rw [← lo]; exact hj) (by rw [List.getElem?_eq_getElem hj, q, e])
      obtain ⟨S, eS⟩ := all
      refine ⟨l, L.map fun e => V.ref e.1, fun v => keyOf (marksAt H v), rfl, rfl, SqL.of hl2, fun x hx H3 k3 => ?_, fun ys H3 p pm pw k3 hp hL3 => ?_⟩
      · obtain ⟨e, he, rfl⟩ := List.mem_map.mp hx
        have lb := lbs e he
        refine ⟨e.1, e.2, rfl, lb.same (sml.trans k3), fun kv H4 k4 ik => ⟨k4, ?_⟩⟩
        show SortH.IsKey kv (keyOf (marksAt H (.ref e.1))) H4
        rw [marks_at lb]
        exact ik
      · have refs : ∃ zs : List Addr, ys = zs.map V.ref := by
          have z : ∀ us : List V, (∀ u ∈ us, u ∈ L.map fun e => V.ref e.1) → ∃ zs : List Addr, us = zs.map V.ref := fun us => by
            induction us with
            | nil => exact fun _ => ⟨[], rfl⟩
            | cons u us ih =>
              intro h
              obtain ⟨zs, e⟩ := ih fun x hx => h x (List.mem_cons_of_mem _ hx)
              obtain ⟨q, _, rfl⟩ := List.mem_map.mp (h u List.mem_cons_self)
              exact ⟨q.1 :: zs, by rw [e]; rfl⟩
          exact z ys fun u hu => pm.mem_iff.mp hu
        obtain ⟨zs, rfl⟩ := refs
        have lbz : ∀ z ∈ zs, Lb C H z (marksAt H (.ref z)) := fun z hz => by
          obtain ⟨e, he, q⟩ := List.mem_map.mp (pm.mem_iff.mp (List.mem_map.mpr ⟨z, hz, rfl⟩))
          have lb := lbs e he
          rw [V.ref.inj q] at lb
          rw [marks_at lb]
          exact lb
        have pm2 : ((zs.map V.ref).map (marksAt H)).Perm (L.map (·.2)) := by
          have q := pm.map (marksAt H)
          rw [List.map_map (l := L)] at q
          rw [show (L.map fun e => e.2) = L.map (marksAt H ∘ fun e : Ent => V.ref e.1) from List.map_congr_left fun e he => (marks_at (lbs e he)).symm]
          exact q
        refine k S eS zs ((zs.map V.ref).map (marksAt H)) H3 p (sml.trans k3) (sml.free hp) hL3 (by rw [List.length_map, List.length_map]) (fun j z t hz ht => ?_) (pm2.nodup_iff.mpr nd) (fun t => ?_) ?_
        · rw [List.map_map, List.getElem?_map, hz] at ht
          cases ht
          exact lbz z (List.mem_of_getElem? hz)
        · rw [pm2.mem_iff, mm, eS, List.mem_map]
          exact ⟨fun ⟨u, hu, e⟩ => Option.some.inj e ▸ hu, fun hu => ⟨t, hu, rfl⟩⟩
        · exact List.pairwise_map.mpr (pw.imp fun h => h)
    refine ⟨_, rfl, a, xs, rfl, ?_⟩
    rcases hS with hS | hS
    · refine .inl ⟨P0.1.seq hS, for_list (xs := xs) (fun i σ H' => Found C H os d i H' ∧ ∃ m, σ = [some (.ref a), some (.ref d), m]) ⟨P0, none, rfl⟩ (fun i σ H' _ q => q.1.1.seq hS) ?_ fin⟩
      exact fun i v σ H' hv p => turn i v σ H' _ hv p rfl
    · refine .inr ⟨seqT_same P0.1 hS, for_tup (xs := xs) (fun i σ H' => Found C H os d i H' ∧ ∃ m, σ = [some (.ref a), some (.ref d), m]) ⟨P0, none, rfl⟩ (fun i σ H' _ q => seqT_same q.1.1 hS) ?_ fin⟩
      exact fun i v σ H' hv p => turn i v σ H' _ hv p rfl
end
end K15
namespace K15
open PySem L2
/-! ### repr of a list that holds instances with a __repr__ of their own -/
/-- no data of this depth or less stands at a -/
def NoRd (D : Nat) (h : Heap) (a : Addr) : Prop := ∀ d as, Reads h (.ref a) d as → D < PyData.depth d
/-- how v is shown while the list at a is -/
def Shows (X : Cx) (D : Nat) (a : Addr) (v : V) (H : Hp) (t : Str) : Prop := t.length ≤ sizeLine ∧
  ∀ (A : Around) (g : List Code) (pins : List (Addr × Obj)) (σ : St) (s : Shared) (H1 : Hp) (u : Value) (base : Nat) (E : Value → Shared → Prop), Sub X 3 A → A.guards = some g → (∀ b, b ≠ a → Clear g b) → Inv X pins σ H1 s → Ext H H1 → NoRd D s.heap a → RelV v u → base + t.length ≤ sizeLine →
    wpAny (model X.prog X.w) A (pyReprUnder base u) (fun r s' => r = t ∧ ∃ H2, Inv X pins σ H2 s' ∧ Ext H1 H2) E s
section
variable {X : Cx} {C g : Addr} {gd : FuncData}
/-- an instance -/
theorem shows_ins {D : Nat} {sp : Sp} {a p : Addr} {H : Hp} {t : Str} (F : FnOk X.prog X.w X.K X.mg X.base CX0 1 g gd ["self"] sp) (hb : Binds X.K gd ["self"] []) (rg : PySem.W.findIn X.K (.ref C) "__repr__" = some (some (.ref g))) (fg : PySem.W.isFn X.K (.ref g) = true)
    (tl : t.length ≤ sizeLine) (ins : ∀ H1, Ext H H1 → ∃ dx fs, H1 p = some (.ins C dx fs)) (hs : ∀ H1, Ext H H1 → sp [.ref p] H1 (fun v H' => v = .str t ∧ Ext H1 H') E0) : Shows X D a (.ref p) H t := by
  refine ⟨tl, fun A gs pins σ s H1 u base E sb gd cl I ex nr ru fit => ?_⟩
  obtain rfl : u = Value.ref p := ru
  obtain ⟨dx, fs, hp⟩ := ins H1 ex
  obtain ⟨mA, O, _⟩ := ins_get I.hok hp
  obtain ⟨od, J, _⟩ := O.look
  have ty : PySem.W.Looks (model X.prog X.w) s.heap (specialOf (.ref p) "__repr__") (some (.ref g)) := J.type.andThen (PySem.W.looks_findIn I.kIn rg)
  have e0 : Env0 X.prog X.w X.K X.mg X.base A X.stack s H1 := by
    have e := I.env0
    exact ⟨by rw [sb.fr]; exact e.frames, e.mod, e.bs, e.bsz, e.funs, e.frf, e.hok, e.bare⟩
  have run : wpAny (model X.prog X.w) A (call (.ref g) [.ref p]) (fun v s' => (∃ k, v = .str t k) ∧ ∃ H2, Inv X pins σ H2 s' ∧ Ext H1 H2) E s := by
    apply wpAny_call
    refine codeAny_mono (F.run A X.stack s H1 ⟨[.ref p], []⟩ [.ref p] [.ref p] _ E0 (sb.room.mono (by decide)) e0 (by simpa using hb s [.ref p] I.kIn rfl) (.cons rfl .nil) (hs H1 ex)) fun r s' hq => ?_
    cases r with
    | error e => exact hq.elim
    | ok fl =>
      cases fl with
      | next => exact hq.elim
      | brk => exact hq.elim
      | cont => exact hq.elim
      | ret w =>
        obtain ⟨z, H2, I2, rz, ez, ex2⟩ := I.after hq
        subst ez
        exact ⟨rz, H2, I2, ex2⟩
  apply wpAny_pyReprUnder_ref (by omega)
  unfold pyReprObjUnder pyReprObjBy
  apply wpAny_bind
  apply wpAny_cRoomFor sb.room.units0
  apply wpAny_bind
  refine ty.here ?_
  have fin : wpAny (model X.prog X.w) A (call (.ref g) ([.ref p] ++ []) >>= fun v => pure (some v)) (fun r s' => ∃ k, r = some (.str t k) ∧ ∃ H2, Inv X pins σ H2 s' ∧ Ext H1 H2) E s :=
    wpAny_bind (wpAny_mono run (fun v s' ⟨⟨k, e⟩, q⟩ => wpAny_pure ⟨k, by rw [e], q⟩) fun _ _ z => z)
  have bf := PySem.W.bind_fn (M := model X.prog X.w) I.kIn (.ref p) (beq_iff_eq.mp fg)
  simp only [Option.isNone_some, Bool.false_eq_true, if_false]
  apply wpAny_bind
  have one : wpAny (model X.prog X.w) A (callSpecialIfBoundBy? (fun g first => match reprUnder? g, first with
      | some twin, [self] => call twin [self, rawInt base]
      | _, _ => call g (first ++ [])) (.ref p) "__repr__") (fun r s' => ∃ k, r = some (.str t k) ∧ ∃ H2, Inv X pins σ H2 s' ∧ Ext H1 H2) E s := by
    simp only [callSpecialIfBoundBy?, bindSpecialIfBound?]
    apply wpAny_holding
    apply wpAny_bind
    apply wpAny_bind
    refine ty.here ?_
    apply wpAny_bind
    apply wpAny_askSetting
    apply wpAny_ite
    split
    · exact wpAny_bind (bf.here (wpAny_pure (by exact fin)))
    · exact wpAny_tryCatch (wpAny_bind (bf.here (wpAny_pure (by exact fin))))
  refine wpAny_mono one (fun r s' ⟨k, e, q⟩ => ?_) fun _ _ z => z
  subst e
  exact wpAny_bind (wpAny_isInstance (T := "str") (b := true) rfl isSubtype_str_str (wpAny_pure ⟨t, k, rfl, rfl, q⟩))
/-- data -/
theorem shows_dat {D : Nat} {a : Addr} {v : V} {H : Hp} {d : PyData} (sh : Sho d) (hD : PyData.depth d ≤ D) (rd : ∀ (pins : List (Addr × Obj)) (σ : St) (H1 : Hp) (s : Shared) (u : Value), Inv X pins σ H1 s → Ext H H1 → RelV v u → ∃ as, Reads s.heap u d as ∧ (d.hasDict = true → sysModules ∉ as)) : Shows X D a v H d.shown := by
  have s1 := sh.1
  have s2 := sh.fits
  have s3 := sh.2.2
  refine ⟨s2, fun A gs pins σ s H1 u base E sb gd cl I ex nr ru fit => ?_⟩
  obtain ⟨as, r, hm⟩ := rd pins σ H1 s u I ex ru
  obtain ⟨bs, low, rk⟩ := ReprK.of_reads (prog := X.prog) (w := X.w) r s1 hm s2
  have room := sb.room.un
  exact rk base fit A gs E s _ gd (fun b hb => cl b fun e => by
    obtain ⟨d2, as2, r2, l2⟩ := low b hb
    rw [e] at r2
    have := nr _ _ r2
    omega) (by omega) (fun _ _ e => e) fun h' tk k => ⟨rfl, H1, I.kept k, Ext.rfl'⟩
/-! ### the loop of list.__repr__ -/
abbrev partsO (acc : Array Value) (c : Nat) : Obj := { cls := .type "list", dict := none, data := .seq acc c, slots := #[] }
theorem fp_at {pins : List (Addr × Obj)} {H H1 : Hp} {q : Addr} (f : FpOk X pins H q) (n : H1 q = none) : FpOk X pins H1 q := ⟨n, f.2⟩
theorem loop_shows {D : Nat} {A : Around} {a q : Addr} {vs : List V} {ts : List Str} {H : Hp} {pins : List (Addr × Obj)} {σ : St} {R : Result → Shared → Prop} (ne : a ≠ q) (fp : FpOk X pins H q) (sb : Sub X 4 A) (gd : A.guards = some []) (lens : ts.length = vs.length) (fit : (listText ts).length ≤ sizeLine)
    (sh : ∀ (i : Nat) (v : V) (t : Str), vs[i]? = some v → ts[i]? = some t → Shows X D a v H t) (src : H a = some (.lst vs)) (nr : ∀ pins H1 s, Inv X pins σ H1 s → Ext H H1 → NoRd D s.heap a)
    (fin : ∀ u s' H2, Inv X pins σ H2 s' → Ext H H2 → R (.ok (.ret (.str (listText ts) u))) s') : ∀ (left i : Nat) (s : Shared) (H1 : Hp) (acc : Array Value) (c : Nat) (done : List (Str × Tok)), vs.length - i = left → i ≤ vs.length →
      Inv X ((q, partsO acc c) :: pins) σ H1 s → Ext H H1 → acc.toList = strValues done → done.map (·.1) = ts.take i → codeAny (model X.prog X.w) A (.builtin "list.__repr__.loop" ⟨[.ref a, rawInt i, .ref q, rawInt ((piled (ts.take i) : Nat) : Int)], []⟩) R s := by
  have px := piled_le_listText ts
  have len1 : ∀ t ∈ ts, t.length ≤ sizeLine := fun t ht => Nat.le_trans (listText_mem_le ht) fit
  intro left
  induction left with
  | zero =>
    intro i s H1 acc c done e1 e2 I ex ea ed
    have ei : i = vs.length := by omega
    obtain ⟨lim, its, n, rv, il, at_⟩ := I.lstM (ex _ _ src)
    have pq := ClX.pin_at I
    apply codeAny_builtin F.entry_list_repr_loop
    show wpAny _ _ (Builtin.«list.__repr__.loop» ⟨[.ref a, .int i 0, .ref q, .int ((piled (ts.take i) : Nat) : Int) 0], []⟩) _ _ s
    rw [repr_loop_tree]
    apply wpAny_bind
    apply wpAny_listItems at_ rfl
    have over : its.toArray[(i : Int).toNat]? = none := by simp [ei, il]
    simp only [over]
    unfold reprEnd
    apply wpAny_bind
    apply wpAny_listItems pq rfl
    rw [ea, repr_fold]
    apply wpAny_bind
    apply wpAny_pure
    have whole : done.map (·.1) = ts := by rw [ed, ei, ← lens, List.take_length]
    rw [whole]
    apply wpAny_bind
    refine wpAny_mkStr (wpAny_pure ?_) fit
    exact fin _ _ H1 ((ClX.unpin I).tok _) ex
  | succ left ih =>
    intro i s H1 acc c done e1 e2 I ex ea ed
    have lt : i < vs.length := by omega
    obtain ⟨lim, its, n, rv, il, at_⟩ := I.lstM (ex _ _ src)
    obtain ⟨t, ht⟩ : ∃ t, ts[i]? = some t := ⟨ts[i]'(by omega), List.getElem?_eq_getElem _⟩
    obtain ⟨u, hu, ru⟩ := rv.get (List.getElem?_eq_getElem lt)
    obtain ⟨tl, one⟩ := sh i vs[i] t (List.getElem?_eq_getElem lt) ht
    have p1 := piled_take_succ ht
    have p2 := piled_take_le ts (i + 1)
    apply codeAny_builtin F.entry_list_repr_loop
    show wpAny _ _ (Builtin.«list.__repr__.loop» ⟨[.ref a, .int i 0, .ref q, .int ((piled (ts.take i) : Nat) : Int) 0], []⟩) _ _ s
    rw [repr_loop_tree]
    apply wpAny_bind
    apply wpAny_listItems at_ rfl
    have here : its.toArray[(i : Int).toNat]? = some u := by simpa using hu
    simp only [here]
    rw [Int.toNat_natCast]
    apply wpAny_bind
    apply wpAny_holding
    have sb2 : Sub X 3 (A.under (.builtin "list.__repr__.loop" ⟨[.ref a, .int i 0, .ref q, .int ((piled (ts.take i) : Nat) : Int) 0], []⟩)) := by
      have e := sb.room
      have un := e.un
      have dp := e.dp
      have un2 := units_under_list_loop A ⟨[.ref a, .int i 0, .ref q, .int ((piled (ts.take i) : Nat) : Int) 0], []⟩
      refine ⟨⟨?_, ?_, by omega⟩, ?_⟩
      · simpa [Around.under] using e.hd
      · have wt : (Code.builtin "list.__repr__.loop" ⟨[.ref a, .int i 0, .ref q, .int ((piled (ts.take i) : Nat) : Int) 0], []⟩).weight ≤ 1 := by
          unfold Code.weight
          rw [isGuard_list_loop]
          first | exact Nat.le_refl 1 | simp [Code.frames, Code.isFrame, Code.isCreation, Code.isCaller]
        have : (A.under (.builtin "list.__repr__.loop" ⟨[.ref a, .int i 0, .ref q, .int ((piled (ts.take i) : Nat) : Int) 0], []⟩)).depth ≤ A.depth + 1 := by
          simp only [Around.under]
          omega
        omega
      · have fr := sb.fr
        first | exact fr | (simpa [Around.under, Code.envs, Code.isFrame, pushEnvs] using fr)
    refine wpAny_mono (one _ _ _ σ s H1 u (piled (ts.take i) + 1) _ sb2 (guards_under_guard (isGuard_list_loop _) gd) (fun b hb => (Clear.nil b).cons (Ne.symm hb)) I ex (nr _ _ _ I ex) ru (by omega)) (fun r s1 ⟨er, H2, I2, ex2⟩ => ?_) fun _ _ z => z
    subst er
    apply wpAny_bind
    refine wpAny_mkStr ?_ tl
    apply wpAny_bind
    show wpAny _ _ (updateSeq q _) _ _ _
    have pq := ClX.pin_at I2
    have al : acc.size = i := by
      have q1 : acc.toList.length = acc.size := by simp
      have q2 : (strValues done).length = done.length := by simp [strValues]
      have q3 : done.length = (ts.take i).length := by rw [← ed, List.length_map]
      have q4 : (ts.take i).length = i := by rw [List.length_take]; omega
      rw [ea] at q1
      omega
    refine wpAny_updateSeq pq rfl ?_ (by omega) (by rw [Array.size_push]; omega)
    apply wpAny_pure
    refine ⟨F.quiet_list_repr_loop _, ?_⟩
    have c1 : ((i : Int) + 1) = ((i + 1 : Nat) : Int) := by omega
    have c2 : piled (ts.take i) + (r.length + 2) = piled (ts.take (i + 1)) := p1.symm
    rw [c1, c2]
    have f2 : FpOk X pins H2 q := fp_at fp (ClX.pin_un I2)
    have J := ((ClX.unpin I2).turned (t' := s1.toks + 1) (h' := s1.heap.update q (Obj.mapSeq (·.push (.str r s1.toks)))) (fun b o nb e => (Heap.get?_update_other _ _ (Ne.symm nb)).trans e) f2.1 f2.2.1 f2.2.2.2.1 f2.2.2.2.2.1 f2.2.2.2.2.2)
    obtain ⟨c2, at2⟩ : ∃ c2, (s1.heap.update q (Obj.mapSeq (·.push (.str r s1.toks)))).get? q = some (partsO (acc.push (.str r s1.toks)) c2) := ⟨_, Heap.get?_update_self _ pq rfl⟩
    have J2 : Inv X ((q, partsO (acc.push (.str r s1.toks)) c2) :: pins) σ H2 { s1 with heap := s1.heap.update q (Obj.mapSeq (·.push (.str r s1.toks))), toks := s1.toks + 1 } := J.pins_of fun p hp => by
      rcases List.mem_cons.mp hp with e | e
      · subst e
        exact ⟨at2, f2.1, f2.2.1, f2.2.2.1, fun v z => nomatch z⟩
      · exact J.pin p (List.mem_append_right _ e)
    exact ih (i + 1) _ H2 _ _ (done ++ [(r, s1.toks)]) (by omega) lt J2 (ex.trans ex2) (by simp [ea, strValues]) (by rw [List.map_append, ed, take_snoc ht]; rfl)
end
theorem all_read {h : Heap} : ∀ {us : List Value} {ds : List PyData} {as : List Addr}, ReadsAll h us ds as → ∀ u ∈ us, ∃ d as', Reads h u d as'
  | _, _, _, .nil, u, m => by cases m
  | _, _, _, .cons r rs, u, m => by
    rcases List.mem_cons.mp m with e | m
    · subst e
      exact ⟨_, _, r⟩
    · exact all_read rs u m
section
variable {X : Cx}
/-- a list that holds an instance is no data -/
theorem noRd_list {pins : List (Addr × Obj)} {σ : St} {H : Hp} {s : Shared} {a p D dx : Addr} {fs : List (Str × V)} {vs : List V} (I : Inv X pins σ H s) (ha : H a = some (.lst vs)) (hv : V.ref p ∈ vs) (hp : H p = some (.ins D dx fs)) : ∀ d as, ¬ Reads s.heap (.ref a) d as := by
  intro d as r
  obtain ⟨_, its, n, rv, _, at_⟩ := I.lstM ha
  obtain ⟨i, hi⟩ := List.mem_iff_getElem?.mp hv
  obtain ⟨u, hu, ru⟩ := rv.get hi
  obtain rfl : u = Value.ref p := ru
  obtain ⟨mA, O, _⟩ := ins_get I.hok hp
  obtain ⟨od, J, _⟩ := O.look
  cases r with
  | list h1 h2 h3 h4 =>
    rw [at_] at h1
    cases h1
    cases h3
    obtain ⟨d2, as2, r2⟩ := all_read h4 (.ref p) (by simpa using List.mem_of_getElem? hu)
    have at2 := J.at_
    have cls2 := J.cls
    cases r2 with
    | list g1 g2 _ _ =>
      rw [at2] at g1
      cases g1
      rw [cls2] at g2
      cases g2
    | tuple g1 g2 _ _ =>
      rw [at2] at g1
      cases g1
      rw [cls2] at g2
      cases g2
    | dict g1 g2 _ _ _ =>
      rw [at2] at g1
      cases g1
      rw [cls2] at g2
      cases g2
  | tuple h1 h2 _ _ =>
    rw [at_] at h1
    cases h1
    injection h2 with z
    exact absurd z (by decide)
  | dict h1 h2 _ _ _ =>
    rw [at_] at h1
    cases h1
    injection h2 with z
    exact absurd z (by decide)
end
theorem lshow_len {ys : List Str} (n : ys.all isNm = true) (l : ys.length ≤ 4) : (lshow ys).length ≤ 2000 := by
  have each : ∀ zs : List Str, (∀ y ∈ zs, isNm y = true) → ((zs.map reprText).map (·.length)).sum ≤ 82 * zs.length := fun zs => by
    induction zs with
    | nil => intro _; decide
    | cons z zs ih =>
      intro hz
      have a := repr_len8 (hz z List.mem_cons_self)
      have b := ih fun y hy => hz y (List.mem_cons_of_mem _ hy)
      rw [List.map_cons, List.map_cons, List.sum_cons, List.length_cons]
      omega
  have a := each ys fun y hy => List.all_eq_true.mp n y hy
  have b : comma.length = 2 := by decide +kernel
  have c := StrLaws.join_length_le comma (ys.map reprText)
  rw [b, List.length_map] at c
  have e7 : ("Label(" : Str).length = 6 := by decide +kernel
  have e8 : (")" : Str).length = 1 := by decide +kernel
  unfold lshow
  rw [strLen_append, strLen_append, strLen_append, e7, e8, join_is]
  show 0 + 6 + _ + 1 ≤ 2000
  omega
/-- how v is shown: data, or a label -/
inductive Sw (K : PySem.W.Frag) (C : Addr) (H : Hp) : V → Str → Prop
  | dat {v : V} {d : PyData} : Th K H v d → Sho d → Sw K C H v d.shown
  | lab {p : Addr} {ys : List Str} : Lb C H p ys → Sw K C H (.ref p) (lshow ys)
theorem Sw.same {K : PySem.W.Frag} {C : Addr} {H H' : Hp} {v : V} {t : Str} (h : Sw K C H v t) (s : Same H H') : Sw K C H' v t := by
  cases h with
  | dat h sh => exact .dat (h.keep fun a o _ z => s a o z) sh
  | lab h => exact .lab (h.same s)
theorem Sw.len {K : PySem.W.Frag} {C : Addr} {H : Hp} {v : V} {t : Str} (h : Sw K C H v t) : t.length ≤ 60000 := by
  cases h with
  | dat h sh => exact sh.2.1
  | lab h => exact Nat.le_trans (lshow_len h.1 h.2.1) (by decide)
theorem sw_text {K : PySem.W.Frag} {C : Addr} {H : Hp} : ∀ {vs : List V} {ts : List Str}, Paired (Sw K C H) vs ts → (ts.map (·.length)).sum ≤ 60000 * ts.length
  | _, _, .nil => Nat.le_refl _
  | _, _, .cons h r => by
    have a := h.len
    have b := sw_text r
    rw [List.map_cons, List.sum_cons, List.length_cons]
    omega
theorem listText_len (ts : List Str) : (listText ts).length ≤ 2 + (ts.map (·.length)).sum + 2 * ts.length := by
  unfold listText
  rw [strLen_append]
  have b := textFrom_len_le ts 0 (Str.ofString "[")
  have e1 : (Str.ofString "[").length = 1 := by decide +kernel
  have e2 : (Str.ofString "]").length = 1 := by decide +kernel
  rw [e1] at b
  rw [e2]
  omega
theorem paired_at {α β : Type} {F : α → β → Prop} : ∀ {xs : List α} {ys : List β}, Paired F xs ys → ∀ (i : Nat) (x : α) (y : β), xs[i]? = some x → ys[i]? = some y → F x y
  | _, _, .nil, i, x, y, h, _ => by cases h
  | _, _, .cons r t, 0, x, y, h, k => by cases h; cases k; exact r
  | _, _, .cons r t, i + 1, x, y, h, k => paired_at t i x y h k
theorem paired_len {α β : Type} {F : α → β → Prop} : ∀ {xs : List α} {ys : List β}, Paired F xs ys → xs.length = ys.length
  | _, _, .nil => rfl
  | _, _, .cons _ t => congrArg (· + 1) (paired_len t)
theorem paired_map {α β : Type} {F G : α → β → Prop} (f : ∀ x y, F x y → G x y) : ∀ {xs : List α} {ys : List β}, Paired F xs ys → Paired G xs ys
  | _, _, .nil => .nil
  | _, _, .cons r t => .cons (f _ _ r) (paired_map f t)
theorem depth_mem : ∀ {ds : List PyData} {d : PyData}, d ∈ ds → PyData.depth d ≤ PyData.depthAll ds
  | e :: r, d, h => by
    rw [PyData.depthAll]
    rcases List.mem_cons.mp h with rfl | h
    · omega
    · have := depth_mem h
      omega
/-- all of it data -/
theorem all_dat {K : PySem.W.Frag} {C : Addr} {H : Hp} : ∀ {vs : List V} {ts : List Str}, Paired (Sw K C H) vs ts → (∀ p ys, V.ref p ∈ vs → ¬ Lb C H p ys) → ∃ ds, Paired (fun v d => Th K H v d ∧ Sho d) vs ds ∧ ts = ds.map PyData.shown
  | _, _, .nil, _ => ⟨[], .nil, rfl⟩
  | _, _, .cons h r, n => by
    obtain ⟨ds, a, b⟩ := all_dat r fun p ys m => n p ys (List.mem_cons_of_mem _ m)
    cases h with
    | @dat v d h sh => exact ⟨d :: ds, .cons ⟨h, sh⟩ a, by rw [b]; rfl⟩
    | lab h => exact absurd h (n _ _ List.mem_cons_self)
theorem th_all {X : Cx} {pins : List (Addr × Obj)} {σ : St} {H : Hp} {s : Shared} (I : Inv X pins σ H s) : ∀ {vs : List V} {ds : List PyData} {us : List Value}, Paired (fun v d => Th X.K H v d) vs ds → Vals vs us → ∃ as, ReadsAll s.heap us ds as
  | _, _, _, .nil, r => by cases r; exact ⟨_, .nil⟩
  | _, _, _, .cons h t, r => by
    cases r with
    | cons ra r =>
      obtain ⟨as, q⟩ := th_all I t r
      obtain ⟨bs, p, _⟩ := h.reads I ra
      exact ⟨_, .cons p q⟩
section
variable {X : Cx} {C g : Addr} {gd : FuncData}
/-- repr(a list) of data and labels, where nothing is being shown -/
def rReprW (X : Cx) (C : Addr) : List V → Hp → VK → Prop := fun xs H Q => ∃ (a : Addr) (vs : List V) (ts : List Str), xs = [.ref a] ∧ H a = some (.lst vs) ∧ Paired (Sw X.K C H) vs ts ∧ vs.length ≤ 100 ∧ ∀ H', Same H H' → Q (.str (listText ts)) H'
theorem call_reprW (GR : FnOk X.prog X.w X.K X.mg X.base CX0 1 g gd ["self"] (spRepr C)) (hb : Binds X.K gd ["self"] []) (rg : PySem.W.findIn X.K (.ref C) "__repr__" = some (some (.ref g))) (fg : PySem.W.isFn X.K (.ref g) = true) (hr : Room 6 X.A) (gd0 : X.A.guards = some []) :
    CallR X (.builtin "repr") (rReprW X C) := by
  rintro pins s σ H xs us Q I r ⟨a, vs, ts, rfl, ha, pr, few, k⟩
  have hsl : sizeLine = 16777216 := sizeLine_eq
  have ll := paired_len pr
  have sm := sw_text pr
  have fit : (listText ts).length ≤ sizeLine := by
    have := listText_len ts
    omega
  by_cases e0 : vs = []
  · subst e0
    cases pr
    refine call_reprD gd0 (by have := hr.un; omega) pins s σ H _ us Q I r ⟨.ref a, .list [], rfl, .lst ha (fun _ => .nil) rfl, ⟨by decide +kernel, by decide +kernel, by decide +kernel⟩, ?_⟩
    exact k H (Same.refl H)
  rw [Vals.ref1 r]
  obtain ⟨lim, its, n, rv, il, at_⟩ := I.lstM ha
  -- what may stand at a
  obtain ⟨D, nr, shs⟩ : ∃ D : Nat, (∀ pins H1 s1, Inv X pins σ H1 s1 → Ext H H1 → NoRd D s1.heap a) ∧ ∀ (i : Nat) (v : V) (t : Str), vs[i]? = some v → ts[i]? = some t → Shows X D a v H t := by
    have lab : ∀ (D : Nat) {p : Addr} {ys : List Str}, Lb C H p ys → Shows X D a (.ref p) H (lshow ys) := fun D p ys lb => by
      obtain ⟨dx, fs, hp⟩ := lb.ins
      exact shows_ins GR hb rg fg (Nat.le_trans (lshow_len lb.1 lb.2.1) (by decide)) (fun H1 ex => ⟨dx, _, ex _ _ hp⟩) fun H1 ex => ⟨p, ys, rfl, lb.same ex, fun H' sm => ⟨rfl, sm⟩⟩
    by_cases hl : ∃ p ys, V.ref p ∈ vs ∧ Lb C H p ys
    · obtain ⟨p, ys, hm, lb⟩ := hl
      obtain ⟨dx, fs, hp⟩ := lb.ins
      refine ⟨5, fun pins' H1 s1 J ex d as rd => absurd rd (noRd_list J (ex _ _ ha) hm (ex _ _ hp) d as), fun i v t hv ht => ?_⟩
      cases paired_at pr i v t hv ht with
      | dat h sh => exact shows_dat sh sh.2.2 fun pins σ H1 s1 u I1 ex ru => (h.keep fun a o _ z => ex a o z).reads I1 ru
      | lab h => exact lab 5 h
    · obtain ⟨ds, pd, et⟩ := all_dat pr fun p ys m h => hl ⟨p, ys, m, h⟩
      refine ⟨PyData.depthAll ds, fun pins' H1 s1 J ex d as rd => ?_, fun i v t hv ht => ?_⟩
      · obtain ⟨_, its1, n1, rv1, _, at1⟩ := J.lstM (ex _ _ ha)
        obtain ⟨as1, q⟩ := th_all J (paired_map (fun v d h => h.1.keep fun a o _ z => ex a o z) pd) rv1
        have whole : Reads s1.heap (.ref a) (.list ds) _ := Reads.list at1 rfl rfl q
        obtain ⟨e, _⟩ := PyProof.Rows.reads_det (fun _ _ e _ => e) whole rd
        rw [e, PyData.depth]
        omega
      · rw [et, List.getElem?_map] at ht
        obtain ⟨d, hd, rfl⟩ := Option.map_eq_some_iff.mp ht
        obtain ⟨h, sh⟩ := paired_at pd i v d hv hd
        exact shows_dat sh (depth_mem (List.mem_of_getElem? hd)) fun pins σ H1 s1 u I1 ex ru => (h.keep fun a o _ z => ex a o z).reads I1 ru
  have un := hr.un
  have dp := hr.dp
  refine call_repr_slot (T := "list") (idr := "list.__repr__") (s := s) (by omega) ⟨_, at_, rfl⟩ F.slot_list_repr.toG ?_
  apply wpAny_call
  refine codeAny_call_builtin F.slot_list_repr.plain F.entry_list_repr (F.slot_list_repr.check _ _ _ _ _ _ _ _ ⟨_, at_, rfl⟩ (F.args_list_repr_1 _) ?_)
  show wpAny _ _ (Builtin.listReprAt 0 ⟨[.ref a], []⟩) _ _ s
  obtain ⟨x, l, rfl⟩ : ∃ x l, its = x :: l := by
    cases its with
    | nil => exact absurd (List.eq_nil_of_length_eq_zero il) e0
    | cons x l => exact ⟨x, l, rfl⟩
  refine wpAny_list_repr_head (g := []) gd0 (fun v rest kw m => nomatch m) at_ rfl ?_
  apply wpAny_bind (m := newList [])
  refine wpAny_newObj_type ?_
  apply wpAny_pure
  refine ⟨F.quiet_list_repr_loop _, ?_⟩
  have fp : FpOk X pins H s.heap.objs.size := I.fpOk (Nat.le_refl _) (I.hok.fresh (Nat.le_refl _))
  have I1 : Inv X ((s.heap.objs.size, partsO #[] 0) :: pins) σ H { s with heap := s.heap.push (partsO #[] 0) } := ClX.pin_new (t' := s.toks) I (fun _ _ e => Heap.get?_push_of_some _ e) (Nat.le_refl _) (Heap.get?_push_size _ rfl) (fun v z => nomatch z)
  have sb : Sub X 4 X.A.in1 := ⟨hr.in1.mono (by decide), rfl⟩
  exact loop_shows (H := H) (vs := vs) (Nat.ne_of_lt (Heap.lt_size at_)) fp sb gd0 ll.symm fit shs ha nr (fun u s' H2 J ex => ⟨_, _, rfl, .str (listText ts), H2, J, ⟨_, rfl⟩, k H2 ex⟩) vs.length 0 _ H #[] 0 [] rfl (Nat.zero_le _) I1 Ext.rfl' rfl rfl
end
end K15
namespace K15
open PySem L2 SR
/-! ### what is drawn -/
section
variable {P : Program} {w : World} {K : PySem.W.Frag} {mg : Str → Option Value} {base : Heap}
def spMarks : Sp := fun vs H Q _ => ∃ (r p : Addr) (ws : List Tx), vs = [.ref r, .ref p] ∧ Rg H r ∧ H p = some (.lst (ws.map tv)) ∧ p ≠ r ∧ ws.length ≤ 20 ∧
  ∀ H' q (fs : List Tx), Kp r H H' → H q = none → q ≠ r → H' q = some (.lst (fs.map tv)) → fs.length ≤ 4 → (∀ x ∈ fs, x ∈ ws) → (ws.Nodup → fs.Nodup) → Q (.ref q) H'
abbrev nMa : List Str := ["_law_rng_here", "_law_words_here", "_law_found", "_law_word_here"]
theorem scMa : FnScope nMa ["_law_rng_here", "_law_words_here"] (defScope sMarks) := ⟨rfl, rfl, rfl, by decide +kernel, rfl, by decide +kernel, by decide +kernel⟩
theorem cut_4 (xs : List V) : cutV xs none (some 4) = xs.take 4 := by
  unfold cutV
  rw [HT.sIx_none, List.drop_zero, Nat.sub_zero, show (some (4 : Int)) = some ((4 : Nat) : Int) from rfl, HT.sIx_nat]
  by_cases h : 4 ≤ xs.length
  · rw [Nat.min_eq_left h]
  · rw [Nat.min_eq_right (by omega), List.take_of_length_le (Nat.le_refl _), List.take_of_length_le (by omega)]
theorem ok_marks {f fD : Addr} {fd dD : FuncData} (F : Fun K "_law_marks" "_law_marks" sMarks f fd) (B : BEnv mg) (AD : At K mg "_law_draw" sDraw ["_law_rng_here", "_law_many"] fD dD) : FnOk P w K mg base CX0 2 f fd ["_law_rng_here", "_law_words_here"] spMarks := by
  have GD : FnOk P w K mg base CX0 1 fD dD ["_law_rng_here", "_law_many"] spDraw := ok_draw AD.F B
  refine F.ok scMa (fun vs H Q E h => ?_) (fun cdv A outer_ s H vs Q E hr h => ?_)
  · obtain ⟨r, p, ws, rfl, _⟩ := h
    rfl
  · obtain ⟨r, p, ws, rfl, g, hp, npr, wl, k⟩ := h
    refine ⟨_, pss_cons (ps_setLc (i := 2) (own := [("_law_word_here", 3)]) (g := gName 3) (tt := tTest (tOp rEq (tCall spDraw [] E0 (tCons (tVar 0) (tCons (tC (.int 2)) tNil))) (tC (.int 1)))) rfl scMa.nd rfl rfl (sw_true rfl rfl rfl rfl) (pi_list (pv 1)) (blkOk_by (N := nMa) (sc := defScope sMarks) (by decide +kernel)) (fun _ _ _ _ _ => pg_name (i := 3) scMa.nd rfl (Or.inl rfl))
        (fun _ _ _ _ _ => pts_one (pt_cmpR op_eq (pe_call GD hr (by rfl) AD.m AD.F.kp AD.b .nil pass0 (pa_cons (pv 0) (pa_cons pe_int pa_nil))) pe_int (nomark _))) (fun _ _ _ _ _ => pv 3))
      (pss_one (ps_ret (pe_slice sl_list (pv 2) po_none (po_some pe_int)))), ?_⟩
    have hsl : sizeLine = 16777216 := sizeLine_eq
    refine ⟨_, rfl, p, rfl, ⟨_, SqL.of hp⟩, fun D hD => ?_⟩
    have nD : D ≠ r := g.ne hD
    refine lc_list (xs := ws.map tv) (fun i H' => Kp r H H' ∧ ∃ fs : List Tx, H' D = some (.lst (fs.map tv)) ∧ fs.Sublist (ws.take i)) ⟨(Kp.refl r H).put hD nD, [], upd_same, List.Sublist.refl _⟩ (fun i H' _ q => SqL.of (q.1.1 _ _ npr hp)) ?_ ?_
    · rintro i v H1 hv ⟨kp, fs, hL, sub⟩
      obtain ⟨x, hx, rfl⟩ := map_at hv
      refine ⟨rfl, _, rfl, r, 2, rfl, kp.2 g, by decide, by decide, fun H2 n k2 hn => ?_⟩
      have hL2 := k2.1 _ _ nD hL
      refine ⟨rfl, _, rfl, ?_⟩
      refine ite2 (fun _ => ?_) (fun _ => ?_)
      · refine ⟨_, rfl, _, hL2, ?_, (kp.trans k2).put hD nD, fs ++ [x], by rw [upd_same, List.map_append]; rfl, ?_⟩
        · have := sub.length_le
          rw [List.length_take] at this
          rw [List.length_map, hsl]
          omega
        · rw [take_snoc hx]
          exact sub.append (List.Sublist.refl _)
      · refine ⟨kp.trans k2, fs, hL2, ?_⟩
        rw [take_snoc hx]
        exact sub.trans (List.sublist_append_left _ _)
    rintro H1 ⟨kp, fs, hL, sub⟩
    rw [List.length_map, List.take_of_length_le (Nat.le_refl _)] at sub
    refine ⟨_, rfl, _, rfl, D, _, rfl, SqL.of hL, fun q hq => ?_⟩
    have nq : q ≠ r := (kp.2 g).ne hq
    rw [cut_4, ← List.map_take]
    exact k _ q (fs.take 4) (kp.put (kp.free g hq) nq) (kp.free g hq) nq upd_same (by rw [List.length_take]; omega) (fun x hx => sub.mem (List.mem_of_mem_take hx)) fun nd => (nd.sublist sub).sublist (List.take_sublist _ _)
/-! ### _law_value -/
/-- a value that is drawn -/
def Wv : V → Prop
  | .non => True
  | .bl _ => True
  | .int i => i.natAbs < 10 ^ 30
  | .str x => asc x.cps.toList ∧ x.cps.toList.length ≤ 60 ∧ 39 ∉ x.cps.toList
  | _ => False
theorem wv_str {x : Str} (h : (x.cps.toList.all fun c => decide (c < 128) && !decide (c = 39)) = true) (l : x.cps.toList.length ≤ 60) : Wv (.str x) := by
  refine ⟨fun c hc => ?_, l, fun hc => ?_⟩
  · exact of_decide_eq_true (Bool.and_eq_true_iff.mp (List.all_eq_true.mp h c hc)).1
  · have := (Bool.and_eq_true_iff.mp (List.all_eq_true.mp h 39 hc)).2
    exact absurd this (by decide)
theorem lit_z : Str.ofString "z" = txt [122] := by decide +kernel
theorem lit_sg : Str.ofString "abAB (0-" = txt [97, 98, 65, 66, 32, 40, 48, 45] := by decide +kernel
def spValue : Sp := fun vs H Q _ => ∃ r : Addr, vs = [.ref r] ∧ Rg H r ∧ ∀ H' v, Kp r H H' → Wv v → Q v H'
abbrev nVa : List Str := ["_law_rng_here", "_law_way", "_law_k"]
theorem scVa : FnScope nVa ["_law_rng_here"] (defScope sValue) := ⟨rfl, rfl, rfl, by decide +kernel, rfl, by decide +kernel, by decide +kernel⟩
/-- a choice out of a list just made -/
theorem pick {H : Hp} {r : Addr} {xs : List V} {Q : VK} (g : Rg H r) (ne : xs ≠ []) (few : xs.length ≤ 100) (k : ∀ H' x, Kp r H H' → x ∈ xs → Q x H') : ∀ l, H l = none → spChoice K ([V.ref r, V.ref l] ++ []) (upd H l (.lst xs)) Q E0 := fun l hl => by
  have k1 : Kp r H (upd H l (.lst xs)) := (Kp.refl r H).put hl (g.ne hl)
  exact ⟨r, .ref l, rfl, k1.2 g, .inl ⟨l, xs, rfl, upd_same, g.ne hl, ne, Nat.le_trans few (by decide), fun H' x k2 hx => k H' x (k1.trans k2) hx⟩⟩
theorem ok_value {f fD fC : Addr} {fd dD dC : FuncData} (F : Fun K "_law_value" "_law_value" sValue f fd) (B : BEnv mg) (AD : At K mg "_law_draw" sDraw ["_law_rng_here", "_law_many"] fD dD) (AC : At K mg "_law_choice" sChoice ["_law_rng_here", "_law_options"] fC dC) : FnOk P w K mg base CX0 3 f fd ["_law_rng_here"] spValue := by
  have GD : FnOk P w K mg base CX0 1 fD dD ["_law_rng_here", "_law_many"] spDraw := ok_draw AD.F B
  have GC : FnOk P w K mg base CX0 2 fC dC ["_law_rng_here", "_law_options"] (spChoice K) := ok_choice AC.F B AD
  refine F.ok scVa (fun vs H Q E h => ?_) (fun cdv A outer_ s H vs Q E hr h => ?_)
  · obtain ⟨r, rfl, _⟩ := h
    rfl
  · obtain ⟨r, rfl, g, k⟩ := h
    have h1 := hr.mono (j := 1) (by decide)
    refine ⟨_, pss_cons (ps_set (i := 1) scVa.nd rfl (Or.inl rfl) (pe_call GD h1 (by rfl) AD.m AD.F.kp AD.b .nil pass0 (pa_cons (pv 0) (pa_cons pe_int pa_nil))))
      (pss_cons (ps_if (pt_cmpR op_eq (pv 1) pe_int (nomark _)) (pss_one (ps_ret (pe_call GC hr (by rfl) AC.m AC.F.kp AC.b .nil pass0 (pa_cons (pv 0) (pa_cons (pe_lst (pa_cons pe_non (pa_cons pe_bl (pa_cons pe_bl pa_nil)))) pa_nil))))) pss_nil)
      (pss_cons (ps_if (pt_cmpR op_lt (pv 1) pe_int (nomark _)) (pss_one (ps_ret (pe_call GC hr (by rfl) AC.m AC.F.kp AC.b .nil pass0 (pa_cons (pv 0) (pa_cons (pe_lst (pa_cons pe_int (pa_cons pe_int (pa_cons pe_int (pa_cons (pe_un un_neg pe_int) (pa_cons pe_int
          (pa_cons (pe_op op_sub (pe_op op_pow pe_int pe_int) pe_int) (pa_cons (pe_op op_sub pe_int (pe_op op_pow pe_int pe_int)) (pa_cons (pe_op op_mul pe_int (pe_op op_pow pe_int pe_int)) pa_nil))))))))) pa_nil))))) pss_nil)
      (pss_cons (ps_if (pt_cmpR op_eq (pv 1) pe_int (nomark _)) (pss_one (ps_ret (pe_call GC hr (by rfl) AC.m AC.F.kp AC.b .nil pass0 (pa_cons (pv 0) (pa_cons (pe_lst (pa_cons pe_str (pa_cons pe_str (pa_cons pe_str (pa_cons pe_str (pa_cons pe_str (pa_cons pe_str (pa_cons pe_str (pa_cons pe_str (pa_cons pe_str (pa_cons pe_str
          (pa_cons (pe_op op_mulS pe_str pe_int) (pa_cons (pe_op op_mulS pe_str pe_int) pa_nil))))))))))))) pa_nil))))) pss_nil)
      (pss_cons (ps_if (pt_cmpR op_eq (pv 1) pe_int (nomark _)) (pss_one (ps_ret (pe_op op_sub (pe_call GD h1 (by rfl) AD.m AD.F.kp AD.b .nil pass0 (pa_cons (pv 0) (pa_cons (pe_op op_pow pe_int pe_int) pa_nil))) (pe_op op_mul pe_int (pe_op op_pow pe_int pe_int))))) pss_nil)
      (pss_one (ps_ret (pe_join pe_str (pe_lc (own := [("_law_k", 2)]) (g := gName 2) (tt := tYes) rfl scVa.nd (pi_range1 (by rfl) B.zRange (pa_cons (pe_call GD h1 (by rfl) AD.m AD.F.kp AD.b .nil pass0 (pa_cons (pv 0) (pa_cons pe_int pa_nil))) pa_nil))
          (blkOk_by (N := nVa) (sc := defScope sValue) (by decide +kernel)) (fun _ _ _ _ _ => pg_name (i := 2) scVa.nd rfl (Or.inl rfl)) (fun _ _ _ _ _ => pts_nil) (fun _ _ _ _ _ => pe_call GC hr (by rfl) AC.m AC.F.kp AC.b .nil pass0 (pa_cons (pv 0) (pa_cons pe_str pa_nil))))))))))), ?_⟩
    have hsl : sizeLine = 16777216 := sizeLine_eq
    refine ⟨_, rfl, r, 6, rfl, g, by decide, by decide, fun H1 n k1 hn => ?_⟩
    have g1 := k1.2 g
    refine ⟨_, rfl, rfl, _, rfl, ?_⟩
    refine ite2 (fun _ => ?_) (fun n0 => ?_)
    · refine ⟨_, rfl, by show 3 ≤ sizeLine; omega, pick (K := K) g1 (by simp) (by show 3 ≤ 100; decide) fun H2 x k2 hx => k H2 x (k1.trans k2) ?_⟩
      simp only [List.mem_cons, List.not_mem_nil, or_false] at hx
      rcases hx with rfl | rfl | rfl <;> exact trivial
    refine ⟨_, rfl, _, _, rfl, rfl, _, rfl, ?_⟩
    refine ite2 (fun _ => ?_) (fun n1 => ?_)
    · refine ⟨_, rfl, _, rfl, _, _, rfl, rfl, ⟨by decide, by decide, by decide⟩, _, _, rfl, rfl, _, _, rfl, rfl, ⟨by decide, by decide, by decide⟩, _, _, rfl, rfl, _, _, rfl, rfl, ⟨by decide, by decide, by decide⟩, _, _, rfl, rfl, .inl ⟨by decide, by decide⟩, ?_⟩
      refine ⟨by show 8 ≤ sizeLine; omega, pick (K := K) g1 (by simp) (by show 8 ≤ 100; decide) fun H2 x k2 hx => k H2 x (k1.trans k2) ?_⟩
      simp only [List.mem_cons, List.not_mem_nil, or_false] at hx
      rcases hx with rfl | rfl | rfl | rfl | rfl | rfl | rfl | rfl <;> (show Int.natAbs _ < 10 ^ 30; decide)
    refine ⟨_, rfl, rfl, _, rfl, ?_⟩
    refine ite2 (fun _ => ?_) (fun n2 => ?_)
    · refine ⟨_, rfl, [122], 60, congrArg V.str lit_z, rfl, by decide, by decide, [122], 59, congrArg V.str lit_z, rfl, by decide, by decide, ?_⟩
      refine ⟨by show 12 ≤ sizeLine; omega, pick (K := K) g1 (by simp) (by show 12 ≤ 100; decide) fun H2 x k2 hx => k H2 x (k1.trans k2) ?_⟩
      simp only [List.mem_cons, List.not_mem_nil, or_false] at hx
      rcases hx with rfl | rfl | rfl | rfl | rfl | rfl | rfl | rfl | rfl | rfl | rfl | rfl <;> exact wv_str (by decide +kernel) (by decide +kernel)
    refine ⟨_, rfl, rfl, _, rfl, ?_⟩
    refine ite2 (fun _ => ?_) (fun n3 => ?_)
    · refine ⟨_, rfl, _, _, rfl, rfl, ⟨by decide, by decide, by decide⟩, r, 1000000000, congrArg (fun z => [V.ref r, V.int z]) (by decide : (10 : Int) ^ (9 : Int).toNat = ((1000000000 : Nat) : Int)), g1, by decide, by decide, fun H2 m k2 hm => ?_⟩
      refine ⟨_, _, rfl, rfl, ⟨by decide, by decide, by decide⟩, _, _, rfl, rfl, .inl ⟨by decide, by decide⟩, _, _, rfl, rfl, ?_⟩
      refine k H2 _ (k1.trans k2) ?_
      show Int.natAbs _ < 10 ^ 30
      have e : (5 : Int) * 10 ^ (8 : Int).toNat = 500000000 := by decide
      rw [e]
      omega
    rw [lit_nil]
    refine ⟨⟨_, rfl⟩, _, rfl, r, 5, rfl, g1, by decide, by decide, fun H2 m k2 hm => ?_⟩
    have g2 := k2.2 g1
    refine ⟨_, rfl, by omega, by omega, fun D hD => ?_⟩
    have nD : D ≠ r := g2.ne hD
    rw [Int.toNat_natCast]
    refine lc_range (lo := 0) (n := m) (fun i H' => Kp r H2 H' ∧ Acc (fun c => decide (c < 128) && !decide (c = 39)) D H' i) ⟨(Kp.refl r H2).put hD nD, Acc.nil _ D H2⟩ ?_ ?_
    · rintro i H' hi ⟨kp, acc, hL, h2, h4⟩
      refine ⟨rfl, _, rfl, r, _, rfl, kp.2 g2, .inr ⟨[97, 98, 65, 66, 32, 40, 48, 45], congrArg V.str lit_sg, by simp, by decide, fun H3 c k3 hc => ?_⟩⟩
      exact ⟨_, k3.1 D _ nD hL, (by rw [List.length_map, h4, hsl]; omega), (kp.trans k3).put hD nD, Acc.more h2 h4 (List.all_eq_true.mp (by decide : [97, 98, 65, 66, 32, 40, 48, 45].all (fun c : Nat => decide (c < 128) && !decide (c = 39)) = true) c hc)⟩
    rintro H3 ⟨k3, acc, hL, h2, h4⟩
    rw [strs_of] at hL
    refine ⟨_, D, acc.map (fun c => txt [c]), rfl, rfl, .inl (SqL.of hL), ?_, ?_⟩
    · rw [sum_signs, List.length_map, txt_len]
      show acc.length + acc.length * 0 ≤ 16777216
      omega
    rw [join_of]
    exact k H3 _ ((k1.trans k2).trans k3) (wv_str h2 (by show acc.length ≤ 60; omega))
end
end K15
namespace K15
open PySem L2 SR
/-! ### what is no value, no label -/
theorem sho_fin {d : PyData} (h : (PyData.showable d && decide (d.shown.length ≤ 60000) && decide (PyData.depth d ≤ 5)) = true) : Sho d := by
  obtain ⟨h, c⟩ := Bool.and_eq_true_iff.mp h
  obtain ⟨a, b⟩ := Bool.and_eq_true_iff.mp h
  exact ⟨a, of_decide_eq_true b, of_decide_eq_true c⟩
theorem sho_str {x : Str} (h : asc x.cps.toList) (l : x.cps.toList.length ≤ 4000) : Sho (.str x) := by
  have e := StrLaws.reprText_len (txt x.cps.toList) (fun c hc => Nat.lt_trans (h c hc) (by decide))
  rw [txt_len, ← txt_of x] at e
  refine ⟨rfl, ?_, by rw [PyData.depth]; exact Nat.zero_le _⟩
  rw [PyData.shown]
  omega
theorem sho_int {i : Int} (h : i.natAbs.log2 < 1920) : Sho (.int i) := by
  refine ⟨decide_eq_true h, ?_, by rw [PyData.depth]; exact Nat.zero_le _⟩
  rw [PyData.shown]
  have := int_text_length_le (k := 1920) (by decide) h
  rw [ofString_length]
  omega
/-- what is no value, not at r -/
def NoV (K : PySem.W.Frag) (C : Addr) (r : Addr) (H : Hp) (v : V) : Prop := v ≠ .ref r ∧ ((∃ d, Th K H v d ∧ Sho d ∧ Cl K H v ∧ goodV v = false) ∨ ∃ p, v = .ref p ∧ Lb C H p [])
/-- what is no label, not at r -/
def NoL (K : PySem.W.Frag) (r : Addr) (H : Hp) (v : V) : Prop := v ≠ .ref r ∧ (∃ T, EqO.BtV K H v T) ∧ ∃ d, Th K H v d ∧ Sho d
theorem cl_tup {K : PySem.W.Frag} {H : Hp} {a : Addr} {xs : List V} (e : H a = some (.tup xs)) : Cl K H (.ref a) :=
  .oth (.base (.tup e)) (kit_ty (a := "tuple") (b := "bool") (r := false) (by decide +kernel)) (kit_ty (a := "tuple") (b := "int") (r := false) (by decide +kernel)) (kit_ty (a := "tuple") (b := "str") (r := false) (by decide +kernel))
theorem cl_lst {K : PySem.W.Frag} {H : Hp} {a : Addr} {xs : List V} (e : H a = some (.lst xs)) : Cl K H (.ref a) :=
  .oth (.base (.lst e)) (kit_ty (a := "list") (b := "bool") (r := false) (by decide +kernel)) (kit_ty (a := "list") (b := "int") (r := false) (by decide +kernel)) (kit_ty (a := "list") (b := "str") (r := false) (by decide +kernel))
theorem cl_dic {K : PySem.W.Frag} {H : Hp} {a : Addr} {kvs : List (Key × V)} (e : H a = some (.dK kvs)) : Cl K H (.ref a) :=
  .oth (.base (.dK e)) (kit_ty (a := "dict") (b := "bool") (r := false) (by decide +kernel)) (kit_ty (a := "dict") (b := "int") (r := false) (by decide +kernel)) (kit_ty (a := "dict") (b := "str") (r := false) (by decide +kernel))
theorem cl_lab {K : PySem.W.Frag} {mg : Str → Option Value} {C gE gL gS gR gH pM gM : Addr} {dE dL dS dR dH dM : FuncData} {H : Hp} {z : Addr} {ys : List Str} (M : LabM K mg C gE gL gS gR gH pM gM dE dL dS dR dH dM)
    (kI : ∀ T ∈ ["bool", "int", "str"], PySem.W.kitOne K (.ref C) (.type T) = some false) (h : Lb C H z ys) : Cl K H (.ref z) := by
  obtain ⟨_, _, _, dx, t, ha, _⟩ := h
  exact .oth (.base (.ins ha M.cl M.ca M.cn M.ct M.cm)) (kI _ (by decide)) (kI _ (by decide)) (kI _ (by decide))
theorem cl_str {K : PySem.W.Frag} {H : Hp} {y : Str} (h : y.cps.toList.length ≤ 4000) : Cl K H (.str y) := by
  rw [txt_of y]
  exact .str _ h
theorem dp1 {K : PySem.W.Frag} {v : V} {d : PyData} (h : ∀ H1, Dp K H1 v d) : ∀ H1, DpAll K H1 [v] [d] := fun H1 => .cons (h H1) .nil
theorem srt_nil : Srt [] [] := ⟨.nil, rfl, fun _ => Iff.rfl⟩
section
variable {P : Program} {w : World} {K : PySem.W.Frag} {mg : Str → Option Value} {base : Heap}
def spNoLab (K : PySem.W.Frag) : Sp := fun vs H Q _ => ∃ (r p : Addr) (ws : List Tx), vs = [.ref r, .ref p] ∧ Rg H r ∧ H p = some (.lst (ws.map tv)) ∧ p ≠ r ∧ 1 ≤ ws.length ∧ ws.length ≤ 5 ∧ (∀ x ∈ ws, nmC x = true) ∧ ∀ H' v, Kp r H H' → NoL K r H' v → (∀ b, v = .ref b → H b = none) → Q v H'
theorem scNL : FnScope ["_law_rng_here", "_law_words_here"] ["_law_rng_here", "_law_words_here"] (defScope sNoLab) := ⟨rfl, rfl, rfl, by decide +kernel, rfl, by decide +kernel, by decide +kernel⟩
theorem sho_words {ws : List Tx} (nm : ∀ x ∈ ws, nmC x = true) (l : ws.length ≤ 5) : Sho (.list (ws.map fun t => PyData.str (txt t))) ∧ ∀ x ∈ ws, Sho (.tuple [.str (txt x)]) := by
  have one : ∀ x ∈ ws, (PyData.shown (.str (txt x))).length ≤ 100 := fun x hx => by
    have n := nm x hx
    have a := nm_asc n
    have l8 : x.length ≤ 8 := of_decide_eq_true (Bool.and_eq_true_iff.mp n).1
    have e := StrLaws.reprText_len (txt x) (fun c hc => Nat.lt_trans (a c hc) (by decide))
    rw [txt_len] at e
    rw [PyData.shown]
    omega
  refine ⟨⟨?_, ?_, ?_⟩, fun x hx => ⟨?_, ?_, ?_⟩⟩
  · have : ∀ us : List Tx, PyData.showableAll (us.map fun t => PyData.str (txt t)) = true := fun us => by
      induction us with
      | nil => rfl
      | cons u us ih => rw [List.map_cons, PyData.showableAll, ih]; rfl
    rw [PyData.showable]
    exact this ws
  · have z : ∀ us : List Tx, (∀ x ∈ us, x ∈ ws) → ((PyData.shownAll (us.map fun t => PyData.str (txt t))).map (·.length)).sum ≤ 100 * us.length ∧ (PyData.shownAll (us.map fun t => PyData.str (txt t))).length = us.length := fun us => by
      induction us with
      | nil => exact fun _ => ⟨by decide, rfl⟩
      | cons u us ih =>
        intro h
        obtain ⟨a, b⟩ := ih fun x hx => h x (List.mem_cons_of_mem _ hx)
        have c := one u (h u List.mem_cons_self)
        rw [List.map_cons, PyData.shownAll, List.map_cons, List.sum_cons, List.length_cons, List.length_cons]
        exact ⟨by omega, by omega⟩
    obtain ⟨a, b⟩ := z ws fun _ h => h
    rw [PyData.shown]
    have := listText_len (PyData.shownAll (ws.map fun t => PyData.str (txt t)))
    omega
  · have : ∀ us : List Tx, PyData.depthAll (us.map fun t => PyData.str (txt t)) = 0 := fun us => by
      induction us with
      | nil => rfl
      | cons u us ih => rw [List.map_cons, PyData.depthAll, ih, PyData.depth]; rfl
    rw [PyData.depth, this]
    decide
  · simp [PyData.showable, PyData.showableAll]
  · have c := one x hx
    simp only [PyData.shown, PyData.shownAll] at c ⊢
    unfold tupleText
    rw [strLen_append, strLen_append]
    have e1 : ("(" : Str).length = 1 := by decide +kernel
    have e2 : (Str.ofString (if ([reprText (txt x)] : List Str).length == 1 then ",)" else ")")).length ≤ 2 := by
      show (Str.ofString ",)").length ≤ 2
      decide +kernel
    have e3 : (Str.join ", " [reprText (txt x)]).length ≤ 100 := c
    omega
  · simp [PyData.depth, PyData.depthAll]
theorem nodict_words : ∀ us : List Tx, PyData.hasDictAll (us.map fun t => PyData.str (txt t)) = false := fun us => by
  induction us with
  | nil => rfl
  | cons u us ih => rw [List.map_cons, PyData.hasDictAll, ih]; simp [PyData.hasDict]
theorem ok_nolab {f fD fC : Addr} {fd dD dC : FuncData} (F : Fun K "_law_no_label" "_law_no_label" sNoLab f fd) (B : BEnv mg) (zL : mg "list" = none) (AD : At K mg "_law_draw" sDraw ["_law_rng_here", "_law_many"] fD dD) (AC : At K mg "_law_choice" sChoice ["_law_rng_here", "_law_options"] fC dC) :
    FnOk P w K mg base CX0 3 f fd ["_law_rng_here", "_law_words_here"] (spNoLab K) := by
  have GC : FnOk P w K mg base CX0 2 fC dC ["_law_rng_here", "_law_options"] (spChoice K) := ok_choice AC.F B AD
  refine F.ok scNL (fun vs H Q E h => ?_) (fun cdv A outer_ s H vs Q E hr h => ?_)
  · obtain ⟨r, p, ws, rfl, _⟩ := h
    rfl
  · obtain ⟨r, p, ws, rfl, g, hp, npr, w1, w5, nm, k⟩ := h
    refine ⟨_, pss_one (ps_ret (pe_call GC hr (by rfl) AC.m AC.F.kp AC.b .nil pass0 (pa_cons (pv 0) (pa_cons (pe_lst (pa_cons pe_non (pa_cons pe_int (pa_cons pe_bl (pa_cons pe_str (pa_cons pe_str (pa_cons (pe_ix ix_list (pv 1) pe_int (fun _ _ => rfl)) (pa_cons (pe_tup pa_nil) (pa_cons (pe_lst pa_nil) (pa_cons pe_dnewK
        (pa_cons (pe_tup (pa_cons (pe_ix ix_list (pv 1) pe_int (fun _ _ => rfl)) pa_nil)) (pa_cons (pe_callTy call_list_of (by rfl) zL (by decide +kernel) (pa_cons (pv 1) pa_nil)) (pa_cons (pe_op op_pow pe_int pe_int) pa_nil))))))))))))) pa_nil)))), ?_⟩
    have hsl : sizeLine = 16777216 := sizeLine_eq
    obtain ⟨x0, hx0, x0m⟩ : ∃ x, (ws.map tv)[0]? = some (tv x) ∧ x ∈ ws := by
      cases ws with
      | nil => exact absurd w1 (by decide)
      | cons a l => exact ⟨a, rfl, List.mem_cons_self⟩
    refine ⟨_, rfl, _, rfl, p, _, _, _, rfl, rfl, SqL.of hp, atI_nat (j := 0) hx0, ?_⟩
    refine ⟨by show 0 ≤ sizeLine; omega, fun a1 x1 => ?_⟩
    have b1 := same_upd (o := HO.tup []) x1
    have y1 : (upd H a1 (.tup [])) a1 = some (.tup []) := upd_same
    revert b1 y1
    generalize upd H a1 (.tup []) = H1
    intro b1 y1
    refine ⟨by show 0 ≤ sizeLine; omega, fun a2 x2 => ?_⟩
    have b2 := same_upd (o := HO.lst []) x2
    have y2 : (upd H1 a2 (.lst [])) a2 = some (.lst []) := upd_same
    revert b2 y2
    generalize upd H1 a2 (.lst []) = H2
    intro b2 y2 a3 x3
    have b3 := same_upd (o := HO.dK []) x3
    have y3 : (upd H2 a3 (.dK [])) a3 = some (.dK []) := upd_same
    revert b3 y3
    generalize upd H2 a3 (.dK []) = H3
    intro b3 y3
    have hp3 := b3 _ _ (b2 _ _ (b1 _ _ hp))
    refine ⟨_, rfl, p, _, _, _, rfl, rfl, SqL.of hp3, atI_nat (j := 0) hx0, by show 1 ≤ sizeLine; omega, fun a4 x4 => ?_⟩
    have b4 := same_upd (o := HO.tup [tv x0]) x4
    have y4 : (upd H3 a4 (.tup [tv x0])) a4 = some (.tup [tv x0]) := upd_same
    revert b4 y4
    generalize upd H3 a4 (.tup [tv x0]) = H4
    intro b4 y4
    refine ⟨_, rfl, p, _, rfl, .inl (SqL.of (b4 _ _ hp3)), fun a5 x5 => ?_⟩
    have b5 := same_upd (o := HO.lst (ws.map tv)) x5
    have y5 : (upd H4 a5 (.lst (ws.map tv))) a5 = some (.lst (ws.map tv)) := upd_same
    revert b5 y5
    generalize upd H4 a5 (.lst (ws.map tv)) = H5
    intro b5 y5
    refine ⟨_, _, rfl, rfl, ⟨by decide, by decide, by decide⟩, by show 12 ≤ sizeLine; omega, ?_⟩
    have k2 : Kp r H H2 := Kp.of_same (b1.trans b2)
    have k5 : Kp r H H5 := Kp.of_same (((b1.trans b2).trans b3).trans (b4.trans b5))
    have n1 : a1 ≠ r := g.ne x1
    have n2 : a2 ≠ r := ((Kp.of_same b1).2 g).ne x2
    have n3 : a3 ≠ r := (k2.2 g).ne x3
    have n4 : a4 ≠ r := ((k2.trans (Kp.of_same b3)).2 g).ne x4
    have n5 : a5 ≠ r := (((k2.trans (Kp.of_same b3)).trans (Kp.of_same b4)).2 g).ne x5
    refine pick (K := K) (k5.2 g) (by simp) (by show 12 ≤ 100; decide) fun H6 x k6 hx => k H6 x (k5.trans k6) ?_ (fun b e => ?_)
    rotate_left
    · simp only [List.mem_cons, List.not_mem_nil, or_false] at hx
      rcases hx with rfl | rfl | rfl | rfl | rfl | rfl | rfl | rfl | rfl | rfl | rfl | rfl <;> cases e
      · exact x1
      · exact b1.free x2
      · exact (b1.trans b2).free x3
      · exact ((b1.trans b2).trans b3).free x4
      · exact (((b1.trans b2).trans b3).trans b4).free x5
    have z1 := k6.1 _ _ n1 (b5 _ _ (b4 _ _ (b3 _ _ (b2 _ _ y1))))
    have z2 := k6.1 _ _ n2 (b5 _ _ (b4 _ _ (b3 _ _ y2)))
    have z3 := k6.1 _ _ n3 (b5 _ _ (b4 _ _ y3))
    have z4 := k6.1 _ _ n4 (b5 _ _ y4)
    have z5 := k6.1 _ _ n5 y5
    obtain ⟨s1, s2⟩ := sho_words nm w5
    have nm0 := nm x0 x0m
    simp only [List.mem_cons, List.not_mem_nil, or_false] at hx
    rcases hx with rfl | rfl | rfl | rfl | rfl | rfl | rfl | rfl | rfl | rfl | rfl | rfl
    · exact ⟨(fun z => by cases z), ⟨_, .non⟩, _, .non, sho_fin (by decide +kernel)⟩
    · exact ⟨(fun z => by cases z), ⟨_, .int _⟩, _, .int _, sho_fin (by decide +kernel)⟩
    · exact ⟨(fun z => by cases z), ⟨_, .bl _⟩, _, .bl _, sho_fin (by decide +kernel)⟩
    · exact ⟨(fun z => by cases z), ⟨_, .str _⟩, _, .str _, sho_fin (by decide +kernel)⟩
    · exact ⟨(fun z => by cases z), ⟨_, .str _⟩, _, .str _, sho_fin (by decide +kernel)⟩
    · exact ⟨(fun z => by cases z), ⟨_, .str _⟩, _, .str _, sho_str (nm_asc nm0) (Nat.le_trans (of_decide_eq_true (Bool.and_eq_true_iff.mp nm0).1) (by decide))⟩
    · exact ⟨(fun z => n1 (V.ref.inj z)), ⟨_, .tup z1⟩, _, .tup z1 (fun _ => .nil) rfl, sho_fin (by decide +kernel)⟩
    · exact ⟨(fun z => n2 (V.ref.inj z)), ⟨_, .lst z2⟩, _, .lst z2 (fun _ => .nil) rfl, sho_fin (by decide +kernel)⟩
    · exact ⟨(fun z => n3 (V.ref.inj z)), ⟨_, .dic z3⟩, _, .d0 z3, sho_fin (by decide +kernel)⟩
    · exact ⟨(fun z => n4 (V.ref.inj z)), ⟨_, .tup z4⟩, _, .tup z4 (dp1 fun _ => .str _) rfl, s2 x0 x0m⟩
    · exact ⟨(fun z => n5 (V.ref.inj z)), ⟨_, .lst z5⟩, _, .lst z5 (fun _ => dpS ws) (nodict_words ws), s1⟩
    · exact ⟨(fun z => by cases z), ⟨_, .int _⟩, _, .int _, sho_fin (by decide +kernel)⟩
end
end K15
namespace K15
open PySem L2 SR
section
variable {P : Program} {w : World} {K : PySem.W.Frag} {mg : Str → Option Value} {base : Heap}
def spNoVal (K : PySem.W.Frag) (C : Addr) : Sp := fun vs H Q _ => ∃ r : Addr, vs = [.ref r] ∧ Rg H r ∧ ∀ H' v, Kp r H H' → NoV K C r H' v → (∀ b, v = .ref b → H b = none) → Q v H'
theorem scNV : FnScope ["_law_rng_here", "_law_some"] ["_law_rng_here"] (defScope sNoVal) := ⟨rfl, rfl, rfl, by decide +kernel, rfl, by decide +kernel, by decide +kernel⟩
theorem Kp.lab {C : Addr} {r : Addr} {H H' : Hp} {a : Addr} {ys : List Str} (k : Kp r H H') (g : Rg H r) (h : Lb C H a ys) : Lb C H' a ys := h.keep fun b o e c => k.1 b o (fun z => by
  obtain ⟨x, y, q, _⟩ := g
  rw [z, q] at e
  rcases c with ⟨xs, w⟩ | ⟨D, dx, fs, w⟩ <;> rw [← Option.some.inj e] at w <;> cases w) e
theorem Lb.ner {C : Addr} {r : Addr} {H : Hp} {a : Addr} {ys : List Str} (h : Lb C H a ys) (g : Rg H r) : a ≠ r := fun z => by
  obtain ⟨x, y, q, _⟩ := g
  obtain ⟨dx, fs, e⟩ := h.ins
  rw [z, q] at e
  cases e
theorem mk_te0 {K : PySem.W.Frag} {C CN CM : Addr} {σ : L2.St} {H1 : Hp} {Q : VK}
    (k : ∀ H' z, Same H1 H' → H1 z = none → Lb C H' z [] → Q (.ref z) H') : StX.tMakeR C (fun vs H Q E => ∃ ws rest, vs = ws ++ rest ∧ ws.length = ([("self" : Str)]).length ∧ rest.length ≤ sizeLine ∧ ∀ p, H p = Option.none → spInit K C CN CM (ws ++ [V.ref p]) (upd H p (.tup rest)) Q E) E0 tNil σ H1 Q := by
  intro z dz hz hd ne
  exact mk_lab (ts := []) (ys := []) hz hd ne rfl (by decide) srt_nil (by decide) fun H' s lb => k H' z s hz lb
theorem goodV_ref (a : Addr) : goodV (.ref a) = false := by unfold goodV srt; simp
theorem tc_c {v : V} {ts : TA} {σ : L2.St} {H : Hp} {Q : List V → Hp → Prop} (h : ts σ H fun xs H2 => Q (v :: xs) H2) : tCons (tC v) ts σ H Q := h
theorem tc_m {K : PySem.W.Frag} {C CN CM : Addr} {ts : TA} {σ : L2.St} {H1 : Hp} {Q : List V → Hp → Prop}
    (k : ∀ H' z, Same H1 H' → H1 z = none → Lb C H' z [] → ts σ H' fun xs H2 => Q (.ref z :: xs) H2) : tCons (StX.tMakeR C (fun vs H Q E => ∃ ws rest, vs = ws ++ rest ∧ ws.length = ([("self" : Str)]).length ∧ rest.length ≤ sizeLine ∧ ∀ p, H p = Option.none → spInit K C CN CM (ws ++ [V.ref p]) (upd H p (.tup rest)) Q E) E0 tNil) ts σ H1 Q :=
  mk_te0 k
theorem ok_noval {C fL CN fN CM fM f fD fC : Addr} {fd dL dN dM dD dC : FuncData} (F : Fun K "_law_no_value" "_law_no_value" sNoVal f fd) (B : BEnv mg) (L : LabC K mg C fL CN fN CM fM dL dN dM) (AD : At K mg "_law_draw" sDraw ["_law_rng_here", "_law_many"] fD dD) (AC : At K mg "_law_choice" sChoice ["_law_rng_here", "_law_options"] fC dC)
    (GI : FnR P w K mg base (L2.CX P w) 3 fL (fun vs H Q E => ∃ ws rest, vs = ws ++ rest ∧ ws.length = ([("self" : Str)]).length ∧ rest.length ≤ sizeLine ∧ ∀ p, H p = Option.none → spInit K C CN CM (ws ++ [V.ref p]) (upd H p (.tup rest)) Q E)) :
    FnOk P w K mg base CX0 5 f fd ["_law_rng_here"] (spNoVal K C) := by
  have GC : FnOk P w K mg base CX0 2 fC dC ["_law_rng_here", "_law_options"] (spChoice K) := ok_choice AC.F B AD
  refine F.ok scNV (fun vs H Q E h => ?_) (fun cdv A outer_ s H vs Q E hr h => ?_)
  · obtain ⟨r, rfl, _⟩ := h
    rfl
  · obtain ⟨r, rfl, g, k⟩ := h
    refine ⟨_, pss_cons (ps_set (i := 1) scNV.nd rfl (Or.inl rfl) (pe_lst (pa_cons (pe_lst pa_nil) (pa_cons (pe_tup pa_nil) (pa_cons pe_dnewK (pa_cons (pe_tup (pa_cons pe_int pa_nil)) (pa_cons (pe_lst (pa_cons pe_str pa_nil)) (pa_cons (pe_op op_pow pe_int pe_int)
        (pa_cons (pe_un un_neg (pe_op op_pow pe_int pe_int)) (pa_cons (pe_op op_mulS pe_str pe_int) (pa_cons pe_str (pa_cons pe_str (pa_cons (pe_make0 (E := E0) L.mkr GI hr (by rfl) L.m (CmS.passE L2.takes0)) (pa_cons (pe_op op_pow pe_int pe_int) pa_nil))))))))))))))
      (pss_one (ps_ret (pe_call GC (hr.mono (by decide)) (by rfl) AC.m AC.F.kp AC.b .nil pass0 (pa_cons (pv 0) (pa_cons (pv 1) pa_nil))))), ?_⟩
    have hsl : sizeLine = 16777216 := sizeLine_eq
    refine ⟨by show 0 ≤ sizeLine; omega, fun a1 x1 => ?_⟩
    have b1 := same_upd (o := HO.lst []) x1
    have y1 : (upd H a1 (.lst [])) a1 = some (.lst []) := upd_same
    revert b1 y1
    generalize upd H a1 (.lst []) = H1
    intro b1 y1
    refine ⟨by show 0 ≤ sizeLine; omega, fun a2 x2 => ?_⟩
    have b2 := same_upd (o := HO.tup []) x2
    have y2 : (upd H1 a2 (.tup [])) a2 = some (.tup []) := upd_same
    revert b2 y2
    generalize upd H1 a2 (.tup []) = H2
    intro b2 y2
    refine fun a3 x3 => ?_
    have b3 := same_upd (o := HO.dK []) x3
    have y3 : (upd H2 a3 (.dK [])) a3 = some (.dK []) := upd_same
    revert b3 y3
    generalize upd H2 a3 (.dK []) = H3
    intro b3 y3
    refine ⟨by show 1 ≤ sizeLine; omega, fun a4 x4 => ?_⟩
    have b4 := same_upd (o := HO.tup [V.int 1]) x4
    have y4 : (upd H3 a4 (.tup [V.int 1])) a4 = some (.tup [V.int 1]) := upd_same
    revert b4 y4
    generalize upd H3 a4 (.tup [V.int 1]) = H4
    intro b4 y4
    refine ⟨by show 1 ≤ sizeLine; omega, fun a5 x5 => ?_⟩
    have b5 := same_upd (o := HO.lst [V.str "a"]) x5
    have y5 : (upd H4 a5 (.lst [V.str "a"])) a5 = some (.lst [V.str "a"]) := upd_same
    revert b5 y5
    generalize upd H4 a5 (.lst [V.str "a"]) = H5
    intro b5 y5
    refine ⟨_, _, rfl, rfl, ⟨by decide, by decide, by decide⟩, _, _, rfl, rfl, ⟨by decide, by decide, by decide⟩, _, rfl, [122], 61, congrArg V.str lit_z, rfl, by decide, by decide, ?_⟩
    have k1 : Kp r H H1 := Kp.of_same b1
    have k2 := k1.trans (Kp.of_same b2)
    have k3 := k2.trans (Kp.of_same b3)
    have k4 := k3.trans (Kp.of_same b4)
    have k5 := k4.trans (Kp.of_same b5)
    have n1 : a1 ≠ r := g.ne x1
    have n2 : a2 ≠ r := (k1.2 g).ne x2
    have n3 : a3 ≠ r := (k2.2 g).ne x3
    have n4 : a4 ≠ r := (k3.2 g).ne x4
    have n5 : a5 ≠ r := (k4.2 g).ne x5
    refine tc_c (tc_c (tc_m (K := K) (C := C) (CN := CN) (CM := CM) fun H6 z s6 z0 lb => ?_))
    refine ⟨_, _, rfl, rfl, ⟨by decide, by decide, by decide⟩, by show 12 ≤ sizeLine; omega, fun l hl => ?_⟩
    have k6 := k5.trans (Kp.of_same s6)
    have g6 := k6.2 g
    have nl : l ≠ r := g6.ne hl
    refine ⟨_, rfl, _, rfl, r, .ref l, rfl, (((Kp.refl r H6).put hl nl).2 g6), .inl ⟨l, _, rfl, upd_same, nl, by simp, by show 12 ≤ big; decide, fun H7 x k7 hx => ?_⟩⟩
    have k67 : Kp r H6 H7 := ((Kp.refl r H6).put hl nl).trans k7
    refine k H7 x (k6.trans k67) ?_ (fun b e => ?_)
    rotate_left
    · simp only [List.mem_cons, List.not_mem_nil, or_false] at hx
      rcases hx with rfl | rfl | rfl | rfl | rfl | rfl | rfl | rfl | rfl | rfl | rfl | rfl <;> cases e
      · exact x1
      · exact b1.free x2
      · exact (b1.trans b2).free x3
      · exact ((b1.trans b2).trans b3).free x4
      · exact (((b1.trans b2).trans b3).trans b4).free x5
      · exact ((((b1.trans b2).trans b3).trans b4).trans b5).free z0
    have z1 := k67.1 _ _ n1 (s6 _ _ (b5 _ _ (b4 _ _ (b3 _ _ (b2 _ _ y1)))))
    have z2 := k67.1 _ _ n2 (s6 _ _ (b5 _ _ (b4 _ _ (b3 _ _ y2))))
    have z3 := k67.1 _ _ n3 (s6 _ _ (b5 _ _ (b4 _ _ y3)))
    have z4 := k67.1 _ _ n4 (s6 _ _ (b5 _ _ y4))
    have z5 := k67.1 _ _ n5 (s6 _ _ y5)
    have zl : Lb C H7 z [] := k67.lab g6 lb
    have nz : z ≠ r := lb.ner g6
    simp only [List.mem_cons, List.not_mem_nil, or_false] at hx
    rcases hx with rfl | rfl | rfl | rfl | rfl | rfl | rfl | rfl | rfl | rfl | rfl | rfl
    · exact ⟨(fun z => n1 (V.ref.inj z)), .inl ⟨_, .lst z1 (fun _ => .nil) rfl, sho_fin (by decide +kernel), cl_lst z1, goodV_ref _⟩⟩
    · exact ⟨(fun z => n2 (V.ref.inj z)), .inl ⟨_, .tup z2 (fun _ => .nil) rfl, sho_fin (by decide +kernel), cl_tup z2, goodV_ref _⟩⟩
    · exact ⟨(fun z => n3 (V.ref.inj z)), .inl ⟨_, .d0 z3, sho_fin (by decide +kernel), cl_dic z3, goodV_ref _⟩⟩
    · exact ⟨(fun z => n4 (V.ref.inj z)), .inl ⟨_, .tup z4 (dp1 fun _ => .int _) rfl, sho_fin (by decide +kernel), cl_tup z4, goodV_ref _⟩⟩
    · exact ⟨(fun z => n5 (V.ref.inj z)), .inl ⟨_, .lst z5 (dp1 fun _ => .str _) rfl, sho_fin (by decide +kernel), cl_lst z5, goodV_ref _⟩⟩
    · exact ⟨(fun z => by cases z), .inl ⟨_, .int _, sho_fin (by decide +kernel), .int _, by decide +kernel⟩⟩
    · exact ⟨(fun z => by cases z), .inl ⟨_, .int _, sho_fin (by decide +kernel), .int _, by decide +kernel⟩⟩
    · exact ⟨(fun z => by cases z), .inl ⟨_, .str _, sho_fin (by decide +kernel), .str _ (by decide +kernel), by decide +kernel⟩⟩
    · exact ⟨(fun z => by cases z), .inl ⟨_, .str _, sho_fin (by decide +kernel), cl_str (by decide +kernel), by decide +kernel⟩⟩
    · exact ⟨(fun z => by cases z), .inl ⟨_, .str _, sho_fin (by decide +kernel), cl_str (by decide +kernel), by decide +kernel⟩⟩
    · exact ⟨(fun q => nz (V.ref.inj q)), .inr ⟨z, rfl, zl⟩⟩
    · exact ⟨(fun z => by cases z), .inl ⟨_, .int _, sho_fin (by decide +kernel), .int _, by decide +kernel⟩⟩
end
end K15
namespace K15
open PySem L2 SR
/-! ### repr where an exception is handled -/
theorem passN0 {X : Cx} : Passes (L2N.CX X.prog X.w) X E0 := fun _ _ _ _ _ _ _ h => by
  obtain ⟨_, _, _, _, _, _, _, _, _, _, _, _, z⟩ := h
  exact z.elim
theorem takesN0 {X : Cx} : L2N.Takes X (fun _ _ _ _ => False) := fun _ _ x => by
  obtain ⟨_, _, _, _, _, _, _, _, _, _, _, _, _, _, _, _, z⟩ := x
  exact z.elim
section
variable {P : Program} {w : World} {K : PySem.W.Frag} {mg : Str → Option Value} {base : Heap}
variable {C gE gL gS gR gH pM gM : Addr} {dE dL dS dR dH dM : FuncData}
def spReprE (C : Addr) : Sp := fun vs H Q _ => ∃ a : Addr, vs = [.ref a] ∧ Lb C H a [] ∧ ∀ H', Same H H' → Q (.str (lshow [])) H'
theorem ok_reprH (L : LabM K mg C gE gL gS gR gH pM gM dE dL dS dR dH dM) (Z : Zn mg) : L2H.FnH P w K mg base CX0 1 gR dR ["self"] (spReprE C) := by
  refine HtT.okH L.R scRe (fun vs H Q E h => ?_) (fun cdv A outer_ s H vs Q E p hot hr h => ?_)
  · obtain ⟨a, rfl, _⟩ := h
    rfl
  · obtain ⟨a, rfl, ⟨nms, l4, sy, dx, t, ha, ht⟩, k⟩ := h
    refine ⟨_, pss_one (ps_ret (pe_joined (PJ.cons pe_str (PJ.cons (pe_fmt (pe_join pe_str (HtT.pe_lcE ⟨p, ⟨hot.1, hot.2⟩, List.mem_cons_self⟩ scRe.nd (own := [("mark", 1)]) (pe_fld (pv 0) rfl) (blkOk_by (N := ["self", "mark"]) (sc := defScope sRepr) (by decide +kernel))))) (PJ.cons pe_str PJ.nil))))), ?_⟩
    have hsl : sizeLine = 16777216 := sizeLine_eq
    refine ⟨_, rfl, by decide +kernel, ?_⟩
    refine ⟨⟨_, rfl⟩, _, rfl, a, C, dx, _, .ref t, rfl, ha, L.cl, L.n1, rfl, t, rfl, SqT.of ht, fun D hD => ?_⟩
    have e7 : ("Label(" : Str).length = 6 := by decide +kernel
    have e8 : (")" : Str).length = 1 := by decide +kernel
    refine ⟨_, D, [], rfl, rfl, .inl (SqL.of upd_same), by decide, .inl ⟨_, rfl, by decide, _, rfl, ?_, _, rfl, ?_, k _ (same_upd hD)⟩⟩
    · rw [strLen_append, strLen_append, e7]
      show 0 + 6 + 0 ≤ _
      omega
    · rw [strLen_append, strLen_append, strLen_append, e7, e8]
      show 0 + 6 + 0 + 1 ≤ _
      omega
end
end K15
namespace K15
open PySem L2 SR TAs
section
variable {P : Program} {w : World} {K : PySem.W.Frag} {mg : Str → Option Value} {base : Heap}
variable {C gE gL gS gR gH pM gM : Addr} {dE dL dS dR dH dG : FuncData}
/-! ### _law_labels_told -/
theorem Tups.upd {H : Hp} {D : Addr} {o : HO} {l vs : List V} {S : List (List Str)} (h : Tups H vs S) (hD : H D = some (.lst l)) : Tups (upd H D o) vs S := ⟨h.1, fun j zs e => by
  obtain ⟨p, a, b⟩ := h.2 j zs e
  refine ⟨p, a, ?_⟩
  rw [upd_ne (fun z => by rw [z, hD] at b; cases b)]
  exact b⟩
def spLT (K : PySem.W.Frag) (C : Addr) : Sp := fun vs H Q _ => ∃ (a : Addr) (xs : List V) (os : List (Option (List Str))), vs = [.ref a] ∧ (SqL K H a xs ∨ SqT K H a xs) ∧ xs.length ≤ 60 ∧ os.length = xs.length ∧ (∀ (i : Nat) v o, xs[i]? = some v → os[i]? = some o → It K C H v o) ∧
  (∀ (i : Nat) v, xs[i]? = some v → os[i]? = some none → (∀ j : Nat, j < i → os[j]? ≠ some none) → ∃ d, Th K H v d ∧ Sho d ∧ ∀ H' q, Same H H' → H q = none → H' q = some (.lst [.str "no label", .str d.shown]) → Q (.ref q) H') ∧
  (∀ S : List (List Str), os = S.map some → ∀ (M : List (List Str)) H' q L us, Same H H' → H q = none → H' q = some (.lst [.str "labels", .ref L]) → H' L = some (.lst us) → Tups H' us M → M.Nodup → (∀ t, t ∈ M ↔ t ∈ S) → InOrd M → Q (.ref q) H')
abbrev nLT : List Str := ["_law_things", "_law_told", "_law_label", "e"]
theorem scLT : FnScope nLT ["_law_things"] (defScope sLabTold) := ⟨rfl, rfl, rfl, by decide +kernel, rfl, by decide +kernel, by decide +kernel⟩
theorem ok_labtold {CL fL' ft fO : Addr} {dL' dt dO : FuncData} (F : Fun K "_law_labels_told" "_law_labels_told" sLabTold ft dt) (M : LabM K mg C gE gL gS gR gH pM gM dE dL dS dR dH dG) (Z : Zn mg) (T : IL K mg CL fL' dL') (xf : XfC K CL) (te : PySem.W.exmOne K (.ref CL) (.ref CL) = some true)
    (AO : At K mg "in_order" sOrder ["labels"] fO dO) (GO : FnOk P w K mg base (L2.CX P w) 6 fO dO ["labels"] (spIO K C CL)) : FnG P w K mg base 7 ft dt ["_law_things"] (spLT K C) := by
  have GG : FnOk P w K mg base CX0 1 gM dG ["self"] (getSp C "_marks") := ok_get M
  refine okG F scLT (fun vs H Q E h => ?_) (fun cdv A outer s H vs Q E gd hr h => ?_)
  · obtain ⟨a, xs, os, rfl, _⟩ := h
    rfl
  · have h2 := hr.mono (j := 2) (by decide)
    have un : (A.deeper (PyProof.Rows.envOfC "_law_labels_told" (defScope sLabTold) s.heap.objs.size ft cdv)).units + 200 < cLine := by have := hr.un; omega
    obtain ⟨a, xs, os, rfl, hS, few, lo, its, kb, k⟩ := h
    refine ⟨_, pss_cons (ps_set (i := 1) scLT.nd rfl (Or.inl rfl) (pe_lst (pa_cons pe_str pa_nil)))
      (pss_cons (TAs.ps_try (i := 3) (tb := fun W => tAsg (tLst (tCons (tC (.str "labels")) (tCons (tLc (iList K (tCallS (spIO K C CL) (WE W) (tCons (tVar 0) tNil))) (gName 2) tYes (tProp C (getSp C "_marks") [] E0 (tVar 2)) [2]) tNil))) (gName 1)) (Wout := fun _ _ _ _ => False) rfl rfl scLT.nd rfl rfl takes0
        (fun W pn xe tk _ => pss_one (ps_set (i := 1) scLT.nd rfl (Or.inl rfl) (by exact (pe_lst (pa_cons pe_str (pa_cons (pe_lc (own := [("_law_label", 2)]) (g := gName 2) (tt := tYes) rfl scLT.nd (pi_list (pe_callS GO hr rfl AO.m AO.F.kp AO.b (fun σ => passAt tk σ) (pa_cons (pv 0) pa_nil)))
          (blkOk_by (N := nLT) (sc := defScope sLabTold) (by decide +kernel)) (fun _ _ _ _ _ => pg_name (i := 2) scLT.nd rfl (Or.inl rfl)) (fun _ _ _ _ _ => pts_nil) (fun _ _ _ _ _ => pe_prop (E := E0) (pv 2) M.cl M.pr GG h2 M.bM .nil pass0 rfl)) pa_nil))))))
        (.cons ⟨rfl, by decide, .inl T.m⟩ (fun a oe cls d pn hz hf => pss_one (ps_set (i := 1) scLT.nd rfl (Or.inl rfl) (pe_lst (pa_cons pe_str (pa_cons (pe_callB (show CallR ((cxOf CX0 P w K mg base nLT "_law_labels_told" (defScope sLabTold) ft cdv A outer s H E).nox.suite a ((a, oe) :: pn)) (.builtin "repr") (fun xs H Q => ∃ v d, xs = [v] ∧ Th K H v d ∧ Sho d ∧ Q (.str d.shown) H) from call_reprD (by exact gd) (by exact un)) (by rfl) Z.zRepr (by decide +kernel) (pa_cons (pe_xf xf T.n1 hz hf (pv 3)) pa_nil)) pa_nil))))) .nil))
      (pss_one (ps_ret (pv 1)))), ?_⟩
    refine ⟨by show 1 ≤ sizeLine; decide, fun t0 ht0 => ?_⟩
    have sm0 : Same H (upd H t0 (.lst [.str "other"])) := same_upd ht0
    revert sm0
    generalize upd H t0 (.lst [.str "other"]) = H0
    intro sm0
    refine ⟨_, rfl, a, xs, os, rfl, hS.elim (fun q => .inl (sm0.seq q)) (fun q => .inr (seqT_same sm0 q)), few, lo, fun i v o h1 h2 => (its i v o h1 h2).same sm0, fun i v h1 h2 h3 H1 d fs s1 hd hx hlk => ?_, fun S e zs Ms H1 p s1 hp hL lz lbs nd mm io => ?_⟩
    · obtain ⟨dt, th, sh, kk⟩ := kb i v h1 h2 h3
      refine ⟨true, te, fun _ a0 _ => ?_, fun q => Bool.noConfusion q⟩
      refine ⟨_, rfl, rfl, rfl, d, fs, _, rfl, hx, hlk, ?_⟩
      refine ⟨v, dt, rfl, th.keep fun b o _ e => s1 _ _ (sm0 _ _ e), sh, by show 2 ≤ sizeLine; decide, fun q hq => ?_⟩
      exact ⟨_, rfl, kk _ q ((sm0.trans s1).trans (same_upd hq)) ((sm0.trans s1).free hq) upd_same⟩
    · refine ⟨p, rfl, ⟨_, SqL.of hL⟩, fun D hD => ?_⟩
      refine lc_list (xs := zs.map V.ref) (fun i H' => Same H1 H' ∧ ∃ us, H' D = some (.lst us) ∧ Tups H' us (Ms.take i)) ⟨same_upd hD, [], upd_same, rfl, fun j t h => by cases h⟩ (fun i H' _ q => SqL.of (q.1 _ _ hL)) ?_ ?_
      · rintro i v H' hv ⟨sm, us, hus, tu⟩
        rw [List.getElem?_map] at hv
        obtain ⟨z, hz, rfl⟩ := Option.map_eq_some_iff.mp hv
        have iz := (List.getElem?_eq_some_iff.mp hz).1
        obtain ⟨t, ht⟩ : ∃ t, Ms[i]? = some t := ⟨_, List.getElem?_eq_getElem (by omega)⟩
        obtain ⟨n1, n2, n3, dx, tt, hi, htt⟩ := (lbs i z t hz ht).same (s1.trans sm)
        have ul : us.length ≤ zs.length := by
          rw [tu.1, List.length_take]
          omega
        have zl : zs.length ≤ 16777215 := by
          have z1 := sub_le Ms S nd fun x hx => (mm x).mp hx
          have z2 : S.length = xs.length := by rw [← lo, e, List.length_map]
          omega
        refine ⟨rfl, _, rfl, z, dx, _, rfl, hi, z, dx, _, .ref tt, rfl, hi, rfl, _, hus, by rw [sizeLine_eq]; omega, fun b o q => ?_, us ++ [.ref tt], upd_same, ?_⟩
        · rw [upd_ne (ne_of_none q hD)]
          exact sm b o q
        · rw [take_snoc ht]
          exact (tu.app (Tups.one htt)).upd hus
      · rintro H2 ⟨sm, us, hus, tu⟩
        rw [List.take_of_length_le (by rw [List.length_map]; omega)] at tu
        refine ⟨by show 2 ≤ sizeLine; decide, fun q hq => ?_⟩
        have s3 : Same H (upd H2 q (.lst [.str "labels", .ref D])) := ((sm0.trans s1).trans sm).trans (same_upd hq)
        exact ⟨_, rfl, k S e Ms _ q D us s3 (((sm0.trans s1).trans sm).free hq) upd_same (by rw [upd_ne (ne_of_none hus hq)]; exact hus) (tu.same (same_upd hq)) nd mm io⟩
end
end K15
namespace K15
open PySem L2 SR TAs
/-- what is told of a value that is none -/
def Odt (K : PySem.W.Frag) (C : Addr) (H : Hp) (v : V) (t : Str) : Prop := (∃ d, Th K H v d ∧ Sho d ∧ t = d.shown) ∨ ∃ p, v = .ref p ∧ Lb C H p [] ∧ t = lshow []
theorem Odt.same {K : PySem.W.Frag} {C : Addr} {H H' : Hp} {v : V} {t : Str} (h : Odt K C H v t) (s : Same H H') : Odt K C H' v t := by
  rcases h with ⟨d, a, b, c⟩ | ⟨p, a, b, c⟩
  · exact .inl ⟨d, a.keep fun b o _ e => s _ _ e, b, c⟩
  · exact .inr ⟨p, a, b.same s, c⟩
section
variable {X : Cx} {C g : Addr} {gd : FuncData}
theorem call_reprO (gs : X.A.guards = some []) (un : X.A.units + 200 < cLine) (hs : PySem.W.findIn X.K (.ref C) "__repr__" = some (some (.ref g))) (hf : PySem.W.isFn X.K (.ref g) = true) (F : L2H.FnH X.prog X.w X.K X.mg X.base CX0 1 g gd ["self"] (spReprE C)) (hb : Binds X.K gd ["self"] []) (hr : L2H.RoomH 2 X.A) (hc : L2H.HotC X) :
    CallR X (.builtin "repr") (fun xs H Q => ∃ v t, xs = [v] ∧ Odt X.K C H v t ∧ ∀ H', Same H H' → Q (.str t) H') := by
  rintro pins s σ H xs us Q I r ⟨v, t, rfl, h, k⟩
  rcases h with ⟨d, a, b, rfl⟩ | ⟨p, rfl, b, rfl⟩
  · exact call_reprD gs un pins s σ H _ us Q I r ⟨v, d, rfl, a, b, k H (Same.refl H)⟩
  · obtain ⟨dx, fs, e⟩ := b.ins
    exact HtT.call_reprH hs hf F hb hr hc pins s σ H _ us Q I r ⟨p, dx, fs, rfl, e, p, rfl, b, fun H' sm => ⟨_, rfl, k H' sm⟩⟩
end
section
variable {P : Program} {w : World} {K : PySem.W.Frag} {mg : Str → Option Value} {base : Heap}
variable {C gE gL gS gR gH pM gM : Addr} {dE dL dS dR dH dG : FuncData}
/-! ### _law_values_told -/
def spVT (K : PySem.W.Frag) (C : Addr) : Sp := fun vs H Q _ => ∃ (a : Addr) (xs : List V), vs = [.ref a] ∧ (SqL K H a xs ∨ SqT K H a xs) ∧ xs.length ≤ 60 ∧ (∀ v ∈ xs, Cl K H v) ∧
  (∀ v, xs.find? badV = some v → ∃ t, Odt K C H v t ∧ ∀ H' q, Same H H' → H q = none → H' q = some (.lst [.str "no value", .str t]) → Q (.ref q) H') ∧
  (xs.all goodV = true → ∀ ys H' q L, VS xs ys → Same H H' → H q = none → H' q = some (.lst [.str "values", .ref L]) → H' L = some (.lst ys) → H L = none → Q (.ref q) H')
abbrev nVT : List Str := ["_law_things", "_law_told", "e"]
theorem scVT : FnScope nVT ["_law_things"] (defScope sValTold) := ⟨rfl, rfl, rfl, by decide +kernel, rfl, by decide +kernel, by decide +kernel⟩
theorem ok_valtold {CY fY' ft fO : Addr} {dY' dt dO : FuncData} (F : Fun K "_law_values_told" "_law_values_told" sValTold ft dt) (M : LabM K mg C gE gL gS gR gH pM gM dE dL dS dR dH dG) (Z : Zn mg) (T : IY K mg CY fY' dY') (xf : XfC K CY) (te : PySem.W.exmOne K (.ref CY) (.ref CY) = some true)
    (AO : At K mg "in_value_order" sVOrder ["values"] fO dO) (GO : FnOk P w K mg base (L2N.CX P w) 4 fO dO ["values"] (spVO K CY)) : FnG P w K mg base 5 ft dt ["_law_things"] (spVT K C) := by
  have GR : L2H.FnH P w K mg base CX0 1 gR dR ["self"] (spReprE C) := ok_reprH M Z
  refine okG F scVT (fun vs H Q E h => ?_) (fun cdv A outer s H vs Q E gd hr h => ?_)
  · obtain ⟨a, xs, rfl, _⟩ := h
    rfl
  · have h2 := hr.mono (j := 2) (by decide)
    have un : (A.deeper (PyProof.Rows.envOfC "_law_values_told" (defScope sValTold) s.heap.objs.size ft cdv)).units + 200 < cLine := by have := hr.un; omega
    obtain ⟨a, xs, rfl, hS, few, cls, kb, k⟩ := h
    refine ⟨_, pss_cons (ps_set (i := 1) scVT.nd rfl (Or.inl rfl) (pe_lst (pa_cons pe_str pa_nil)))
      (pss_cons (L2N.ps_try_as (i := 2) (tb := fun W => tAsg (tLst (tCons (tC (.str "values")) (tCons (tCallS (spVO K CY) (WE W) (tCons (tVar 0) tNil)) tNil))) (gName 1)) (Wout := fun _ _ _ _ => False) rfl rfl scVT.nd rfl rfl ⟨rfl, by decide, .inl T.m⟩ takesN0
        (fun W pn xe tk _ => pss_one (ps_set (i := 1) scVT.nd rfl (Or.inl rfl) (by exact (pe_lst (pa_cons pe_str (pa_cons (pe_callS GO hr rfl AO.m AO.F.kp AO.b (fun σ => L2N.passAt tk σ) (pa_cons (pv 0) pa_nil)) pa_nil))))))
        (fun a oe cls d pn hz hf => pss_one (ps_set (i := 1) scVT.nd rfl (Or.inl rfl) (pe_lst (pa_cons pe_str (pa_cons (pe_callB (show CallR ((cxOf CX0 P w K mg base nVT "_law_values_told" (defScope sValTold) ft cdv A outer s H E).nox.suite a ((a, oe) :: pn)) (.builtin "repr") (fun xs H Q => ∃ v t, xs = [v] ∧ Odt K C H v t ∧ ∀ H', Same H H' → Q (.str t) H')
          from call_reprO (by exact gd) (by exact un) M.fR M.iR GR M.bR (by exact L2H.roomH_mark h2 _) ⟨(a, oe), ⟨rfl, hf.elim fun vs hv => ⟨vs, hv, hz.2.2 vs hv⟩⟩, List.mem_cons_self⟩) (by rfl) Z.zRepr (by decide +kernel) (pa_cons (pe_xf xf T.n1 hz.zc hf (pv 2)) pa_nil)) pa_nil))))))
      (pss_one (ps_ret (pv 1)))), ?_⟩
    refine ⟨by show 1 ≤ sizeLine; decide, fun t0 ht0 => ?_⟩
    have sm0 : Same H (upd H t0 (.lst [.str "other"])) := same_upd ht0
    revert sm0
    generalize upd H t0 (.lst [.str "other"]) = H0
    intro sm0
    refine ⟨_, rfl, a, xs, rfl, hS.elim (fun q => .inl (sm0.seq q)) (fun q => .inr (seqT_same sm0 q)), few, fun v hv => (cls v hv).same fun a t _ ty => tyx_same ty sm0, fun v hv H1 d fs s1 hd hx hlk => ?_, fun good ys H1 p vs s1 hp hL => ?_⟩
    · obtain ⟨t, od, kk⟩ := kb v hv
      refine ⟨true, te, fun _ a0 _ => ?_, fun q => Bool.noConfusion q⟩
      refine ⟨_, rfl, rfl, rfl, d, fs, _, rfl, hx, hlk, ?_⟩
      refine ⟨v, t, rfl, od.same (sm0.trans s1), fun H2 s2 => ⟨by show 2 ≤ sizeLine; decide, fun q hq => ?_⟩⟩
      exact ⟨_, rfl, kk _ q (((sm0.trans s1).trans s2).trans (same_upd hq)) (((sm0.trans s1).trans s2).free hq) upd_same⟩
    · refine ⟨by show 2 ≤ sizeLine; decide, fun q hq => ?_⟩
      exact ⟨_, rfl, k good ys _ q p vs ((sm0.trans s1).trans (same_upd hq)) ((sm0.trans s1).free hq) upd_same (by rw [upd_ne (ne_of_none hL hq)]; exact hL) (sm0.free hp)⟩
end
end K15
namespace K15
open PySem L2 SR
/-! ### _law_spoilt -/
def shift (a : Nat) (p : Nat) : Nat := if a ≤ p then p + 1 else p
/-- odds put in at these spots -/
structure Put (xs os : List V) (fs : List V) (ps : List Nat) (k : Nat) : Prop where
  len : fs.length = xs.length + k
  num : ps.length = k
  here : ∀ (j p : Nat), ps[j]? = some p → ∃ v, os[j]? = some v ∧ fs[p]? = some v
  rest : ∀ (m : Nat) (u : V), m ∉ ps → fs[m]? = some u → u ∈ xs
theorem Put.all {xs os fs : List V} {ps : List Nat} {k : Nat} (h : Put xs os fs ps k) : ∀ u ∈ fs, u ∈ xs ∨ u ∈ os := fun u hu => by
  obtain ⟨m, hm, e⟩ := List.getElem_of_mem hu
  have e' : fs[m]? = some u := by rw [List.getElem?_eq_getElem hm, e]
  by_cases c : m ∈ ps
  · obtain ⟨j, hj, q⟩ := List.getElem_of_mem c
    obtain ⟨v, h1, h2⟩ := h.here j m (by rw [List.getElem?_eq_getElem hj, q])
    rw [e'] at h2
    cases h2
    exact .inr (List.mem_of_getElem? h1)
  · exact .inl (h.rest m u c e')
theorem ins_at {fs : List V} {a : Nat} (ha : a ≤ fs.length) (o : V) (m : Nat) : (fs.take a ++ [o] ++ fs.drop a)[m]? = if m < a then fs[m]? else if m = a then some o else fs[m - 1]? := by
  have lt : (fs.take a).length = a := by rw [List.length_take]; omega
  rw [List.append_assoc]
  by_cases h1 : m < a
  · rw [if_pos h1, List.getElem?_append_left (by omega), List.getElem?_take_of_lt h1]
  · rw [if_neg h1, List.getElem?_append_right (by omega), lt]
    by_cases h2 : m = a
    · rw [if_pos h2, h2, Nat.sub_self]
      rfl
    · rw [if_neg h2]
      obtain ⟨d, hd⟩ : ∃ d, m - a = d + 1 := ⟨m - a - 1, by omega⟩
      rw [hd]
      show (fs.drop a)[d]? = _
      rw [List.getElem?_drop]
      congr 1
      omega
theorem first_at {l : List Nat} {p : Nat} (h : p ∈ l) : ∃ j : Nat, l[j]? = some p ∧ ∀ (m z : Nat), m < j → l[m]? = some z → z ≠ p := by
  induction l with
  | nil => cases h
  | cons a l ih =>
    by_cases e : a = p
    · exact ⟨0, by rw [e]; rfl, fun m z hm => absurd hm (Nat.not_lt_zero _)⟩
    · rcases List.mem_cons.mp h with h | h
      · exact absurd h.symm e
      · obtain ⟨j, h1, h2⟩ := ih h
        refine ⟨j + 1, h1, fun m z hm hz => ?_⟩
        cases m with
        | zero => cases hz; exact e
        | succ m => exact h2 m z (by omega) hz
theorem Put.more {xs os fs : List V} {ps : List Nat} {k a : Nat} {o : V} (h : Put xs os fs ps k) (ha : a ≤ fs.length) (ho : os[k]? = some o) : Put xs os (fs.take a ++ [o] ++ fs.drop a) (ps.map (shift a) ++ [a]) (k + 1) := by
  refine ⟨?_, by rw [List.length_append, List.length_map, h.num]; rfl, fun j p hp => ?_, fun m u hm hu => ?_⟩
  · rw [List.length_append, List.length_append, List.length_take, List.length_drop, List.length_singleton]
    have := h.len
    omega
  · by_cases hj : j < ps.length
    · rw [List.getElem?_append_left (by rw [List.length_map]; exact hj), List.getElem?_map] at hp
      obtain ⟨q, hq, rfl⟩ := Option.map_eq_some_iff.mp hp
      obtain ⟨v, h1, h2⟩ := h.here j q hq
      refine ⟨v, h1, ?_⟩
      rw [ins_at ha]
      unfold shift
      by_cases c : a ≤ q
      · rw [if_pos c, if_neg (by omega), if_neg (by omega), show q + 1 - 1 = q by omega]
        exact h2
      · rw [if_neg c, if_pos (by omega)]
        exact h2
    · have hj2 : j = ps.length := by
        have := (List.getElem?_eq_some_iff.mp hp).1
        rw [List.length_append, List.length_map, List.length_singleton] at this
        omega
      rw [hj2, List.getElem?_append_right (by rw [List.length_map]; omega), List.length_map, Nat.sub_self] at hp
      cases hp
      refine ⟨o, by rw [hj2, h.num]; exact ho, ?_⟩
      rw [ins_at ha, if_neg (by omega), if_pos rfl]
  · have na : m ≠ a := fun e => hm (List.mem_append_right _ (by rw [e]; exact List.mem_singleton.mpr rfl))
    rw [ins_at ha] at hu
    by_cases c : m < a
    · rw [if_pos c] at hu
      refine h.rest m u (fun q => hm (List.mem_append_left _ (List.mem_map.mpr ⟨m, q, ?_⟩))) hu
      unfold shift
      rw [if_neg (by omega)]
    · rw [if_neg c, if_neg na] at hu
      refine h.rest (m - 1) u (fun q => hm (List.mem_append_left _ (List.mem_map.mpr ⟨m - 1, q, ?_⟩))) hu
      unfold shift
      rw [if_pos (by omega)]
      omega
section
variable {P : Program} {w : World} {K : PySem.W.Frag} {mg : Str → Option Value} {base : Heap}
abbrev nSp : List Str := ["_law_rng_here", "_law_things", "_law_odds", "_law_found", "_law_spots", "_law_odd", "_law_at", "_law_spot", "_law_first"]
theorem scSp : FnScope nSp ["_law_rng_here", "_law_things", "_law_odds"] (defScope sSpoilt) := ⟨rfl, rfl, rfl, by decide +kernel, rfl, by decide +kernel, by decide +kernel⟩
def spSp : Sp := fun vs H Q _ => ∃ (r a b : Addr) (xs os : List V), vs = [.ref r, .ref a, .ref b] ∧ Rg H r ∧ a ≠ r ∧ b ≠ r ∧ H a = some (.lst xs) ∧ H b = some (.lst os) ∧ xs.length ≤ 40 ∧ 1 ≤ os.length ∧ os.length ≤ 5 ∧
  ∀ H' t q ys (i : Nat) v, Kp r H H' → H q = none → q ≠ r → H' t = some (.tup [.ref q, v]) → H' q = some (.lst ys) → ys.length ≤ 45 → (∀ u ∈ ys, u ∈ xs ∨ u ∈ os) → ys[i]? = some v → v ∈ os → (∀ (j : Nat) u, j < i → ys[j]? = some u → u ∈ xs) → Q (.ref t) H'
theorem ok_spoilt {f fD : Addr} {fd dD : FuncData} (F : Fun K "_law_spoilt" "_law_spoilt" sSpoilt f fd) (B : BEnv mg) (zL : mg "list" = none) (AD : At K mg "_law_draw" sDraw ["_law_rng_here", "_law_many"] fD dD) : FnOk P w K mg base CX0 2 f fd ["_law_rng_here", "_law_things", "_law_odds"] spSp := by
  have GD : FnOk P w K mg base CX0 1 fD dD ["_law_rng_here", "_law_many"] spDraw := ok_draw AD.F B
  refine F.ok scSp (fun vs H Q E h => ?_) (fun cdv A outer_ s H vs Q E hr h => ?_)
  · obtain ⟨r, a, b, xs, os, rfl, _⟩ := h
    rfl
  · obtain ⟨r, a, b, xs, os, rfl, g, nar, nbr, ha, hb, lx, l1, l5, k⟩ := h
    refine ⟨_, pss_cons (ps_par (i := 3) (j := 4) rfl scSp.nd rfl rfl (by decide) rfl rfl (pa_cons (pe_callTy call_list_of (by rfl) zL (by decide +kernel) (pa_cons (pv 1) pa_nil)) (pa_cons (pe_lst pa_nil) pa_nil)) rfl)
      (pss_cons (ps_for PassesOwn.never rfl (pi_list (pv 2)) (pg_name (i := 5) scSp.nd rfl (Or.inl rfl))
        (pss_cons (ps_set (i := 6) scSp.nd rfl (Or.inr rfl) (pe_call GD hr (by rfl) AD.m AD.F.kp AD.b .nil pass0 (pa_cons (pv 0) (pa_cons (pe_op op_add (pe_callB call_len_seq (by rfl) B.zLen PySem.boot_len (pa_cons (pv 3) pa_nil)) pe_int) pa_nil))))
        (pss_cons (ps_set (i := 4) scSp.nd rfl (Or.inl rfl) (pe_op op_cat (pe_lc (own := [("_law_spot", 7)]) (g := gName 7) (tt := tYes) rfl scSp.nd (pi_list (pv 4)) (blkOk_by (N := nSp) (sc := defScope sSpoilt) (by decide +kernel)) (fun _ _ _ _ _ => pg_name (i := 7) scSp.nd rfl (Or.inl rfl)) (fun _ _ _ _ _ => pts_nil)
            (fun _ _ _ _ _ => pe_op op_add (pv 7) (pe_callTy call_int1 (by rfl) B.zInt (by decide +kernel) (pa_cons (pe_cmpR op_ge (pv 7) (pv 6) (nomark _)) pa_nil)))) (pe_lst (pa_cons (pv 6) pa_nil))))
        (pss_one (ps_expr (pe_bm PySem.F.plainAttrs_list PySem.F.slot_list_insert PySem.F.type_list_insert mt_insert (pv 3) (pa_cons (pv 6) (pa_cons (pv 5) pa_nil))))))))
      (pss_cons (ps_set (i := 8) scSp.nd rfl (Or.inl rfl) (pe_callB (cr_min rfl) (by rfl) B.zMin (by decide +kernel) (pa_cons (pv 4) pa_nil)))
      (pss_one (ps_ret (pe_tup (pa_cons (pv 3) (pa_cons (pe_ix ix_list (pv 2) (pe_bm PySem.F.plainAttrs_list PySem.F.slot_list_index PySem.F.type_list_index mt_index (pv 4) (pa_cons (pv 8) pa_nil)) (fun _ _ => rfl)) pa_nil))))))), ?_⟩
    have hsl : sizeLine = 16777216 := sizeLine_eq
    refine ⟨_, rfl, a, _, rfl, .inl (SqL.of ha), fun q hq => ?_⟩
    have nq : q ≠ r := g.ne hq
    have k1 : Kp r H (upd H q (.lst xs)) := (Kp.refl r H).put hq nq
    have f1 : (upd H q (.lst xs)) q = some (.lst xs) := upd_same
    revert k1 f1
    generalize upd H q (.lst xs) = H1
    intro k1 f1
    refine ⟨by show 0 ≤ sizeLine; omega, fun u hu => ?_⟩
    have nu : u ≠ r := (k1.2 g).ne hu
    have qu : q ≠ u := ne_of_none f1 hu
    have k2 : Kp r H (upd H1 u (.lst [])) := k1.trans ((Kp.refl r H1).put hu nu)
    have f2 : (upd H1 u (.lst [])) u = some (.lst ([].map fun p : Nat => V.int (p : Int))) := upd_same
    have f1' : (upd H1 u (.lst [])) q = some (.lst xs) := by rw [upd_ne qu]; exact f1
    revert k2 f2 f1'
    generalize upd H1 u (.lst []) = H2
    intro k2 f2 f1'
    refine ⟨_, _, rfl, ?_⟩
    refine ⟨_, rfl, b, rfl, ⟨_, SqL.of (k2.1 _ _ nbr hb)⟩, ?_⟩
    refine for_list (xs := os) (fun i σ H' => Kp r H H' ∧ ∃ (fs : List V) (ps : List Nat) (u : Addr) (t5 t6 : Option V), σ = [some (.ref r), some (.ref a), some (.ref b), some (.ref q), some (.ref u), t5, t6, none, none] ∧ H' q = some (.lst fs) ∧ H' u = some (.lst (ps.map fun p : Nat => V.int (p : Int))) ∧ u ≠ r ∧ q ≠ u ∧ Put xs os fs ps i)
      ⟨k2, xs, [], u, none, none, rfl, f1', f2, nu, qu, ⟨rfl, rfl, (fun j p h => by cases h), fun m u _ h => List.mem_of_getElem? h⟩⟩ (fun i σ H' _ h => SqL.of (h.1.1 _ _ nbr hb)) ?_ ?_
    · clear k1 f1 k2 f2 f1' hu nu qu
      rintro i o σ H3 ho ⟨k3, fs, ps, u, t5, t6, rfl, hf, hp, nu, qu, pt⟩
      have g3 := k3.2 g
      have io := (List.getElem?_eq_some_iff.mp ho).1
      have lf := pt.len
      refine ⟨_, rfl, _, rfl, q, _, rfl, .inl (SqL.of hf), _, _, rfl, rfl, r, fs.length + 1, rfl, g3, by omega, by omega, fun H4 n k4 hn => ?_⟩
      have hf4 := k4.1 _ _ nq hf
      have hp4 := k4.1 _ _ nu hp
      refine ⟨_, rfl, u, rfl, ⟨_, SqL.of hp4⟩, fun D hD => ?_⟩
      have g4 := k4.2 g3
      have nD : D ≠ r := g4.ne hD
      refine lc_list (xs := ps.map fun p : Nat => V.int (p : Int)) (fun j H' => Same H4 H' ∧ H' D = some (.lst (((ps.map (shift n)).take j).map fun p : Nat => V.int (p : Int)))) ⟨same_upd hD, upd_same⟩ (fun j H' _ h => SqL.of (h.1 _ _ hp4)) ?_ ?_
      · rintro j v H' hv ⟨sm, hL⟩
        rw [List.getElem?_map] at hv
        obtain ⟨p, hpj, rfl⟩ := Option.map_eq_some_iff.mp hv
        refine ⟨rfl, _, rfl, _, rfl, _, rfl, _, _, rfl, rfl, ?_⟩
        refine .inr ⟨_, rfl, _, _, rfl, rfl, _, hL, ?_, fun c z e => ?_, ?_⟩
        · rw [List.length_map, List.length_take, hsl]
          have := pt.num
          rw [List.length_map]
          omega
        · rw [upd_ne (ne_of_none e hD)]
          exact sm c z e
        · rw [upd_same, take_snoc (x := shift n p) (by rw [List.getElem?_map, hpj]; rfl), List.map_append]
          have e : (p : Int) + (if decide ((n : Int) ≤ (p : Int)) = true then 1 else 0) = ((shift n p : Nat) : Int) := by
            unfold shift
            by_cases c : n ≤ p
            · rw [if_pos (decide_eq_true (by omega)), if_pos c]
              omega
            · rw [if_neg (fun z => c (by have := of_decide_eq_true z; omega)), if_neg c]
              omega
          show some (HO.lst (_ ++ [V.int ((p : Int) + _)])) = _
          rw [e]
          rfl
      · rintro H5 ⟨sm, hL⟩
        rw [List.take_of_length_le (by rw [List.length_map, List.length_map]; exact Nat.le_refl _)] at hL
        have k5 : Kp r H3 H5 := k4.trans (Kp.of_same sm)
        have g5 := k5.2 g3
        refine ⟨_, rfl, by show 1 ≤ sizeLine; omega, fun l hl => ?_⟩
        have nl : l ≠ r := g5.ne hl
        have k6 : Kp r H3 (upd H5 l (.lst [V.int (n : Int)])) := k5.trans ((Kp.refl r H5).put hl nl)
        have f6 : (upd H5 l (.lst [V.int (n : Int)])) l = some (.lst [V.int (n : Int)]) := upd_same
        have hL6 : (upd H5 l (.lst [V.int (n : Int)])) D = some (.lst ((ps.map (shift n)).map fun p : Nat => V.int (p : Int))) := by rw [upd_ne (ne_of_none hL hl)]; exact hL
        revert k6 f6 hL6
        generalize upd H5 l (.lst [V.int (n : Int)]) = H6
        intro k6 f6 hL6
        refine ⟨D, l, _, _, rfl, rfl, hL6, f6, by rw [List.length_map, List.length_map, pt.num, hsl, List.length_singleton]; omega, fun c hc => ?_⟩
        have g6 := k6.2 g3
        have nc : c ≠ r := g6.ne hc
        have f6q := k6.1 _ _ nq hf
        have qc : q ≠ c := ne_of_none f6q hc
        have ep : ((ps.map (shift n)).map fun p : Nat => V.int (p : Int)) ++ [V.int (n : Int)] = (ps.map (shift n) ++ [n]).map fun p : Nat => V.int (p : Int) := by rw [List.map_append]; rfl
        rw [ep]
        have k7 : Kp r H3 (upd H6 c (.lst ((ps.map (shift n) ++ [n]).map fun p : Nat => V.int (p : Int)))) := k6.trans ((Kp.refl r H6).put hc nc)
        have f7 : (upd H6 c (.lst ((ps.map (shift n) ++ [n]).map fun p : Nat => V.int (p : Int)))) c = some (.lst ((ps.map (shift n) ++ [n]).map fun p : Nat => V.int (p : Int))) := upd_same
        have f7q : (upd H6 c (.lst ((ps.map (shift n) ++ [n]).map fun p : Nat => V.int (p : Int)))) q = some (.lst fs) := by rw [upd_ne qc]; exact f6q
        revert k7 f7 f7q
        generalize upd H6 c (.lst ((ps.map (shift n) ++ [n]).map fun p : Nat => V.int (p : Int))) = H7
        intro k7 f7 f7q
        refine ⟨_, rfl, .inl ⟨rfl, _, SqL.of f7q⟩, _, rfl, _, rfl, q, fs, (n : Int), o, rfl, rfl, f7q, by rw [hsl]; omega, by omega, by omega, ?_⟩
        refine ⟨⟨fun b0 o0 nb e => ?_, fun g' => ?_⟩, _, _, c, _, _, rfl, upd_same, by rw [upd_ne (Ne.symm qc)]; exact f7, nc, qc, ?_⟩
        · rw [upd_ne (ne_of_none e hq)]
          exact k7.1 _ _ nb (k3.1 _ _ nb e)
        · obtain ⟨x, y, e, z⟩ := k7.2 g3
          exact ⟨x, y, by rw [upd_ne (Ne.symm nq)]; exact e, z⟩
        · rw [Int.toNat_natCast]
          exact pt.more (by omega) ho
    · rintro σ H3 ⟨k3, fs, ps, u, t5, t6, rfl, hf, hp, nu, qu, pt⟩
      have em : (ps.map fun p : Nat => V.int (p : Int)) = (ps.map fun p : Nat => (p : Int)).map V.int := by rw [List.map_map]; rfl
      rw [em] at hp
      refine ⟨_, rfl, u, ps.map fun p : Nat => (p : Int), rfl, SqL.of hp, by rw [List.length_map, pt.num]; omega, fun m hm hle => ?_⟩
      obtain ⟨p0, hp0, rfl⟩ := List.mem_map.mp hm
      obtain ⟨j, hj, fst⟩ := first_at hp0
      obtain ⟨v, hv, hfv⟩ := pt.here j p0 hj
      refine ⟨_, rfl, _, rfl, _, rfl, .inl ⟨rfl, _, SqL.of hp⟩, _, rfl, u, _, .int (p0 : Int), j, .int (p0 : Int), rfl, rfl, SqL.of hp, rfl, ?_, ?_, ?_, fun m z hm hz => ?_, ?_⟩
      · rw [List.map_map, List.all_map]
        exact List.all_eq_true.mpr fun _ _ => rfl
      · rw [List.map_map, List.getElem?_map, hj]
        rfl
      · show eqV (.int (p0 : Int)) (.int (p0 : Int)) = true
        unfold eqV
        simp
      · rw [List.map_map, List.getElem?_map] at hz
        obtain ⟨p1, hp1, rfl⟩ := Option.map_eq_some_iff.mp hz
        have ne := fst m p1 hm hp1
        show eqV (.int (p1 : Int)) (.int (p0 : Int)) = false
        unfold eqV
        simp
        omega
      · refine ⟨b, os, _, _, rfl, rfl, SqL.of (k3.1 _ _ nbr hb), atI_nat hv, by show 2 ≤ sizeLine; omega, fun t ht => ?_⟩
        have lf := pt.len
        refine k _ t q fs p0 v (k3.trans ((Kp.refl r H3).put ht ((k3.2 g).ne ht))) hq nq upd_same (by rw [upd_ne (ne_of_none hf ht)]; exact hf) (by omega) pt.all hfv (List.mem_of_getElem? hv) fun m z hm hz => pt.rest m z (fun q => ?_) hz
        have := hle _ (List.mem_map.mpr ⟨m, q, rfl⟩)
        omega
end
end K15
namespace K15
open PySem L2 SR TAs LamX
theorem Lb.ext {C : Addr} {H H' : Hp} {a : Addr} {ys : List Str} (h : Lb C H a ys) (s : ExtN H H') : Lb C H' a ys := h.keep fun b o e c => s b o e fun ps z => by
  rcases c with ⟨xs, q⟩ | ⟨D, dx, fs, q⟩ <;> rw [q] at z <;> cases z
/-- what was tracked stands, but r, which is a stock as before, and the tables -/
def KN (r : Addr) (H H' : Hp) : Prop := (∀ b o, b ≠ r → H b = some o → (∀ ps, o ≠ .tbl ps) → H' b = some o) ∧ (Rg H r → Rg H' r)
theorem tabs_kp {T : List (Addr × Str)} {r : Addr} {H H' : Hp} (h : Tabs T H) (g : Rg H r) (k : Kp r H H') : Tabs T H' := fun p hp => by
  obtain ⟨ps, h1, h2, h3⟩ := h p hp
  obtain ⟨x, y, q, _⟩ := g
  refine ⟨ps, k.1 _ _ (fun z => by rw [z, q] at h1; cases h1) h1, h2, fun pos cv hc => ?_⟩
  obtain ⟨c, e1, e2⟩ := h3 pos cv hc
  exact ⟨c, e1, k.1 _ _ (fun z => by rw [z, q] at e2; unfold CodeO at e2; cases e2) e2⟩
theorem rg_ext {r : Addr} {H H' : Hp} (g : Rg H r) (s : ExtN H H') : Rg H' r := by
  obtain ⟨x, y, q, p⟩ := g
  exact ⟨x, y, s _ _ q (fun ps z => by cases z), p⟩
/-- the heap without the stock -/
def wo (r : Addr) (H : Hp) : Hp := fun b => if b = r then none else H b
theorem wo_at {r b : Addr} {H : Hp} {o : HO} (e : H b = some o) (n : b ≠ r) : wo r H b = some o := by
  unfold wo
  rw [if_neg n]
  exact e
theorem wo_ext {r : Addr} (H : Hp) : ExtN (wo r H) H := fun b o e _ => by
  unfold wo at e
  split at e
  · cases e
  · exact e
theorem wo_kn {r : Addr} {H H0 H' : Hp} (k : Kp r H0 H) (g : Rg H' r) (s : ExtN (wo r H) H') : KN r H0 H' :=
  ⟨fun b o n e t => s _ _ (wo_at (k.1 b o n e) n) t, fun _ => g⟩
theorem kp_ext {r : Addr} {H H1 H2 : Hp} (s : ExtN (wo r H) H1) (k : Kp r H1 H2) : ExtN (wo r H) H2 := fun b o e t => by
  have e' := e
  unfold wo at e
  split at e
  · cases e
  · next n => exact k.1 b o n (s b o e' t)
theorem Lb.wo {C : Addr} {r : Addr} {H : Hp} {a : Addr} {ys : List Str} (h : Lb C H a ys) (g : Rg H r) : Lb C (wo r H) a ys := h.keep fun b o e c => wo_at e fun z => by
  obtain ⟨x, y, q, _⟩ := g
  rw [z, q] at e
  rcases c with ⟨xs, w⟩ | ⟨D, dx, fs, w⟩ <;> rw [← Option.some.inj e] at w <;> cases w
section
variable {P : Program} {w : World} {K : PySem.W.Frag} {mg : Str → Option Value} {base : Heap}
theorem okGC {x qual : Str} {st : Stmt} {f c : Addr} {fd : FuncData} {N ps : List Str} {k : Nat} {sp : Sp} (F : L2.Fun K x qual st f fd) (hc : fd.code = .ref c) (S : FnScope N ps (defScope st)) (len : ∀ vs H Q E, sp vs H Q E → vs.length = ps.length)
    (body : ∀ (A : Around) (o_ : List Env) (s : Shared) (H : Hp) (vs : List V) (Q : VK) (E : XK), A.guards = some [] → Room k (A.deeper (PyProof.Rows.envOfC qual (defScope st) s.heap.objs.size f (.ref c))) → sp vs H Q E →
      ∃ t, PSs (cxOf CX0 P w K mg base N qual (defScope st) f (.ref c) A o_ s H E).nox (defBody st) t ∧ t { nx := fun _ H' => Q .non H', rt := Q } (start N vs) H) : FnG P w K mg base (k + 1) f fd ps sp := by
  obtain ⟨oc, od, kV, doc, pm, an, cdv, ct, osl, rfl, lk, cok⟩ := F.ex
  obtain rfl : cdv = Value.ref c := hc
  refine ⟨len, fun A o_ s H gs us vs Q E gd hr e0 hb r hsp => ?_⟩
  have up : ∀ b o, base.get? b = some o → s.heap.get? b = some o := fun b o q => (e0.bs b o q).1
  have KX : K.In s.heap := e0.mod.kin.keeps up
  have lm : s.heap.NoLimit := e0.mod.nolimit.keeps up
  have kinds : ∀ y ∈ ps.zip us, (defScope st).names.lookup y.1 = some .local ∨ ((defScope st).names.lookup y.1 = some .cell ∧ ((cellsFrom (s.heap.objs.size + 1) (defScope st).names []).lookup y.1).isSome = true) := by
    rintro ⟨n, v⟩ hy
    cases S.par n (List.of_mem_zip hy).1 with
    | inl q => exact .inl q
    | inr q => exact .inr ⟨q, PySem.W.cellsFrom_some _ _ _ (.inl q)⟩
  apply codeAny_call_function hr.depth (KX _ _ lk) rfl S.co S.gen rfl (PySem.W.codeRec_of KX cok) (hb _ _ _ _ ?_)
  apply wpAny_newFunctionEnv_cells S.kind kinds
  rintro env rfl s1 x
  refine ⟨lm.keeps x.toInCall.keep, codeAny_func ?_⟩
  obtain ⟨t, ht, hq⟩ := body A o_ s H vs Q E gd (hr.deeper _) hsp
  have I : Inv (cxOf CX0 P w K mg base N qual (defScope st) f (.ref c) A o_ s H E) [] (start N vs) H s1 := inv_start S hr.hd e0 (len _ _ _ _ hsp) r x
  apply wpAny_mono (ht.nox.run [] s1 (start N vs) H _ I hq)
  · rintro fl s2 hs
    cases fl with
    | ret u =>
      obtain ⟨v, σ2, H2, J, rv, q⟩ := hs
      exact ⟨v, H2, J.os, J.bare, J.base, J.hok, rv, q⟩
    | next =>
      obtain ⟨σ2, H2, J, q⟩ := hs
      exact ⟨V.non, H2, J.os, J.bare, J.base, J.hok, rfl, q⟩
    | brk =>
      obtain ⟨_, _, _, q⟩ := hs
      exact q.elim
    | cont =>
      obtain ⟨_, _, _, q⟩ := hs
      exact q.elim
  · exact fun e s2 z => z
end
theorem shownAll_str : ∀ ys : List Str, PyData.shownAll (ys.map PyData.str) = ys.map reprText
  | [] => rfl
  | y :: r => by
    rw [List.map_cons]
    simp only [PyData.shownAll, PyData.shown, List.map_cons, shownAll_str r]
theorem showable_str : ∀ ys : List Str, PyData.showableAll (ys.map PyData.str) = true
  | [] => rfl
  | y :: r => by
    rw [List.map_cons]
    simp only [PyData.showableAll, PyData.showable, showable_str r, Bool.and_self]
theorem depth_str : ∀ ys : List Str, PyData.depthAll (ys.map PyData.str) = 0
  | [] => by simp [PyData.depthAll]
  | y :: r => by
    rw [List.map_cons]
    simp only [PyData.depthAll, PyData.depth, depth_str r]
    rfl
theorem nodict_str : ∀ ys : List Str, PyData.hasDictAll (ys.map PyData.str) = false
  | [] => rfl
  | y :: r => by
    rw [List.map_cons]
    simp only [PyData.hasDictAll, PyData.hasDict, nodict_str r, Bool.or_self]
def tupD (t : List Str) : PyData := .tuple (t.map PyData.str)
theorem names_len {ys : List Str} (nms : ys.all isNm = true) : (tupD ys).shown.length ≤ 84 * ys.length + 3 := by
  have each : ∀ zs : List Str, (∀ y ∈ zs, isNm y = true) → ((zs.map reprText).map (·.length)).sum ≤ 82 * zs.length := fun zs => by
    induction zs with
    | nil => intro _; decide
    | cons z zs ih =>
      intro hz
      have a := repr_len8 (hz z List.mem_cons_self)
      have b := ih fun y hy => hz y (List.mem_cons_of_mem _ hy)
      rw [List.map_cons, List.map_cons, List.sum_cons, List.length_cons]
      omega
  have a := each ys fun y hy => List.all_eq_true.mp nms y hy
  have b := StrLaws.join_length_le ", " (ys.map reprText)
  have c : (", " : Str).length = 2 := by decide +kernel
  rw [c, List.length_map] at b
  simp only [tupD, PyData.shown, shownAll_str]
  unfold tupleText
  rw [strLen_append, strLen_append]
  have e1 : ("(" : Str).length = 1 := by decide +kernel
  have e2 : (Str.ofString (if (ys.map reprText).length == 1 then ",)" else ")")).length ≤ 2 := by split <;> decide +kernel
  rw [e1]
  omega
theorem list_len (ds : List PyData) : (PyData.list ds).shown.length ≤ 2 + ((PyData.shownAll ds).map (·.length)).sum + 2 * (PyData.shownAll ds).length := by
  simp only [PyData.shown]
  unfold listText
  rw [strLen_append]
  have b := textFrom_len_le (PyData.shownAll ds) 0 (Str.ofString "[")
  have e1 : (Str.ofString "[").length = 1 := by decide +kernel
  have e2 : (Str.ofString "]").length = 1 := by decide +kernel
  rw [e1] at b
  rw [e2]
  omega
theorem can_tups : ∀ S : List (List Str), (∀ t ∈ S, t.all isNm = true) → PyData.canLayAll0 (S.map tupD) = true ∧ PyData.depthAll (S.map tupD) ≤ 1
  | [], _ => ⟨rfl, by decide⟩
  | t :: S, h => by
    obtain ⟨h1, h2⟩ := can_tups S fun u hu => h u (List.mem_cons_of_mem _ hu)
    have nt := h t List.mem_cons_self
    obtain ⟨c1, c2⟩ := canT t fun x hx => nm_ok (List.all_eq_true.mp nt x hx)
    have e1 : PyData.canLay0 (tupD t) = true := by rw [tupD, PyData.canLay0]; exact c1
    have e2 : PyData.depth (tupD t) = 1 := by rw [tupD, PyData.depth, c2]
    refine ⟨?_, ?_⟩
    · rw [List.map_cons, PyData.canLayAll0, e1, h1] <;> rfl
    · rw [List.map_cons, PyData.depthAll, e2]
      omega
theorem sh_tups {S : List (List Str)} (h : ∀ t ∈ S, t.all isNm = true) : SeqAt.shaped (.list (S.map tupD)) = true ∧ PyData.eqv (.list (S.map tupD)) (.list (S.map tupD)) = true := by
  obtain ⟨h1, h2⟩ := can_tups S h
  have e1 : PyData.canLay0 (.list (S.map tupD)) = true := by rw [PyData.canLay0]; exact h1
  have e2 : PyData.depth (.list (S.map tupD)) ≤ 2 := by rw [PyData.depth]; omega
  refine ⟨?_, PySem.SeqAt.eqv_refl _ e1⟩
  unfold SeqAt.shaped
  rw [e1, decide_eq_true (by omega)] <;> rfl
theorem dp_tups {K : PySem.W.Frag} {H : Hp} : ∀ {vs : List V} {S : List (List Str)}, (∀ (j : Nat) (zs : List Str), S[j]? = some zs → ∃ p, vs[j]? = some (.ref p) ∧ H p = some (.tup (zs.map V.str))) → vs.length = S.length → DpAll K H vs (S.map tupD)
  | [], [], _, _ => .nil
  | [], _ :: _, _, l => by cases l
  | _ :: _, [], _, l => by cases l
  | v :: vs, t :: S, h, l => by
    obtain ⟨p, e, hp⟩ := h 0 t rfl
    cases e
    exact .cons (.tup (SqT.of hp) (dpT t)) (dp_tups (fun j zs e => h (j + 1) zs e) (Nat.succ.inj l))
section
variable {X : Cx}
/-- repr of lists in lists -/
theorem call_reprN (gd : X.A.guards = some []) (un : X.A.units + 200 < cLine) : CallR X (.builtin "repr") (fun xs H Q => ∃ v d, xs = [v] ∧ Dp X.K H v d ∧ PyData.hasDict d = false ∧ Sho d ∧ Q (.str d.shown) H) := by
  rintro pins s σ H xs us Q I r ⟨v, d, rfl, th, nd, sh, q⟩
  have s1 := sh.1
  have s2 := sh.fits
  have s3 := sh.2.2
  obtain ⟨u, rfl, ru⟩ := vals1 r
  obtain ⟨as, rd⟩ := Dp.reads I _ _ _ th ru
  have hm : d.hasDict = true → sysModules ∉ as := fun z => by rw [nd] at z; cases z
  cases rd with
  | none => exact PySem.P.repr_of_none ⟨.str _, H, I.tok _, ⟨_, rfl⟩, by simpa only [PyData.shown] using q⟩
  | bool b =>
    refine PySem.P.repr_of_bool ⟨.str _, H, I.tok _, ⟨_, rfl⟩, ?_⟩
    simp only [PyData.shown] at q
    cases b <;> exact q
  | int i t =>
    simp only [PyData.shown] at q
    exact PySem.P.repr_of_int (by simpa [PyData.showable] using s1) ⟨.str _, H, I.tok _, ⟨_, rfl⟩, q⟩
  | str x t =>
    simp only [PyData.shown] at q s2
    exact PySem.P.repr_of_str ⟨.str _, H, I.tok _, ⟨_, rfl⟩, q⟩ s2
  | list a b c e => exact repr_of_reads' (Reads.list a b c e) s1 hm gd (by omega) (fun _ _ z => z) (fun h' u tk k => ⟨.str _, H, I.kept k, ⟨_, rfl⟩, q⟩) s2
  | tuple a b c e => exact repr_of_reads' (Reads.tuple a b c e) s1 hm gd (by omega) (fun _ _ z => z) (fun h' u tk k => ⟨.str _, H, I.kept k, ⟨_, rfl⟩, q⟩) s2
  | dict a b c e g => cases nd
end
end K15
namespace K15
open PySem L2 SR TAs LamX
/-! ### what stays on the way -/
theorem bt_keep {K : PySem.W.Frag} {H H' : Hp} {v : V} {T : String} (h : EqO.BtV K H v T) (s : ∀ a o, v = .ref a → H a = some o → (∀ ps, o ≠ .tbl ps) → H' a = some o) : EqO.BtV K H' v T := by
  cases h with
  | non => exact .non
  | bl b => exact .bl b
  | int i => exact .int i
  | str x => exact .str x
  | lst e => exact .lst (s _ _ rfl e fun ps z => by cases z)
  | tup e => exact .tup (s _ _ rfl e fun ps z => by cases z)
  | dic e => exact .dic (s _ _ rfl e fun ps z => by cases z)
  | kTup e c => exact .kTup e c
theorem th_keep {K : PySem.W.Frag} {H H' : Hp} {v : V} {d : PyData} (h : Th K H v d) (s : ∀ a o, v = .ref a → H a = some o → (∀ ps, o ≠ .tbl ps) → H' a = some o) : Th K H' v d := by
  cases h with
  | non => exact .non
  | bl b => exact .bl b
  | int i => exact .int i
  | str x => exact .str x
  | lst e a n => exact .lst (s _ _ rfl e fun ps z => by cases z) a n
  | tup e a n => exact .tup (s _ _ rfl e fun ps z => by cases z) a n
  | d0 e => exact .d0 (s _ _ rfl e fun ps z => by cases z)
  | d1 e => exact .d1 (s _ _ rfl e fun ps z => by cases z)
theorem tabs_upd {T : List (Addr × Str)} {H : Hp} {q : Addr} {l : List V} {o : HO} (h : Tabs T H) (e : H q = some (.lst l)) : Tabs T (upd H q o) := fun p hp => by
  obtain ⟨ps, h1, h2, h3⟩ := h p hp
  refine ⟨ps, by rw [upd_ne (fun z => by rw [z, e] at h1; cases h1)]; exact h1, h2, fun pos cv hc => ?_⟩
  obtain ⟨c, e1, e2⟩ := h3 pos cv hc
  exact ⟨c, e1, by rw [upd_ne (fun z => by rw [z, e] at e2; unfold CodeO at e2; cases e2)]; exact e2⟩
theorem KN.trans {r : Addr} {H H1 H2 : Hp} (a : KN r H H1) (b : KN r H1 H2) : KN r H H2 := ⟨fun c o h e t => b.1 c o h (a.1 c o h e t) t, fun h => b.2 (a.2 h)⟩
/-- from H0 on to H -/
structure On (T : List (Addr × Str)) (r : Addr) (H0 H : Hp) : Prop where
  kn : KN r H0 H
  rg0 : Rg H0 r
  rg : Rg H r
  tb : Tabs T H
section
variable {T : List (Addr × Str)} {r : Addr} {H0 H H' : Hp}
theorem Rg.lst (g : Rg H r) {a : Addr} {o : HO} (e : H a = some o) (n : ∀ l, o ≠ .lst l) : a ≠ r := fun z => by
  obtain ⟨x, y, q, _⟩ := g
  rw [z, q] at e
  exact n _ (Option.some.inj e).symm
theorem On.refl (g : Rg H r) (t : Tabs T H) : On T r H H := ⟨⟨fun _ _ _ e _ => e, id⟩, g, g, t⟩
theorem On.trans {H2 : Hp} (a : On T r H0 H) (b : On T r H H2) : On T r H0 H2 := ⟨a.kn.trans b.kn, a.rg0, b.rg, b.tb⟩
theorem On.kp (o : On T r H0 H) (k : Kp r H H') : On T r H0 H' := ⟨⟨fun b x n e t => k.1 b x n (o.kn.1 b x n e t), fun h => k.2 (o.kn.2 h)⟩, o.rg0, k.2 o.rg, tabs_kp o.tb o.rg k⟩
theorem On.ext (o : On T r H0 H) (s : ExtN H H') (t : Tabs T H') : On T r H0 H' := ⟨⟨fun b x n e y => s b x (o.kn.1 b x n e y) y, fun h => rg_ext (o.kn.2 h) s⟩, o.rg0, rg_ext o.rg s, t⟩
theorem tabs_same (t : Tabs T H) (s : Same H H') : Tabs T H' := fun p hp => (t p hp).ext s
theorem On.same (o : On T r H0 H) (s : Same H H') : On T r H0 H' := o.ext (ExtN.of s) (tabs_same o.tb s)
theorem On.put {p : Addr} {x : HO} (o : On T r H0 H) (h : H p = none) : On T r H0 (upd H p x) := o.same (same_upd h)
/-- a list made since is changed -/
theorem On.upd {p : Addr} {x : HO} {l : List V} (o : On T r H0 H) (n : H0 p = none) (e : H p = some (.lst l)) : On T r H0 (upd H p x) := by
  have nr : r ≠ p := fun z => by
    obtain ⟨_, _, q, _⟩ := o.rg0
    rw [z, n] at q
    cases q
  refine ⟨⟨fun b y h q t => ?_, fun h => ?_⟩, o.rg0, ?_, tabs_upd o.tb e⟩
  · rw [upd_ne (fun z => by rw [z, n] at q; cases q)]
    exact o.kn.1 b y h q t
  · obtain ⟨a, b, q, w⟩ := o.kn.2 h
    exact ⟨a, b, by rw [upd_ne nr]; exact q, w⟩
  · obtain ⟨a, b, q, w⟩ := o.rg
    exact ⟨a, b, by rw [upd_ne nr]; exact q, w⟩
theorem On.lst (o : On T r H0 H) {a : Addr} {l : List V} (e : H0 a = some (.lst l)) (n : a ≠ r) : H a = some (.lst l) := o.kn.1 _ _ n e fun ps z => by cases z
theorem On.tup (o : On T r H0 H) {a : Addr} {l : List V} (e : H0 a = some (.tup l)) : H a = some (.tup l) := o.kn.1 _ _ (o.rg0.lst e fun l z => by cases z) e fun ps z => by cases z
theorem On.free (o : On T r H0 H) {a : Addr} (e : H a = none) (n : ∀ ps, H0 a ≠ some (.tbl ps)) : H0 a = none := by
  cases q : H0 a with
  | none => rfl
  | some x =>
    by_cases z : a = r
    · obtain ⟨_, _, w, _⟩ := o.rg
      rw [z, w] at e
      cases e
    · rw [o.kn.1 a x z q fun ps y => n ps (by rw [q, y])] at e
      cases e
theorem On.lab (o : On T r H0 H) {C a : Addr} {ys : List Str} (h : Lb C H0 a ys) : Lb C H a ys := h.keep fun b x e c => o.kn.1 b x (o.rg0.lst e fun l z => by rcases c with ⟨xs, w⟩ | ⟨D, dx, fs, w⟩ <;> rw [w] at z <;> cases z) e fun ps z => by rcases c with ⟨xs, w⟩ | ⟨D, dx, fs, w⟩ <;> rw [w] at z <;> cases z
theorem On.nol {K : PySem.W.Frag} (o : On T r H0 H) {v : V} (h : NoL K r H0 v) : NoL K r H v := by
  obtain ⟨n, ⟨t, b⟩, d, th, sh⟩ := h
  exact ⟨n, ⟨t, bt_keep b fun a x e q w => o.kn.1 a x (fun z => n (by rw [e, z])) q w⟩, d, th_keep th fun a x e q w => o.kn.1 a x (fun z => n (by rw [e, z])) q w, sh⟩
theorem On.tups (o : On T r H0 H) {vs : List V} {S : List (List Str)} (h : Tups H0 vs S) : Tups H vs S := ⟨h.1, fun j zs e => let ⟨p, a, b⟩ := h.2 j zs e; ⟨p, a, o.tup b⟩⟩
end
/-! ### the marks of a label, in order -/
noncomputable def can (ts : List Tx) : List Str := Classical.choose (SR.there (ts.map txt))
theorem can_srt (ts : List Tx) : Srt (ts.map txt) (can ts) := Classical.choose_spec (SR.there (ts.map txt))
theorem nd_txt {ts : List Tx} (nd : ts.Nodup) : (ts.map txt).Nodup := by
  refine List.Pairwise.map _ (fun a b h z => h (txt_inj z)) nd
theorem can_eq {ts : List Tx} {ys : List Str} (nd : ts.Nodup) (p : ys.Perm (ts.map txt)) (s : PyProof.Rows.sortedS ys = true) : ys = can ts :=
  SR.unique ⟨p.nodup_iff.mpr (nd_txt nd), s, fun y => p.mem_iff⟩ (can_srt ts)
theorem can_nm {ts : List Tx} (nm : ∀ t ∈ ts, nmC t = true) : (can ts).all isNm = true := List.all_eq_true.mpr fun y hy => by
  obtain ⟨t, ht, rfl⟩ := List.mem_map.mp (((can_srt ts).2.2 y).mp hy)
  exact nm t ht
theorem can_len (ts : List Tx) : (can ts).length ≤ ts.length := by
  have := SR.len_le (can_srt ts)
  rwa [List.length_map] at this
theorem rd_lcode {ts : List Tx} (nm : ∀ t ∈ ts, nmC t = true) (l4 : ts.length ≤ 4) (s : Srt (ts.map txt) (ts.map txt)) : rdM (lcode ts) = some (ts.map txt) := by
  cases ts with
  | nil =>
    unfold rdM lcode
    rw [if_pos rfl, if_pos rfl]
    rfl
  | cons p r =>
    have e : lcode (p :: r) = SP.joinC 43 (p :: r) := if_neg (by simp)
    have sp : piecesC (SP.joinC 43 (p :: r)) = p :: r := SP.split_join 43 (p :: r) (by simp) fun t ht => nm_no (nm t ht)
    have nd : SP.joinC 43 (p :: r) ≠ [45] := fun z => by
      rw [z] at sp
      have q2 : piecesC [45] = [[45]] := by decide
      rw [q2] at sp
      have := nm [45] (by rw [← sp]; exact List.mem_singleton.mpr rfl)
      exact absurd this (by decide)
    rw [e]
    unfold rdM
    rw [if_neg nd, sp, if_neg (by omega), if_pos (List.all_eq_true.mpr nm), if_pos ⟨s.1, s.2.1⟩]
theorem join_lcode {ts : List Tx} (ne : ts ≠ []) : Txt.join plus (ts.map txt) = txt (lcode ts) := by
  unfold lcode
  rw [if_neg ne, join_is, join_joinC]
theorem sum_nm : ∀ ys : List Str, ys.all isNm = true → (ys.map (·.length)).sum ≤ 8 * ys.length
  | [], _ => by decide
  | y :: r, h => by
    rw [List.all_cons, Bool.and_eq_true] at h
    have a := isNm_str h.1
    have b := sum_nm r h.2
    rw [List.map_cons, List.sum_cons, List.length_cons]
    omega
/-- the text of marks, as it is joined -/
theorem made_text {ts : List Tx} (nm : ∀ t ∈ ts, nmC t = true) (l4 : ts.length ≤ 4) : ∃ l : Tx, (ts = [] → txt [45] = txt l) ∧ (ts ≠ [] → Txt.join plus (can ts) = txt l) ∧ l.length ≤ 4000 ∧ rdM l = some (can ts) := by
  obtain ⟨us, e⟩ := tx_of (can ts)
  have n1 := can_nm nm
  rw [e, nms_is] at n1
  have m1 : ∀ t ∈ us, nmC t = true := fun t ht => List.all_eq_true.mp n1 t ht
  have s1 : Srt (us.map txt) (us.map txt) := by
    have := SR.self (can_srt ts)
    rwa [e] at this
  have l1 : us.length ≤ 4 := by
    have := can_len ts
    rw [e, List.length_map] at this
    omega
  refine ⟨lcode us, fun z => ?_, fun z => ?_, ?_, by rw [e]; exact rd_lcode m1 l1 s1⟩
  · have : us = [] := by
      have := can_len ts
      rw [e, List.length_map, z] at this
      exact List.length_eq_zero_iff.mp (by simpa using this)
    rw [this]
    rfl
  · have : us ≠ [] := fun w => by
      cases ts with
      | nil => exact z rfl
      | cons t r =>
        have := ((can_srt (t :: r)).2.2 (txt t)).mpr List.mem_cons_self
        rw [e, w] at this
        cases this
    rw [e, join_lcode this]
  · by_cases z : us = []
    · rw [z]
      decide
    · have a : (txt (lcode us)).length ≤ 4000 := by
        rw [← join_lcode z, join_is]
        have a := StrLaws.join_length_le plus (us.map txt)
        have b := sum_nm (us.map txt) (by rw [nms_is]; exact n1)
        rw [List.length_map] at a b
        have c : plus.length = 1 := by decide +kernel
        rw [c] at a
        omega
      rwa [txt_len] at a
open Classical in
/-- the keys of a dict, in the sequence in which they came first -/
theorem mergeT_keys : ∀ (more : List (List Key × V)) (kvs : List (List Key × V)), (kvs.map (·.1)).Nodup → ((DcT.mergeT kvs more).map (·.1)).Nodup ∧ ∀ t, t ∈ (DcT.mergeT kvs more).map (·.1) ↔ t ∈ kvs.map (·.1) ∨ t ∈ more.map (·.1)
  | [], kvs, nd => ⟨nd, fun t => ⟨.inl, fun h => h.elim id fun z => nomatch z⟩⟩
  | p :: r, kvs, nd => by
    have e : (putK kvs p.1 p.2).map (·.1) = if p.1 ∈ kvs.map (·.1) then kvs.map (·.1) else kvs.map (·.1) ++ [p.1] := by
      have z : ((kvs.any fun kv => decide (kv.1 = p.1)) = true) ↔ p.1 ∈ kvs.map (·.1) := by
        rw [List.any_eq_true, List.mem_map]
        exact ⟨fun ⟨x, h1, h2⟩ => ⟨x, h1, of_decide_eq_true h2⟩, fun ⟨x, h1, h2⟩ => ⟨x, h1, decide_eq_true h2⟩⟩
      unfold putK
      by_cases c : p.1 ∈ kvs.map (·.1)
      · rw [if_pos (z.mpr c), if_pos c, List.map_map]
        refine List.map_congr_left fun x _ => ?_
        show (if x.1 = p.1 then (x.1, p.2) else x).1 = x.1
        by_cases q : x.1 = p.1
        · rw [if_pos q]
        · rw [if_neg q]
      · rw [if_neg fun h => c (z.mp h), if_neg c, List.map_append]
        rfl
    have nd' : ((putK kvs p.1 p.2).map (·.1)).Nodup := by
      rw [e]
      split
      · exact nd
      · rename_i c
        exact List.nodup_append.mpr ⟨nd, List.nodup_cons.mpr ⟨List.not_mem_nil, .nil⟩, fun a ha b hb q => c (by rw [List.mem_singleton.mp hb] at q; exact q ▸ ha)⟩
    obtain ⟨h1, h2⟩ := mergeT_keys r (putK kvs p.1 p.2) nd'
    refine ⟨h1, fun t => (h2 t).trans ?_⟩
    rw [e, List.map_cons, List.mem_cons]
    split
    · rename_i c
      exact ⟨fun h => h.imp id .inr, fun h => h.elim .inl fun h => h.elim (fun q => .inl (q ▸ c)) .inr⟩
    · rw [List.mem_append, List.mem_singleton, or_assoc]
theorem paired_of {α β : Type} {R : α → β → Prop} : ∀ {xs : List α} {ys : List β}, xs.length = ys.length → (∀ (j : Nat) (a : α) (b : β), xs[j]? = some a → ys[j]? = some b → R a b) → Paired R xs ys
  | [], [], _, _ => .nil
  | [], _ :: _, l, _ => by cases l
  | _ :: _, [], l, _ => by cases l
  | a :: xs, b :: ys, l, h => .cons (h 0 a b rfl rfl) (paired_of (Nat.succ.inj l) fun j x y e1 e2 => h (j + 1) x y e1 e2)
theorem inr_inj {t u : List Str} (e : t.map (Sum.inr : Str → Key) = u.map Sum.inr) : t = u := (List.map_inj_right (fun a b h => Sum.inr.inj h)).mp e
/-- the keys of the dict of tuples -/
theorem merged {α : Type} (f : α → List Str) (L : List α) : ∃ S : List (List Str), (DcT.mergeT [] (L.map fun e => ((f e).map (Sum.inr : Str → Key), V.bl true))).map (·.1) = S.map (fun t => t.map Sum.inr) ∧ S.Nodup ∧ ∀ t, t ∈ S ↔ ∃ e ∈ L, t = f e := by
  obtain ⟨nd, mm⟩ := mergeT_keys (L.map fun e => ((f e).map (Sum.inr : Str → Key), V.bl true)) [] .nil
  revert nd mm
  generalize (DcT.mergeT [] (L.map fun e => ((f e).map (Sum.inr : Str → Key), V.bl true))).map (·.1) = ks
  intro nd mm
  have mm : ∀ t, t ∈ ks ↔ ∃ e ∈ L, t = (f e).map Sum.inr := fun t => by
    rw [mm t, List.map_nil, List.map_map]
    refine ⟨fun h => ?_, fun ⟨e, he, q⟩ => .inr (List.mem_map.mpr ⟨e, he, q.symm⟩)⟩
    rcases h with h | h
    · cases h
    · obtain ⟨e, he, q⟩ := List.mem_map.mp h
      exact ⟨e, he, q.symm⟩
  have ex : ∀ ks : List (List Key), (∀ k ∈ ks, ∃ t : List Str, k = t.map Sum.inr) → ∃ S : List (List Str), ks = S.map fun t => t.map Sum.inr := fun ks => by
    induction ks with
    | nil => intro _; exact ⟨[], rfl⟩
    | cons k ks ih =>
      intro h
      obtain ⟨t, rfl⟩ := h k List.mem_cons_self
      obtain ⟨S, rfl⟩ := ih fun x hx => h x (List.mem_cons_of_mem _ hx)
      exact ⟨t :: S, rfl⟩
  obtain ⟨S, rfl⟩ := ex ks fun k hk => let ⟨e, _, q⟩ := (mm k).mp hk; ⟨f e, q⟩
  refine ⟨S, rfl, List.Pairwise.imp (fun h e => h (by rw [e])) (List.pairwise_map.mp nd), fun t => ⟨fun h => ?_, fun ⟨e, he, q⟩ => ?_⟩⟩
  · obtain ⟨e, he, q⟩ := (mm _).mp (List.mem_map.mpr ⟨t, h, rfl⟩)
    exact ⟨e, he, inr_inj q⟩
  · obtain ⟨u, hu, w⟩ := List.mem_map.mp ((mm _).mpr ⟨e, he, rfl⟩)
    rw [q, ← inr_inj w]
    exact hu
theorem keys_tups {H : Hp} {kvs : List (List Key × V)} {bs : List Addr} {S : List (List Str)} (h : IsKeys H kvs bs) (e : kvs.map (·.1) = S.map fun t => t.map Sum.inr) : Tups H (bs.map V.ref) S := by
  have l1 := paired_len h
  have l2 : kvs.length = S.length := by
    have := congrArg List.length e
    rwa [List.length_map, List.length_map] at this
  refine ⟨by rw [List.length_map]; omega, fun j zs q => ?_⟩
  have hj := (List.getElem?_eq_some_iff.mp q).1
  obtain ⟨p, hp⟩ : ∃ p, kvs[j]? = some p := ⟨_, List.getElem?_eq_getElem (by omega)⟩
  obtain ⟨b, hb⟩ : ∃ b, bs[j]? = some b := ⟨_, List.getElem?_eq_getElem (by omega)⟩
  have t := paired_at h j p b hp hb
  have w : p.1 = zs.map Sum.inr := by
    have := congrArg (·[j]?) e
    simp only [List.getElem?_map, hp, q, Option.map_some] at this
    exact Option.some.inj this
  refine ⟨b, by rw [List.getElem?_map, hb]; rfl, ?_⟩
  rw [w, List.map_map] at t
  exact t
theorem strs_shaped {zs : List Str} (h : ∀ x ∈ zs, PyData.strOk x = true) : SeqAt.shaped (.list (zs.map PyData.str)) = true := by
  obtain ⟨a, b⟩ := canT zs h
  have e1 : PyData.canLay0 (.list (zs.map PyData.str)) = true := by rw [PyData.canLay0]; exact a
  have e2 : PyData.depth (.list (zs.map PyData.str)) ≤ 64 := by rw [PyData.depth, b]; decide
  unfold SeqAt.shaped
  rw [e1, decide_eq_true e2] <;> rfl
theorem eqv_nil : ∀ zs : List Str, PyData.eqv (.list (zs.map PyData.str)) (.list []) = decide (zs = [])
  | [] => rfl
  | x :: r => by
    rw [decide_eq_false (by simp)]
    rfl
end K15
namespace K15
open PySem L2 SR TAs LamX
theorem t1_sp {sp : Sp} {v : V} {σ : L2.St} {H : Hp} {Q : VK} {E : XK} (h : sp [v] H Q E) : tNil σ H fun xs H2 => sp ((v :: xs) ++ []) H2 Q E := h
/-- a round that is right -/
def spLR (T : List (Addr × Str)) : Sp := fun vs H Q _ => ∃ r : Addr, vs = [.ref r] ∧ Rg H r ∧ Tabs T H ∧ ∀ H', KN r H H' → Tabs T H' → Q (.bl true) H'
/-- a list or a tuple of labels -/
def LbsAt (C : Addr) (H : Hp) (gv : Addr) (ms : List Addr) (S : List (List Str)) : Prop := (H gv = some (.lst (ms.map V.ref)) ∨ H gv = some (.tup (ms.map V.ref))) ∧ ms.length = S.length ∧ ∀ (j : Nat) m t, ms[j]? = some m → S[j]? = some t → Lb C H m t
theorem LbsAt.on {C : Addr} {T : List (Addr × Str)} {r : Addr} {H H' : Hp} {gv : Addr} {ms : List Addr} {S : List (List Str)} (h : LbsAt C H gv ms S) (o : On T r H H') (n : gv ≠ r) : LbsAt C H' gv ms S := ⟨h.1.elim (fun e => .inl (o.lst e n)) fun e => .inr (o.tup e), h.2.1, fun j m t e1 e2 => o.lab (h.2.2 j m t e1 e2)⟩
theorem LbsAt.seq {K : PySem.W.Frag} {C : Addr} {H : Hp} {gv : Addr} {ms : List Addr} {S : List (List Str)} (h : LbsAt C H gv ms S) : SqL K H gv (ms.map V.ref) ∨ SqT K H gv (ms.map V.ref) := h.1.elim (fun e => .inl (SqL.of e)) fun e => .inr (SqT.of e)
theorem LbsAt.its {K : PySem.W.Frag} {C : Addr} {H : Hp} {gv : Addr} {ms : List Addr} {S : List (List Str)} (h : LbsAt C H gv ms S) (i : Nat) (v : V) (o : Option (List Str)) (e1 : (ms.map V.ref)[i]? = some v) (e2 : (S.map some)[i]? = some o) : It K C H v o := by
  rw [List.getElem?_map] at e1 e2
  obtain ⟨m, hm, rfl⟩ := Option.map_eq_some_iff.mp e1
  obtain ⟨t, ht, rfl⟩ := Option.map_eq_some_iff.mp e2
  exact .lab (h.2.2 i m t hm ht)
theorem LbsAt.sw {K : PySem.W.Frag} {C : Addr} {H : Hp} {gv : Addr} {ms : List Addr} {S : List (List Str)} (h : LbsAt C H gv ms S) : Paired (Sw K C H) (ms.map V.ref) (S.map lshow) := paired_of (by rw [List.length_map, List.length_map, h.2.1]) fun j a b e1 e2 => by
  rw [List.getElem?_map] at e1 e2
  obtain ⟨m, hm, rfl⟩ := Option.map_eq_some_iff.mp e1
  obtain ⟨t, ht, rfl⟩ := Option.map_eq_some_iff.mp e2
  exact .lab (h.2.2 j m t hm ht)
theorem some_map {S T : List (List Str)} (e : S.map some = T.map some) : S = T := (List.map_inj_right (fun a b h => Option.some.inj h)).mp e
theorem no_none {S : List (List Str)} {i : Nat} (e : (S.map some)[i]? = some none) : False := by
  rw [List.getElem?_map] at e
  obtain ⟨t, _, q⟩ := Option.map_eq_some_iff.mp e
  cases q
theorem lt_of {K : PySem.W.Frag} {C : Addr} {H : Hp} {gv : Addr} {ms : List Addr} {S Ms : List (List Str)} {Q : VK} {E : XK} (h : LbsAt C H gv ms S) (l : S.length ≤ 12) (nd : Ms.Nodup) (mm : ∀ t, t ∈ Ms ↔ t ∈ S) (io : InOrd Ms)
    (k : ∀ H' q Lq us, Same H H' → H q = none → H' q = some (.lst [.str "labels", .ref Lq]) → H' Lq = some (.lst us) → Tups H' us Ms → Q (.ref q) H') : spLT K C [.ref gv] H Q E := by
  refine ⟨gv, ms.map V.ref, S.map some, rfl, h.seq, by rw [List.length_map, h.2.1]; omega, by rw [List.length_map, List.length_map, h.2.1], h.its, fun i v _ e _ => (no_none e).elim, fun S' e M' H' q Lq us s hq h1 h2 t nd' mm' io' => ?_⟩
  obtain rfl := some_map e
  obtain rfl := ord_eq ((List.perm_ext_iff_of_nodup nd' nd).mpr fun t => (mm' t).trans (mm t).symm) io' io
  exact k H' q Lq us s hq h1 h2 t
theorem io_of {K : PySem.W.Frag} {C CL : Addr} {H : Hp} {gv : Addr} {ms : List Addr} {S : List (List Str)} {Q : VK} {E : XK} (h : LbsAt C H gv ms S) (l : S.length ≤ 12)
    (k : ∀ H' p (zs : List Addr), Same H H' → H p = none → H' p = some (.lst (zs.map V.ref)) → zs.length ≤ 12 → Q (.ref p) H') : spIO K C CL [.ref gv] H Q E := by
  refine ⟨gv, ms.map V.ref, S.map some, rfl, h.seq, by rw [List.length_map, h.2.1]; omega, by rw [List.length_map, List.length_map, h.2.1], h.its, fun i v _ e _ => (no_none e).elim, fun S' e zs M' H' p s hp h1 lz lbs nd' mm' io' => ?_⟩
  obtain rfl := some_map e
  have := sub_le M' S nd' fun x hx => (mm' x).mp hx
  exact k H' p zs s hp h1 (by omega)
theorem Tups.ner {H : Hp} {us : List V} {Ms : List (List Str)} {r Lq : Addr} (t : Tups H us Ms) (g : Rg H r) (e : H Lq = some (.lst us)) : Lq ≠ r := fun z => by
  obtain ⟨x, y, q, _⟩ := g
  rw [z, q] at e
  have e' : us = [V.int x, V.int y] := (HO.lst.inj (Option.some.inj e)).symm
  obtain ⟨m, hm⟩ : ∃ m, Ms[0]? = some m := ⟨_, List.getElem?_eq_getElem (by rw [← t.1, e']; exact Nat.zero_lt_succ _)⟩
  obtain ⟨p, hp, _⟩ := t.2 0 m hm
  rw [e'] at hp
  cases hp
/-- what is told of labels -/
def toldD (Ms : List (List Str)) : PyData := .list [.str "labels", .list (Ms.map tupD)]
theorem told_dp {K : PySem.W.Frag} {H : Hp} {q Lq : Addr} {us : List V} {Ms : List (List Str)} (h1 : H q = some (.lst [.str "labels", .ref Lq])) (h2 : H Lq = some (.lst us)) (t : Tups H us Ms) : Dp K H (.ref q) (toldD Ms) :=
  .lst (SqL.of h1) (.cons (.str _) (.cons (.lst (SqL.of h2) (dp_tups t.2 t.1)) .nil))
theorem told_sh {Ms : List (List Str)} (h : ∀ t ∈ Ms, t.all isNm = true) : SeqAt.shaped (toldD Ms) = true ∧ PyData.eqv (toldD Ms) (toldD Ms) = true := by
  obtain ⟨h1, h2⟩ := can_tups Ms h
  have e0 : PyData.canLay0 (.str "labels") = true := by rw [PyData.canLay0]; decide +kernel
  have e1 : PyData.canLay0 (toldD Ms) = true := by
    unfold toldD
    rw [PyData.canLay0, PyData.canLayAll0, e0, PyData.canLayAll0, PyData.canLay0, h1, PyData.canLayAll0] <;> rfl
  have e2 : PyData.depth (toldD Ms) ≤ 64 := by
    unfold toldD
    rw [PyData.depth, PyData.depthAll, PyData.depth, PyData.depthAll, PyData.depth, PyData.depthAll]
    omega
  refine ⟨?_, PySem.SeqAt.eqv_refl _ e1⟩
  unfold SeqAt.shaped
  rw [e1, decide_eq_true e2] <;> rfl
theorem NoL.upd {K : PySem.W.Frag} {r b : Addr} {H : Hp} {v : V} {o : HO} (h : NoL K r H v) (n : v ≠ .ref b) : NoL K r (upd H b o) v := by
  obtain ⟨a, ⟨t, bt⟩, d, th, sh⟩ := h
  have z : ∀ (a : Addr) (x : HO), v = .ref a → H a = some x → (∀ ps, x ≠ .tbl ps) → (L2.upd H b o) a = some x := fun a x e q _ => by
    rw [upd_ne (fun z => n (by rw [e, z]))]
    exact q
  exact ⟨a, ⟨t, bt_keep bt z⟩, d, th_keep th z, sh⟩
theorem NoL.same {K : PySem.W.Frag} {r : Addr} {H H' : Hp} {v : V} (h : NoL K r H v) (s : Same H H') : NoL K r H' v := by
  obtain ⟨a, ⟨t, bt⟩, d, th, sh⟩ := h
  exact ⟨a, ⟨t, bt_keep bt fun a x _ q _ => s a x q⟩, d, th_keep th fun a x _ q _ => s a x q, sh⟩
theorem nol_lab {K : PySem.W.Frag} {C r m : Addr} {H : Hp} {ys : List Str} (h : NoL K r H (.ref m)) (l : Lb C H m ys) : False := by
  obtain ⟨_, _, d, th, _⟩ := h
  obtain ⟨dx, fs, e⟩ := l.ins
  cases th with
  | lst q => rw [q] at e; cases e
  | tup q => rw [q] at e; cases e
  | d0 q => rw [q] at e; cases e
  | d1 q => rw [q] at e; cases e
/-- a list of labels with things put in that are none -/
structure Mix (K : PySem.W.Frag) (C r : Addr) (H : Hp) (q : Addr) (ys : List V) (v : V) (d : PyData) : Prop where
  nq : q ≠ r
  at_ : H q = some (.lst ys)
  few : ys.length ≤ 45
  th : Th K H v d
  sh : Sho d
  nv : NoL K r H v
  each : ∀ u ∈ ys, (∃ m t, u = .ref m ∧ Lb C H m t) ∨ NoL K r H u
  pos : ∃ i : Nat, ys[i]? = some v ∧ ∀ (j : Nat) u, j < i → ys[j]? = some u → ∃ m t, u = .ref m ∧ Lb C H m t
theorem Mix.same {K : PySem.W.Frag} {C r : Addr} {H H' : Hp} {q : Addr} {ys : List V} {v : V} {d : PyData} (h : Mix K C r H q ys v d) (s : Same H H') : Mix K C r H' q ys v d := ⟨h.nq, s _ _ h.at_, h.few, h.th.keep fun a o _ e => s a o e, h.sh, h.nv.same s, fun u hu => (h.each u hu).imp (fun ⟨m, t, e, l⟩ => ⟨m, t, e, l.same s⟩) fun z => z.same s, let ⟨i, a, b⟩ := h.pos; ⟨i, a, fun j u hj e => let ⟨m, t, e, l⟩ := b j u hj e; ⟨m, t, e, l.same s⟩⟩⟩
theorem Mix.sw {K : PySem.W.Frag} {C r : Addr} {H : Hp} {q : Addr} {ys : List V} {v : V} {d : PyData} (h : Mix K C r H q ys v d) : ∃ ts, Paired (Sw K C H) ys ts := by
  have : ∀ us : List V, (∀ u ∈ us, u ∈ ys) → ∃ ts, Paired (Sw K C H) us ts := fun us => by
    induction us with
    | nil => exact fun _ => ⟨[], .nil⟩
    | cons u us ih =>
      intro hu
      obtain ⟨ts, p⟩ := ih fun x hx => hu x (List.mem_cons_of_mem _ hx)
      rcases h.each u (hu u List.mem_cons_self) with ⟨m, t, rfl, l⟩ | ⟨_, _, d, th, sh⟩
      · exact ⟨_, .cons (.lab l) p⟩
      · exact ⟨_, .cons (.dat th sh) p⟩
  exact this ys fun _ hu => hu
open Classical in
theorem mix_lt {K : PySem.W.Frag} {C r : Addr} {H : Hp} {q : Addr} {ys : List V} {v : V} {d : PyData} {Q : VK} {E : XK} (h : Mix K C r H q ys v d)
    (k : ∀ H' p, Same H H' → H p = none → H' p = some (.lst [.str "no label", .str d.shown]) → Q (.ref p) H') : spLT K C [.ref q] H Q E := by
  obtain ⟨i0, hi0, bef⟩ := h.pos
  have f1 : ∀ u : V, (∃ m t, u = .ref m ∧ Lb C H m t) → (if NoL K r H u then none else some (marksAt H u)) = some (marksAt H u) := fun u ⟨m, t, e, l⟩ => if_neg fun z => by
    subst e
    exact nol_lab z l
  have at' : ∀ (i : Nat) (o : Option (List Str)), (ys.map fun u => if NoL K r H u then none else some (marksAt H u))[i]? = some o → ∃ u, ys[i]? = some u ∧ o = if NoL K r H u then none else some (marksAt H u) := fun i o e => by
    rw [List.getElem?_map] at e
    obtain ⟨u, hu, rfl⟩ := Option.map_eq_some_iff.mp e
    exact ⟨u, hu, rfl⟩
  have it0 : (ys.map fun u => if NoL K r H u then (none : Option (List Str)) else some (marksAt H u))[i0]? = some none := by
    rw [List.getElem?_map, hi0]
    exact congrArg some (if_pos h.nv)
  refine ⟨q, ys, ys.map fun u => if NoL K r H u then none else some (marksAt H u), rfl, .inl (SqL.of h.at_), by have := h.few; omega, List.length_map .., fun i u o e1 e2 => ?_, fun i u e1 e2 no => ?_, fun S e => ?_⟩
  · obtain ⟨u', hu', rfl⟩ := at' i o e2
    rw [e1] at hu'
    cases hu'
    rcases h.each u (List.mem_of_getElem? e1) with ⟨m, t, rfl, l⟩ | nl
    · rw [f1 _ ⟨m, t, rfl, l⟩, marks_at l]
      exact .lab l
    · rw [if_pos nl]
      obtain ⟨_, ⟨T, bt⟩, _⟩ := nl
      exact .odd bt
  · have : i = i0 := by
      rcases Nat.lt_trichotomy i i0 with z | z | z
      · obtain ⟨u', hu', w⟩ := at' i none e2
        obtain ⟨m, t, e, l⟩ := bef i u' z hu'
        rw [f1 _ ⟨m, t, e, l⟩] at w
        cases w
      · exact z
      · exact absurd it0 (no i0 z)
    subst this
    rw [hi0] at e1
    cases e1
    exact ⟨d, h.th, h.sh, k⟩
  · rw [e] at it0
    exact (no_none it0).elim
end K15
namespace K15
open PySem L2 SR TAs LamX
section
variable {P : Program} {w : World} {K : PySem.W.Frag} {mg : Str → Option Value} {base : Heap}
/-! ### _law_right -/
abbrev nRi : List Str := ["_law_rng_here", "_law_turn"]
theorem scRi : FnScope nRi ["_law_rng_here"] (defScope sRight) := ⟨rfl, rfl, rfl, by decide +kernel, rfl, by decide +kernel, by decide +kernel⟩
theorem ok_right {T : List (Addr × Str)} {f fL fV : Addr} {fd dL dV : FuncData} (F : L2.Fun K "_law_right" "_law_right" sRight f fd) (B : BEnv mg) (AL : At K mg "_law_labels_right" sLabRight ["_law_rng_here"] fL dL) (AV : At K mg "_law_values_right" sValRight ["_law_rng_here"] fV dV)
    (GL : FnG P w K mg base 8 fL dL ["_law_rng_here"] (spLR T)) (GV : FnG P w K mg base 7 fV dV ["_law_rng_here"] (spLR T)) : FnG P w K mg base 9 f fd ["_law_rng_here"] (spLR T) := by
  refine okG F scRi (fun vs H Q E h => ?_) (fun cdv A outer_ s H vs Q E gd hr h => ?_)
  · obtain ⟨r, rfl, _⟩ := h
    rfl
  · have h7 := hr.mono (j := 7) (by decide)
    obtain ⟨r, rfl, g, hT, k⟩ := h
    refine ⟨_, pss_one (ps_ret (pe_callB (cr_all rfl) (by rfl) B.zAll (by decide +kernel) (pa_cons (pe_lc (own := [("_law_turn", 1)]) (g := gName 1) (tt := tYes) rfl scRi.nd
        (pi_range1 (by rfl) B.zRange (pa_cons pe_int pa_nil)) (blkOk_by (N := nRi) (sc := defScope sRight) (by decide +kernel)) (fun _ _ _ _ _ => pg_name (i := 1) scRi.nd rfl (Or.inl rfl)) (fun _ _ _ _ _ => pts_nil)
        (fun _ _ _ _ _ => pe_and (pe_callG GL gd hr (by rfl) AL.m AL.F.kp AL.b (pa_cons (pv 0) pa_nil)) (pe_one (pe_callG GV gd h7 (by rfl) AV.m AV.F.kp AV.b (pa_cons (pv 0) pa_nil))))) pa_nil))), ?_⟩
    have hsl : sizeLine = 16777216 := sizeLine_eq
    refine ⟨_, rfl, by decide, by decide, fun D hD => ?_⟩
    have nD : D ≠ r := g.ne hD
    refine lc_range (lo := 0) (n := (3 : Int).toNat) (fun i H' => On T r H H' ∧ H' D = some (.lst ((List.replicate i true).map V.bl))) ⟨(On.refl g hT).put hD, upd_same⟩ ?_ ?_
    · rintro i H1 hi ⟨o1, hL⟩
      refine ⟨rfl, _, rfl, r, rfl, o1.rg, o1.tb, fun H2 k2 T2 => ⟨_, rfl, ?_⟩⟩
      have o2 : On T r H1 H2 := ⟨k2, o1.rg, k2.2 o1.rg, T2⟩
      refine ite2 (fun _ => ?_) (fun z => absurd rfl z)
      refine ⟨_, rfl, r, rfl, o2.rg, o2.tb, fun H3 k3 T3 => ?_⟩
      have o3 : On T r H2 H3 := ⟨k3, o2.rg, k3.2 o2.rg, T3⟩
      have o13 := o2.trans o3
      have hL3 := o13.lst hL nD
      refine ⟨_, hL3, ?_, (o1.trans o13).upd hD hL3, ?_⟩
      · rw [List.length_map, List.length_replicate]
        have : i < 3 := hi
        omega
      · rw [upd_same, List.replicate_succ', List.map_append]
        rfl
    · rintro H1 ⟨o1, hL⟩
      refine ⟨D, _, rfl, SqL.of hL, ?_⟩
      have e3 : (List.replicate (3 : Int).toNat true).all id = true := by decide
      rw [e3]
      exact k H1 o1.kn o1.tb
end
end K15
namespace K15
open PySem L2 PySem.Spec PyProof.Rows LamX
open L2 (St)
theorem sq_ext {K : PySem.W.Frag} {H H' : Hp} {a : Addr} {xs : List V} (h : SqL K H a xs) (s : ExtN H H') : SqL K H' a xs := by
  rcases h with (h | ⟨o, h⟩) | h
  · exact .inl (.inl (s _ _ h fun ps z => by cases z))
  · exact .inl (.inr ⟨o, s _ _ h fun ps z => by cases z⟩)
  · exact .inr h
theorem ext_new {r : Addr} {H H1 H2 : Hp} (s : ExtN H H1) (n : H r = none) (k : KN r H1 H2) : ExtN H H2 := fun b o e t => k.1 b o (ne_of_none e n) (s b o e t) t
section
variable {P : Program} {w : World} {K : PySem.W.Frag} {mg : Str → Option Value} {base : Heap}
/-! ### law -/
def spLaw (K : PySem.W.Frag) (T : List (Addr × Str)) : Sp := fun vs H Q _ => ∃ (a : Addr) (ns : List Int), vs = [.ref a] ∧ SqL K H a (ns.map V.int) ∧ ns.length ≤ 63 ∧ Tabs T H ∧ ∀ H', Q (.bl true) H'
theorem scLw : FnScope ["_law_script", "_law_k"] ["_law_script"] (defScope sLaw) := ⟨rfl, rfl, rfl, by decide +kernel, rfl, by decide +kernel, by decide +kernel⟩
theorem ok_law {T : List (Addr × Str)} {f fR fT : Addr} {fd dR dT : FuncData} (F : L2.Fun K "law" "law" sLaw f fd) (B : BEnv mg) (AR : At K mg "_law_rng" sRng ["_law_script", "_law_k"] fR dR) (AT : At K mg "_law_right" sRight ["_law_rng_here"] fT dT) (GT : FnG P w K mg base 9 fT dT ["_law_rng_here"] (spLR T)) :
    FnG P w K mg base 10 f fd ["_law_script"] (spLaw K T) := by
  have GR : FnOk P w K mg base CX0 1 fR dR ["_law_script", "_law_k"] (spRng K) := ok_rng AR.F B
  refine okG F scLw (fun vs H Q E h => ?_) (fun cdv A outer_ s H vs Q E gd hr h => ?_)
  · obtain ⟨a, ns, rfl, _⟩ := h
    rfl
  · obtain ⟨a, ns, rfl, hS, hlen, hT, k⟩ := h
    have hr1 := hr.mono (j := 1) (by decide)
    refine ⟨_, pss_one (ps_ret (pe_callB (cr_all rfl) (by rfl) B.zAll (by decide +kernel) (pa_cons (pe_lc (own := [("_law_k", 1)]) (g := gName 1) (tt := tYes) rfl scLw.nd
        (pi_range1 (by rfl) B.zRange (pa_cons (pe_callB (call_max2 rfl) (by rfl) B.zMax (by decide +kernel) (pa_cons pe_int (pa_cons (pe_callB (call_min2 rfl) (by rfl) B.zMin (by decide +kernel) (pa_cons (pe_callB call_len_seq (by rfl) B.zLen PySem.boot_len (pa_cons (pv 0) pa_nil)) (pa_cons pe_int pa_nil))) pa_nil))) pa_nil))
        (blkOk_by (N := ["_law_script", "_law_k"]) (sc := defScope sLaw) (by decide +kernel)) (fun _ _ _ _ _ => pg_name (i := 1) scLw.nd rfl (Or.inl rfl)) (fun _ _ _ _ _ => pts_nil)
        (fun _ _ _ _ _ => pe_callG GT gd hr (by rfl) AT.m AT.F.kp AT.b (pa_cons (pe_call GR hr1 (by rfl) AR.m AR.F.kp AR.b .nil pass0 (pa_cons (pv 0) (pa_cons (pv 1) pa_nil))) pa_nil))) pa_nil))), ?_⟩
    have hsl : sizeLine = 16777216 := sizeLine_eq
    refine ⟨_, rfl, a, _, rfl, .inl hS, _, _, rfl, _, _, rfl, _, rfl, ?_⟩
    rw [List.length_map]
    have hj : 1 ≤ (if (if (6 : Int) < (ns.length : Int) then (6 : Int) else (ns.length : Int)) > 1 then (if (6 : Int) < (ns.length : Int) then (6 : Int) else (ns.length : Int)) else 1) ∧ (if (if (6 : Int) < (ns.length : Int) then (6 : Int) else (ns.length : Int)) > 1 then (if (6 : Int) < (ns.length : Int) then (6 : Int) else (ns.length : Int)) else 1) ≤ 8 := by
      constructor <;> split <;> split <;> omega
    generalize (if (if (6 : Int) < (ns.length : Int) then (6 : Int) else (ns.length : Int)) > 1 then (if (6 : Int) < (ns.length : Int) then (6 : Int) else (ns.length : Int)) else 1) = j at hj
    refine ⟨by omega, by omega, fun D hD => ?_⟩
    refine lc_range (lo := 0) (n := j.toNat) (fun i H' => (ExtN H H' ∧ Tabs T H') ∧ H' D = some (.lst ((List.replicate i true).map V.bl))) ⟨⟨ExtN.of (same_upd hD), hT.ext (same_upd hD)⟩, upd_same⟩ ?_ ?_
    · rintro i H' hi ⟨⟨sm, hT'⟩, hL⟩
      refine ⟨rfl, _, rfl, _, rfl, a, ns, i, ?_, sq_ext hS sm, by omega, fun H1 r s1 hr0 g1 => ?_⟩
      · show [V.ref a, V.int (0 + (i : Int))] = [V.ref a, V.int (i : Int)]
        rw [Int.zero_add]
      have nD : D ≠ r := ne_of_none hL hr0
      refine ⟨r, rfl, g1, hT'.ext s1, fun H2 k2 T2 => ?_⟩
      have sE : ExtN H' H2 := ext_new (ExtN.of s1) hr0 k2
      have hL2 := sE _ _ hL fun ps z => by cases z
      refine ⟨_, hL2, ?_, ⟨fun b o e t => ?_, tabs_upd T2 hL2⟩, ?_⟩
      · rw [List.length_map, List.length_replicate]
        omega
      · rw [upd_ne (ne_of_none e hD)]
        exact sE _ _ (sm b o e t) t
      · rw [upd_same, List.replicate_succ', List.map_append]
        rfl
    · rintro H1 ⟨_, hLD⟩
      refine ⟨D, _, rfl, SqL.of hLD, ?_⟩
      have e3 : (List.replicate j.toNat true).all id = true := by simp
      rw [e3]
      exact k _
end
/-! ### the law's call, where nothing is being shown -/
abbrev boxed (us : List Value) : Obj := { cls := .type "list", data := .seq us.toArray }
abbrev tab0 : Obj := { cls := .none, data := .fields #[] }
section
variable {P : Program} {w : World} {K : PySem.W.Frag} {mg mb : Str → Option Value} {k : Nat} {fa a : Addr} {fd : FuncData} {x : Str} {sp : Sp} {t : Shared} {us : List Value} {zs : List Int} {cs : List (Addr × Addr)}
/-- the module __builtins__ as a name of the main module -/
def BM (mg : Str → Option Value) (h : Heap) : Prop := ∃ (bm : Addr) (ob : Obj), mg "__builtins__" = some (.ref bm) ∧ bm ≠ builtinsNs ∧ h.get? bm = some ob ∧ ob.cls = .type "module" ∧ ob.dict = some builtinsNs ∧ ob.data = .plain
structure TabsOk (K : PySem.W.Frag) (cs : List (Addr × Addr)) (h : Heap) : Prop where
  g : ∀ p ∈ cs, h.get? p.2 = some tab0
  k : ∀ p ∈ cs, K.lookup p.2 = none
  c : ∀ p ∈ cs, PySem.W.CodeHd h p.1 p.2
theorem TabsOk.at {h : Heap} (T : TabsOk K cs h) {b : Addr} (m : b ∈ cs.map (·.2)) : h.get? b = some tab0 ∧ K.lookup b = none := by
  obtain ⟨p, hp, rfl⟩ := List.mem_map.mp m
  exact ⟨T.g p hp, T.k p hp⟩
theorem run_at {H : Hp} (one : ∀ b, H b = none ∨ (b = a ∧ H b = some (.frz (boxed us) (.lst (zs.map V.int)))) ∨ (b ∈ cs.map (·.2) ∧ H b = some (.tbl #[])))
    (tbs : ∀ p ∈ cs, H p.2 = some (.tbl #[])) (TO : TabsOk K cs t.heap) (hbm : BM mg t.heap) (own : H a ≠ none → K.lookup a = none) (seq : SqL K H a (zs.map V.int)) (hok : HOk P w H t.heap)
    (KX : K.In t.heap) (g1 : t.heap.Ns mainGlobals mg) (g2 : t.heap.Ns builtinsNs mb) (g3 : ∀ y : Str, y ≠ "__name__" → mb y = bootBuiltins y) (lim : t.heap.NoLimit) (hg : t.gens = #[]) (ha : t.heap.get? a = some (boxed us)) (hr : Room k callerA)
    (F : ∀ base : Heap, K.In base → base.Ns mainGlobals mg → (∀ p ∈ cs, TabB base mg p.1 p.2) → FnG P w K mg base k fa fd [x] sp) (bd : ∀ (s : Shared) (u : Value), BindsTo s fd ⟨[u], []⟩ [(x, u)])
    (hsp : ∀ H' : Hp, (∀ p ∈ cs, H' p.2 = some (.tbl #[])) → SqL K H' a (zs.map V.int) → sp [.ref a] H' (fun v _ => v = .bl true) E0) :
    codeAny (model P w) callerA (.call (.ref fa) ⟨[.ref a], []⟩) (fun r s' => r = .ok (.ret (.bool true)) ∧ OldK t.heap s'.heap ∧ s'.os = t.os ∧ AllBare s'.gens) t := by
  -- an object that is neither a sequence nor an empty table stands in the hidden heap, too
  have stay : ∀ {b : Addr} {o : Obj}, t.heap.get? b = some o → o ≠ boxed us → o ≠ tab0 → (hidT t.heap H).get? b = some o := by
    intro b o e n1 n2
    refine hidT_get e ?_
    rcases one b with z | ⟨rfl, _⟩ | ⟨m, _⟩
    · exact z
    · rw [ha] at e
      exact absurd (Option.some.inj e).symm n1
    · rw [(TO.at m).1] at e
      exact absurd (Option.some.inj e).symm n2
  have still : ∀ {b : Addr} {m : Str → Option Value}, t.heap.Ns b m → (hidT t.heap H).Ns b m := by
    rintro b m ⟨o, es, ep, e, d, rest⟩
    refine ⟨o, es, ep, stay e (fun z => ?_) (fun z => ?_), d, rest⟩
    · rw [z] at d
      cases d
    · rw [z] at d
      cases d
  have kin : K.In (hidT t.heap H) := fun b o e => hidT_get (KX b o e) (by
    rcases one b with z | ⟨rfl, z⟩ | ⟨m, _⟩
    · exact z
    · have := own (by rw [z]; exact fun q => nomatch q)
      rw [this] at e
      cases e
    · rw [(TO.at m).2] at e
      cases e)
  have TB : ∀ p ∈ cs, TabB (hidT t.heap H) mg p.1 p.2 := by
    intro p hp
    refine ⟨?_, ?_, fun z => ?_⟩
    · obtain ⟨o, vs, file, tf, flags, tg, inF, text, tt, e1, r1, r2, r3, rest⟩ := TO.c p hp
      refine ⟨o, vs, file, tf, flags, tg, inF, text, tt, stay e1 (fun z => ?_) (fun z => ?_), r1, r2, r3, rest⟩
      · rw [z] at r2
        cases r2
      · rw [z] at r2
        cases r2
        simp at r3
    · obtain ⟨bm, ob, b1, b2, b3, b4, b5, b6⟩ := hbm
      have no : ∀ {o : Obj} {es : Array DictEntry} {ep : Nat}, t.heap.get? mainGlobals = some o → o.data = .dict es ep → bm ≠ mainGlobals := fun e d q => by
        rw [q, e] at b3
        rw [Option.some.inj b3, b6] at d
        cases d
      obtain ⟨og, eg, pg, e, hd, _⟩ := id g1
      refine ⟨bm, ob, b1, b2, no e hd, (fun q => ?_), stay b3 (fun z => ?_) (fun z => ?_), b4, b5, b6⟩
      · rw [q, TO.g p hp] at b3
        rw [← Option.some.inj b3] at b6
        cases b6
      · rw [z] at b6
        cases b6
      · rw [z] at b6
        cases b6
    · obtain ⟨og, eg, pg, e, hd, _⟩ := id g1
      rw [z, TO.g p hp] at e
      rw [← Option.some.inj e] at hd
      cases hd
  obtain ⟨mc, l1, l2⟩ := lim
  have env : Env0 P w K mg (hidT t.heap H) callerA [] t H :=
    { frames := rfl, mod := ⟨kin, still g1, ⟨mb, still g2, g3⟩, ⟨mc, still l1, l2⟩⟩, bs := fun b o e => of_hidT e, bsz := Nat.le_of_eq (hidT_size _ _), funs := trivial, frf := fun b hb => absurd (show b ∈ ([] : List Addr) from hb) List.not_mem_nil, hok := hok, bare := .of_eq hg }
  apply codeAny_mono ((F _ kin (still g1) TB).run callerA [] t H ⟨[.ref a], []⟩ [.ref a] [.ref a] (fun v _ => v = .bl true) E0 rfl hr env (bd t (.ref a)) (.cons rfl .nil) (hsp H tbs seq))
  rintro (e | fl) s2 h
  · exact h.elim
  cases fl with
  | ret u =>
    obtain ⟨v, H2, os, bare, un, hok2, rv, rfl⟩ := h
    cases (show u = Value.bool true from rv)
    have more : ∀ b, b ∈ cs.map (·.2) → ∃ ps : Array Value, s2.heap.get? b = some { cls := .none, data := .fields ps } := fun b m => by
      obtain ⟨p, hp, rfl⟩ := List.mem_map.mp m
      obtain ⟨ps, z⟩ := un.tbls p.2 #[] (tbs p hp)
      exact ⟨_, hok2 p.2 _ z⟩
    have rest : ∀ b o, b ∉ cs.map (·.2) → t.heap.get? b = some o → s2.heap.get? b = some o := fun b o n e => by
      rcases one b with z | ⟨rfl, z⟩ | ⟨m, _⟩
      · exact un.keep b o e z (fun y => absurd (show b ∈ ([] : List Addr) from y) List.not_mem_nil) (by simp)
      · have y1 := (hok _ _ z).1
        have y2 := (hok2 _ _ (un.frzs _ _ _ z)).1
        rw [e] at y1
        cases y1
        exact y2
      · exact absurd m n
    refine ⟨rfl, ⟨fun b o e => ?_, fun b o e => ?_⟩, os, bare⟩
    · by_cases m : b ∈ cs.map (·.2)
      · obtain ⟨ps, z⟩ := more b m
        obtain ⟨p, hp, rfl⟩ := List.mem_map.mp m
        rw [TO.g p hp] at e
        cases e
        exact .inr (.inl ⟨((TO.c p hp).tab (TO.g p hp)).isCodeTable, rfl, #[], ps, rfl, by rw [Array.empty_append]; exact z⟩)
      · exact .inl (rest b o m e)
    · by_cases m : b ∈ cs.map (·.2)
      · exact (more b m).elim fun ps z => ⟨_, z⟩
      · exact ⟨o, rest b o m e⟩
  | next => exact False.elim h
  | brk => exact False.elim h
  | cont => exact False.elim h
/-- what is tracked when the law begins: the script, where it isn't of the head, and the tables -/
def begun (K : PySem.W.Frag) (cs : List (Addr × Addr)) (a : Addr) (us : List Value) (zs : List Int) : Hp := fun b =>
  if b ∈ cs.map (·.2) then some (.tbl #[]) else if b = a ∧ K.lookup a = none then some (.frz (boxed us) (.lst (zs.map V.int))) else none
theorem run_law (TO : TabsOk K cs t.heap) (hbm : BM mg t.heap) (KX : K.In t.heap) (g1 : t.heap.Ns mainGlobals mg) (g2 : t.heap.Ns builtinsNs mb) (g3 : ∀ y : Str, y ≠ "__name__" → mb y = bootBuiltins y) (lim : t.heap.NoLimit) (hg : t.gens = #[]) (ha : t.heap.get? a = some (boxed us)) (hi : IntsAre us zs) (hl : zs.length ≤ sizeLine) (hr : Room k callerA)
    (F : ∀ base : Heap, K.In base → base.Ns mainGlobals mg → (∀ p ∈ cs, TabB base mg p.1 p.2) → FnG P w K mg base k fa fd [x] sp) (bd : ∀ (s : Shared) (u : Value), BindsTo s fd ⟨[u], []⟩ [(x, u)])
    (hsp : ∀ H' : Hp, (∀ p ∈ cs, H' p.2 = some (.tbl #[])) → SqL K H' a (zs.map V.int) → sp [.ref a] H' (fun v _ => v = .bl true) E0) :
    codeAny (model P w) callerA (.call (.ref fa) ⟨[.ref a], []⟩) (fun r s' => r = .ok (.ret (.bool true)) ∧ OldK t.heap s'.heap ∧ s'.os = t.os ∧ AllBare s'.gens) t := by
  have rv : Vals (zs.map V.int) us := vals_ints hi
  have na : a ∉ cs.map (·.2) := fun m => by
    have e := (TO.at m).1
    rw [ha] at e
    have d : Data.seq us.toArray _ = Data.fields #[] := congrArg Obj.data (Option.some.inj e)
    cases d
  have one : ∀ b, begun K cs a us zs b = none ∨ (b = a ∧ begun K cs a us zs b = some (.frz (boxed us) (.lst (zs.map V.int)))) ∨ (b ∈ cs.map (·.2) ∧ begun K cs a us zs b = some (.tbl #[])) := fun b => by
    unfold begun
    by_cases m : b ∈ cs.map (·.2)
    · exact .inr (.inr ⟨m, if_pos m⟩)
    · rw [if_neg m]
      by_cases e : b = a ∧ K.lookup a = none
      · exact .inr (.inl ⟨e.1, if_pos e⟩)
      · exact .inl (if_neg e)
  refine run_at (H := begun K cs a us zs) (us := us) (zs := zs) one (fun p hp => ?_) TO hbm (fun z => ?_) ?_ (fun b u z => ?_) KX g1 g2 g3 lim hg ha hr F bd hsp
  · unfold begun
    exact if_pos (List.mem_map.mpr ⟨p, hp, rfl⟩)
  · unfold begun at z
    rw [if_neg na] at z
    by_cases e : a = a ∧ K.lookup a = none
    · exact e.2
    · rw [if_neg e] at z
      exact absurd rfl z
  · cases hk : K.lookup a with
    | none =>
      refine .inl (.inr ⟨boxed us, ?_⟩)
      unfold begun
      rw [if_neg na, if_pos ⟨rfl, hk⟩]
    | some o =>
      have e := KX a o hk
      rw [ha] at e
      cases e
      exact .inr ⟨_, us.toArray, _, hk, rfl, rfl, rfl, by rw [List.size_toArray, hi.length]; exact hl, by simpa using rv⟩
  · rcases one b with e | ⟨rfl, e⟩ | ⟨m, e⟩
    · rw [e] at z
      cases z
    · rw [e] at z
      cases z
      exact ⟨ha, by rw [List.length_map]; exact hl, us, _, rv, ha⟩
    · rw [e] at z
      cases z
      exact (TO.at m).1
end
theorem walk {l : PySem.W.OpenLaw} {q : Program} {loose : List Str} {XP : (Str → Option Value) → Heap → Prop} {YP : World → Heap → Prop} {d : DefRec} {K : Params → PySem.W.Frag} (hn : l.most = some 63) (hdf : d.params.defaults = [])
    (hY : ∀ (w : World) (h : Heap), YP w h → (K w.params).In h)
    (F : ∀ (w : World) (mg : Str → Option Value) (fa : Addr) (h : Heap), YP w h → (K w.params).In h → h.Ns mainGlobals mg → mg d.name = some (.ref fa) → BM mg h →
      ∃ (fd : FuncData) (cs : List (Addr × Addr)) (T : List (Addr × Str)), TabsOk (K w.params) cs h ∧ (∀ p ∈ T, p.1 ∈ cs.map (·.2)) ∧ (∀ (s : Shared) (u : Value), BindsTo s fd ⟨[u], []⟩ [("_law_script", u)]) ∧
        ∀ base : Heap, (K w.params).In base → base.Ns mainGlobals mg → (∀ p ∈ cs, TabB base mg p.1 p.2) → FnG l.prog w (K w.params) mg base 10 fa fd ["_law_script"] (spLaw (K w.params) T)) :
    PySem.W.WalkO q loose XP YP l.row.toRowW d [] (fun f vs => PySem.call f vs) := by
  apply Att.attach_call hn hdf
  intro w s0 s1 mg mb fa o pm cd doc a vs ns G Y ho hd hcd hmg hobj hints hlen hg
  have KX := hY w _ Y
  obtain ⟨fd, cs, T, TO, hT, hb, hF⟩ := F w mg fa _ Y KX G.T.g hmg G.T.bmain
  refine run_law TO G.T.bmain KX G.T.g G.T.b G.T.builtins G.T.nolimit hg hobj hints (Nat.le_trans hlen (by decide)) ⟨rfl, by decide, by decide⟩ hF hb fun H tb hS => ⟨a, ns, rfl, hS, hlen, fun p hp => ?_, fun _ => rfl⟩
  obtain ⟨c, hc, e⟩ := List.mem_map.mp (hT p hp)
  exact TabS.nil (by rw [← e]; exact tb c hc)
end K15
namespace K15
open PySem L2 SR TAs LamX
abbrev rTupOf (K : PySem.W.Frag) : List V → Hp → VK → Prop := fun xs H Q => ∃ p ys, xs = [V.ref p] ∧ ((SqL K H p ys ∧ ∀ l, H l = none → Q (.ref l) (upd H l (.tup ys))) ∨ (SqT K H p ys ∧ Q (.ref p) H))
abbrev rJoin (K : PySem.W.Frag) : V → List V → Hp → VK → Prop := fun x xs H Q => ∃ a p, ∃ ys : List Str, x = .str a ∧ xs = [.ref p] ∧ (SqL K H p (ys.map V.str) ∨ SqT K H p (ys.map V.str)) ∧
      (ys.map (·.length)).sum + ys.length * a.length ≤ 16777216 ∧ Q (.str (Txt.join a ys)) H
theorem pe_joinK {X : Cx} {K : PySem.W.Frag} {o e : Expr} {to te : TE} {apos pos : Pos} (hK : X.K = K) (ho : PE X o to) (he : PE X e te) (hs : starEach [e] X.env = [(false, eval e X.env)] := by rfl) (hbase : attributeBase o "join" X.env (eval o X.env) = eval o X.env := by rfl) (hline : (apos.endLine == pos.line) = true := by rfl) :
    PE X (.Call (.Attribute o "join" apos) [e] [] pos) (tM1 (rJoin K) to te) := by
  subst hK
  exact pe_join ho he hs hbase hline
/-- the lists of marks that are drawn -/
def Lw (r : Addr) (ws : List Tx) (H : Hp) (L : List (Addr × List Tx)) : Prop := ∀ e ∈ L, e.1 ≠ r ∧ H e.1 = some (.lst (e.2.map tv)) ∧ e.2.length ≤ 4 ∧ (∀ x ∈ e.2, x ∈ ws) ∧ e.2.Nodup
theorem Lw.on {T : List (Addr × Str)} {r : Addr} {H H' : Hp} {ws : List Tx} {L : List (Addr × List Tx)} (h : Lw r ws H L) (o : On T r H H') : Lw r ws H' L := fun e he => let ⟨a, b, c⟩ := h e he; ⟨a, o.lst b a, c⟩
/-- the defs that _law_labels_right calls -/
structure LEnv (K : PySem.W.Frag) (mg : Str → Option Value) (fD fC fW fWs fMa fNL fLT fSp fO : Addr) (dD dC dW dWs dMa dNL dLT dSp dO : FuncData) : Prop where
  B : BEnv mg
  zL : mg "list" = none
  zT : mg "tuple" = none
  zO : mg "sorted" = none
  zD : mg "dict" = none
  D : At K mg "_law_draw" sDraw ["_law_rng_here", "_law_many"] fD dD
  Ch : At K mg "_law_choice" sChoice ["_law_rng_here", "_law_options"] fC dC
  W : At K mg "_law_word" sWord ["_law_rng_here", "_law_used"] fW dW
  Ws : At K mg "_law_words" sWords ["_law_rng_here", "_law_many"] fWs dWs
  Ma : At K mg "_law_marks" sMarks ["_law_rng_here", "_law_words_here"] fMa dMa
  NL : At K mg "_law_no_label" sNoLab ["_law_rng_here", "_law_words_here"] fNL dNL
  LT : At K mg "_law_labels_told" sLabTold ["_law_things"] fLT dLT
  Sp : At K mg "_law_spoilt" sSpoilt ["_law_rng_here", "_law_things", "_law_odds"] fSp dSp
  O : At K mg "in_order" sOrder ["labels"] fO dO
  kO : ∀ (s : Shared) (u : Value), BindsTo s dO ⟨[], [("labels", u)]⟩ [("labels", u)]
abbrev nLR : List Str := ["_law_rng_here", "_law_words_here", "_law_lows", "_law_made", "_law_due", "_law_shown", "_law_given", "_law_told", "_law_spoilt_here", "_law_first", "_law_k", "_law_low"]
theorem scLR : FnScope nLR ["_law_rng_here"] (defScope sLabRight) := ⟨rfl, rfl, rfl, by decide +kernel, rfl, by decide +kernel, by decide +kernel⟩
section
variable {P : Program} {w : World} {K : PySem.W.Frag} {mg : Str → Option Value} {base : Heap}
variable {C gE gL gS gR gH pM gM CL CT pO gO : Addr} {dE dL dS dR dH dG dGo : FuncData}
variable {fD fC fW fWs fMa fNL fLT fSp fO : Addr} {dD dC dW dWs dMa dNL dLT dSp dO : FuncData}
theorem ok_labright {T : List (Addr × Str)} {f c Pt : Addr} {fd : FuncData} {mc : Value} (F : L2.Fun K "_law_labels_right" "_law_labels_right" sLabRight f fd) (hc : fd.code = .ref c) (TB : TabB base mg c Pt) (hm : (Pt, ("_law_labels_right.<locals>.<lambda>" : Str)) ∈ T) (hu : ∀ p ∈ T, p.1 = Pt → p.2 = "_law_labels_right.<locals>.<lambda>")
    (S : LEnv K mg fD fC fW fWs fMa fNL fLT fSp fO dD dC dW dWs dMa dNL dLT dSp dO) (M : LabM K mg C gE gL gS gR gH pM gM dE dL dS dR dH dG) (Z : Zn mg) (cr : ClX.CRead K C mc) (cm : ClX.CMet K C mc "of_text" pO gO)
    (GOf : FnR P w K mg base (L2.CX P w) 5 gO (fun vs H Q E => spOf K C CT (vs ++ []) H Q E)) (GO : FnOk P w K mg base (L2.CX P w) 6 fO dO ["labels"] (spIO K C CL)) (GLT : FnG P w K mg base 7 fLT dLT ["_law_things"] (spLT K C)) :
    FnG P w K mg base 8 f fd ["_law_rng_here"] (spLR T) := by
  have GD : FnOk P w K mg base CX0 1 fD dD ["_law_rng_here", "_law_many"] spDraw := ok_draw S.D.F S.B
  have GWs : FnOk P w K mg base CX0 4 fWs dWs ["_law_rng_here", "_law_many"] spWords := ok_words S.Ws.F S.B S.D S.Ch S.W
  have GMa : FnOk P w K mg base CX0 2 fMa dMa ["_law_rng_here", "_law_words_here"] spMarks := ok_marks S.Ma.F S.B S.D
  have GNL : FnOk P w K mg base CX0 3 fNL dNL ["_law_rng_here", "_law_words_here"] (spNoLab K) := ok_nolab S.NL.F S.B S.zL S.D S.Ch
  have GSp : FnOk P w K mg base CX0 2 fSp dSp ["_law_rng_here", "_law_things", "_law_odds"] spSp := ok_spoilt S.Sp.F S.B S.zL S.D
  have GR : FnOk P w K mg base CX0 1 gR dR ["self"] (spRepr C) := ok_repr M Z
  refine okGC F hc scLR (fun vs H Q E h => ?_) (fun A outer s H vs Q E gd hr h => ?_)
  · obtain ⟨r, rfl, _⟩ := h
    rfl
  · have h1 := hr.mono (j := 1) (by decide)
    have h2 := hr.mono (j := 2) (by decide)
    have h3 := hr.mono (j := 3) (by decide)
    have h4 := hr.mono (j := 4) (by decide)
    have h5 := hr.mono (j := 5) (by decide)
    have h6 := hr.mono (j := 6) (by decide)
    have un : (A.deeper (PyProof.Rows.envOfC "_law_labels_right" (defScope sLabRight) s.heap.objs.size f (.ref c))).units + 200 < cLine := by have := hr.un; omega
    have un64 : (A.deeper (PyProof.Rows.envOfC "_law_labels_right" (defScope sLabRight) s.heap.objs.size f (.ref c))).units + 64 < cLine := by omega
    have un1 : (A.deeper (PyProof.Rows.envOfC "_law_labels_right" (defScope sLabRight) s.heap.objs.size f (.ref c))).in1.units + 1 < cLine := by
      show (A.deeper (PyProof.Rows.envOfC "_law_labels_right" (defScope sLabRight) s.heap.objs.size f (.ref c))).units + 1 + 1 < cLine
      omega
    obtain ⟨r, rfl, g, hT, k⟩ := h
    refine ⟨_, pss_cons (ps_set (i := 1) scLR.nd rfl (Or.inr rfl) (pe_call GWs h4 (by rfl) S.Ws.m S.Ws.F.kp S.Ws.b .nil pass0 (pa_cons (pv 0) (pa_cons (pe_op op_add pe_int (pe_call GD h1 (by rfl) S.D.m S.D.F.kp S.D.b .nil pass0 (pa_cons (pv 0) (pa_cons pe_int pa_nil)))) pa_nil))))
      (pss_cons (ps_setLc (i := 2) (own := [("_law_k", 10)]) (g := gName 10) (tt := tYes) rfl scLR.nd rfl rfl (sw_true rfl rfl rfl rfl) (pi_range1 (by rfl) S.B.zRange (pa_cons (pe_call GD h1 (by rfl) S.D.m S.D.F.kp S.D.b .nil pass0 (pa_cons (pv 0) (pa_cons pe_int pa_nil))) pa_nil)) (blkOk_by (N := nLR) (sc := defScope sLabRight) (by decide +kernel))
          (fun _ _ _ _ _ => pg_name (i := 10) scLR.nd rfl (Or.inl rfl)) (fun _ _ _ _ _ => pts_nil) (fun _ _ _ _ _ => pe_call GMa h2 (by rfl) S.Ma.m S.Ma.F.kp S.Ma.b .nil pass0 (pa_cons (pv 0) (pa_cons (pv 1) pa_nil))))
      (pss_cons (ps_setLc (i := 3) (own := [("_law_low", 11)]) (g := gName 11) (tt := tYes) rfl scLR.nd rfl rfl (sw_true rfl rfl rfl rfl) (pi_list (pv 2)) (blkOk_by (N := nLR) (sc := defScope sLabRight) (by decide +kernel))
          (fun _ _ _ _ _ => pg_name (i := 11) scLR.nd rfl (Or.inl rfl)) (fun _ _ _ _ _ => pts_nil) (fun _ _ _ _ _ => by exact (CmS.pe_cm (E := fun _ => E0) (pe_glob (v := .ref C) rfl M.m rfl) cr cm GOf h5 (fun σ => L2.passAt L2.takes0 σ)
            (pa_cons (pe_ifExp (pt_cmpR (show OpR _ (compareOp CmpOp.NotEq) (rNeD K) from op_neD un64) (pv 11) (pe_lst pa_nil) (nomark _)) (pe_joinK (K := K) rfl pe_str (pe_callB (show CallR _ (.builtin "sorted") (rSortedS K) from cr_sortedS) rfl S.zO (by decide +kernel) (pa_cons (pv 11) pa_nil))) pe_str) pa_nil))))
      (pss_cons (ps_set (i := 4) scLR.nd rfl (Or.inl rfl) (SortL.pe_sortLam (k := 2) (T := T) (pa_cons (pe_callTy (call_list_dT rfl) (by rfl) S.zL (by decide +kernel) (pa_cons (pe_callTy (DcT.call_dictT rfl un1) (by rfl) S.zD (by decide +kernel) (pa_cons
            (pe_lc (own := [("_law_low", 11)]) (g := gName 11) (tt := tYes) rfl scLR.nd (pi_list (pv 2)) (blkOk_by (N := nLR) (sc := defScope sLabRight) (by decide +kernel)) (fun _ _ _ _ _ => pg_name (i := 11) scLR.nd rfl (Or.inl rfl)) (fun _ _ _ _ _ => pts_nil)
              (fun _ _ _ _ _ => by exact (pe_tup (pa_cons (pe_callTy (show CallR _ (.type "tuple") (rTupOf K) from call_tuple_of) rfl S.zT (by decide +kernel) (pa_cons (pe_callB (show CallR _ (.builtin "sorted") (rSortedS K) from cr_sortedS) rfl S.zO (by decide +kernel) (pa_cons (pv 11) pa_nil)) pa_nil)) (pa_cons pe_bl pa_nil))))) pa_nil)) pa_nil)) pa_nil) (by rfl) S.zO TB rfl hm hu rfl (by decide +kernel) rfl
            ⟨rfl, rfl, rfl, by decide +kernel, rfl, by decide +kernel, by decide +kernel⟩ rfl (fun _ _ _ _ _ => rfl) h5 rfl rfl
            (fun A2 o2 s2 H2 f2 c2 hr2 => pe_tup (pa_cons (pe_callB (show CallR _ (.builtin "len") (fun xs H Q => ∃ p ys, xs = [V.ref p] ∧ (SqL K H p ys ∨ SqT K H p ys) ∧ Q (V.int (ys.length : Int)) H) from call_len_seq) (by rfl) (by exact S.B.zLen) PySem.boot_len (pa_cons (pv 0) pa_nil)) (pa_cons (pv 0) pa_nil)))))
      (pss_cons (ps_par (i := 5) (j := 6) rfl scLR.nd rfl rfl (by decide) rfl rfl (pa_cons (pe_callB (call_reprW GR M.bR M.fR M.iR h6 gd) (by rfl) Z.zRepr (by decide +kernel) (pa_cons (pv 3) pa_nil)) (pa_cons (pe_ix ix_list (pe_lst (pa_cons (pv 3) (pa_cons (pe_callTy call_tuple_of (by rfl) S.zT (by decide +kernel) (pa_cons (pv 3) pa_nil)) pa_nil)))
            (pe_call GD h1 (by rfl) S.D.m S.D.F.kp S.D.b .nil pass0 (pa_cons (pv 0) (pa_cons pe_int pa_nil))) (fun _ _ => rfl)) pa_nil)) rfl)
      (pss_cons (ps_set (i := 7) scLR.nd rfl (Or.inl rfl) (pe_callG GLT gd hr (by rfl) S.LT.m S.LT.F.kp S.LT.b (pa_cons (pv 6) pa_nil)))
      (pss_cons (ps_expr (pe_bm PySem.F.plainAttrs_list PySem.F.slot_list_append PySem.F.type_list_append mt_append (pe_call (E := E0) GO h6 (by rfl) S.O.m S.O.F.kp S.O.b .nil (CmS.passE L2.takes0) (pa_cons (pv 3) pa_nil)) (pa_cons pe_str pa_nil)))
      (pss_cons (ps_expr (pe_bm0 PySem.F.plainAttrs_list PySem.F.slot_list_clear PySem.F.type_list_clear mt_clear (pe_callKw1 (E := fun _ => E0) GO h6 (by rfl) S.O.m S.O.F.kp S.kO (fun σ => L2.passAt L2.takes0 σ) (pv 6))))
      (pss_cons (ps_if (PW.pt (pw_or (pt_cmpR (op_neD un64) (pv 7) (pe_lst (pa_cons pe_str (pa_cons (pv 4) pa_nil))) (nomark _)) (pw_or (pt_cmpR (op_neD un64) (pe_callG GLT gd hr (by rfl) S.LT.m S.LT.F.kp S.LT.b (pa_cons (pv 6) pa_nil)) (pv 7) (nomark _))
            (pw_or1 (pt_cmpR op_ne (pe_callB (call_reprW GR M.bR M.fR M.iR h6 gd) (by rfl) Z.zRepr (by decide +kernel) (pa_cons (pv 3) pa_nil)) (pv 5) (nomark _)))))) (pss_one (ps_ret pe_bl)) pss_nil)
      (pss_cons (ps_asg (pe_call GSp h2 (by rfl) S.Sp.m S.Sp.F.kp S.Sp.b .nil pass0 (pa_cons (pv 0) (pa_cons (pv 3) (pa_cons (pe_lc (own := [("_law_k", 10)]) (g := gName 10) (tt := tYes) rfl scLR.nd (pi_range1 (by rfl) S.B.zRange (pa_cons (pe_op op_add pe_int (pe_call GD h1 (by rfl) S.D.m S.D.F.kp S.D.b .nil pass0 (pa_cons (pv 0) (pa_cons pe_int pa_nil)))) pa_nil))
            (blkOk_by (N := nLR) (sc := defScope sLabRight) (by decide +kernel)) (fun _ _ _ _ _ => pg_name (i := 10) scLR.nd rfl (Or.inl rfl)) (fun _ _ _ _ _ => pts_nil) (fun _ _ _ _ _ => pe_call GNL h3 (by rfl) S.NL.m S.NL.F.kp S.NL.b .nil pass0 (pa_cons (pv 0) (pa_cons (pv 1) pa_nil)))) pa_nil))))
            (pg_tup rfl (pgs_cons (pg_name (i := 8) scLR.nd rfl (Or.inl rfl)) (pgs_cons (pg_name (i := 9) scLR.nd rfl (Or.inl rfl)) pgs_nil))))
      (pss_cons (ps_set (i := 5) scLR.nd rfl (Or.inl rfl) (pe_callB (call_reprW GR M.bR M.fR M.iR h6 gd) (by rfl) Z.zRepr (by decide +kernel) (pa_cons (pv 8) pa_nil)))
      (pss_one (ps_ret (pe_and (pe_cmpR (StL.op_eq un64) (pe_callG GLT gd hr (by rfl) S.LT.m S.LT.F.kp S.LT.b (pa_cons (pv 8) pa_nil)) (pe_lst (pa_cons pe_str (pa_cons (pe_callB (call_reprD gd un) (by rfl) Z.zRepr (by decide +kernel) (pa_cons (pv 9) pa_nil)) pa_nil))) (nomark _))
        (pe_one (pe_cmpR op_eq (pe_callB (call_reprW GR M.bR M.fR M.iR h6 gd) (by rfl) Z.zRepr (by decide +kernel) (pa_cons (pv 8) pa_nil)) (pv 5) (nomark _)))))))))))))))), ?_⟩
    have hsl : sizeLine = 16777216 := sizeLine_eq
    refine ⟨_, rfl, _, rfl, r, 5, rfl, g, by decide, by decide, fun H1 n k1 hn => ⟨_, _, rfl, rfl, r, n + 1, congrArg (fun z => [V.ref r, V.int z]) (show (1 + (n : Int)) = ((n + 1 : Nat) : Int) by omega), k1.2 g, by omega, fun H2 wp ws k2 hw0 nw hw lw ndw nmw => ?_⟩⟩
    have o2 : On T r H H2 := ((On.refl g hT).kp k1).kp k2
    refine ⟨_, rfl, r, 13, rfl, o2.rg, by decide, by decide, fun H3 n3 k3 hn3 => ⟨_, rfl, by omega, by omega, fun D hD => ?_⟩⟩
    have o3 := o2.kp k3
    have hw3 := k3.1 _ _ nw hw
    have nD : D ≠ r := o3.rg.ne hD
    clear hw hw0
    refine lc_range (fun i H' => On T r H3 H' ∧ ∃ L : List (Addr × List Tx), H' D = some (.lst (L.map fun e => V.ref e.1)) ∧ L.length = i ∧ (∀ e ∈ L, e.1 ≠ D) ∧ Lw r ws H' L) ⟨(On.refl o3.rg o3.tb).put hD, [], upd_same, rfl, (fun _ h => by cases h), fun _ h => by cases h⟩ ?_ ?_
    · rintro i H4 hi ⟨o4, L, hL, lL, ne, lw4⟩
      have hw4 := o4.lst hw3 nw
      refine ⟨rfl, _, rfl, _, rfl, r, wp, ws, rfl, o4.rg, hw4, nw, by omega, fun H5 q fs k5 q0 nq hq l4 sub ndf => ⟨_, k5.1 _ _ nD hL, by rw [List.length_map, hsl]; omega, (o4.kp k5).upd hD (k5.1 _ _ nD hL), L ++ [(q, fs)], by rw [upd_same, List.map_append] <;> rfl, by rw [List.length_append, lL] <;> rfl, fun e he => ?_, fun e he => ?_⟩⟩
      · rcases List.mem_append.mp he with h | h
        · exact ne e h
        · rw [List.mem_singleton.mp h]
          exact (ne_of_none hL q0).symm
      · rcases List.mem_append.mp he with h | h
        · obtain ⟨a1, a2, a3, a4, a5⟩ := lw4 e h
          exact ⟨a1, by rw [upd_ne (ne e h)]; exact k5.1 _ _ a1 a2, a3, a4, a5⟩
        · rw [List.mem_singleton.mp h]
          exact ⟨nq, by rw [upd_ne (ne_of_none hL q0).symm]; exact hq, l4, sub, ndf ndw⟩
    rintro H4 ⟨o4, L, hL, lL, _, lw4⟩
    have hw4 := o4.lst hw3 nw
    have o4 := o3.trans o4
    have lL : L.length ≤ 12 := by omega
    clear o2 o3 k1 k2 k3 hD
    have zs4 : ∀ e ∈ L, (e.2.map txt).length ≤ 4 := fun e he => by rw [List.length_map]; exact (lw4 e he).2.2.1
    have nmL : ∀ e ∈ L, ∀ x ∈ e.2, nmC x = true := fun e he x hx => nmw x ((lw4 e he).2.2.2.1 x hx)
    refine ⟨_, rfl, D, rfl, ⟨_, SqL.of hL⟩, fun mp hmp => ?_⟩
    have nm : mp ≠ r := o4.rg.ne hmp
    refine lc_list (xs := L.map fun e => V.ref e.1) (fun i H' => On T r H4 H' ∧ ∃ ms : List Addr, H' mp = some (.lst (ms.map V.ref)) ∧ ms.length = i ∧ ∀ (j : Nat) m e, ms[j]? = some m → L[j]? = some e → Lb C H' m (can e.2)) ⟨(On.refl o4.rg o4.tb).put hmp, [], upd_same, rfl, fun j m e q => by simp at q⟩ (fun i H' _ q => SqL.of (q.1.lst hL nD)) ?_ ?_
    · rintro i v H5 hv ⟨o5, ms, hms, lms, lbs⟩
      rw [List.getElem?_map] at hv
      obtain ⟨e, he, rfl⟩ := Option.map_eq_some_iff.mp hv
      have me := List.mem_of_getElem? he
      obtain ⟨a1, a2, a3, a4, a5⟩ := (lw4.on o5) e me
      rw [← map_tv] at a2
      have li : i < L.length := (List.getElem?_eq_some_iff.mp he).1
      obtain ⟨l, q1, q2, q3, q4⟩ := made_text (nmL e me) a3
      have more : ∀ (H6 : Hp) (a : Addr), Same H5 H6 → H5 mp = some (.lst (ms.map V.ref)) → Lb C H6 a (can e.2) → ∃ acc, H6 mp = some (.lst acc) ∧ acc.length < sizeLine ∧ (On T r H4 (upd H6 mp (.lst (acc ++ [V.ref a]))) ∧ ∃ ms : List Addr, (upd H6 mp (.lst (acc ++ [V.ref a]))) mp = some (.lst (ms.map V.ref)) ∧ ms.length = i + 1 ∧ ∀ (j : Nat) m e, ms[j]? = some m → L[j]? = some e → Lb C (upd H6 mp (.lst (acc ++ [V.ref a]))) m (can e.2)) := fun H6 a s6 _ lb => by
        have h6 := s6 _ _ hms
        refine ⟨_, h6, by rw [List.length_map, hsl]; omega, (o5.same s6).upd hmp h6, ms ++ [a], by rw [upd_same, List.map_append] <;> rfl, by rw [List.length_append, lms] <;> rfl, fun j m e' e1 e2 => ?_⟩
        have keep : ∀ {m : Addr} {ys : List Str}, Lb C H6 m ys → Lb C (upd H6 mp (.lst (ms.map V.ref ++ [V.ref a]))) m ys := fun h => h.keep fun b o q c => by
          rw [upd_ne (fun z => by rw [z, h6] at q; rcases c with ⟨xs, w⟩ | ⟨D, dx, fs, w⟩ <;> rw [← Option.some.inj q] at w <;> cases w)]
          exact q
        by_cases hj : j < ms.length
        · rw [List.getElem?_append_left hj] at e1
          exact keep ((lbs j m e' e1 e2).same s6)
        · rw [List.getElem?_append_right (by omega)] at e1
          have jj : j = ms.length := by
            have := (List.getElem?_eq_some_iff.mp e1).1
            rw [List.length_singleton] at this
            omega
          rw [jj, Nat.sub_self] at e1
          rw [jj, lms, he] at e2
          cases e1
          cases e2
          exact keep lb
      refine ⟨rfl, rfl, _, rfl, by show 0 ≤ sizeLine; decide, fun p0 hp0 => ?_⟩
      have a2' := same_upd (o := HO.lst []) hp0 _ _ a2
      refine ⟨_, _, .lst (SqL.of a2') (dpT _), .lst (SqL.of upd_same) .nil, strs_shaped (fun x hx => ?_), strs_shaped (zs := []) (fun x hx => by cases hx), _, rfl, ?_⟩
      · obtain ⟨t, ht, rfl⟩ := List.mem_map.mp hx
        exact nm_ok (nmL e me t ht)
      rw [eqv_nil]
      refine ite2 (fun c => ?_) (fun c => ?_)
      · have ne : e.2 ≠ [] := fun z => by rw [z] at c; simp at c
        refine ⟨⟨_, rfl⟩, _, rfl, e.1, e.2.map txt, rfl, SqL.of a2', Nat.lt_of_le_of_lt (zs4 e me) (by decide), fun ys p1 pm srt hp1 => ?_⟩
        have ey := can_eq a5 pm srt
        refine ⟨_, p1, ys, rfl, rfl, .inl (SqL.of upd_same), ?_, ?_⟩
        · have y1 := sum_nm ys (by rw [ey]; exact can_nm (nmL e me))
          have y2 := can_len e.2
          rw [← ey] at y2
          have y3 : (Str.ofString "+").length = 1 := by decide +kernel
          rw [y3]
          omega
        · refine ⟨_, rfl, .inr ⟨l, ?_, q3, (fun z => by rw [q4] at z; cases z), fun ms' rd H6 a s6 _ lb => ?_⟩⟩
          · rw [ey]
            exact congrArg V.str (q2 ne)
          · rw [q4] at rd
            cases rd
            exact more H6 a (((same_upd hp0).trans (same_upd hp1)).trans s6) hms lb
      · have ne : e.2 = [] := by
          cases z : e.2 with
          | nil => rfl
          | cons t ts => rw [z] at c; simp at c
        refine ⟨_, rfl, .inr ⟨l, ?_, q3, (fun z => by rw [q4] at z; cases z), fun ms' rd H6 a s6 _ lb => ?_⟩⟩
        · exact congrArg V.str (dash_txt.trans (q1 ne))
        · rw [q4] at rd
          cases rd
          exact more H6 a ((same_upd hp0).trans s6) hms lb
    rintro H5 ⟨o5, ms, hms, lms, lbs⟩
    rw [List.length_map] at lms
    have o5' := o4.trans o5
    have hL5 := o5.lst hL nD
    have lw5 := lw4.on o5
    -- the sequence that is due
    refine ⟨_, rfl, D, rfl, ⟨_, SqL.of hL5⟩, fun P0 hP0 => ?_⟩
    refine lc_list (xs := L.map fun e => V.ref e.1) (fun i H' => On T r H5 H' ∧ ∃ ps : List (Addr × Addr), H' P0 = some (.lst (ps.map fun p => V.ref p.1)) ∧ ps.length = i ∧ ∀ (j : Nat) p e, ps[j]? = some p → L[j]? = some e → H' p.1 = some (.tup [.ref p.2, .bl true]) ∧ H' p.2 = some (.tup ((can e.2).map V.str))) ⟨(On.refl o5'.rg o5'.tb).put hP0, [], upd_same, rfl, fun j m e q => by simp at q⟩ (fun i H' _ q => SqL.of (q.1.lst hL5 nD)) ?_ ?_
    · rintro i v H6 hv ⟨o6, ps, hps, lps, hh⟩
      rw [List.getElem?_map] at hv
      obtain ⟨e, he, rfl⟩ := Option.map_eq_some_iff.mp hv
      have me := List.mem_of_getElem? he
      obtain ⟨a1, a2, a3, a4, a5⟩ := (lw5.on o6) e me
      rw [← map_tv] at a2
      have li : i < L.length := (List.getElem?_eq_some_iff.mp he).1
      refine ⟨rfl, _, rfl, e.1, e.2.map txt, rfl, SqL.of a2, Nat.lt_of_le_of_lt (zs4 e me) (by decide), fun ys p1 pm srt hp1 => ?_⟩
      have ey := can_eq a5 pm srt
      refine ⟨p1, _, rfl, .inl ⟨SqL.of upd_same, fun p2 hp2 => ⟨by show 2 ≤ sizeLine; decide, fun p3 hp3 => ?_⟩⟩⟩
      have s6 : Same H6 (upd (upd (upd H6 p1 (.lst (ys.map V.str))) p2 (.tup (ys.map V.str))) p3 (.tup [.ref p2, .bl true])) := ((same_upd hp1).trans (same_upd hp2)).trans (same_upd hp3)
      have g3 : (upd (upd (upd H6 p1 (.lst (ys.map V.str))) p2 (.tup (ys.map V.str))) p3 (.tup [.ref p2, .bl true])) p3 = some (.tup [.ref p2, .bl true]) := upd_same
      have g2 : (upd (upd (upd H6 p1 (.lst (ys.map V.str))) p2 (.tup (ys.map V.str))) p3 (.tup [.ref p2, .bl true])) p2 = some (.tup ((can e.2).map V.str)) := by
        rw [upd_ne (ne_of_none upd_same hp3), upd_same, ey]
      revert s6 g3 g2
      generalize upd (upd (upd H6 p1 (.lst (ys.map V.str))) p2 (.tup (ys.map V.str))) p3 (.tup [.ref p2, .bl true]) = H7
      intro s6 g3 g2
      have h7 := s6 _ _ hps
      refine ⟨_, h7, by rw [List.length_map, hsl]; omega, (o6.same s6).upd hP0 h7, ps ++ [(p3, p2)], by rw [upd_same, List.map_append] <;> rfl, by rw [List.length_append, lps] <;> rfl, fun j p e' e1 e2 => ?_⟩
      have keep : ∀ {b : Addr} {xs : List V}, H7 b = some (.tup xs) → (upd H7 P0 (.lst (ps.map (fun p => V.ref p.1) ++ [V.ref p3]))) b = some (.tup xs) := fun q => by
        rw [upd_ne (fun z => by rw [z, h7] at q; cases q)]
        exact q
      by_cases hj : j < ps.length
      · rw [List.getElem?_append_left hj] at e1
        obtain ⟨c1, c2⟩ := hh j p e' e1 e2
        exact ⟨keep (s6 _ _ c1), keep (s6 _ _ c2)⟩
      · rw [List.getElem?_append_right (by omega)] at e1
        have jj : j = ps.length := by
          have := (List.getElem?_eq_some_iff.mp e1).1
          rw [List.length_singleton] at this
          omega
        rw [jj, Nat.sub_self] at e1
        rw [jj, lps, he] at e2
        cases e1
        cases e2
        exact ⟨keep g3, keep g2⟩
    rintro H6 ⟨o6, ps, hps, lps, hh⟩
    rw [List.length_map] at lps
    obtain ⟨S0, sk, ndS, mmS⟩ := merged (fun e : Addr × List Tx => can e.2) L
    refine ⟨P0, ps.map (·.1), L.map fun e => ((can e.2).map (Sum.inr : Str → Key), V.bl true), rfl, SqL.of (by rw [hps, List.map_map] <;> rfl), paired_of (by rw [List.length_map, List.length_map, lps]) (fun j a kv e1 e2 => ?_), fun dp hdp => ?_⟩
    · rw [List.getElem?_map] at e1 e2
      obtain ⟨p, hp, rfl⟩ := Option.map_eq_some_iff.mp e1
      obtain ⟨e, he, rfl⟩ := Option.map_eq_some_iff.mp e2
      obtain ⟨c1, c2⟩ := hh j p e hp he
      exact ⟨p.2, SqT.of c1, by rw [List.map_map]; exact c2⟩
    refine ⟨dp, _, rfl, Rd.of upd_same, fun kp bs hkp isk => ?_⟩
    have s7 : Same H6 (upd (upd H6 dp (.dT (DcT.mergeT [] (L.map fun e => ((can e.2).map (Sum.inr : Str → Key), V.bl true))))) kp (.lst (bs.map V.ref))) := (same_upd hdp).trans (same_upd hkp)
    have g7 : (upd (upd H6 dp (.dT (DcT.mergeT [] (L.map fun e => ((can e.2).map (Sum.inr : Str → Key), V.bl true))))) kp (.lst (bs.map V.ref))) kp = some (.lst (bs.map V.ref)) := upd_same
    have t7 : Tups (upd (upd H6 dp (.dT (DcT.mergeT [] (L.map fun e => ((can e.2).map (Sum.inr : Str → Key), V.bl true))))) kp (.lst (bs.map V.ref))) (bs.map V.ref) S0 := (keys_tups isk sk).same (same_upd hkp)
    revert s7 g7 t7
    generalize upd (upd H6 dp (.dT (DcT.mergeT [] (L.map fun e => ((can e.2).map (Sum.inr : Str → Key), V.bl true))))) kp (.lst (bs.map V.ref)) = H7
    intro s7 g7 t7
    have o7 := o6.same s7
    refine ⟨o7.tb, fun H8 eN T8 => ?_⟩
    have o8 := o7.ext eN T8
    have t8 : Tups H8 (bs.map V.ref) S0 := ⟨t7.1, fun j zs e => let ⟨p, a, b⟩ := t7.2 j zs e; ⟨p, a, eN _ _ b fun ps z => by cases z⟩⟩
    refine ⟨kp, bs.map V.ref, fun v => keyOf (zsOf H8 v), rfl, SqL.of (eN _ _ g7 fun ps z => by cases z), fun u hu H9 s9 => ?_, fun us H9 dq perm pw s9 hpn hpl => ?_⟩
    · obtain ⟨b, rfl, hr0⟩ := t8.at hu
      refine ⟨_, rfl, b, _, rfl, .inr (SqT.of (s9 _ _ hr0)), _, rfl, by show 2 ≤ sizeLine; decide, fun t ht => ⟨same_upd ht, t, b, rfl, by rw [upd_same, List.length_map] <;> rfl, same_upd ht _ _ (s9 _ _ hr0)⟩⟩
    have pS : (us.map (zsOf H8)).Perm S0 := by
      rw [← t8.map]
      exact perm.map _
    have oS : InOrd (us.map (zsOf H8)) := List.pairwise_map.mpr pw
    have o9 := o8.same s9
    have t9 : Tups H9 us (us.map (zsOf H8)) := ⟨by rw [List.length_map], fun j zs e => by
      rw [List.getElem?_map] at e
      obtain ⟨v, hv, rfl⟩ := Option.map_eq_some_iff.mp e
      obtain ⟨b, rfl, hr0⟩ := t8.at (perm.mem_iff.mp (List.mem_of_getElem? hv))
      exact ⟨b, hv, s9 _ _ hr0⟩⟩
    have ndM := pS.nodup_iff.mpr ndS
    have mmM : ∀ t, t ∈ us.map (zsOf H8) ↔ ∃ e ∈ L, t = can e.2 := fun t => pS.mem_iff.trans (mmS t)
    have ndq : dq ≠ r := o8.rg.ne hpn
    revert t9 oS ndM mmM
    generalize us.map (zsOf H8) = Ms
    intro oS t9 ndM mmM
    -- what is given
    have oA := o5'.trans o9
    have nmMs : ∀ t ∈ Ms, t.all isNm = true := fun t ht => by
      obtain ⟨e, he, rfl⟩ := (mmM t).mp ht
      exact can_nm (nmL e he)
    have mmL : ∀ t, t ∈ Ms ↔ t ∈ L.map fun e => can e.2 := fun t => (mmM t).trans ⟨fun ⟨e, he, q⟩ => List.mem_map.mpr ⟨e, he, q.symm⟩, fun h => let ⟨e, he, q⟩ := List.mem_map.mp h; ⟨e, he, q.symm⟩⟩
    have lS : (L.map fun e => can e.2).length ≤ 12 := by rw [List.length_map]; exact lL
    have mk5 : LbsAt C H5 mp ms (L.map fun e => can e.2) := ⟨.inl hms, by rw [List.length_map, lms], fun j m t e1 e2 => by
      rw [List.getElem?_map] at e2
      obtain ⟨e, he, rfl⟩ := Option.map_eq_some_iff.mp e2
      exact lbs j m e e1 he⟩
    have mk9 := mk5.on o9 nm
    have few : (ms.map V.ref).length ≤ 100 := by rw [List.length_map, lms]; omega
    revert mmL lS mk9
    generalize (L.map fun e => can e.2) = S
    intro mmL lS mk9
    refine ⟨_, rfl, mp, _, _, rfl, o9.lst hms nm, mk9.sw, few, fun H10 s10 => ?_⟩
    have oB := (On.refl o9.rg o9.tb).same s10
    have mk10 := mk9.on oB nm
    refine ⟨_, rfl, _, rfl, mp, _, rfl, .inl ⟨SqL.of (oB.lst (o9.lst hms nm) nm), fun tp htp => ?_⟩⟩
    have g11 : (upd H10 tp (.tup (ms.map V.ref))) tp = some (.tup (ms.map V.ref)) := upd_same
    have oC := oB.put (x := .tup (ms.map V.ref)) htp
    revert g11 oC
    generalize upd H10 tp (.tup (ms.map V.ref)) = H11
    intro g11 oC
    refine ⟨by show 2 ≤ sizeLine; decide, fun lp hlp => ?_⟩
    have g12 : (upd H11 lp (.lst [.ref mp, .ref tp])) lp = some (.lst [.ref mp, .ref tp]) := upd_same
    have s12 := same_upd (o := HO.lst [.ref mp, .ref tp]) hlp
    have nlp : lp ≠ r := oC.rg.ne hlp
    revert g12 s12
    generalize upd H11 lp (.lst [.ref mp, .ref tp]) = H12
    intro g12 s12
    have oD := oC.same s12
    refine ⟨_, rfl, r, 2, rfl, oD.rg, by decide, by decide, fun H13 n k13 hn => ?_⟩
    have oE := oD.kp k13
    have g13 := k13.1 _ _ nlp g12
    have tp13 := (((On.refl oC.rg oC.tb).same s12).kp k13).tup g11
    have ntp : tp ≠ r := oE.rg.lst tp13 fun l z => by cases z
    have mk13 := mk9.on oE nm
    obtain ⟨gv, hgv, ngv, gv13⟩ : ∃ gv, atI [V.ref mp, V.ref tp] (n : Int) = some (.ref gv) ∧ gv ≠ r ∧ LbsAt C H13 gv ms S := by
      match n, hn with
      | 0, _ => exact ⟨mp, rfl, nm, mk13⟩
      | 1, _ => exact ⟨tp, rfl, ntp, .inr tp13, mk13.2⟩
    refine ⟨lp, _, _, _, rfl, rfl, SqL.of g13, hgv, _, _, rfl, ?_⟩
    have mp13 := oE.lst (o9.lst hms nm) nm
    have due13 := oE.lst hpl ndq
    have t13 := oE.tups t9
    have oF := oA.trans oE
    have hw13 := oE.lst (o9.lst (o5.lst hw4 nw) nw) nw
    clear g12 g13 g11 s12 oB oC oD oE k13 mk9 mk10 mk5 o9 o8 o7 o6 s10 hlp htp hgv tp13 ntp nlp hpn s9 perm pw eN t7 g7 s7 T8 t8
    revert H12 H11 H10
    intro _ _ _
    -- what is told
    refine ⟨_, rfl, ?_⟩
    refine t1_sp ?_
    refine lt_of gv13 lS ndM mmL oS fun H14 q Lq us14 s14 hq g14 g14' t14 => ?_
    have oG := (On.refl oF.rg oF.tb).same s14
    have nq14 : q ≠ r := oF.rg.ne hq
    -- what is done to the lists that came back
    refine ⟨_, rfl, ?_⟩
    refine t1_sp ?_
    refine io_of (mk13.on oG nm) lS fun H15 p zs s15 hp15 g15 lzs => ?_
    refine ⟨.inl ⟨rfl, _, SqL.of g15⟩, p, _, _, rfl, rfl, g15, by rw [List.length_map, hsl]; omega, ?_⟩
    have oH1 := ((On.refl oG.rg oG.tb).same s15).upd (x := .lst (zs.map V.ref ++ [.str "spoilt"])) hp15 g15
    revert oH1
    generalize upd H15 p (.lst (zs.map V.ref ++ [.str "spoilt"])) = H16
    intro oH1
    have oH := oG.trans oH1
    have oI := oF.trans oH
    have mk16 := mk13.on oH nm
    have gv16 := gv13.on oH ngv
    refine ⟨_, rfl, rfl, ?_⟩
    refine io_of gv16 lS fun H17 p2 zs2 s17 hp17 g17 lzs2 => ?_
    refine ⟨.inl ⟨rfl, _, SqL.of g17⟩, p2, _, rfl, rfl, g17, ?_⟩
    have oJ := ((On.refl oH.rg oH.tb).same s17).upd (x := .lst []) hp17 g17
    revert oJ
    generalize upd H17 p2 (.lst []) = H18
    intro oJ
    have oK := oH.trans oJ
    have mk18 := mk13.on oK nm
    have gv18 := gv13.on oK ngv
    have nLq := t14.ner oG.rg g14'
    have oL := oH1.trans oJ
    have q18 := oL.lst g14 nq14
    have L18 := oL.lst g14' nLq
    have t18 := oL.tups t14
    have due18 := oK.lst due13 ndq
    have tu18 := oK.tups t13
    have hw18 := oK.lst hw13 nw
    have oM := oF.trans oK
    have mp18 := oK.lst mp13 nm
    clear oH oJ oL oG oI mk16 gv16 oH1 g14 g14' t14 s14 hq g15 g17 s15 s17 hp15 hp17
    -- it is compared
    obtain ⟨shD, eqD⟩ := told_sh nmMs
    refine ⟨_, rfl, _, rfl, by show 2 ≤ sizeLine; decide, fun pa hpa => ?_⟩
    have sP := same_upd (o := HO.lst [.str "labels", .ref dq]) hpa
    refine ⟨_, _, told_dp (sP _ _ q18) (sP _ _ L18) (t18.same sP), told_dp (upd_same (H := H18) (a := pa)) (sP _ _ due18) (tu18.same sP), shD, shD, _, rfl, ?_⟩
    rw [eqD]
    have oP := (On.refl oM.rg oM.tb).same sP
    revert oP sP
    generalize upd H18 pa (.lst [.str "labels", .ref dq]) = H19
    intro sP oP
    refine ite2 (fun z => by cases z) (fun _ => ?_)
    refine ⟨_, rfl, ?_⟩
    refine t1_sp ?_
    refine lt_of (gv18.on oP ngv) lS ndM mmL oS fun H20 q2 Lq2 us2 s20 hq2 h20 h20' t20 => ?_
    refine ⟨_, rfl, _, _, told_dp h20 h20' t20, told_dp ((sP.trans s20) _ _ q18) ((sP.trans s20) _ _ L18) (t18.same (sP.trans s20)), shD, shD, _, rfl, ?_⟩
    rw [eqD]
    refine ite2 (fun z => by cases z) (fun _ => ?_)
    have oQ := oP.same s20
    refine ⟨_, rfl, mp, _, _, rfl, oQ.lst mp18 nm, (mk18.on oQ nm).sw, few, fun H21 s21 => ⟨_, rfl, rfl, _, rfl, ?_⟩⟩
    have oR := oQ.same s21
    refine ite2 (fun z => absurd z (by simp)) (fun _ => ?_)
    have mk21 := mk18.on oR nm
    have hw21 := oR.lst hw18 nw
    have mp21 := oR.lst mp18 nm
    have oS2 := oM.trans oR
    clear oP sP s20 s21 oQ oR oM t18 tu18 q18 L18 due18
    -- things that are no labels are put in
    refine ⟨_, rfl, _, rfl, _, rfl, r, 2, rfl, oS2.rg, by decide, by decide, fun H22 n4 k22 hn4 => ⟨_, _, rfl, rfl, _, rfl, by omega, by omega, fun OD hOD => ?_⟩⟩
    have oT := oS2.kp k22
    have oT1 := (On.refl oS2.rg oS2.tb).kp k22
    have nOD : OD ≠ r := oT.rg.ne hOD
    have hw22 := oT1.lst hw21 nw
    have mk22 := mk21.on oT1 nm
    have mp22 := oT1.lst mp21 nm
    refine lc_range (fun i H' => On T r H22 H' ∧ ∃ os : List V, H' OD = some (.lst os) ∧ os.length = i ∧ ∀ v ∈ os, NoL K r H' v ∧ v ≠ .ref OD) ⟨(On.refl oT.rg oT.tb).put hOD, [], upd_same, rfl, fun _ h => by cases h⟩ ?_ ?_
    · rintro i H23 hi ⟨o23, os, hos, los, ok⟩
      refine ⟨rfl, _, rfl, _, rfl, r, wp, ws, rfl, o23.rg, o23.lst hw22 nw, nw, by omega, by omega, nmw, fun H24 v k24 nol fr => ⟨_, k24.1 _ _ nOD hos, by omega, (o23.kp k24).upd hOD (k24.1 _ _ nOD hos), os ++ [v], upd_same, by rw [List.length_append, los] <;> rfl, fun u hu => ?_⟩⟩
      have nv : v ≠ .ref OD := fun z => by
        have := fr OD z
        rw [hos] at this
        cases this
      rcases List.mem_append.mp hu with h | h
      · obtain ⟨a, b⟩ := ok u h
        exact ⟨(((On.refl o23.rg o23.tb).kp k24).nol a).upd b, b⟩
      · rw [List.mem_singleton.mp h]
        exact ⟨nol.upd nv, nv⟩
    rintro H23 ⟨o23, os, hos, los, ok⟩
    have mk23 := mk22.on o23 nm
    refine ⟨r, mp, OD, ms.map V.ref, os, rfl, o23.rg, nm, nOD, o23.lst mp22 nm, hos, by rw [List.length_map, mk23.2.1]; omega, by omega, by omega, fun H24 t q ys i v k24 hq nq ht hqy lys each hi hv bef => ?_⟩
    have oU1 := (On.refl o23.rg o23.tb).kp k24
    have oU := (oT.trans o23).trans oU1
    have mk24 := mk23.on oU1 nm
    have lab : ∀ u, u ∈ ms.map V.ref → ∃ m t, u = .ref m ∧ Lb C H24 m t := fun u hu => by
      obtain ⟨m, hm, rfl⟩ := List.mem_map.mp hu
      obtain ⟨j, hj, e⟩ := List.getElem_of_mem hm
      exact ⟨m, S[j]'(by rw [← mk24.2.1]; exact hj), rfl, mk24.2.2 j m _ (by rw [List.getElem?_eq_getElem hj, e]) (List.getElem?_eq_getElem _)⟩
    have nol : ∀ u ∈ os, NoL K r H24 u := fun u hu => oU1.nol (ok u hu).1
    obtain ⟨_, _, d, th, sh⟩ := nol v hv
    have mix : Mix K C r H24 q ys v d := ⟨nq, hqy, lys, th, sh, nol v hv, fun u hu => (each u hu).imp (lab u) (nol u), i, hi, fun j u hj e => lab u (bef j u hj e)⟩
    refine ⟨t, _, rfl, SqT.of ht, rfl, _, _, rfl, _, _, rfl, rfl, ?_⟩
    obtain ⟨ts, sw⟩ := mix.sw
    refine ⟨_, rfl, q, ys, ts, rfl, mix.at_, sw, by omega, fun H25 s25 => ?_⟩
    have mix25 := mix.same s25
    refine ⟨_, rfl, ?_⟩
    refine t1_sp ?_
    refine mix_lt mix25 fun H26 p s26 hp h26 => ?_
    have mix26 := mix25.same s26
    refine ⟨_, rfl, v, d, rfl, mix26.th, mix26.sh, by show 2 ≤ sizeLine; decide, fun p2 hp2 => ?_⟩
    have s27 := same_upd (o := HO.lst [.str "no label", .str d.shown]) hp2
    have mix27 := mix26.same s27
    refine ⟨p, p2, ["no label", d.shown], rfl, rfl, SqL.of (s27 _ _ h26), SqL.of upd_same, true, rfl, ?_⟩
    refine ite2 (fun _ => ?_) (fun z => absurd rfl z)
    refine ⟨_, rfl, q, ys, ts, rfl, mix27.at_, (paired_map (fun x y z => z.same ((s25.trans s26).trans s27)) sw), by omega, fun H28 s28 => ⟨_, rfl, rfl, ?_⟩⟩
    rw [decide_eq_true rfl]
    have oV := (((oU.same s25).same s26).same s27).same s28
    exact k H28 oV.kn oV.tb
end
end K15
namespace K15
open PySem L2 SR TAs LamX
/-! ### values that are drawn -/
def dv : V → PyData
  | .bl b => .bool b
  | .int i => .int i
  | .str x => .str x
  | _ => .none
theorem wv_flat {v : V} (h : Wv v) : flatN v = true := by cases v <;> first | rfl | exact h.elim
theorem wv_good {v : V} (h : Wv v) : goodV v = true := by
  cases v with
  | non => rfl
  | bl b => rfl
  | int i =>
    have h : i.natAbs < 10 ^ 30 := h
    have a : absI i < 10 ^ (30 : Int).toNat := by
      show absI i < 10 ^ 30
      unfold absI
      split <;> omega
    have e : srt (.int i) = .str "int" := if_pos a
    unfold goodV
    rw [e]
    simp
  | str x =>
    obtain ⟨a, b, c⟩ := h
    have e1 : ((x.length : Nat) : Int) ≤ 60 := by
      have : x.length = x.cps.toList.length := by rw [Array.length_toList]; rfl
      omega
    have e2 : noQ x = true := by
      unfold noQ
      simpa using c
    have e : srt (.str x) = .str "text" := if_pos (Bool.and_eq_true_iff.mpr ⟨decide_eq_true e1, e2⟩)
    unfold goodV
    rw [e]
    simp
  | _ => exact h.elim
theorem wv_cl {K : PySem.W.Frag} {H : Hp} {v : V} (h : Wv v) : Cl K H v := by
  cases v with
  | non => exact .non
  | bl b => exact .bl b
  | int i => exact .int i
  | str x => exact cl_str (Nat.le_trans h.2.1 (by decide))
  | _ => exact h.elim
theorem wv_dp {K : PySem.W.Frag} {H : Hp} {v : V} (h : Wv v) : Dp K H v (dv v) := by
  cases v with
  | non => exact .non
  | bl b => exact .bl b
  | int i => exact .int i
  | str x => exact .str x
  | _ => exact h.elim
theorem wv_th {K : PySem.W.Frag} {H : Hp} {v : V} (h : Wv v) : Th K H v (dv v) := by
  cases v with
  | non => exact .non
  | bl b => exact .bl b
  | int i => exact .int i
  | str x => exact .str x
  | _ => exact h.elim
theorem wv_sho {v : V} (h : Wv v) : Sho (dv v) ∧ (dv v).shown.length ≤ 1000 ∧ (dv v).depth = 0 ∧ (dv v).hasDict = false := by
  cases v with
  | non => exact ⟨sho_fin (by decide +kernel), by decide +kernel, by simp [dv, PyData.depth], by simp [dv, PyData.hasDict]⟩
  | bl b => cases b <;> exact ⟨sho_fin (by decide +kernel), by decide +kernel, by simp [dv, PyData.depth], by simp [dv, PyData.hasDict]⟩
  | int i =>
    have h : i.natAbs < 10 ^ 30 := h
    have lg : i.natAbs.log2 < 100 := by
      by_cases z : i.natAbs = 0
      · rw [z]; decide
      · exact (Nat.log2_lt z).mpr (Nat.lt_of_lt_of_le h (by decide +kernel : 10 ^ 30 ≤ 2 ^ 100))
    refine ⟨sho_int (by omega), ?_, by simp [dv, PyData.depth], by simp [dv, PyData.hasDict]⟩
    show (PyData.int i).shown.length ≤ 1000
    rw [PyData.shown]
    have := int_text_length_le (k := 100) (by decide) lg
    rw [ofString_length]
    omega
  | str x =>
    obtain ⟨a, b, c⟩ := h
    refine ⟨sho_str a (Nat.le_trans b (by decide)), ?_, by simp [dv, PyData.depth], by simp [dv, PyData.hasDict]⟩
    have e := StrLaws.reprText_len (txt x.cps.toList) (fun c hc => Nat.lt_trans (a c hc) (by decide))
    rw [txt_len, ← txt_of x] at e
    show (PyData.str x).shown.length ≤ 1000
    rw [PyData.shown]
    omega
  | _ => exact h.elim
def valsD (ys : List V) : PyData := .list [.str "values", .list (ys.map dv)]
theorem vals_all : ∀ ys : List V, (∀ v ∈ ys, Wv v) → PyData.showableAll (ys.map dv) = true ∧ PyData.depthAll (ys.map dv) = 0 ∧ PyData.hasDictAll (ys.map dv) = false ∧ ((PyData.shownAll (ys.map dv)).map (·.length)).sum ≤ 1000 * ys.length ∧ (PyData.shownAll (ys.map dv)).length = ys.length
  | [], _ => ⟨rfl, by simp [PyData.depthAll], rfl, by simp [PyData.shownAll], rfl⟩
  | v :: r, h => by
    obtain ⟨a, b, c, d, e⟩ := vals_all r fun u hu => h u (List.mem_cons_of_mem _ hu)
    obtain ⟨s, l, dp, nd⟩ := wv_sho (h v List.mem_cons_self)
    rw [List.map_cons]
    refine ⟨?_, ?_, ?_, ?_, ?_⟩
    · rw [PyData.showableAll, s.1, a] <;> rfl
    · rw [PyData.depthAll, dp, b] <;> rfl
    · rw [PyData.hasDictAll, nd, c] <;> rfl
    · rw [PyData.shownAll, List.map_cons, List.sum_cons, List.length_cons]
      omega
    · rw [PyData.shownAll, List.length_cons, List.length_cons, e]
theorem vals_sho {ys : List V} (h : ∀ v ∈ ys, Wv v) (l : ys.length ≤ 40) : Sho (valsD ys) ∧ PyData.hasDict (valsD ys) = false := by
  obtain ⟨a, b, c, d, e⟩ := vals_all ys h
  have inner := list_len (ys.map dv)
  have outer := list_len [.str "values", .list (ys.map dv)]
  have e0 : (PyData.str "values").shown.length ≤ 20 := by decide +kernel
  refine ⟨⟨?_, ?_, ?_⟩, ?_⟩
  · simp [valsD, PyData.showable, PyData.showableAll, a]
  · unfold valsD
    simp only [PyData.shownAll, List.map_cons, List.map_nil, List.sum_cons, List.sum_nil, List.length_cons, List.length_nil] at outer
    omega
  · simp [valsD, PyData.depth, PyData.depthAll, b]
  · simp [valsD, PyData.hasDict, PyData.hasDictAll, c]
theorem vals_dp {K : PySem.W.Frag} {H : Hp} : ∀ {ys : List V}, (∀ v ∈ ys, Wv v) → DpAll K H ys (ys.map dv)
  | [], _ => .nil
  | v :: r, h => .cons (wv_dp (h v List.mem_cons_self)) (vals_dp fun u hu => h u (List.mem_cons_of_mem _ hu))
theorem vals_at {K : PySem.W.Frag} {H : Hp} {q L : Addr} {ys : List V} (w : ∀ v ∈ ys, Wv v) (h1 : H q = some (.lst [.str "values", .ref L])) (h2 : H L = some (.lst ys)) : Dp K H (.ref q) (valsD ys) :=
  .lst (SqL.of h1) (.cons (.str _) (.cons (.lst (SqL.of h2) (vals_dp w)) .nil))
theorem vals_sw {K : PySem.W.Frag} {C : Addr} {H : Hp} : ∀ {ys : List V}, (∀ v ∈ ys, Wv v) → Paired (Sw K C H) ys (ys.map fun v => (dv v).shown)
  | [], _ => .nil
  | v :: r, h => .cons (.dat (wv_th (h v List.mem_cons_self)) (wv_sho (h v List.mem_cons_self)).1) (vals_sw fun u hu => h u (List.mem_cons_of_mem _ hu))
/-! ### what is no value -/
theorem th_cl {K : PySem.W.Frag} {H H0 : Hp} {v : V} {d : PyData} (h : Th K H v d) (c : Cl K H0 v) : Cl K H v := by
  cases h with
  | non => exact .non
  | bl b => exact .bl b
  | int i => exact .int i
  | str x => cases c with | str l hl => exact .str l hl
  | lst q => exact cl_lst q
  | tup q => exact cl_tup q
  | d0 q => exact cl_dic q
  | d1 q => exact cl_dic q
theorem nov_keep {K : PySem.W.Frag} {C r : Addr} {H H' : Hp} {v : V} (h : NoV K C r H v) (s : ∀ a o, v = .ref a → H a = some o → (∀ ps, o ≠ .tbl ps) → H' a = some o) (sl : ∀ p ys, v = .ref p → Lb C H p ys → Lb C H' p ys) : NoV K C r H' v := by
  obtain ⟨n, h⟩ := h
  refine ⟨n, ?_⟩
  rcases h with ⟨d, a, b, c, e⟩ | ⟨p, e, l⟩
  · have t := th_keep a s
    exact .inl ⟨d, t, b, th_cl t c, e⟩
  · exact .inr ⟨p, e, sl p _ e l⟩
theorem On.nov {K : PySem.W.Frag} {C r : Addr} {T : List (Addr × Str)} {H H' : Hp} {v : V} (o : On T r H H') (h : NoV K C r H v) : NoV K C r H' v := nov_keep h (fun a x e q w => o.kn.1 a x (fun z => h.1 (by rw [e, z])) q w) fun p ys _ l => o.lab l
theorem NoV.same {K : PySem.W.Frag} {C r : Addr} {H H' : Hp} {v : V} (h : NoV K C r H v) (s : Same H H') : NoV K C r H' v := nov_keep h (fun a x _ q _ => s a x q) fun p ys _ l => l.same s
theorem NoV.upd {K : PySem.W.Frag} {C r b : Addr} {H : Hp} {v : V} {l l' : List V} (h : NoV K C r H v) (n : v ≠ .ref b) (e : H b = some (.lst l)) : NoV K C r (L2.upd H b (.lst l')) v := nov_keep h (fun a x z q _ => by
    rw [upd_ne (fun w => n (by rw [z, w]))]
    exact q) fun p ys _ lb => lb.keep fun a x q c => by
    rw [upd_ne (fun w => by rw [w, e] at q; rcases c with ⟨xs, z⟩ | ⟨D, dx, fs, z⟩ <;> rw [← Option.some.inj q] at z <;> cases z)]
    exact q
theorem nov_bad {K : PySem.W.Frag} {C r : Addr} {H : Hp} {v : V} (h : NoV K C r H v) : goodV v = false := by
  rcases h.2 with ⟨d, _, _, _, e⟩ | ⟨p, e, _⟩
  · exact e
  · rw [e]; exact goodV_ref p
theorem nov_odt {K : PySem.W.Frag} {C r : Addr} {H : Hp} {v : V} (h : NoV K C r H v) : ∃ t, Odt K C H v t := by
  rcases h.2 with ⟨d, a, b, _, _⟩ | ⟨p, e, l⟩
  · exact ⟨_, .inl ⟨d, a, b, rfl⟩⟩
  · exact ⟨_, .inr ⟨p, e, l, rfl⟩⟩
/-- a list of values with things put in that are none -/
structure MixV (K : PySem.W.Frag) (C r : Addr) (H : Hp) (q : Addr) (ys : List V) (v : V) (t : Str) : Prop where
  nq : q ≠ r
  at_ : H q = some (.lst ys)
  few : ys.length ≤ 45
  od : Odt K C H v t
  nv : NoV K C r H v
  each : ∀ u ∈ ys, Wv u ∨ NoV K C r H u
  pos : ∃ i : Nat, ys[i]? = some v ∧ ∀ (j : Nat) u, j < i → ys[j]? = some u → Wv u
theorem MixV.same {K : PySem.W.Frag} {C r : Addr} {H H' : Hp} {q : Addr} {ys : List V} {v : V} {t : Str} (h : MixV K C r H q ys v t) (s : Same H H') : MixV K C r H' q ys v t := ⟨h.nq, s _ _ h.at_, h.few, h.od.same s, h.nv.same s, fun u hu => (h.each u hu).imp id fun z => z.same s, h.pos⟩
theorem MixV.sw {K : PySem.W.Frag} {C r : Addr} {H : Hp} {q : Addr} {ys : List V} {v : V} {t : Str} (h : MixV K C r H q ys v t) : ∃ ts, Paired (Sw K C H) ys ts := by
  have : ∀ us : List V, (∀ u ∈ us, u ∈ ys) → ∃ ts, Paired (Sw K C H) us ts := fun us => by
    induction us with
    | nil => exact fun _ => ⟨[], .nil⟩
    | cons u us ih =>
      intro hu
      obtain ⟨ts, p⟩ := ih fun x hx => hu x (List.mem_cons_of_mem _ hx)
      rcases h.each u (hu u List.mem_cons_self) with w | ⟨_, ⟨d, th, sh, _⟩ | ⟨m, rfl, l⟩⟩
      · exact ⟨_, .cons (.dat (wv_th w) (wv_sho w).1) p⟩
      · exact ⟨_, .cons (.dat th sh) p⟩
      · exact ⟨_, .cons (.lab l) p⟩
  exact this ys fun _ hu => hu
section
variable {K : PySem.W.Frag} {mg : Str → Option Value} {C gE gL gS gR gH pM gM : Addr} {dE dL dS dR dH dM : FuncData}
theorem mix_vt {r : Addr} {H : Hp} {q : Addr} {ys : List V} {v : V} {t : Str} {Q : VK} {E : XK} (M : LabM K mg C gE gL gS gR gH pM gM dE dL dS dR dH dM) (kI : ∀ T ∈ ["bool", "int", "str"], PySem.W.kitOne K (.ref C) (.type T) = some false) (h : MixV K C r H q ys v t)
    (k : ∀ H' p, Same H H' → H p = none → H' p = some (.lst [.str "no value", .str t]) → Q (.ref p) H') : spVT K C [.ref q] H Q E := by
  obtain ⟨i0, hi0, bef⟩ := h.pos
  have bad := nov_bad h.nv
  have fb : ys.find? badV = some v := find_bad hi0 (List.all_eq_true.mpr fun u hu => by
    obtain ⟨j, hj, e⟩ := List.getElem_of_mem hu
    rw [List.length_take] at hj
    rw [List.getElem_take] at e
    exact wv_good (bef j u (by omega) (by rw [List.getElem?_eq_getElem (by omega), e]))) bad
  refine ⟨q, ys, rfl, .inl (SqL.of h.at_), by have := h.few; omega, fun u hu => ?_, fun u hu => ?_, fun al => ?_⟩
  · rcases h.each u hu with w | ⟨_, ⟨d, _, _, c, _⟩ | ⟨m, rfl, l⟩⟩
    · exact wv_cl w
    · exact c
    · exact cl_lab M kI l
  · rw [fb] at hu
    cases hu
    exact ⟨t, h.od, k⟩
  · have := List.all_eq_true.mp al v (List.mem_of_getElem? hi0)
    rw [bad] at this
    cases this
/-- a list or a tuple of values -/
theorem vt_of {H : Hp} {gv : Addr} {ws zs : List V} {Q : VK} {E : XK} (h : H gv = some (.lst ws) ∨ H gv = some (.tup ws)) (l : ws.length ≤ 40) (w : ∀ v ∈ ws, Wv v) (vs : VS ws zs)
    (k : ∀ H' q L, Same H H' → H q = none → H' q = some (.lst [.str "values", .ref L]) → H' L = some (.lst zs) → H L = none → Q (.ref q) H') : spVT K C [.ref gv] H Q E := by
  have al : ws.all goodV = true := List.all_eq_true.mpr fun v hv => wv_good (w v hv)
  refine ⟨gv, ws, rfl, h.elim (fun e => .inl (SqL.of e)) (fun e => .inr (SqT.of e)), by omega, fun v hv => wv_cl (w v hv), fun v hv => ?_, fun _ ys H' q L vs' s hq h1 h2 h0 => ?_⟩
  · have a := List.find?_some hv
    have b := wv_good (w v (List.mem_of_find?_eq_some hv))
    simp [badV, b] at a
  · obtain rfl := VS.unique (fun v hv => wv_flat (w v hv)) vs vs'
    exact k H' q L s hq h1 h2 h0
theorem vo_of {CY : Addr} {H : Hp} {gv : Addr} {ws : List V} {Q : VK} {E : XK} (h : H gv = some (.lst ws) ∨ H gv = some (.tup ws)) (l : ws.length ≤ 40) (w : ∀ v ∈ ws, Wv v)
    (k : ∀ H' p ys, Same H H' → H p = none → H' p = some (.lst ys) → ys.length ≤ 40 → Q (.ref p) H') : spVO K CY [.ref gv] H Q E := by
  refine ⟨gv, ws, rfl, h.elim (fun e => .inl (SqL.of e)) (fun e => .inr (SqT.of e)), by omega, fun v hv => wv_cl (w v hv), fun v hv => ?_, fun _ ys H' q vs' s hq h1 => ?_⟩
  · have a := List.find?_some hv
    have b := wv_good (w v (List.mem_of_find?_eq_some hv))
    simp [badV, b] at a
  · exact k H' q ys s hq h1 (by rw [vs'.1.length_eq]; exact l)
end
section
variable {X : Cx} {C g : Addr} {gd : FuncData}
/-- repr of data or a label -/
theorem call_reprC (gs : X.A.guards = some []) (un : X.A.units + 200 < cLine) (hs : PySem.W.findIn X.K (.ref C) "__repr__" = some (some (.ref g))) (hf : PySem.W.isFn X.K (.ref g) = true) (F : FnOk X.prog X.w X.K X.mg X.base CX0 1 g gd ["self"] (spRepr C)) (hb : Binds X.K gd ["self"] []) (hr : Room 2 X.A) :
    CallR X (.builtin "repr") (fun xs H Q => ∃ v t, xs = [v] ∧ Odt X.K C H v t ∧ ∀ H', Same H H' → Q (.str t) H') := by
  rintro pins s σ H xs us Q I r ⟨v, t, rfl, h, k⟩
  rcases h with ⟨d, a, b, rfl⟩ | ⟨p, rfl, b, rfl⟩
  · exact call_reprD gs un pins s σ H _ us Q I r ⟨v, d, rfl, a, b, k H (Same.refl H)⟩
  · obtain ⟨dx, fs, e⟩ := b.ins
    exact EqO.call_reprO (E := E0) hs hf (F.raw hb .nil) hr pass0 pins s σ H _ us Q I r ⟨p, dx, fs, rfl, e, p, [], rfl, b, fun H' sm => ⟨_, rfl, k H' sm⟩⟩
end
end K15
namespace K15
open PySem L2 SR TAs LamX
/-- the defs that _law_values_right calls -/
structure VEnv (K : PySem.W.Frag) (mg : Str → Option Value) (fD fC fV fNV fVT fSp fO fK : Addr) (dD dC dV dNV dVT dSp dO dK : FuncData) : Prop where
  B : BEnv mg
  zL : mg "list" = none
  zT : mg "tuple" = none
  zO : mg "sorted" = none
  D : At K mg "_law_draw" sDraw ["_law_rng_here", "_law_many"] fD dD
  Ch : At K mg "_law_choice" sChoice ["_law_rng_here", "_law_options"] fC dC
  V : At K mg "_law_value" sValue ["_law_rng_here"] fV dV
  NV : At K mg "_law_no_value" sNoVal ["_law_rng_here"] fNV dNV
  VT : At K mg "_law_values_told" sValTold ["_law_things"] fVT dVT
  Sp : At K mg "_law_spoilt" sSpoilt ["_law_rng_here", "_law_things", "_law_odds"] fSp dSp
  O : At K mg "in_value_order" sVOrder ["values"] fO dO
  kO : ∀ (s : Shared) (u : Value), BindsTo s dO ⟨[], [("values", u)]⟩ [("values", u)]
  Rk : At K mg "_law_rank" sLRnk ["_law_value_here"] fK dK
abbrev nVR : List Str := ["_law_rng_here", "_law_worths", "_law_due", "_law_shown", "_law_given", "_law_told", "_law_spoilt_here", "_law_first", "_law_k"]
theorem scVR : FnScope nVR ["_law_rng_here"] (defScope sValRight) := ⟨rfl, rfl, rfl, by decide +kernel, rfl, by decide +kernel, by decide +kernel⟩
section
variable {P : Program} {w : World} {K : PySem.W.Frag} {mg : Str → Option Value} {base : Heap}
variable {C gE gL gS gR gH pM gM CL CN fN CM fM fL : Addr} {dE dL dS dR dH dG dN dM dI : FuncData}
variable {fD fC fV fNV fVT fSp fO fK CY : Addr} {dD dC dV dNV dVT dSp dO dK : FuncData}
theorem ok_valright {T : List (Addr × Str)} {f c : Addr} {fd : FuncData} (F : L2.Fun K "_law_values_right" "_law_values_right" sValRight f fd) (hc : fd.code = .ref c)
    (S : VEnv K mg fD fC fV fNV fVT fSp fO fK dD dC dV dNV dVT dSp dO dK) (L : LabC K mg C fL CN fN CM fM dI dN dM) (M : LabM K mg C gE gL gS gR gH pM gM dE dL dS dR dH dG) (Z : Zn mg) (kI : ∀ T ∈ ["bool", "int", "str"], PySem.W.kitOne K (.ref C) (.type T) = some false)
    (GI : FnR P w K mg base (L2.CX P w) 3 fL (fun vs H Q E => ∃ ws rest, vs = ws ++ rest ∧ ws.length = ([("self" : Str)]).length ∧ rest.length ≤ sizeLine ∧ ∀ p, H p = Option.none → spInit K C CN CM (ws ++ [V.ref p]) (upd H p (.tup rest)) Q E))
    (GO : FnOk P w K mg base (L2N.CX P w) 4 fO dO ["values"] (spVO K CY)) (GVT : FnG P w K mg base 5 fVT dVT ["_law_things"] (spVT K C)) :
    FnG P w K mg base 7 f fd ["_law_rng_here"] (spLR T) := by
  have GD : FnOk P w K mg base CX0 1 fD dD ["_law_rng_here", "_law_many"] spDraw := ok_draw S.D.F S.B
  have GV : FnOk P w K mg base CX0 3 fV dV ["_law_rng_here"] spValue := ok_value S.V.F S.B S.D S.Ch
  have GNV : FnOk P w K mg base CX0 5 fNV dNV ["_law_rng_here"] (spNoVal K C) := ok_noval S.NV.F S.B L S.D S.Ch GI
  have GSp : FnOk P w K mg base CX0 2 fSp dSp ["_law_rng_here", "_law_things", "_law_odds"] spSp := ok_spoilt S.Sp.F S.B S.zL S.D
  have GR : FnOk P w K mg base CX0 1 gR dR ["self"] (spRepr C) := ok_repr M Z
  have GK : FnR P w K mg base CX0 1 fK (fun vs H Q E => spVRank K (vs ++ []) H Q E) := (ok_lrank S.Rk.F Z).raw S.Rk.b .nil
  refine okGC F hc scVR (fun vs H Q E h => ?_) (fun A outer s H vs Q E gd hr h => ?_)
  · obtain ⟨r, rfl, _⟩ := h
    rfl
  · have h1 := hr.mono (j := 1) (by decide)
    have h2 := hr.mono (j := 2) (by decide)
    have h3 := hr.mono (j := 3) (by decide)
    have h4 := hr.mono (j := 4) (by decide)
    have h5 := hr.mono (j := 5) (by decide)
    have un : (A.deeper (PyProof.Rows.envOfC "_law_values_right" (defScope sValRight) s.heap.objs.size f (.ref c))).units + 200 < cLine := by have := hr.un; omega
    have un64 : (A.deeper (PyProof.Rows.envOfC "_law_values_right" (defScope sValRight) s.heap.objs.size f (.ref c))).units + 64 < cLine := by omega
    obtain ⟨r, rfl, g, hT, k⟩ := h
    refine ⟨_, pss_cons (ps_setLc (i := 1) (own := [("_law_k", 8)]) (g := gName 8) (tt := tYes) rfl scVR.nd rfl rfl (sw_true rfl rfl rfl rfl) (pi_range1 (by rfl) S.B.zRange (pa_cons (pe_call GD h1 (by rfl) S.D.m S.D.F.kp S.D.b .nil pass0 (pa_cons (pv 0) (pa_cons pe_int pa_nil))) pa_nil)) (blkOk_by (N := nVR) (sc := defScope sValRight) (by decide +kernel))
          (fun _ _ _ _ _ => pg_name (i := 8) scVR.nd rfl (Or.inl rfl)) (fun _ _ _ _ _ => pts_nil) (fun _ _ _ _ _ => pe_call GV h3 (by rfl) S.V.m S.V.F.kp S.V.b .nil pass0 (pa_cons (pv 0) pa_nil)))
      (pss_cons (ps_set (i := 1) scVR.nd rfl (Or.inl rfl) (pe_op op_cat (pv 1) (pe_slice sl_list (pv 1) po_none (po_some (pe_call GD h1 (by rfl) S.D.m S.D.F.kp S.D.b .nil pass0 (pa_cons (pv 0) (pa_cons pe_int pa_nil)))))))
      (pss_cons (ps_set (i := 2) scVR.nd rfl (Or.inl rfl) (pe_callBK (SortVH.cr_sortK GK (h3.in1.in1) h3.in1.in1.units0) (by rfl) S.zO (by decide +kernel) (pa_cons (pv 1) pa_nil) (pk_cons (pe_glob (v := .ref fK) (by rfl) S.Rk.m rfl) pk_nil)))
      (pss_cons (ps_par (i := 3) (j := 4) rfl scVR.nd rfl rfl (by decide) rfl rfl (pa_cons (pe_callB (call_reprW GR M.bR M.fR M.iR hr gd) (by rfl) Z.zRepr (by decide +kernel) (pa_cons (pv 1) pa_nil)) (pa_cons (pe_ix ix_list (pe_lst (pa_cons (pv 1) (pa_cons (pe_callTy call_tuple_of (by rfl) S.zT (by decide +kernel) (pa_cons (pv 1) pa_nil)) pa_nil)))
            (pe_call GD h1 (by rfl) S.D.m S.D.F.kp S.D.b .nil pass0 (pa_cons (pv 0) (pa_cons pe_int pa_nil))) (fun _ _ => rfl)) pa_nil)) rfl)
      (pss_cons (ps_set (i := 5) scVR.nd rfl (Or.inl rfl) (pe_callG GVT gd h5 (by rfl) S.VT.m S.VT.F.kp S.VT.b (pa_cons (pv 4) pa_nil)))
      (pss_cons (ps_expr (pe_bm PySem.F.plainAttrs_list PySem.F.slot_list_append PySem.F.type_list_append mt_append (pe_call (E := E0) GO h4 (by rfl) S.O.m S.O.F.kp S.O.b .nil passN0 (pa_cons (pv 1) pa_nil)) (pa_cons pe_str pa_nil)))
      (pss_cons (ps_expr (pe_bm0 PySem.F.plainAttrs_list PySem.F.slot_list_clear PySem.F.type_list_clear mt_clear (pe_callKw1 (E := fun _ => E0) GO h4 (by rfl) S.O.m S.O.F.kp S.kO (fun σ => L2N.passAt takesN0 σ) (pv 4))))
      (pss_cons (ps_if (PW.pt (pw_or (pt_cmpR op_ne (pe_callB (call_reprN gd un) (by rfl) Z.zRepr (by decide +kernel) (pa_cons (pv 5) pa_nil)) (pe_callB (call_reprN gd un) (by rfl) Z.zRepr (by decide +kernel) (pa_cons (pe_lst (pa_cons pe_str (pa_cons (pv 2) pa_nil))) pa_nil)) (nomark _)) (pw_or (pt_cmpR op_ne (pe_callB (call_reprN gd un) (by rfl) Z.zRepr (by decide +kernel) (pa_cons (pe_callG GVT gd h5 (by rfl) S.VT.m S.VT.F.kp S.VT.b (pa_cons (pv 4) pa_nil)) pa_nil)) (pe_callB (call_reprN gd un) (by rfl) Z.zRepr (by decide +kernel) (pa_cons (pv 5) pa_nil)) (nomark _))
            (pw_or1 (pt_cmpR op_ne (pe_callB (call_reprW GR M.bR M.fR M.iR hr gd) (by rfl) Z.zRepr (by decide +kernel) (pa_cons (pv 1) pa_nil)) (pv 3) (nomark _)))))) (pss_one (ps_ret pe_bl)) pss_nil)
      (pss_cons (ps_asg (pe_call GSp h2 (by rfl) S.Sp.m S.Sp.F.kp S.Sp.b .nil pass0 (pa_cons (pv 0) (pa_cons (pv 1) (pa_cons (pe_lc (own := [("_law_k", 8)]) (g := gName 8) (tt := tYes) rfl scVR.nd (pi_range1 (by rfl) S.B.zRange (pa_cons (pe_op op_add pe_int (pe_call GD h1 (by rfl) S.D.m S.D.F.kp S.D.b .nil pass0 (pa_cons (pv 0) (pa_cons pe_int pa_nil)))) pa_nil))
            (blkOk_by (N := nVR) (sc := defScope sValRight) (by decide +kernel)) (fun _ _ _ _ _ => pg_name (i := 8) scVR.nd rfl (Or.inl rfl)) (fun _ _ _ _ _ => pts_nil) (fun _ _ _ _ _ => pe_call GNV h5 (by rfl) S.NV.m S.NV.F.kp S.NV.b .nil pass0 (pa_cons (pv 0) pa_nil))) pa_nil))))
            (pg_tup rfl (pgs_cons (pg_name (i := 6) scVR.nd rfl (Or.inl rfl)) (pgs_cons (pg_name (i := 7) scVR.nd rfl (Or.inl rfl)) pgs_nil))))
      (pss_cons (ps_set (i := 3) scVR.nd rfl (Or.inl rfl) (pe_callB (call_reprW GR M.bR M.fR M.iR hr gd) (by rfl) Z.zRepr (by decide +kernel) (pa_cons (pv 6) pa_nil)))
      (pss_one (ps_ret (pe_and (pe_cmpR (StL.op_eq un64) (pe_callG GVT gd h5 (by rfl) S.VT.m S.VT.F.kp S.VT.b (pa_cons (pv 6) pa_nil)) (pe_lst (pa_cons pe_str (pa_cons (pe_callB (call_reprC gd un M.fR M.iR GR M.bR h2) (by rfl) Z.zRepr (by decide +kernel) (pa_cons (pv 7) pa_nil)) pa_nil))) (nomark _))
        (pe_one (pe_cmpR op_eq (pe_callB (call_reprW GR M.bR M.fR M.iR hr gd) (by rfl) Z.zRepr (by decide +kernel) (pa_cons (pv 6) pa_nil)) (pv 3) (nomark _))))))))))))))), ?_⟩
    have hsl : sizeLine = 16777216 := sizeLine_eq
    refine ⟨_, rfl, r, 15, rfl, g, by decide, by decide, fun H1 n k1 hn => ⟨_, rfl, by omega, by omega, fun D hD => ?_⟩⟩
    have o1 := (On.refl g hT).kp k1
    have nD : D ≠ r := o1.rg.ne hD
    refine lc_range (fun i H' => On T r H1 H' ∧ ∃ xs : List V, H' D = some (.lst xs) ∧ xs.length = i ∧ ∀ v ∈ xs, Wv v) ⟨(On.refl o1.rg o1.tb).put hD, [], upd_same, rfl, fun _ h => by cases h⟩ ?_ ?_
    · rintro i H2 hi ⟨o2, xs, hx, lx, wx⟩
      refine ⟨rfl, _, rfl, r, rfl, o2.rg, fun H3 v k3 wv => ⟨_, k3.1 _ _ nD hx, by omega, (o2.kp k3).upd hD (k3.1 _ _ nD hx), xs ++ [v], upd_same, by rw [List.length_append, lx] <;> rfl, fun u hu => ?_⟩⟩
      rcases List.mem_append.mp hu with h | h
      · exact wx u h
      · rw [List.mem_singleton.mp h]
        exact wv
    rintro H2 ⟨o2, xs, hx, lx, wx⟩
    have o2 := o1.trans o2
    refine ⟨_, rfl, _, rfl, _, rfl, r, 3, rfl, o2.rg, by decide, by decide, fun H3 m k3 hm => ⟨_, rfl, D, xs, rfl, SqL.of (k3.1 _ _ nD hx), fun p hp => ?_⟩⟩
    have o3 := o2.kp k3
    have hx3 := same_upd (o := HO.lst (cutV xs none (some (m : Int)))) hp _ _ (k3.1 _ _ nD hx)
    have oc := o3.put (x := .lst (cutV xs none (some (m : Int)))) hp
    have lc := cutV_length xs none (some (m : Int))
    have wc : ∀ v ∈ cutV xs none (some (m : Int)), Wv v := fun v hv => wx v (List.mem_of_mem_drop (List.mem_of_mem_take hv))
    refine ⟨D, p, xs, _, rfl, rfl, hx3, upd_same, by omega, fun wp hwp => ?_⟩
    have nw : wp ≠ r := oc.rg.ne hwp
    have o4 := oc.put (x := .lst (xs ++ cutV xs none (some (m : Int)))) hwp
    have hw4 : (upd (upd H3 p (.lst (cutV xs none (some (m : Int))))) wp (.lst (xs ++ cutV xs none (some (m : Int))))) wp = some (.lst (xs ++ cutV xs none (some (m : Int)))) := upd_same
    have ww : ∀ v ∈ xs ++ cutV xs none (some (m : Int)), Wv v := fun v hv => (List.mem_append.mp hv).elim (wx v) (wc v)
    have lw : (xs ++ cutV xs none (some (m : Int))).length ≤ 30 := by rw [List.length_append]; omega
    revert o4 hw4 ww lw
    generalize xs ++ cutV xs none (some (m : Int)) = ws
    generalize upd (upd H3 p (.lst (cutV xs none (some (m : Int))))) wp (.lst ws) = H4
    intro o4 hw4 ww lw
    clear o1 o2 o3 oc k1 k3 hx hx3 wx wc lc hp hwp hD
    -- sorted, for itself
    refine ⟨_, rfl, wp, ws, vrank, rfl, rfl, .inl (SqL.of hw4), fun x hx H5 s5 => ⟨x, rfl, wv_cl (ww x hx), wv_flat (ww x hx), fun kv H6 s6 ik => ⟨s6, ik⟩⟩, fun zs H9 dq pm pw s9 hdq hdl => ?_⟩
    have vs : VS ws zs := ⟨pm, pw⟩
    have wz : ∀ v ∈ zs, Wv v := fun v hv => ww v (pm.mem_iff.mp hv)
    have lz : zs.length ≤ 40 := by rw [pm.length_eq]; omega
    have ndq : dq ≠ r := o4.rg.ne hdq
    have o9 := (On.refl o4.rg o4.tb).same s9
    have oA := o4.trans o9
    have hw9 := o9.lst hw4 nw
    obtain ⟨shV, ndV⟩ := vals_sho wz lz
    -- what is given
    refine ⟨_, rfl, wp, _, _, rfl, hw9, vals_sw ww, by omega, fun H10 s10 => ?_⟩
    have oB := (On.refl oA.rg oA.tb).same s10
    refine ⟨_, rfl, _, rfl, wp, _, rfl, .inl ⟨SqL.of (oB.lst hw9 nw), fun tp htp => ?_⟩⟩
    have g11 : (upd H10 tp (.tup ws)) tp = some (.tup ws) := upd_same
    have oC := oB.put (x := .tup ws) htp
    revert g11 oC
    generalize upd H10 tp (.tup ws) = H11
    intro g11 oC
    refine ⟨by show 2 ≤ sizeLine; decide, fun lp hlp => ?_⟩
    have g12 : (upd H11 lp (.lst [.ref wp, .ref tp])) lp = some (.lst [.ref wp, .ref tp]) := upd_same
    have s12 := same_upd (o := HO.lst [.ref wp, .ref tp]) hlp
    have nlp : lp ≠ r := oC.rg.ne hlp
    revert g12 s12
    generalize upd H11 lp (.lst [.ref wp, .ref tp]) = H12
    intro g12 s12
    have oD := oC.same s12
    refine ⟨_, rfl, r, 2, rfl, oD.rg, by decide, by decide, fun H13 n k13 hn => ?_⟩
    have oE := oD.kp k13
    have g13 := k13.1 _ _ nlp g12
    have tp13 := (((On.refl oC.rg oC.tb).same s12).kp k13).tup g11
    have ntp : tp ≠ r := oE.rg.lst tp13 fun l z => by cases z
    have w13 := oE.lst hw9 nw
    obtain ⟨gv, hgv, ngv, gv13⟩ : ∃ gv, atI [V.ref wp, V.ref tp] (n : Int) = some (.ref gv) ∧ gv ≠ r ∧ (H13 gv = some (.lst ws) ∨ H13 gv = some (.tup ws)) := by
      match n, hn with
      | 0, _ => exact ⟨wp, rfl, nw, .inl w13⟩
      | 1, _ => exact ⟨tp, rfl, ntp, .inr tp13⟩
    refine ⟨lp, _, _, _, rfl, rfl, SqL.of g13, hgv, _, _, rfl, ?_⟩
    have due13 := oE.lst hdl ndq
    have oF := oA.trans oE
    have onv : ∀ {H1 H2 : Hp}, On T r H1 H2 → (H1 gv = some (.lst ws) ∨ H1 gv = some (.tup ws)) → (H2 gv = some (.lst ws) ∨ H2 gv = some (.tup ws)) := fun o h => h.elim (fun e => .inl (o.lst e ngv)) fun e => .inr (o.tup e)
    clear g12 g13 g11 s12 oB oC oD oE k13 o9 s10 hlp htp hgv tp13 ntp nlp s9 hdq
    -- what is told
    refine ⟨_, rfl, ?_⟩
    refine t1_sp ?_
    refine vt_of gv13 (by omega) ww vs fun H14 q Lq s14 hq g14 g14' hLq => ?_
    have oG := (On.refl oF.rg oF.tb).same s14
    have nq14 : q ≠ r := oF.rg.ne hq
    -- what is done to the lists that came back
    refine ⟨_, rfl, ?_⟩
    refine t1_sp ?_
    refine vo_of (.inl (oG.lst w13 nw)) (by omega) ww fun H15 p us s15 hp15 g15 lus => ?_
    refine ⟨.inl ⟨rfl, _, SqL.of g15⟩, p, _, _, rfl, rfl, g15, by omega, ?_⟩
    have oH1 := ((On.refl oG.rg oG.tb).same s15).upd (x := .lst (us ++ [.str "spoilt"])) hp15 g15
    revert oH1
    generalize upd H15 p (.lst (us ++ [.str "spoilt"])) = H16
    intro oH1
    have oH := oG.trans oH1
    refine ⟨_, rfl, rfl, ?_⟩
    refine vo_of (onv oH gv13) (by omega) ww fun H17 p2 us2 s17 hp17 g17 lus2 => ?_
    refine ⟨.inl ⟨rfl, _, SqL.of g17⟩, p2, _, rfl, rfl, g17, ?_⟩
    have oJ := ((On.refl oH.rg oH.tb).same s17).upd (x := .lst []) hp17 g17
    revert oJ
    generalize upd H17 p2 (.lst []) = H18
    intro oJ
    have oK := oH.trans oJ
    have nLq : Lq ≠ r := oF.rg.ne hLq
    have oL := oH1.trans oJ
    have q18 := oL.lst g14 nq14
    have L18 := oL.lst g14' nLq
    have due18 := oK.lst due13 ndq
    have oM := oF.trans oK
    have w18 := oK.lst w13 nw
    have gv18 := onv oK gv13
    clear oH oJ oL oG oH1 g14 g14' s14 hq g15 g17 s15 s17 hp15 hp17
    -- it is compared
    refine ⟨_, rfl, _, valsD zs, rfl, vals_at wz q18 L18, ndV, shV, ?_⟩
    refine ⟨_, rfl, by show 2 ≤ sizeLine; decide, fun pa hpa => ?_⟩
    have sP := same_upd (o := HO.lst [.str "values", .ref dq]) hpa
    refine ⟨_, valsD zs, rfl, vals_at wz (upd_same (H := H18) (a := pa)) (sP _ _ due18), ndV, shV, rfl, _, rfl, ?_⟩
    have oP := (On.refl oM.rg oM.tb).same sP
    revert sP oP
    generalize upd H18 pa (.lst [.str "values", .ref dq]) = H19
    intro sP oP
    refine ite2 (fun z => absurd z (by simp)) (fun _ => ?_)
    refine ⟨_, rfl, ?_⟩
    refine t1_sp ?_
    refine vt_of (onv oP gv18) (by omega) ww vs fun H20 q2 Lq2 s20 hq2 h20 h20' _ => ?_
    refine ⟨_, valsD zs, rfl, vals_at wz h20 h20', ndV, shV, ?_⟩
    refine ⟨_, rfl, _, valsD zs, rfl, vals_at wz ((sP.trans s20) _ _ q18) ((sP.trans s20) _ _ L18), ndV, shV, rfl, _, rfl, ?_⟩
    refine ite2 (fun z => absurd z (by simp)) (fun _ => ?_)
    have oQ := oP.same s20
    refine ⟨_, rfl, wp, _, _, rfl, oQ.lst w18 nw, vals_sw ww, by omega, fun H21 s21 => ⟨_, rfl, rfl, _, rfl, ?_⟩⟩
    have oR := oQ.same s21
    refine ite2 (fun z => absurd z (by simp)) (fun _ => ?_)
    have w21 := oR.lst w18 nw
    have oS2 := oM.trans oR
    clear oP sP s20 s21 oQ oR oM q18 L18 due18
    -- things that are no values are put in
    refine ⟨_, rfl, _, rfl, _, rfl, r, 2, rfl, oS2.rg, by decide, by decide, fun H22 n4 k22 hn4 => ⟨_, _, rfl, rfl, _, rfl, by omega, by omega, fun OD hOD => ?_⟩⟩
    have oT := oS2.kp k22
    have nOD : OD ≠ r := oT.rg.ne hOD
    have w22 := k22.1 _ _ nw w21
    refine lc_range (fun i H' => On T r H22 H' ∧ ∃ os : List V, H' OD = some (.lst os) ∧ os.length = i ∧ ∀ v ∈ os, NoV K C r H' v ∧ v ≠ .ref OD) ⟨(On.refl oT.rg oT.tb).put hOD, [], upd_same, rfl, fun _ h => by cases h⟩ ?_ ?_
    · rintro i H23 hi ⟨o23, os, hos, los, ok⟩
      refine ⟨rfl, _, rfl, r, rfl, o23.rg, fun H24 v k24 nov fr => ⟨_, k24.1 _ _ nOD hos, by omega, (o23.kp k24).upd hOD (k24.1 _ _ nOD hos), os ++ [v], upd_same, by rw [List.length_append, los] <;> rfl, fun u hu => ?_⟩⟩
      have nv : v ≠ .ref OD := fun z => by
        have := fr OD z
        rw [hos] at this
        cases this
      rcases List.mem_append.mp hu with h | h
      · obtain ⟨a, b⟩ := ok u h
        exact ⟨(((On.refl o23.rg o23.tb).kp k24).nov a).upd b (k24.1 _ _ nOD hos), b⟩
      · rw [List.mem_singleton.mp h]
        exact ⟨nov.upd nv (k24.1 _ _ nOD hos), nv⟩
    rintro H23 ⟨o23, os, hos, los, ok⟩
    refine ⟨r, wp, OD, ws, os, rfl, o23.rg, nw, nOD, o23.lst w22 nw, hos, by omega, by omega, by omega, fun H24 t q ys i v k24 hq nq ht hqy lys each hi hv bef => ?_⟩
    have oU1 := (On.refl o23.rg o23.tb).kp k24
    have oU := (oT.trans o23).trans oU1
    have nov : ∀ u ∈ os, NoV K C r H24 u := fun u hu => oU1.nov (ok u hu).1
    obtain ⟨td, od⟩ := nov_odt (nov v hv)
    have mix : MixV K C r H24 q ys v td := ⟨nq, hqy, lys, od, nov v hv, fun u hu => (each u hu).imp (ww u) (nov u), i, hi, fun j u hj e => ww u (bef j u hj e)⟩
    refine ⟨t, _, rfl, SqT.of ht, rfl, _, _, rfl, _, _, rfl, rfl, ?_⟩
    obtain ⟨ts, sw⟩ := mix.sw
    refine ⟨_, rfl, q, ys, ts, rfl, mix.at_, sw, by omega, fun H25 s25 => ?_⟩
    have mix25 := mix.same s25
    refine ⟨_, rfl, ?_⟩
    refine t1_sp ?_
    refine mix_vt M kI mix25 fun H26 p s26 hp h26 => ?_
    have mix26 := mix25.same s26
    refine ⟨_, rfl, v, td, rfl, mix26.od, fun H27 s27 => ?_⟩
    refine ⟨by show 2 ≤ sizeLine; decide, fun p2 hp2 => ?_⟩
    have s28 := s27.trans (same_upd (o := HO.lst [.str "no value", .str td]) hp2)
    have mix27 := mix26.same s28
    refine ⟨p, p2, ["no value", td], rfl, rfl, SqL.of (s28 _ _ h26), SqL.of upd_same, true, rfl, ?_⟩
    refine ite2 (fun _ => ?_) (fun z => absurd rfl z)
    refine ⟨_, rfl, q, ys, ts, rfl, mix27.at_, (paired_map (fun x y z => z.same ((s25.trans s26).trans s28)) sw), by omega, fun H29 s29 => ⟨_, rfl, rfl, ?_⟩⟩
    rw [decide_eq_true rfl]
    have oV := (((oU.same s25).same s26).same s28).same s29
    exact k H29 oV.kn oV.tb
end
end K15
namespace K15
open PySem L2 LamX
/-! ### the end: what the top has left -/
theorem exm_to {K : PySem.W.Frag} {C D : Addr} {b : Bool} (x : PySem.W.subIn K (.ref D) (.type "BaseException") = some true) (i : PySem.W.isClsIn K D = true) (t : PySem.W.typeIn K (.ref D) = some (.type "type")) (s : PySem.W.subIn K (.ref C) (.ref D) = some b) : PySem.W.exmOne K (.ref C) (.ref D) = some b := by
  have i' : (PySem.W.clsIn K D).isSome = true := i
  have g : ((PySem.W.clsIn K D).isSome && PySem.W.typeIn K (.ref D) == some (.type "type")) = true := by rw [i', t] <;> rfl
  unfold PySem.W.exmOne
  rw [if_pos (by rw [x] <;> rfl)]
  show (if ((PySem.W.clsIn K D).isSome && PySem.W.typeIn K (.ref D) == some (.type "type")) = true then PySem.W.subIn K (.ref C) (.ref D) else none) = some b
  rw [if_pos g]
  exact s
theorem kit_tyref {K : PySem.W.Frag} {T : String} {D : Addr} {b : Bool} (i : PySem.W.isClsIn K D = true) (t : PySem.W.typeIn K (.ref D) = some (.type "type")) (s : PySem.W.subIn K (.type T) (.ref D) = some b) : PySem.W.kitOne K (.type T) (.ref D) = some b := by
  have i' : (PySem.W.clsIn K D).isSome = true := i
  have g : ((PySem.W.clsIn K D).isSome && PySem.W.typeIn K (.ref D) == some (.type "type")) = true := by rw [i', t] <;> rfl
  unfold PySem.W.kitOne
  rw [if_neg (fun z => by cases z)]
  show (if ((PySem.W.clsIn K D).isSome && PySem.W.typeIn K (.ref D) == some (.type "type")) = true then PySem.W.subIn K (.type T) (.ref D) else none) = some b
  rw [if_pos g]
  exact s
theorem kit_self {K : PySem.W.Frag} {D : Addr} : PySem.W.kitOne K (.ref D) (.ref D) = some true := by
  unfold PySem.W.kitOne
  exact if_pos (beq_self_eq_true _)
theorem nf_of {K : PySem.W.Frag} {T : String} {D : Addr} (s : PySem.W.subIn K (.type T) (.ref D) = some false) : PySem.W.notFirst K D (.type T) = true := by
  unfold PySem.W.notFirst
  rw [s]
  exact Bool.or_true _
theorem kit_ref {K : PySem.W.Frag} {C D : Addr} {b : Bool} (n : (Value.ref C == Value.ref D) = false) (i : PySem.W.isClsIn K D = true) (t : PySem.W.typeIn K (.ref D) = some (.type "type")) (s : PySem.W.subIn K (.ref C) (.ref D) = some b) : PySem.W.kitOne K (.ref C) (.ref D) = some b := by
  have i' : (PySem.W.clsIn K D).isSome = true := i
  have g : ((PySem.W.clsIn K D).isSome && PySem.W.typeIn K (.ref D) == some (.type "type")) = true := by rw [i', t] <;> rfl
  unfold PySem.W.kitOne
  rw [if_neg (by rw [n]; decide)]
  show (if ((PySem.W.clsIn K D).isSome && PySem.W.typeIn K (.ref D) == some (.type "type")) = true then PySem.W.subIn K (.ref C) (.ref D) else none) = some b
  rw [if_pos g]
  exact s
theorem kit_blt {K : PySem.W.Frag} {C : Addr} {T : String} {b : Bool} (m : PySem.W.kitMeta T = true) (s : PySem.W.subIn K (.ref C) (.type T) = some b) : PySem.W.kitOne K (.ref C) (.type T) = some b := by
  unfold PySem.W.kitOne
  rw [if_neg (fun z => by cases z)]
  show (if PySem.W.kitMeta T = true then PySem.W.subIn K (.ref C) (.type T) else none) = some b
  rw [if_pos m]
  exact s
theorem at_mk {K : PySem.W.Frag} {h : Heap} {mg : Str → Option Value} {x : Str} {st : Stmt} {ps : List Str} {f : Addr} {fd : FuncData} (X : K.In h) (G : h.Ns mainGlobals mg) (a : PySem.W.nsIn K mainGlobals x = some (some (.ref f))) (F : Fun K x x st f fd)
    (b : ∀ (kV doc pm : Value) (an : Option Addr) (cdv ct : Value) (us : List Value), us.length = ps.length → bindArgs (PySem.W.fnOf x x (defArgs st) (defBody st) (defScope st) .none kV doc pm an cdv ct) ⟨us, []⟩ = pure (ps.zip us)) : At K mg x st ps f fd := ⟨F, F.binds b, PySem.W.mg_of X G a⟩

theorem all_mk {P : Program} {w : World} {K : PySem.W.Frag} {h : Heap} {mg : Str → Option Value} {fa : Addr} (X : K.In h) (G : h.Ns mainGlobals mg) (hfa : mg "law" = some (.ref fa)) (hbm : BM mg h)
    {f0 f1 f2 f3 f4 f5 f6 f7 f8 f9 f10 f11 f12 f13 f14 f15 f16 f17 f18 f19 f20 f21 f22 f23 f24 f25 f26 : Addr} {d0 d1 d2 d3 d4 d5 d6 d7 d8 d9 d10 d11 d12 d13 d14 d15 d16 d17 d18 d19 d20 d21 d22 d23 d24 d25 d26 : FuncData} {C fL CN fN CM fM CE fE CT fT CY fY gE gL gS gR gH pM gM pO gO cA cB PA : Addr} {dL0 dN dM dE0 dT dY dE dLn dS dR dH dG dO : FuncData} {tM tL tk tQ : Tok} {rm ro : List Value}
    {nm q nmb q2 nmc q3 nmd q4 : Str} {N N2 N3 N4 : Addr} {bs bm bs2 bm2 bs3 bm3 bs4 bm4 : List Value} {sn sn2 sn3 sn4 : List Str} {sub sub2 sub3 sub4 : List Value} {ab ab2 ab3 ab4 : Bool} {col col2 col3 col4 : Option Bool} {dd dd2 dd3 dd4 : Option Addr} {k0 k1 k2 k3 k5 j0 j1 j2 j3 j5 l0 l1 l2 l3 l5 i0 i1 i2 i3 i5 : Option Value}
    {eA : Value} {oA : Option Addr} {vA : Array Value} {sA : Array (Option Value)}
    (a0 : PySem.W.nsIn K mainGlobals "is_name" = some (some (.ref f0)))
    (F0 : L2.Fun K "is_name" "is_name" sIsName f0 d0)
    (a1 : PySem.W.nsIn K mainGlobals "sort_of" = some (some (.ref f1)))
    (F1 : L2.Fun K "sort_of" "sort_of" sSortOf f1 d1)
    (a2 : PySem.W.nsIn K mainGlobals "is_value_or_empty" = some (some (.ref f2)))
    (F2 : L2.Fun K "is_value_or_empty" "is_value_or_empty" sIsVal f2 d2)
    (a3 : PySem.W.nsIn K mainGlobals "value_rank" = some (some (.ref f3)))
    (F3 : L2.Fun K "value_rank" "value_rank" sVRank f3 d3)
    (a4 : PySem.W.nsIn K mainGlobals "in_value_order" = some (some (.ref f4)))
    (F4 : L2.Fun K "in_value_order" "in_value_order" sVOrder f4 d4)
    (a5 : PySem.W.nsIn K mainGlobals "check_label" = some (some (.ref f5)))
    (F5 : L2.Fun K "check_label" "check_label" sCheck f5 d5)
    (a6 : PySem.W.nsIn K mainGlobals "marks_rank" = some (some (.ref f6)))
    (F6 : L2.Fun K "marks_rank" "marks_rank" sRank f6 d6)
    (a7 : PySem.W.nsIn K mainGlobals "label_rank" = some (some (.ref f7)))
    (F7 : L2.Fun K "label_rank" "label_rank" sLRank f7 d7)
    (a8 : PySem.W.nsIn K mainGlobals "in_order" = some (some (.ref f8)))
    (F8 : L2.Fun K "in_order" "in_order" sOrder f8 d8)
    (a9 : PySem.W.nsIn K mainGlobals "marks_of_text" = some (some (.ref f9)))
    (F9 : L2.Fun K "marks_of_text" "marks_of_text" sMarksOf f9 d9)
    (a10 : PySem.W.nsIn K mainGlobals "_law_rng" = some (some (.ref f10)))
    (F10 : L2.Fun K "_law_rng" "_law_rng" sRng f10 d10)
    (a11 : PySem.W.nsIn K mainGlobals "_law_draw" = some (some (.ref f11)))
    (F11 : L2.Fun K "_law_draw" "_law_draw" sDraw f11 d11)
    (a12 : PySem.W.nsIn K mainGlobals "_law_choice" = some (some (.ref f12)))
    (F12 : L2.Fun K "_law_choice" "_law_choice" sChoice f12 d12)
    (a13 : PySem.W.nsIn K mainGlobals "_law_word" = some (some (.ref f13)))
    (F13 : L2.Fun K "_law_word" "_law_word" sWord f13 d13)
    (a14 : PySem.W.nsIn K mainGlobals "_law_words" = some (some (.ref f14)))
    (F14 : L2.Fun K "_law_words" "_law_words" sWords f14 d14)
    (a15 : PySem.W.nsIn K mainGlobals "_law_marks" = some (some (.ref f15)))
    (F15 : L2.Fun K "_law_marks" "_law_marks" sMarks f15 d15)
    (a16 : PySem.W.nsIn K mainGlobals "_law_value" = some (some (.ref f16)))
    (F16 : L2.Fun K "_law_value" "_law_value" sValue f16 d16)
    (a17 : PySem.W.nsIn K mainGlobals "_law_no_value" = some (some (.ref f17)))
    (F17 : L2.Fun K "_law_no_value" "_law_no_value" sNoVal f17 d17)
    (a18 : PySem.W.nsIn K mainGlobals "_law_no_label" = some (some (.ref f18)))
    (F18 : L2.Fun K "_law_no_label" "_law_no_label" sNoLab f18 d18)
    (a19 : PySem.W.nsIn K mainGlobals "_law_rank" = some (some (.ref f19)))
    (F19 : L2.Fun K "_law_rank" "_law_rank" sLRnk f19 d19)
    (a20 : PySem.W.nsIn K mainGlobals "_law_labels_told" = some (some (.ref f20)))
    (F20 : L2.Fun K "_law_labels_told" "_law_labels_told" sLabTold f20 d20)
    (a21 : PySem.W.nsIn K mainGlobals "_law_values_told" = some (some (.ref f21)))
    (F21 : L2.Fun K "_law_values_told" "_law_values_told" sValTold f21 d21)
    (a22 : PySem.W.nsIn K mainGlobals "_law_spoilt" = some (some (.ref f22)))
    (F22 : L2.Fun K "_law_spoilt" "_law_spoilt" sSpoilt f22 d22)
    (a23 : PySem.W.nsIn K mainGlobals "_law_labels_right" = some (some (.ref f23)))
    (F23 : L2.Fun K "_law_labels_right" "_law_labels_right" sLabRight f23 d23)
    (a24 : PySem.W.nsIn K mainGlobals "_law_values_right" = some (some (.ref f24)))
    (F24 : L2.Fun K "_law_values_right" "_law_values_right" sValRight f24 d24)
    (a25 : PySem.W.nsIn K mainGlobals "_law_right" = some (some (.ref f25)))
    (F25 : L2.Fun K "_law_right" "_law_right" sRight f25 d25)
    (a26 : PySem.W.nsIn K mainGlobals "law" = some (some (.ref f26)))
    (F26 : L2.Fun K "law" "law" sLaw f26 d26)
    (zlen : PySem.W.nsIn K mainGlobals "len" = some none)
    (zabs : PySem.W.nsIn K mainGlobals "abs" = some none)
    (zmax : PySem.W.nsIn K mainGlobals "max" = some none)
    (zmin : PySem.W.nsIn K mainGlobals "min" = some none)
    (zint : PySem.W.nsIn K mainGlobals "int" = some none)
    (zdivmod : PySem.W.nsIn K mainGlobals "divmod" = some none)
    (zrange : PySem.W.nsIn K mainGlobals "range" = some none)
    (zall : PySem.W.nsIn K mainGlobals "all" = some none)
    (zisinstance : PySem.W.nsIn K mainGlobals "isinstance" = some none)
    (zstr : PySem.W.nsIn K mainGlobals "str" = some none)
    (zbool : PySem.W.nsIn K mainGlobals "bool" = some none)
    (zrepr : PySem.W.nsIn K mainGlobals "repr" = some none)
    (ztuple : PySem.W.nsIn K mainGlobals "tuple" = some none)
    (zset : PySem.W.nsIn K mainGlobals "set" = some none)
    (zsorted : PySem.W.nsIn K mainGlobals "sorted" = some none)
    (zlist : PySem.W.nsIn K mainGlobals "list" = some none)
    (zdict : PySem.W.nsIn K mainGlobals "dict" = some none)
    (mM : PySem.W.nsIn K mainGlobals "MOST_LETTERS" = some (some (.int 8 tM)))
    (mC : PySem.W.nsIn K mainGlobals "MOST_CHARACTERS" = some (some (.int 60 tQ)))
    (mL : PySem.W.nsIn K mainGlobals "LETTERS" = some (some (.str "abcdefghijklmnopqrstuvwxyz" tL)))
    (cC : PySem.W.nsIn K mainGlobals "Label" = some (some (.ref C)))
    (cmk : PySem.W.makesIn K C = true)
    (cin : PySem.W.findIn K (.ref C) "__init__" = some (some (.ref fL)))
    (cfn : PySem.W.isFn K (.ref fL) = true)
    (ckp : PySem.W.keepIn K (.ref C) = true)
    (cpg : PySem.W.plainGet K C Str.empty = true)
    (chd : PySem.W.hasDictIn K C = true)
    (cpo : PySem.W.plainOver K C = true)
    (csa : PySem.W.findIn K (.ref C) "__setattr__" = some (some (.builtin "object.__setattr__")))
    (crd : PySem.W.readsIn K C (.type "type") = true)
    (cga : PySem.W.specialIn K (.ref C) "__getattribute__" = some (some (.builtin "type.__getattribute__")))
    (cmo : PySem.W.findCls K (.ref C) (.type "type") "MOST" = some (.val (.int 4 tk)))
    (cn1 : PySem.W.findIn K (.ref C) "_marks" = some none)
    (cn2 : PySem.W.findIn K (.ref C) "_text" = some none)
    (cic : PySem.W.isClsIn K C = true)
    (cty : PySem.W.typeIn K (.ref C) = some (.type "type"))
    (FL : L2.Fun K "__init__" "Label.__init__" sInit fL dL0)
    (cgE : PySem.W.findIn K (.ref C) "__eq__" = some (some (.ref gE)))
    (igE : PySem.W.isFn K (.ref gE) = true)
    (FgE : L2.Fun K "__eq__" "Label.__eq__" sEq gE dE)
    (cgL : PySem.W.findIn K (.ref C) "__len__" = some (some (.ref gL)))
    (igL : PySem.W.isFn K (.ref gL) = true)
    (FgL : L2.Fun K "__len__" "Label.__len__" sLen gL dLn)
    (cgS : PySem.W.findIn K (.ref C) "__str__" = some (some (.ref gS)))
    (igS : PySem.W.isFn K (.ref gS) = true)
    (FgS : L2.Fun K "__str__" "Label.__str__" sStr gS dS)
    (cgR : PySem.W.findIn K (.ref C) "__repr__" = some (some (.ref gR)))
    (igR : PySem.W.isFn K (.ref gR) = true)
    (FgR : L2.Fun K "__repr__" "Label.__repr__" sRepr gR dR)
    (cgH : PySem.W.findIn K (.ref C) "__contains__" = some (some (.ref gH)))
    (igH : PySem.W.isFn K (.ref gH) = true)
    (FgH : L2.Fun K "__contains__" "Label.__contains__" sHas gH dH)
    (cne : PySem.W.findIn K (.ref C) "__ne__" = some (some (.builtin "object.__ne__")))
    (cob : PySem.W.subIn K (.ref C) (.type "object") = some true)
    (sNoneType : PySem.W.subIn K (.ref C) (.type "NoneType") = some false)
    (uNoneType : PySem.W.subIn K (.type "NoneType") (.ref C) = some false)
    (sbool : PySem.W.subIn K (.ref C) (.type "bool") = some false)
    (ubool : PySem.W.subIn K (.type "bool") (.ref C) = some false)
    (sint : PySem.W.subIn K (.ref C) (.type "int") = some false)
    (uint : PySem.W.subIn K (.type "int") (.ref C) = some false)
    (sstr : PySem.W.subIn K (.ref C) (.type "str") = some false)
    (ustr : PySem.W.subIn K (.type "str") (.ref C) = some false)
    (slist : PySem.W.subIn K (.ref C) (.type "list") = some false)
    (ulist : PySem.W.subIn K (.type "list") (.ref C) = some false)
    (stuple : PySem.W.subIn K (.ref C) (.type "tuple") = some false)
    (utuple : PySem.W.subIn K (.type "tuple") (.ref C) = some false)
    (sdict : PySem.W.subIn K (.ref C) (.type "dict") = some false)
    (udict : PySem.W.subIn K (.type "dict") (.ref C) = some false)
    (cpM : PySem.W.findIn K (.ref C) "marks" = some (some (.ref pM)))
    (pg : PySem.W.specialIn K (.ref pM) "__get__" = some (some (.builtin "property.__get__")))
    (pt : PySem.W.takesIn K (.ref pM) = some true)
    (pr : PySem.W.recIn K pM "property" = some (.ref gM :: rm))
    (cha : PySem.W.findIn K (.ref C) "__class__" = some (some (.builtin "object.__class__")))
    (hn : PySem.W.specialIn K (.builtin "object.__class__") "__get__" = some (some (.builtin "getset_descriptor.__get__")))
    (ht : PySem.W.takesIn K (.builtin "object.__class__") = some true)
    (chm : PySem.W.mroIn K C (.type "object") = some true)
    (cpO : PySem.W.findCls K (.ref C) (.type "type") "of_text" = some (.get (.builtin "classmethod.__get__") (.ref pO) .none (.ref C)))
    (orc : PySem.W.recIn K pO "classmethod" = some (.ref gO :: ro))
    (ofi : PySem.W.fnIn K gO = true)
    (FgO : L2.Fun K "of_text" "Label.of_text" sOf gO dO)
    (FgM : L2.Fun K "marks" "Label.marks" sGetM gM dG)
    (naC : PySem.W.nsIn K mainGlobals "InvalidName" = some (some (.ref CN)))
    (nlC : K.lookup CN = some (PySem.excClassObj nm q CN N bs bm true sn sub ab col dd k0 k1 k2 k3 k5 "ValueError.__new__"))
    (nbC : PySem.HandSPX.refsVE bm = true)
    (nsa : PySem.W.findIn K (.ref CN) "__setattr__" = some (some (.builtin "object.__setattr__")))
    (nxC : PySem.W.subIn K (.ref CN) (.type "BaseException") = some true)
    (ntC : PySem.W.typeIn K (.ref CN) = some (.type "type"))
    (nkC : PySem.W.keepIn K (.ref CN) = true)
    (nhg : PySem.W.findIn K (.ref CN) "__getattribute__" = some (some (.builtin "BaseException.__getattribute__")))
    (nhk : PySem.W.findIn K (.ref CN) "__getattr__" = some none)
    (nhd : PySem.W.hasDictIn K CN = true)
    (niC : PySem.W.isClsIn K CN = true)
    (nsC : PySem.W.subIn K (.ref CN) (.ref CN) = some true)
    (ninC : PySem.W.findIn K (.ref CN) "__init__" = some (some (.ref fN)))
    (ntI : PySem.W.typeIn K (.ref fN) = some (.type "function"))
    (nm1 : PySem.W.findIn K (.ref CN) "value" = some none)
    (nm2 : PySem.W.findIn K (.ref CN) "_told" = some none)
    (nFI : L2.Fun K "__init__" "InvalidName.__init__" sInitK fN dN)
    (eaC : PySem.W.nsIn K mainGlobals "InvalidLabel" = some (some (.ref CE)))
    (elC : K.lookup CE = some (PySem.excClassObj nmb q2 CE N2 bs2 bm2 true sn2 sub2 ab2 col2 dd2 j0 j1 j2 j3 j5 "ValueError.__new__"))
    (ebC : PySem.HandSPX.refsVE bm2 = true)
    (esa : PySem.W.findIn K (.ref CE) "__setattr__" = some (some (.builtin "object.__setattr__")))
    (exC : PySem.W.subIn K (.ref CE) (.type "BaseException") = some true)
    (etC : PySem.W.typeIn K (.ref CE) = some (.type "type"))
    (ekC : PySem.W.keepIn K (.ref CE) = true)
    (ehg : PySem.W.findIn K (.ref CE) "__getattribute__" = some (some (.builtin "BaseException.__getattribute__")))
    (ehk : PySem.W.findIn K (.ref CE) "__getattr__" = some none)
    (ehd : PySem.W.hasDictIn K CE = true)
    (eiC : PySem.W.isClsIn K CE = true)
    (esC : PySem.W.subIn K (.ref CE) (.ref CE) = some true)
    (einC : PySem.W.findIn K (.ref CE) "__init__" = some (some (.ref fE)))
    (etI : PySem.W.typeIn K (.ref fE) = some (.type "function"))
    (em1 : PySem.W.findIn K (.ref CE) "value" = some none)
    (em2 : PySem.W.findIn K (.ref CE) "_told" = some none)
    (eFI : L2.Fun K "__init__" "InvalidLabel.__init__" sInitL fE dE0)
    (taC : PySem.W.nsIn K mainGlobals "InvalidText" = some (some (.ref CT)))
    (tlC : K.lookup CT = some (PySem.excClassObj nmc q3 CT N3 bs3 bm3 true sn3 sub3 ab3 col3 dd3 l0 l1 l2 l3 l5 "ValueError.__new__"))
    (tbC : PySem.HandSPX.refsVE bm3 = true)
    (tsa : PySem.W.findIn K (.ref CT) "__setattr__" = some (some (.builtin "object.__setattr__")))
    (txC : PySem.W.subIn K (.ref CT) (.type "BaseException") = some true)
    (ttC : PySem.W.typeIn K (.ref CT) = some (.type "type"))
    (tkC : PySem.W.keepIn K (.ref CT) = true)
    (thg : PySem.W.findIn K (.ref CT) "__getattribute__" = some (some (.builtin "BaseException.__getattribute__")))
    (thk : PySem.W.findIn K (.ref CT) "__getattr__" = some none)
    (thd : PySem.W.hasDictIn K CT = true)
    (tiC : PySem.W.isClsIn K CT = true)
    (tsC : PySem.W.subIn K (.ref CT) (.ref CT) = some true)
    (tinC : PySem.W.findIn K (.ref CT) "__init__" = some (some (.ref fT)))
    (ttI : PySem.W.typeIn K (.ref fT) = some (.type "function"))
    (tm1 : PySem.W.findIn K (.ref CT) "problem" = some none)
    (tm2 : PySem.W.findIn K (.ref CT) "_told" = some none)
    (tFI : L2.Fun K "__init__" "InvalidText.__init__" sInitT fT dT)
    (yaC : PySem.W.nsIn K mainGlobals "InvalidKey" = some (some (.ref CY)))
    (ylC : K.lookup CY = some (PySem.excClassObj nmd q4 CY N4 bs4 bm4 true sn4 sub4 ab4 col4 dd4 i0 i1 i2 i3 i5 "ValueError.__new__"))
    (ybC : PySem.HandSPX.refsVE bm4 = true)
    (ysa : PySem.W.findIn K (.ref CY) "__setattr__" = some (some (.builtin "object.__setattr__")))
    (yxC : PySem.W.subIn K (.ref CY) (.type "BaseException") = some true)
    (ytC : PySem.W.typeIn K (.ref CY) = some (.type "type"))
    (ykC : PySem.W.keepIn K (.ref CY) = true)
    (yhg : PySem.W.findIn K (.ref CY) "__getattribute__" = some (some (.builtin "BaseException.__getattribute__")))
    (yhk : PySem.W.findIn K (.ref CY) "__getattr__" = some none)
    (yhd : PySem.W.hasDictIn K CY = true)
    (yiC : PySem.W.isClsIn K CY = true)
    (ysC : PySem.W.subIn K (.ref CY) (.ref CY) = some true)
    (yinC : PySem.W.findIn K (.ref CY) "__init__" = some (some (.ref fY)))
    (ytI : PySem.W.typeIn K (.ref fY) = some (.type "function"))
    (ym1 : PySem.W.findIn K (.ref CY) "value" = some none)
    (ym2 : PySem.W.findIn K (.ref CY) "_told" = some none)
    (yFI : L2.Fun K "__init__" "InvalidKey.__init__" sInitY fY dY)
    (maC : PySem.W.nsIn K mainGlobals "TooMany" = some (some (.ref CM)))
    (mei : PySem.W.excInitIn K CM [.type "ArithmeticError", .type "Exception", .type "BaseException", .type "object"] "ArithmeticError.__new__" = true)
    (meo : PySem.W.excOver K CM [.type "ArithmeticError", .type "Exception", .type "BaseException", .type "object"] = true)
    (msa : PySem.W.findIn K (.ref CM) "__setattr__" = some (some (.builtin "object.__setattr__")))
    (mxC : PySem.W.subIn K (.ref CM) (.type "BaseException") = some true)
    (mtC : PySem.W.typeIn K (.ref CM) = some (.type "type"))
    (mkC : PySem.W.keepIn K (.ref CM) = true)
    (mhg : PySem.W.findIn K (.ref CM) "__getattribute__" = some (some (.builtin "BaseException.__getattribute__")))
    (mhk : PySem.W.findIn K (.ref CM) "__getattr__" = some none)
    (mhd : PySem.W.hasDictIn K CM = true)
    (miC : PySem.W.isClsIn K CM = true)
    (msC : PySem.W.subIn K (.ref CM) (.ref CM) = some true)
    (minC : PySem.W.findIn K (.ref CM) "__init__" = some (some (.ref fM)))
    (mtI : PySem.W.typeIn K (.ref fM) = some (.type "function"))
    (mm1 : PySem.W.findIn K (.ref CM) "kind" = some none)
    (mm2 : PySem.W.findIn K (.ref CM) "limit" = some none)
    (mm3 : PySem.W.findIn K (.ref CM) "_told" = some none)
    (mFI : L2.Fun K "__init__" "TooMany.__init__" sInitM fM dM)
    (hcA : d23.code = .ref cA)
    (lkA : K.lookup cA = some ⟨eA, oA, .fields vA, sA⟩)
    (tvA : vA[11]? = some (.ref PA))
    (tbA : PySem.W.codeHdIn K cA PA = true)
    (tnA : K.lookup PA = none)
    (tgA : h.get? PA = some tab0)
    (hcB : d24.code = .ref cB) :
    ∃ (fd : FuncData) (cs : List (Addr × Addr)) (T : List (Addr × Str)), TabsOk K cs h ∧ (∀ p ∈ T, p.1 ∈ cs.map (·.2)) ∧ (∀ (s : Shared) (u : Value), BindsTo s fd ⟨[u], []⟩ [("_law_script", u)]) ∧
      ∀ base : Heap, K.In base → base.Ns mainGlobals mg → (∀ p ∈ cs, TabB base mg p.1 p.2) → FnG P w K mg base 10 fa fd ["_law_script"] (spLaw K T) := by
  have e := hfa.symm.trans (PySem.W.mg_of X G a26)
  cases e
  have A0 : At K mg "is_name" sIsName ["value"] f0 d0 := at_mk X G a0 F0 fun _ _ _ _ _ _ us hl => match us, hl with | [_], _ => rfl
  have A1 : At K mg "sort_of" sSortOf ["value"] f1 d1 := at_mk X G a1 F1 fun _ _ _ _ _ _ us hl => match us, hl with | [_], _ => rfl
  have A2 : At K mg "is_value_or_empty" sIsVal ["value"] f2 d2 := at_mk X G a2 F2 fun _ _ _ _ _ _ us hl => match us, hl with | [_], _ => rfl
  have A3 : At K mg "value_rank" sVRank ["value"] f3 d3 := at_mk X G a3 F3 fun _ _ _ _ _ _ us hl => match us, hl with | [_], _ => rfl
  have A4 : At K mg "in_value_order" sVOrder ["values"] f4 d4 := at_mk X G a4 F4 fun _ _ _ _ _ _ us hl => match us, hl with | [_], _ => rfl
  have A5 : At K mg "check_label" sCheck ["value"] f5 d5 := at_mk X G a5 F5 fun _ _ _ _ _ _ us hl => match us, hl with | [_], _ => rfl
  have A6 : At K mg "marks_rank" sRank ["marks"] f6 d6 := at_mk X G a6 F6 fun _ _ _ _ _ _ us hl => match us, hl with | [_], _ => rfl
  have A7 : At K mg "label_rank" sLRank ["label"] f7 d7 := at_mk X G a7 F7 fun _ _ _ _ _ _ us hl => match us, hl with | [_], _ => rfl
  have A8 : At K mg "in_order" sOrder ["labels"] f8 d8 := at_mk X G a8 F8 fun _ _ _ _ _ _ us hl => match us, hl with | [_], _ => rfl
  have A9 : At K mg "marks_of_text" sMarksOf ["text"] f9 d9 := at_mk X G a9 F9 fun _ _ _ _ _ _ us hl => match us, hl with | [_], _ => rfl
  have A10 : At K mg "_law_rng" sRng ["_law_script", "_law_k"] f10 d10 := at_mk X G a10 F10 fun _ _ _ _ _ _ us hl => match us, hl with | [_, _], _ => rfl
  have A11 : At K mg "_law_draw" sDraw ["_law_rng_here", "_law_many"] f11 d11 := at_mk X G a11 F11 fun _ _ _ _ _ _ us hl => match us, hl with | [_, _], _ => rfl
  have A12 : At K mg "_law_choice" sChoice ["_law_rng_here", "_law_options"] f12 d12 := at_mk X G a12 F12 fun _ _ _ _ _ _ us hl => match us, hl with | [_, _], _ => rfl
  have A13 : At K mg "_law_word" sWord ["_law_rng_here", "_law_used"] f13 d13 := at_mk X G a13 F13 fun _ _ _ _ _ _ us hl => match us, hl with | [_, _], _ => rfl
  have A14 : At K mg "_law_words" sWords ["_law_rng_here", "_law_many"] f14 d14 := at_mk X G a14 F14 fun _ _ _ _ _ _ us hl => match us, hl with | [_, _], _ => rfl
  have A15 : At K mg "_law_marks" sMarks ["_law_rng_here", "_law_words_here"] f15 d15 := at_mk X G a15 F15 fun _ _ _ _ _ _ us hl => match us, hl with | [_, _], _ => rfl
  have A16 : At K mg "_law_value" sValue ["_law_rng_here"] f16 d16 := at_mk X G a16 F16 fun _ _ _ _ _ _ us hl => match us, hl with | [_], _ => rfl
  have A17 : At K mg "_law_no_value" sNoVal ["_law_rng_here"] f17 d17 := at_mk X G a17 F17 fun _ _ _ _ _ _ us hl => match us, hl with | [_], _ => rfl
  have A18 : At K mg "_law_no_label" sNoLab ["_law_rng_here", "_law_words_here"] f18 d18 := at_mk X G a18 F18 fun _ _ _ _ _ _ us hl => match us, hl with | [_, _], _ => rfl
  have A19 : At K mg "_law_rank" sLRnk ["_law_value_here"] f19 d19 := at_mk X G a19 F19 fun _ _ _ _ _ _ us hl => match us, hl with | [_], _ => rfl
  have A20 : At K mg "_law_labels_told" sLabTold ["_law_things"] f20 d20 := at_mk X G a20 F20 fun _ _ _ _ _ _ us hl => match us, hl with | [_], _ => rfl
  have A21 : At K mg "_law_values_told" sValTold ["_law_things"] f21 d21 := at_mk X G a21 F21 fun _ _ _ _ _ _ us hl => match us, hl with | [_], _ => rfl
  have A22 : At K mg "_law_spoilt" sSpoilt ["_law_rng_here", "_law_things", "_law_odds"] f22 d22 := at_mk X G a22 F22 fun _ _ _ _ _ _ us hl => match us, hl with | [_, _, _], _ => rfl
  have A23 : At K mg "_law_labels_right" sLabRight ["_law_rng_here"] f23 d23 := at_mk X G a23 F23 fun _ _ _ _ _ _ us hl => match us, hl with | [_], _ => rfl
  have A24 : At K mg "_law_values_right" sValRight ["_law_rng_here"] f24 d24 := at_mk X G a24 F24 fun _ _ _ _ _ _ us hl => match us, hl with | [_], _ => rfl
  have A25 : At K mg "_law_right" sRight ["_law_rng_here"] f25 d25 := at_mk X G a25 F25 fun _ _ _ _ _ _ us hl => match us, hl with | [_], _ => rfl
  have B : BEnv mg := ⟨(PySem.W.mg_none_of X G zlen), (PySem.W.mg_none_of X G zabs), (PySem.W.mg_none_of X G zmax), (PySem.W.mg_none_of X G zmin), (PySem.W.mg_none_of X G zint), (PySem.W.mg_none_of X G zdivmod), (PySem.W.mg_none_of X G zrange), (PySem.W.mg_none_of X G zall)⟩
  have Z : Zn mg := ⟨(PySem.W.mg_none_of X G zisinstance), (PySem.W.mg_none_of X G zbool), (PySem.W.mg_none_of X G zint), (PySem.W.mg_none_of X G zstr), (PySem.W.mg_none_of X G zabs), (PySem.W.mg_none_of X G zlen), (PySem.W.mg_none_of X G zall), (PySem.W.mg_none_of X G zrepr)⟩
  have IN : IK K mg CN fN dN := { o := ⟨⟨nm, q, N, bs, bm, sn, sub, ab, col, dd, k0, k1, k2, k3, k5, nlC, nbC⟩, nsa, nxC, ntC, nkC⟩, iC := ninC, tI := ntI, n1 := nm1, n2 := nm2, m := (PySem.W.mg_of X G naC), F := nFI, b := (nFI.binds fun _ _ _ _ _ _ us hl => match us, hl with | [_, _], _ => rfl) }
  have ITe : IL K mg CE fE dE0 := { o := ⟨⟨nmb, q2, N2, bs2, bm2, sn2, sub2, ab2, col2, dd2, j0, j1, j2, j3, j5, elC, ebC⟩, esa, exC, etC, ekC⟩, iC := einC, tI := etI, n1 := em1, n2 := em2, m := (PySem.W.mg_of X G eaC), F := eFI, b := (eFI.binds fun _ _ _ _ _ _ us hl => match us, hl with | [_, _], _ => rfl) }
  have ITt : IT K mg CT fT dT := { o := ⟨⟨nmc, q3, N3, bs3, bm3, sn3, sub3, ab3, col3, dd3, l0, l1, l2, l3, l5, tlC, tbC⟩, tsa, txC, ttC, tkC⟩, iC := tinC, tI := ttI, n1 := tm1, n2 := tm2, m := (PySem.W.mg_of X G taC), F := tFI, b := (tFI.binds fun _ _ _ _ _ _ us hl => match us, hl with | [_, _], _ => rfl) }
  have ITy : IY K mg CY fY dY := { o := ⟨⟨nmd, q4, N4, bs4, bm4, sn4, sub4, ab4, col4, dd4, i0, i1, i2, i3, i5, ylC, ybC⟩, ysa, yxC, ytC, ykC⟩, iC := yinC, tI := ytI, n1 := ym1, n2 := ym2, m := (PySem.W.mg_of X G yaC), F := yFI, b := (yFI.binds fun _ _ _ _ _ _ us hl => match us, hl with | [_, _], _ => rfl) }
  have IMm : IM K mg CM fM dM := { o := ⟨mei, meo, mhd, msa, mxC, mtC, mkC⟩, iC := minC, tI := mtI, t1 := NoAttr.taker mm1, t2 := NoAttr.taker mm2, t3 := NoAttr.taker mm3, m := (PySem.W.mg_of X G maC), F := mFI, b := (mFI.binds fun _ _ _ _ _ _ us hl => match us, hl with | [_, _, _], _ => rfl) }
  have CL : Cls K C := ⟨cpg, chd, cpo, csa⟩
  have CR : ClX.CRead K C (.type "type") := ⟨crd, cga⟩
  have LC : LabC K mg C fL CN fN CM fM dL0 dN dM := { mkr := ⟨cmk, cin, cfn, ckp⟩, cl := CL, m := (PySem.W.mg_of X G cC), rd := ⟨_, tk, CR, ⟨cmo, ⟨_, rfl⟩⟩⟩, n1 := cn1, n2 := cn2, F := FL, N := IN, M := IMm }
  have kt : ∀ T ∈ ["NoneType", "bool", "int", "str", "list", "tuple", "dict"], PySem.W.kitOne K (.type T) (.ref C) = some false := by
    simp only [List.forall_mem_cons]
    exact ⟨kit_tyref cic cty uNoneType, kit_tyref cic cty ubool, kit_tyref cic cty uint, kit_tyref cic cty ustr, kit_tyref cic cty ulist, kit_tyref cic cty utuple, kit_tyref cic cty udict, fun _ z => nomatch z⟩
  have sb : ∀ T ∈ ["NoneType", "bool", "int", "str", "list", "tuple", "dict"], PySem.W.subIn K (.ref C) (.type T) = some false ∧ PySem.W.notFirst K C (.type T) = true := by
    simp only [List.forall_mem_cons]
    exact ⟨⟨sNoneType, nf_of uNoneType⟩, ⟨sbool, nf_of ubool⟩, ⟨sint, nf_of uint⟩, ⟨sstr, nf_of ustr⟩, ⟨slist, nf_of ulist⟩, ⟨stuple, nf_of utuple⟩, ⟨sdict, nf_of udict⟩, fun _ z => nomatch z⟩
  have LM : LabM K mg C gE gL gS gR gH pM gM dE dLn dS dR dH dG := { cl := CL, n1 := cn1, n2 := cn2, m := (PySem.W.mg_of X G cC), E := FgE, O := ⟨cgE, igE, cne, cob, sb⟩, L := FgL, fL := cgL, iL := igL, S := FgS, fS := cgS, iS := igS, R := FgR, fR := cgR, iR := igR, H := FgH, fH := cgH, iH := igH, M := FgM, pr := ⟨cpM, pg, pt, ⟨rm, pr⟩⟩, bE := (FgE.binds fun _ _ _ _ _ _ us hl => match us, hl with | [_, _], _ => rfl), bL := (FgL.binds fun _ _ _ _ _ _ us hl => match us, hl with | [_], _ => rfl), bS := (FgS.binds fun _ _ _ _ _ _ us hl => match us, hl with | [_], _ => rfl), bR := (FgR.binds fun _ _ _ _ _ _ us hl => match us, hl with | [_], _ => rfl), bH := (FgH.binds fun _ _ _ _ _ _ us hl => match us, hl with | [_, _], _ => rfl), bM := (FgM.binds fun _ _ _ _ _ _ us hl => match us, hl with | [_], _ => rfl), kt := kt, kc := kit_self, ca := cha, cn := hn, ct := ht, cm := chm }
  have kI : ∀ T ∈ ["bool", "int", "str"], PySem.W.kitOne K (.ref C) (.type T) = some false := by
    simp only [List.forall_mem_cons]
    exact ⟨kit_blt (by decide +kernel) sbool, kit_blt (by decide +kernel) sint, kit_blt (by decide +kernel) sstr, fun _ z => nomatch z⟩
  have bL : ∀ (s : Shared) (u : Value), BindsTo s d26 ⟨[u], []⟩ [("_law_script", u)] := by
    obtain ⟨oc, od, kV, doc, pm, an, cdv, ct, osl, rfl, lk, hcd⟩ := F26.ex
    exact fun s u => .of_eq rfl
  have kL : ∀ (s : Shared) (u : Value), BindsTo s d8 ⟨[], [("labels", u)]⟩ [("labels", u)] := by
    obtain ⟨oc, od, kV, doc, pm, an, cdv, ct, osl, rfl, lk, hcd⟩ := F8.ex
    exact fun s u => .of_eq rfl
  have kV : ∀ (s : Shared) (u : Value), BindsTo s d4 ⟨[], [("values", u)]⟩ [("values", u)] := by
    obtain ⟨oc, od, kV, doc, pm, an, cdv, ct, osl, rfl, lk, hcd⟩ := F4.ex
    exact fun s u => .of_eq rfl
  have bO : Binds K dO ["cls", "text"] [] := (FgO.binds fun _ _ _ _ _ _ us hl => match us, hl with | [_, _], _ => rfl)
  refine ⟨d26, [(cA, PA)], [(PA, "_law_labels_right.<locals>.<lambda>")], ⟨?_, ?_, ?_⟩, ?_, bL, fun base XB GB TB => ?_⟩
  · simp only [List.forall_mem_cons]
    exact ⟨tgA, fun _ z => nomatch z⟩
  · simp only [List.forall_mem_cons]
    exact ⟨tnA, fun _ z => nomatch z⟩
  · simp only [List.forall_mem_cons]
    exact ⟨PySem.W.codeHd_of_K X tbA, fun _ z => nomatch z⟩
  · simp only [List.forall_mem_cons]
    exact ⟨List.mem_cons_self, fun _ z => nomatch z⟩
  have TA : TabB base mg cA PA := TB _ List.mem_cons_self
  have huA : ∀ p ∈ [(PA, ("_law_labels_right.<locals>.<lambda>" : Str))], p.1 = PA → p.2 = "_law_labels_right.<locals>.<lambda>" := by
    intro p hp e
    rw [List.mem_singleton.mp hp]
  have GIn := ok_init (P := P) (w := w) (base := base) LC Z (PySem.W.mg_none_of X G ztuple) (PySem.W.mg_none_of X G zset) (PySem.W.mg_none_of X G zsorted) (PySem.W.mg_of X G mM) (PySem.W.mg_of X G mL) A0
  have GOf : FnR P w K mg base (L2.CX P w) 5 gO (fun vs H Q E => spOf K C CT (vs ++ []) H Q E) := (ok_of FgO ITt A9 LC Z (PySem.W.mg_none_of X G ztuple) (PySem.W.mg_none_of X G zset) (PySem.W.mg_none_of X G zsorted) (PySem.W.mg_of X G mM) (PySem.W.mg_of X G mL) A0).raw bO .nil
  have GIO : FnOk P w K mg base (L2.CX P w) 6 f8 d8 ["labels"] (spIO K C CE) := ok_inorder F8 LM Z (PySem.W.mg_none_of X G ztuple) (PySem.W.mg_none_of X G zlist) (PySem.W.mg_none_of X G zsorted) A5 A6 A7 ITe
  have GLT : FnG P w K mg base 7 f20 d20 ["_law_things"] (spLT K C) := ok_labtold F20 LM Z ITe ⟨ehg, ehk, exC, ehd⟩ (exm_to exC eiC etC esC) A8 GIO
  have GVO : FnOk P w K mg base (L2N.CX P w) 4 f4 d4 ["values"] (spVO K CY) := ok_vorder F4 Z (PySem.W.mg_none_of X G zsorted) (PySem.W.mg_of X G mC) A1 A2 A3 ITy
  have GVT : FnG P w K mg base 5 f21 d21 ["_law_things"] (spVT K C) := ok_valtold F21 LM Z ITy ⟨yhg, yhk, yxC, yhd⟩ (exm_to yxC yiC ytC ysC) A4 GVO
  have LE : LEnv K mg f11 f12 f13 f14 f15 f18 f20 f22 f8 d11 d12 d13 d14 d15 d18 d20 d22 d8 := ⟨B, (PySem.W.mg_none_of X G zlist), (PySem.W.mg_none_of X G ztuple), (PySem.W.mg_none_of X G zsorted), (PySem.W.mg_none_of X G zdict), A11, A12, A13, A14, A15, A18, A20, A22, A8, kL⟩
  have VE : VEnv K mg f11 f12 f16 f17 f21 f22 f4 f19 d11 d12 d16 d17 d21 d22 d4 d19 := ⟨B, (PySem.W.mg_none_of X G zlist), (PySem.W.mg_none_of X G ztuple), (PySem.W.mg_none_of X G zsorted), A11, A12, A16, A17, A21, A22, A4, kV, A19⟩
  have GLr := ok_labright (P := P) (w := w) (base := base) F23 hcA TA List.mem_cons_self huA LE LM Z CR ⟨cpO, ⟨ro, orc⟩, ofi⟩ GOf GIO GLT
  have GVr := ok_valright (T := [(PA, "_law_labels_right.<locals>.<lambda>")]) F24 hcB VE LC LM Z kI GIn GVO GVT
  have GRt := ok_right F25 B A23 A24 GLr GVr
  exact ok_law F26 B A10 A25 GRt
end K15
open PySem PySem.W PyProof.Rows in
set_option maxRecDepth 100000 in
set_option maxHeartbeats 0 in
theorem PySem.Challenge.cw_aboveless_k15_labels_and_values_in_order_holds : PySem.Challenge.rw_aboveless_k15_labels_and_values_in_order.Holds := by
  w_on; o_law; k_head; (case hw => w_witness2)
  k_fill
  refine K15.walk (l := PySem.Challenge.rw_aboveless_k15_labels_and_values_in_order) rfl rfl (fun w h Y => PySem.W.km_in_of Y) ?F
  case F =>
    intro w mg fa h Y KX G hmg hbm
    have hT := PySem.W.km_tabs_of Y
    refine' K15.all_mk KX G hmg hbm ?a0 ?F0 ?a1 ?F1 ?a2 ?F2 ?a3 ?F3 ?a4 ?F4 ?a5 ?F5 ?a6 ?F6 ?a7 ?F7 ?a8 ?F8 ?a9 ?F9 ?a10 ?F10 ?a11 ?F11 ?a12 ?F12 ?a13 ?F13 ?a14 ?F14 ?a15 ?F15 ?a16 ?F16 ?a17 ?F17 ?a18 ?F18 ?a19 ?F19 ?a20 ?F20 ?a21 ?F21 ?a22 ?F22 ?a23 ?F23 ?a24 ?F24 ?a25 ?F25 ?a26 ?F26 ?zlen ?zabs ?zmax ?zmin ?zint ?zdivmod ?zrange ?zall ?zisinstance ?zstr ?zbool ?zrepr ?ztuple ?zset ?zsorted ?zlist ?zdict ?mM ?mC ?mL ?cC ?cmk ?cin ?cfn ?ckp ?cpg ?chd ?cpo ?csa ?crd ?cga ?cmo ?cn1 ?cn2 ?cic ?cty ?FL ?cgE ?igE ?FgE ?cgL ?igL ?FgL ?cgS ?igS ?FgS ?cgR ?igR ?FgR ?cgH ?igH ?FgH ?cne ?cob ?sNoneType ?uNoneType ?sbool ?ubool ?sint ?uint ?sstr ?ustr ?slist ?ulist ?stuple ?utuple ?sdict ?udict ?cpM ?pg ?pt ?pr ?cha ?hn ?ht ?chm ?cpO ?orc ?ofi ?FgO ?FgM ?naC ?nlC ?nbC ?nsa ?nxC ?ntC ?nkC ?nhg ?nhk ?nhd ?niC ?nsC ?ninC ?ntI ?nm1 ?nm2 ?nFI ?eaC ?elC ?ebC ?esa ?exC ?etC ?ekC ?ehg ?ehk ?ehd ?eiC ?esC ?einC ?etI ?em1 ?em2 ?eFI ?taC ?tlC ?tbC ?tsa ?txC ?ttC ?tkC ?thg ?thk ?thd ?tiC ?tsC ?tinC ?ttI ?tm1 ?tm2 ?tFI ?yaC ?ylC ?ybC ?ysa ?yxC ?ytC ?ykC ?yhg ?yhk ?yhd ?yiC ?ysC ?yinC ?ytI ?ym1 ?ym2 ?yFI ?maC ?mei ?meo ?msa ?mxC ?mtC ?mkC ?mhg ?mhk ?mhd ?miC ?msC ?minC ?mtI ?mm1 ?mm2 ?mm3 ?mFI ?hcA ?lkA ?tvA ?tbA ?tnA ?tgA ?hcB
    (case a0 => k_is)
    (case F0 => refine' L2.fun_mk ?l ?c ?k; (case l => k_is); (case c => k_is); (case k => k_is))
    (case a1 => k_is)
    (case F1 => refine' L2.fun_mk ?l ?c ?k; (case l => k_is); (case c => k_is); (case k => k_is))
    (case a2 => k_is)
    (case F2 => refine' L2.fun_mk ?l ?c ?k; (case l => k_is); (case c => k_is); (case k => k_is))
    (case a3 => k_is)
    (case F3 => refine' L2.fun_mk ?l ?c ?k; (case l => k_is); (case c => k_is); (case k => k_is))
    (case a4 => k_is)
    (case F4 => refine' L2.fun_mk ?l ?c ?k; (case l => k_is); (case c => k_is); (case k => k_is))
    (case a5 => k_is)
    (case F5 => refine' L2.fun_mk ?l ?c ?k; (case l => k_is); (case c => k_is); (case k => k_is))
    (case a6 => k_is)
    (case F6 => refine' L2.fun_mk ?l ?c ?k; (case l => k_is); (case c => k_is); (case k => k_is))
    (case a7 => k_is)
    (case F7 => refine' L2.fun_mk ?l ?c ?k; (case l => k_is); (case c => k_is); (case k => k_is))
    (case a8 => k_is)
    (case F8 => refine' L2.fun_mk ?l ?c ?k; (case l => k_is); (case c => k_is); (case k => k_is))
    (case a9 => k_is)
    (case F9 => refine' L2.fun_mk ?l ?c ?k; (case l => k_is); (case c => k_is); (case k => k_is))
    (case a10 => k_is)
    (case F10 => refine' L2.fun_mk ?l ?c ?k; (case l => k_is); (case c => k_is); (case k => k_is))
    (case a11 => k_is)
    (case F11 => refine' L2.fun_mk ?l ?c ?k; (case l => k_is); (case c => k_is); (case k => k_is))
    (case a12 => k_is)
    (case F12 => refine' L2.fun_mk ?l ?c ?k; (case l => k_is); (case c => k_is); (case k => k_is))
    (case a13 => k_is)
    (case F13 => refine' L2.fun_mk ?l ?c ?k; (case l => k_is); (case c => k_is); (case k => k_is))
    (case a14 => k_is)
    (case F14 => refine' L2.fun_mk ?l ?c ?k; (case l => k_is); (case c => k_is); (case k => k_is))
    (case a15 => k_is)
    (case F15 => refine' L2.fun_mk ?l ?c ?k; (case l => k_is); (case c => k_is); (case k => k_is))
    (case a16 => k_is)
    (case F16 => refine' L2.fun_mk ?l ?c ?k; (case l => k_is); (case c => k_is); (case k => k_is))
    (case a17 => k_is)
    (case F17 => refine' L2.fun_mk ?l ?c ?k; (case l => k_is); (case c => k_is); (case k => k_is))
    (case a18 => k_is)
    (case F18 => refine' L2.fun_mk ?l ?c ?k; (case l => k_is); (case c => k_is); (case k => k_is))
    (case a19 => k_is)
    (case F19 => refine' L2.fun_mk ?l ?c ?k; (case l => k_is); (case c => k_is); (case k => k_is))
    (case a20 => k_is)
    (case F20 => refine' L2.fun_mk ?l ?c ?k; (case l => k_is); (case c => k_is); (case k => k_is))
    (case a21 => k_is)
    (case F21 => refine' L2.fun_mk ?l ?c ?k; (case l => k_is); (case c => k_is); (case k => k_is))
    (case a22 => k_is)
    (case F22 => refine' L2.fun_mk ?l ?c ?k; (case l => k_is); (case c => k_is); (case k => k_is))
    (case a23 => k_is)
    (case F23 => refine' L2.fun_mk ?l ?c ?k; (case l => k_is); (case c => k_is); (case k => k_is))
    (case a24 => k_is)
    (case F24 => refine' L2.fun_mk ?l ?c ?k; (case l => k_is); (case c => k_is); (case k => k_is))
    (case a25 => k_is)
    (case F25 => refine' L2.fun_mk ?l ?c ?k; (case l => k_is); (case c => k_is); (case k => k_is))
    (case a26 => k_is)
    (case F26 => refine' L2.fun_mk ?l ?c ?k; (case l => k_is); (case c => k_is); (case k => k_is))
    (case zlen => k_is)
    (case zabs => k_is)
    (case zmax => k_is)
    (case zmin => k_is)
    (case zint => k_is)
    (case zdivmod => k_is)
    (case zrange => k_is)
    (case zall => k_is)
    (case zisinstance => k_is)
    (case zstr => k_is)
    (case zbool => k_is)
    (case zrepr => k_is)
    (case ztuple => k_is)
    (case zset => k_is)
    (case zsorted => k_is)
    (case zlist => k_is)
    (case zdict => k_is)
    (case mM => k_is)
    (case mC => k_is)
    (case mL => k_is)
    (case cC => k_is)
    (case cmk => k_is)
    (case cin => k_is)
    (case cfn => k_is)
    (case ckp => k_is)
    (case cpg => k_is)
    (case chd => k_is)
    (case cpo => k_is)
    (case csa => k_is)
    (case crd => k_is)
    (case cga => k_is)
    (case cmo => k_is)
    (case cn1 => k_is)
    (case cn2 => k_is)
    (case cic => k_is)
    (case cty => k_is)
    (case FL => refine' L2.fun_mk ?l ?c ?k; (case l => k_is); (case c => k_is); (case k => k_is))
    (case cgE => k_is)
    (case igE => k_is)
    (case FgE => refine' L2.fun_mk ?l ?c ?k; (case l => k_is); (case c => k_is); (case k => k_is))
    (case cgL => k_is)
    (case igL => k_is)
    (case FgL => refine' L2.fun_mk ?l ?c ?k; (case l => k_is); (case c => k_is); (case k => k_is))
    (case cgS => k_is)
    (case igS => k_is)
    (case FgS => refine' L2.fun_mk ?l ?c ?k; (case l => k_is); (case c => k_is); (case k => k_is))
    (case cgR => k_is)
    (case igR => k_is)
    (case FgR => refine' L2.fun_mk ?l ?c ?k; (case l => k_is); (case c => k_is); (case k => k_is))
    (case cgH => k_is)
    (case igH => k_is)
    (case FgH => refine' L2.fun_mk ?l ?c ?k; (case l => k_is); (case c => k_is); (case k => k_is))
    (case cne => k_is)
    (case cob => k_is)
    (case sNoneType => k_is)
    (case uNoneType => k_is)
    (case sbool => k_is)
    (case ubool => k_is)
    (case sint => k_is)
    (case uint => k_is)
    (case sstr => k_is)
    (case ustr => k_is)
    (case slist => k_is)
    (case ulist => k_is)
    (case stuple => k_is)
    (case utuple => k_is)
    (case sdict => k_is)
    (case udict => k_is)
    (case cpM => k_is)
    (case pg => k_is)
    (case pt => k_is)
    (case pr => k_is)
    (case cha => k_is)
    (case hn => k_is)
    (case ht => k_is)
    (case chm => k_is)
    (case cpO => k_is)
    (case orc => k_is)
    (case ofi => k_is)
    (case FgO => refine' L2.fun_mk ?l ?c ?k; (case l => k_is); (case c => k_is); (case k => k_is))
    (case FgM => refine' L2.fun_mk ?l ?c ?k; (case l => k_is); (case c => k_is); (case k => k_is))
    (case naC => k_is)
    (case nlC => k_is)
    (case nbC => decide +kernel)
    (case nsa => k_is)
    (case nxC => k_is)
    (case ntC => k_is)
    (case nkC => k_is)
    (case nhg => k_is)
    (case nhk => k_is)
    (case nhd => k_is)
    (case niC => k_is)
    (case nsC => first | k_is | rfl)
    (case ninC => k_is)
    (case ntI => k_is)
    (case nm1 => k_is)
    (case nm2 => k_is)
    (case nFI => refine' L2.fun_mk ?l ?c ?k; (case l => k_is); (case c => k_is); (case k => k_is))
    (case eaC => k_is)
    (case elC => k_is)
    (case ebC => decide +kernel)
    (case esa => k_is)
    (case exC => k_is)
    (case etC => k_is)
    (case ekC => k_is)
    (case ehg => k_is)
    (case ehk => k_is)
    (case ehd => k_is)
    (case eiC => k_is)
    (case esC => first | k_is | rfl)
    (case einC => k_is)
    (case etI => k_is)
    (case em1 => k_is)
    (case em2 => k_is)
    (case eFI => refine' L2.fun_mk ?l ?c ?k; (case l => k_is); (case c => k_is); (case k => k_is))
    (case taC => k_is)
    (case tlC => k_is)
    (case tbC => decide +kernel)
    (case tsa => k_is)
    (case txC => k_is)
    (case ttC => k_is)
    (case tkC => k_is)
    (case thg => k_is)
    (case thk => k_is)
    (case thd => k_is)
    (case tiC => k_is)
    (case tsC => first | k_is | rfl)
    (case tinC => k_is)
    (case ttI => k_is)
    (case tm1 => k_is)
    (case tm2 => k_is)
    (case tFI => refine' L2.fun_mk ?l ?c ?k; (case l => k_is); (case c => k_is); (case k => k_is))
    (case yaC => k_is)
    (case ylC => k_is)
    (case ybC => decide +kernel)
    (case ysa => k_is)
    (case yxC => k_is)
    (case ytC => k_is)
    (case ykC => k_is)
    (case yhg => k_is)
    (case yhk => k_is)
    (case yhd => k_is)
    (case yiC => k_is)
    (case ysC => first | k_is | rfl)
    (case yinC => k_is)
    (case ytI => k_is)
    (case ym1 => k_is)
    (case ym2 => k_is)
    (case yFI => refine' L2.fun_mk ?l ?c ?k; (case l => k_is); (case c => k_is); (case k => k_is))
    (case maC => k_is)
    (case mei => kx_is)
    (case meo => kx_is)
    (case msa => k_is)
    (case mxC => k_is)
    (case mtC => k_is)
    (case mkC => k_is)
    (case mhg => k_is)
    (case mhk => k_is)
    (case mhd => k_is)
    (case miC => k_is)
    (case msC => first | k_is | rfl)
    (case minC => k_is)
    (case mtI => k_is)
    (case mm1 => k_is)
    (case mm2 => k_is)
    (case mm3 => k_is)
    (case mFI => refine' L2.fun_mk ?l ?c ?k; (case l => k_is); (case c => k_is); (case k => k_is))
    (case hcA => rfl)
    (case lkA => k_is)
    (case tvA => rfl)
    (case tbA => kernel_rfl)
    (case tnA => kernel_rfl)
    (case tgA => exact hT _ (by simp))
    (case hcB => rfl)
