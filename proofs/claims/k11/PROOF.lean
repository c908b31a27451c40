import PyProof.Rows.All
import Wide.All
import OpenK.AllK
import Wide.FinOn
import HandS.List
import HandS.Set
import HandS.SetFor
import HandS.ForMost
import HandS.ForExc
import HandS.StrMore
import HandS.WideBits
import HandS.Zip
import HandS.IsInst
import HandS.ExcInit
import HandS.ExcField
import HandS.ExcIs
import HandS.Style
import HandS.Flow
import HandS.WrittenGet
import HandS.Steps
import HandS.Walk
import HandS.Text
import HandS.FStr
import HandS.RaiseMore
import PyProof.ReprRoads
import KE.KxStill
import KE.KStrOpen
import PyProof.Rows.ReprOcc
import HandS.Defaults
import HandS.Star
import HandS.ClsMeth
import HandS.OwnEq
import PySem.Challenge.RW_aboveless_k11_values_judged
set_option Elab.async false
set_option linter.all false
set_option maxRecDepth 100000
set_option maxHeartbeats 4000000
namespace LB
open PySem PySem.Spec PyProof.Rows L2
/-! ### sets of texts: a bag of keys -/
def nm (e : Int × Value) : Str := match e.2 with
  | .str x _ => x
  | _ => Str.empty
def Ent (w : World) (e : Int × Value) : Prop := ∃ x tk, e = (hashStr w x, Value.str x tk)
structure Tab (w : World) (es : Array (Int × Value)) (t : SetTable) : Prop where
  all : ∀ e ∈ es.toList, Ent w e
  few : es.size < scanBound
  fit : t.fits es.size = true
  ris : Ris t.place.toList
  led : w.params.followText "set-order" = true ∨ t.led = true
/-- at a: a set of the texts ks, no two alike -/
def Bag (w : World) (h : Heap) (a : Addr) (ks : List Str) : Prop :=
  ks.Nodup ∧ ∃ o es ep t, h.get? a = some o ∧ o.ExactSet ∧ o.data = .set es ep t ∧ Tab w es t ∧ es.toList.map nm = ks
section
variable {P : Program} {w : World} {A : Around} {E : Value → Shared → Prop} {s : Shared} {a : Addr}
theorem Bag.at {h h' : Heap} {ks : List Str} (B : Bag w h a ks) (k : ∀ o, h.get? a = some o → h'.get? a = some o) : Bag w h' a ks := by
  obtain ⟨nd, o, es, ep, t, e, r⟩ := B
  exact ⟨nd, o, es, ep, t, k o e, r⟩
theorem Bag.len {h : Heap} {ks : List Str} (B : Bag w h a ks) : ks.length < scanBound := by
  obtain ⟨_, o, es, ep, t, _, _, _, T, e⟩ := B
  rw [← e, List.length_map, Array.length_toList]
  exact T.few
theorem Tab.elems {es : Array (Int × Value)} {t : SetTable} (T : Tab w es t) : ElemsOf (PySem.strKind P w) es.toList := fun e he => by
  obtain ⟨x, tk, rfl⟩ := T.all e he
  exact ⟨⟨x, strKind_is P w x tk, rfl⟩, rfl⟩
theorem ent_is {e : Int × Value} {x : Str} (n : Ent w e) : (PySem.strKind P w).is x e.2 = true ↔ nm e = x := by
  obtain ⟨y, tk, rfl⟩ := n
  constructor
  · intro z
    obtain ⟨t2, q⟩ := Value.isStrOf_shape (x := x) (v := .str y tk) z
    cases q
    rfl
  · intro z
    have z' : y = x := z
    subst z'
    exact strKind_is P w y tk
/-- what is stored, and laid anew where the table is too full -/
theorem put_away {say : Bool → Sem Unit} (quiet : ∀ (b : Bool) (s1 : Shared) (R : Unit → Shared → Prop), R () s1 → wpAny (model P w) A (say b) R E s1) {o : Obj} {es es' : Array (Int × Value)} {ep : Nat} {t t' : SetTable} {old : Bool}
    (at_ : s.heap.get? a = some o) (xo : o.ExactSet) (od : o.data = .set es ep t) (T : Tab w es' t') {Q : Option Bool → Shared → Prop}
    (k : ∀ h', Heap.SameBut a s.heap h' → (∃ o2 es2 ep2 t2, h'.get? a = some o2 ∧ o2.ExactSet ∧ o2.data = .set es2 ep2 t2 ∧ Tab w es2 t2 ∧ es2.toList.Perm es'.toList) → Q (some true) { s with heap := h' }) :
    wpAny (model P w) A (do
      storeSet a es' t'
      if (!old && t'.tooFull) = true then do say (relayAll t' es' (SetTable.grown es'.size)).2.2; storeSet a (relayAll t' es' (SetTable.grown es'.size)).1 (relayAll t' es' (SetTable.grown es'.size)).2.1; pure (some true)
      else pure (some true)) Q E s := by
  have first := store_at (es' := es') (t' := t') at_ od
  have same1 := Heap.SameBut.update s.heap a (Obj.putSet es' t')
  apply wpAny_bind
  apply wpAny_storeSet_of at_ od (hz := fits_of_scanBound T.few)
  by_cases full : (!old && t'.tooFull) = true
  · simp only [full, if_true]
    have pe := relayAll_perm t' es' (SetTable.grown es'.size)
    have fe := relayAll_fits t' es' (SetTable.grown es'.size)
    have re := relayAll_ris t' es' (SetTable.grown es'.size)
    have le := relayAll_led t' es' (SetTable.grown es'.size)
    revert pe fe re le
    generalize relayAll t' es' (SetTable.grown es'.size) = laid
    rcases laid with ⟨es2, t2, gave⟩
    intro pe fe re le
    have sz : es2.size = es'.size := by simpa using pe.length_eq
    have T2 : Tab w es2 t2 := ⟨fun e he => T.all e (pe.mem_iff.mp he), sz ▸ T.few, fe, re, T.led.imp (fun z => z) fun z => le.trans z⟩
    apply wpAny_bind
    apply quiet
    apply wpAny_bind
    apply wpAny_storeSet_of first rfl (hz := fits_of_scanBound T2.few)
    have second := store_at (es' := es2) (t' := t2) first rfl
    exact wpAny_pure (k _ (same1.trans (Heap.SameBut.update _ a _)) ⟨_, es2, _, t2, second, xo, rfl, T2, pe⟩)
  · simp only [full]
    exact wpAny_pure (k _ same1 ⟨_, es', _, t', first, xo, rfl, T, List.Perm.refl _⟩)
theorem bag_add {ks : List Str} {x : Str} {tk : Tok} {Q : Bool → Shared → Prop} (B : Bag w s.heap a ks) (room : ks.length + 1 < scanBound)
    (k : ∀ b h' ks', Heap.SameBut a s.heap h' → Bag w h' a ks' → (∀ y, y ∈ ks' ↔ y = x ∨ y ∈ ks) → ks'.length ≤ ks.length + 1 → Q b { s with heap := h' }) :
    wpAny (model P w) A (setAddHashed a (.str x tk) (hashStr w x)) Q E s := by
  obtain ⟨nd, o, es, ep, t, at_, xo, od, T, names⟩ := B
  have el : ElemsOf (PySem.strKind P w) es.toList := T.elems
  have scans : (Value.str x tk).scannable = true := rfl
  have isx : (PySem.strKind P w).is x (.str x tk) = true := strKind_is P w x tk
  have hh : hashStr w x = (PySem.strKind P w).hash x := rfl
  rw [hh]
  unfold setAddHashed setAddHashedIn
  apply wpAny_holding
  apply wpAny_bind
  apply wpAny_setState_of at_ od T.fit
  simp only [byScan_of scans T.few el, if_true]
  unfold setAddByScan
  apply wpAny_bind
  apply wpAny_bind
  apply wpAny_rule
  apply wpAny_bind
  apply wpAny_setScan_of isx at_ od T.fit el
  cases seek : es.toList.findIdx? (fun e => (PySem.strKind P w).is x e.2) with
  | some j =>
    obtain ⟨lt, hit, _⟩ := List.findIdx?_eq_some_iff_getElem.mp seek
    have inside : x ∈ ks := by
      rw [← names]
      exact List.mem_map.mpr ⟨_, List.getElem_mem lt, (ent_is (P := P) (T.all _ (List.getElem_mem lt))).mp hit⟩
    exact wpAny_pure (wpAny_pure (k _ s.heap ks (Heap.SameBut.refl a s.heap) ⟨nd, o, es, ep, t, at_, xo, od, T, names⟩ (fun y => ⟨.inr, fun z => z.elim (fun e => e ▸ inside) id⟩) (Nat.le_succ _)))
  | none =>
    have out : x ∉ ks := fun z => by
      rw [← names] at z
      obtain ⟨e, he, q⟩ := List.mem_map.mp z
      have no := List.findIdx?_eq_none_iff.mp seek e he
      rw [(ent_is (P := P) (T.all e he)).mpr q] at no
      cases no
    have pe := layNew_perm t es ((PySem.strKind P w).hash x) (.str x tk)
    have fe := layNew_fits t es ((PySem.strKind P w).hash x) (.str x tk)
    have re := layNew_ris t es ((PySem.strKind P w).hash x) (.str x tk) T.ris
    have le := layNew_led t es ((PySem.strKind P w).hash x) (.str x tk)
    revert pe fe re le
    dsimp only
    generalize layNew t es ((PySem.strKind P w).hash x) (.str x tk) = laid
    rcases laid with ⟨es1, t1, old, gave⟩
    intro pe fe re le
    dsimp only at pe fe re le ⊢
    have pc : es1.toList.Perm ((hashStr w x, Value.str x tk) :: es.toList) := by
      rw [Array.toList_push] at pe
      exact pe.trans (List.perm_append_singleton _ _)
    have pn : (es1.toList.map nm).Perm (x :: ks) := by
      have q := pc.map nm
      rw [List.map_cons, names] at q
      exact q
    have sz : es1.size = ks.length + 1 := by
      have q := pn.length_eq
      simpa using q
    have T1 : Tab w es1 t1 := ⟨fun e he => by
      rcases List.mem_cons.mp (pc.mem_iff.mp he) with z | z
      · exact ⟨x, tk, z⟩
      · exact T.all e z, by rw [sz]; exact room, fe, re, T.led.imp (fun z => z) fun z => le.trans z⟩
    have fin : ∀ h', Heap.SameBut a s.heap h' → (∃ o2 es2 ep2 t2, h'.get? a = some o2 ∧ o2.ExactSet ∧ o2.data = .set es2 ep2 t2 ∧ Tab w es2 t2 ∧ es2.toList.Perm es1.toList) → Q true { s with heap := h' } := fun h' sb ⟨o2, es2, ep2, t2, g2, x2, d2, T2, p2⟩ => by
      have p3 : (es2.toList.map nm).Perm (x :: ks) := (p2.map nm).trans pn
      exact k true h' _ sb ⟨p3.nodup_iff.mpr (List.nodup_cons.mpr ⟨out, nd⟩), o2, es2, ep2, t2, g2, x2, d2, T2, rfl⟩ (fun y => by rw [p3.mem_iff, List.mem_cons]) (by rw [p3.length_eq, List.length_cons] <;> exact Nat.le_refl _)
    apply wpAny_bind
    have hush : ∀ (b : Bool) (s1 : Shared) (R : Unit → Shared → Prop), R () s1 → wpAny (model P w) A (match b with | true => rule "set.scan.the-table-gave-way" | false => pure ()) R E s1 := fun b s1 R q => by
      cases b
      · exact wpAny_pure q
      · exact wpAny_rule q
    apply hush
    by_cases pl : t1.plain = true
    · simp only [pl, if_true]
      rw [hashByValue_scannable 8 scans]
      apply wpAny_bind
      apply wpAny_pure
      have T1' : ∀ b : Bool, Tab w es1 (if b = true then t1 else { t1 with plain := false }) := fun b => by
        cases b
        · exact ⟨T1.all, T1.few, SetTable.fits_plain_off fe, re, T1.led⟩
        · exact T1
      refine put_away (say := fun b => match b with | true => rule "set.scan.the-table-gave-way" | false => pure ()) hush at_ xo od (T1' _) fun h' sb z => wpAny_pure (fin h' sb z)
    · simp only [pl]
      apply wpAny_bind
      apply wpAny_pure
      refine put_away (say := fun b => match b with | true => rule "set.scan.the-table-gave-way" | false => pure ()) hush at_ xo od T1 fun h' sb z => wpAny_pure (fin h' sb z)
/-- a walk over texts fills the bag at b -/
theorem bag_fill {I b : Addr} {fp wr : List Addr} {G : Array GenState → Array GenState → Prop} {n : Nat} {Pv : Nat → Value → Prop} {St : Nat → Shared → Prop} {R : Result → Shared → Prop} (W : WalksS P w A.in1 I fp wr G n Pv St) (away : b ∉ fp) (xs : List Str) (len : n = xs.length)
    (room : xs.length + 1 < scanBound) (val : ∀ i v, Pv i v → ∃ x t, xs[i]? = some x ∧ v = .str x t) : ∀ (left i : Nat) (s : Shared) (ks : List Str), n - i = left → i ≤ n → St i s → Bag w s.heap b ks → (∀ y, y ∈ ks ↔ y ∈ xs.take i) → ks.length ≤ i →
      (∀ s' ks', Moved (b :: wr) G s s' → Bag w s'.heap b ks' → (∀ y, y ∈ ks' ↔ y ∈ xs) → ks'.length ≤ xs.length → R (.ok (.ret .none)) s') → codeAny (model P w) A (.builtin "set.update.loop" ⟨[.ref b, .ref I], []⟩) R s := by
  have bw : b ∉ wr := fun z => away (W.sub _ z)
  have more : ∀ c ∈ wr, c ∈ b :: wr := fun _ z => List.mem_cons_of_mem _ z
  intro left
  induction left with
  | zero =>
    intro i s ks e1 e2 st B mem le k
    obtain rfl : i = n := by omega
    apply codeAny_builtin F.entry_set_update_loop
    rw [Around.under_plainId F.plain_set_update_loop _]
    show wpAny _ A.in1 (pyNext (.ref I) >>= _) _ _ s
    apply wpAny_bind
    refine W.done s _ _ st fun s' mv => ?_
    show wpAny _ A.in1 (ret Value.none) _ _ s'
    rw [len, List.take_length] at mem
    exact wpAny_pure (k s' ks (mv.mono more) (B.at fun o z => mv.heap b o bw z) mem (len ▸ le))
  | succ left ih =>
    intro i s ks e1 e2 st B mem le k
    have lt : i < n := by omega
    apply codeAny_builtin F.entry_set_update_loop
    rw [Around.under_plainId F.plain_set_update_loop _]
    show wpAny _ A.in1 (pyNext (.ref I) >>= _) _ _ s
    apply wpAny_bind
    refine W.item i s _ _ lt st fun v s1 pv st1 mv => ?_
    obtain ⟨x, t, at_, rfl⟩ := val i v pv
    show wpAny _ A.in1 (holding [Value.str x t] (setAdd b (.str x t)) >>= _) _ _ s1
    apply wpAny_bind
    apply wpAny_holding
    unfold setAdd
    apply wpAny_holding
    apply wpAny_bind
    refine (PySem.strKind P w).pyHash (k := x) (strKind_is P w x t) ?_
    refine bag_add (s := { s1 with toks := s1.toks + 1 }) (B.at fun o z => mv.heap b o bw z) (by omega) fun added h' ks' sb B' mem' le' => ?_
    have off : ∀ c, c ∉ b :: wr → c ≠ b := fun c z q => z (by rw [q]; exact List.mem_cons_self)
    refine wpAny_pure ⟨plainId_quiet F.plain_set_update_loop _, ih (i + 1) _ ks' (by omega) lt (W.frame _ s1 _ _ st1 (Nat.le_succ _) fun c hc o z => ?_) B' (fun y => ?_) (by omega) fun s2 ks2 mv2 B2 mem2 le2 => ?_⟩
    · rw [sb.2 c (fun q => away (q ▸ hc))]
      exact z
    · rw [mem' y, mem y, List.take_add_one, at_, Option.toList_some, List.mem_append, List.mem_singleton]
      exact Or.comm
    · refine k s2 ks2 (Moved.trans W.gtrans ((mv.mono more).then_heap (Nat.le_succ _) fun c o hc z => ?_) mv2) B2 mem2 le2
      rw [sb.2 c (off c hc)]
      exact z
theorem txt_at {us : List Value} {xs : List Str} (h : StrsAre us xs) : ∀ (i : Nat) (v : Value), us[i]? = some v → ∃ x t, xs[i]? = some x ∧ v = .str x t := by
  induction h with
  | nil => intro i v z; cases z
  | cons x t _ ih =>
    intro i v z
    cases i with
    | zero => cases z; exact ⟨x, t, rfl, rfl⟩
    | succ i => exact ih i v z
abbrev freshSet (w : World) : Obj := { cls := .type "set", dict := none, data := .set #[] 0 (.fresh 0 0 (!w.params.followText "set-order")) }
theorem bag_nil {h : Heap} {b : Addr} (e : h.get? b = some (freshSet w)) : Bag w h b [] := by
  refine ⟨List.nodup_nil, _, #[], 0, _, e, ⟨rfl, rfl, rfl⟩, rfl, ⟨fun _ z => (by simp at z), by decide, rfl, List.Pairwise.nil, ?_⟩, rfl⟩
  show w.params.followText "set-order" = true ∨ (!w.params.followText "set-order") = true
  cases w.params.followText "set-order"
  · exact .inr rfl
  · exact .inl rfl
theorem set_of_tuple {l : Addr} {items : Array Value} (xs : List Str) {Q : Value → Shared → Prop} (calm : A.handled = none) (src : s.heap.IsTuple l items) (are : StrsAre items.toList xs) (room : xs.length + 1 < scanBound)
    (k : ∀ (h' : Heap) (tk : Nat) (ks : List Str), Bag w h' s.heap.objs.size ks → (∀ y, y ∈ ks ↔ y ∈ xs) → ks.length ≤ xs.length → (∀ b o, s.heap.get? b = some o → h'.get? b = some o) → Q (.ref s.heap.objs.size) { s with heap := h', toks := tk }) :
    wpAny (model P w) A (call (.type "set") [.ref l]) Q E s := by
  have size_ : items.size = xs.length := by
    have q := are.length
    simpa using q
  obtain ⟨c, tl, hmro⟩ := F.called_set.mro
  have hmade := F.called_set.made
  have hsub := F.called_set.sub
  apply wpAny_call
  apply codeAny_of_tree
  show wpAny _ _ (callAny (.type "set") _) _ _ _
  refine wpAny_pure ⟨Code.quiet_builtin _ (by decide +kernel), codeAny_builtin F.entry_type_call ?_⟩
  rw [Around.under_plain (weight_type_call_type "set" [.ref l] []) rfl]
  have notType := F.called_set.notType
  have creates := F.called_set.canCreate
  have calls1 := F.typeCall_set_1 (.ref l)
  repeat (any_goals (first | assumption | wp_step))
  refine codeAny_mono (code_set_led1 (.ref l) (E := E) (Q₁ := fun ob s1 => ob = .ref s.heap.objs.size ∧ s1 = { s with heap := s.heap.push (freshSet w) }) ⟨rfl, rfl⟩) fun r s1 hr => ?_
  cases r with
  | error e => exact hr
  | ok fl =>
    cases fl with
    | next => exact hr.elim
    | brk => exact hr.elim
    | cont => exact hr.elim
    | ret ob =>
      obtain ⟨rfl, rfl⟩ := hr
      have made : (s.heap.push (freshSet w)).get? s.heap.objs.size = some (freshSet w) := Heap.get?_push_size _ rfl
      have madeT : Shared.TypeIs { s with heap := s.heap.push (freshSet w) } (.ref s.heap.objs.size) "set" := ⟨_, made, rfl⟩
      have initLook := F.called_set.init.lookup
      have initBind := F.called_set.init.bind (.ref s.heap.objs.size)
      repeat (any_goals (first | assumption | wp_step))
      refine codeAny_mono (codeAny_call_builtin (R := wants (fun r s2 => r = .none ∧ ∃ h' tk ks, s2 = { s with heap := h', toks := tk } ∧ Bag w h' s.heap.objs.size ks ∧ (∀ y, y ∈ ks ↔ y ∈ xs) ∧ ks.length ≤ xs.length ∧ ∀ b o, s.heap.get? b = some o → h'.get? b = some o) E)
        F.called_set.init.plain F.entry_set_init (check_set_init_1 madeT ?_)) fun r2 s2 hr2 => ?_
      · obtain ⟨⟨ocls, odict, odata, oslots⟩, hol, hcl, nl, hdl⟩ := src
        simp only at hcl hdl
        subst hcl
        subst hdl
        have srcAt := Heap.get?_push_of_some (freshSet w) hol
        have src1 : (s.heap.push (freshSet w)).IsTuple l items := ⟨_, srcAt, rfl, nl, rfl⟩
        have hsls := F.sub_tuple_set
        have hslf := F.sub_tuple_frozenset
        have noDict : (Value.type "tuple" == Value.type "dict") = false := by decide
        unfold Builtin.«set.__init__» noKeywords Builtin.Frozenset.updateFrom
        generalize hPI : pyIter = PI
        wp_walk
        subst hPI
        apply wpAny_pyIter_tuple src1
        apply wpAny_bind
        apply wpAny_runValue
        have low : l < s.heap.objs.size := Heap.lt_size hol
        have grown : (s.heap.push (freshSet w)).objs.size = s.heap.objs.size + 1 := Heap.size_push _ _
        have calm3 : A.in1.in1.in1.handled = none := by simp [calm]
        have apart : l ≠ (s.heap.push (freshSet w)).objs.size := by rw [grown]; exact Nat.ne_of_lt (Nat.lt_succ_of_lt low)
        have away : s.heap.objs.size ∉ [(s.heap.push (freshSet w)).objs.size, l] := fun z => by
          rcases List.mem_cons.mp z with z | z
          · rw [grown] at z
            exact absurd z (Nat.ne_of_lt (Nat.lt_succ_self _))
          · exact absurd (List.mem_singleton.mp z).symm (Nat.ne_of_lt low)
        refine bag_fill ((Walks.tuple calm3 _ l apart items).toS) away xs size_ room (fun i v z => txt_at are i v (by rw [Array.getElem?_toList]; exact z)) (items.size - 0) 0 _ [] rfl (Nat.zero_le _)
          ⟨⟨_, Heap.get?_push_size _ rfl, rfl, rfl⟩, src1.push _⟩ (bag_nil (Heap.get?_push_of_some _ made)) (fun y => by simp) (Nat.le_refl 0) fun s3 ks mv B mem le => ?_
        rcases s3 with ⟨h3, g3, d3, tk3, os3⟩
        cases (show g3 = s.gens from mv.gens)
        cases (show d3 = s.drawn from mv.drawn)
        cases (show os3 = s.os from mv.os)
        apply wpAny_pure
        show wpAny _ _ (ret Value.none) _ _ _
        refine wpAny_pure ⟨rfl, h3, tk3, ks, rfl, B, mem, le, fun b o e => mv.heap b o (fun z => ?_) (Heap.get?_push_of_some _ (Heap.get?_push_of_some _ e))⟩
        have lb := Heap.lt_size e
        rcases List.mem_cons.mp z with z | z
        · exact absurd z (Nat.ne_of_lt lb)
        · rw [grown] at z
          exact absurd (List.mem_singleton.mp z) (Nat.ne_of_lt (Nat.lt_succ_of_lt lb))
      · cases r2 with
        | error e => exact hr2
        | ok fl2 =>
          cases fl2 with
          | next => exact hr2.elim
          | brk => exact hr2.elim
          | cont => exact hr2.elim
          | ret r =>
            obtain ⟨rfl, h', tk, ks, rfl, B, mem, le, kp⟩ := hr2
            repeat (any_goals (first | assumption | wp_step))
            exact k _ _ _ B mem le kp
theorem set_of_list {l : Addr} {items : Array Value} (xs : List Str) {Q : Value → Shared → Prop} (calm : A.handled = none) (src : s.heap.IsList l items) (are : StrsAre items.toList xs) (room : xs.length + 1 < scanBound)
    (k : ∀ (h' : Heap) (tk : Nat) (ks : List Str), Bag w h' s.heap.objs.size ks → (∀ y, y ∈ ks ↔ y ∈ xs) → ks.length ≤ xs.length → (∀ b o, s.heap.get? b = some o → h'.get? b = some o) → Q (.ref s.heap.objs.size) { s with heap := h', toks := tk }) :
    wpAny (model P w) A (call (.type "set") [.ref l]) Q E s := by
  have size_ : items.size = xs.length := by
    have q := are.length
    simpa using q
  obtain ⟨c, tl, hmro⟩ := F.called_set.mro
  have hmade := F.called_set.made
  have hsub := F.called_set.sub
  apply wpAny_call
  apply codeAny_of_tree
  show wpAny _ _ (callAny (.type "set") _) _ _ _
  refine wpAny_pure ⟨Code.quiet_builtin _ (by decide +kernel), codeAny_builtin F.entry_type_call ?_⟩
  rw [Around.under_plain (weight_type_call_type "set" [.ref l] []) rfl]
  have notType := F.called_set.notType
  have creates := F.called_set.canCreate
  have calls1 := F.typeCall_set_1 (.ref l)
  repeat (any_goals (first | assumption | wp_step))
  refine codeAny_mono (code_set_led1 (.ref l) (E := E) (Q₁ := fun ob s1 => ob = .ref s.heap.objs.size ∧ s1 = { s with heap := s.heap.push (freshSet w) }) ⟨rfl, rfl⟩) fun r s1 hr => ?_
  cases r with
  | error e => exact hr
  | ok fl =>
    cases fl with
    | next => exact hr.elim
    | brk => exact hr.elim
    | cont => exact hr.elim
    | ret ob =>
      obtain ⟨rfl, rfl⟩ := hr
      have made : (s.heap.push (freshSet w)).get? s.heap.objs.size = some (freshSet w) := Heap.get?_push_size _ rfl
      have madeT : Shared.TypeIs { s with heap := s.heap.push (freshSet w) } (.ref s.heap.objs.size) "set" := ⟨_, made, rfl⟩
      have initLook := F.called_set.init.lookup
      have initBind := F.called_set.init.bind (.ref s.heap.objs.size)
      repeat (any_goals (first | assumption | wp_step))
      refine codeAny_mono (codeAny_call_builtin (R := wants (fun r s2 => r = .none ∧ ∃ h' tk ks, s2 = { s with heap := h', toks := tk } ∧ Bag w h' s.heap.objs.size ks ∧ (∀ y, y ∈ ks ↔ y ∈ xs) ∧ ks.length ≤ xs.length ∧ ∀ b o, s.heap.get? b = some o → h'.get? b = some o) E)
        F.called_set.init.plain F.entry_set_init (check_set_init_1 madeT ?_)) fun r2 s2 hr2 => ?_
      · obtain ⟨⟨ocls, odict, odata, oslots⟩, hol, hcl, nl, hdl⟩ := src
        simp only at hcl hdl
        subst hcl
        subst hdl
        have srcAt := Heap.get?_push_of_some (freshSet w) hol
        have src1 : (s.heap.push (freshSet w)).IsList l items := ⟨_, srcAt, rfl, nl, rfl⟩
        have hsls := F.sub_list_set
        have hslf := F.sub_list_frozenset
        have noDict : (Value.type "list" == Value.type "dict") = false := by decide
        unfold Builtin.«set.__init__» noKeywords Builtin.Frozenset.updateFrom
        generalize hPI : pyIter = PI
        wp_walk
        subst hPI
        apply wpAny_pyIter_list src1
        apply wpAny_bind
        apply wpAny_runValue
        have low : l < s.heap.objs.size := Heap.lt_size hol
        have grown : (s.heap.push (freshSet w)).objs.size = s.heap.objs.size + 1 := Heap.size_push _ _
        have calm3 : A.in1.in1.in1.handled = none := by simp [calm]
        have apart : l ≠ (s.heap.push (freshSet w)).objs.size := by rw [grown]; exact Nat.ne_of_lt (Nat.lt_succ_of_lt low)
        have away : s.heap.objs.size ∉ [(s.heap.push (freshSet w)).objs.size, l] := fun z => by
          rcases List.mem_cons.mp z with z | z
          · rw [grown] at z
            exact absurd z (Nat.ne_of_lt (Nat.lt_succ_self _))
          · exact absurd (List.mem_singleton.mp z).symm (Nat.ne_of_lt low)
        refine bag_fill ((Walks.list calm3 _ l apart items).toS) away xs size_ room (fun i v z => txt_at are i v (by rw [Array.getElem?_toList]; exact z)) (items.size - 0) 0 _ [] rfl (Nat.zero_le _)
          ⟨⟨_, Heap.get?_push_size _ rfl, rfl, rfl⟩, src1.push _⟩ (bag_nil (Heap.get?_push_of_some _ made)) (fun y => by simp) (Nat.le_refl 0) fun s3 ks mv B mem le => ?_
        rcases s3 with ⟨h3, g3, d3, tk3, os3⟩
        cases (show g3 = s.gens from mv.gens)
        cases (show d3 = s.drawn from mv.drawn)
        cases (show os3 = s.os from mv.os)
        apply wpAny_pure
        show wpAny _ _ (ret Value.none) _ _ _
        refine wpAny_pure ⟨rfl, h3, tk3, ks, rfl, B, mem, le, fun b o e => mv.heap b o (fun z => ?_) (Heap.get?_push_of_some _ (Heap.get?_push_of_some _ e))⟩
        have lb := Heap.lt_size e
        rcases List.mem_cons.mp z with z | z
        · exact absurd z (Nat.ne_of_lt lb)
        · rw [grown] at z
          exact absurd (List.mem_singleton.mp z) (Nat.ne_of_lt (Nat.lt_succ_of_lt lb))
      · cases r2 with
        | error e => exact hr2
        | ok fl2 =>
          cases fl2 with
          | next => exact hr2.elim
          | brk => exact hr2.elim
          | cont => exact hr2.elim
          | ret r =>
            obtain ⟨rfl, h', tk, ks, rfl, B, mem, le, kp⟩ := hr2
            repeat (any_goals (first | assumption | wp_step))
            exact k _ _ _ B mem le kp
end
end LB
namespace LB
open PySem PySem.Spec PyProof.Rows L2
section
variable {P : Program} {w : World} {A : Around} {E : Value → Shared → Prop} {s : Shared} {a : Addr}
/-- sorted(a bag), few members -/
theorem sorted_bag {b : Addr} {ks : List Str} {Q : Value → Shared → Prop} (B : Bag w s.heap b ks) (calm : A.handled = none) (few : ks.length < 64)
    (k : ∀ s' p (out : Array Value) (c : Nat) (ys : List Str), (∀ d o, s.heap.get? d = some o → s'.heap.get? d = some o) → s'.gens = s.gens → s'.os = s.os → s.heap.objs.size ≤ p → s'.heap.get? p = some (seqObj "list" out c) → StrsAre out.toList ys → ys.Perm ks → sortedS ys = true → Q (.ref p) s') :
    wpAny (model P w) A (call (.builtin "sorted") [.ref b]) Q E s := by
  obtain ⟨nd, o, es, ep, t, at_, xo, od, T, names⟩ := B
  apply Calls.call_function_entry kind_sorted plain_sorted entry_sorted (args_sorted1 _)
  unfold Builtin.«sorted»
  apply wpAny_bind (m := checkCount "sorted" 1 1 _)
  apply wpAny_pure
  apply wpAny_bind
  refine collect_set (A := A.in1) calm ⟨o, at_, xo.1, od⟩ T.fit T.few T.ris T.led fun s1 vs kp sz g1 o1 pm => ?_
  have tx : ∀ us : List Value, (∀ v ∈ us, ∃ x tk, v = Value.str x tk) → StrsAre us (us.map fun v => nm (0, v)) := fun us => by
    induction us with
    | nil => exact fun _ => .nil
    | cons v us ih =>
      intro z
      obtain ⟨x, tk, rfl⟩ := z v List.mem_cons_self
      exact .cons x tk (ih fun u hu => z u (List.mem_cons_of_mem _ hu))
  have are : StrsAre vs (vs.map fun v => nm (0, v)) := tx vs fun v hv => by
    obtain ⟨e, he, rfl⟩ := List.mem_map.mp (pm.mem_iff.mp hv)
    obtain ⟨x, tk, rfl⟩ := T.all e he
    exact ⟨x, tk, rfl⟩
  have pk : (vs.map fun v => nm (0, v)).Perm ks := by
    have q := pm.map fun v => nm (0, v)
    rw [List.map_map] at q
    exact q.trans (List.Perm.of_eq names)
  have vl : vs.length < 64 := by
    have q := pk.length_eq
    rw [List.length_map] at q
    omega
  apply wpAny_bind
  refine wpAny_newList ?_ (by rw [sizeLine_eq]; omega)
  have laid : (s1.heap.push (seqObj "list" vs.toArray 0)).get? s1.heap.objs.size = some (seqObj "list" vs.toArray 0) := Heap.get?_push_size _ rfl
  apply wpAny_bind
  apply wpAny_holding
  refine wpAny_call_entry slot_list_sort ⟨_, laid, rfl⟩ entry_list_sort ?_ (args_list_sort _)
  refine list_sort_treeK PyProof.Rows.strKind_oneLt laid are.keysOf (fun v1 v2 rest e => keyKind_strs (by rw [← e]; exact are)) vl fun st pt sd => ⟨_, rfl, ?_⟩
  obtain ⟨ys, y1, y2, y3⟩ := sorted_out_str are pt sd
  obtain ⟨c, hc⟩ := sortedHeap_at (vs := vs) (out := (arrOf st).map (·.2)) laid
  refine wpAny_pure ⟨_, rfl, k _ s1.heap.objs.size _ c ys (fun d u e => ?_) g1 o1 sz hc y1 (y2.trans pk) y3⟩
  have was := kp d u e
  have low := Heap.lt_size was
  show (sortedHeap (s1.heap.push (seqObj "list" vs.toArray 0)) s1.heap.objs.size vs _).get? d = some u
  rw [sortedHeap_old (Nat.ne_of_lt low) (by rw [size_push']; exact Nat.lt_succ_of_lt low)]
  exact Heap.get?_push_of_some _ was
end
/-! ### as rules -/
def BagO (w : World) (a : Addr) (ks : List Str) : HO := .ext fun h => Bag w h a ks
section
variable {X : Cx}
theorem bagO_ok {P : Program} {w : World} {H : Hp} {h : Heap} {a : Addr} {ks : List Str} (B : Bag w h a ks) : ObjOk P w H h a (BagO w a ks) := by
  have ⟨_, o, _, _, _, e, _⟩ := B
  exact ⟨B, ⟨o, e⟩, fun _ _ p k => Bag.at p k⟩
/-- set(xs): a tuple or a list of texts -/
def rBag (K : PySem.W.Frag) (w : World) : List V → Hp → VK → Prop := fun vs H Q => ∃ (l : Addr) (xs : List Str), vs = [V.ref l] ∧ (SqT K H l (xs.map V.str) ∨ SqL K H l (xs.map V.str)) ∧ xs.length < 63 ∧
  ∀ (p : Addr) (ks : List Str), H p = none → (∀ y, y ∈ ks ↔ y ∈ xs) → ks.Nodup → ks.length ≤ xs.length → Q (.ref p) (upd H p (BagO w p ks))
theorem cr_bag (hc : X.calm = true) : CallR X (.type "set") (rBag X.K X.w) := by
  intro pins s σ H vs us Q I r h
  obtain ⟨l, xs, rfl, src, few, k⟩ := h
  rw [Vals.ref1 r]
  have room : xs.length + 1 < scanBound := by
    have : scanBound = 4096 := rfl
    omega
  have free : H s.heap.objs.size = none := I.hok.fresh (Nat.le_refl _)
  have fin : ∀ (h' : Heap) (tk : Nat) (ks : List Str), Bag X.w h' s.heap.objs.size ks → (∀ y, y ∈ ks ↔ y ∈ xs) → ks.length ≤ xs.length → (∀ b o, s.heap.get? b = some o → h'.get? b = some o) → EP X pins σ Q (.ref s.heap.objs.size) { s with heap := h', toks := tk } :=
    fun h' tk ks B mem le kp => ⟨.ref _, _, I.laid (t' := tk) kp (Nat.le_refl _) (bagO_ok B), rfl, k _ ks free mem B.1 le⟩
  rcases src with src | src
  · obtain ⟨its, rv, pl, _⟩ := I.tuple src
    exact set_of_tuple xs (I.ok.hd hc) pl (by simpa using rv.strs) room fin
  · obtain ⟨its, rv, pl, _⟩ := I.list src
    exact set_of_list xs (I.ok.hd hc) pl.isList (by simpa using rv.strs) room fin
def rSortBag (w : World) : List V → Hp → VK → Prop := fun vs H Q => ∃ (a : Addr) (ks : List Str), vs = [V.ref a] ∧ H a = some (BagO w a ks) ∧ ks.length < 64 ∧
  ∀ (ys : List Str) (p : Addr), ys.Perm ks → sortedS ys = true → H p = none → Q (.ref p) (upd H p (.lst (ys.map V.str)))
theorem cr_sortBag (hc : X.calm = true) : CallR X (.builtin "sorted") (rSortBag X.w) := by
  intro pins s σ H vs us Q I r h
  obtain ⟨a, ks, rfl, at_, few, k⟩ := h
  have B : Bag X.w s.heap a ks := (I.hok a _ at_).1
  rw [Vals.ref1 r]
  refine sorted_bag B (I.ok.hd hc) few fun s' p out c ys kp g o le hp are pm srt => ?_
  have free : H p = none := I.hok.fresh le
  have lim : (ys.map V.str).length ≤ sizeLine := by rw [List.length_map, pm.length_eq]; exact small64 few
  have J : Inv X pins σ (upd H p (.lst (ys.map V.str))) { s with heap := s'.heap, gens := s'.gens, drawn := s'.drawn, toks := s'.toks } :=
    I.call (ch := []) (Un.laid kp le free) (I.hok.laid kp le ⟨lim, out.toList, c, vals_of_strs are, hp⟩) (by rw [g]; exact I.bare) (fun _ z => nomatch z)
  rcases s' with ⟨h2, g2, d2, t2, o2⟩
  cases (show o2 = s.os from o)
  exact ⟨.ref p, _, J, rfl, k ys p pm srt free⟩
end
end LB
namespace K11
open PySem L2
abbrev Tx := List Nat
def top (i : Nat) : Stmt := PySem.Challenge.pw_aboveless_k11_values_judged.main.body.getD i (.Pass ⟨0, 0, 0, 0⟩)
def tot (ts : List Tx) : Nat := (ts.map List.length).sum
def asc (l : Tx) : Prop := ∀ c ∈ l, c < 128
abbrev sIsName : Stmt := top 12
abbrev sIsInteger : Stmt := top 13
abbrev sIsCount : Stmt := top 14
abbrev sIsSort : Stmt := top 15
abbrev sSortOf : Stmt := top 16
abbrev sIsValue : Stmt := top 17
abbrev sRng : Stmt := top 22
abbrev sDraw : Stmt := top 23
abbrev sChoice : Stmt := top 24
abbrev sLetters : Stmt := top 25
abbrev sDigits : Stmt := top 26
abbrev sString : Stmt := top 27
abbrev sNumber : Stmt := top 28
abbrev sThing : Stmt := top 29
abbrev sNoSort : Stmt := top 30
abbrev sIsWhole : Stmt := top 31
abbrev sIsWord : Stmt := top 32
abbrev sFits : Stmt := top 33
abbrev sTold : Stmt := top 34
abbrev sDue : Stmt := top 35
abbrev sRight : Stmt := top 36
abbrev sLaw : Stmt := top 37
/-- a text by its codes -/
def txt (l : Tx) : Str := ⟨l.toArray⟩
abbrev tv (l : Tx) : V := .str (txt l)
theorem txt_len (l : Tx) : (txt l).length = l.length := List.size_toArray
theorem txt_list (l : Tx) : (txt l).cps.toList = l := rfl
theorem txt_of (z : Str) : z = txt z.cps.toList := by cases z with | mk a => cases a; rfl
theorem txt_inj {a b : Tx} (h : txt a = txt b) : a = b := by
  have h2 : (txt a).cps.toList = (txt b).cps.toList := by rw [h]
  exact h2
theorem txt_app (a b : Tx) : txt a ++ txt b = txt (a ++ b) := by
  show (⟨a.toArray ++ b.toArray⟩ : Str) = ⟨(a ++ b).toArray⟩
  simp
/-- the most signs of a text here -/
def big : Nat := 1000000
theorem big_line : big ≤ sizeLine := by decide
theorem same_upd {H : Hp} {p : Addr} {o : HO} (h : H p = none) : Same H (upd H p o) := fun b u e => by
  rw [upd_ne (ne_of_none e h)]
  exact e
/-! ### a text times an int -/
def rep (n : Nat) (l : Tx) : Tx := (List.replicate n l).flatten
theorem rep_len (n : Nat) (l : Tx) : (rep n l).length = n * l.length := by unfold rep; simp
theorem fold_rep (l : Tx) : ∀ (k : Nat) (acc : Tx), List.foldl (fun a b : Array Nat => a ++ b) acc.toArray (List.replicate k l.toArray) = (acc ++ rep k l).toArray
  | 0, acc => by simp [rep]
  | k + 1, acc => by
    have e : acc.toArray ++ l.toArray = (acc ++ l).toArray := by simp
    rw [List.replicate_succ, List.foldl_cons, e, fold_rep l k (acc ++ l)]
    unfold rep
    rw [List.replicate_succ, List.flatten_cons, List.append_assoc]
theorem op_mulS {X : Cx} : OpR X (binaryOp .Mult) (fun x y H Q => ∃ (l : Tx) (n : Nat), x = tv l ∧ y = .int (n : Int) ∧ n ≤ big ∧ l.length * n ≤ big ∧ Q (tv (rep n l)) H) := by
  rintro pins s σ H x y v u Q I rx ry ⟨l, n, rfl, rfl, hn, hl, q⟩
  obtain ⟨t, rfl⟩ := rx
  obtain ⟨t', rfl⟩ := ry
  have hb : big = 1000000 := rfl
  have hsl : sizeLine = 16777216 := sizeLine_eq
  refine PySem.P.mul_str (by rw [decide_eq_false (by omega), decide_eq_false (by omega)]; rfl) (fun h1 _ => ?_) (fun h1 _ => ?_) ?_
  · rw [txt_len]
    have hdiv : (l.length : Int) ≤ (2 ^ 63 - 1) / (n : Int) := by
      rw [Int.le_ediv_iff_mul_le (by omega)]
      have : ((l.length * n : Nat) : Int) ≤ 1000000 := by omega
      rw [Int.natCast_mul] at this
      omega
    omega
  · rw [txt_len, Int.toNat_natCast]
    unfold PySem.Builtin.Str.tooLong
    exact decide_eq_false (by rw [hsl]; omega)
  · have fin : ∀ tk' k, EP X pins σ Q (.str (txt (rep n l)) tk') { s with toks := k } := fun tk' k => ⟨tv (rep n l), H, I.tok k, ⟨tk', rfl⟩, q⟩
    by_cases h1 : (n : Int) < 1
    · rw [if_pos h1]
      have e0 : n = 0 := by omega
      subst e0
      exact ⟨by decide, fin _ _⟩
    · rw [if_neg h1]
      by_cases h2 : (((n : Int) == 1 || (txt l).length == 0) = true)
      · rw [if_pos h2]
        have e : rep n l = l := by
          rcases Bool.or_eq_true_iff.mp h2 with h | h
          · have : n = 1 := by have := beq_iff_eq.mp h; omega
            subst this
            simp [rep]
          · rw [txt_len] at h
            have h0 : l = [] := List.eq_nil_of_length_eq_zero (beq_iff_eq.mp h)
            subst h0
            simp [rep]
        have f := fin t s.toks
        rw [e] at f
        exact f
      · rw [if_neg h2]
        have e : (⟨List.foldl (fun x1 x2 => x1 ++ x2) #[] (List.replicate (n : Int).toNat (txt l).cps)⟩ : Str) = txt (rep n l) := by
          rw [Int.toNat_natCast]
          have q := fold_rep l n []
          rw [List.nil_append] at q
          exact congrArg Str.mk q
        rw [e]
        refine ⟨?_, fin _ _⟩
        rw [txt_len, rep_len, Nat.mul_comm]
        omega
theorem txt_eq (a b : Tx) : (txt a == txt b) = decide (a = b) := by
  by_cases h : a = b
  · subst h; simp
  · rw [decide_eq_false h]
    exact beq_eq_false_iff_ne.mpr fun e => h (txt_inj e)
structure At (K : PySem.W.Frag) (mg : Str → Option Value) (x : Str) (st : Stmt) (ps : List Str) (f : Addr) (fd : FuncData) : Prop where
  F : Fun K x x st f fd
  b : Binds K fd ps []
  m : mg x = some (.ref f)
theorem map_at {ts : List Tx} {i : Nat} {x : V} (h : (ts.map tv)[i]? = some x) : ∃ t, ts[i]? = some t ∧ x = tv t := by
  rw [List.getElem?_map] at h
  cases e : ts[i]? with
  | none => rw [e] at h; cases h
  | some t => rw [e] at h; exact ⟨t, rfl, (Option.some.inj h).symm⟩
theorem asc_app {a b : Tx} (ha : asc a) (hb : asc b) : asc (a ++ b) := fun c hc => (List.mem_append.mp hc).elim (ha c) (hb c)
theorem asc_of {l : Tx} (h : (l.all fun c => decide (c < 128)) = true) : asc l := fun c hc => of_decide_eq_true (List.all_eq_true.mp h c hc)
theorem asc_nil : asc [] := fun _ z => by cases z
theorem asc_rep {l : Tx} (h : asc l) (n : Nat) : asc (rep n l) := fun c hc => by
  obtain ⟨x, hx, hc⟩ := List.mem_flatten.mp hc
  rw [List.eq_of_mem_replicate hx] at hc
  exact h c hc
theorem cutS_any (l : Tx) (lo hi : Option Int) : ∃ l', cutS (txt l) lo hi = txt l' ∧ (asc l → asc l') ∧ l'.length ≤ l.length := by
  refine ⟨(l.drop (HT.sIx (txt l).length 0 lo)).take (HT.sIx (txt l).length (txt l).length hi - HT.sIx (txt l).length 0 lo), rfl, fun h c hc => h c (List.mem_of_mem_drop (List.mem_of_mem_take hc)), ?_⟩
  rw [List.length_take, List.length_drop]
  omega
/-! ### the draws -/
/-- at r: a stock of draws -/
def Rg (H : Hp) (r : Addr) : Prop := ∃ x y : Int, H r = some (.lst [.int x, .int y]) ∧ 0 ≤ x ∧ 0 ≤ y ∧ y ≤ 2147483629
/-- what was tracked stands, but r, which is a stock as before -/
def Kp (r : Addr) (H H' : Hp) : Prop := (∀ b o, b ≠ r → H b = some o → H' b = some o) ∧ (Rg H r → Rg H' r)
theorem Kp.refl (r : Addr) (H : Hp) : Kp r H H := ⟨fun _ _ _ h => h, fun h => h⟩
theorem Kp.trans {r : Addr} {H H1 H2 : Hp} (a : Kp r H H1) (b : Kp r H1 H2) : Kp r H H2 := ⟨fun c o h e => b.1 c o h (a.1 c o h e), fun h => b.2 (a.2 h)⟩
theorem Kp.of_same {r : Addr} {H H' : Hp} (s : Same H H') : Kp r H H' := ⟨fun b o _ e => s b o e, fun ⟨x, y, h, p⟩ => ⟨x, y, s _ _ h, p⟩⟩
theorem Kp.free {r : Addr} {H H' : Hp} (k : Kp r H H') (g : Rg H r) {b : Addr} (h : H' b = none) : H b = none := by
  by_cases e : b = r
  · subst e
    obtain ⟨x, y, q, _⟩ := k.2 g
    rw [q] at h
    cases h
  · cases q : H b with
    | none => rfl
    | some o =>
      rw [k.1 b o e q] at h
      cases h
section
variable {P : Program} {w : World} {K : PySem.W.Frag} {mg : Str → Option Value} {base : Heap}
def spRng (K : PySem.W.Frag) : Sp := fun vs H Q _ => ∃ (a : Addr) (ns : List Int) (k : Nat), vs = [.ref a, .int (k : Int)] ∧ SqL K H a (ns.map V.int) ∧ k ≤ 1000 ∧ ∀ H' p, Same H H' → H p = none → Rg H' p → Q (.ref p) H'
theorem scRn : FnScope ["_law_script", "_law_k", "_law_cell"] ["_law_script", "_law_k"] (defScope sRng) := ⟨rfl, rfl, rfl, by decide +kernel, rfl, by decide +kernel, by decide +kernel⟩
/-- the built-in names that the law leans on -/
structure BEnv (mg : Str → Option Value) : Prop where
  zLen : mg "len" = none
  zAbs : mg "abs" = none
  zMax : mg "max" = none
  zMin : mg "min" = none
  zInt : mg "int" = none
  zDm : mg "divmod" = none
  zRange : mg "range" = none
  zAll : mg "all" = none
theorem ok_rng {f : Addr} {fd : FuncData} (F : Fun K "_law_rng" "_law_rng" sRng f fd) (B : BEnv mg) : FnOk P w K mg base CX0 1 f fd ["_law_script", "_law_k"] (spRng K) := by
  refine F.ok scRn (fun vs H Q E h => ?_) (fun cdv A outer_ s H vs Q E hr h => ?_)
  · obtain ⟨a, ns, k, rfl, _⟩ := h
    rfl
  · obtain ⟨a, ns, k, rfl, hS, hk, kk⟩ := h
    refine ⟨_, pss_cons (ps_set (i := 2) scRn.nd rfl (Or.inl rfl) (pe_ifExp (pt_cmpR op_lt (pv 1) (pe_callB call_len_seq (by rfl) B.zLen PySem.boot_len (pa_cons (pv 0) pa_nil)) (nomark _)) (pe_callB call_abs (by rfl) B.zAbs (by decide +kernel) (pa_cons (pe_ix ix_list (pv 0) (pv 1) (fun _ _ => rfl)) pa_nil)) pe_int))
      (pss_one (ps_ret (pe_lst (pa_cons (pe_callB (call_max2 rfl) (by rfl) B.zMax (by decide +kernel) (pa_cons pe_int (pa_cons (pe_op op_sub (pv 2) (pe_op op_pow pe_int pe_int)) pa_nil)))
        (pa_cons (pe_op op_add (pe_op op_mod (pe_callTy call_int1 (by rfl) B.zInt (by decide +kernel) (pa_cons (pe_op op_pow (pe_op op_add (pe_op op_add (pe_op op_mod (pe_callTy call_int1 (by rfl) B.zInt (by decide +kernel) (pa_cons (pv 2) pa_nil)) pe_int) (pe_op op_mul pe_int (pv 1))) pe_int) pe_int) pa_nil)) pe_int) pe_int) pa_nil))))), ?_⟩
    have rest : ∀ c : Int, 0 ≤ c → 0 ≤ (if c - 10 ^ (18 : Int).toNat > 0 then c - 10 ^ (18 : Int).toNat else 0) ∧ (c % 2147483549 + 4127 * (k : Int) + 29).natAbs < 2 ^ 64 := fun c hc => by
      have h1 := Int.emod_nonneg c (show (2147483549 : Int) ≠ 0 by decide)
      have h2 := Int.emod_lt_of_pos c (show (0 : Int) < 2147483549 by decide)
      refine ⟨by split <;> omega, by omega⟩
    have last : ∀ z : Int, 0 ≤ z % 2147483477 + 1 ∧ z % 2147483477 + 1 ≤ 2147483629 := fun z => by
      have h1 := Int.emod_nonneg z (show (2147483477 : Int) ≠ 0 by decide)
      have h2 := Int.emod_lt_of_pos z (show (0 : Int) < 2147483477 by decide)
      omega
    have cell : ∀ c : Int, 0 ≤ c → (∀ (H' : Hp) (p : Addr), Same H H' → H p = none → Rg H' p → Q (.ref p) H') → True := fun _ _ _ => trivial
    refine ⟨_, rfl, _, rfl, a, _, rfl, .inl hS, _, _, rfl, rfl, _, rfl, ?_⟩
    refine ite2 (fun h1 => ?_) (fun h1 => ?_)
    · have hlt : k < ns.length := by
        have := of_decide_eq_true h1
        rw [List.length_map] at this
        omega
      have hv : (ns.map V.int)[k]? = some (V.int ns[k]) := by rw [List.getElem?_map, List.getElem?_eq_getElem hlt]; rfl
      refine ⟨_, rfl, _, rfl, a, _, _, _, rfl, rfl, hS, atI_nat hv, _, rfl, ?_⟩
      have hc : 0 ≤ (if ns[k] < 0 then -ns[k] else ns[k]) := by split <;> omega
      generalize (if ns[k] < 0 then -ns[k] else ns[k]) = c at hc
      obtain ⟨r1, r2⟩ := rest c hc
      refine ⟨_, rfl, _, _, rfl, rfl, ⟨by decide, by decide, by decide⟩, _, _, rfl, rfl, _, _, rfl, ?_⟩
      refine ⟨_, rfl, .inl ⟨_, rfl, _, _, rfl, rfl, (by show (0 : Int) < 2147483549; decide), _, rfl, _, _, rfl, rfl, .inl ⟨by decide, by decide⟩, _, _, rfl, rfl, _, _, rfl, rfl, _, _, rfl, rfl, ⟨by decide, by decide, r2⟩,
        .inl ⟨_, rfl, _, _, rfl, rfl, (by show (0 : Int) < 2147483477; decide), _, _, rfl, rfl, (by show 2 ≤ sizeLine; decide), fun p hp => kk _ p (same_upd hp) hp ⟨_, _, upd_same, r1, (last _).1, (last _).2⟩⟩⟩⟩
    · have hc : (0 : Int) ≤ 0 := Int.le_refl 0
      obtain ⟨r1, r2⟩ := rest 0 hc
      refine ⟨_, rfl, _, _, rfl, rfl, ⟨by decide, by decide, by decide⟩, _, _, rfl, rfl, _, _, rfl, ?_⟩
      refine ⟨_, rfl, .inl ⟨_, rfl, _, _, rfl, rfl, (by show (0 : Int) < 2147483549; decide), _, rfl, _, _, rfl, rfl, .inl ⟨by decide, by decide⟩, _, _, rfl, rfl, _, _, rfl, rfl, _, _, rfl, rfl, ⟨by decide, by decide, r2⟩,
        .inl ⟨_, rfl, _, _, rfl, rfl, (by show (0 : Int) < 2147483477; decide), _, _, rfl, rfl, (by show 2 ≤ sizeLine; decide), fun p hp => kk _ p (same_upd hp) hp ⟨_, _, upd_same, r1, (last _).1, (last _).2⟩⟩⟩⟩
/-! ### _law_draw -/
def spDraw : Sp := fun vs H Q _ => ∃ (r : Addr) (m : Nat), vs = [.ref r, .int (m : Int)] ∧ Rg H r ∧ 0 < m ∧ m ≤ big ∧ ∀ H' (n : Nat), Kp r H H' → n < m → Q (.int (n : Int)) H'
theorem scDr : FnScope ["_law_rng_here", "_law_many", "_law_digit"] ["_law_rng_here", "_law_many"] (defScope sDraw) := ⟨rfl, rfl, rfl, by decide +kernel, rfl, by decide +kernel, by decide +kernel⟩
theorem mod_nat (z : Int) {m : Nat} (h : 0 < m) : ∃ n : Nat, z % (m : Int) = (n : Int) ∧ n < m := by
  have h1 := Int.emod_nonneg z (show (m : Int) ≠ 0 by omega)
  have h2 := Int.emod_lt_of_pos z (show (0 : Int) < m by omega)
  exact ⟨(z % (m : Int)).toNat, by omega, by omega⟩
theorem ixN_0 (n : Nat) : ixN (n + 1) 0 = some 0 := by
  unfold ixN
  rw [if_pos (by decide)]
  simp
theorem ixN_1 (n : Nat) : ixN (n + 2) 1 = some 1 := by
  unfold ixN
  rw [if_pos (by decide)]
  simp
  omega
theorem ok_draw {f : Addr} {fd : FuncData} (F : Fun K "_law_draw" "_law_draw" sDraw f fd) (B : BEnv mg) : FnOk P w K mg base CX0 1 f fd ["_law_rng_here", "_law_many"] spDraw := by
  refine F.ok scDr (fun vs H Q E h => ?_) (fun cdv A outer_ s H vs Q E hr h => ?_)
  · obtain ⟨r, m, rfl, _⟩ := h
    rfl
  · obtain ⟨r, m, rfl, ⟨x, y, hL, hx, hy, hy2⟩, hm, hm2, k⟩ := h
    refine ⟨_, pss_cons (ps_if (pt_cmpR op_gt (pe_ix ix_list (pv 0) pe_int (fun _ _ => rfl)) pe_int (nomark _))
        (pss_cons (ps_asg (pe_callB call_divmod (by rfl) B.zDm (by decide +kernel) (pa_cons (pe_ix ix_list (pv 0) pe_int (fun _ _ => rfl)) (pa_cons (pv 1) pa_nil))) (pg_tup rfl (pgs_cons (pg_sub (pv 0) pe_int set_list) (pgs_cons (pg_name (i := 2) scDr.nd rfl (Or.inl rfl)) pgs_nil))))
        (pss_one (ps_ret (pv 2)))) pss_nil)
      (pss_cons (ps_asg (pe_op op_mod (pe_callTy call_int1 (by rfl) B.zInt (by decide +kernel) (pa_cons (pe_op op_add (pe_op op_mul (pe_ix ix_list (pv 0) pe_int (fun _ _ => rfl)) pe_int) pe_int) pa_nil)) pe_int) (pg_sub (pv 0) pe_int set_list))
      (pss_one (ps_ret (pe_op op_mod (pe_callTy call_int1 (by rfl) B.zInt (by decide +kernel) (pa_cons (pe_op op_fdiv (pe_op op_mod (pe_callTy call_int1 (by rfl) B.zInt (by decide +kernel) (pa_cons (pe_op op_mul (pe_ix ix_list (pv 0) pe_int (fun _ _ => rfl)) (pe_ix ix_list (pv 0) pe_int (fun _ _ => rfl))) pa_nil)) pe_int) pe_int) pa_nil)) (pv 1))))), ?_⟩
    have hb : big = 1000000 := rfl
    refine ⟨_, rfl, r, _, _, _, rfl, rfl, SqL.of hL, atI_nat (j := 0) rfl, _, _, rfl, rfl, _, rfl, ?_⟩
    refine ite2 (fun h1 => ?_) (fun h1 => ?_)
    · obtain ⟨n, en, hn⟩ := mod_nat x hm
      refine ⟨_, rfl, r, _, _, _, rfl, rfl, SqL.of hL, atI_nat (j := 0) rfl, _, rfl, _, _, rfl, ⟨by omega, by omega⟩, fun t ht => ?_⟩
      have nt : r ≠ t := ne_of_none hL ht
      refine ⟨t, _, rfl, SqT.of upd_same, rfl, _, _, rfl, _, rfl, r, [.int x, .int y], _, 0, rfl, rfl, by rw [upd_ne nt]; exact hL, ixN_0 1, ?_⟩
      refine ⟨_, _, rfl, rfl, ?_⟩
      refine ⟨_, rfl, ?_⟩
      rw [en]
      refine k _ n ⟨fun b o hb e => ?_, fun _ => ⟨x / (m : Int), y, upd_same, Int.ediv_nonneg hx (by omega), hy, hy2⟩⟩ hn
      rw [upd_ne hb, upd_ne (ne_of_none e ht)]
      exact e
    · refine ⟨_, rfl, r, _, _, _, rfl, rfl, SqL.of hL, atI_nat (j := 1) rfl, _, _, rfl, rfl, .inr ⟨by decide, by decide⟩, _, _, rfl, rfl, .inl ⟨_, rfl, _, _, rfl, rfl, (by show (0 : Int) < 2147483629; decide), _, rfl, r, [.int x, .int y], _, 1, rfl, rfl, hL, ixN_1 0, ?_⟩⟩
      have e1 := Int.emod_nonneg (y * 39373 + 9973) (show (2147483629 : Int) ≠ 0 by decide)
      have e2 := Int.emod_lt_of_pos (y * 39373 + 9973) (show (0 : Int) < 2147483629 by decide)
      obtain ⟨z, ez⟩ : ∃ z, z = (y * 39373 + 9973) % 2147483629 := ⟨_, rfl⟩
      rw [← ez] at e1 e2
      rw [show ([V.int x, V.int y].set 1 ((fun i j : Int => V.int (i % j)) (y * 39373 + 9973) 2147483629)) = [.int x, .int z] by rw [ez]; rfl]
      have hL2 : (upd H r (.lst [.int x, .int z])) r = some (.lst [.int x, .int z]) := upd_same
      have cm : CMul z z := .inl ⟨by omega, by omega⟩
      obtain ⟨n, en, hn⟩ := mod_nat (z * z % 2147483563 / 13) hm
      refine ⟨_, rfl, r, _, _, _, rfl, rfl, SqL.of hL2, atI_nat (j := 1) rfl, _, rfl, r, _, _, _, rfl, rfl, SqL.of hL2, atI_nat (j := 1) rfl, _, _, rfl, rfl, cm, .inl ⟨_, rfl, _, _, rfl, rfl, (by show (0 : Int) < 2147483563; decide), _, _, rfl, rfl, ⟨by decide, by decide⟩,
        .inl ⟨_, rfl, _, rfl, _, _, rfl, rfl, (by show (0 : Int) < (m : Int); omega), ?_⟩⟩⟩
      show Q (.int (z * z % 2147483563 / 13 % (m : Int))) _
      rw [en]
      refine k _ n ⟨fun b o hb e => ?_, fun _ => ⟨x, z, upd_same, hx, e1, by omega⟩⟩ hn
      rw [upd_ne hb]
      exact e
/-! ### _law_choice -/
def spChoice (K : PySem.W.Frag) : Sp := fun vs H Q _ => ∃ (r : Addr) (o : V), vs = [.ref r, o] ∧ Rg H r ∧
  ((∃ (a : Addr) (xs : List V), o = .ref a ∧ H a = some (.lst xs) ∧ a ≠ r ∧ xs ≠ [] ∧ xs.length ≤ big ∧ ∀ H' x, Kp r H H' → x ∈ xs → Q x H') ∨
   ∃ l : Tx, o = tv l ∧ l ≠ [] ∧ l.length ≤ big ∧ ∀ H' c, Kp r H H' → c ∈ l → Q (tv [c]) H')
theorem scCh : FnScope ["_law_rng_here", "_law_options"] ["_law_rng_here", "_law_options"] (defScope sChoice) := ⟨rfl, rfl, rfl, by decide +kernel, rfl, by decide +kernel, by decide +kernel⟩
theorem ok_choice {f fD : Addr} {fd dD : FuncData} (F : Fun K "_law_choice" "_law_choice" sChoice f fd) (B : BEnv mg) (AD : At K mg "_law_draw" sDraw ["_law_rng_here", "_law_many"] fD dD) : FnOk P w K mg base CX0 2 f fd ["_law_rng_here", "_law_options"] (spChoice K) := by
  have GD : FnOk P w K mg base CX0 1 fD dD ["_law_rng_here", "_law_many"] spDraw := ok_draw AD.F B
  refine F.ok scCh (fun vs H Q E h => ?_) (fun cdv A outer_ s H vs Q E hr h => ?_)
  · obtain ⟨r, o, rfl, _⟩ := h
    rfl
  · obtain ⟨r, o, rfl, g, h⟩ := h
    refine ⟨_, pss_one (ps_ret (pe_ix ix_seq (pv 1) (pe_call GD hr (by rfl) AD.m AD.F.kp AD.b .nil pass0 (pa_cons (pv 0) (pa_cons (pe_callB call_len (by rfl) B.zLen PySem.boot_len (pa_cons (pv 1) pa_nil)) pa_nil))) (fun _ _ => rfl))), ?_⟩
    rcases h with ⟨a, xs, rfl, hL, hne, hx, hlen, k⟩ | ⟨l, rfl, hl0, hlen, k⟩
    · have hpos : 0 < xs.length := List.length_pos_iff.mpr hx
      refine ⟨_, rfl, _, rfl, _, rfl, _, xs.length, rfl, .inl ⟨_, SqL.of hL, rfl⟩, r, xs.length, rfl, g, hpos, hlen, fun H' n kp hn => ?_⟩
      have hv : xs[n]? = some xs[n] := List.getElem?_eq_getElem hn
      exact .inl ⟨a, _, _, _, rfl, rfl, SqL.of (kp.1 a _ hne hL), atI_nat hv, k H' _ kp (List.getElem_mem hn)⟩
    · have hpos : 0 < l.length := List.length_pos_iff.mpr hl0
      have hline : (txt l).length ≤ sizeLine := by rw [txt_len]; exact Nat.le_trans hlen big_line
      refine ⟨_, rfl, _, rfl, _, rfl, _, l.length, rfl, ⟨hline, (txt_len l).symm⟩, r, l.length, rfl, g, hpos, hlen, fun H' n kp hn => ?_⟩
      have hv : l[n]? = some l[n] := List.getElem?_eq_getElem hn
      exact .inr (.inr ⟨_, _, _, rfl, rfl, hline, atI_nat hv, k H' _ kp (List.getElem_mem hn)⟩)
end
theorem strOk_asc {l : Tx} (h : asc l) : PyData.strOk (txt l) = true := by
  unfold PyData.strOk txt
  rw [List.all_toArray]
  exact List.all_eq_true.mpr fun c hc => decide_eq_true (Nat.lt_trans (h c hc) (by decide))
section
variable {K : PySem.W.Frag} {H : Hp}
theorem dpS : ∀ ts : List Tx, DpAll K H (ts.map tv) (ts.map fun t => PyData.str (txt t))
  | [] => .nil
  | t :: r => .cons (.str _) (dpS r)
end
theorem canS : ∀ ts : List Tx, (∀ t ∈ ts, asc t) → PyData.canLayAll0 (ts.map fun t => PyData.str (txt t)) = true ∧ PyData.depthAll (ts.map fun t => PyData.str (txt t)) = 0
  | [], _ => ⟨rfl, rfl⟩
  | t :: r, h => by
    obtain ⟨h1, h2⟩ := canS r fun u hu => h u (List.mem_cons_of_mem _ hu)
    refine ⟨?_, ?_⟩
    · show (PyData.canLay0 (.str (txt t)) && PyData.canLayAll0 (r.map fun t => PyData.str (txt t))) = true
      rw [h1]
      simp [PyData.canLay0, strOk_asc (h t List.mem_cons_self)]
    · show max (PyData.depth (.str (txt t))) (PyData.depthAll (r.map fun t => PyData.str (txt t))) = 0
      rw [h2]
      simp [PyData.depth]
theorem shS (ts : List Tx) (h : ∀ t ∈ ts, asc t) : SeqAt.shaped (.list (ts.map fun t => PyData.str (txt t))) = true := by
  obtain ⟨h1, h2⟩ := canS ts h
  unfold SeqAt.shaped
  have e1 : PyData.canLay0 (.list (ts.map fun t => PyData.str (txt t))) = true := by rw [PyData.canLay0]; exact h1
  have e2 : PyData.depth (.list (ts.map fun t => PyData.str (txt t))) = 1 := by rw [PyData.depth, h2]
  rw [e1, e2]
  rfl
theorem eqvS : ∀ ts us : List Tx, PyData.eqvAll (ts.map fun t => PyData.str (txt t)) (us.map fun t => PyData.str (txt t)) = decide (ts = us)
  | [], [] => by simp [PyData.eqvAll]
  | [], m :: ms => by simp [PyData.eqvAll]
  | n :: ns, [] => by simp [PyData.eqvAll]
  | n :: ns, m :: ms => by
    have ih := eqvS ns ms
    show PyData.eqvAll (PyData.str (txt n) :: ns.map fun t => PyData.str (txt t)) (PyData.str (txt m) :: ms.map fun t => PyData.str (txt t)) = _
    rw [PyData.eqvAll, ih, PyData.eqv, txt_eq]
    by_cases h : n = m
    · subst h; simp
    · simp [h]
theorem eqvLS (ts us : List Tx) : PyData.eqv (.list (ts.map fun t => PyData.str (txt t))) (.list (us.map fun t => PyData.str (txt t))) = decide (ts = us) := by rw [PyData.eqv]; exact eqvS ts us
end K11
namespace K11
open PySem L2
/-! ### functions that are run where nothing is being shown -/
structure FnG (P : Program) (w : World) (K : PySem.W.Frag) (mg : Str → Option Value) (base : Heap) (k : Nat) (f : Addr) (fd : FuncData) (ps : List Str) (sp : Sp) : Prop where
  len : ∀ vs H Q E, sp vs H Q E → vs.length = ps.length
  run : ∀ (A : Around) (o_ : List Env) (s : Shared) (H : Hp) (gs : Args) (us : List Value) (vs : List V) (Q : VK) (E : XK), A.guards = some [] → Room k A → Env0 P w K mg base A o_ s H → BindsTo s fd gs (ps.zip us) → Vals vs us → sp vs H Q E →
    codeAny (model P w) A (.call (.ref f) gs) (CR CX0 o_ P w H s Q E) s
section
variable {X : Cx} {k : Nat} {f : Addr} {fd : FuncData} {ps : List Str} {sp : Sp} {x : Str} {p pos : Pos} {e : Expr} {es : List Expr} {t : TA}
theorem pe_callG (F : FnG X.prog X.w X.K X.mg X.base k f fd ps sp) (gd : X.A.guards = some []) (hr : Room k X.A) (hg : Gl X x) (hm : X.mg x = some (.ref f)) (hk : PySem.W.keepIn X.K (.ref f) = true) (hb : Binds X.K fd ps []) (ha : PA X (e :: es) t)
    (hdb : (x == ("__debug__" : Str)) = false := by decide) (he : starEach (e :: es) X.env = (false, eval e X.env) :: starEach es X.env := by rfl) (hpl : (backTo pos (starEach es X.env)).any (·.1) = false := by rfl) :
    PE X (.Call (.Name x p) (e :: es) [] pos) (tCall sp [] E0 t) := ⟨by
  intro pins s σ H Q I h
  apply wpAny_Call_Name_kw (ld_glob I hg hm ?_ hdb)
  apply PySem.W.callWith_K (h₀ := X.base) I.ok.mod.kin hk (thn (ha.run pos pins s σ H _ I h) ?_) he hpl
  rintro us s1 ⟨vs, H1, I1, r, q⟩
  refine ⟨I1.kIn, ?_⟩
  have q' : sp vs H1 Q E0 := by
    have z : sp (vs ++ []) H1 Q E0 := q
    rw [List.append_nil] at z
    exact z
  have hl : (us ++ []).length = ps.length := by
    rw [List.append_nil, ← r.length]
    exact F.len _ _ _ _ q'
  have b1 := hb s1 us I1.kIn hl
  rw [List.append_nil] at b1
  apply wpAny_call (codeAny_mono (F.run X.A X.stack s1 H1 ⟨us, []⟩ us vs Q E0 gd hr I1.env0 b1 r q') ?_)
  rintro (e | fl) s2 hq
  · exact hq.elim
  · cases fl <;> first | exact I1.after hq | exact False.elim hq⟩
end
section
variable {P : Program} {w : World} {K : PySem.W.Frag} {mg : Str → Option Value} {base : Heap}
theorem okG {x qual : Str} {st : Stmt} {f : Addr} {fd : FuncData} {N ps : List Str} {k : Nat} {sp : Sp} (F : Fun K x qual st f fd) (S : FnScope N ps (defScope st)) (len : ∀ vs H Q E, sp vs H Q E → vs.length = ps.length)
    (body : ∀ (cdv : Value) (A : Around) (o_ : List Env) (s : Shared) (H : Hp) (vs : List V) (Q : VK) (E : XK), A.guards = some [] → Room k (A.deeper (PyProof.Rows.envOfC qual (defScope st) s.heap.objs.size f cdv)) → sp vs H Q E →
      ∃ t, PSs (cxOf CX0 P w K mg base N qual (defScope st) f cdv A o_ s H E).nox (defBody st) t ∧ t { nx := fun _ H' => Q .non H', rt := Q } (start N vs) H) : FnG P w K mg base (k + 1) f fd ps sp := by
  obtain ⟨oc, od, kV, doc, pm, an, cdv, ct, osl, rfl, lk, cok⟩ := F.ex
  refine ⟨len, fun A o_ s H gs us vs Q E gd hr e0 hb r hsp => ?_⟩
  have up : ∀ b o, base.get? b = some o → s.heap.get? b = some o := fun b o q => (e0.bs b o q).1
  have KX : K.In s.heap := e0.mod.kin.keeps up
  have lm : s.heap.NoLimit := e0.mod.nolimit.keeps up
  have kinds : ∀ y ∈ ps.zip us, (defScope st).names.lookup y.1 = some .local ∨ ((defScope st).names.lookup y.1 = some .cell ∧ ((cellsFrom (s.heap.objs.size + 1) (defScope st).names []).lookup y.1).isSome = true) := by
    rintro ⟨n, v⟩ hy
    cases S.par n (List.of_mem_zip hy).1 with
    | inl q => exact .inl q
    | inr q => exact .inr ⟨q, PySem.W.cellsFrom_some _ _ _ (.inl q)⟩
  apply codeAny_call_function hr.depth (KX _ _ lk) rfl S.co S.gen rfl (PySem.W.codeRec_of KX cok) (hb _ _ _ _ ?_)
  apply wpAny_newFunctionEnv_cells S.kind kinds
  rintro env rfl s1 x
  refine ⟨lm.keeps x.toInCall.keep, codeAny_func ?_⟩
  obtain ⟨t, ht, hq⟩ := body cdv A o_ s H vs Q E gd (hr.deeper _) hsp
  have I : Inv (cxOf CX0 P w K mg base N qual (defScope st) f cdv A o_ s H E) [] (start N vs) H s1 := inv_start S hr.hd e0 (len _ _ _ _ hsp) r x
  apply wpAny_mono (ht.nox.run [] s1 (start N vs) H _ I hq)
  · rintro fl s2 hs
    cases fl with
    | ret u =>
      obtain ⟨v, σ2, H2, J, rv, q⟩ := hs
      exact ⟨v, H2, J.os, J.bare, J.base, J.hok, rv, q⟩
    | next =>
      obtain ⟨σ2, H2, J, q⟩ := hs
      exact ⟨V.non, H2, J.os, J.bare, J.base, J.hok, rfl, q⟩
    | brk =>
      obtain ⟨_, _, _, q⟩ := hs
      exact q.elim
    | cont =>
      obtain ⟨_, _, _, q⟩ := hs
      exact q.elim
  · exact fun e s2 z => z
end
/-! ### what a thing is, and how it is shown -/
/-- a thing of the law: its data -/
inductive Th (K : PySem.W.Frag) (H : Hp) : V → PyData → Prop
  | non : Th K H .non .none
  | bl (b : Bool) : Th K H (.bl b) (.bool b)
  | int (i : Int) : Th K H (.int i) (.int i)
  | str (x : Str) : Th K H (.str x) (.str x)
  | lst {a : Addr} {xs : List V} {ds : List PyData} : H a = some (.lst xs) → (∀ H1, DpAll K H1 xs ds) → PyData.hasDictAll ds = false → Th K H (.ref a) (.list ds)
  | tup {a : Addr} {xs : List V} {ds : List PyData} : H a = some (.tup xs) → (∀ H1, DpAll K H1 xs ds) → PyData.hasDictAll ds = false → Th K H (.ref a) (.tuple ds)
  | d0 {a : Addr} : H a = some (.dK []) → Th K H (.ref a) (.dict [])
  | d1 {a : Addr} {x : Str} {i : Int} : H a = some (.dK [(.inr x, .int i)]) → Th K H (.ref a) (.dict [(.str x, .int i)])
theorem Th.keep {K : PySem.W.Frag} {H H' : Hp} {v : V} {d : PyData} (h : Th K H v d) (k : ∀ a o, v = .ref a → H a = some o → H' a = some o) : Th K H' v d := by
  cases h with
  | non => exact .non
  | bl b => exact .bl b
  | int i => exact .int i
  | str x => exact .str x
  | lst e a n => exact .lst (k _ _ rfl e) a n
  | tup e a n => exact .tup (k _ _ rfl e) a n
  | d0 e => exact .d0 (k _ _ rfl e)
  | d1 e => exact .d1 (k _ _ rfl e)
/-- shown in little room -/
def Sho (d : PyData) : Prop := d.showable = true ∧ d.shown.length ≤ 2000 ∧ d.depth ≤ 5
theorem Sho.fits {d : PyData} (h : Sho d) : d.shown.length ≤ sizeLine := Nat.le_trans h.2.1 (by decide)
section
variable {X : Cx} {pins : List (Addr × Obj)} {σ : St} {H : Hp} {s : Shared}
theorem Th.reads (I : Inv X pins σ H s) {v : V} {d : PyData} {u : Value} (h : Th X.K H v d) (r : RelV v u) : ∃ as, Reads s.heap u d as ∧ (d.hasDict = true → sysModules ∉ as) := by
  cases h with
  | non => exact (Dp.reads I _ _ _ .non r).elim fun as q => ⟨as, q, fun z => by cases z⟩
  | bl b => exact (Dp.reads I _ _ _ (.bl b) r).elim fun as q => ⟨as, q, fun z => by cases z⟩
  | int i => exact (Dp.reads I _ _ _ (.int i) r).elim fun as q => ⟨as, q, fun z => by cases z⟩
  | str x => exact (Dp.reads I _ _ _ (.str x) r).elim fun as q => ⟨as, q, fun z => by cases z⟩
  | lst e a n => exact (Dp.reads I _ _ _ (.lst (SqL.of e) (a _)) r).elim fun as q => ⟨as, q, fun z => by rw [PyData.hasDict, n] at z; cases z⟩
  | tup e a n => exact (Dp.reads I _ _ _ (.tup (SqT.of e) (a _)) r).elim fun as q => ⟨as, q, fun z => by rw [PyData.hasDict, n] at z; cases z⟩
  | d0 e =>
    cases r
    obtain ⟨_, low, vs, kv, o, es, ep, ho, ex, hd, _, hp, _⟩ := I.hok _ _ e
    cases kv
    have hz : es.toList = [] := by
      generalize es.toList = l at hp
      cases hp
      rfl
    refine ⟨_, Reads.dict (as := []) (bs := []) ho ex.1 hd (by rw [hz]; exact .nil) (by rw [hz]; exact .nil), fun _ m => ?_⟩
    have := List.mem_singleton.mp m
    rw [this] at low
    simp at low
  | @d1 a0 x0 i0 e =>
    cases r
    obtain ⟨_, low, vs, kv, o, es, ep, ho, ex, hd, _, hp, _⟩ := I.hok _ _ e
    cases kv with
    | cons q1 q2 =>
      cases q2
      obtain ⟨k1, t, k2⟩ := q1
      obtain ⟨e1, z1, z2, hz⟩ : ∃ e1 : DictEntry, keyIs (.inr x0) e1.key = true ∧ e1.val = .int i0 t ∧ es.toList = [e1] := by
        generalize es.toList = l at hp
        cases hp with
        | cons a b c =>
          cases c
          refine ⟨_, ?_, b.trans k2, rfl⟩
          rw [← k1] at a
          exact a
      obtain ⟨x2, t2, y1, y2⟩ : ∃ x2 t2, (Sum.inr x0 : Key) = Sum.inr x2 ∧ e1.key = Value.str x2 t2 := by
        rcases keyIs_shape z1 with ⟨i, t, a, b⟩ | ⟨x, t, a, b⟩
        · cases a
        · exact ⟨x, t, a, b⟩
      cases y1
      refine ⟨_, Reads.dict (as := []) (bs := []) ho ex.1 hd (by rw [hz]; show ReadsAll _ [e1.key] _ _; rw [y2]; exact .cons (.str _ _) .nil) (by rw [hz]; show ReadsAll _ [e1.val] _ _; rw [z2]; exact .cons (.int _ _) .nil), fun _ m => ?_⟩
      have := List.mem_singleton.mp m
      rw [this] at low
      simp at low
/-- repr(x), where nothing is being shown -/
theorem call_reprD (gd : X.A.guards = some []) (un : X.A.units + 200 < cLine) : CallR X (.builtin "repr") (fun xs H Q => ∃ v d, xs = [v] ∧ Th X.K H v d ∧ Sho d ∧ Q (.str d.shown) H) := by
  rintro pins s σ H xs us Q I r ⟨v, d, rfl, th, sh, q⟩
  have s1 := sh.1
  have s2 := sh.fits
  have s3 := sh.2.2
  obtain ⟨u, rfl, ru⟩ := vals1 r
  obtain ⟨as, rd, hm⟩ := Th.reads I th ru
  cases rd with
  | none => exact PySem.P.repr_of_none ⟨.str _, H, I.tok _, ⟨_, rfl⟩, by simpa only [PyData.shown] using q⟩
  | bool b =>
    refine PySem.P.repr_of_bool ⟨.str _, H, I.tok _, ⟨_, rfl⟩, ?_⟩
    simp only [PyData.shown] at q
    cases b <;> exact q
  | int i t =>
    simp only [PyData.shown] at q
    exact PySem.P.repr_of_int (by simpa [PyData.showable] using s1) ⟨.str _, H, I.tok _, ⟨_, rfl⟩, q⟩
  | str x t =>
    simp only [PyData.shown] at q s2
    exact PySem.P.repr_of_str ⟨.str _, H, I.tok _, ⟨_, rfl⟩, q⟩ s2
  | list a b c e => exact repr_of_reads' (Reads.list a b c e) s1 hm gd (by omega) (fun _ _ z => z) (fun h' u tk k => ⟨.str _, H, I.kept k, ⟨_, rfl⟩, q⟩) s2
  | tuple a b c e => exact repr_of_reads' (Reads.tuple a b c e) s1 hm gd (by omega) (fun _ _ z => z) (fun h' u tk k => ⟨.str _, H, I.kept k, ⟨_, rfl⟩, q⟩) s2
  | dict a b c e g => exact repr_of_reads' (Reads.dict a b c e g) s1 hm gd (by omega) (fun _ _ z => z) (fun h' u tk k => ⟨.str _, H, I.kept k, ⟨_, rfl⟩, q⟩) s2
end
end K11
namespace K11
open PySem L2
/-! ### what a thing is to isinstance -/
def vB : V → Bool
  | .bl _ => true
  | _ => false
def vI : V → Bool
  | .bl _ => true
  | .int _ => true
  | _ => false
def vS : V → Bool
  | .str _ => true
  | _ => false
inductive Cl (K : PySem.W.Frag) (H : Hp) : V → Prop
  | non : Cl K H .non
  | bl (b : Bool) : Cl K H (.bl b)
  | int (i : Int) : Cl K H (.int i)
  | str (l : Tx) : l.length ≤ 100 → Cl K H (tv l)
  | oth {a : Addr} {t : Value} : TyX K H (.ref a) t → PySem.W.kitOne K t (.type "bool") = some false → PySem.W.kitOne K t (.type "int") = some false → PySem.W.kitOne K t (.type "str") = some false → Cl K H (.ref a)
theorem Cl.kit {K : PySem.W.Frag} {H : Hp} {v : V} (h : Cl K H v) : ∃ t, TyX K H v t ∧ PySem.W.kitOne K t (.type "bool") = some (vB v) ∧ PySem.W.kitOne K t (.type "int") = some (vI v) ∧ PySem.W.kitOne K t (.type "str") = some (vS v) := by
  cases h with
  | non => exact ⟨_, .base .non, kit_ty (a := "NoneType") (b := "bool") (r := false) (by decide +kernel), kit_ty (a := "NoneType") (b := "int") (r := false) (by decide +kernel), kit_ty (a := "NoneType") (b := "str") (r := false) (by decide +kernel)⟩
  | bl b => exact ⟨_, .base (.bl b), kit_ty (a := "bool") (b := "bool") (r := true) (by decide +kernel), kit_ty (a := "bool") (b := "int") (r := true) (by decide +kernel), kit_ty (a := "bool") (b := "str") (r := false) (by decide +kernel)⟩
  | int i => exact ⟨_, .base (.int i), kit_ty (a := "int") (b := "bool") (r := false) (by decide +kernel), kit_ty (a := "int") (b := "int") (r := true) (by decide +kernel), kit_ty (a := "int") (b := "str") (r := false) (by decide +kernel)⟩
  | str l _ => exact ⟨_, .base (.str _), kit_ty (a := "str") (b := "bool") (r := false) (by decide +kernel), kit_ty (a := "str") (b := "int") (r := false) (by decide +kernel), kit_ty (a := "str") (b := "str") (r := true) (by decide +kernel)⟩
  | oth t b i s => exact ⟨_, t, b, i, s⟩
theorem Cl.text {K : PySem.W.Frag} {H : Hp} {v : V} (h : Cl K H v) (s : vS v = true) : ∃ l : Tx, v = tv l ∧ l.length ≤ 100 := by
  cases h with
  | str l e => exact ⟨l, rfl, e⟩
  | _ => cases s
/-! ### names -/
def low (c : Nat) : Bool := decide (97 ≤ c) && decide (c ≤ 122)
def nmC (l : Tx) : Bool := decide (l.length ≤ 8) && (!decide (l = []) && l.all low)
def nameV : V → Bool
  | .str x => nmC x.cps.toList
  | _ => false
def abc : Tx := (Str.ofString "abcdefghijklmnopqrstuvwxyz").cps.toList
theorem abc_is : abc = (List.range 26).map (97 + ·) := by decide +kernel
theorem mem_abc (c : Nat) : decide (c ∈ (Str.ofString "abcdefghijklmnopqrstuvwxyz").cps.toList) = low c := by
  show decide (c ∈ abc) = _
  rw [abc_is]
  unfold low
  by_cases h : 97 ≤ c ∧ c ≤ 122
  · rw [decide_eq_true h.1, decide_eq_true h.2]
    refine decide_eq_true (List.mem_map.mpr ⟨c - 97, List.mem_range.mpr (by omega), by omega⟩)
  · have e : (decide (97 ≤ c) && decide (c ≤ 122)) = false := by
      by_cases a : 97 ≤ c
      · rw [decide_eq_false (show ¬ c ≤ 122 by omega)]; simp
      · rw [decide_eq_false a]; rfl
    rw [e]
    refine decide_eq_false fun z => h ?_
    obtain ⟨k, hk, rfl⟩ := List.mem_map.mp z
    have := List.mem_range.mp hk
    omega
theorem abc_all : abc.all low = true ∧ abc.length = 26 := by decide +kernel
theorem lit_nil : Str.ofString "" = txt [] := by decide +kernel
theorem lit_q : Str.ofString "'" = txt [39] := by decide +kernel
theorem tv_eq (a b : Tx) : decide ((tv a : V) = tv b) = decide (a = b) := by
  by_cases h : a = b
  · subst h; simp
  · rw [decide_eq_false h]
    exact decide_eq_false fun e => h (txt_inj (V.str.inj e))
theorem take_snoc {α : Type} {l : List α} {i : Nat} {x : α} (h : l[i]? = some x) : l.take (i + 1) = l.take i ++ [x] := by
  rw [List.take_succ, h, Option.toList_some]
/-- the built-in names -/
structure Zn (mg : Str → Option Value) : Prop where
  zIs : mg "isinstance" = none
  zBool : mg "bool" = none
  zInt : mg "int" = none
  zStr : mg "str" = none
  zAbs : mg "abs" = none
  zLen : mg "len" = none
  zAll : mg "all" = none
  zRepr : mg "repr" = none
section
variable {P : Program} {w : World} {K : PySem.W.Frag} {mg : Str → Option Value} {base : Heap}
/-- all([.. for a sign in a text]) of low signs -/
theorem all_low (l : Tx) : ((l.map low).take l.length).all id = l.all low := by
  rw [List.take_of_length_le (by rw [List.length_map]; exact Nat.le_refl _), List.all_map]
  rfl
/-! ### is_name -/
def spName (K : PySem.W.Frag) : Sp := fun vs H Q _ => ∃ v : V, vs = [v] ∧ Cl K H v ∧ ∀ H', Same H H' → Q (.bl (nameV v)) H'
theorem scNm : FnScope ["value", "letter"] ["value"] (defScope sIsName) := ⟨rfl, rfl, rfl, by decide +kernel, rfl, by decide +kernel, by decide +kernel⟩
theorem ok_name {f : Addr} {fd : FuncData} {tk t2 : Tok} (F : Fun K "is_name" "is_name" sIsName f fd) (Z : Zn mg) (mM : mg "MOST_LETTERS" = some (.int 8 tk)) (mL : mg "LETTERS" = some (.str "abcdefghijklmnopqrstuvwxyz" t2)) : FnOk P w K mg base CX0 1 f fd ["value"] (spName K) := by
  refine F.ok scNm (fun vs H Q E h => ?_) (fun cdv A outer_ s H vs Q E hr h => ?_)
  · obtain ⟨v, rfl, _⟩ := h
    rfl
  · obtain ⟨v, rfl, cl, k⟩ := h
    refine ⟨_, pss_cons (ps_if (PW.pt (pw_or (pt_not (pt_val (pe_callB call_isi (by rfl) Z.zIs (by decide +kernel) (pa_cons (pv 0) (pa_cons (pe_bltn (v := .ty "str") (u := .type "str") (by rfl) Z.zStr (by decide +kernel) rfl) pa_nil)))))
          (pw_or1 (pt_cmpR op_gt (pe_callB call_len_str (by rfl) Z.zLen PySem.boot_len (pa_cons (pv 0) pa_nil)) (pe_glob (v := .int 8) rfl mM ⟨_, rfl⟩) (nomark _))))) (pss_one (ps_ret pe_bl)) pss_nil)
      (pss_one (ps_ret (pe_and (pe_cmpR op_ne (pv 0) pe_str (nomark _)) (pe_one (pe_callB (cr_all rfl) (by rfl) Z.zAll (by decide +kernel) (pa_cons (pe_lc (own := [("letter", 1)]) (g := gName 1) (tt := tYes) rfl scNm.nd (pi_str (pv 0))
        (blkOk_by (N := ["value", "letter"]) (sc := defScope sIsName) (by decide +kernel)) (fun _ _ _ _ _ => pg_name (i := 1) scNm.nd rfl (Or.inl rfl)) (fun _ _ _ _ _ => pts_nil)
        (fun _ _ _ _ _ => pe_cmpR op_in_sign (pv 1) (pe_glob (v := .str "abcdefghijklmnopqrstuvwxyz") rfl mL ⟨_, rfl⟩) (by rfl))) pa_nil)))))), ?_⟩
    obtain ⟨t, ty, kb, ki, ks⟩ := cl.kit
    refine ⟨_, rfl, v, .ty "str", t, .type "str", vS v, rfl, .ty _, ty, ks, _, rfl, ?_⟩
    by_cases hs : vS v = true
    · obtain ⟨l, rfl, hl⟩ := cl.text hs
      have hline : (txt l).length ≤ sizeLine := by rw [txt_len, sizeLine_eq]; omega
      rw [hs]
      refine ⟨_, rfl, _, rfl, hline, _, _, rfl, rfl, _, rfl, ?_⟩
      rw [txt_len]
      have nm : nameV (tv l) = nmC l := rfl
      refine ite2 (fun h1 => ?_) (fun h1 => ?_)
      · have e : nmC l = false := by
          unfold nmC
          rw [decide_eq_false (show ¬ l.length ≤ 8 by have := of_decide_eq_true h1; omega)]
          rfl
        have z := k H (Same.refl H)
        rw [nm, e] at z
        exact z
      have l8 : l.length ≤ 8 := by
        have : ¬ ((l.length : Int) > 8) := fun z => h1 (decide_eq_true z)
        omega
      rw [lit_nil]
      refine ⟨_, rfl, rfl, _, rfl, ?_⟩
      rw [tv_eq]
      by_cases h2 : l = []
      · subst h2
        exact k H (Same.refl H)
      rw [decide_eq_false h2]
      refine ⟨_, rfl, _, rfl, fun D hD => ?_⟩
      refine lc_it (walk_str (z := txt l)) (fun i H' => Same H H' ∧ H' D = some (.lst (((l.map low).take i).map V.bl))) ⟨same_upd hD, upd_same⟩ (fun _ _ _ _ => trivial) ?_ ?_
      · rintro i x H1 H2 hi ⟨sm, hL⟩ ⟨rfl, c, hc, rfl⟩
        have hc' : l[i]? = some c := by
          have z : l.toArray[i]? = some c := hc
          simpa using z
        refine ⟨rfl, _, rfl, c, _, rfl, rfl, _, hL, ?_, fun b o q => ?_, ?_⟩
        · rw [List.length_map, List.length_take, List.length_map, sizeLine_eq]
          omega
        · rw [upd_ne (ne_of_none q hD)]
          exact sm b o q
        · rw [upd_same, take_snoc (x := low c) (by rw [List.getElem?_map, hc']; rfl), List.map_append, mem_abc]
          rfl
      · rintro H1 ⟨sm, hL⟩
        refine ⟨D, _, rfl, SqL.of hL, ?_⟩
        have e : ((l.map low).take (txt l).cps.size).all id = nmC l := by
          rw [show (txt l).cps.size = l.length from txt_len l, all_low]
          unfold nmC
          rw [decide_eq_true l8, decide_eq_false h2]
          rfl
        rw [e]
        exact k H1 sm
    · have hs' : vS v = false := by simpa using hs
      rw [hs']
      have e : nameV v = false := by cases v <;> first | rfl | cases hs'
      have z := k H (Same.refl H)
      rw [e] at z
      exact z
end
end K11
namespace K11
open PySem L2
def intV (v : V) : Bool := vI v && !vB v
def cntV : V → Bool
  | .int i => decide (i ≥ 0)
  | _ => false
def sorts : List V := [.str "int", .str "text", .str "truth"]
def srtIn (v : V) : Bool := vS v && inV v sorts
def absI (i : Int) : Int := if i < 0 then -i else i
def noQ (x : Str) : Bool := !decide ((39 : Nat) ∈ x.cps.toList)
def srt : V → V
  | .bl _ => .str "truth"
  | .int i => if absI i < 10 ^ (30 : Int).toNat then .str "int" else .non
  | .str x => if (decide ((x.length : Int) ≤ 60) && noQ x) = true then .str "text" else .non
  | _ => .non
theorem lit_quote : Str.ofString "'" = ⟨#[39]⟩ := by decide +kernel
def isVal (s v : V) (b : Bool) : Bool := srtIn s && (if v = .non then b else decide (srt v = s))
theorem intV_i (v : V) : intV v = true → ∃ i, v = .int i := by
  intro h
  cases v <;> first | exact ⟨_, rfl⟩ | cases h
section
variable {P : Program} {w : World} {K : PySem.W.Frag} {mg : Str → Option Value} {base : Heap}
/-- f(a thing): a truth value of the thing alone -/
def spB (K : PySem.W.Frag) (g : V → Bool) : Sp := fun vs H Q _ => ∃ v : V, vs = [v] ∧ Cl K H v ∧ Q (.bl (g v)) H
theorem scIn : FnScope ["value"] ["value"] (defScope sIsInteger) := ⟨rfl, rfl, rfl, by decide +kernel, rfl, by decide +kernel, by decide +kernel⟩
theorem ok_int {f : Addr} {fd : FuncData} (F : Fun K "is_integer" "is_integer" sIsInteger f fd) (Z : Zn mg) : FnOk P w K mg base CX0 1 f fd ["value"] (spB K intV) := by
  refine F.ok scIn (fun vs H Q E h => ?_) (fun cdv A outer_ s H vs Q E hr h => ?_)
  · obtain ⟨v, rfl, _⟩ := h
    rfl
  · obtain ⟨v, rfl, cl, k⟩ := h
    refine ⟨_, pss_one (ps_ret (pe_and (pe_callB call_isi (by rfl) Z.zIs (by decide +kernel) (pa_cons (pv 0) (pa_cons (pe_bltn (v := .ty "int") (u := .type "int") (by rfl) Z.zInt (by decide +kernel) rfl) pa_nil)))
      (pe_one (pe_not (pe_callB call_isi (by rfl) Z.zIs (by decide +kernel) (pa_cons (pv 0) (pa_cons (pe_bltn (v := .ty "bool") (u := .type "bool") (by rfl) Z.zBool (by decide +kernel) rfl) pa_nil))))))), ?_⟩
    obtain ⟨t, ty, kb, ki, ks⟩ := cl.kit
    refine ⟨_, rfl, v, .ty "int", t, .type "int", vI v, rfl, .ty _, ty, ki, _, rfl, ?_⟩
    unfold intV at k
    by_cases hi : vI v = true
    · rw [hi] at k ⊢
      exact ⟨_, rfl, v, .ty "bool", t, .type "bool", vB v, rfl, .ty _, ty, kb, _, rfl, k⟩
    · have hi' : vI v = false := by simpa using hi
      rw [hi'] at k ⊢
      exact k
theorem scCn : FnScope ["value"] ["value"] (defScope sIsCount) := ⟨rfl, rfl, rfl, by decide +kernel, rfl, by decide +kernel, by decide +kernel⟩
theorem ok_cnt {f fI : Addr} {fd dI : FuncData} (F : Fun K "is_count" "is_count" sIsCount f fd) (Z : Zn mg) (AI : At K mg "is_integer" sIsInteger ["value"] fI dI) : FnOk P w K mg base CX0 2 f fd ["value"] (spB K cntV) := by
  have GI : FnOk P w K mg base CX0 1 fI dI ["value"] (spB K intV) := ok_int AI.F Z
  refine F.ok scCn (fun vs H Q E h => ?_) (fun cdv A outer_ s H vs Q E hr h => ?_)
  · obtain ⟨v, rfl, _⟩ := h
    rfl
  · obtain ⟨v, rfl, cl, k⟩ := h
    refine ⟨_, pss_one (ps_ret (pe_and (pe_call GI hr (by rfl) AI.m AI.F.kp AI.b .nil pass0 (pa_cons (pv 0) pa_nil)) (pe_one (pe_cmpR op_ge (pv 0) pe_int (nomark _))))), ?_⟩
    refine ⟨_, rfl, v, rfl, cl, _, rfl, ?_⟩
    by_cases hi : intV v = true
    · rw [hi]
      obtain ⟨i, rfl⟩ := intV_i v hi
      exact ⟨_, rfl, _, _, rfl, rfl, k⟩
    · have hi' : intV v = false := by simpa using hi
      rw [hi']
      have e : cntV v = false := by cases v <;> first | rfl | cases hi'
      rw [e] at k
      exact k
theorem scSr : FnScope ["value"] ["value"] (defScope sIsSort) := ⟨rfl, rfl, rfl, by decide +kernel, rfl, by decide +kernel, by decide +kernel⟩
/-- the tuple of sorts -/
def SrtT (K : PySem.W.Frag) (mg : Str → Option Value) : Prop := ∃ T : Addr, mg "SORTS" = some (.ref T) ∧ ∀ H : Hp, SqT K H T sorts
theorem ok_srt {f : Addr} {fd : FuncData} (F : Fun K "is_sort" "is_sort" sIsSort f fd) (Z : Zn mg) (ST : SrtT K mg) : FnOk P w K mg base CX0 1 f fd ["value"] (spB K srtIn) := by
  obtain ⟨T, mT, sT⟩ := ST
  refine F.ok scSr (fun vs H Q E h => ?_) (fun cdv A outer_ s H vs Q E hr h => ?_)
  · obtain ⟨v, rfl, _⟩ := h
    rfl
  · obtain ⟨v, rfl, cl, k⟩ := h
    refine ⟨_, pss_one (ps_ret (pe_and (pe_callB call_isi (by rfl) Z.zIs (by decide +kernel) (pa_cons (pv 0) (pa_cons (pe_bltn (v := .ty "str") (u := .type "str") (by rfl) Z.zStr (by decide +kernel) rfl) pa_nil)))
      (pe_one (pe_cmpR op_in_seq (pv 0) (pe_glob (v := .ref T) rfl mT rfl) (by rfl))))), ?_⟩
    obtain ⟨t, ty, kb, ki, ks⟩ := cl.kit
    refine ⟨_, rfl, v, .ty "str", t, .type "str", vS v, rfl, .ty _, ty, ks, _, rfl, ?_⟩
    unfold srtIn at k
    by_cases hs : vS v = true
    · rw [hs] at k ⊢
      obtain ⟨l, rfl, _⟩ := cl.text hs
      exact ⟨_, rfl, T, sorts, rfl, .inr (sT _), rfl, by decide +kernel, k⟩
    · have hs' : vS v = false := by simpa using hs
      rw [hs'] at k ⊢
      exact k
/-! ### sort_of -/
theorem scSo : FnScope ["value"] ["value"] (defScope sSortOf) := ⟨rfl, rfl, rfl, by decide +kernel, rfl, by decide +kernel, by decide +kernel⟩
def spSort (K : PySem.W.Frag) : Sp := fun vs H Q _ => ∃ v : V, vs = [v] ∧ Cl K H v ∧ Q (srt v) H
theorem ok_sort {f : Addr} {fd : FuncData} {tk : Tok} (F : Fun K "sort_of" "sort_of" sSortOf f fd) (Z : Zn mg) (mC : mg "MOST_CHARACTERS" = some (.int 60 tk)) : FnOk P w K mg base CX0 1 f fd ["value"] (spSort K) := by
  refine F.ok scSo (fun vs H Q E h => ?_) (fun cdv A outer_ s H vs Q E hr h => ?_)
  · obtain ⟨v, rfl, _⟩ := h
    rfl
  · obtain ⟨v, rfl, cl, k⟩ := h
    refine ⟨_, pss_cons (ps_if (pt_val (pe_callB call_isi (by rfl) Z.zIs (by decide +kernel) (pa_cons (pv 0) (pa_cons (pe_bltn (v := .ty "bool") (u := .type "bool") (by rfl) Z.zBool (by decide +kernel) rfl) pa_nil)))) (pss_one (ps_ret pe_str)) pss_nil)
      (pss_cons (ps_if (pt_val (pe_callB call_isi (by rfl) Z.zIs (by decide +kernel) (pa_cons (pv 0) (pa_cons (pe_bltn (v := .ty "int") (u := .type "int") (by rfl) Z.zInt (by decide +kernel) rfl) pa_nil))))
        (pss_one (ps_ret (pe_ifExp (pt_cmpR op_lt (pe_callB call_abs (by rfl) Z.zAbs (by decide +kernel) (pa_cons (pv 0) pa_nil)) (pe_op op_pow pe_int pe_int) (nomark _)) pe_str pe_non))) pss_nil)
      (pss_cons (ps_if (PW.pt (pw_and (pt_val (pe_callB call_isi (by rfl) Z.zIs (by decide +kernel) (pa_cons (pv 0) (pa_cons (pe_bltn (v := .ty "str") (u := .type "str") (by rfl) Z.zStr (by decide +kernel) rfl) pa_nil))))
          (pw_and (pt_cmpR op_le (pe_callB call_len_str (by rfl) Z.zLen PySem.boot_len (pa_cons (pv 0) pa_nil)) (pe_glob (v := .int 60) rfl mC ⟨_, rfl⟩) (nomark _)) (pw_and1 (pt_cmpR op_notInS pe_str (pv 0) (by rfl))))))
        (pss_one (ps_ret pe_str)) pss_nil)
      (pss_one (ps_ret pe_non)))), ?_⟩
    obtain ⟨t, ty, kb, ki, ks⟩ := cl.kit
    refine ⟨_, rfl, v, .ty "bool", t, .type "bool", vB v, rfl, .ty _, ty, kb, _, rfl, ?_⟩
    by_cases hb : vB v = true
    · rw [hb]
      cases v <;> first | exact Bool.noConfusion (show false = true from hb) | exact k
    have hb' : vB v = false := by simpa using hb
    rw [hb']
    refine ⟨_, rfl, v, .ty "int", t, .type "int", vI v, rfl, .ty _, ty, ki, _, rfl, ?_⟩
    by_cases hi : vI v = true
    · rw [hi]
      obtain ⟨i, rfl⟩ : ∃ i, v = .int i := by
        cases v <;> first | exact ⟨_, rfl⟩ | exact Bool.noConfusion (show true = false from hb') | exact Bool.noConfusion (show false = true from hi)
      refine ⟨_, rfl, _, rfl, _, _, rfl, rfl, ⟨by decide, by decide, by decide⟩, _, _, rfl, rfl, _, rfl, ?_⟩
      refine ite2 (fun h1 => ?_) (fun h1 => ?_)
      · have e : srt (.int i) = .str "int" := if_pos (of_decide_eq_true h1)
        rw [e] at k
        exact k
      · have e : srt (.int i) = .non := if_neg (fun z => h1 (decide_eq_true z))
        rw [e] at k
        exact k
    have hi' : vI v = false := by simpa using hi
    rw [hi']
    refine ⟨_, rfl, v, .ty "str", t, .type "str", vS v, rfl, .ty _, ty, ks, _, rfl, ?_⟩
    by_cases hs : vS v = true
    · rw [hs]
      obtain ⟨l, rfl, hl⟩ := cl.text hs
      have hline : (txt l).length ≤ sizeLine := by rw [txt_len, sizeLine_eq]; omega
      refine ⟨_, rfl, _, rfl, hline, _, _, rfl, rfl, _, rfl, ?_⟩
      refine ite2 (fun h1 => ?_) (fun h1 => ?_)
      · refine ⟨_, rfl, 39, txt l, congrArg V.str lit_quote, rfl, _, rfl, ?_⟩
        show if (noQ (txt l)) = true then _ else _
        refine ite2 (fun h2 => ?_) (fun h2 => ?_)
        · have e : srt (tv l) = .str "text" := if_pos (Bool.and_eq_true_iff.mpr ⟨h1, h2⟩)
          rw [e] at k
          exact k
        · have e : srt (tv l) = .non := if_neg (fun z => h2 (Bool.and_eq_true_iff.mp z).2)
          rw [e] at k
          exact k
      · have e : srt (tv l) = .non := if_neg (fun z => h1 (Bool.and_eq_true_iff.mp z).1)
        rw [e] at k
        exact k
    have hs' : vS v = false := by simpa using hs
    rw [hs']
    cases v <;> first | exact Bool.noConfusion (show true = false from hb') | exact Bool.noConfusion (show true = false from hi') | exact Bool.noConfusion (show true = false from hs') | exact k
/-! ### is_value -/
def spVal (K : PySem.W.Frag) : Sp := fun vs H Q _ => ∃ (s v : V) (b : Bool), vs = [s, v, .bl b] ∧ Cl K H s ∧ Cl K H v ∧ Q (.bl (isVal s v b)) H
theorem scVa : FnScope ["sort", "value", "may_be_empty"] ["sort", "value", "may_be_empty"] (defScope sIsValue) := ⟨rfl, rfl, rfl, by decide +kernel, rfl, by decide +kernel, by decide +kernel⟩
abbrev FV (K : PySem.W.Frag) (f : Addr) (fd : FuncData) : Prop := FunD K "is_value" "is_value" (defArgs sIsValue) (defBody sIsValue) (defScope sIsValue) [] [(("may_be_empty" : Str), V.bl false)] f fd
theorem srt_cases (v : V) : srt v = .non ∨ ∃ x, srt v = .str x := by
  cases v with
  | bl _ => exact .inr ⟨_, rfl⟩
  | int i =>
    show (if _ then _ else _) = V.non ∨ _
    by_cases h : absI i < 10 ^ (30 : Int).toNat
    · exact .inr ⟨"int", if_pos h⟩
    · exact .inl (if_neg h)
  | str x =>
    by_cases h : (decide ((x.length : Int) ≤ 60) && noQ x) = true
    · exact .inr ⟨"text", if_pos h⟩
    · exact .inl (if_neg h)
  | _ => exact .inl rfl
theorem ok_val {f fS fO : Addr} {fd dS dO : FuncData} {tk : Tok} (F : FV K f fd) (Z : Zn mg) (ST : SrtT K mg) (mC : mg "MOST_CHARACTERS" = some (.int 60 tk)) (AS : At K mg "is_sort" sIsSort ["value"] fS dS) (AO : At K mg "sort_of" sSortOf ["value"] fO dO) :
    FnOk P w K mg base CX0 2 f fd ["sort", "value", "may_be_empty"] (spVal K) := by
  have GS : FnOk P w K mg base CX0 1 fS dS ["value"] (spB K srtIn) := ok_srt AS.F Z ST
  have GO : FnOk P w K mg base CX0 1 fO dO ["value"] (spSort K) := ok_sort AO.F Z mC
  refine FunD.ok F scVa (fun vs H Q E h => ?_) (fun cdv A outer_ s_ H vs Q E hr h => ?_)
  · obtain ⟨s, v, b, rfl, _⟩ := h
    rfl
  · obtain ⟨s, v, b, rfl, cs, cv, k⟩ := h
    refine ⟨_, PSs.nox (pss_cons (ps_if (pt_not (pt_val (pe_call GS hr (by rfl) AS.m AS.F.kp AS.b .nil pass0 (pa_cons (pv 0) pa_nil)))) (pss_one (ps_ret pe_bl)) pss_nil)
      (pss_cons (ps_if (pt_cmpR op_isN (pv 1) pe_non (nomark _)) (pss_one (ps_ret (pe_callTy call_bool1 (by rfl) Z.zBool (by decide +kernel) (pa_cons (pv 2) pa_nil)))) pss_nil)
      (pss_one (ps_ret (pe_cmpR op_eq (pe_call GO hr (by rfl) AO.m AO.F.kp AO.b .nil pass0 (pa_cons (pv 1) pa_nil)) (pv 0) (nomark _)))))), ?_⟩
    refine ⟨_, rfl, s, rfl, cs, _, rfl, ?_⟩
    unfold isVal at k
    by_cases hs : srtIn s = true
    · rw [hs] at k ⊢
      refine ⟨_, rfl, rfl, _, rfl, ?_⟩
      refine ite2 (fun h1 => ?_) (fun h1 => ?_)
      · have e := of_decide_eq_true h1
        rw [if_pos e] at k
        exact ⟨_, rfl, .inr ⟨b, rfl, k⟩⟩
      · have e : ¬ v = .non := fun z => h1 (decide_eq_true z)
        rw [if_neg e] at k
        refine ⟨_, rfl, v, rfl, cv, _, rfl, ?_, k⟩
        obtain ⟨l, rfl, _⟩ := cs.text (Bool.and_eq_true_iff.mp hs).1
        rcases srt_cases v with z | ⟨x, z⟩
        · rw [z]; rfl
        · rw [z]; rfl
    · have hs' : srtIn s = false := by simpa using hs
      rw [hs'] at k ⊢
      exact k
end
end K11
namespace K11
open PySem L2
/-- what the law says of a kind -/
def fitV (s v : V) : Bool := if s = .str "int" then (intV v && decide (srt v = .str "int")) else if s = .str "text" then (vS v && decide (srt v = .str "text")) else vB v
section
variable {P : Program} {w : World} {K : PySem.W.Frag} {mg : Str → Option Value} {base : Heap}
theorem scWh : FnScope ["_law_thing_here"] ["_law_thing_here"] (defScope sIsWhole) := ⟨rfl, rfl, rfl, by decide +kernel, rfl, by decide +kernel, by decide +kernel⟩
theorem ok_wh {f : Addr} {fd : FuncData} (F : Fun K "_law_is_whole" "_law_is_whole" sIsWhole f fd) (Z : Zn mg) : FnOk P w K mg base CX0 1 f fd ["_law_thing_here"] (spB K intV) := by
  refine F.ok scWh (fun vs H Q E h => ?_) (fun cdv A outer_ s H vs Q E hr h => ?_)
  · obtain ⟨v, rfl, _⟩ := h
    rfl
  · obtain ⟨v, rfl, cl, k⟩ := h
    refine ⟨_, pss_one (ps_ret (pe_and (pe_callB call_isi (by rfl) Z.zIs (by decide +kernel) (pa_cons (pv 0) (pa_cons (pe_bltn (v := .ty "int") (u := .type "int") (by rfl) Z.zInt (by decide +kernel) rfl) pa_nil)))
      (pe_one (pe_not (pe_callB call_isi (by rfl) Z.zIs (by decide +kernel) (pa_cons (pv 0) (pa_cons (pe_bltn (v := .ty "bool") (u := .type "bool") (by rfl) Z.zBool (by decide +kernel) rfl) pa_nil))))))), ?_⟩
    obtain ⟨t, ty, kb, ki, ks⟩ := cl.kit
    refine ⟨_, rfl, v, .ty "int", t, .type "int", vI v, rfl, .ty _, ty, ki, _, rfl, ?_⟩
    unfold intV at k
    by_cases hi : vI v = true
    · rw [hi] at k ⊢
      exact ⟨_, rfl, v, .ty "bool", t, .type "bool", vB v, rfl, .ty _, ty, kb, _, rfl, k⟩
    · have hi' : vI v = false := by simpa using hi
      rw [hi'] at k ⊢
      exact k
theorem scWo : FnScope ["_law_thing_here", "_law_letters_here", "_law_sign"] ["_law_thing_here"] (defScope sIsWord) := ⟨rfl, rfl, rfl, by decide +kernel, rfl, by decide +kernel, by decide +kernel⟩
theorem ok_wo {f : Addr} {fd : FuncData} (F : Fun K "_law_is_word" "_law_is_word" sIsWord f fd) (Z : Zn mg) : FnOk P w K mg base CX0 1 f fd ["_law_thing_here"] (spName K) := by
  refine F.ok scWo (fun vs H Q E h => ?_) (fun cdv A outer_ s H vs Q E hr h => ?_)
  · obtain ⟨v, rfl, _⟩ := h
    rfl
  · obtain ⟨v, rfl, cl, k⟩ := h
    refine ⟨_, pss_cons (ps_set (i := 1) scWo.nd rfl (Or.inr rfl) pe_str)
      (pss_one (ps_ret (pe_and (pe_callB call_isi (by rfl) Z.zIs (by decide +kernel) (pa_cons (pv 0) (pa_cons (pe_bltn (v := .ty "str") (u := .type "str") (by rfl) Z.zStr (by decide +kernel) rfl) pa_nil)))
        (pe_and (pe_chain op_le op_le pe_int (pe_callB call_len_str (by rfl) Z.zLen PySem.boot_len (pa_cons (pv 0) pa_nil)) pe_int)
        (pe_one (pe_callB (cr_all rfl) (by rfl) Z.zAll (by decide +kernel) (pa_cons (pe_lc (own := [("_law_sign", 2)]) (g := gName 2) (tt := tYes) rfl scWo.nd (pi_str (pv 0))
        (blkOk_by (N := ["_law_thing_here", "_law_letters_here", "_law_sign"]) (sc := defScope sIsWord) (by decide +kernel)) (fun _ _ _ _ _ => pg_name (i := 2) scWo.nd rfl (Or.inl rfl)) (fun _ _ _ _ _ => pts_nil)
        (fun _ _ _ _ _ => pe_cmpR op_in_sign (pv 2) (pv 1) (by rfl))) pa_nil))))))), ?_⟩
    obtain ⟨t, ty, kb, ki, ks⟩ := cl.kit
    refine ⟨_, rfl, v, .ty "str", t, .type "str", vS v, rfl, .ty _, ty, ks, _, rfl, ?_⟩
    by_cases hs : vS v = true
    · obtain ⟨l, rfl, hl⟩ := cl.text hs
      have hline : (txt l).length ≤ sizeLine := by rw [txt_len, sizeLine_eq]; omega
      have nm : nameV (tv l) = nmC l := rfl
      rw [nm] at k
      unfold nmC at k
      rw [hs]
      refine ⟨_, rfl, _, rfl, hline, _, _, rfl, rfl, ?_⟩
      have fin0 : l = [] ∨ ¬ l.length ≤ 8 → Q (.bl false) H := fun z => by
        have q := k H (Same.refl H)
        rcases z with z | z
        · subst z
          exact q
        · rw [decide_eq_false z] at q
          exact q
      refine ⟨_, rfl, ?_⟩
      rw [txt_len]
      refine ite2 (fun h1 => ?_) (fun h1 => ?_)
      · have h1' := of_decide_eq_true h1
        refine ⟨_, _, rfl, rfl, _, rfl, ?_⟩
        refine ite2 (fun h2 => ?_) (fun h2 => ?_)
        · have h2' := of_decide_eq_true h2
          have n0 : ¬ l = [] := fun z => by rw [z] at h1'; exact absurd h1' (by decide)
          have n8 : l.length ≤ 8 := by omega
          rw [decide_eq_true n8, decide_eq_false n0] at k
          refine ⟨_, rfl, _, rfl, fun D hD => ?_⟩
          refine lc_it (walk_str (z := txt l)) (fun i H' => Same H H' ∧ H' D = some (.lst (((l.map low).take i).map V.bl))) ⟨same_upd hD, upd_same⟩ (fun _ _ _ _ => trivial) ?_ ?_
          · rintro i x H1 H2 hi ⟨sm, hL⟩ ⟨rfl, c, hc, rfl⟩
            have hc' : l[i]? = some c := by
              have z : l.toArray[i]? = some c := hc
              simpa using z
            refine ⟨rfl, _, rfl, _, rfl, c, _, rfl, rfl, _, hL, ?_, fun b o q => ?_, ?_⟩
            · rw [List.length_map, List.length_take, List.length_map, sizeLine_eq]
              omega
            · rw [upd_ne (ne_of_none q hD)]
              exact sm b o q
            · rw [upd_same, take_snoc (x := low c) (by rw [List.getElem?_map, hc']; rfl), List.map_append, mem_abc]
              rfl
          · rintro H1 ⟨sm, hL⟩
            refine ⟨D, _, rfl, SqL.of hL, ?_⟩
            rw [show (txt l).cps.size = l.length from txt_len l, all_low]
            exact k H1 sm
        · exact fin0 (.inr fun z => h2 (decide_eq_true (by omega)))
      · refine ⟨_, rfl, fin0 (.inl ?_)⟩
        have : ¬ (1 : Int) ≤ (l.length : Int) := fun z => h1 (decide_eq_true z)
        exact List.eq_nil_of_length_eq_zero (by omega)
    · have hs' : vS v = false := by simpa using hs
      rw [hs']
      have e : nameV v = false := by cases v <;> first | rfl | cases hs'
      have z := k H (Same.refl H)
      rw [e] at z
      exact z
theorem scFi : FnScope ["_law_kind", "_law_thing_here"] ["_law_kind", "_law_thing_here"] (defScope sFits) := ⟨rfl, rfl, rfl, by decide +kernel, rfl, by decide +kernel, by decide +kernel⟩
def spFit (K : PySem.W.Frag) : Sp := fun vs H Q _ => ∃ (s v : V), vs = [s, v] ∧ s ∈ sorts ∧ Cl K H v ∧ Q (.bl (fitV s v)) H
theorem ok_fit {f fW : Addr} {fd dW : FuncData} (F : Fun K "_law_fits" "_law_fits" sFits f fd) (Z : Zn mg) (AW : At K mg "_law_is_whole" sIsWhole ["_law_thing_here"] fW dW) : FnOk P w K mg base CX0 2 f fd ["_law_kind", "_law_thing_here"] (spFit K) := by
  have GW : FnOk P w K mg base CX0 1 fW dW ["_law_thing_here"] (spB K intV) := ok_wh AW.F Z
  refine F.ok scFi (fun vs H Q E h => ?_) (fun cdv A outer_ s H vs Q E hr h => ?_)
  · obtain ⟨s, v, rfl, _⟩ := h
    rfl
  · obtain ⟨s, v, rfl, hs, cl, k⟩ := h
    refine ⟨_, pss_cons (ps_if (pt_cmpR op_eq (pv 0) pe_str (nomark _)) (pss_one (ps_ret (pe_and (pe_call GW hr (by rfl) AW.m AW.F.kp AW.b .nil pass0 (pa_cons (pv 1) pa_nil)) (pe_one (pe_chain op_lt op_lt (pe_un un_neg (pe_op op_pow pe_int pe_int)) (pv 1) (pe_op op_pow pe_int pe_int)))))) pss_nil)
      (pss_cons (ps_if (pt_cmpR op_eq (pv 0) pe_str (nomark _)) (pss_one (ps_ret (pe_and (pe_callB call_isi (by rfl) Z.zIs (by decide +kernel) (pa_cons (pv 1) (pa_cons (pe_bltn (v := .ty "str") (u := .type "str") (by rfl) Z.zStr (by decide +kernel) rfl) pa_nil)))
          (pe_and (pe_cmpR op_le (pe_callB call_len_str (by rfl) Z.zLen PySem.boot_len (pa_cons (pv 1) pa_nil)) pe_int (nomark _)) (pe_one (pe_cmpR op_notInS pe_str (pv 1) (by rfl))))))) pss_nil)
      (pss_one (ps_ret (pe_callB call_isi (by rfl) Z.zIs (by decide +kernel) (pa_cons (pv 1) (pa_cons (pe_bltn (v := .ty "bool") (u := .type "bool") (by rfl) Z.zBool (by decide +kernel) rfl) pa_nil)))))), ?_⟩
    obtain ⟨t, ty, kb, ki, ks⟩ := cl.kit
    have sc : scal s (.str "int") = true ∧ scal s (.str "text") = true := by
      rcases List.mem_cons.mp hs with rfl | hs
      · exact ⟨rfl, rfl⟩
      rcases List.mem_cons.mp hs with rfl | hs
      · exact ⟨rfl, rfl⟩
      rw [List.mem_singleton.mp hs]
      exact ⟨rfl, rfl⟩
    unfold fitV at k
    refine ⟨_, rfl, sc.1, _, rfl, ?_⟩
    refine ite2 (fun h1 => ?_) (fun h1 => ?_)
    · rw [if_pos (of_decide_eq_true h1)] at k
      refine ⟨_, rfl, v, rfl, cl, _, rfl, ?_⟩
      by_cases hi : intV v = true
      · rw [hi] at k ⊢
        obtain ⟨i, rfl⟩ := intV_i v hi
        refine ⟨_, _, rfl, rfl, ⟨by decide, by decide, by decide⟩, _, rfl, _, rfl, _, _, rfl, rfl, ?_⟩
        have e : decide (srt (.int i) = .str "int") = decide (absI i < 10 ^ (30 : Int).toNat) := by
          by_cases z : absI i < 10 ^ (30 : Int).toNat
          · rw [decide_eq_true z]
            exact decide_eq_true (if_pos z)
          · rw [decide_eq_false z]
            refine decide_eq_false fun q => ?_
            have q2 : srt (.int i) = .non := if_neg z
            rw [q2] at q
            cases q
        rw [e] at k
        have ab : ∀ N : Int, (absI i < N) ↔ (-N < i ∧ i < N) := fun N => by
          unfold absI
          split <;> constructor <;> intro z <;> first | omega | (constructor <;> omega)
        refine ⟨_, rfl, ?_⟩
        refine ite2 (fun h2 => ?_) (fun h2 => ?_)
        · refine ⟨_, _, rfl, rfl, ⟨by decide, by decide, by decide⟩, _, _, rfl, rfl, ?_⟩
          have h2' := of_decide_eq_true h2
          have e2 : decide (absI i < 10 ^ (30 : Int).toNat) = decide (i < 10 ^ (30 : Int).toNat) := decide_eq_decide.mpr ⟨fun z => ((ab _).mp z).2, fun z => (ab _).mpr ⟨h2', z⟩⟩
          rw [e2] at k
          exact k
        · have e2 : decide (absI i < 10 ^ (30 : Int).toNat) = false := decide_eq_false fun z => h2 (decide_eq_true ((ab _).mp z).1)
          rw [e2] at k
          exact k
      · have hi' : intV v = false := by simpa using hi
        rw [hi'] at k ⊢
        exact k
    have n1 : ¬ s = .str "int" := fun z => h1 (decide_eq_true z)
    rw [if_neg n1] at k
    refine ⟨_, rfl, sc.2, _, rfl, ?_⟩
    refine ite2 (fun h2 => ?_) (fun h2 => ?_)
    · rw [if_pos (of_decide_eq_true h2)] at k
      refine ⟨_, rfl, v, .ty "str", t, .type "str", vS v, rfl, .ty _, ty, ks, _, rfl, ?_⟩
      by_cases hs : vS v = true
      · obtain ⟨l, rfl, hl⟩ := cl.text hs
        have hline : (txt l).length ≤ sizeLine := by rw [txt_len, sizeLine_eq]; omega
        rw [hs] at k ⊢
        refine ⟨_, rfl, _, rfl, hline, _, _, rfl, rfl, _, rfl, ?_⟩
        have e : decide (srt (tv l) = .str "text") = (decide (((txt l).length : Int) ≤ 60) && noQ (txt l)) := by
          by_cases z : (decide (((txt l).length : Int) ≤ 60) && noQ (txt l)) = true
          · rw [z]
            exact decide_eq_true (if_pos z)
          · have z' : (decide (((txt l).length : Int) ≤ 60) && noQ (txt l)) = false := by simpa using z
            rw [z']
            refine decide_eq_false fun q => ?_
            have q2 : srt (tv l) = .non := if_neg z
            rw [q2] at q
            cases q
        rw [e] at k
        by_cases h3 : decide (((txt l).length : Int) ≤ 60) = true
        · rw [h3] at k ⊢
          exact ⟨_, rfl, 39, txt l, congrArg V.str lit_quote, rfl, k⟩
        · have h3' : decide (((txt l).length : Int) ≤ 60) = false := by simpa using h3
          rw [h3'] at k ⊢
          exact k
      · have hs' : vS v = false := by simpa using hs
        rw [hs'] at k ⊢
        exact k
    · have n2 : ¬ s = .str "text" := fun z => h2 (decide_eq_true z)
      rw [if_neg n2] at k
      exact ⟨_, rfl, v, .ty "bool", t, .type "bool", vB v, rfl, .ty _, ty, kb, k⟩
end
end K11
namespace K11
open PySem L2
/-! ### Label -/
abbrev sInit : Stmt := inClass (top 20) 1
abbrev sRepr : Stmt := inClass (top 20) 12
theorem pss_dead {X : Cx} {ss : List Stmt} : PSs X ss (fun _ _ _ => False) := ⟨fun _ _ _ _ _ _ h => h.elim⟩
/-- the class Label at C: its marks' most at 4, its __init__ at f, its __repr__ at g -/
structure LabC (K : PySem.W.Frag) (mg : Str → Option Value) (C f g : Addr) (fd gd : FuncData) : Prop where
  mkr : Mk K C f
  cl : Cls K C
  m : mg "Label" = some (.ref C)
  rd : ∃ mc tk, ClX.CRead K C mc ∧ ClX.CVal K C mc "MOST" (.int 4) (.int 4 tk)
  n1 : NoAttr K C "_marks"
  n2 : NoAttr K C "_text"
  F : Fun K "__init__" "Label.__init__" sInit f fd
  R : Fun K "__repr__" "Label.__repr__" sRepr g gd
  rg : PySem.W.findIn K (.ref C) "__repr__" = some (some (.ref g))
  fg : PySem.W.isFn K (.ref g) = true
theorem scInit : FnScope ["self", "marks", "mark", "different"] ((["self"] : List Str) ++ [("marks" : Str)]) (defScope sInit) := ⟨rfl, rfl, rfl, by decide +kernel, rfl, by decide +kernel, by decide +kernel⟩
def plus : Str := "+"
def ltext (ys : List Str) : Str := if (Txt.join plus ys).length = 0 then "-" else Txt.join plus ys
/-- ys: the texts of xs, each once, sorted -/
def Srt (xs ys : List Str) : Prop := ys.Nodup ∧ PyProof.Rows.sortedS ys = true ∧ ∀ y, y ∈ ys ↔ y ∈ xs
def isNm (x : Str) : Bool := nmC x.cps.toList
theorem putF2 (u v : V) : putF "_text" v (putF "_marks" u []) = ([(("_marks" : Str), u), (("_text" : Str), v)] : List (Str × V)) := if_neg (by decide +kernel)
theorem join_is (sep : Str) (ts : List Str) : Txt.join sep ts = Str.join sep ts := StrLaws.glued_eq_join _ _
theorem join_len (sep : Str) : ∀ ts : List Str, (Str.join sep ts).length ≤ (ts.map (·.length)).sum + ts.length * sep.length
  | [] => Nat.zero_le _
  | [c] => by
    show c.length ≤ _
    rw [List.map_cons, List.sum_cons]
    omega
  | c :: u :: r => by
    have ih := join_len sep (u :: r)
    show (c ++ sep ++ Str.join sep (u :: r)).length ≤ _
    rw [strLen_append, strLen_append]
    rw [List.map_cons, List.sum_cons, List.length_cons, Nat.add_mul, Nat.one_mul]
    omega
section
variable {P : Program} {w : World} {K : PySem.W.Frag} {mg : Str → Option Value} {base : Heap}
def spInit (C : Addr) : Sp := fun vs H Q _ => ∃ (x dx p : Addr) (xs : List Str), vs = [.ref x, .ref p] ∧ H x = some (.ins C dx []) ∧ H p = some (.tup (xs.map V.str)) ∧ xs.all isNm = true ∧ xs.length < 60 ∧ (∀ ys, Srt xs ys → ys.length ≤ 4) ∧
  ∀ H' t ys, Srt xs ys → (∀ b o, b ≠ x → H b = some o → H' b = some o) → H' x = some (.ins C dx [("_marks", .ref t), ("_text", .str (ltext ys))]) → H' t = some (.tup (ys.map V.str)) → Q .non H'
theorem isNm_len {x : Str} (h : isNm x = true) : x.cps.toList.length ≤ 8 := of_decide_eq_true (Bool.and_eq_true_iff.mp h).1
theorem ok_init {C f g fN : Addr} {fd gd dN : FuncData} {tk t2 : Tok} (L : LabC K mg C f g fd gd) (B : BEnv mg) (Z : Zn mg) (zT : mg "tuple" = none) (zS : mg "set" = none) (zO : mg "sorted" = none) (mM : mg "MOST_LETTERS" = some (.int 8 tk)) (mL : mg "LETTERS" = some (.str "abcdefghijklmnopqrstuvwxyz" t2))
    (AN : At K mg "is_name" sIsName ["value"] fN dN) : FnR P w K mg base CX0 2 f (fun vs H Q E => ∃ ws rest, vs = ws ++ rest ∧ ws.length = ([("self" : Str)]).length ∧ rest.length ≤ sizeLine ∧ ∀ p, H p = Option.none → spInit C (ws ++ [V.ref p]) (upd H p (.tup rest)) Q E) := by
  have GN : FnOk P w K mg base CX0 1 fN dN ["value"] (spName K) := ok_name AN.F Z mM mL
  obtain ⟨oc, od, kV, doc, pm, an, cdv, ct, osl, rfl, lk, hcd⟩ := L.F.ex
  obtain ⟨mc, tc, rd, cv⟩ := L.rd
  refine StX.fn_star lk hcd scInit StX.cxUp_none (StX.bind_star1 (B := fun us => bindArgs (PySem.W.fnOf "__init__" "Label.__init__" (defArgs sInit) (defBody sInit) (defScope sInit) .none kV doc pm an cdv ct) ⟨us, []⟩) (fun _ => rfl) (fun _ _ _ => rfl)) fun A outer_ s H vs Q E hr h => ?_
  obtain ⟨x, dx, p, xs, rfl, hx, hp, nms, few, most, k⟩ := h
  refine ⟨_, PSs.nox (pss_cons (ps_for PassesOwn.never rfl (pi_tup (pv 1)) (pg_name (i := 2) scInit.nd rfl (Or.inl rfl)) (pss_one (ps_if (pt_not (pt_val (pe_call GN hr (by rfl) AN.m AN.F.kp AN.b .nil pass0 (pa_cons (pv 2) pa_nil)))) pss_dead pss_nil)))
    (pss_cons (ps_set (i := 3) scInit.nd rfl (Or.inl rfl) (pe_callB (LB.cr_sortBag rfl) (by rfl) zO (by decide +kernel) (pa_cons (pe_callTy (LB.cr_bag rfl) (by rfl) zS (by decide +kernel) (pa_cons (pv 1) pa_nil)) pa_nil)))
    (pss_cons (ps_if (pt_cmpR op_gt (pe_callB call_len_seq (by rfl) Z.zLen PySem.boot_len (pa_cons (pv 3) pa_nil)) (ClX.pe_cval (pe_glob (v := .ref C) rfl L.m rfl)) (nomark _)) pss_dead pss_nil)
    (pss_cons (ps_fld (pv 0) (pe_callTy call_tuple_of (by rfl) zT (by decide +kernel) (pa_cons (pv 3) pa_nil)) rfl)
    (pss_one (ps_fld (pv 0) (pe_orT (pe_join pe_str (pv 3)) (pe_one pe_str)) rfl)))))), ?_⟩
  have hsl : sizeLine = 16777216 := sizeLine_eq
  have nmAt : ∀ y ∈ xs, isNm y = true := fun y hy => List.all_eq_true.mp nms y hy
  refine ⟨_, rfl, p, rfl, ⟨_, SqT.of hp⟩, ?_⟩
  refine for_tup (xs := xs.map V.str) (fun i σ H' => Same H H' ∧ ∃ m, σ = [some (.ref x), some (.ref p), m, none]) ⟨Same.refl H, none, rfl⟩ (fun i σ H' _ q => SqT.of (q.1 _ _ hp)) ?_ ?_
  · rintro i v σ H' hi ⟨sm, m, rfl⟩
    obtain ⟨y, hy, rfl⟩ : ∃ y, y ∈ xs ∧ v = .str y := by
      obtain ⟨y, hy, e⟩ := List.mem_map.mp (List.mem_of_getElem? hi)
      exact ⟨y, hy, e.symm⟩
    have nm := nmAt y hy
    have cl : Cl K H' (.str y) := by
      have e : y = txt y.cps.toList := txt_of y
      rw [e]
      exact .str _ (Nat.le_trans (isNm_len nm) (by decide))
    refine ⟨_, rfl, .str y, rfl, cl, fun H2 s2 => ⟨_, rfl, ?_⟩⟩
    have nm' : nameV (.str y) = true := nm
    rw [nm']
    exact ⟨fun b o q => s2 _ _ (sm _ _ q), some (.str y), rfl⟩
  · rintro σ H1 ⟨sm, m, rfl⟩
    refine ⟨_, rfl, p, xs, rfl, .inl (SqT.of (sm _ _ hp)), by omega, fun b ks hb mem nd le => ?_⟩
    refine ⟨b, ks, rfl, upd_same, by omega, fun ys d pm srt hd => ?_⟩
    have srtd : Srt xs ys := ⟨pm.nodup_iff.mpr nd, srt, fun y => pm.mem_iff.trans (mem y)⟩
    have l4 := most ys srtd
    obtain ⟨H2, eH⟩ : ∃ H2, H2 = upd (upd H1 b (LB.BagO w b ks)) d (.lst (ys.map V.str)) := ⟨_, rfl⟩
    have sm2 : Same H H2 := fun c o q => by
      rw [eH, upd_ne (ne_of_none (by rw [upd_ne (ne_of_none (sm _ _ q) hb)]; exact sm _ _ q) hd), upd_ne (ne_of_none (sm _ _ q) hb)]
      exact sm _ _ q
    have hL : H2 d = some (.lst (ys.map V.str)) := by rw [eH, upd_same]
    suffices z : ∀ F : Hp → Prop, F H2 → F (upd (upd H1 b (LB.BagO w b ks)) d (.lst (ys.map V.str))) by
      refine z _ ?_
      clear z
      clear eH
      dsimp only
      refine ⟨_, rfl, d, _, rfl, .inl (SqL.of hL), C, mc, _, _, rfl, rd, cv, _, _, rfl, rfl, _, rfl, ?_⟩
      rw [List.length_map]
      have no : ¬ (decide ((4 : Int) < (ys.length : Int)) = true) := fun z => by have := of_decide_eq_true z; omega
      show if decide ((4 : Int) < (ys.length : Int)) = true then _ else _
      rw [if_neg no]
      refine ⟨_, rfl, d, _, rfl, .inl ⟨SqL.of hL, fun t ht => ?_⟩⟩
      have hx2 := sm2 _ _ hx
      have nx : x ≠ t := ne_of_none hx2 ht
      have nd2 : d ≠ t := ne_of_none hL ht
      have xd : d ≠ x := ne_of hL hx2 (by intro z; cases z)
      refine ⟨_, rfl, x, C, dx, [], rfl, by rw [upd_ne nx]; exact hx2, L.cl, L.n1, by decide, ?_⟩
      have hL3 : (upd (upd H2 t (.tup (ys.map V.str))) x (.ins C dx (putF "_marks" (.ref t) []))) d = some (.lst (ys.map V.str)) := by
        rw [upd_ne xd, upd_ne nd2]
        exact hL
      have lens : (ys.map (·.length)).sum + ys.length * plus.length ≤ 16777216 := by
        have each : ∀ zs : List Str, (∀ y ∈ zs, y.length ≤ 8) → (zs.map (·.length)).sum ≤ 8 * zs.length := fun zs => by
          induction zs with
          | nil => intro _; decide
          | cons z zs ih =>
            intro hz
            have a := hz z List.mem_cons_self
            have b := ih fun y hy => hz y (List.mem_cons_of_mem _ hy)
            rw [List.map_cons, List.sum_cons, List.length_cons]
            omega
        have a := each ys fun y hy => by
          have := isNm_len (nmAt y ((srtd.2.2 y).mp hy))
          rw [txt_of y, txt_len]
          exact this
        have b : plus.length = 1 := by decide +kernel
        rw [b]
        omega
      have jl : (Txt.join plus ys).length ≤ 16777216 := by
        rw [join_is]
        exact Nat.le_trans (join_len plus ys) lens
      refine ⟨⟨_, rfl⟩, _, rfl, plus, d, ys, rfl, rfl, .inl (SqL.of hL3), lens, ?_⟩
      refine ⟨_, ⟨by rw [hsl]; exact jl, rfl⟩, ?_⟩
      have fin : ∀ z : Str, z = ltext ys → Q .non (upd (upd (upd H2 t (.tup (ys.map V.str))) x (.ins C dx (putF "_marks" (.ref t) []))) x (.ins C dx (putF "_text" (.str z) (putF "_marks" (.ref t) [])))) := fun z hz => by
        subst hz
        refine k _ t ys srtd (fun c o nc q => ?_) ?_ ?_
        · rw [upd_ne nc, upd_ne nc, upd_ne (ne_of_none (sm2 _ _ q) ht)]
          exact sm2 _ _ q
        · rw [upd_same, putF2]
        · rw [upd_ne (Ne.symm nx), upd_ne (Ne.symm nx), upd_same]
      refine ite2 (fun h => ?_) (fun h => ?_)
      · refine ⟨_, rfl, x, C, dx, _, rfl, upd_same, L.cl, L.n2, (by show 1 < 1000; decide), fin _ (if_neg fun z => ?_).symm⟩
        rw [z] at h
        cases h
      · refine ⟨_, rfl, x, C, dx, _, rfl, upd_same, L.cl, L.n2, (by show 1 < 1000; decide), fin _ (if_pos ?_).symm⟩
        have h2 : ((Txt.join plus ys).length : Int) = 0 := by simpa using h
        omega
    intro F h; rw [← eH]; exact h
end
end K11
namespace K11
open PySem L2
/-- a label at a, of the sorted marks ys -/
def Lb (C : Addr) (H : Hp) (a : Addr) (ys : List Str) : Prop := ys.all isNm = true ∧ ys.length ≤ 4 ∧ ∃ dx t, H a = some (.ins C dx [(("_marks" : Str), .ref t), (("_text" : Str), .str (ltext ys))]) ∧ H t = some (.tup (ys.map V.str))
theorem Lb.keep {C : Addr} {H H' : Hp} {a : Addr} {ys : List Str} (h : Lb C H a ys) (s : ∀ b o, H b = some o → (∃ xs, o = .tup xs) ∨ (∃ D dx fs, o = .ins D dx fs) → H' b = some o) : Lb C H' a ys := by
  obtain ⟨n, l, dx, t, h1, h2⟩ := h
  exact ⟨n, l, dx, t, s _ _ h1 (.inr ⟨_, _, _, rfl⟩), s _ _ h2 (.inl ⟨_, rfl⟩)⟩
section
variable {X : Cx} {CX : CXT} {k : Nat} {f C : Addr} {sp : Sp} {E : XK} {x : Str} {p pos : Pos}
theorem pe_makeR0 (M : Mk X.K C f) (F : FnR X.prog X.w X.K X.mg X.base CX k f sp) (hr : Room (k + 1) X.A) (hg : Gl X x) (hm : X.mg x = some (.ref C)) (hx : Passes CX X E) (hd : (x == ("__debug__" : Str)) = false := by decide) :
    PE X (.Call (.Name x p) [] [] pos) (StX.tMakeR C sp E tNil) := ⟨by
  intro pins s σ H Q I h
  apply wpAny_Call_Name_kw (ld_glob I hg hm ?_ hd)
  exact PySem.W.callWith_K0 I.kIn M.kp (StX.run_makeR (us := []) (vs := []) M F hr hx I .nil h)⟩
theorem call_reprS : CallR X (.builtin "repr") (fun xs H Q => ∃ y : Str, xs = [.str y] ∧ (reprText y).length ≤ sizeLine ∧ Q (.str (reprText y)) H) := by
  rintro pins s σ H xs us Q I r ⟨y, rfl, hz, q⟩
  obtain ⟨u, rfl, t, rfl⟩ := vals1 r
  exact PySem.P.repr_of_str ⟨.str _, H, I.tok _, ⟨_, rfl⟩, q⟩ hz
end
section
variable {P : Program} {w : World} {K : PySem.W.Frag} {mg : Str → Option Value} {base : Heap}
def comma : Str := ", "
def lshow (ys : List Str) : Str := Str.empty ++ "Label(" ++ Txt.join comma (ys.map reprText) ++ ")"
theorem repr_len8 {y : Str} (h : isNm y = true) : (reprText y).length ≤ 82 := by
  have l8 := isNm_len h
  have lo : y.cps.toList.all low = true := (Bool.and_eq_true_iff.mp (Bool.and_eq_true_iff.mp h).2).2
  have e := StrLaws.reprText_len (txt y.cps.toList) (fun c hc => by
    have z := Bool.and_eq_true_iff.mp (List.all_eq_true.mp lo c hc)
    have := of_decide_eq_true z.2
    omega)
  rw [← txt_of y] at e
  have e2 : y.length = y.cps.toList.length := by rw [txt_of y, txt_len]; rfl
  omega
def spRepr (C : Addr) : Sp := fun vs H Q _ => ∃ (a : Addr) (ys : List Str), vs = [.ref a] ∧ Lb C H a ys ∧ ∀ H', Same H H' → Q (.str (lshow ys)) H'
theorem scRe : FnScope ["self", "mark"] ["self"] (defScope sRepr) := ⟨rfl, rfl, rfl, by decide +kernel, rfl, by decide +kernel, by decide +kernel⟩
theorem ok_repr {C f g : Addr} {fd gd : FuncData} (L : LabC K mg C f g fd gd) (Z : Zn mg) : FnOk P w K mg base CX0 1 g gd ["self"] (spRepr C) := by
  refine L.R.ok scRe (fun vs H Q E h => ?_) (fun cdv A outer_ s H vs Q E hr h => ?_)
  · obtain ⟨a, ys, rfl, _⟩ := h
    rfl
  · obtain ⟨a, ys, rfl, ⟨nms, l4, dx, t, ha, ht⟩, k⟩ := h
    refine ⟨_, pss_one (ps_ret (pe_joined (PJ.cons pe_str (PJ.cons (pe_fmt (pe_join pe_str (pe_lc (own := [("mark", 1)]) (g := gName 1) (tt := tYes) rfl scRe.nd (pi_tup (pe_fld (pv 0) rfl))
      (blkOk_by (N := ["self", "mark"]) (sc := defScope sRepr) (by decide +kernel)) (fun _ _ _ _ _ => pg_name (i := 1) scRe.nd rfl (Or.inl rfl)) (fun _ _ _ _ _ => pts_nil)
      (fun _ _ _ _ _ => pe_callB call_reprS (by rfl) Z.zRepr (by decide +kernel) (pa_cons (pv 1) pa_nil))))) (PJ.cons pe_str PJ.nil))))), ?_⟩
    have hsl : sizeLine = 16777216 := sizeLine_eq
    have nmAt : ∀ y ∈ ys, isNm y = true := fun y hy => List.all_eq_true.mp nms y hy
    refine ⟨_, rfl, by decide +kernel, ?_⟩
    refine ⟨⟨_, rfl⟩, _, rfl, a, C, dx, _, .ref t, rfl, ha, L.cl, L.n1, rfl, t, rfl, ⟨_, SqT.of ht⟩, fun D hD => ?_⟩
    refine lc_tup (xs := ys.map V.str) (fun i H' => Same H H' ∧ H' D = some (.lst (((ys.map reprText).take i).map V.str))) ⟨same_upd hD, upd_same⟩ (fun i H' _ q => SqT.of (q.1 _ _ ht)) ?_ ?_
    · rintro i v H1 hv ⟨sm, hL⟩
      rw [List.getElem?_map] at hv
      obtain ⟨y, hy, rfl⟩ := Option.map_eq_some_iff.mp hv
      have l82 := repr_len8 (nmAt y (List.mem_of_getElem? hy))
      refine ⟨rfl, _, rfl, y, rfl, by omega, _, hL, ?_, fun b o q => ?_, ?_⟩
      · rw [List.length_map, List.length_take, List.length_map]
        omega
      · rw [upd_ne (ne_of_none q hD)]
        exact sm b o q
      · rw [upd_same, take_snoc (x := reprText y) (by rw [List.getElem?_map, hy]; rfl), List.map_append]
        rfl
    · rintro H1 ⟨sm, hL⟩
      rw [List.length_map, List.take_of_length_le (by rw [List.length_map]; exact Nat.le_refl _)] at hL
      have lens : ((ys.map reprText).map (·.length)).sum + (ys.map reprText).length * comma.length ≤ 1000 := by
        have each : ∀ zs : List Str, (∀ y ∈ zs, isNm y = true) → ((zs.map reprText).map (·.length)).sum ≤ 82 * zs.length := fun zs => by
          induction zs with
          | nil => intro _; decide
          | cons z zs ih =>
            intro hz
            have a := repr_len8 (hz z List.mem_cons_self)
            have b := ih fun y hy => hz y (List.mem_cons_of_mem _ hy)
            rw [List.map_cons, List.map_cons, List.sum_cons, List.length_cons]
            omega
        have a := each ys nmAt
        have b : comma.length = 2 := by decide +kernel
        rw [b, List.length_map]
        omega
      have jl : (Txt.join comma (ys.map reprText)).length ≤ 1000 := by
        rw [join_is]
        exact Nat.le_trans (join_len comma _) lens
      have jl' : (Txt.join (", " : Str) (ys.map reprText)).length ≤ 1000 := jl
      have e7 : ("Label(" : Str).length = 6 := by decide +kernel
      have e8 : (")" : Str).length = 1 := by decide +kernel
      refine ⟨_, D, ys.map reprText, rfl, rfl, .inl (SqL.of hL), by exact Nat.le_trans lens (by decide), .inl ⟨_, rfl, by omega, _, rfl, ?_, _, rfl, ?_, k _ sm⟩⟩
      · rw [strLen_append, strLen_append, e7]
        show 0 + 6 + _ ≤ _
        omega
      · rw [strLen_append, strLen_append, strLen_append, e7, e8]
        show 0 + 6 + _ + 1 ≤ _
        omega
end
end K11
namespace K11
open PySem L2
/-! ### repr of a list that holds instances with a __repr__ of their own -/
/-- no data stands at a -/
def NoRd (h : Heap) (a : Addr) : Prop := ∀ d as, ¬ Reads h (.ref a) d as
/-- how v is shown while the list at a is -/
def Shows (X : Cx) (a : Addr) (v : V) (H : Hp) (t : Str) : Prop := t.length ≤ sizeLine ∧
  ∀ (A : Around) (g : List Code) (pins : List (Addr × Obj)) (σ : St) (s : Shared) (H1 : Hp) (u : Value) (base : Nat) (E : Value → Shared → Prop), Sub X 3 A → A.guards = some g → (∀ b, b ≠ a → Clear g b) → Inv X pins σ H1 s → Ext H H1 → NoRd s.heap a → RelV v u → base + t.length ≤ sizeLine →
    wpAny (model X.prog X.w) A (pyReprUnder base u) (fun r s' => r = t ∧ ∃ H2, Inv X pins σ H2 s' ∧ Ext H1 H2) E s
section
variable {X : Cx} {C g : Addr} {gd : FuncData}
/-- an instance -/
theorem shows_ins {sp : Sp} {a p : Addr} {H : Hp} {t : Str} (F : FnOk X.prog X.w X.K X.mg X.base CX0 1 g gd ["self"] sp) (hb : Binds X.K gd ["self"] []) (rg : PySem.W.findIn X.K (.ref C) "__repr__" = some (some (.ref g))) (fg : PySem.W.isFn X.K (.ref g) = true)
    (tl : t.length ≤ sizeLine) (ins : ∀ H1, Ext H H1 → ∃ dx fs, H1 p = some (.ins C dx fs)) (hs : ∀ H1, Ext H H1 → sp [.ref p] H1 (fun v H' => v = .str t ∧ Ext H1 H') E0) : Shows X a (.ref p) H t := by
  refine ⟨tl, fun A gs pins σ s H1 u base E sb gd cl I ex nr ru fit => ?_⟩
  obtain rfl : u = Value.ref p := ru
  obtain ⟨dx, fs, hp⟩ := ins H1 ex
  obtain ⟨mA, O, _⟩ := ins_get I.hok hp
  obtain ⟨od, J, _⟩ := O.look
  have ty : PySem.W.Looks (model X.prog X.w) s.heap (specialOf (.ref p) "__repr__") (some (.ref g)) := J.type.andThen (PySem.W.looks_findIn I.kIn rg)
  have e0 : Env0 X.prog X.w X.K X.mg X.base A X.stack s H1 := by
    have e := I.env0
    exact ⟨by rw [sb.fr]; exact e.frames, e.mod, e.bs, e.bsz, e.funs, e.frf, e.hok, e.bare⟩
  have run : wpAny (model X.prog X.w) A (call (.ref g) [.ref p]) (fun v s' => (∃ k, v = .str t k) ∧ ∃ H2, Inv X pins σ H2 s' ∧ Ext H1 H2) E s := by
    apply wpAny_call
    refine codeAny_mono (F.run A X.stack s H1 ⟨[.ref p], []⟩ [.ref p] [.ref p] _ E0 (sb.room.mono (by decide)) e0 (by simpa using hb s [.ref p] I.kIn rfl) (.cons rfl .nil) (hs H1 ex)) fun r s' hq => ?_
    cases r with
    | error e => exact hq.elim
    | ok fl =>
      cases fl with
      | next => exact hq.elim
      | brk => exact hq.elim
      | cont => exact hq.elim
      | ret w =>
        obtain ⟨z, H2, I2, rz, ez, ex2⟩ := I.after hq
        subst ez
        exact ⟨rz, H2, I2, ex2⟩
  apply wpAny_pyReprUnder_ref (by omega)
  unfold pyReprObjUnder pyReprObjBy
  apply wpAny_bind
  apply wpAny_cRoomFor sb.room.units0
  apply wpAny_bind
  refine ty.here ?_
  have fin : wpAny (model X.prog X.w) A (call (.ref g) ([.ref p] ++ []) >>= fun v => pure (some v)) (fun r s' => ∃ k, r = some (.str t k) ∧ ∃ H2, Inv X pins σ H2 s' ∧ Ext H1 H2) E s :=
    wpAny_bind (wpAny_mono run (fun v s' ⟨⟨k, e⟩, q⟩ => wpAny_pure ⟨k, by rw [e], q⟩) fun _ _ z => z)
  have bf := PySem.W.bind_fn (M := model X.prog X.w) I.kIn (.ref p) (beq_iff_eq.mp fg)
  simp only [Option.isNone_some, Bool.false_eq_true, if_false]
  apply wpAny_bind
  have one : wpAny (model X.prog X.w) A (callSpecialIfBoundBy? (fun g first => match reprUnder? g, first with
      | some twin, [self] => call twin [self, rawInt base]
      | _, _ => call g (first ++ [])) (.ref p) "__repr__") (fun r s' => ∃ k, r = some (.str t k) ∧ ∃ H2, Inv X pins σ H2 s' ∧ Ext H1 H2) E s := by
    simp only [callSpecialIfBoundBy?, bindSpecialIfBound?]
    apply wpAny_holding
    apply wpAny_bind
    apply wpAny_bind
    refine ty.here ?_
    apply wpAny_bind
    apply wpAny_askSetting
    apply wpAny_ite
    split
    · exact wpAny_bind (bf.here (wpAny_pure (by exact fin)))
    · exact wpAny_tryCatch (wpAny_bind (bf.here (wpAny_pure (by exact fin))))
  refine wpAny_mono one (fun r s' ⟨k, e, q⟩ => ?_) fun _ _ z => z
  subst e
  exact wpAny_bind (wpAny_isInstance (T := "str") (b := true) rfl isSubtype_str_str (wpAny_pure ⟨t, k, rfl, rfl, q⟩))
/-- data -/
theorem shows_dat {a : Addr} {v : V} {H : Hp} {d : PyData} (sh : Sho d) (rd : ∀ (pins : List (Addr × Obj)) (σ : St) (H1 : Hp) (s : Shared) (u : Value), Inv X pins σ H1 s → Ext H H1 → RelV v u → ∃ as, Reads s.heap u d as ∧ (d.hasDict = true → sysModules ∉ as)) : Shows X a v H d.shown := by
  have s1 := sh.1
  have s2 := sh.fits
  have s3 := sh.2.2
  refine ⟨s2, fun A gs pins σ s H1 u base E sb gd cl I ex nr ru fit => ?_⟩
  obtain ⟨as, r, hm⟩ := rd pins σ H1 s u I ex ru
  obtain ⟨bs, low, rk⟩ := ReprK.of_reads (prog := X.prog) (w := X.w) r s1 hm s2
  have room := sb.room.un
  exact rk base fit A gs E s _ gd (fun b hb => cl b fun e => by
    obtain ⟨d2, as2, r2, _⟩ := low b hb
    rw [e] at r2
    exact nr _ _ r2) (by omega) (fun _ _ e => e) fun h' tk k => ⟨rfl, H1, I.kept k, Ext.rfl'⟩
/-! ### the loop of list.__repr__ -/
abbrev partsO (acc : Array Value) (c : Nat) : Obj := { cls := .type "list", dict := none, data := .seq acc c, slots := #[] }
theorem fp_at {pins : List (Addr × Obj)} {H H1 : Hp} {q : Addr} (f : FpOk X pins H q) (n : H1 q = none) : FpOk X pins H1 q := ⟨n, f.2⟩
theorem loop_shows {A : Around} {a q : Addr} {vs : List V} {ts : List Str} {H : Hp} {pins : List (Addr × Obj)} {σ : St} {R : Result → Shared → Prop} (ne : a ≠ q) (fp : FpOk X pins H q) (sb : Sub X 4 A) (gd : A.guards = some []) (lens : ts.length = vs.length) (fit : (listText ts).length ≤ sizeLine)
    (sh : ∀ (i : Nat) (v : V) (t : Str), vs[i]? = some v → ts[i]? = some t → Shows X a v H t) (src : H a = some (.lst vs)) (nr : ∀ pins H1 s, Inv X pins σ H1 s → Ext H H1 → NoRd s.heap a)
    (fin : ∀ u s' H2, Inv X pins σ H2 s' → Ext H H2 → R (.ok (.ret (.str (listText ts) u))) s') : ∀ (left i : Nat) (s : Shared) (H1 : Hp) (acc : Array Value) (c : Nat) (done : List (Str × Tok)), vs.length - i = left → i ≤ vs.length →
      Inv X ((q, partsO acc c) :: pins) σ H1 s → Ext H H1 → acc.toList = strValues done → done.map (·.1) = ts.take i → codeAny (model X.prog X.w) A (.builtin "list.__repr__.loop" ⟨[.ref a, rawInt i, .ref q, rawInt ((piled (ts.take i) : Nat) : Int)], []⟩) R s := by
  have px := piled_le_listText ts
  have len1 : ∀ t ∈ ts, t.length ≤ sizeLine := fun t ht => Nat.le_trans (listText_mem_le ht) fit
  intro left
  induction left with
  | zero =>
    intro i s H1 acc c done e1 e2 I ex ea ed
    have ei : i = vs.length := by omega
    obtain ⟨lim, its, n, rv, il, at_⟩ := I.lstM (ex _ _ src)
    have pq := ClX.pin_at I
    apply codeAny_builtin F.entry_list_repr_loop
    show wpAny _ _ (Builtin.«list.__repr__.loop» ⟨[.ref a, .int i 0, .ref q, .int ((piled (ts.take i) : Nat) : Int) 0], []⟩) _ _ s
    rw [repr_loop_tree]
    apply wpAny_bind
    apply wpAny_listItems at_ rfl
    have over : its.toArray[(i : Int).toNat]? = none := by simp [ei, il]
    simp only [over]
    unfold reprEnd
    apply wpAny_bind
    apply wpAny_listItems pq rfl
    rw [ea, repr_fold]
    apply wpAny_bind
    apply wpAny_pure
    have whole : done.map (·.1) = ts := by rw [ed, ei, ← lens, List.take_length]
    rw [whole]
    apply wpAny_bind
    refine wpAny_mkStr (wpAny_pure ?_) fit
    exact fin _ _ H1 ((ClX.unpin I).tok _) ex
  | succ left ih =>
    intro i s H1 acc c done e1 e2 I ex ea ed
    have lt : i < vs.length := by omega
    obtain ⟨lim, its, n, rv, il, at_⟩ := I.lstM (ex _ _ src)
    obtain ⟨t, ht⟩ : ∃ t, ts[i]? = some t := ⟨ts[i]'(by omega), List.getElem?_eq_getElem _⟩
    obtain ⟨u, hu, ru⟩ := rv.get (List.getElem?_eq_getElem lt)
    obtain ⟨tl, one⟩ := sh i vs[i] t (List.getElem?_eq_getElem lt) ht
    have p1 := piled_take_succ ht
    have p2 := piled_take_le ts (i + 1)
    apply codeAny_builtin F.entry_list_repr_loop
    show wpAny _ _ (Builtin.«list.__repr__.loop» ⟨[.ref a, .int i 0, .ref q, .int ((piled (ts.take i) : Nat) : Int) 0], []⟩) _ _ s
    rw [repr_loop_tree]
    apply wpAny_bind
    apply wpAny_listItems at_ rfl
    have here : its.toArray[(i : Int).toNat]? = some u := by simpa using hu
    simp only [here]
    rw [Int.toNat_natCast]
    apply wpAny_bind
    apply wpAny_holding
    have sb2 : Sub X 3 (A.under (.builtin "list.__repr__.loop" ⟨[.ref a, .int i 0, .ref q, .int ((piled (ts.take i) : Nat) : Int) 0], []⟩)) := by
      have e := sb.room
      have un := e.un
      have dp := e.dp
      have un2 := units_under_list_loop A ⟨[.ref a, .int i 0, .ref q, .int ((piled (ts.take i) : Nat) : Int) 0], []⟩
      refine ⟨⟨?_, ?_, by omega⟩, ?_⟩
      · simpa [Around.under] using e.hd
      · have wt : (Code.builtin "list.__repr__.loop" ⟨[.ref a, .int i 0, .ref q, .int ((piled (ts.take i) : Nat) : Int) 0], []⟩).weight ≤ 1 := by
          unfold Code.weight
          rw [isGuard_list_loop]
          first | exact Nat.le_refl 1 | simp [Code.frames, Code.isFrame, Code.isCreation, Code.isCaller]
        have : (A.under (.builtin "list.__repr__.loop" ⟨[.ref a, .int i 0, .ref q, .int ((piled (ts.take i) : Nat) : Int) 0], []⟩)).depth ≤ A.depth + 1 := by
          simp only [Around.under]
          omega
        omega
      · have fr := sb.fr
        first | exact fr | (simpa [Around.under, Code.envs, Code.isFrame, pushEnvs] using fr)
    refine wpAny_mono (one _ _ _ σ s H1 u (piled (ts.take i) + 1) _ sb2 (guards_under_guard (isGuard_list_loop _) gd) (fun b hb => (Clear.nil b).cons (Ne.symm hb)) I ex (nr _ _ _ I ex) ru (by omega)) (fun r s1 ⟨er, H2, I2, ex2⟩ => ?_) fun _ _ z => z
    subst er
    apply wpAny_bind
    refine wpAny_mkStr ?_ tl
    apply wpAny_bind
    show wpAny _ _ (updateSeq q _) _ _ _
    have pq := ClX.pin_at I2
    have al : acc.size = i := by
      have q1 : acc.toList.length = acc.size := by simp
      have q2 : (strValues done).length = done.length := by simp [strValues]
      have q3 : done.length = (ts.take i).length := by rw [← ed, List.length_map]
      have q4 : (ts.take i).length = i := by rw [List.length_take]; omega
      rw [ea] at q1
      omega
    refine wpAny_updateSeq pq rfl ?_ (by omega) (by rw [Array.size_push]; omega)
    apply wpAny_pure
    refine ⟨F.quiet_list_repr_loop _, ?_⟩
    have c1 : ((i : Int) + 1) = ((i + 1 : Nat) : Int) := by omega
    have c2 : piled (ts.take i) + (r.length + 2) = piled (ts.take (i + 1)) := p1.symm
    rw [c1, c2]
    have f2 : FpOk X pins H2 q := fp_at fp (ClX.pin_un I2)
    have J := ((ClX.unpin I2).turned (t' := s1.toks + 1) (h' := s1.heap.update q (Obj.mapSeq (·.push (.str r s1.toks)))) (fun b o nb e => (Heap.get?_update_other _ _ (Ne.symm nb)).trans e) f2.1 f2.2.1 f2.2.2.2.1 f2.2.2.2.2.1 f2.2.2.2.2.2)
    obtain ⟨c2, at2⟩ : ∃ c2, (s1.heap.update q (Obj.mapSeq (·.push (.str r s1.toks)))).get? q = some (partsO (acc.push (.str r s1.toks)) c2) := ⟨_, Heap.get?_update_self _ pq rfl⟩
    have J2 : Inv X ((q, partsO (acc.push (.str r s1.toks)) c2) :: pins) σ H2 { s1 with heap := s1.heap.update q (Obj.mapSeq (·.push (.str r s1.toks))), toks := s1.toks + 1 } := J.pins_of fun p hp => by
      rcases List.mem_cons.mp hp with e | e
      · subst e
        exact ⟨at2, f2.1, f2.2.1, f2.2.2.1, fun v z => nomatch z⟩
      · exact J.pin p (List.mem_append_right _ e)
    exact ih (i + 1) _ H2 _ _ (done ++ [(r, s1.toks)]) (by omega) lt J2 (ex.trans ex2) (by simp [ea, strValues]) (by rw [List.map_append, ed, take_snoc ht]; rfl)
end
end K11
namespace K11
open PySem L2
theorem all_read {h : Heap} : ∀ {us : List Value} {ds : List PyData} {as : List Addr}, ReadsAll h us ds as → ∀ u ∈ us, ∃ d as', Reads h u d as'
  | _, _, _, .nil, u, m => by cases m
  | _, _, _, .cons r rs, u, m => by
    rcases List.mem_cons.mp m with e | m
    · subst e
      exact ⟨_, _, r⟩
    · exact all_read rs u m
section
variable {X : Cx}
/-- a list that holds an instance is no data -/
theorem noRd_list {pins : List (Addr × Obj)} {σ : St} {H : Hp} {s : Shared} {a p D dx : Addr} {fs : List (Str × V)} {vs : List V} (I : Inv X pins σ H s) (ha : H a = some (.lst vs)) (hv : V.ref p ∈ vs) (hp : H p = some (.ins D dx fs)) : NoRd s.heap a := by
  intro d as r
  obtain ⟨_, its, n, rv, _, at_⟩ := I.lstM ha
  obtain ⟨i, hi⟩ := List.mem_iff_getElem?.mp hv
  obtain ⟨u, hu, ru⟩ := rv.get hi
  obtain rfl : u = Value.ref p := ru
  obtain ⟨mA, O, _⟩ := ins_get I.hok hp
  obtain ⟨od, J, _⟩ := O.look
  cases r with
  | list h1 h2 h3 h4 =>
    rw [at_] at h1
    cases h1
    cases h3
    obtain ⟨d2, as2, r2⟩ := all_read h4 (.ref p) (by simpa using List.mem_of_getElem? hu)
    have at2 := J.at_
    have cls2 := J.cls
    cases r2 with
    | list g1 g2 _ _ =>
      rw [at2] at g1
      cases g1
      rw [cls2] at g2
      cases g2
    | tuple g1 g2 _ _ =>
      rw [at2] at g1
      cases g1
      rw [cls2] at g2
      cases g2
    | dict g1 g2 _ _ _ =>
      rw [at2] at g1
      cases g1
      rw [cls2] at g2
      cases g2
  | tuple h1 h2 _ _ =>
    rw [at_] at h1
    cases h1
    injection h2 with z
    exact absurd z (by decide)
  | dict h1 h2 _ _ _ =>
    rw [at_] at h1
    cases h1
    injection h2 with z
    exact absurd z (by decide)
/-- repr(a list), an instance among its items, where nothing is being shown -/
def rReprL (X : Cx) : List V → Hp → VK → Prop := fun xs H Q => ∃ (a p D dx : Addr) (fs : List (Str × V)) (vs : List V) (ts : List Str), xs = [.ref a] ∧ H a = some (.lst vs) ∧ V.ref p ∈ vs ∧ H p = some (.ins D dx fs) ∧ ts.length = vs.length ∧ (listText ts).length ≤ sizeLine ∧
  (∀ (i : Nat) (v : V) (t : Str), vs[i]? = some v → ts[i]? = some t → Shows X a v H t) ∧ ∀ H', Ext H H' → Q (.str (listText ts)) H'
theorem call_reprL (hr : Room 6 X.A) (gd : X.A.guards = some []) : CallR X (.builtin "repr") (rReprL X) := by
  rintro pins s σ H xs us Q I r ⟨a, p, D, dx, fs, vs, ts, rfl, ha, hv, hp, lens, fit, sh, k⟩
  rw [Vals.ref1 r]
  obtain ⟨lim, its, n, rv, il, at_⟩ := I.lstM ha
  have un := hr.un
  have dp := hr.dp
  refine call_repr_slot (T := "list") (idr := "list.__repr__") (s := s) (by omega) ⟨_, at_, rfl⟩ F.slot_list_repr.toG ?_
  apply wpAny_call
  refine codeAny_call_builtin F.slot_list_repr.plain F.entry_list_repr (F.slot_list_repr.check _ _ _ _ _ _ _ _ ⟨_, at_, rfl⟩ (F.args_list_repr_1 _) ?_)
  show wpAny _ _ (Builtin.listReprAt 0 ⟨[.ref a], []⟩) _ _ s
  have some_ : its ≠ [] := fun e => by
    rw [e] at il
    have : vs = [] := List.eq_nil_of_length_eq_zero il
    rw [this] at hv
    cases hv
  obtain ⟨x, l, rfl⟩ : ∃ x l, its = x :: l := by
    cases its with
    | nil => exact absurd rfl some_
    | cons x l => exact ⟨x, l, rfl⟩
  refine wpAny_list_repr_head (g := []) gd (fun v rest kw m => nomatch m) at_ rfl ?_
  apply wpAny_bind (m := newList [])
  refine wpAny_newObj_type ?_
  apply wpAny_pure
  refine ⟨F.quiet_list_repr_loop _, ?_⟩
  have fp : FpOk X pins H s.heap.objs.size := I.fpOk (Nat.le_refl _) (I.hok.fresh (Nat.le_refl _))
  have I1 : Inv X ((s.heap.objs.size, partsO #[] 0) :: pins) σ H { s with heap := s.heap.push (partsO #[] 0) } := ClX.pin_new (t' := s.toks) I (fun _ _ e => Heap.get?_push_of_some _ e) (Nat.le_refl _) (Heap.get?_push_size _ rfl) (fun v z => nomatch z)
  have sb : Sub X 4 X.A.in1 := ⟨hr.in1.mono (by decide), rfl⟩
  exact loop_shows (H := H) (vs := vs) (Nat.ne_of_lt (Heap.lt_size at_)) fp sb gd lens fit sh ha (fun pins' H1 s1 J ex => noRd_list J (ex _ _ ha) hv (ex _ _ hp)) (fun u s' H2 J ex => ⟨_, _, rfl, .str (listText ts), H2, J, ⟨_, rfl⟩, k H2 ex⟩) vs.length 0 _ H #[] 0 [] rfl (Nat.zero_le _) I1 Ext.rfl' rfl rfl
end
end K11
namespace K11
open PySem L2
/-! ### drawing -/
theorem lit_letters : Str.ofString "abcdefghijklmnopqrstuvwxyz" = txt abc := by decide +kernel
theorem join_signs : ∀ ts : Tx, Str.join (txt []) (ts.map fun c => txt [c]) = txt ts
  | [] => rfl
  | [c] => rfl
  | c :: u :: r => by
    have ih := join_signs (u :: r)
    show txt [c] ++ txt [] ++ Str.join (txt []) ((u :: r).map fun c => txt [c]) = _
    rw [ih, txt_app, txt_app]
    rfl
theorem join_of (ts : Tx) : Txt.join (txt []) (ts.map fun c => txt [c]) = txt ts := (join_is _ _).trans (join_signs ts)
theorem sum_signs (ts : Tx) : ((ts.map fun c => txt [c]).map (·.length)).sum = ts.length := by
  induction ts with
  | nil => rfl
  | cons t r ih =>
    show (txt [t]).length + ((r.map fun c => txt [c]).map (·.length)).sum = r.length + 1
    rw [ih, txt_len]
    show 1 + r.length = _
    omega
theorem Kp.put {r D : Addr} {H H2 : Hp} {o : HO} (k : Kp r H H2) (hD : H D = none) (n : D ≠ r) : Kp r H (upd H2 D o) :=
  ⟨fun b u hb e => by rw [upd_ne (ne_of_none e hD)]; exact k.1 b u hb e, fun g => by
    obtain ⟨x, y, h, q⟩ := k.2 g
    exact ⟨x, y, by rw [upd_ne (Ne.symm n)]; exact h, q⟩⟩
theorem Rg.ne {H : Hp} {r D : Addr} (g : Rg H r) (h : H D = none) : D ≠ r := by
  obtain ⟨x, y, e, _⟩ := g
  exact (ne_of_none e h).symm
def Acc (p : Nat → Bool) (D : Addr) (H : Hp) (i : Nat) : Prop := ∃ acc : Tx, H D = some (.lst (acc.map fun c => tv [c])) ∧ acc.all p = true ∧ acc.length = i
theorem Acc.nil (p : Nat → Bool) (D : Addr) (H : Hp) : Acc p D (upd H D (.lst [])) 0 := ⟨[], upd_same, rfl, rfl⟩
theorem Acc.more {p : Nat → Bool} {D : Addr} {H2 : Hp} {i c : Nat} {acc : Tx} (h2 : acc.all p = true) (h4 : acc.length = i) (hc : p c = true) : Acc p D (upd H2 D (.lst (acc.map (fun c => tv [c]) ++ [tv [c]]))) (i + 1) :=
  ⟨acc ++ [c], by rw [upd_same, List.map_append]; rfl, by rw [List.all_append, h2]; show (true && (p c && true)) = true; rw [hc]; rfl, by rw [List.length_append, h4]; rfl⟩
theorem strs_of (acc : Tx) : acc.map (fun c => tv [c]) = (acc.map fun c => txt [c]).map V.str := by rw [List.map_map]; rfl
theorem low_asc {l : Tx} (h : l.all low = true) : asc l := fun c hc => by
  have z := Bool.and_eq_true_iff.mp (List.all_eq_true.mp h c hc)
  have := of_decide_eq_true z.2
  omega
section
variable {P : Program} {w : World} {K : PySem.W.Frag} {mg : Str → Option Value} {base : Heap}
/-! ### _law_letters -/
def spLet : Sp := fun vs H Q _ => ∃ (r : Addr) (m : Nat), vs = [.ref r, .int (m : Int)] ∧ Rg H r ∧ m ≤ 50 ∧ ∀ H' l, Kp r H H' → l.all low = true → l.length = m → Q (tv l) H'
theorem scLe : FnScope ["_law_rng_here", "_law_many", "_law_k"] ["_law_rng_here", "_law_many"] (defScope sLetters) := ⟨rfl, rfl, rfl, by decide +kernel, rfl, by decide +kernel, by decide +kernel⟩
theorem ok_let {f fD : Addr} {fd dD : FuncData} (F : Fun K "_law_letters" "_law_letters" sLetters f fd) (B : BEnv mg) (AD : At K mg "_law_draw" sDraw ["_law_rng_here", "_law_many"] fD dD) : FnOk P w K mg base CX0 2 f fd ["_law_rng_here", "_law_many"] spLet := by
  have GD : FnOk P w K mg base CX0 1 fD dD ["_law_rng_here", "_law_many"] spDraw := ok_draw AD.F B
  refine F.ok scLe (fun vs H Q E h => ?_) (fun cdv A outer_ s H vs Q E hr h => ?_)
  · obtain ⟨r, m, rfl, _⟩ := h
    rfl
  · obtain ⟨r, m, rfl, g, hm, k⟩ := h
    refine ⟨_, pss_one (ps_ret (pe_join pe_str (pe_lc (own := [("_law_k", 2)]) (g := gName 2) (tt := tYes) rfl scLe.nd (pi_range1 rfl B.zRange (pa_cons (pv 1) pa_nil))
      (blkOk_by (N := ["_law_rng_here", "_law_many", "_law_k"]) (sc := defScope sLetters) (by decide +kernel)) (fun _ _ _ _ _ => pg_name (i := 2) scLe.nd rfl (Or.inl rfl)) (fun _ _ _ _ _ => pts_nil)
      (fun _ _ _ _ _ => pe_ix ix_str pe_str (pe_call GD hr (by rfl) AD.m AD.F.kp AD.b .nil pass0 (pa_cons (pv 0) (pa_cons pe_int pa_nil))) (fun _ _ => rfl))))), ?_⟩
    rw [lit_nil, lit_letters]
    have hsl : sizeLine = 16777216 := sizeLine_eq
    refine ⟨⟨_, rfl⟩, _, rfl, _, rfl, by omega, by omega, fun D hD => ?_⟩
    have hDr := g.ne hD
    show ∃ W, _
    rw [Int.toNat_natCast]
    refine lc_range (lo := 0) (n := m) (fun i H' => Kp r H H' ∧ Acc low D H' i) ⟨Kp.of_same (same_upd hD), Acc.nil low D H⟩ ?_ ?_
    · rintro i H' hi ⟨ki, acc, hL, h2, h4⟩
      refine ⟨rfl, _, rfl, r, 26, rfl, ki.2 g, by decide, by decide, fun H2 n k2 hn => ?_⟩
      have hv : abc[n]? = some (abc[n]'(by rw [abc_all.2]; exact hn)) := List.getElem?_eq_getElem _
      refine ⟨_, _, _, rfl, rfl, by rw [txt_len, abc_all.2]; omega, atI_nat hv, ?_⟩
      exact ⟨_, k2.1 D _ hDr hL, (by rw [List.length_map, h4]; omega), (ki.trans k2).put hD hDr, Acc.more h2 h4 (List.all_eq_true.mp abc_all.1 _ (List.getElem_mem _))⟩
    · rintro H' ⟨ki, acc, hL, h2, h4⟩
      rw [strs_of] at hL
      refine ⟨_, D, acc.map (fun c => txt [c]), rfl, rfl, .inl (SqL.of hL), ?_, ?_⟩
      · rw [sum_signs, List.length_map, txt_len]
        show acc.length + acc.length * 0 ≤ 16777216
        omega
      · rw [join_of]
        exact k H' acc ki h2 h4
/-! ### _law_digits -/
def spDig : Sp := fun vs H Q _ => ∃ (r : Addr) (m : Nat), vs = [.ref r, .int (m : Int)] ∧ Rg H r ∧ 1 ≤ m ∧ m ≤ 40 ∧ ∀ H' (n : Nat), Kp r H H' → n < 10 ^ m → Q (.int (n : Int)) H'
theorem scDi : FnScope ["_law_rng_here", "_law_many", "_law_found", "_law_k"] ["_law_rng_here", "_law_many"] (defScope sDigits) := ⟨rfl, rfl, rfl, by decide +kernel, rfl, by decide +kernel, by decide +kernel⟩
theorem ok_dig {f fD : Addr} {fd dD : FuncData} (F : Fun K "_law_digits" "_law_digits" sDigits f fd) (B : BEnv mg) (AD : At K mg "_law_draw" sDraw ["_law_rng_here", "_law_many"] fD dD) : FnOk P w K mg base CX0 2 f fd ["_law_rng_here", "_law_many"] spDig := by
  have GD : FnOk P w K mg base CX0 1 fD dD ["_law_rng_here", "_law_many"] spDraw := ok_draw AD.F B
  refine F.ok scDi (fun vs H Q E h => ?_) (fun cdv A outer_ s H vs Q E hr h => ?_)
  · obtain ⟨r, m, rfl, _⟩ := h
    rfl
  · obtain ⟨r, m, rfl, g, h1, hm, k⟩ := h
    refine ⟨_, pss_cons (ps_set (i := 2) scDi.nd rfl (Or.inl rfl) (pe_op op_add pe_int (pe_call GD hr (by rfl) AD.m AD.F.kp AD.b .nil pass0 (pa_cons (pv 0) (pa_cons pe_int pa_nil)))))
      (pss_cons (ps_for PassesOwn.never rfl (pi_range1 rfl B.zRange (pa_cons (pe_op op_sub (pv 1) pe_int) pa_nil)) (pg_name (i := 3) scDi.nd rfl (Or.inl rfl))
        (pss_one (ps_set (i := 2) scDi.nd rfl (Or.inl rfl) (pe_op op_add (pe_op op_mul pe_int (pv 2)) (pe_call GD hr (by rfl) AD.m AD.F.kp AD.b .nil pass0 (pa_cons (pv 0) (pa_cons pe_int pa_nil)))))))
      (pss_one (ps_ret (pv 2)))), ?_⟩
    refine ⟨_, rfl, r, 9, rfl, g, by decide, by decide, fun H1 n0 k1 hn0 => ?_⟩
    refine ⟨_, _, rfl, rfl, ?_⟩
    refine ⟨_, rfl, _, _, rfl, rfl, _, rfl, by omega, by omega, ?_⟩
    have e : ((m : Int) - 1).toNat = m - 1 := by omega
    show ∃ W, _
    rw [e]
    refine for_range (lo := 0) (n := m - 1) (fun i σ H' => Kp r H H' ∧ ∃ (n : Nat) (x : Option V), σ = [some (.ref r), some (.int m), some (.int n), x] ∧ n < 10 ^ (i + 1)) ⟨k1, 1 + n0, none, by show _ = _; rw [Int.natCast_add]; rfl, by omega⟩ ?_ ?_
    · rintro i σ H' hi ⟨ki, n, x, rfl, hn⟩
      refine ⟨_, rfl, _, _, rfl, rfl, .inl ⟨by decide, by decide⟩, _, rfl, r, 10, rfl, ki.2 g, by decide, by decide, fun H2 d k2 hd => ?_⟩
      refine ⟨_, _, rfl, rfl, ki.trans k2, 10 * n + d, some (.int (0 + (i : Int))), ?_, ?_⟩
      · show _ = _
        rw [Int.natCast_add, Int.natCast_mul]
        rfl
      · rw [Nat.pow_succ]
        omega
    · rintro σ H' ⟨ki, n, x, rfl, hn⟩
      refine ⟨_, rfl, k H' n ki ?_⟩
      rw [show m - 1 + 1 = m by omega] at hn
      exact hn
end
end K11
namespace K11
open PySem L2
/-- the drawing defs -/
structure GEnv (K : PySem.W.Frag) (mg : Str → Option Value) (fD fC fL fG fS fN : Addr) (dD dC dL dG dS dN : FuncData) : Prop where
  B : BEnv mg
  D : At K mg "_law_draw" sDraw ["_law_rng_here", "_law_many"] fD dD
  C : At K mg "_law_choice" sChoice ["_law_rng_here", "_law_options"] fC dC
  L : At K mg "_law_letters" sLetters ["_law_rng_here", "_law_many"] fL dL
  G : At K mg "_law_digits" sDigits ["_law_rng_here", "_law_many"] fG dG
  S : At K mg "_law_string" sString ["_law_rng_here"] fS dS
  N : At K mg "_law_number" sNumber ["_law_rng_here"] fN dN
/-- a short text -/
def Sh (x : V) : Prop := ∃ l : Tx, x = tv l ∧ asc l ∧ l.length ≤ 100
def p128 (c : Nat) : Bool := decide (c < 128)
def shortS : V → Bool
  | .str z => (z.cps.toList.all p128) && decide (z.cps.toList.length ≤ 100)
  | _ => false
theorem asc_p {l : Tx} (h : l.all p128 = true) : asc l := fun c hc => of_decide_eq_true (List.all_eq_true.mp h c hc)
theorem shortS_is {x : V} (h : shortS x = true) : Sh x := by
  cases x with
  | str z =>
    obtain ⟨a, b⟩ := Bool.and_eq_true_iff.mp h
    exact ⟨z.cps.toList, congrArg V.str (txt_of z), asc_p a, of_decide_eq_true b⟩
  | _ => cases h
theorem fit2 {x y : Str} (hx : x.length ≤ 100) (hy : y.length ≤ 100) : x.length + y.length ≤ sizeLine := by rw [sizeLine_eq]; omega
def litS (n : Nat) (y : Str) : Bool := (y.cps.toList.all p128) && decide (y.cps.toList.length ≤ n)
theorem litS_is {n : Nat} {y : Str} (h : litS n y = true) : ∃ b : Tx, y = txt b ∧ asc b ∧ b.length ≤ n := by
  obtain ⟨a, b⟩ := Bool.and_eq_true_iff.mp h
  exact ⟨y.cps.toList, txt_of y, asc_p a, of_decide_eq_true b⟩
theorem litS_len {n : Nat} {y : Str} (h : litS n y = true) : y.length ≤ n := by
  obtain ⟨b, rfl, _, hb⟩ := litS_is h
  rw [txt_len]
  exact hb
theorem shL {y : Str} (h : litS 100 y = true) : Sh (.str y) := by
  obtain ⟨b, rfl, h1, h2⟩ := litS_is h
  exact ⟨b, rfl, h1, h2⟩
theorem shR {a : Tx} {y : Str} (ha : asc a) (hl : a.length ≤ 20) (h : litS 60 y = true) : Sh (.str (txt a ++ y)) := by
  obtain ⟨b, rfl, h1, h2⟩ := litS_is h
  exact ⟨a ++ b, by rw [txt_app], asc_app ha h1, by rw [List.length_append]; omega⟩
theorem shF {a : Tx} {y : Str} (ha : asc a) (hl : a.length ≤ 20) (h : litS 60 y = true) : Sh (.str (y ++ txt a)) := by
  obtain ⟨b, rfl, h1, h2⟩ := litS_is h
  exact ⟨b ++ a, by rw [txt_app], asc_app h1 ha, by rw [List.length_append]; omega⟩
theorem shB {a : Tx} {y z : Str} (ha : asc a) (hl : a.length ≤ 20) (h : litS 10 y = true) (h' : litS 10 z = true) : Sh (.str (y ++ txt a ++ z)) := by
  obtain ⟨b, rfl, h1, h2⟩ := litS_is h
  obtain ⟨c, rfl, h3, h4⟩ := litS_is h'
  exact ⟨b ++ a ++ c, by rw [txt_app, txt_app], asc_app (asc_app h1 ha) h3, by rw [List.length_append, List.length_append]; omega⟩
def oneS : V → Bool
  | .str z => litS 1 z
  | _ => false
theorem oneS_is {x : V} (h : oneS x = true) : ∃ b : Tx, x = tv b ∧ asc b ∧ b.length ≤ 1 := by
  cases x with
  | str z =>
    obtain ⟨b, rfl, h1, h2⟩ := litS_is h
    exact ⟨b, rfl, h1, h2⟩
  | _ => cases h
def fewN : V → Bool
  | .int i => decide (0 ≤ i) && decide (i ≤ 62)
  | _ => false
theorem fewN_is {x : V} (h : fewN x = true) : ∃ n : Nat, x = .int (n : Int) ∧ n ≤ 62 := by
  cases x with
  | int i =>
    obtain ⟨a, b⟩ := Bool.and_eq_true_iff.mp h
    have a := of_decide_eq_true a
    have b := of_decide_eq_true b
    exact ⟨i.toNat, congrArg V.int (by omega), by omega⟩
  | _ => cases h
theorem lit_a : Str.ofString "a" = txt [97] := by decide +kernel
def AllS (xs : List V) : Prop := ∀ x ∈ xs, Sh x
theorem AllS.nil : AllS [] := fun _ h => by cases h
theorem AllS.cons {x : V} {xs : List V} (h : Sh x) (t : AllS xs) : AllS (x :: xs) := fun y hy => by
  rcases List.mem_cons.mp hy with e | hy
  · rw [e]; exact h
  · exact t y hy
theorem all_mem {p : V → Bool} {xs : List V} (h : xs.all p = true) {x : V} (hx : x ∈ xs) : p x = true := List.all_eq_true.mp h x hx
section
variable {P : Program} {w : World} {K : PySem.W.Frag} {mg : Str → Option Value} {base : Heap}
variable {fD fC fL fG fS fN : Addr} {dD dC dL dG dS dN : FuncData}
def spStr : Sp := fun vs H Q _ => ∃ r : Addr, vs = [.ref r] ∧ Rg H r ∧ ∀ H' l, Kp r H H' → asc l → l.length ≤ 100 → Q (tv l) H'
theorem scSt : FnScope ["_law_rng_here", "_law_way", "_law_word", "_law_near"] ["_law_rng_here"] (defScope sString) := ⟨rfl, rfl, rfl, by decide +kernel, rfl, by decide +kernel, by decide +kernel⟩
theorem ok_str (G : GEnv K mg fD fC fL fG fS fN dD dC dL dG dS dN) : FnOk P w K mg base CX0 3 fS dS ["_law_rng_here"] spStr := by
  have GD : FnOk P w K mg base CX0 1 fD dD ["_law_rng_here", "_law_many"] spDraw := ok_draw G.D.F G.B
  have GC : FnOk P w K mg base CX0 2 fC dC ["_law_rng_here", "_law_options"] (spChoice K) := ok_choice G.C.F G.B G.D
  have GL : FnOk P w K mg base CX0 2 fL dL ["_law_rng_here", "_law_many"] spLet := ok_let G.L.F G.B G.D
  refine G.S.F.ok scSt (fun vs H Q E h => ?_) (fun cdv A outer_ s H vs Q E hr h => ?_)
  · obtain ⟨r, rfl, _⟩ := h
    rfl
  · obtain ⟨r, rfl, g, k⟩ := h
    have hr1 := hr.mono (j := 1) (by decide)
    refine ⟨_, pss_cons (ps_par (i := 1) (j := 2) rfl scSt.nd rfl rfl (by decide) rfl rfl (pa_cons (pe_call GD hr1 (by rfl) G.D.m G.D.F.kp G.D.b .nil pass0 (pa_cons (pv 0) (pa_cons pe_int pa_nil)))
        (pa_cons (pe_call GL hr (by rfl) G.L.m G.L.F.kp G.L.b .nil pass0 (pa_cons (pv 0) (pa_cons (pe_op op_add pe_int (pe_call GD hr1 (by rfl) G.D.m G.D.F.kp G.D.b .nil pass0 (pa_cons (pv 0) (pa_cons pe_int pa_nil)))) pa_nil))) pa_nil)) rfl)
      (pss_cons (ps_if (pt_cmpR op_eq (pv 1) pe_int (nomark _)) (pss_one (ps_ret (pv 2))) pss_nil)
      (pss_cons (ps_if (pt_cmpR op_eq (pv 1) pe_int (nomark _))
        (pss_cons (ps_set (i := 3) scSt.nd rfl (Or.inl rfl) (pe_lst (pa_cons pe_str (pa_cons (pe_op op_add_str (pv 2) pe_str) (pa_cons (pe_op op_add_str (pv 2) pe_str) (pa_cons (pe_op op_add_str pe_str (pv 2)) (pa_cons (pe_op op_add_str (pv 2) pe_str) (pa_cons (pe_op op_add_str (pv 2) pe_str)
          (pa_cons (pe_op op_add_str (pv 2) pe_str) (pa_cons (pe_op op_add_str (pv 2) pe_str) (pa_cons (pe_op op_add_str pe_str (pv 2)) pa_nil)))))))))))
        (pss_one (ps_ret (pe_call GC hr (by rfl) G.C.m G.C.F.kp G.C.b .nil pass0 (pa_cons (pv 0) (pa_cons (pv 3) pa_nil)))))) pss_nil)
      (pss_cons (ps_if (pt_cmpR op_eq (pv 1) pe_int (nomark _))
        (pss_one (ps_ret (pe_op op_mulS (pe_call GC hr (by rfl) G.C.m G.C.F.kp G.C.b .nil pass0 (pa_cons (pv 0) (pa_cons (pe_lst (pa_cons pe_str (pa_cons pe_str (pa_cons pe_str (pa_cons pe_str (pa_cons pe_str pa_nil)))))) pa_nil)))
          (pe_call GC hr (by rfl) G.C.m G.C.F.kp G.C.b .nil pass0 (pa_cons (pv 0) (pa_cons (pe_lst (pa_cons pe_int (pa_cons pe_int (pa_cons pe_int (pa_cons pe_int (pa_cons pe_int (pa_cons pe_int pa_nil))))))) pa_nil)))))) pss_nil)
      (pss_cons (ps_if (pt_cmpR op_eq (pv 1) pe_int (nomark _))
        (pss_one (ps_ret (pe_call GC hr (by rfl) G.C.m G.C.F.kp G.C.b .nil pass0 (pa_cons (pv 0) (pa_cons (pe_lst (pa_cons pe_str (pa_cons (pe_op op_add_str (pv 2) pe_str) (pa_cons (pe_op op_add_str (pe_op op_add_str pe_str (pv 2)) pe_str) (pa_cons (pe_op op_add_str (pe_op op_mulS pe_str pe_int) pe_str) (pa_cons (pe_op op_add_str (pv 2) pe_str) pa_nil)))))) pa_nil))))) pss_nil)
      (pss_cons (ps_if (pt_cmpR op_eq (pv 1) pe_int (nomark _))
        (pss_one (ps_ret (pe_call GC hr (by rfl) G.C.m G.C.F.kp G.C.b .nil pass0 (pa_cons (pv 0) (pa_cons (pe_lst (pa_cons pe_str (pa_cons pe_str (pa_cons pe_str (pa_cons pe_str (pa_cons pe_str (pa_cons pe_str (pa_cons pe_str (pa_cons pe_str (pa_cons pe_str (pa_cons pe_str pa_nil))))))))))) pa_nil))))) pss_nil)
      (pss_one (ps_ret (pe_op op_add_str (pe_call GL hr (by rfl) G.L.m G.L.F.kp G.L.b .nil pass0 (pa_cons (pv 0) (pa_cons pe_int pa_nil)))
        (pe_call GL hr (by rfl) G.L.m G.L.F.kp G.L.b .nil pass0 (pa_cons (pv 0) (pa_cons (pe_call GD hr1 (by rfl) G.D.m G.D.F.kp G.D.b .nil pass0 (pa_cons (pv 0) (pa_cons pe_int pa_nil))) pa_nil))))))))))), ?_⟩
    refine ⟨_, rfl, r, 6, rfl, g, by decide, by decide, fun H1 w1 k1 hw => ?_⟩
    refine ⟨_, rfl, _, rfl, r, 9, rfl, k1.2 g, by decide, by decide, fun H2 n2 k2 hn2 => ?_⟩
    refine ⟨_, _, rfl, rfl, r, 1 + n2, by show [_, _] = _; rw [Int.natCast_add]; rfl, k2.2 (k1.2 g), by omega, fun H3 l k3 hlow hlen => ?_⟩
    have kp := (k1.trans k2).trans k3
    have g3 := kp.2 g
    have la := low_asc hlow
    have l20 : l.length ≤ 20 := by omega
    have lt : (txt l).length ≤ 100 := by rw [txt_len]; omega
    refine ⟨_, _, rfl, ?_⟩
    refine ⟨_, rfl, rfl, _, rfl, ?_⟩
    refine ite2 (fun _ => ⟨_, rfl, k H3 l kp la (by omega)⟩) (fun _ => ?_)
    refine ⟨_, rfl, rfl, _, rfl, ?_⟩
    refine ite2 (fun _ => ?_) (fun _ => ?_)
    · refine ⟨_, rfl, _, _, rfl, rfl, fit2 lt (by decide), _, rfl, _, _, rfl, rfl, fit2 lt (by decide), _, rfl, _, _, rfl, rfl, fit2 (by decide) lt, _, rfl, _, _, rfl, rfl, fit2 lt (by decide), _, rfl, _, _, rfl, rfl, fit2 lt (by decide), _, rfl, _, _, rfl, rfl, fit2 lt (by decide), _, rfl, _, _, rfl, rfl, fit2 lt (by decide),
        _, rfl, _, _, rfl, rfl, fit2 (by decide) lt, by show 9 ≤ sizeLine; decide, fun o ho => ?_⟩
      have no := g3.ne ho
      have kpo := Kp.of_same (r := r) (same_upd (o := HO.lst [.str "", .str (txt l ++ "A"), .str (txt l ++ "1"), .str (" " ++ txt l), .str (txt l ++ " "), .str (txt l ++ "+b"), .str (txt l ++ ".b"), .str (txt l ++ "-"), .str ("B" ++ txt l)]) ho)
      refine ⟨_, rfl, _, rfl, r, _, rfl, kpo.2 g3, .inl ⟨o, _, rfl, upd_same, no, (fun e => nomatch e), (by show 9 ≤ big; decide), fun H4 x k4 hx => ?_⟩⟩
      obtain ⟨z, rfl, z1, z2⟩ := AllS.cons (shL (by decide +kernel)) (AllS.cons (shR la l20 (by decide +kernel)) (AllS.cons (shR la l20 (by decide +kernel)) (AllS.cons (shF la l20 (by decide +kernel)) (AllS.cons (shR la l20 (by decide +kernel)) (AllS.cons (shR la l20 (by decide +kernel)) (AllS.cons (shR la l20 (by decide +kernel)) (AllS.cons (shR la l20 (by decide +kernel)) (AllS.cons (shF la l20 (by decide +kernel)) AllS.nil)))))))) x hx
      exact k H4 z ((kp.trans kpo).trans k4) z1 z2
    refine ⟨_, rfl, rfl, _, rfl, ?_⟩
    refine ite2 (fun _ => ?_) (fun _ => ?_)
    · refine ⟨_, rfl, by show 5 ≤ sizeLine; decide, fun o ho => ?_⟩
      have kpo := kp.trans (Kp.of_same (r := r) (same_upd (o := HO.lst [.str "a", .str "Z", .str " ", .str "(", .str "0"]) ho))
      refine ⟨r, _, rfl, kpo.2 g, .inl ⟨o, _, rfl, upd_same, g3.ne ho, (fun e => nomatch e), (by decide), fun H4 x k4 hx => ?_⟩⟩
      obtain ⟨b, rfl, b1, b2⟩ := oneS_is (all_mem (by decide +kernel) hx)
      have kp4 := kpo.trans k4
      refine ⟨_, rfl, by show 6 ≤ sizeLine; decide, fun o2 ho2 => ?_⟩
      have kpp := kp4.trans (Kp.of_same (r := r) (same_upd (o := HO.lst [.int 59, .int 60, .int 61, .int 62, .int 8, .int 9]) ho2))
      refine ⟨r, _, rfl, kpp.2 g, .inl ⟨o2, _, rfl, upd_same, (kp4.2 g).ne ho2, (fun e => nomatch e), (by decide), fun H5 y k5 hy => ?_⟩⟩
      obtain ⟨n, rfl, hn⟩ := fewN_is (all_mem (by decide +kernel) hy)
      have m1 : b.length * n ≤ 62 := Nat.le_trans (Nat.mul_le_mul b2 hn) (by decide)
      refine ⟨b, n, rfl, rfl, Nat.le_trans hn (by decide), Nat.le_trans m1 (by decide), ?_⟩
      exact k H5 _ (kpp.trans k5) (asc_rep b1 n) (by rw [rep_len, Nat.mul_comm]; omega)
    refine ⟨_, rfl, rfl, _, rfl, ?_⟩
    refine ite2 (fun _ => ?_) (fun _ => ?_)
    · refine ⟨_, rfl, _, rfl, _, _, rfl, rfl, fit2 lt (by decide), _, rfl, _, _, rfl, rfl, fit2 (by decide) lt, _, _, rfl, rfl, ?_, [97], 59, congrArg V.str lit_a, rfl, by decide, by decide, _, _, rfl, rfl, ?_, _, rfl, _, _, rfl, rfl, fit2 lt (by decide), by show 5 ≤ sizeLine; decide, fun o ho => ?_⟩
      · rw [strLen_append, txt_len, sizeLine_eq]
        have : (Str.ofString "'").length = 1 := by decide +kernel
        omega
      · rw [sizeLine_eq]
        have e1 : (Str.ofString "'").length = 1 := by decide +kernel
        have e2 : (txt (rep 59 [97])).length = 59 := by decide +kernel
        omega
      have kpo := kp.trans (Kp.of_same (r := r) (same_upd (o := HO.lst [.str "'", .str (txt l ++ "'"), .str ("'" ++ txt l ++ "'"), .str (txt (rep 59 [97]) ++ "'"), .str (txt l ++ "''")]) ho))
      refine ⟨r, _, rfl, kpo.2 g, .inl ⟨o, _, rfl, upd_same, g3.ne ho, (fun e => nomatch e), (by show 5 ≤ big; decide), fun H4 x k4 hx => ?_⟩⟩
      obtain ⟨z, rfl, z1, z2⟩ := AllS.cons (shL (by decide +kernel)) (AllS.cons (shR la l20 (by decide +kernel)) (AllS.cons (shB la l20 (by decide +kernel) (by decide +kernel)) (AllS.cons (shL (by decide +kernel)) (AllS.cons (shR la l20 (by decide +kernel)) AllS.nil)))) x hx
      exact k H4 z (kpo.trans k4) z1 z2
    refine ⟨_, rfl, rfl, _, rfl, ?_⟩
    refine ite2 (fun _ => ?_) (fun _ => ?_)
    · refine ⟨_, rfl, by show 10 ≤ sizeLine; decide, fun o ho => ?_⟩
      have kpo := kp.trans (Kp.of_same (r := r) (same_upd (o := HO.lst [.str "true", .str "false", .str "empty", .str "none", .str "gone", .str "0", .str "-1", .str "(none int)", .str "int", .str "text"]) ho))
      refine ⟨r, _, rfl, kpo.2 g, .inl ⟨o, _, rfl, upd_same, g3.ne ho, (fun e => nomatch e), (by decide), fun H4 x k4 hx => ?_⟩⟩
      obtain ⟨z, rfl, z1, z2⟩ := shortS_is (all_mem (by decide +kernel) hx)
      exact k H4 z (kpo.trans k4) z1 z2
    · refine ⟨_, rfl, r, 7, rfl, g3, by decide, fun H4 a k4 a1 a2 => ?_⟩
      have kp4 := kp.trans k4
      refine ⟨_, rfl, _, rfl, r, 3, rfl, kp4.2 g, by decide, by decide, fun H5 n k5 hn => ?_⟩
      refine ⟨r, n, rfl, k5.2 (kp4.2 g), by omega, fun H6 b k6 b1 b2 => ?_⟩
      refine ⟨_, _, rfl, rfl, fit2 (by rw [txt_len]; omega) (by rw [txt_len]; omega), ?_⟩
      have e : (V.str (txt a ++ txt b)) = tv (a ++ b) := by rw [txt_app]
      show Q (V.str (txt a ++ txt b)) H6
      rw [e]
      exact k H6 _ ((kp4.trans k5).trans k6) (asc_app (low_asc a1) (low_asc b1)) (by rw [List.length_append]; omega)
end
end K11
namespace K11
open PySem L2
section
variable {P : Program} {w : World} {K : PySem.W.Frag} {mg : Str → Option Value} {base : Heap}
variable {fD fC fL fG fS fN : Addr} {dD dC dL dG dS dN : FuncData}
/-! ### _law_number -/
def spNum : Sp := fun vs H Q _ => ∃ r : Addr, vs = [.ref r] ∧ Rg H r ∧ ∀ H' i, Kp r H H' → i.natAbs < 10 ^ 41 → Q (.int i) H'
theorem scNu : FnScope ["_law_rng_here", "_law_far", "_law_edge"] ["_law_rng_here"] (defScope sNumber) := ⟨rfl, rfl, rfl, by decide +kernel, rfl, by decide +kernel, by decide +kernel⟩
def digN : V → Bool
  | .int i => decide (1 ≤ i) && decide (i ≤ 40)
  | _ => false
theorem digN_is {x : V} (h : digN x = true) : ∃ n : Nat, x = .int (n : Int) ∧ 1 ≤ n ∧ n ≤ 40 := by
  cases x with
  | int i =>
    obtain ⟨a, b⟩ := Bool.and_eq_true_iff.mp h
    have a := of_decide_eq_true a
    have b := of_decide_eq_true b
    exact ⟨i.toNat, congrArg V.int (by omega), by omega, by omega⟩
  | _ => cases h
def bigN : V → Bool
  | .int i => decide (i.natAbs < 10 ^ 40)
  | _ => false
theorem bigN_is {x : V} (h : bigN x = true) : ∃ i : Int, x = .int i ∧ i.natAbs < 10 ^ 40 := by
  cases x with
  | int i => exact ⟨i, rfl, of_decide_eq_true h⟩
  | _ => cases h
def oneN : V → Bool
  | .int i => decide (i = 1) || decide (i = -1)
  | _ => false
theorem oneN_is {x : V} (h : oneN x = true) : x = .int 1 ∨ x = .int (-1) := by
  cases x with
  | int i =>
    rcases Bool.or_eq_true_iff.mp h with z | z
    · exact .inl (congrArg V.int (of_decide_eq_true z))
    · exact .inr (congrArg V.int (of_decide_eq_true z))
  | _ => cases h
theorem ok_num (G : GEnv K mg fD fC fL fG fS fN dD dC dL dG dS dN) : FnOk P w K mg base CX0 3 fN dN ["_law_rng_here"] spNum := by
  have GD : FnOk P w K mg base CX0 1 fD dD ["_law_rng_here", "_law_many"] spDraw := ok_draw G.D.F G.B
  have GC : FnOk P w K mg base CX0 2 fC dC ["_law_rng_here", "_law_options"] (spChoice K) := ok_choice G.C.F G.B G.D
  have GG : FnOk P w K mg base CX0 2 fG dG ["_law_rng_here", "_law_many"] spDig := ok_dig G.G.F G.B G.D
  refine G.N.F.ok scNu (fun vs H Q E h => ?_) (fun cdv A outer_ s H vs Q E hr h => ?_)
  · obtain ⟨r, rfl, _⟩ := h
    rfl
  · obtain ⟨r, rfl, g, k⟩ := h
    have hr1 := hr.mono (j := 1) (by decide)
    refine ⟨_, pss_cons (ps_set (i := 1) scNu.nd rfl (Or.inl rfl) (pe_call GG hr (by rfl) G.G.m G.G.F.kp G.G.b .nil pass0 (pa_cons (pv 0) (pa_cons (pe_call GC hr (by rfl) G.C.m G.C.F.kp G.C.b .nil pass0 (pa_cons (pv 0) (pa_cons (pe_lst (pa_cons pe_int (pa_cons pe_int (pa_cons pe_int (pa_cons pe_int
        (pa_cons (pe_op op_add pe_int (pe_call GD hr1 (by rfl) G.D.m G.D.F.kp G.D.b .nil pass0 (pa_cons (pv 0) (pa_cons pe_int pa_nil)))) pa_nil)))))) pa_nil))) pa_nil))))
      (pss_cons (ps_set (i := 2) scNu.nd rfl (Or.inl rfl) (pe_call GC hr (by rfl) G.C.m G.C.F.kp G.C.b .nil pass0 (pa_cons (pv 0) (pa_cons (pe_lst (pa_cons (pe_op op_sub (pe_op op_pow pe_int pe_int) pe_int) (pa_cons (pe_op op_pow pe_int pe_int) (pa_cons (pe_op op_sub (pe_op op_pow pe_int pe_int) pe_int) (pa_cons (pe_op op_add (pe_op op_pow pe_int pe_int) pe_int) pa_nil))))) pa_nil))))
      (pss_one (ps_ret (pe_op op_mul (pe_call GC hr (by rfl) G.C.m G.C.F.kp G.C.b .nil pass0 (pa_cons (pv 0) (pa_cons (pe_lst (pa_cons pe_int (pa_cons pe_int (pa_cons pe_int (pa_cons (pv 1) (pa_cons (pv 2) pa_nil)))))) pa_nil)))
        (pe_call GC hr (by rfl) G.C.m G.C.F.kp G.C.b .nil pass0 (pa_cons (pv 0) (pa_cons (pe_lst (pa_cons pe_int (pa_cons pe_int (pa_cons (pe_un un_neg pe_int) pa_nil)))) pa_nil))))))), ?_⟩
    have c1 : CPow 10 30 := ⟨by decide, by decide, by decide⟩
    refine ⟨_, rfl, _, rfl, _, rfl, r, 40, rfl, g, by decide, by decide, fun H1 n k1 hn => ?_⟩
    refine ⟨_, _, rfl, rfl, by show 5 ≤ sizeLine; decide, fun o ho => ?_⟩
    have g1 := k1.2 g
    have ko := k1.trans (Kp.of_same (r := r) (same_upd (o := HO.lst [.int 29, .int 30, .int 31, .int 40, .int (1 + (n : Int))]) ho))
    refine ⟨r, _, rfl, ko.2 g, .inl ⟨o, _, rfl, upd_same, g1.ne ho, (fun e => nomatch e), by show 5 ≤ big; decide, fun H2 x k2 hx => ?_⟩⟩
    have dx : digN x = true := by
      have h4 : ([.int 29, .int 30, .int 31, .int 40] : List V).all digN = true := by decide +kernel
      rcases List.mem_append.mp (show x ∈ ([.int 29, .int 30, .int 31, .int 40] : List V) ++ [.int (1 + (n : Int))] from hx) with z | z
      · exact all_mem h4 z
      · rw [List.mem_singleton.mp z]
        show (decide (1 ≤ 1 + (n : Int)) && decide (1 + (n : Int) ≤ 40)) = true
        rw [decide_eq_true (by omega), decide_eq_true (by omega)]
        rfl
    obtain ⟨m, rfl, m1, m2⟩ := digN_is dx
    have kp2 := ko.trans k2
    refine ⟨r, m, rfl, kp2.2 g, m1, m2, fun H3 far k3 hf => ?_⟩
    have kp3 := kp2.trans k3
    have far40 : far < 10 ^ 40 := Nat.lt_of_lt_of_le hf (Nat.pow_le_pow_right (by decide) m2)
    refine ⟨_, rfl, _, _, rfl, rfl, c1, _, _, rfl, rfl, _, _, rfl, rfl, c1, _, _, rfl, rfl, c1, _, _, rfl, rfl, _, _, rfl, rfl, c1, _, _, rfl, rfl, by show 4 ≤ sizeLine; decide, fun o2 ho2 => ?_⟩
    have g3 := kp3.2 g
    have ko2 := kp3.trans (Kp.of_same (r := r) (same_upd (o := HO.lst [.int (10 ^ (30 : Int).toNat - 1), .int (10 ^ (30 : Int).toNat), .int (10 ^ (30 : Int).toNat - 2), .int (10 ^ (30 : Int).toNat + 1)]) ho2))
    refine ⟨r, _, rfl, ko2.2 g, .inl ⟨o2, _, rfl, upd_same, g3.ne ho2, (fun e => nomatch e), by show 4 ≤ big; decide, fun H4 y k4 hy => ?_⟩⟩
    obtain ⟨ed, rfl, hed⟩ := bigN_is (all_mem (p := bigN) (by decide +kernel) hy)
    have kp4 := ko2.trans k4
    have g4 := kp4.2 g
    refine ⟨_, rfl, _, rfl, _, rfl, by show 5 ≤ sizeLine; decide, fun o3 ho3 => ?_⟩
    have ko3 := kp4.trans (Kp.of_same (r := r) (same_upd (o := HO.lst [.int 0, .int 1, .int 2, .int (far : Int), .int ed]) ho3))
    refine ⟨r, _, rfl, ko3.2 g, .inl ⟨o3, _, rfl, upd_same, g4.ne ho3, (fun e => nomatch e), by show 5 ≤ big; decide, fun H5 z k5 hz => ?_⟩⟩
    have zb : bigN z = true := by
      have h3 : ([.int 0, .int 1, .int 2] : List V).all bigN = true := by decide +kernel
      rcases List.mem_append.mp (show z ∈ ([.int 0, .int 1, .int 2] : List V) ++ [.int (far : Int), .int ed] from hz) with q | q
      · exact all_mem h3 q
      · rcases List.mem_cons.mp q with q | q
        · rw [q]
          exact decide_eq_true (by rw [Int.natAbs_natCast]; exact far40)
        · rw [List.mem_singleton.mp q]
          exact decide_eq_true hed
    obtain ⟨i, rfl, hi⟩ := bigN_is zb
    have kp5 := ko3.trans k5
    have g5 := kp5.2 g
    refine ⟨_, rfl, _, rfl, by show 3 ≤ sizeLine; decide, fun o4 ho4 => ?_⟩
    have ko4 := kp5.trans (Kp.of_same (r := r) (same_upd (o := HO.lst [.int 1, .int 1, .int (-1)]) ho4))
    refine ⟨r, _, rfl, ko4.2 g, .inl ⟨o4, _, rfl, upd_same, g5.ne ho4, (fun e => nomatch e), by show 3 ≤ big; decide, fun H6 u k6 hu => ?_⟩⟩
    have kp6 := ko4.trans k6
    have lift : ∀ j : Int, j.natAbs < 10 ^ 40 → j.natAbs < 10 ^ 41 := fun j hj => Nat.lt_of_lt_of_le hj (by decide)
    rcases oneN_is (all_mem (p := oneN) (by decide +kernel) hu) with e | e
    · rw [e]
      refine ⟨_, _, rfl, rfl, .inr ⟨by decide, by decide⟩, ?_⟩
      have z := k H6 i kp6 (lift i hi)
      show Q (.int (i * 1)) H6
      rw [Int.mul_one]
      exact z
    · rw [e]
      refine ⟨_, _, rfl, rfl, .inr ⟨by decide, by decide⟩, ?_⟩
      have z := k H6 (-i) kp6 (lift (-i) (by rw [Int.natAbs_neg]; exact hi))
      show Q (.int (i * -1)) H6
      rw [Int.mul_neg, Int.mul_one]
      exact z
end
end K11
namespace K11
open PySem L2
/-! ### what the law draws -/
theorem kit_blt {K : PySem.W.Frag} {C : Addr} {T : String} {b : Bool} (m : PySem.W.kitMeta T = true) (s : PySem.W.subIn K (.ref C) (.type T) = some b) : PySem.W.kitOne K (.ref C) (.type T) = some b := by
  unfold PySem.W.kitOne
  rw [if_neg (fun z => by cases z)]
  show (if PySem.W.kitMeta T = true then PySem.W.subIn K (.ref C) (.type T) else none) = some b
  rw [if_pos m]
  exact s
structure LabI (K : PySem.W.Frag) (C : Addr) : Prop where
  cl : Cls K C
  ha : PySem.W.findIn K (.ref C) "__class__" = some (some (.builtin "object.__class__"))
  hn : PySem.W.specialIn K (.builtin "object.__class__") "__get__" = some (some (.builtin "getset_descriptor.__get__"))
  ht : PySem.W.takesIn K (.builtin "object.__class__") = some true
  hm : PySem.W.mroIn K C (.type "object") = some true
  sB : PySem.W.subIn K (.ref C) (.type "bool") = some false
  sI : PySem.W.subIn K (.ref C) (.type "int") = some false
  sS : PySem.W.subIn K (.ref C) (.type "str") = some false
theorem Lb.cl {K : PySem.W.Frag} {C : Addr} {H : Hp} {p : Addr} {ys : List Str} (I : LabI K C) (h : Lb C H p ys) : Cl K H (.ref p) := by
  obtain ⟨_, _, dx, t, e, _⟩ := h
  exact .oth (.base (.ins e I.cl I.ha I.hn I.ht I.hm)) (kit_blt (by decide +kernel) I.sB) (kit_blt (by decide +kernel) I.sI) (kit_blt (by decide +kernel) I.sS)
def tyN : PyData → String
  | .none => "NoneType"
  | .bool _ => "bool"
  | .int _ => "int"
  | .str _ => "str"
  | .list _ => "list"
  | .tuple _ => "tuple"
  | .dict _ => "dict"
theorem Th.ty {K : PySem.W.Frag} {H : Hp} {v : V} {d : PyData} (h : Th K H v d) : TyX K H v (.type (tyN d)) := by
  cases h with
  | non => exact .base .non
  | bl b => exact .base (.bl b)
  | int i => exact .base (.int i)
  | str x => exact .base (.str x)
  | lst e _ _ => exact .base (.lst e)
  | tup e _ _ => exact .base (.tup e)
  | d0 e => exact .base (.dK e)
  | d1 e => exact .base (.dK e)
theorem kits {K : PySem.W.Frag} {T : String} (h : T = "list" ∨ T = "tuple" ∨ T = "dict") : PySem.W.kitOne K (.type T) (.type "bool") = some false ∧ PySem.W.kitOne K (.type T) (.type "int") = some false ∧ PySem.W.kitOne K (.type T) (.type "str") = some false := by
  rcases h with rfl | rfl | rfl
  · exact ⟨kit_ty (r := false) (by decide +kernel), kit_ty (r := false) (by decide +kernel), kit_ty (r := false) (by decide +kernel)⟩
  · exact ⟨kit_ty (r := false) (by decide +kernel), kit_ty (r := false) (by decide +kernel), kit_ty (r := false) (by decide +kernel)⟩
  · exact ⟨kit_ty (r := false) (by decide +kernel), kit_ty (r := false) (by decide +kernel), kit_ty (r := false) (by decide +kernel)⟩
/-- what stands in it is flat -/
def Ft (H : Hp) (v : V) : Prop := ∀ a xs, v = .ref a → (H a = some (.lst xs) ∨ H a = some (.tup xs)) → xs.all flatV = true
theorem Ft.off {H : Hp} {v : V} (h : ∀ a, v ≠ .ref a) : Ft H v := fun a _ e _ => absurd e (h a)
theorem Ft.lst {H : Hp} {a : Addr} {xs : List V} (e : H a = some (.lst xs)) (f : xs.all flatV = true) : Ft H (.ref a) := fun b ys q h => by
  cases q
  rcases h with h | h
  · rw [e] at h
    cases h
    exact f
  · rw [e] at h
    cases h
theorem Ft.tup {H : Hp} {a : Addr} {xs : List V} (e : H a = some (.tup xs)) (f : xs.all flatV = true) : Ft H (.ref a) := fun b ys q h => by
  cases q
  rcases h with h | h
  · rw [e] at h
    cases h
  · rw [e] at h
    cases h
    exact f
theorem Ft.dct {H : Hp} {a : Addr} {kvs : List (Key × V)} (e : H a = some (.dK kvs)) : Ft H (.ref a) := fun b ys q h => by
  cases q
  rcases h with h | h
  · rw [e] at h
    cases h
  · rw [e] at h
    cases h
theorem Ft.keep {K : PySem.W.Frag} {H H' : Hp} {v : V} {d : PyData} (f : Ft H v) (h : Th K H v d) (k : ∀ a o, v = .ref a → H a = some o → H' a = some o) : Ft H' v := by
  cases h with
  | non => exact .off fun _ e => nomatch e
  | bl _ => exact .off fun _ e => nomatch e
  | int _ => exact .off fun _ e => nomatch e
  | str _ => exact .off fun _ e => nomatch e
  | lst e _ _ => exact .lst (k _ _ rfl e) (f _ _ rfl (.inl e))
  | tup e _ _ => exact .tup (k _ _ rfl e) (f _ _ rfl (.inr e))
  | d0 e => exact .dct (k _ _ rfl e)
  | d1 e => exact .dct (k _ _ rfl e)
/-- data that the law draws -/
structure Da (K : PySem.W.Frag) (H : Hp) (r : Addr) (v : V) (d : PyData) : Prop where
  th : Th K H v d
  sh : Sho d
  ne : ∀ a, v = .ref a → a ≠ r
  st : ∀ x, v = .str x → ∃ l : Tx, x = txt l ∧ l.length ≤ 100
  ft : Ft H v
theorem Da.cl {K : PySem.W.Frag} {H : Hp} {r : Addr} {v : V} {d : PyData} (h : Da K H r v d) : Cl K H v := by
  have ty := h.th.ty
  obtain ⟨th, _, _, st, _⟩ := h
  cases th with
  | non => exact .non
  | bl b => exact .bl b
  | int i => exact .int i
  | str x =>
    obtain ⟨l, rfl, hl⟩ := st x rfl
    exact .str l hl
  | lst e _ _ => exact .oth ty (kits (.inl rfl)).1 (kits (.inl rfl)).2.1 (kits (.inl rfl)).2.2
  | tup e _ _ => exact .oth ty (kits (.inr (.inl rfl))).1 (kits (.inr (.inl rfl))).2.1 (kits (.inr (.inl rfl))).2.2
  | d0 e => exact .oth ty (kits (.inr (.inr rfl))).1 (kits (.inr (.inr rfl))).2.1 (kits (.inr (.inr rfl))).2.2
  | d1 e => exact .oth ty (kits (.inr (.inr rfl))).1 (kits (.inr (.inr rfl))).2.1 (kits (.inr (.inr rfl))).2.2
theorem Da.keep {K : PySem.W.Frag} {H H' : Hp} {r : Addr} {v : V} {d : PyData} (h : Da K H r v d) (k : ∀ b o, b ≠ r → H b = some o → H' b = some o) : Da K H' r v d :=
  ⟨h.th.keep fun a o e q => k a o (h.ne a e) q, h.sh, h.ne, h.st, h.ft.keep h.th fun a o e q => k a o (h.ne a e) q⟩
/-- a thing: data, or a label -/
inductive Tg (K : PySem.W.Frag) (C : Addr) (H : Hp) (r : Addr) : V → Prop
  | dat {v : V} {d : PyData} : Da K H r v d → Tg K C H r v
  | lab {p : Addr} {ys : List Str} : Lb C H p ys → Tg K C H r (.ref p)
theorem Tg.cl {K : PySem.W.Frag} {C : Addr} {H : Hp} {r : Addr} {v : V} (I : LabI K C) (h : Tg K C H r v) : Cl K H v := by
  cases h with
  | dat h => exact h.cl
  | lab h => exact h.cl I
theorem Tg.keep {K : PySem.W.Frag} {C : Addr} {H H' : Hp} {r : Addr} {v : V} (g : Rg H r) (h : Tg K C H r v) (k : ∀ b o, b ≠ r → H b = some o → H' b = some o) : Tg K C H' r v := by
  cases h with
  | dat h => exact .dat (h.keep k)
  | lab h =>
    refine .lab (h.keep fun b o e z => k b o (fun q => ?_) e)
    obtain ⟨x, y, er, _⟩ := g
    rw [q, er] at e
    cases e
    rcases z with ⟨_, z⟩ | ⟨_, _, _, z⟩ <;> cases z
/-! ### shown -/
theorem sho_str {l : Tx} (h : asc l) (hl : l.length ≤ 100) : Sho (.str (txt l)) := by
  have e := StrLaws.reprText_len (txt l) (fun c hc => Nat.lt_trans (h c hc) (by decide))
  rw [txt_len] at e
  refine ⟨rfl, ?_, by rw [PyData.depth]; exact Nat.zero_le _⟩
  rw [PyData.shown]
  omega
theorem log_of {i : Int} (h : i.natAbs < 10 ^ 41) : i.natAbs.log2 < 1920 := by
  by_cases z : i.natAbs = 0
  · rw [z]; decide
  · refine (Nat.log2_lt z).mpr (Nat.lt_of_lt_of_le h ?_)
    exact Nat.le_trans (by decide : 10 ^ 41 ≤ 2 ^ 200) (Nat.pow_le_pow_right (by decide) (by decide))
theorem sho_int {i : Int} (h : i.natAbs < 10 ^ 41) : Sho (.int i) := by
  have z := log_of h
  refine ⟨decide_eq_true z, ?_, by rw [PyData.depth]; exact Nat.zero_le _⟩
  rw [PyData.shown]
  exact Nat.le_trans (PyProof.Rows.int_text_len_1921 z) (by decide)
theorem sho_non : Sho .none := ⟨by decide +kernel, by decide +kernel, by decide +kernel⟩
theorem sho_bl : ∀ b : Bool, Sho (.bool b) := fun b => by cases b <;> exact ⟨by decide +kernel, by decide +kernel, by decide +kernel⟩
theorem sho_l0 : Sho (.list []) := ⟨by decide +kernel, by decide +kernel, by decide +kernel⟩
theorem sho_t0 : Sho (.tuple []) := ⟨by decide +kernel, by decide +kernel, by decide +kernel⟩
theorem sho_d0 : Sho (.dict []) := ⟨by decide +kernel, by decide +kernel, by decide +kernel⟩
theorem sho_l1 : Sho (.list [.int 1]) := ⟨by decide +kernel, by decide +kernel, by decide +kernel⟩
theorem sho_t1 : Sho (.tuple [.int 1]) := ⟨by decide +kernel, by decide +kernel, by decide +kernel⟩
theorem sho_lN : Sho (.list [.none]) := ⟨by decide +kernel, by decide +kernel, by decide +kernel⟩
theorem len_l1 (t : Str) : (listText [t]).length = t.length + 2 := by
  show (("[" : Str) ++ (if (0 : Nat) > 0 then ", " else "" : String) ++ t ++ "]").length = _
  rw [strLen_append, strLen_append, strLen_append]
  show 1 + 0 + t.length + 1 = _
  omega
theorem len_l2 (t u : Str) : (listText [t, u]).length = t.length + u.length + 4 := by
  show (("[" : Str) ++ (if (0 : Nat) > 0 then ", " else "" : String) ++ t ++ (if (1 : Nat) > 0 then ", " else "" : String) ++ u ++ "]").length = _
  rw [strLen_append, strLen_append, strLen_append, strLen_append, strLen_append]
  show 1 + 0 + t.length + 2 + u.length + 1 = _
  omega
theorem len_t1 (t : Str) : (tupleText [t]).length = t.length + 3 := by
  show (("(" : Str) ++ t ++ (if [t].length == 1 then ",)" else ")" : String)).length = _
  rw [strLen_append, strLen_append]
  show 1 + t.length + 2 = _
  omega
theorem len_d1 (t : Str) : (dictText [t]).length = t.length + 2 := by
  show (("{" : Str) ++ t ++ "}").length = _
  rw [strLen_append, strLen_append]
  show 1 + t.length + 1 = _
  omega
theorem sho_ls {l : Tx} (h : asc l) (hl : l.length ≤ 100) : Sho (.list [.str (txt l)]) := by
  obtain ⟨a, b, c⟩ := sho_str h hl
  have e := StrLaws.reprText_len (txt l) (fun c hc => Nat.lt_trans (h c hc) (by decide))
  rw [txt_len] at e
  refine ⟨by simp [PyData.showable, PyData.showableAll], ?_, by simp [PyData.depth, PyData.depthAll]⟩
  simp only [PyData.shown, PyData.shownAll]
  rw [len_l1]
  omega
theorem sho_ts {l : Tx} (h : asc l) (hl : l.length ≤ 100) : Sho (.tuple [.str (txt l)]) := by
  obtain ⟨a, b, c⟩ := sho_str h hl
  have e := StrLaws.reprText_len (txt l) (fun c hc => Nat.lt_trans (h c hc) (by decide))
  rw [txt_len] at e
  refine ⟨by simp [PyData.showable, PyData.showableAll], ?_, by simp [PyData.depth, PyData.depthAll]⟩
  simp only [PyData.shown, PyData.shownAll]
  rw [len_t1]
  omega
theorem sho_ds {l : Tx} (h : asc l) (hl : l.length ≤ 100) : Sho (.dict [(.str (txt l), .int 1)]) := by
  obtain ⟨a, b, c⟩ := sho_str h hl
  have e := StrLaws.reprText_len (txt l) (fun c hc => Nat.lt_trans (h c hc) (by decide))
  rw [txt_len] at e
  refine ⟨by simp only [PyData.showable, PyData.showableKv]; decide +kernel, ?_, by simp [PyData.depth, PyData.depthKv]⟩
  simp only [PyData.shown, PyData.shownKv]
  rw [len_d1, strLen_append, strLen_append]
  have e1 : (Str.ofString (toString (1 : Int))).length = 1 := by decide +kernel
  have e2 : (Str.ofString ": ").length = 2 := by decide +kernel
  omega
theorem dp1 {K : PySem.W.Frag} {v : V} {d : PyData} (h : ∀ H1, Dp K H1 v d) : ∀ H1, DpAll K H1 [v] [d] := fun H1 => .cons (h H1) .nil
end K11
namespace K11
open PySem L2
/-! ### a new label -/
abbrev spInitR (C : Addr) : Sp := fun vs H Q E => ∃ ws rest, vs = ws ++ rest ∧ ws.length = ([("self" : Str)]).length ∧ rest.length ≤ sizeLine ∧ ∀ p, H p = Option.none → spInit C (ws ++ [V.ref p]) (upd H p (.tup rest)) Q E
theorem lab_new {C : Addr} {xs : List Str} {H : Hp} {Q : VK} (nms : xs.all isNm = true) (few : xs.length < 60) (most : ∀ ys, Srt xs ys → ys.length ≤ 4) {x dx : Addr} (nx : H x = Option.none) (ndx : H dx = Option.none) (ne : dx ≠ x) (k : ∀ (H' : Hp) (ys : List Str), Same H H' → Srt xs ys → Lb C H' x ys → Q .non H') :
    spInitR C (V.ref x :: xs.map V.str) (upd (upd H dx (.own x)) x (.ins C dx [])) Q E0 := by
  refine ⟨[.ref x], xs.map V.str, rfl, rfl, by rw [List.length_map, sizeLine_eq]; omega, fun p hp => ?_⟩
  have px : x ≠ p := fun e => by rw [← e, upd_same] at hp; cases hp
  refine ⟨x, dx, p, xs, rfl, by rw [upd_ne px, upd_same], upd_same, nms, few, most, fun H' t ys srt kp hx ht => ?_⟩
  refine k H' ys (fun b o e => ?_) srt ⟨?_, most ys srt, dx, t, hx, ht⟩
  · have b1 : b ≠ x := ne_of_none e nx
    have b2 : b ≠ dx := ne_of_none e ndx
    refine kp b o b1 ?_
    have b3 : b ≠ p := fun z => by
      rw [← z, upd_ne b1, upd_ne b2, e] at hp
      cases hp
    rw [upd_ne b3, upd_ne b1, upd_ne b2]
    exact e
  · exact List.all_eq_true.mpr fun y hy => List.all_eq_true.mp nms y ((srt.2.2 y).mp hy)
theorem srt_one {xs ys : List Str} (h : Srt xs ys) (l : xs.length ≤ 1) : ys.length ≤ 4 := by
  obtain ⟨nd, _, m⟩ := h
  cases ys with
  | nil => exact Nat.zero_le _
  | cons y r =>
    cases r with
    | nil => exact (by decide : 1 ≤ 4)
    | cons z r =>
      have m1 := (m y).mp List.mem_cons_self
      have m2 := (m z).mp (List.mem_cons_of_mem _ List.mem_cons_self)
      cases xs with
      | nil => cases m1
      | cons x q =>
        cases q with
        | cons _ _ => exact absurd l (by simp)
        | nil =>
          have e1 := List.mem_singleton.mp m1
          have e2 := List.mem_singleton.mp m2
          rw [e1, e2] at nd
          exact absurd nd (by simp)
theorem merge1 (k : Key) (v : V) : mergeK [] [(k, v)] = [(k, v)] := rfl
section
variable {P : Program} {w : World} {K : PySem.W.Frag} {mg : Str → Option Value} {base : Heap}
variable {fD fC fL fG fS fN : Addr} {dD dC dL dG dS dN : FuncData}
def spThing (K : PySem.W.Frag) (C : Addr) : Sp := fun vs H Q _ => ∃ r : Addr, vs = [.ref r] ∧ Rg H r ∧ ∀ H' v, Kp r H H' → Tg K C H' r v → (∀ a, v = .ref a → H a = none) → Q v H'
theorem scTh : FnScope ["_law_rng_here", "_law_way", "_law_word"] ["_law_rng_here"] (defScope sThing) := ⟨rfl, rfl, rfl, by decide +kernel, rfl, by decide +kernel, by decide +kernel⟩
theorem ok_thing {C fI gR fA : Addr} {fi gi dA : FuncData} (G : GEnv K mg fD fC fL fG fS fN dD dC dL dG dS dN) (L : LabC K mg C fI gR fi gi) (AA : At K mg "_law_thing" sThing ["_law_rng_here"] fA dA)
    (GI : FnR P w K mg base CX0 2 fI (spInitR C)) : FnOk P w K mg base CX0 4 fA dA ["_law_rng_here"] (spThing K C) := by
  have GD : FnOk P w K mg base CX0 1 fD dD ["_law_rng_here", "_law_many"] spDraw := ok_draw G.D.F G.B
  have GC : FnOk P w K mg base CX0 2 fC dC ["_law_rng_here", "_law_options"] (spChoice K) := ok_choice G.C.F G.B G.D
  have GL : FnOk P w K mg base CX0 2 fL dL ["_law_rng_here", "_law_many"] spLet := ok_let G.L.F G.B G.D
  have GS : FnOk P w K mg base CX0 3 fS dS ["_law_rng_here"] spStr := ok_str G
  have GN : FnOk P w K mg base CX0 3 fN dN ["_law_rng_here"] spNum := ok_num G
  refine AA.F.ok scTh (fun vs H Q E h => ?_) (fun cdv A outer_ s H0 vs Q E hr h => ?_)
  · obtain ⟨r, rfl, _⟩ := h
    rfl
  · obtain ⟨r, rfl, g, k⟩ := h
    have hr1 := hr.mono (j := 1) (by decide)
    have hr2 := hr.mono (j := 2) (by decide)
    refine ⟨_, pss_cons (ps_set (i := 1) scTh.nd rfl (Or.inl rfl) (pe_call GD hr1 (by rfl) G.D.m G.D.F.kp G.D.b .nil pass0 (pa_cons (pv 0) (pa_cons pe_int pa_nil))))
      (pss_cons (ps_if (pt_cmpR op_lt (pv 1) pe_int (nomark _)) (pss_one (ps_ret (pe_call GS hr (by rfl) G.S.m G.S.F.kp G.S.b .nil pass0 (pa_cons (pv 0) pa_nil)))) pss_nil)
      (pss_cons (ps_if (pt_cmpR op_lt (pv 1) pe_int (nomark _)) (pss_one (ps_ret (pe_call GN hr (by rfl) G.N.m G.N.F.kp G.N.b .nil pass0 (pa_cons (pv 0) pa_nil)))) pss_nil)
      (pss_cons (ps_if (pt_cmpR op_eq (pv 1) pe_int (nomark _)) (pss_one (ps_ret (pe_call GC hr2 (by rfl) G.C.m G.C.F.kp G.C.b .nil pass0 (pa_cons (pv 0) (pa_cons (pe_lst (pa_cons pe_bl (pa_cons pe_bl (pa_cons pe_non pa_nil)))) pa_nil))))) pss_nil)
      (pss_cons (ps_set (i := 2) scTh.nd rfl (Or.inl rfl) (pe_call GL hr2 (by rfl) G.L.m G.L.F.kp G.L.b .nil pass0 (pa_cons (pv 0) (pa_cons pe_int pa_nil))))
      (pss_one (ps_ret (pe_call GC hr2 (by rfl) G.C.m G.C.F.kp G.C.b .nil pass0 (pa_cons (pv 0) (pa_cons (pe_lst (pa_cons (pe_lst pa_nil) (pa_cons (pe_lst (pa_cons pe_int pa_nil)) (pa_cons (pe_tup (pa_cons pe_int pa_nil)) (pa_cons (pe_tup (pa_cons (pv 2) pa_nil)) (pa_cons pe_dnewK
        (pa_cons (pe_disp (pps_cons (pv 2) pe_int pps_nil) (by rfl) (by rfl) (fun z => by cases z) (by decide)) (pa_cons (pe_lst (pa_cons pe_non pa_nil)) (pa_cons (pe_tup pa_nil) (pa_cons (pe_lst (pa_cons (pv 2) pa_nil))
        (pa_cons (pe_makeR0 L.mkr GI hr (by rfl) L.m pass0) (pa_cons (StX.pe_makeR L.mkr GI hr (by rfl) L.m pass0 (pa_cons (pv 2) pa_nil)) pa_nil)))))))))))) pa_nil))))))))), ?_⟩
    have k0 : Kp r H0 H0 := Kp.refl r H0
    have no : ∀ {v : V} (a : Addr), (∀ b, v ≠ .ref b) → v = .ref a → a ≠ r := fun a h e => absurd e (h a)
    refine ⟨_, rfl, r, 8, rfl, g, by decide, by decide, fun H1 n k1 hn => ?_⟩
    refine ⟨_, rfl, _, _, rfl, rfl, _, rfl, ?_⟩
    refine ite2 (fun _ => ?_) (fun _ => ?_)
    · exact ⟨_, rfl, r, rfl, k1.2 g, fun H2 l k2 l1 l2 => k H2 _ (k1.trans k2) (.dat ⟨.str _, sho_str l1 l2, (fun a e => nomatch e), (fun x e => ⟨l, (V.str.inj e).symm, l2⟩), .off fun _ e => nomatch e⟩) (fun a e => nomatch e)⟩
    refine ⟨_, rfl, _, _, rfl, rfl, _, rfl, ?_⟩
    refine ite2 (fun _ => ?_) (fun _ => ?_)
    · exact ⟨_, rfl, r, rfl, k1.2 g, fun H2 i k2 hi => k H2 _ (k1.trans k2) (.dat ⟨.int _, sho_int hi, (fun a e => nomatch e), (fun x e => nomatch e), .off fun _ e => nomatch e⟩) (fun a e => nomatch e)⟩
    refine ⟨_, rfl, rfl, _, rfl, ?_⟩
    refine ite2 (fun _ => ?_) (fun _ => ?_)
    · refine ⟨_, rfl, by show 3 ≤ sizeLine; decide, fun o ho => ?_⟩
      have ko := k1.trans (Kp.of_same (r := r) (same_upd (o := HO.lst [.bl true, .bl false, .non]) ho))
      refine ⟨r, _, rfl, ko.2 g, .inl ⟨o, _, rfl, upd_same, (k1.2 g).ne ho, (fun e => nomatch e), by decide, fun H2 x k2 hx => ?_⟩⟩
      have kp := ko.trans k2
      rcases List.mem_cons.mp hx with e | hx
      · rw [e]; exact k H2 _ kp (.dat ⟨.bl _, sho_bl _, (fun a e => nomatch e), (fun x e => nomatch e), .off fun _ e => nomatch e⟩) (fun a e => nomatch e)
      rcases List.mem_cons.mp hx with e | hx
      · rw [e]; exact k H2 _ kp (.dat ⟨.bl _, sho_bl _, (fun a e => nomatch e), (fun x e => nomatch e), .off fun _ e => nomatch e⟩) (fun a e => nomatch e)
      rw [List.mem_singleton.mp hx]
      exact k H2 _ kp (.dat ⟨.non, sho_non, (fun a e => nomatch e), (fun x e => nomatch e), .off fun _ e => nomatch e⟩) (fun a e => nomatch e)
    refine ⟨_, rfl, r, 2, rfl, k1.2 g, by decide, fun Hw l kw lo ln => ?_⟩
    have k0 := k1.trans kw
    have la := low_asc lo
    have l100 : l.length ≤ 100 := by omega
    have lnm : isNm (txt l) = true := by
      show nmC l = true
      unfold nmC
      rw [decide_eq_true (show l.length ≤ 8 by omega), decide_eq_false (show ¬ l = [] from fun z => by rw [z] at ln; cases ln), lo]
      rfl
    refine ⟨_, rfl, ?_⟩
    refine ⟨by show 0 ≤ sizeLine; decide, fun a1 h1 => ?_⟩
    have n1 : a1 ≠ r := (k0.2 g).ne h1
    have s1 : Same Hw (upd Hw a1 (HO.lst [])) := same_upd h1
    have f1 : (upd Hw a1 (HO.lst [])) a1 = some (HO.lst []) := upd_same
    revert s1 f1
    generalize upd Hw a1 (HO.lst []) = J1
    intro s1 f1
    have q1 : Kp r H0 J1 := k0.trans (Kp.of_same s1)
    refine ⟨by show 1 ≤ sizeLine; decide, fun a2 h2 => ?_⟩
    have n2 : a2 ≠ r := (q1.2 g).ne h2
    have s2 : Same J1 (upd J1 a2 (HO.lst [.int 1])) := same_upd h2
    have f2 : (upd J1 a2 (HO.lst [.int 1])) a2 = some (HO.lst [.int 1]) := upd_same
    revert s2 f2
    generalize upd J1 a2 (HO.lst [.int 1]) = J2
    intro s2 f2
    have q2 : Kp r H0 J2 := q1.trans (Kp.of_same s2)
    refine ⟨by show 1 ≤ sizeLine; decide, fun a3 h3 => ?_⟩
    have n3 : a3 ≠ r := (q2.2 g).ne h3
    have s3 : Same J2 (upd J2 a3 (HO.tup [.int 1])) := same_upd h3
    have f3 : (upd J2 a3 (HO.tup [.int 1])) a3 = some (HO.tup [.int 1]) := upd_same
    revert s3 f3
    generalize upd J2 a3 (HO.tup [.int 1]) = J3
    intro s3 f3
    have q3 : Kp r H0 J3 := q2.trans (Kp.of_same s3)
    refine ⟨_, rfl, by show 1 ≤ sizeLine; decide, fun a4 h4 => ?_⟩
    have n4 : a4 ≠ r := (q3.2 g).ne h4
    have s4 : Same J3 (upd J3 a4 (HO.tup [tv l])) := same_upd h4
    have f4 : (upd J3 a4 (HO.tup [tv l])) a4 = some (HO.tup [tv l]) := upd_same
    revert s4 f4
    generalize upd J3 a4 (HO.tup [tv l]) = J4
    intro s4 f4
    have q4 : Kp r H0 J4 := q3.trans (Kp.of_same s4)
    intro a5 h5
    have n5 : a5 ≠ r := (q4.2 g).ne h5
    have s5 : Same J4 (upd J4 a5 (HO.dK [])) := same_upd h5
    have f5 : (upd J4 a5 (HO.dK [])) a5 = some (HO.dK []) := upd_same
    revert s5 f5
    generalize upd J4 a5 (HO.dK []) = J5
    intro s5 f5
    have q5 : Kp r H0 J5 := q4.trans (Kp.of_same s5)
    intro a6 h6
    have n6 : a6 ≠ r := (q5.2 g).ne h6
    refine ⟨_, rfl, upd_same, [(.inr (txt l), .int 1)], rfl, (by show 1 ≤ 15; decide), ?_⟩
    rw [merge1, upd_upd]
    have s6 : Same J5 (upd J5 a6 (HO.dK [(.inr (txt l), .int 1)])) := same_upd h6
    have f6 : (upd J5 a6 (HO.dK [(.inr (txt l), .int 1)])) a6 = some (HO.dK [(.inr (txt l), .int 1)]) := upd_same
    revert s6 f6
    generalize upd J5 a6 (HO.dK [(.inr (txt l), .int 1)]) = J6
    intro s6 f6
    have q6 : Kp r H0 J6 := q5.trans (Kp.of_same s6)
    refine ⟨by show 1 ≤ sizeLine; decide, fun a7 h7 => ?_⟩
    have n7 : a7 ≠ r := (q6.2 g).ne h7
    have s7 : Same J6 (upd J6 a7 (HO.lst [.non])) := same_upd h7
    have f7 : (upd J6 a7 (HO.lst [.non])) a7 = some (HO.lst [.non]) := upd_same
    revert s7 f7
    generalize upd J6 a7 (HO.lst [.non]) = J7
    intro s7 f7
    have q7 : Kp r H0 J7 := q6.trans (Kp.of_same s7)
    refine ⟨by show 0 ≤ sizeLine; decide, fun a8 h8 => ?_⟩
    have n8 : a8 ≠ r := (q7.2 g).ne h8
    have s8 : Same J7 (upd J7 a8 (HO.tup [])) := same_upd h8
    have f8 : (upd J7 a8 (HO.tup [])) a8 = some (HO.tup []) := upd_same
    revert s8 f8
    generalize upd J7 a8 (HO.tup []) = J8
    intro s8 f8
    have q8 : Kp r H0 J8 := q7.trans (Kp.of_same s8)
    refine ⟨_, rfl, by show 1 ≤ sizeLine; decide, fun a9 h9 => ?_⟩
    have n9 : a9 ≠ r := (q8.2 g).ne h9
    have s9 : Same J8 (upd J8 a9 (HO.lst [tv l])) := same_upd h9
    have f9 : (upd J8 a9 (HO.lst [tv l])) a9 = some (HO.lst [tv l]) := upd_same
    revert s9 f9
    generalize upd J8 a9 (HO.lst [tv l]) = J9
    intro s9 f9
    have q9 : Kp r H0 J9 := q8.trans (Kp.of_same s9)
    intro a10 dx10 h10 hd10 ne10
    refine lab_new (xs := []) rfl (by show 0 < 60; decide) (fun ys z => srt_one z (by show 0 ≤ 1; decide)) h10 hd10 ne10 fun J10 ys10 s10 srt10 f10 => ⟨rfl, ?_⟩
    have q10 : Kp r H0 J10 := q9.trans (Kp.of_same s10)
    have n10 : a10 ≠ r := (q9.2 g).ne h10
    refine ⟨_, rfl, ?_⟩
    intro a11 dx11 h11 hd11 ne11
    refine lab_new (xs := [txt l]) (by show (isNm (txt l) && true) = true; rw [lnm]; rfl) (by show 1 < 60; decide) (fun ys z => srt_one z (by show 1 ≤ 1; decide)) h11 hd11 ne11 fun J11 ys11 s11 srt11 f11 => ⟨rfl, ?_⟩
    have q11 : Kp r H0 J11 := q10.trans (Kp.of_same s11)
    have n11 : a11 ≠ r := (q10.2 g).ne h11
    refine ⟨by show 11 ≤ sizeLine; decide, fun o ho => ?_⟩
    have so : Same J11 (upd J11 o (HO.lst [.ref a1, .ref a2, .ref a3, .ref a4, .ref a5, .ref a6, .ref a7, .ref a8, .ref a9, .ref a10, .ref a11])) := same_upd ho
    have ko := q11.trans (Kp.of_same (r := r) so)
    refine ⟨r, _, rfl, ko.2 g, .inl ⟨o, _, rfl, upd_same, (q11.2 g).ne ho, (fun e => nomatch e), by show 11 ≤ big; decide, fun H2 x k2 hx => ?_⟩⟩
    have kf := ko.trans k2
    have u1 : ∀ b o, b ≠ r → J1 b = some o → H2 b = some o := fun b o ne e => k2.1 b o ne (so _ _ (s11 _ _ (s10 _ _ (s9 _ _ (s8 _ _ (s7 _ _ (s6 _ _ (s5 _ _ (s4 _ _ (s3 _ _ (s2 _ _ (e))))))))))))
    have u2 : ∀ b o, b ≠ r → J2 b = some o → H2 b = some o := fun b o ne e => k2.1 b o ne (so _ _ (s11 _ _ (s10 _ _ (s9 _ _ (s8 _ _ (s7 _ _ (s6 _ _ (s5 _ _ (s4 _ _ (s3 _ _ (e)))))))))))
    have u3 : ∀ b o, b ≠ r → J3 b = some o → H2 b = some o := fun b o ne e => k2.1 b o ne (so _ _ (s11 _ _ (s10 _ _ (s9 _ _ (s8 _ _ (s7 _ _ (s6 _ _ (s5 _ _ (s4 _ _ (e))))))))))
    have u4 : ∀ b o, b ≠ r → J4 b = some o → H2 b = some o := fun b o ne e => k2.1 b o ne (so _ _ (s11 _ _ (s10 _ _ (s9 _ _ (s8 _ _ (s7 _ _ (s6 _ _ (s5 _ _ (e)))))))))
    have u5 : ∀ b o, b ≠ r → J5 b = some o → H2 b = some o := fun b o ne e => k2.1 b o ne (so _ _ (s11 _ _ (s10 _ _ (s9 _ _ (s8 _ _ (s7 _ _ (s6 _ _ (e))))))))
    have u6 : ∀ b o, b ≠ r → J6 b = some o → H2 b = some o := fun b o ne e => k2.1 b o ne (so _ _ (s11 _ _ (s10 _ _ (s9 _ _ (s8 _ _ (s7 _ _ (e)))))))
    have u7 : ∀ b o, b ≠ r → J7 b = some o → H2 b = some o := fun b o ne e => k2.1 b o ne (so _ _ (s11 _ _ (s10 _ _ (s9 _ _ (s8 _ _ (e))))))
    have u8 : ∀ b o, b ≠ r → J8 b = some o → H2 b = some o := fun b o ne e => k2.1 b o ne (so _ _ (s11 _ _ (s10 _ _ (s9 _ _ (e)))))
    have u9 : ∀ b o, b ≠ r → J9 b = some o → H2 b = some o := fun b o ne e => k2.1 b o ne (so _ _ (s11 _ _ (s10 _ _ (e))))
    have u10 : ∀ b o, b ≠ r → J10 b = some o → H2 b = some o := fun b o ne e => k2.1 b o ne (so _ _ (s11 _ _ (e)))
    have u11 : ∀ b o, b ≠ r → J11 b = some o → H2 b = some o := fun b o ne e => k2.1 b o ne (so _ _ (e))
    rcases List.mem_cons.mp hx with e | hx
    · rw [e]
      exact k H2 _ kf (.dat ⟨.lst (u1 _ _ n1 f1) (fun _ => .nil) rfl, sho_l0, (fun a e => by cases e; exact n1), (fun x e => nomatch e), .lst (u1 _ _ n1 f1) rfl⟩) (fun a e => by cases e; exact k0.free g h1)
    rcases List.mem_cons.mp hx with e | hx
    · rw [e]
      exact k H2 _ kf (.dat ⟨.lst (u2 _ _ n2 f2) (dp1 fun _ => .int 1) rfl, sho_l1, (fun a e => by cases e; exact n2), (fun x e => nomatch e), .lst (u2 _ _ n2 f2) rfl⟩) (fun a e => by cases e; exact q1.free g h2)
    rcases List.mem_cons.mp hx with e | hx
    · rw [e]
      exact k H2 _ kf (.dat ⟨.tup (u3 _ _ n3 f3) (dp1 fun _ => .int 1) rfl, sho_t1, (fun a e => by cases e; exact n3), (fun x e => nomatch e), .tup (u3 _ _ n3 f3) rfl⟩) (fun a e => by cases e; exact q2.free g h3)
    rcases List.mem_cons.mp hx with e | hx
    · rw [e]
      exact k H2 _ kf (.dat ⟨.tup (u4 _ _ n4 f4) (dp1 fun _ => .str _) rfl, sho_ts la l100, (fun a e => by cases e; exact n4), (fun x e => nomatch e), .tup (u4 _ _ n4 f4) rfl⟩) (fun a e => by cases e; exact q3.free g h4)
    rcases List.mem_cons.mp hx with e | hx
    · rw [e]
      exact k H2 _ kf (.dat ⟨.d0 (u5 _ _ n5 f5), sho_d0, (fun a e => by cases e; exact n5), (fun x e => nomatch e), .dct (u5 _ _ n5 f5)⟩) (fun a e => by cases e; exact q4.free g h5)
    rcases List.mem_cons.mp hx with e | hx
    · rw [e]
      exact k H2 _ kf (.dat ⟨.d1 (u6 _ _ n6 f6), sho_ds la l100, (fun a e => by cases e; exact n6), (fun x e => nomatch e), .dct (u6 _ _ n6 f6)⟩) (fun a e => by cases e; exact q5.free g h6)
    rcases List.mem_cons.mp hx with e | hx
    · rw [e]
      exact k H2 _ kf (.dat ⟨.lst (u7 _ _ n7 f7) (dp1 fun _ => .non) rfl, sho_lN, (fun a e => by cases e; exact n7), (fun x e => nomatch e), .lst (u7 _ _ n7 f7) rfl⟩) (fun a e => by cases e; exact q6.free g h7)
    rcases List.mem_cons.mp hx with e | hx
    · rw [e]
      exact k H2 _ kf (.dat ⟨.tup (u8 _ _ n8 f8) (fun _ => .nil) rfl, sho_t0, (fun a e => by cases e; exact n8), (fun x e => nomatch e), .tup (u8 _ _ n8 f8) rfl⟩) (fun a e => by cases e; exact q7.free g h8)
    rcases List.mem_cons.mp hx with e | hx
    · rw [e]
      exact k H2 _ kf (.dat ⟨.lst (u9 _ _ n9 f9) (dp1 fun _ => .str _) rfl, sho_ls la l100, (fun a e => by cases e; exact n9), (fun x e => nomatch e), .lst (u9 _ _ n9 f9) rfl⟩) (fun a e => by cases e; exact q8.free g h9)
    rcases List.mem_cons.mp hx with e | hx
    · rw [e]
      exact k H2 _ kf (Tg.keep (q10.2 g) (.lab f10) u10) (fun a e => by cases e; exact q9.free g h10)
    rw [List.mem_singleton.mp hx]
    exact k H2 _ kf (Tg.keep (q11.2 g) (.lab f11) u11) (fun a e => by cases e; exact q10.free g h11)
end
end K11
namespace K11
open PySem L2
/-! ### a call by keywords alone -/
section
variable {X : Cx} {CX : CXT} {k : Nat} {f : Addr} {fd : FuncData} {ps ks : List Str} {sp : Sp} {E : XK} {x : Str} {p pos : Pos} {kws : List Keyword} {tk : TA}
def tKwA (n : Nat) (gV : List V → List V) (sp : Sp) (E : XK) (tk : TA) : TE := fun σ H Q => tk σ H fun zs H2 => zs.length = n ∧ sp (gV zs) H2 Q E
theorem pe_callKA {g : List Value → List Value} {gV : List V → List V} (F : FnOk X.prog X.w X.K X.mg X.base CX k f fd ps sp) (hr : Room k X.A) (hg : Gl X x) (hm : X.mg x = some (.ref f)) (hk : PySem.W.keepIn X.K (.ref f) = true)
    (hb : ∀ (s : Shared) (ws : List Value), ws.length = ks.length → BindsTo s fd ⟨[], ks.zip ws⟩ (ps.zip (g ws))) (hv : ∀ (zs : List V) (ws : List Value), zs.length = ks.length → Vals zs ws → Vals (gV zs) (g ws)) (hx : Passes CX X E) (hkw : PK X kws tk)
    (hall : (backToKw pos (keywordEach kws X.env)).all (·.1.isSome) = true := by rfl) (hks : (backToKw pos (keywordEach kws X.env)).filterMap (·.1) = ks := by rfl)
    (hdb : (x == ("__debug__" : Str)) = false := by decide) (hpl : ((backTo pos (starEach [] X.env)).any (·.1) || (backToKw pos (keywordEach kws X.env)).any (·.1.isNone)) = false := by rfl) :
    PE X (.Call (.Name x p) [] kws pos) (tKwA ks.length gV sp E tk) := ⟨by
  intro pins s σ H Q I h
  apply wpAny_Call_Name_kw
  apply ld_glob I hg hm _ hdb
  apply PySem.W.callWith_KW0 (h₀ := X.base) I.ok.mod.kin hk hall _ hpl
  apply thn (hkw.run pos pins s σ H _ I h)
  rintro ws s2 ⟨zs, H2, I2, rz, hl, q2⟩
  refine ⟨I2.kIn, ?_⟩
  rw [hks]
  have wl : ws.length = ks.length := rz.length.symm.trans hl
  apply wpAny_call
  apply codeAny_mono (F.run X.A X.stack s2 H2 ⟨[], ks.zip ws⟩ (g ws) (gV zs) Q E hr I2.env0 (hb s2 ws wl) (hv zs ws hl rz) q2)
  intro r s' hq
  match r, hq with
  | .error er, hq => exact hx pins σ H2 s2 er s' I2 hq
  | .ok (.ret _), hq => exact I2.after hq
  | .ok .next, hq => exact hq.elim
  | .ok .brk, hq => exact hq.elim
  | .ok .cont, hq => exact hq.elim⟩
end
/-- how is_value's calls bind -/
structure ValB (K : PySem.W.Frag) (fd : FuncData) : Prop where
  two : ∃ ds, Vals [V.bl false] ds ∧ Binds K fd ["sort", "value", "may_be_empty"] ds
  kw : KBn K fd ["sort", "value", "may_be_empty"] 2 [("may_be_empty" : Str)] (fun us ws => us ++ ws) (fun vs zs => vs ++ zs)
  all : ∀ (s : Shared) (ws : List Value), ws.length = ([("may_be_empty" : Str), ("value" : Str), ("sort" : Str)]).length → BindsTo s fd ⟨[], ([("may_be_empty" : Str), ("value" : Str), ("sort" : Str)]).zip ws⟩ (([("sort" : Str), ("value" : Str), ("may_be_empty" : Str)]).zip ws.reverse)
theorem valB {K : PySem.W.Frag} {f : Addr} {fd : FuncData} (F : FV K f fd) : ValB K fd := by
  refine ⟨?_, ?_, ?_⟩
  · refine FunD.binds0 F 2 (by simp) rfl fun D doc pm an cdv ct us ks hu hk => ?_
    match us, ks, hu, hk with
    | [a, b], [c], _, _ => exact ⟨_, _, _, _, _, _, rfl, rfl, rfl⟩
  · obtain ⟨oc, od, dV, kV, doc, pm, an, cdv, ct, osl, rfl, lk, hcd, hD, hK⟩ := F.ex
    rcases hD with ⟨_, rfl⟩ | ⟨e, _⟩
    · refine ⟨fun s us ws X hu hw => ?_, fun r1 r2 => r1.append r2⟩
      match us, ws, hu, hw with
      | [a, b], [c], _, _ => exact .of_eq rfl
    · exact absurd rfl e
  · obtain ⟨oc, od, dV, kV, doc, pm, an, cdv, ct, osl, rfl, lk, hcd, hD, hK⟩ := F.ex
    rcases hD with ⟨_, rfl⟩ | ⟨e, _⟩
    · intro s ws hw
      match ws, hw with
      | [a, b, c], _ => exact .of_eq rfl
    · exact absurd rfl e
end K11
namespace K11
open PySem L2
theorem tyx_keep {K : PySem.W.Frag} {H H' : Hp} {v : V} {t : Value} (h : TyX K H v t) (s : Same H H') : TyX K H' v t := by
  cases h with
  | base b =>
    cases b with
    | non => exact .base .non
    | bl x => exact .base (.bl x)
    | int i => exact .base (.int i)
    | str x => exact .base (.str x)
    | flt x => exact .base (.flt x)
    | lst e => exact .base (.lst (s _ _ e))
    | frz e => exact .base (.frz (s _ _ e))
    | tup e => exact .base (.tup (s _ _ e))
    | dK e => exact .base (.dK (s _ _ e))
    | dT e => exact .base (.dT (s _ _ e))
    | ins e c h1 h2 h3 h4 => exact .base (.ins (s _ _ e) c h1 h2 h3 h4)
  | byt b => exact .byt b
  | set e => exact .set (s _ _ e)
  | kList e c => exact .kList e c
  | kTuple e c => exact .kTuple e c
  | kDict e c => exact .kDict e c
  | fTuple e => exact .fTuple (s _ _ e)
  | fDict e => exact .fDict (s _ _ e)
theorem Cl.keep {K : PySem.W.Frag} {H H' : Hp} {v : V} (h : Cl K H v) (s : Same H H') : Cl K H' v := by
  cases h with
  | non => exact .non
  | bl b => exact .bl b
  | int i => exact .int i
  | str l e => exact .str l e
  | oth t b i s' => exact .oth (tyx_keep t s) b i s'
abbrev three (v : V) : List V := [.bl (nameV v), .bl (intV v), .bl (cntV v)]
def kindL (v k : V) : List V := [.bl (isVal k v false), .bl (isVal k v false), .bl (isVal k v true)]
def headL (v : V) : List V := three v ++ three v
def toldL (v s : V) : List V := headL v ++ sorts.flatMap (kindL v) ++ [.bl (isVal s v false), .bl (isVal s v true)] ++ [.bl (isVal s .non false), .bl (isVal s .non true)]
theorem take_flat {α β : Type} {l : List α} {i : Nat} {x : α} (f : α → List β) (h : l[i]? = some x) : (l.take (i + 1)).flatMap f = (l.take i).flatMap f ++ f x := by
  rw [take_snoc h, List.flatMap_append]
  simp
/-- the judging defs -/
structure JEnv (K : PySem.W.Frag) (mg : Str → Option Value) (fN fI fC fS fO fV : Addr) (dN dI dC dS dO dV : FuncData) : Prop where
  Z : Zn mg
  N : At K mg "is_name" sIsName ["value"] fN dN
  I : At K mg "is_integer" sIsInteger ["value"] fI dI
  C : At K mg "is_count" sIsCount ["value"] fC dC
  S : At K mg "is_sort" sIsSort ["value"] fS dS
  O : At K mg "sort_of" sSortOf ["value"] fO dO
  V : FV K fV dV
  mV : mg "is_value" = some (.ref fV)
  mM : ∃ tk, mg "MOST_LETTERS" = some (.int 8 tk)
  mL : ∃ tk, mg "LETTERS" = some (.str "abcdefghijklmnopqrstuvwxyz" tk)
  mC : ∃ tk, mg "MOST_CHARACTERS" = some (.int 60 tk)
  ST : SrtT K mg
section
variable {P : Program} {w : World} {K : PySem.W.Frag} {mg : Str → Option Value} {base : Heap}
variable {fN fI fC fS fO fV : Addr} {dN dI dC dS dO dV : FuncData}
theorem kw1 {x qual : Str} {st : Stmt} {f : Addr} {fd : FuncData} (F : Fun K x qual st f fd) (h : ∀ (kV doc pm : Value) (an : Option Addr) (cdv ct a : Value), bindArgs (PySem.W.fnOf x qual (defArgs st) (defBody st) (defScope st) .none kV doc pm an cdv ct) ⟨[], [(("value" : Str), a)]⟩ = pure [(("value" : Str), a)]) :
    ∀ (s : Shared) (ws : List Value), ws.length = ([("value" : Str)]).length → BindsTo s fd ⟨[], ([("value" : Str)]).zip ws⟩ (([("value" : Str)]).zip (id ws)) := fun s ws hw => by
  obtain ⟨oc, od, kV, doc, pm, an, cdv, ct, osl, rfl, lk, hcd⟩ := F.ex
  match ws, hw with
  | [a], _ => exact .of_eq (h _ _ _ _ _ _ _)
theorem rel3 : ∀ (zs : List V) (ws : List Value), zs.length = ([("may_be_empty" : Str), ("value" : Str), ("sort" : Str)]).length → Vals zs ws → Vals zs.reverse ws.reverse
  | [_, _, _], _, _, .cons a (.cons b (.cons c .nil)) => .cons c (.cons b (.cons a .nil))
def spTold (K : PySem.W.Frag) : Sp := fun vs H Q _ => ∃ v s : V, vs = [v, s] ∧ Cl K H v ∧ Cl K H s ∧ ∀ H' p, Same H H' → H p = none → H' p = some (.lst (toldL v s)) → Q (.ref p) H'
theorem scTo : FnScope ["_law_thing_here", "_law_strange", "_law_told_here", "_law_kind"] ["_law_thing_here", "_law_strange"] (defScope sTold) := ⟨rfl, rfl, rfl, by decide +kernel, rfl, by decide +kernel, by decide +kernel⟩
theorem ok_told {f : Addr} {fd : FuncData} (F : Fun K "_law_told" "_law_told" sTold f fd) (J : JEnv K mg fN fI fC fS fO fV dN dI dC dS dO dV) : FnOk P w K mg base CX0 3 f fd ["_law_thing_here", "_law_strange"] (spTold K) := by
  obtain ⟨t1, m1⟩ := J.mM
  obtain ⟨t2, m2⟩ := J.mL
  obtain ⟨t3, m3⟩ := J.mC
  have GN : FnOk P w K mg base CX0 1 fN dN ["value"] (spName K) := ok_name J.N.F J.Z m1 m2
  have GI : FnOk P w K mg base CX0 1 fI dI ["value"] (spB K intV) := ok_int J.I.F J.Z
  have GC : FnOk P w K mg base CX0 2 fC dC ["value"] (spB K cntV) := ok_cnt J.C.F J.Z J.I
  have GV : FnOk P w K mg base CX0 2 fV dV ["sort", "value", "may_be_empty"] (spVal K) := ok_val J.V J.Z J.ST m3 J.S J.O
  have VB := valB J.V
  obtain ⟨ds, vd, bV⟩ := VB.two
  refine F.ok scTo (fun vs H Q E h => ?_) (fun cdv A outer_ s H vs Q E hr h => ?_)
  · obtain ⟨v, s, rfl, _⟩ := h
    rfl
  · obtain ⟨v, s, rfl, cv, cs, k⟩ := h
    have hr1 := hr.mono (j := 1) (by decide)
    refine ⟨_, pss_cons (ps_set (i := 2) scTo.nd rfl (Or.inl rfl) (pe_lst (pa_cons (pe_call GN hr1 (by rfl) J.N.m J.N.F.kp J.N.b .nil pass0 (pa_cons (pv 0) pa_nil)) (pa_cons (pe_call GI hr1 (by rfl) J.I.m J.I.F.kp J.I.b .nil pass0 (pa_cons (pv 0) pa_nil)) (pa_cons (pe_call GC hr (by rfl) J.C.m J.C.F.kp J.C.b .nil pass0 (pa_cons (pv 0) pa_nil)) pa_nil)))))
      (pss_cons (ps_set (i := 2) scTo.nd rfl (Or.inl rfl) (pe_op op_cat (pv 2) (pe_lst (pa_cons (pe_callKA (g := id) (gV := id) GN hr1 (by rfl) J.N.m J.N.F.kp (kw1 J.N.F fun _ _ _ _ _ _ _ => rfl) (fun _ _ _ r => r) pass0 (pk_cons (pv 0) pk_nil))
        (pa_cons (pe_callKA (g := id) (gV := id) GI hr1 (by rfl) J.I.m J.I.F.kp (kw1 J.I.F fun _ _ _ _ _ _ _ => rfl) (fun _ _ _ r => r) pass0 (pk_cons (pv 0) pk_nil)) (pa_cons (pe_callKA (g := id) (gV := id) GC hr (by rfl) J.C.m J.C.F.kp (kw1 J.C.F fun _ _ _ _ _ _ _ => rfl) (fun _ _ _ r => r) pass0 (pk_cons (pv 0) pk_nil)) pa_nil))))))
      (pss_cons (ps_for PassesOwn.never rfl (pi_list (pe_lst (pa_cons pe_str (pa_cons pe_str (pa_cons pe_str pa_nil))))) (pg_name (i := 3) scTo.nd rfl (Or.inl rfl))
        (pss_cons (ps_set (i := 2) scTo.nd rfl (Or.inl rfl) (pe_op op_cat (pv 2) (pe_lst (pa_cons (pe_call GV hr (by rfl) J.mV J.V.kp bV vd pass0 (pa_cons (pv 3) (pa_cons (pv 0) pa_nil))) (pa_cons (pe_callN GV hr (by rfl) J.mV J.V.kp VB.kw pass0 (pa_cons (pv 3) (pa_cons (pv 0) pa_nil)) (pk_cons pe_bl pk_nil)) pa_nil)))))
        (pss_one (ps_expr (pe_bm PySem.F.plainAttrs_list PySem.F.slot_list_append PySem.F.type_list_append mt_append (pv 2) (pa_cons (pe_callKA (g := List.reverse) (gV := List.reverse) GV hr (by rfl) J.mV J.V.kp VB.all rel3 pass0 (pk_cons pe_bl (pk_cons (pv 0) (pk_cons (pv 3) pk_nil)))) pa_nil))))))
      (pss_cons (ps_set (i := 2) scTo.nd rfl (Or.inl rfl) (pe_op op_cat (pv 2) (pe_lst (pa_cons (pe_call GV hr (by rfl) J.mV J.V.kp bV vd pass0 (pa_cons (pv 1) (pa_cons (pv 0) pa_nil))) (pa_cons (pe_callN GV hr (by rfl) J.mV J.V.kp VB.kw pass0 (pa_cons (pv 1) (pa_cons (pv 0) pa_nil)) (pk_cons pe_bl pk_nil)) pa_nil)))))
      (pss_one (ps_ret (pe_op op_cat (pv 2) (pe_lst (pa_cons (pe_call GV hr (by rfl) J.mV J.V.kp bV vd pass0 (pa_cons (pv 1) (pa_cons pe_non pa_nil))) (pa_cons (pe_callN GV hr (by rfl) J.mV J.V.kp VB.kw pass0 (pa_cons (pv 1) (pa_cons pe_non pa_nil)) (pk_cons pe_bl pk_nil)) pa_nil))))))))), ?_⟩
    refine ⟨_, rfl, v, rfl, cv, fun H1 s1 => ?_⟩
    refine ⟨_, rfl, v, rfl, cv.keep s1, _, rfl, v, rfl, cv.keep s1, by show 3 ≤ sizeLine; decide, fun p hp => ?_⟩
    have sA : Same H (upd H1 p (.lst (three v))) := fun b o e => by
      rw [upd_ne (ne_of_none (s1 _ _ e) hp)]
      exact s1 _ _ e
    have fA : (upd H1 p (.lst (three v))) p = some (.lst (three v)) := upd_same
    have hpH : H p = none := s1.free hp
    refine ⟨_, rfl, _, rfl, rfl, v, rfl, cv.keep sA, fun H2 s2 => ⟨_, rfl, rfl, v, rfl, cv.keep (sA.trans s2), _, rfl, rfl, v, rfl, cv.keep (sA.trans s2), by show 3 ≤ sizeLine; decide, fun q hq => ?_⟩⟩
    have sB := sA.trans s2
    refine ⟨p, q, three v, three v, rfl, rfl, by rw [upd_ne (ne_of_none (s2 _ _ fA) hq)]; exact s2 _ _ fA, upd_same, by show 6 ≤ sizeLine; decide, fun p2 hp2 => ?_⟩
    have sC : Same H (upd (upd H2 q (.lst (three v))) p2 (.lst (three v ++ three v))) := fun b o e => by
      have e2 := sB _ _ e
      have n1 := ne_of_none e2 hq
      have e3 : (upd H2 q (.lst (three v))) b = some o := by rw [upd_ne n1]; exact e2
      rw [upd_ne (ne_of_none e3 hp2)]
      exact e3
    have fC : (upd (upd H2 q (.lst (three v))) p2 (.lst (three v ++ three v))) p2 = some (.lst (headL v)) := upd_same
    have hp2H : H p2 = none := by
      cases z : H p2 with
      | none => rfl
      | some o =>
        have e2 := sB _ _ z
        rw [upd_ne (ne_of_none e2 hq), e2] at hp2
        cases hp2
    revert sC fC
    generalize upd (upd H2 q (.lst (three v))) p2 (.lst (three v ++ three v)) = HC
    intro sC fC
    refine ⟨by show 3 ≤ sizeLine; decide, fun o ho => ?_⟩
    have np : p2 ≠ o := ne_of_none fC ho
    refine ⟨o, rfl, ⟨_, SqL.of upd_same⟩, ?_⟩
    refine for_list (xs := sorts) (fun i σ H' => Same H H' ∧ H' o = some (.lst sorts) ∧ ∃ (a : Addr) (x : Option V), σ = [some v, some s, some (.ref a), x] ∧ H a = none ∧ H' a = some (.lst (headL v ++ (sorts.take i).flatMap (kindL v))))
      ⟨fun b u e => by rw [upd_ne (ne_of_none (sC _ _ e) ho)]; exact sC _ _ e, upd_same, p2, none, rfl, hp2H, by rw [upd_ne np, fC]; rfl⟩ (fun i σ H' _ z => SqL.of z.2.1) ?_ ?_
    · rintro i kd σ H' hi ⟨sm, hO, a, x, rfl, ha, hL⟩
      have ck : Cl K H' kd := by
        have hm := List.mem_of_getElem? hi
        have : ∃ l : Tx, kd = tv l ∧ l.length ≤ 100 := by
          rcases List.mem_cons.mp hm with e | hm
          · exact ⟨_, e.trans (congrArg V.str (txt_of _)), by decide +kernel⟩
          rcases List.mem_cons.mp hm with e | hm
          · exact ⟨_, e.trans (congrArg V.str (txt_of _)), by decide +kernel⟩
          · exact ⟨_, (List.mem_singleton.mp hm).trans (congrArg V.str (txt_of _)), by decide +kernel⟩
        obtain ⟨l, rfl, hl⟩ := this
        exact .str l hl
      have cv' := cv.keep sm
      have hi3 : i < 3 := (List.getElem?_eq_some_iff.mp hi).1
      refine ⟨_, rfl, _, rfl, _, rfl, kd, v, false, rfl, ck, cv', _, rfl, _, rfl, rfl, rfl, kd, v, false, rfl, ck, cv', by show 2 ≤ sizeLine; decide, fun q2 hq2 => ?_⟩
      have lf : ((sorts.take i).flatMap (kindL v)).length = 3 * i := by
        have : i = 0 ∨ i = 1 ∨ i = 2 := by omega
        rcases this with rfl | rfl | rfl <;> rfl
      have lh : (headL v ++ (sorts.take i).flatMap (kindL v)).length ≤ 20 := by
        rw [List.length_append, lf]
        show 6 + 3 * i ≤ 20
        omega
      have hsl : sizeLine = 16777216 := sizeLine_eq
      have nq : a ≠ q2 := ne_of_none hL hq2
      refine ⟨a, q2, _, _, rfl, rfl, by rw [upd_ne nq]; exact hL, upd_same, by show (headL v ++ (sorts.take i).flatMap (kindL v)).length + 2 ≤ sizeLine; omega, fun p3 hp3 => ?_⟩
      have keep3 : ∀ b u, H' b = some u → (upd (upd H' q2 (.lst [V.bl (isVal kd v false), V.bl (isVal kd v false)])) p3 (.lst ((headL v ++ (sorts.take i).flatMap (kindL v)) ++ [V.bl (isVal kd v false), V.bl (isVal kd v false)]))) b = some u := fun b u e => by
        have e3 : (upd H' q2 (.lst [V.bl (isVal kd v false), V.bl (isVal kd v false)])) b = some u := by rw [upd_ne (ne_of_none e hq2)]; exact e
        rw [upd_ne (ne_of_none e3 hp3)]
        exact e3
      have fresh3 : H p3 = none := by
        cases z : H p3 with
        | none => rfl
        | some u =>
          have e2 := sm _ _ z
          rw [upd_ne (ne_of_none e2 hq2), e2] at hp3
          cases hp3
      have no3 : o ≠ p3 := fun e => by
        rw [← e, upd_ne (ne_of_none hO hq2), hO] at hp3
        cases hp3
      refine ⟨_, rfl, .inl ⟨rfl, _, SqL.of upd_same⟩, _, rfl, _, rfl, rfl, kd, v, true, rfl, ck.keep keep3, cv'.keep keep3, p3, _, _, rfl, rfl, upd_same, by rw [List.length_append]; show _ + 2 < sizeLine; omega, ?_⟩
      refine ⟨fun b u e => ?_, ?_, p3, some kd, rfl, fresh3, ?_⟩
      · have n3 : b ≠ p3 := fun z => by rw [z, fresh3] at e; cases e
        rw [upd_ne n3]
        exact keep3 _ _ (sm _ _ e)
      · rw [upd_ne no3]
        exact keep3 _ _ hO
      · rw [upd_same, take_flat _ hi]
        simp [kindL, List.append_assoc]
    · rintro σ H' ⟨sm, hO, a, x, rfl, ha, hL⟩
      have cv' := cv.keep sm
      have cs' := cs.keep sm
      have hsl : sizeLine = 16777216 := sizeLine_eq
      have lf : (headL v ++ (sorts.take sorts.length).flatMap (kindL v)).length = 15 := rfl
      have hL' : H' a = some (.lst (headL v ++ sorts.flatMap (kindL v))) := hL
      refine ⟨_, rfl, _, rfl, _, rfl, s, v, false, rfl, cs', cv', _, rfl, _, rfl, rfl, rfl, s, v, true, rfl, cs', cv', by show 2 ≤ sizeLine; decide, fun q2 hq2 => ?_⟩
      have nq : a ≠ q2 := ne_of_none hL hq2
      refine ⟨a, q2, _, _, rfl, rfl, by rw [upd_ne nq]; exact hL', upd_same, by show 15 + 2 ≤ sizeLine; omega, fun p3 hp3 => ?_⟩
      have keep3 : ∀ b u, H' b = some u → (upd (upd H' q2 (.lst [V.bl (isVal s v false), V.bl (isVal s v true)])) p3 (.lst ((headL v ++ sorts.flatMap (kindL v)) ++ [V.bl (isVal s v false), V.bl (isVal s v true)]))) b = some u := fun b u e => by
        have e3 : (upd H' q2 (.lst [V.bl (isVal s v false), V.bl (isVal s v true)])) b = some u := by rw [upd_ne (ne_of_none e hq2)]; exact e
        rw [upd_ne (ne_of_none e3 hp3)]
        exact e3
      have f3 : (upd (upd H' q2 (.lst [V.bl (isVal s v false), V.bl (isVal s v true)])) p3 (.lst ((headL v ++ sorts.flatMap (kindL v)) ++ [V.bl (isVal s v false), V.bl (isVal s v true)]))) p3 = some (.lst ((headL v ++ sorts.flatMap (kindL v)) ++ [V.bl (isVal s v false), V.bl (isVal s v true)])) := upd_same
      revert keep3 f3
      generalize upd (upd H' q2 (.lst [V.bl (isVal s v false), V.bl (isVal s v true)])) p3 (.lst ((headL v ++ sorts.flatMap (kindL v)) ++ [V.bl (isVal s v false), V.bl (isVal s v true)])) = H3
      intro keep3 f3
      have cs3 := cs'.keep keep3
      refine ⟨_, rfl, _, rfl, s, .non, false, rfl, cs3, .non, _, rfl, rfl, rfl, s, .non, true, rfl, cs3, .non, by show 2 ≤ sizeLine; decide, fun q4 hq4 => ?_⟩
      refine ⟨p3, q4, _, _, rfl, rfl, by rw [upd_ne (ne_of_none f3 hq4)]; exact f3, upd_same, by show 17 + 2 ≤ sizeLine; omega, fun p5 hp5 => ?_⟩
      have sm3 : Same H H3 := fun b u e => keep3 _ _ (sm _ _ e)
      refine k _ p5 (fun b u e => ?_) ?_ upd_same
      · have e1 := sm3 _ _ e
        have e3 : (upd H3 q4 (.lst [V.bl (isVal s .non false), V.bl (isVal s .non true)])) b = some u := by rw [upd_ne (ne_of_none e1 hq4)]; exact e1
        rw [upd_ne (ne_of_none e3 hp5)]
        exact e3
      · cases z : H p5 with
        | none => rfl
        | some u =>
          have e2 := sm3 _ _ z
          rw [upd_ne (ne_of_none e2 hq4), e2] at hp5
          cases hp5
end
end K11
namespace K11
open PySem L2
def kindD (v k : V) : List V := [.bl (fitV k v), .bl (fitV k v), .bl (decide (v = .non) || fitV k v)]
def dueL (v : V) : List V := headL v ++ sorts.flatMap (kindD v) ++ [.bl false, .bl false, .bl false, .bl false]
theorem fit_non : ∀ k ∈ sorts, fitV k .non = false := by
  intro k hk
  rcases List.mem_cons.mp hk with rfl | hk
  · decide +kernel
  rcases List.mem_cons.mp hk with rfl | hk
  · decide +kernel
  · rw [List.mem_singleton.mp hk]
    decide +kernel
theorem fit_is : ∀ k ∈ sorts, ∀ v : V, decide (srt v = k) = fitV k v := by
  intro k hk v
  have n1 : ¬ (V.str "text" = V.str "int") := by decide +kernel
  have n2 : ¬ (V.str "truth" = V.str "int") := by decide +kernel
  have n3 : ¬ (V.str "truth" = V.str "text") := by decide +kernel
  have i1 : ∀ i : Int, srt (.int i) = .str "int" ∨ srt (.int i) = .non := fun i => by
    by_cases h : absI i < 10 ^ (30 : Int).toNat
    · exact .inl (if_pos h)
    · exact .inr (if_neg h)
  have i2 : ∀ x : Str, srt (.str x) = .str "text" ∨ srt (.str x) = .non := fun x => by
    by_cases h : (decide ((x.length : Int) ≤ 60) && noQ x) = true
    · exact .inl (if_pos h)
    · exact .inr (if_neg h)
  rcases List.mem_cons.mp hk with rfl | hk
  · have e : fitV (.str "int") v = (intV v && decide (srt v = .str "int")) := if_pos rfl
    rw [e]
    cases v with
    | int i => rfl
    | str x =>
      rcases i2 x with z | z
      · rw [z]; exact decide_eq_false (fun q => n1 q)
      · rw [z]; rfl
    | bl b => exact decide_eq_false (fun q => n2 q)
    | _ => rfl
  rcases List.mem_cons.mp hk with rfl | hk
  · have e : fitV (.str "text") v = (vS v && decide (srt v = .str "text")) := by
      unfold fitV
      rw [if_neg n1, if_pos rfl]
    rw [e]
    cases v with
    | str x => rfl
    | int i =>
      rcases i1 i with z | z
      · rw [z]; exact decide_eq_false (fun q => n1 q.symm)
      · rw [z]; rfl
    | bl b => exact decide_eq_false (fun q => n3 q)
    | _ => rfl
  · rw [List.mem_singleton.mp hk]
    have e : fitV (.str "truth") v = vB v := by
      unfold fitV
      rw [if_neg n2, if_neg n3]
    rw [e]
    cases v with
    | bl b => exact decide_eq_true rfl
    | str x =>
      rcases i2 x with z | z
      · rw [z]; exact decide_eq_false (fun q => n3 q.symm)
      · rw [z]; rfl
    | int i =>
      rcases i1 i with z | z
      · rw [z]; exact decide_eq_false (fun q => n2 q.symm)
      · rw [z]; rfl
    | _ => rfl
theorem srt_in : ∀ k ∈ sorts, srtIn k = true := by
  intro k hk
  rcases List.mem_cons.mp hk with rfl | hk
  · decide +kernel
  rcases List.mem_cons.mp hk with rfl | hk
  · decide +kernel
  · rw [List.mem_singleton.mp hk]
    decide +kernel
theorem kind_eq (v : V) : ∀ k ∈ sorts, kindL v k = kindD v k := by
  intro k hk
  unfold kindL kindD isVal
  rw [srt_in k hk, fit_is k hk v]
  by_cases h : v = .non
  · subst h
    rw [if_pos rfl, if_pos rfl, fit_non k hk]
    rfl
  · rw [if_neg h, if_neg h, decide_eq_false h]
    rfl
theorem due_told (v s : V) (h : srtIn s = false) : toldL v s = dueL v := by
  unfold toldL dueL isVal
  rw [h]
  have e : sorts.flatMap (kindL v) = sorts.flatMap (kindD v) := by
    show kindL v (.str "int") ++ (kindL v (.str "text") ++ (kindL v (.str "truth") ++ [])) = kindD v (.str "int") ++ (kindD v (.str "text") ++ (kindD v (.str "truth") ++ []))
    rw [kind_eq v _ (by simp [sorts]), kind_eq v _ (by simp [sorts]), kind_eq v _ (by simp [sorts])]
  rw [e, List.append_assoc]
  rfl
theorem take_flatD (v : V) {i : Nat} {x : V} (h : sorts[i]? = some x) : (sorts.take (i + 1)).flatMap (kindD v) = (sorts.take i).flatMap (kindD v) ++ kindD v x := take_flat _ h
section
variable {P : Program} {w : World} {K : PySem.W.Frag} {mg : Str → Option Value} {base : Heap}
variable {fO fW fF : Addr} {dO dW dF : FuncData}
def spDue (K : PySem.W.Frag) : Sp := fun vs H Q _ => ∃ v : V, vs = [v] ∧ Cl K H v ∧ ∀ H' p, Same H H' → H p = none → H' p = some (.lst (dueL v)) → Q (.ref p) H'
theorem scDu : FnScope ["_law_thing_here", "_law_due_here", "_law_kind"] ["_law_thing_here"] (defScope sDue) := ⟨rfl, rfl, rfl, by decide +kernel, rfl, by decide +kernel, by decide +kernel⟩
theorem ok_due {f : Addr} {fd : FuncData} (F : Fun K "_law_due" "_law_due" sDue f fd) (Z : Zn mg) (AO : At K mg "_law_is_word" sIsWord ["_law_thing_here"] fO dO) (AW : At K mg "_law_is_whole" sIsWhole ["_law_thing_here"] fW dW) (AF : At K mg "_law_fits" sFits ["_law_kind", "_law_thing_here"] fF dF) :
    FnOk P w K mg base CX0 3 f fd ["_law_thing_here"] (spDue K) := by
  have GO : FnOk P w K mg base CX0 1 fO dO ["_law_thing_here"] (spName K) := ok_wo AO.F Z
  have GW : FnOk P w K mg base CX0 1 fW dW ["_law_thing_here"] (spB K intV) := ok_wh AW.F Z
  have GF : FnOk P w K mg base CX0 2 fF dF ["_law_kind", "_law_thing_here"] (spFit K) := ok_fit AF.F Z AW
  refine F.ok scDu (fun vs H Q E h => ?_) (fun cdv A outer_ s H vs Q E hr h => ?_)
  · obtain ⟨v, rfl, _⟩ := h
    rfl
  · obtain ⟨v, rfl, cv, k⟩ := h
    have hr1 := hr.mono (j := 1) (by decide)
    refine ⟨_, pss_cons (ps_set (i := 1) scDu.nd rfl (Or.inl rfl) (pe_op op_rep (pe_lst (pa_cons (pe_call GO hr1 (by rfl) AO.m AO.F.kp AO.b .nil pass0 (pa_cons (pv 0) pa_nil)) (pa_cons (pe_call GW hr1 (by rfl) AW.m AW.F.kp AW.b .nil pass0 (pa_cons (pv 0) pa_nil))
        (pa_cons (pe_and (pe_call GW hr1 (by rfl) AW.m AW.F.kp AW.b .nil pass0 (pa_cons (pv 0) pa_nil)) (pe_one (pe_cmpR op_ge (pv 0) pe_int (nomark _)))) pa_nil)))) pe_int))
      (pss_cons (ps_for PassesOwn.never rfl (pi_list (pe_lst (pa_cons pe_str (pa_cons pe_str (pa_cons pe_str pa_nil))))) (pg_name (i := 2) scDu.nd rfl (Or.inl rfl))
        (pss_one (ps_set (i := 1) scDu.nd rfl (Or.inl rfl) (pe_op op_cat (pe_op op_cat (pv 1) (pe_op op_rep (pe_lst (pa_cons (pe_call GF hr (by rfl) AF.m AF.F.kp AF.b .nil pass0 (pa_cons (pv 2) (pa_cons (pv 0) pa_nil))) pa_nil)) pe_int))
          (pe_lst (pa_cons (pe_or (pe_cmpR op_isN (pv 0) pe_non (nomark _)) (pe_one (pe_call GF hr (by rfl) AF.m AF.F.kp AF.b .nil pass0 (pa_cons (pv 2) (pa_cons (pv 0) pa_nil))))) pa_nil))))))
      (pss_one (ps_ret (pe_op op_cat (pv 1) (pe_op op_rep (pe_lst (pa_cons pe_bl pa_nil)) pe_int))))), ?_⟩
    refine ⟨_, rfl, v, rfl, cv, fun H1 s1 => ?_⟩
    have cv1 := cv.keep s1
    refine ⟨_, rfl, v, rfl, cv1, ?_⟩
    refine ⟨_, rfl, v, rfl, cv1, _, rfl, ?_⟩
    have both : ∀ R : V → Hp → Prop, R (.bl (cntV v)) H1 → (if intV v = true then tOp (rI0 fun i j => V.bl (decide (j ≤ i))) (tVar 0) (tC (V.int 0)) (start ["_law_thing_here", "_law_due_here", "_law_kind"] [v]) H1 R else R (.bl false) H1) := fun R z => by
      by_cases hi : intV v = true
      · rw [if_pos hi]
        obtain ⟨i, rfl⟩ := intV_i v hi
        exact ⟨_, rfl, _, _, rfl, rfl, z⟩
      · rw [if_neg hi]
        have hi' : intV v = false := by simpa using hi
        have e : cntV v = false := by cases v <;> first | rfl | cases hi'
        rw [e] at z
        exact z
    refine both _ ?_
    refine ⟨by show 3 ≤ sizeLine; decide, fun p hp => ?_⟩
    refine ⟨p, 2, three v, rfl, rfl, upd_same, by decide, by decide, by show 3 * 2 ≤ sizeLine; decide, fun p2 hp2 => ?_⟩
    have sC : Same H (upd (upd H1 p (.lst (three v))) p2 (.lst (List.replicate (2 : Int).toNat (three v)).flatten)) := fun b o e => by
      have e2 := s1 _ _ e
      have e3 : (upd H1 p (.lst (three v))) b = some o := by rw [upd_ne (ne_of_none e2 hp)]; exact e2
      rw [upd_ne (ne_of_none e3 hp2)]
      exact e3
    have fC : (upd (upd H1 p (.lst (three v))) p2 (.lst (List.replicate (2 : Int).toNat (three v)).flatten)) p2 = some (.lst (headL v)) := upd_same
    have hp2H : H p2 = none := by
      cases z : H p2 with
      | none => rfl
      | some o =>
        have e2 := s1 _ _ z
        rw [upd_ne (ne_of_none e2 hp), e2] at hp2
        cases hp2
    revert sC fC
    generalize upd (upd H1 p (.lst (three v))) p2 (.lst (List.replicate (2 : Int).toNat (three v)).flatten) = HC
    intro sC fC
    refine ⟨by show 3 ≤ sizeLine; decide, fun o ho => ?_⟩
    have np : p2 ≠ o := ne_of_none fC ho
    refine ⟨o, rfl, ⟨_, SqL.of upd_same⟩, ?_⟩
    refine for_list (xs := sorts) (fun i σ H' => Same H H' ∧ H' o = some (.lst sorts) ∧ ∃ (a : Addr) (x : Option V), σ = [some v, some (.ref a), x] ∧ H a = none ∧ H' a = some (.lst (headL v ++ (sorts.take i).flatMap (kindD v))))
      ⟨fun b u e => by rw [upd_ne (ne_of_none (sC _ _ e) ho)]; exact sC _ _ e, upd_same, p2, none, rfl, hp2H, by rw [upd_ne np, fC]; rfl⟩ (fun i σ H' _ z => SqL.of z.2.1) ?_ ?_
    · rintro i kd σ H' hi ⟨sm, hO, a, x, rfl, ha, hL⟩
      have hm := List.mem_of_getElem? hi
      have cv' := cv.keep sm
      have hi3 : i < 3 := (List.getElem?_eq_some_iff.mp hi).1
      have hsl : sizeLine = 16777216 := sizeLine_eq
      have lf : ((sorts.take i).flatMap (kindD v)).length = 3 * i := by
        have : i = 0 ∨ i = 1 ∨ i = 2 := by omega
        rcases this with rfl | rfl | rfl <;> rfl
      have lh : (headL v ++ (sorts.take i).flatMap (kindD v)).length ≤ 20 := by
        rw [List.length_append, lf]
        show 6 + 3 * i ≤ 20
        omega
      refine ⟨_, rfl, _, rfl, _, rfl, kd, v, rfl, hm, cv', by show 1 ≤ sizeLine; decide, fun q hq => ?_⟩
      refine ⟨q, 2, [.bl (fitV kd v)], rfl, rfl, upd_same, by decide, by decide, by show 1 * 2 ≤ sizeLine; decide, fun q2 hq2 => ?_⟩
      have nq : a ≠ q := ne_of_none hL hq
      have g1 : (upd (upd H' q (.lst [.bl (fitV kd v)])) q2 (.lst (List.replicate (2 : Int).toNat [V.bl (fitV kd v)]).flatten)) a = some (.lst (headL v ++ (sorts.take i).flatMap (kindD v))) := by
        have e3 : (upd H' q (.lst [.bl (fitV kd v)])) a = some (.lst (headL v ++ (sorts.take i).flatMap (kindD v))) := by rw [upd_ne nq]; exact hL
        rw [upd_ne (ne_of_none e3 hq2)]
        exact e3
      have kA : ∀ b u, H' b = some u → (upd (upd H' q (.lst [.bl (fitV kd v)])) q2 (.lst (List.replicate (2 : Int).toNat [V.bl (fitV kd v)]).flatten)) b = some u := fun b u e => by
        have e3 : (upd H' q (.lst [.bl (fitV kd v)])) b = some u := by rw [upd_ne (ne_of_none e hq)]; exact e
        rw [upd_ne (ne_of_none e3 hq2)]
        exact e3
      refine ⟨a, q2, _, _, rfl, rfl, g1, upd_same, by show (headL v ++ (sorts.take i).flatMap (kindD v)).length + 2 ≤ sizeLine; omega, fun p3 hp3 => ?_⟩
      have kB : ∀ b u, H' b = some u → (upd (upd (upd H' q (.lst [.bl (fitV kd v)])) q2 (.lst (List.replicate (2 : Int).toNat [V.bl (fitV kd v)]).flatten)) p3 (.lst ((headL v ++ (sorts.take i).flatMap (kindD v)) ++ (List.replicate (2 : Int).toNat [V.bl (fitV kd v)]).flatten))) b = some u := fun b u e => by
        rw [upd_ne (ne_of_none (kA _ _ e) hp3)]
        exact kA _ _ e
      have fB : (upd (upd (upd H' q (.lst [.bl (fitV kd v)])) q2 (.lst (List.replicate (2 : Int).toNat [V.bl (fitV kd v)]).flatten)) p3 (.lst ((headL v ++ (sorts.take i).flatMap (kindD v)) ++ (List.replicate (2 : Int).toNat [V.bl (fitV kd v)]).flatten))) p3 = some (.lst ((headL v ++ (sorts.take i).flatMap (kindD v)) ++ [.bl (fitV kd v), .bl (fitV kd v)])) := upd_same
      revert kB fB
      generalize upd (upd (upd H' q (.lst [.bl (fitV kd v)])) q2 (.lst (List.replicate (2 : Int).toNat [V.bl (fitV kd v)]).flatten)) p3 (.lst ((headL v ++ (sorts.take i).flatMap (kindD v)) ++ (List.replicate (2 : Int).toNat [V.bl (fitV kd v)]).flatten)) = H3
      intro kB fB
      have cv3 := cv'.keep kB
      refine ⟨_, rfl, rfl, _, rfl, ?_⟩
      have fin : ∀ b : Bool, b = (decide (v = .non) || fitV kd v) → ∀ q4, H3 q4 = none → ∀ p5, (upd H3 q4 (.lst [.bl b])) p5 = none →
          (Same H (upd (upd H3 q4 (.lst [.bl b])) p5 (.lst (((headL v ++ (sorts.take i).flatMap (kindD v)) ++ [.bl (fitV kd v), .bl (fitV kd v)]) ++ [.bl b]))) ∧ (upd (upd H3 q4 (.lst [.bl b])) p5 (.lst (((headL v ++ (sorts.take i).flatMap (kindD v)) ++ [.bl (fitV kd v), .bl (fitV kd v)]) ++ [.bl b]))) o = some (.lst sorts) ∧
            ∃ (a' : Addr) (x' : Option V), [some v, some (.ref p5), some kd] = [some v, some (.ref a'), x'] ∧ H a' = none ∧ (upd (upd H3 q4 (.lst [.bl b])) p5 (.lst (((headL v ++ (sorts.take i).flatMap (kindD v)) ++ [.bl (fitV kd v), .bl (fitV kd v)]) ++ [.bl b]))) a' = some (.lst (headL v ++ (sorts.take (i + 1)).flatMap (kindD v)))) := fun b hb q4 hq4 p5 hp5 => by
        have kC : ∀ c u, H' c = some u → (upd (upd H3 q4 (.lst [.bl b])) p5 (.lst (((headL v ++ (sorts.take i).flatMap (kindD v)) ++ [.bl (fitV kd v), .bl (fitV kd v)]) ++ [.bl b]))) c = some u := fun c u e => by
          have e1 := kB _ _ e
          have e3 : (upd H3 q4 (.lst [.bl b])) c = some u := by rw [upd_ne (ne_of_none e1 hq4)]; exact e1
          rw [upd_ne (ne_of_none e3 hp5)]
          exact e3
        refine ⟨fun c u e => kC _ _ (sm _ _ e), kC _ _ hO, p5, some kd, rfl, ?_, ?_⟩
        · cases z : H p5 with
          | none => rfl
          | some u =>
            have e2 := kB _ _ (sm _ _ z)
            rw [upd_ne (ne_of_none e2 hq4), e2] at hp5
            cases hp5
        · rw [upd_same, take_flatD v hi, hb]
          simp [kindD, List.append_assoc]
      refine ite2 (fun hn => ?_) (fun hn => ?_)
      · refine ⟨by show 1 ≤ sizeLine; decide, fun q4 hq4 => ?_⟩
        refine ⟨p3, q4, _, _, rfl, rfl, by rw [upd_ne (ne_of_none fB hq4)]; exact fB, upd_same, by rw [List.length_append]; show _ + 2 + 1 ≤ sizeLine; omega, fun p5 hp5 => ?_⟩
        exact fin true (by rw [hn]; rfl) q4 hq4 p5 hp5
      · have hn' : decide (v = .non) = false := by simpa using hn
        refine ⟨_, rfl, _, rfl, kd, v, rfl, hm, cv3, by show 1 ≤ sizeLine; decide, fun q4 hq4 => ?_⟩
        refine ⟨p3, q4, _, _, rfl, rfl, by rw [upd_ne (ne_of_none fB hq4)]; exact fB, upd_same, by rw [List.length_append]; show _ + 2 + 1 ≤ sizeLine; omega, fun p5 hp5 => ?_⟩
        exact fin (fitV kd v) (by rw [hn']; rfl) q4 hq4 p5 hp5
    · rintro σ H' ⟨sm, hO, a, x, rfl, ha, hL⟩
      have hL' : H' a = some (.lst (headL v ++ sorts.flatMap (kindD v))) := hL
      refine ⟨_, rfl, by show 1 ≤ sizeLine; decide, fun q hq => ?_⟩
      refine ⟨q, 4, [.bl false], rfl, rfl, upd_same, by decide, by decide, by show 1 * 4 ≤ sizeLine; decide, fun q2 hq2 => ?_⟩
      have kA : ∀ b u, H' b = some u → (upd (upd H' q (.lst [.bl false])) q2 (.lst (List.replicate (4 : Int).toNat [V.bl false]).flatten)) b = some u := fun b u e => by
        have e3 : (upd H' q (.lst [.bl false])) b = some u := by rw [upd_ne (ne_of_none e hq)]; exact e
        rw [upd_ne (ne_of_none e3 hq2)]
        exact e3
      refine ⟨a, q2, _, _, rfl, rfl, kA _ _ hL', upd_same, by show 15 + 4 ≤ sizeLine; decide, fun p5 hp5 => ?_⟩
      refine k _ p5 (fun b u e => ?_) ?_ upd_same
      · rw [upd_ne (ne_of_none (kA _ _ (sm _ _ e)) hp5)]
        exact kA _ _ (sm _ _ e)
      · cases z : H p5 with
        | none => rfl
        | some u =>
          rw [kA _ _ (sm _ _ z)] at hp5
          cases hp5
end
end K11
namespace K11
open PySem L2
/-! ### repr of a pair -/
theorem ext_same {H H' : Hp} (e : Ext H H') : Same H H' := e
theorem same_ext {H H' : Hp} (e : Same H H') : Ext H H' := e
/-- how the list of v and s is shown -/
def Pr (K : PySem.W.Frag) (C : Addr) (H : Hp) (v s : V) (t : Str) : Prop := ∃ e, Th K H s e ∧ Sho e ∧ ((∃ d, Th K H v d ∧ Sho d ∧ t = listText [d.shown, e.shown]) ∨ ∃ p ys, v = .ref p ∧ Lb C H p ys ∧ t = listText [lshow ys, e.shown])
theorem Pr.keep {K : PySem.W.Frag} {C : Addr} {H H' : Hp} {v s : V} {t : Str} (h : Pr K C H v s t) (sm : Same H H') : Pr K C H' v s t := by
  obtain ⟨e, te, se, h⟩ := h
  refine ⟨e, te.keep fun a o _ z => sm a o z, se, ?_⟩
  rcases h with ⟨d, td, sd, rfl⟩ | ⟨p, ys, rfl, lb, rfl⟩
  · exact .inl ⟨d, td.keep fun a o _ z => sm a o z, sd, rfl⟩
  · exact .inr ⟨p, ys, rfl, lb.keep fun b o z _ => sm b o z, rfl⟩
theorem lshow_len {ys : List Str} (n : ys.all isNm = true) (l : ys.length ≤ 4) : (lshow ys).length ≤ 2000 := by
  have each : ∀ zs : List Str, (∀ y ∈ zs, isNm y = true) → ((zs.map reprText).map (·.length)).sum ≤ 82 * zs.length := fun zs => by
    induction zs with
    | nil => intro _; decide
    | cons z zs ih =>
      intro hz
      have a := repr_len8 (hz z List.mem_cons_self)
      have b := ih fun y hy => hz y (List.mem_cons_of_mem _ hy)
      rw [List.map_cons, List.map_cons, List.sum_cons, List.length_cons]
      omega
  have a := each ys fun y hy => List.all_eq_true.mp n y hy
  have b : comma.length = 2 := by decide +kernel
  have c := join_len comma (ys.map reprText)
  rw [b, List.length_map] at c
  have e7 : ("Label(" : Str).length = 6 := by decide +kernel
  have e8 : (")" : Str).length = 1 := by decide +kernel
  unfold lshow
  rw [strLen_append, strLen_append, strLen_append, e7, e8, join_is]
  show 0 + 6 + _ + 1 ≤ 2000
  omega
section
variable {X : Cx} {C g : Addr} {gd : FuncData}
def rReprP (X : Cx) (C : Addr) : List V → Hp → VK → Prop := fun xs H Q => ∃ (a : Addr) (v s : V) (t : Str), xs = [.ref a] ∧ H a = some (.lst [v, s]) ∧ Pr X.K C H v s t ∧ ∀ H', Same H H' → Q (.str t) H'
theorem call_reprP (GR : FnOk X.prog X.w X.K X.mg X.base CX0 1 g gd ["self"] (spRepr C)) (hb : Binds X.K gd ["self"] []) (rg : PySem.W.findIn X.K (.ref C) "__repr__" = some (some (.ref g))) (fg : PySem.W.isFn X.K (.ref g) = true) (hr : Room 6 X.A) (gd0 : X.A.guards = some []) :
    CallR X (.builtin "repr") (rReprP X C) := by
  rintro pins s0 σ H xs us Q I r ⟨a, v, s, t, rfl, ha, ⟨e, te, se, h⟩, k⟩
  rcases h with ⟨d, td, sd, rfl⟩ | ⟨p, ys, rfl, lb, rfl⟩
  · rw [Vals.ref1 r]
    obtain ⟨lim, its, n, rv, il, at_⟩ := I.lstM ha
    match its, rv with
    | [u1, u2], .cons r1 (.cons r2 .nil) =>
      obtain ⟨as1, rd1, n1⟩ := td.reads I r1
      obtain ⟨as2, rd2, n2⟩ := te.reads I r2
      have whole : Reads s0.heap (.ref a) (.list [d, e]) (a :: (as1 ++ (as2 ++ []))) := Reads.list at_ rfl rfl (.cons rd1 (.cons rd2 .nil))
      have un := hr.un
      have z1 : d.shown.length ≤ sizeLine := sd.fits
      have z2 : e.shown.length ≤ sizeLine := se.fits
      obtain ⟨b1, hb1, k1⟩ := ReprAllK.of_readsAll (prog := X.prog) (w := X.w) (ReadsAll.cons rd1 .nil) (by simp [PyData.showableAll, sd.1]) (fun hx hm => n1 (by simpa [PyData.hasDictAll] using hx) (by simpa using hm)) (fun t ht => by simp only [PyData.shownAll, List.mem_singleton] at ht; rw [ht]; exact z1)
      obtain ⟨b2, hb2, k2⟩ := ReprAllK.of_readsAll (prog := X.prog) (w := X.w) (ReadsAll.cons rd2 .nil) (by simp [PyData.showableAll, se.1]) (fun hx hm => n2 (by simpa [PyData.hasDictAll] using hx) (by simpa using hm)) (fun t ht => by simp only [PyData.shownAll, List.mem_singleton] at ht; rw [ht]; exact z2)
      have hd1 : PyData.depthAll [d] ≤ d.depth + e.depth := by simp only [PyData.depthAll]; omega
      have hd2 : PyData.depthAll [e] ≤ d.depth + e.depth := by simp only [PyData.depthAll]; omega
      have q1 := k1.more_le (as' := b1 ++ b2) (fun b hb => List.mem_append_left _ hb) hd1
      have q2 := k2.more_le (as' := b1 ++ b2) (fun b hb => List.mem_append_right _ hb) hd2
      have hna : a ∉ b1 ++ b2 := by
        intro hm
        rcases List.mem_append.mp hm with m | m
        · exact not_mem_of_deeper whole (n := PyData.depthAll [d]) (by simp only [PyData.depth, PyData.depthAll]; omega) hb1 m
        · exact not_mem_of_deeper whole (n := PyData.depthAll [e]) (by simp only [PyData.depth, PyData.depthAll]; omega) hb2 m
      have len : (listText [d.shown, e.shown]).length ≤ sizeLine := by
        rw [len_l2]
        have := sd.2.1
        have := se.2.1
        rw [sizeLine_eq]
        omega
      refine call_repr_slot (T := "list") (idr := "list.__repr__") (s := s0) (by omega) ⟨_, at_, rfl⟩ F.slot_list_repr.toG ?_
      refine call_list_reprK (as := b1 ++ b2) (h₀ := s0.heap) (d := d.depth + e.depth) (ts := [d.shown, e.shown]) (s := s0) at_ rfl rfl hna rfl (fun i y hy => ?_) gd0 (fun b _ => Clear.nil b) ?_ (fun _ _ z => z) (fun h' u tk kk => ⟨_, _, rfl, .str (listText [d.shown, e.shown]), H, I.kept kk, ⟨_, rfl⟩, k H (Same.refl H)⟩) len
      · match i with
        | 0 =>
          obtain ⟨t, ht, rt⟩ := q1.item 0 y (by simpa using hy)
          exact ⟨t, by simpa [PyData.shownAll] using ht, rt⟩
        | 1 =>
          obtain ⟨t, ht, rt⟩ := q2.item 0 y (by simpa using hy)
          exact ⟨t, by simpa [PyData.shownAll] using ht, rt⟩
        | j + 2 => simp at hy
      · have := sd.2.2
        have := se.2.2
        show X.A.units + 1 + _ < cLine
        omega
  · obtain ⟨dx, tt, hp, _⟩ := lb.2.2
    refine call_reprL hr gd0 pins s0 σ H _ us Q I r ⟨a, p, C, dx, _, [.ref p, s], [lshow ys, e.shown], rfl, ha, List.mem_cons_self, hp, rfl, ?_, fun i v t hv ht => ?_, fun H' ex => k H' ex⟩
    · rw [len_l2]
      have := lshow_len lb.1 lb.2.1
      have := se.2.1
      rw [sizeLine_eq]
      omega
    · match i with
      | 0 =>
        cases hv
        cases ht
        refine shows_ins GR hb rg fg (Nat.le_trans (lshow_len lb.1 lb.2.1) (by decide)) (fun H1 ex => ⟨dx, _, ex _ _ hp⟩) fun H1 ex => ⟨p, ys, rfl, lb.keep fun b o z _ => ex b o z, fun H' sm => ⟨rfl, sm⟩⟩
      | 1 =>
        cases hv
        cases ht
        exact shows_dat se fun pins σ H1 s1 u I1 ex ru => (te.keep fun b o _ z => ex b o z).reads I1 ru
      | j + 2 => cases hv
end
end K11
namespace K11
open PySem L2
theorem da_lit {K : PySem.W.Frag} {H : Hp} {r : Addr} {y : Str} (h : litS 100 y = true) : Da K H r (.str y) (.str y) := by
  obtain ⟨b, rfl, h1, h2⟩ := litS_is h
  exact ⟨.str _, sho_str h1 h2, (fun a e => nomatch e), (fun x e => ⟨b, (V.str.inj e).symm, h2⟩), .off fun _ e => nomatch e⟩
theorem sho_int_t : Sho (.tuple [.str "int"]) := ⟨by decide +kernel, by decide +kernel, by decide +kernel⟩
theorem sho_int_l : Sho (.list [.str "int"]) := ⟨by decide +kernel, by decide +kernel, by decide +kernel⟩
section
variable {P : Program} {w : World} {K : PySem.W.Frag} {mg : Str → Option Value} {base : Heap}
variable {fD fC fL fG fS fN : Addr} {dD dC dL dG dS dN : FuncData}
def spNoS (K : PySem.W.Frag) : Sp := fun vs H Q _ => ∃ r : Addr, vs = [.ref r] ∧ Rg H r ∧ ∀ H' v d, Kp r H H' → Da K H' r v d → srtIn v = false → (∀ a, v = .ref a → H a = none) → Q v H'
theorem scNs : FnScope ["_law_rng_here"] ["_law_rng_here"] (defScope sNoSort) := ⟨rfl, rfl, rfl, by decide +kernel, rfl, by decide +kernel, by decide +kernel⟩
theorem ok_nosort {fA : Addr} {dA : FuncData} (G : GEnv K mg fD fC fL fG fS fN dD dC dL dG dS dN) (AA : At K mg "_law_no_sort" sNoSort ["_law_rng_here"] fA dA) : FnOk P w K mg base CX0 3 fA dA ["_law_rng_here"] (spNoS K) := by
  have GD : FnOk P w K mg base CX0 1 fD dD ["_law_rng_here", "_law_many"] spDraw := ok_draw G.D.F G.B
  have GC : FnOk P w K mg base CX0 2 fC dC ["_law_rng_here", "_law_options"] (spChoice K) := ok_choice G.C.F G.B G.D
  refine AA.F.ok scNs (fun vs H Q E h => ?_) (fun cdv A outer_ s H0 vs Q E hr h => ?_)
  · obtain ⟨r, rfl, _⟩ := h
    rfl
  · obtain ⟨r, rfl, g, k⟩ := h
    refine ⟨_, pss_one (ps_ret (pe_call GC hr (by rfl) G.C.m G.C.F.kp G.C.b .nil pass0 (pa_cons (pv 0) (pa_cons (pe_lst (pa_cons pe_non (pa_cons pe_int (pa_cons pe_bl (pa_cons pe_str (pa_cons pe_str (pa_cons pe_str (pa_cons pe_str (pa_cons pe_str (pa_cons (pe_lst pa_nil) (pa_cons (pe_tup (pa_cons pe_str pa_nil)) (pa_cons pe_dnewK (pa_cons (pe_lst (pa_cons pe_str pa_nil)) (pa_cons pe_str pa_nil)))))))))))))) pa_nil)))), ?_⟩
    have k0 : Kp r H0 H0 := Kp.refl r H0
    refine ⟨_, rfl, ?_⟩
    refine ⟨by show 0 ≤ sizeLine; decide, fun a1 h1 => ?_⟩
    have n1 : a1 ≠ r := (k0.2 g).ne h1
    have s1 : Same H0 (upd H0 a1 (HO.lst [])) := same_upd h1
    have f1 : (upd H0 a1 (HO.lst [])) a1 = some (HO.lst []) := upd_same
    revert s1 f1
    generalize upd H0 a1 (HO.lst []) = J1
    intro s1 f1
    have q1 : Kp r H0 J1 := k0.trans (Kp.of_same s1)
    refine ⟨by show 1 ≤ sizeLine; decide, fun a2 h2 => ?_⟩
    have n2 : a2 ≠ r := (q1.2 g).ne h2
    have s2 : Same J1 (upd J1 a2 (HO.tup [.str "int"])) := same_upd h2
    have f2 : (upd J1 a2 (HO.tup [.str "int"])) a2 = some (HO.tup [.str "int"]) := upd_same
    revert s2 f2
    generalize upd J1 a2 (HO.tup [.str "int"]) = J2
    intro s2 f2
    have q2 : Kp r H0 J2 := q1.trans (Kp.of_same s2)
    intro a3 h3
    have n3 : a3 ≠ r := (q2.2 g).ne h3
    have s3 : Same J2 (upd J2 a3 (HO.dK [])) := same_upd h3
    have f3 : (upd J2 a3 (HO.dK [])) a3 = some (HO.dK []) := upd_same
    revert s3 f3
    generalize upd J2 a3 (HO.dK []) = J3
    intro s3 f3
    have q3 : Kp r H0 J3 := q2.trans (Kp.of_same s3)
    refine ⟨by show 1 ≤ sizeLine; decide, fun a4 h4 => ?_⟩
    have n4 : a4 ≠ r := (q3.2 g).ne h4
    have s4 : Same J3 (upd J3 a4 (HO.lst [.str "int"])) := same_upd h4
    have f4 : (upd J3 a4 (HO.lst [.str "int"])) a4 = some (HO.lst [.str "int"]) := upd_same
    revert s4 f4
    generalize upd J3 a4 (HO.lst [.str "int"]) = J4
    intro s4 f4
    have q4 : Kp r H0 J4 := q3.trans (Kp.of_same s4)
    refine ⟨by show 13 ≤ sizeLine; decide, fun o ho => ?_⟩
    have so : Same J4 (upd J4 o (HO.lst [.non, .int 0, .bl true, .str "", .str "Int", .str "integer", .str "empty", .str "row", .ref a1, .ref a2, .ref a3, .ref a4, .str "int "])) := same_upd ho
    have ko := q4.trans (Kp.of_same (r := r) so)
    refine ⟨r, _, rfl, ko.2 g, .inl ⟨o, _, rfl, upd_same, (q4.2 g).ne ho, (fun e => nomatch e), by show 13 ≤ big; decide, fun H2 x k2 hx => ?_⟩⟩
    have kf := ko.trans k2
    have u1 : ∀ b o, b ≠ r → J1 b = some o → H2 b = some o := fun b o ne e => k2.1 b o ne (so _ _ (s4 _ _ (s3 _ _ (s2 _ _ (e)))))
    have u2 : ∀ b o, b ≠ r → J2 b = some o → H2 b = some o := fun b o ne e => k2.1 b o ne (so _ _ (s4 _ _ (s3 _ _ (e))))
    have u3 : ∀ b o, b ≠ r → J3 b = some o → H2 b = some o := fun b o ne e => k2.1 b o ne (so _ _ (s4 _ _ (e)))
    have u4 : ∀ b o, b ≠ r → J4 b = some o → H2 b = some o := fun b o ne e => k2.1 b o ne (so _ _ (e))
    rcases List.mem_cons.mp hx with e | hx
    · rw [e]
      exact k H2 _ _ kf ⟨.non, sho_non, (fun a e => nomatch e), (fun x e => nomatch e), .off fun _ e => nomatch e⟩ (by decide +kernel) (fun a e => nomatch e)
    rcases List.mem_cons.mp hx with e | hx
    · rw [e]
      exact k H2 _ _ kf ⟨.int _, sho_int (by decide +kernel), (fun a e => nomatch e), (fun x e => nomatch e), .off fun _ e => nomatch e⟩ (by decide +kernel) (fun a e => nomatch e)
    rcases List.mem_cons.mp hx with e | hx
    · rw [e]
      exact k H2 _ _ kf ⟨.bl _, sho_bl _, (fun a e => nomatch e), (fun x e => nomatch e), .off fun _ e => nomatch e⟩ (by decide +kernel) (fun a e => nomatch e)
    rcases List.mem_cons.mp hx with e | hx
    · rw [e]
      exact k H2 _ _ kf (da_lit (by decide +kernel)) (by decide +kernel) (fun a e => nomatch e)
    rcases List.mem_cons.mp hx with e | hx
    · rw [e]
      exact k H2 _ _ kf (da_lit (by decide +kernel)) (by decide +kernel) (fun a e => nomatch e)
    rcases List.mem_cons.mp hx with e | hx
    · rw [e]
      exact k H2 _ _ kf (da_lit (by decide +kernel)) (by decide +kernel) (fun a e => nomatch e)
    rcases List.mem_cons.mp hx with e | hx
    · rw [e]
      exact k H2 _ _ kf (da_lit (by decide +kernel)) (by decide +kernel) (fun a e => nomatch e)
    rcases List.mem_cons.mp hx with e | hx
    · rw [e]
      exact k H2 _ _ kf (da_lit (by decide +kernel)) (by decide +kernel) (fun a e => nomatch e)
    rcases List.mem_cons.mp hx with e | hx
    · rw [e]
      exact k H2 _ _ kf ⟨.lst (u1 _ _ n1 f1) (fun _ => .nil) rfl, sho_l0, (fun a e => by cases e; exact n1), (fun x e => nomatch e), .lst (u1 _ _ n1 f1) rfl⟩ (by rfl) (fun a e => by cases e; exact k0.free g h1)
    rcases List.mem_cons.mp hx with e | hx
    · rw [e]
      exact k H2 _ _ kf ⟨.tup (u2 _ _ n2 f2) (dp1 fun _ => .str _) rfl, sho_int_t, (fun a e => by cases e; exact n2), (fun x e => nomatch e), .tup (u2 _ _ n2 f2) rfl⟩ (by rfl) (fun a e => by cases e; exact q1.free g h2)
    rcases List.mem_cons.mp hx with e | hx
    · rw [e]
      exact k H2 _ _ kf ⟨.d0 (u3 _ _ n3 f3), sho_d0, (fun a e => by cases e; exact n3), (fun x e => nomatch e), .dct (u3 _ _ n3 f3)⟩ (by rfl) (fun a e => by cases e; exact q2.free g h3)
    rcases List.mem_cons.mp hx with e | hx
    · rw [e]
      exact k H2 _ _ kf ⟨.lst (u4 _ _ n4 f4) (dp1 fun _ => .str _) rfl, sho_int_l, (fun a e => by cases e; exact n4), (fun x e => nomatch e), .lst (u4 _ _ n4 f4) rfl⟩ (by rfl) (fun a e => by cases e; exact q3.free g h4)
    rw [List.mem_singleton.mp hx]
    exact k H2 _ _ kf (da_lit (by decide +kernel)) (by decide +kernel) (fun a e => nomatch e)
end
end K11
namespace K11
open PySem L2
/-! ### lists of truth values -/
def dB : List Bool → List PyData
  | [] => []
  | b :: bs => .bool b :: dB bs
theorem dB_nil : dB [] = [] := rfl
theorem dB_cons (b : Bool) (bs : List Bool) : dB (b :: bs) = .bool b :: dB bs := rfl
theorem db_show : ∀ bs : List Bool, PyData.showableAll (dB bs) = true ∧ PyData.depthAll (dB bs) = 0 ∧ PyData.hasDictAll (dB bs) = false ∧ ((PyData.shownAll (dB bs)).map (·.length)).sum ≤ 5 * bs.length ∧ (PyData.shownAll (dB bs)).length = bs.length
  | [] => ⟨by rw [dB_nil, PyData.showableAll], by rw [dB_nil, PyData.depthAll], by rw [dB_nil, PyData.hasDictAll], by rw [dB_nil, PyData.shownAll]; exact Nat.zero_le _, by rw [dB_nil, PyData.shownAll]; rfl⟩
  | b :: bs => by
    obtain ⟨h1, h2, h3, h4, h5⟩ := db_show bs
    have e : (PyData.shown (.bool b)).length ≤ 5 := by
      rw [PyData.shown]
      cases b <;> decide +kernel
    refine ⟨?_, ?_, ?_, ?_, ?_⟩
    · rw [dB_cons, PyData.showableAll, h1, PyData.showable]
      rfl
    · rw [dB_cons, PyData.depthAll, h2, PyData.depth]
      rfl
    · rw [dB_cons, PyData.hasDictAll, h3, PyData.hasDict]
      rfl
    · rw [dB_cons, PyData.shownAll, List.map_cons, List.sum_cons, List.length_cons]
      omega
    · rw [dB_cons, PyData.shownAll, List.length_cons, List.length_cons, h5]
theorem db_dp {K : PySem.W.Frag} (H1 : Hp) : ∀ bs : List Bool, DpAll K H1 (bs.map V.bl) (dB bs)
  | [] => .nil
  | b :: bs => .cons (.bl b) (db_dp H1 bs)
theorem db_sho {bs : List Bool} (h : bs.length ≤ 100) : Sho (.list (dB bs)) := by
  obtain ⟨h1, h2, h3, h4, h5⟩ := db_show bs
  refine ⟨by rw [PyData.showable, h1], ?_, by rw [PyData.depth, h2]; decide⟩
  rw [PyData.shown]
  have := listText_len_le (PyData.shownAll (dB bs))
  omega
theorem db_th {K : PySem.W.Frag} {H : Hp} {a : Addr} {bs : List Bool} (e : H a = some (.lst (bs.map V.bl))) : Th K H (.ref a) (.list (dB bs)) := .lst e (fun H1 => db_dp H1 bs) (db_show bs).2.2.1
theorem due_bools (v : V) : ∃ bs : List Bool, dueL v = bs.map V.bl ∧ bs.length ≤ 100 := ⟨[_, _, _, _, _, _, _, _, _, _, _, _, _, _, _, _, _, _, _], rfl, by show 19 ≤ 100; decide⟩
/-! ### things, kept while a list grows -/
/-- all stands but r and D -/
def Kb (r D : Addr) (H H' : Hp) : Prop := ∀ b o, b ≠ r → b ≠ D → H b = some o → H' b = some o
theorem Th.at {K : PySem.W.Frag} {H : Hp} {a : Addr} {d : PyData} (h : Th K H (.ref a) d) : ∃ o, H a = some o := by
  cases h with
  | lst e _ _ => exact ⟨_, e⟩
  | tup e _ _ => exact ⟨_, e⟩
  | d0 e => exact ⟨_, e⟩
  | d1 e => exact ⟨_, e⟩
theorem Tg.at {K : PySem.W.Frag} {C : Addr} {H : Hp} {r a : Addr} (h : Tg K C H r (.ref a)) : ∃ o, H a = some o := by
  cases h with
  | dat h => exact h.th.at
  | lab h =>
    obtain ⟨_, _, dx, t, e, _⟩ := h
    exact ⟨_, e⟩
theorem Da.keepD {K : PySem.W.Frag} {H H' : Hp} {r D : Addr} {v : V} {d : PyData} (h : Da K H r v d) (n : v ≠ .ref D) (k : Kb r D H H') : Da K H' r v d :=
  ⟨h.th.keep fun a o e q => k a o (h.ne a e) (fun z => n (by rw [e, z])) q, h.sh, h.ne, h.st, h.ft.keep h.th fun a o e q => k a o (h.ne a e) (fun z => n (by rw [e, z])) q⟩
theorem Tg.keepD {K : PySem.W.Frag} {C : Addr} {H H' : Hp} {r D : Addr} {v : V} {l : List V} (g : Rg H r) (hD : H D = some (.lst l)) (h : Tg K C H r v) (n : v ≠ .ref D) (k : Kb r D H H') : Tg K C H' r v := by
  cases h with
  | dat h => exact .dat (h.keepD n k)
  | lab h =>
    refine .lab (h.keep fun b o e z => k b o (fun q => ?_) (fun q => ?_) e)
    · obtain ⟨x, y, er, _⟩ := g
      rw [q, er] at e
      cases e
      rcases z with ⟨_, z⟩ | ⟨_, _, _, z⟩ <;> cases z
    · rw [q, hD] at e
      cases e
      rcases z with ⟨_, z⟩ | ⟨_, _, _, z⟩ <;> cases z
/-- a thing and what is no sort -/
def Pa (K : PySem.W.Frag) (C : Addr) (H : Hp) (r D : Addr) (q : V) : Prop := ∃ (p : Addr) (v s : V) (d : PyData), q = .ref p ∧ H p = some (.tup [v, s]) ∧ Tg K C H r v ∧ Da K H r s d ∧ srtIn s = false ∧ v ≠ .ref D ∧ s ≠ .ref D
theorem Pa.keepD {K : PySem.W.Frag} {C : Addr} {H H' : Hp} {r D : Addr} {q : V} {l : List V} (g : Rg H r) (hD : H D = some (.lst l)) (h : Pa K C H r D q) (k : Kb r D H H') : Pa K C H' r D q := by
  obtain ⟨p, v, s, d, rfl, e, tv, ds, no, n1, n2⟩ := h
  refine ⟨p, v, s, d, rfl, k p _ (fun z => ?_) (fun z => ?_) e, tv.keepD g hD n1 k, ds.keepD n2 k, no, n1, n2⟩
  · obtain ⟨x, y, er, _⟩ := g
    rw [z, er] at e
    cases e
  · rw [z, hD] at e
    cases e
theorem kb_same {r D : Addr} {H H' : Hp} (s : Same H H') : Kb r D H H' := fun b o _ _ e => s b o e
theorem kb_kp {r D : Addr} {H H' : Hp} (s : Kp r H H') : Kb r D H H' := fun b o n _ e => s.1 b o n e
theorem kb_upd {r D : Addr} {H : Hp} {o : HO} : Kb r D H (upd H D o) := fun b u _ n e => by rw [upd_ne n]; exact e
theorem Kb.trans {r D : Addr} {H H1 H2 : Hp} (a : Kb r D H H1) (b : Kb r D H1 H2) : Kb r D H H2 := fun c o h1 h2 e => b c o h1 h2 (a c o h1 h2 e)
theorem rg_upd {H : Hp} {r D : Addr} {o : HO} (g : Rg H r) (n : D ≠ r) : Rg (upd H D o) r := by
  obtain ⟨x, y, e, p⟩ := g
  exact ⟨x, y, by rw [upd_ne (Ne.symm n)]; exact e, p⟩
theorem kp_upd {H0 H : Hp} {r D : Addr} {o : HO} (k : Kp r H0 H) (f : H0 D = none) (n : D ≠ r) : Kp r H0 (upd H D o) :=
  ⟨fun b u nb e => by rw [upd_ne (ne_of_none e f)]; exact k.1 b u nb e, fun g => rg_upd (k.2 g) n⟩
end K11
namespace K11
open PySem L2
abbrev NR : List Str := ["_law_rng_here", "_law_things", "_law_k", "_law_pairs", "_law_thing_here", "_law_turn", "_law_strange", "_law_shown"]
theorem scRi : FnScope NR ["_law_rng_here"] (defScope sRight) := ⟨rfl, rfl, rfl, by decide +kernel, rfl, by decide +kernel, by decide +kernel⟩
def spRt : Sp := fun vs H Q _ => ∃ r : Addr, vs = [.ref r] ∧ Rg H r ∧ ∀ H', Kp r H H' → Q (.bl true) H'
section
variable {P : Program} {w : World} {K : PySem.W.Frag} {mg : Str → Option Value} {base : Heap}
theorem ok_right {C g f fT fN fO fU : Addr} {gd fd dT dN dO dU : FuncData} (F : Fun K "_law_right" "_law_right" sRight f fd) (B : BEnv mg) (Z : Zn mg) (LI : LabI K C) (zRepr : mg "repr" = none)
    (AT : At K mg "_law_thing" sThing ["_law_rng_here"] fT dT) (GT : FnOk P w K mg base CX0 4 fT dT ["_law_rng_here"] (spThing K C))
    (AN : At K mg "_law_no_sort" sNoSort ["_law_rng_here"] fN dN) (GN : FnOk P w K mg base CX0 3 fN dN ["_law_rng_here"] (spNoS K))
    (AO : At K mg "_law_told" sTold ["_law_thing_here", "_law_strange"] fO dO) (GO : FnOk P w K mg base CX0 3 fO dO ["_law_thing_here", "_law_strange"] (spTold K))
    (AU : At K mg "_law_due" sDue ["_law_thing_here"] fU dU) (GU : FnOk P w K mg base CX0 3 fU dU ["_law_thing_here"] (spDue K))
    (GR : FnOk P w K mg base CX0 1 g gd ["self"] (spRepr C)) (hb : Binds K gd ["self"] []) (rg : PySem.W.findIn K (.ref C) "__repr__" = some (some (.ref g))) (fg : PySem.W.isFn K (.ref g) = true) :
    FnG P w K mg base 7 f fd ["_law_rng_here"] spRt := by
  refine okG F scRi (fun vs H Q E h => ?_) (fun cdv A outer_ s H0 vs Q E gd0 hr h => ?_)
  · obtain ⟨r, rfl, _⟩ := h
    rfl
  · obtain ⟨r, rfl, g0, k⟩ := h
    have hr3 := hr.mono (j := 3) (by decide)
    have hr4 := hr.mono (j := 4) (by decide)
    have un2 : (A.deeper (PyProof.Rows.envOfC "_law_right" (defScope sRight) s.heap.objs.size f cdv)).units + 200 < cLine := by
      have := hr.un
      omega
    refine ⟨_, pss_cons (ps_setLc (i := 1) (own := [("_law_k", 2)]) (g := gName 2) (tt := tYes) rfl scRi.nd rfl rfl (sw_true rfl rfl rfl rfl) (pi_range1 (by rfl) B.zRange (pa_cons pe_int pa_nil)) (blkOk_by (N := NR) (sc := defScope sRight) (by decide +kernel))
          (fun _ _ _ _ _ => pg_name (i := 2) scRi.nd rfl (Or.inl rfl)) (fun _ _ _ _ _ => pts_nil) (fun _ _ _ _ _ => pe_call GT hr4 (by rfl) AT.m AT.F.kp AT.b .nil pass0 (pa_cons (pv 0) pa_nil)))
      (pss_cons (ps_setLc (i := 3) (own := [("_law_thing_here", 4)]) (g := gName 4) (tt := tYes) rfl scRi.nd rfl rfl (sw_true rfl rfl rfl rfl) (pi_list (pv 1)) (blkOk_by (N := NR) (sc := defScope sRight) (by decide +kernel))
          (fun _ _ _ _ _ => pg_name (i := 4) scRi.nd rfl (Or.inl rfl)) (fun _ _ _ _ _ => pts_nil) (fun _ _ _ _ _ => pe_tup (pa_cons (pv 4) (pa_cons (pe_call GN hr3 (by rfl) AN.m AN.F.kp AN.b .nil pass0 (pa_cons (pv 0) pa_nil)) pa_nil))))
      (pss_cons (ps_for PassesOwn.never rfl (pi_range1 (by rfl) B.zRange (pa_cons pe_int pa_nil)) (pg_name (i := 5) scRi.nd rfl (Or.inl rfl))
          (pss_one (ps_for PassesOwn.never rfl (pi_list (pv 3)) (pg_tup rfl (pgs_cons (pg_name (i := 4) scRi.nd rfl (Or.inl rfl)) (pgs_cons (pg_name (i := 6) scRi.nd rfl (Or.inl rfl)) pgs_nil)))
            (pss_cons (ps_set (i := 7) scRi.nd rfl (Or.inl rfl) (pe_callB (call_reprP GR hb rg fg hr gd0) (by rfl) zRepr (by decide +kernel) (pa_cons (pe_lst (pa_cons (pv 4) (pa_cons (pv 6) pa_nil))) pa_nil)))
            (pss_one (ps_if (PW.pt (pw_or (pt_cmpR op_ne (pe_callB (call_reprD gd0 un2) (by rfl) zRepr (by decide +kernel) (pa_cons (pe_call GO hr3 (by rfl) AO.m AO.F.kp AO.b .nil pass0 (pa_cons (pv 4) (pa_cons (pv 6) pa_nil))) pa_nil))
                (pe_callB (call_reprD gd0 un2) (by rfl) zRepr (by decide +kernel) (pa_cons (pe_call GU hr3 (by rfl) AU.m AU.F.kp AU.b .nil pass0 (pa_cons (pv 4) pa_nil)) pa_nil)) (nomark _))
                (pw_or1 (pt_cmpR op_ne (pe_callB (call_reprP GR hb rg fg hr gd0) (by rfl) zRepr (by decide +kernel) (pa_cons (pe_lst (pa_cons (pv 4) (pa_cons (pv 6) pa_nil))) pa_nil)) (pv 7) (nomark _)))))
              (pss_one (ps_ret pe_bl)) pss_nil))))))
      (pss_one (ps_ret pe_bl)))), ?_⟩
    refine ⟨_, rfl, by decide, by decide, fun T hT => ?_⟩
    have hsl : sizeLine = 16777216 := sizeLine_eq
    have nT : T ≠ r := g0.ne hT
    refine lc_range (lo := 0) (n := 8) (fun i H => Kp r H0 H ∧ ∃ xs : List V, H T = some (.lst xs) ∧ xs.length = i ∧ ∀ x ∈ xs, Tg K C H r x ∧ x ≠ .ref T) ⟨kp_upd (Kp.refl r H0) hT nT, [], upd_same, rfl, fun _ h => nomatch h⟩ ?_ ?_
    · rintro i H hi ⟨kp, xs, hL, hl, th⟩
      refine ⟨rfl, _, rfl, r, rfl, kp.2 g0, fun H2 v k2 tv fr => ?_⟩
      have e2 : H2 T = some (.lst xs) := k2.1 T _ nT hL
      refine ⟨xs, e2, by omega, kp_upd (kp.trans k2) hT nT, xs ++ [v], upd_same, by simp [hl], fun x hx => ?_⟩
      rcases List.mem_append.mp hx with m | m
      · obtain ⟨t, n⟩ := th x m
        exact ⟨(t.keepD (kp.2 g0) hL n (kb_kp k2)).keepD (k2.2 (kp.2 g0)) e2 n kb_upd, n⟩
      · rw [List.mem_singleton.mp m]
        have n : v ≠ .ref T := fun e => by
          have z := fr T e
          rw [hL] at z
          cases z
        exact ⟨tv.keepD (k2.2 (kp.2 g0)) e2 n kb_upd, n⟩
    rintro H1 ⟨kp1, xs, hL, hl, th⟩
    refine ⟨_, rfl, T, rfl, ⟨_, SqL.of hL⟩, fun D hD => ?_⟩
    have nD : D ≠ r := (kp1.2 g0).ne hD
    have nTD : T ≠ D := ne_of_none hL hD
    have fD : H0 D = none := kp1.free g0 hD
    refine lc_list (K := K) (a := T) (xs := xs) (fun i H => Kp r H0 H ∧ H T = some (.lst xs) ∧ (∀ x ∈ xs, Tg K C H r x ∧ x ≠ .ref D) ∧ ∃ qs : List V, H D = some (.lst qs) ∧ qs.length = i ∧ ∀ q ∈ qs, Pa K C H r D q)
      ⟨kp_upd kp1 fD nD, by rw [upd_ne nTD]; exact hL, fun x hx => ⟨(th x hx).1.keep (kp1.2 g0) fun b o _ e => same_upd hD b o e, fun e => ?_⟩, [], upd_same, rfl, fun _ h => nomatch h⟩ (fun i H _ h => SqL.of h.2.1) ?_ ?_
    · have z := (th x hx).1
      rw [e] at z
      obtain ⟨o, z⟩ := z.at
      rw [hD] at z
      cases z
    · rintro i x H hx ⟨kp, hT', th, qs, hQ, hl2, pq⟩
      refine ⟨rfl, _, rfl, _, rfl, r, rfl, kp.2 g0, fun H2 s d k2 ds no fr => ⟨by show 2 ≤ sizeLine; decide, fun p hp => ?_⟩⟩
      obtain ⟨tx, nx⟩ := th x (List.mem_of_getElem? hx)
      have hi := (List.getElem?_eq_some_iff.mp hx).1
      have g1 := kp.2 g0
      have g2 := k2.2 g1
      have e2 : H2 D = some (.lst qs) := k2.1 D _ nD hQ
      have eT : H2 T = some (.lst xs) := k2.1 T _ nT hT'
      have s3 : Same H2 (upd H2 p (.tup [x, s])) := same_upd hp
      have e3 := s3 _ _ e2
      have kb : Kb r D H (upd H2 p (.tup [x, s])) := (kb_kp k2).trans (kb_same s3)
      have g3 : Rg (upd H2 p (.tup [x, s])) r := rg_upd g2 (g2.ne hp)
      have ns : s ≠ .ref D := fun e => by
        have z := fr D e
        rw [hQ] at z
        cases z
      have pD : p ≠ D := (ne_of_none e2 hp).symm
      have sx : Tg K C (upd H2 p (.tup [x, s])) r x := tx.keepD g1 hQ nx kb
      have ss : Da K (upd H2 p (.tup [x, s])) r s d := ds.keep fun b o _ e => s3 b o e
      refine ⟨qs, e3, by omega, kp_upd ((kp.trans k2).trans (Kp.of_same s3)) fD nD, ?_, fun y hy => ?_, qs ++ [.ref p], upd_same, by simp [hl2], fun q hq => ?_⟩
      · rw [upd_ne nTD]
        exact s3 _ _ eT
      · obtain ⟨ty, ny⟩ := th y hy
        exact ⟨(ty.keepD g1 hQ ny kb).keepD g3 e3 ny kb_upd, ny⟩
      · rcases List.mem_append.mp hq with m | m
        · exact ((pq q m).keepD g1 hQ kb).keepD g3 e3 kb_upd
        · rw [List.mem_singleton.mp m]
          refine ⟨p, x, s, d, rfl, ?_, sx.keepD g3 e3 nx kb_upd, ss.keepD ns kb_upd, no, nx, ns⟩
          rw [upd_ne pD]
          exact upd_same
    rintro H3 ⟨kp3, _, _, qs, hQ, _, pq⟩
    refine ⟨_, rfl, by decide, by decide, ?_⟩
    refine for_range (lo := 0) (n := 2) (fun i σ H => ∃ (x2 x4 x5 x6 x7 : Option V), σ = [some (.ref r), some (.ref T), x2, some (.ref D), x4, x5, x6, x7] ∧ Kp r H0 H ∧ H D = some (.lst qs) ∧ ∀ q ∈ qs, Pa K C H r D q) ⟨_, _, _, _, _, rfl, kp3, hQ, pq⟩ ?_ ?_
    · rintro i σ H hi ⟨x2, x4, x5, x6, x7, rfl, kp, hD1, pq1⟩
      refine ⟨_, rfl, D, rfl, ⟨_, SqL.of hD1⟩, ?_⟩
      refine for_list (K := K) (a := D) (xs := qs) (fun i σ H => ∃ (x2 x4 x5 x6 x7 : Option V), σ = [some (.ref r), some (.ref T), x2, some (.ref D), x4, x5, x6, x7] ∧ Kp r H0 H ∧ H D = some (.lst qs) ∧ ∀ q ∈ qs, Pa K C H r D q) ⟨_, _, _, _, _, rfl, kp, hD1, pq1⟩ (fun i σ H _ h => ?_) ?_ ?_
      · obtain ⟨_, _, _, _, _, _, _, z, _⟩ := h
        exact SqL.of z
      · rintro j q σ H hq ⟨x2, x4, x5, x6, x7, rfl, kp, hD1, pq1⟩
        obtain ⟨p, v, s, d, rfl, e, tv, ds, no, n1, n2⟩ := pq1 q (List.mem_of_getElem? hq)
        have cv := tv.cl LI
        have cs := ds.cl
        obtain ⟨t, pr⟩ : ∃ t, Pr K C H v s t := by
          cases tv with
          | dat h => exact ⟨_, _, ds.th, ds.sh, .inl ⟨_, h.th, h.sh, rfl⟩⟩
          | lab h => exact ⟨_, _, ds.th, ds.sh, .inr ⟨_, _, rfl, h, rfl⟩⟩
        refine ⟨p, [v, s], rfl, SqT.of e, rfl, _, _, rfl, _, _, rfl, rfl, ?_⟩
        refine ⟨_, rfl, _, rfl, by show 2 ≤ sizeLine; decide, fun a ha => ?_⟩
        have s1 : Same H (upd H a (.lst [v, s])) := same_upd ha
        refine ⟨a, v, s, t, rfl, upd_same, pr.keep s1, fun H2 s2 => ?_⟩
        have sA : Same H H2 := s1.trans s2
        refine ⟨_, rfl, _, rfl, v, s, rfl, cv.keep sA, cs.keep sA, fun H4 p4 s4 f4 e4 => ?_⟩
        obtain ⟨bs, eb, lb⟩ := due_bools v
        rw [due_told v s no, eb] at e4
        refine ⟨.ref p4, _, rfl, db_th e4, db_sho lb, ?_⟩
        have sB : Same H H4 := sA.trans s4
        refine ⟨_, rfl, v, rfl, cv.keep sB, fun H5 p5 s5 f5 e5 => ?_⟩
        rw [eb] at e5
        refine ⟨.ref p5, _, rfl, db_th e5, db_sho lb, ?_⟩
        have sC : Same H H5 := sB.trans s5
        refine ⟨rfl, _, rfl, ?_⟩
        rw [decide_eq_true rfl]
        refine ⟨_, rfl, _, rfl, by show 2 ≤ sizeLine; decide, fun b hb' => ?_⟩
        have s6 : Same H5 (upd H5 b (.lst [v, s])) := same_upd hb'
        have sD : Same H (upd H5 b (.lst [v, s])) := sC.trans s6
        refine ⟨b, v, s, t, rfl, upd_same, pr.keep sD, fun H7 s7 => ?_⟩
        have sE : Same H H7 := sD.trans s7
        refine ⟨_, rfl, rfl, _, rfl, ?_⟩
        rw [decide_eq_true rfl]
        exact ⟨_, _, _, _, _, rfl, kp.trans (Kp.of_same sE), sE _ _ hD1, fun q hq => (pq1 q hq).keepD (kp.2 g0) hD1 (kb_same sE)⟩
      · rintro σ H4 h
        exact h
    · rintro σ H4 ⟨_, _, _, _, _, rfl, kp, _, _⟩
      exact k H4 kp
end
end K11
namespace K11
open PySem L2 PySem.Spec PyProof.Rows
theorem same_kp {r : Addr} {H H1 H2 : Hp} (s : Same H H1) (h : H r = none) (k : Kp r H1 H2) : Same H H2 := fun b o e => k.1 b o (ne_of_none e h) (s b o e)
section
variable {P : Program} {w : World} {K : PySem.W.Frag} {mg : Str → Option Value} {base : Heap}
/-! ### law -/
def spLaw (K : PySem.W.Frag) : Sp := fun vs H Q _ => ∃ (a : Addr) (ns : List Int), vs = [.ref a] ∧ SqL K H a (ns.map V.int) ∧ ns.length ≤ 63 ∧ ∀ H', Q (.bl true) H'
theorem scLw : FnScope ["_law_script", "_law_k"] ["_law_script"] (defScope sLaw) := ⟨rfl, rfl, rfl, by decide +kernel, rfl, by decide +kernel, by decide +kernel⟩
theorem ok_law {f fR fT : Addr} {fd dR dT : FuncData} (F : Fun K "law" "law" sLaw f fd) (B : BEnv mg) (AR : At K mg "_law_rng" sRng ["_law_script", "_law_k"] fR dR) (AT : At K mg "_law_right" sRight ["_law_rng_here"] fT dT) (GT : FnG P w K mg base 7 fT dT ["_law_rng_here"] (spRt)) :
    FnG P w K mg base 8 f fd ["_law_script"] (spLaw K) := by
  have GR : FnOk P w K mg base CX0 1 fR dR ["_law_script", "_law_k"] (spRng K) := ok_rng AR.F B
  refine okG F scLw (fun vs H Q E h => ?_) (fun cdv A outer_ s H vs Q E gd hr h => ?_)
  · obtain ⟨a, ns, rfl, _⟩ := h
    rfl
  · obtain ⟨a, ns, rfl, hS, hlen, k⟩ := h
    have hr1 := hr.mono (j := 1) (by decide)
    refine ⟨_, pss_one (ps_ret (pe_callB (cr_all rfl) (by rfl) B.zAll (by decide +kernel) (pa_cons (pe_lc (own := [("_law_k", 1)]) (g := gName 1) (tt := tYes) rfl scLw.nd
        (pi_range1 (by rfl) B.zRange (pa_cons (pe_callB (call_max2 rfl) (by rfl) B.zMax (by decide +kernel) (pa_cons pe_int (pa_cons (pe_callB (call_min2 rfl) (by rfl) B.zMin (by decide +kernel) (pa_cons (pe_callB call_len_seq (by rfl) B.zLen PySem.boot_len (pa_cons (pv 0) pa_nil)) (pa_cons pe_int pa_nil))) pa_nil))) pa_nil))
        (blkOk_by (N := ["_law_script", "_law_k"]) (sc := defScope sLaw) (by decide +kernel)) (fun _ _ _ _ _ => pg_name (i := 1) scLw.nd rfl (Or.inl rfl)) (fun _ _ _ _ _ => pts_nil)
        (fun _ _ _ _ _ => pe_callG GT gd hr (by rfl) AT.m AT.F.kp AT.b (pa_cons (pe_call GR hr1 (by rfl) AR.m AR.F.kp AR.b .nil pass0 (pa_cons (pv 0) (pa_cons (pv 1) pa_nil))) pa_nil))) pa_nil))), ?_⟩
    have hsl : sizeLine = 16777216 := sizeLine_eq
    refine ⟨_, rfl, a, _, rfl, .inl hS, _, _, rfl, _, _, rfl, _, rfl, ?_⟩
    rw [List.length_map]
    have hj : 1 ≤ (if (if (8 : Int) < (ns.length : Int) then (8 : Int) else (ns.length : Int)) > 1 then (if (8 : Int) < (ns.length : Int) then (8 : Int) else (ns.length : Int)) else 1) ∧ (if (if (8 : Int) < (ns.length : Int) then (8 : Int) else (ns.length : Int)) > 1 then (if (8 : Int) < (ns.length : Int) then (8 : Int) else (ns.length : Int)) else 1) ≤ 8 := by
      constructor <;> split <;> split <;> omega
    generalize (if (if (8 : Int) < (ns.length : Int) then (8 : Int) else (ns.length : Int)) > 1 then (if (8 : Int) < (ns.length : Int) then (8 : Int) else (ns.length : Int)) else 1) = j at hj
    refine ⟨by omega, by omega, fun D hD => ?_⟩
    refine lc_range (lo := 0) (n := j.toNat) (fun i H' => Same H H' ∧ H' D = some (.lst ((List.replicate i true).map V.bl))) ⟨same_upd hD, upd_same⟩ ?_ ?_
    · rintro i H' hi ⟨sm, hL⟩
      refine ⟨rfl, _, rfl, _, rfl, a, ns, i, ?_, sm.seq hS, by omega, fun H1 r s1 hr0 g1 => ?_⟩
      · show [V.ref a, V.int (0 + (i : Int))] = [V.ref a, V.int (i : Int)]
        rw [Int.zero_add]
      have hrH : H r = none := sm.free hr0
      have nD : D ≠ r := ne_of_none hL hr0
      refine ⟨r, rfl, g1, fun H2 k2 => ⟨_, k2.1 D _ nD (s1 _ _ hL), ?_, fun b o e => ?_, ?_⟩⟩
      · rw [List.length_map, List.length_replicate]
        omega
      · rw [upd_ne (ne_of_none e hD)]
        exact same_kp (sm.trans s1) hrH k2 b o e
      · rw [upd_same, List.replicate_succ', List.map_append]
        rfl
    · rintro H1 ⟨s1, hLD⟩
      refine ⟨D, _, rfl, SqL.of hLD, ?_⟩
      have e3 : (List.replicate j.toNat true).all id = true := by simp
      rw [e3]
      exact k _
end
/-! ### the law's call, where nothing is being shown -/
section
variable {P : Program} {w : World} {K : PySem.W.Frag} {mg mb : Str → Option Value} {k : Nat} {fa a : Addr} {fd : FuncData} {x : Str} {sp : Sp} {t : Shared} {us : List Value} {zs : List Int}
abbrev boxed (us : List Value) : Obj := { cls := .type "list", data := .seq us.toArray }
theorem run_at {H : Hp} (one : ∀ b, H b = none ∨ (b = a ∧ H b = some (.frz (boxed us) (.lst (zs.map V.int))))) (own : H a ≠ none → K.lookup a = none) (seq : SqL K H a (zs.map V.int)) (hok : HOk P w H t.heap)
    (KX : K.In t.heap) (g1 : t.heap.Ns mainGlobals mg) (g2 : t.heap.Ns builtinsNs mb) (g3 : ∀ y : Str, y ≠ "__name__" → mb y = bootBuiltins y) (lim : t.heap.NoLimit) (hg : t.gens = #[]) (ha : t.heap.get? a = some (boxed us)) (hr : Room k callerA)
    (F : ∀ base : Heap, K.In base → base.Ns mainGlobals mg → FnG P w K mg base k fa fd [x] sp) (bd : ∀ (s : Shared) (u : Value), BindsTo s fd ⟨[u], []⟩ [(x, u)]) (hsp : ∀ H' : Hp, SqL K H' a (zs.map V.int) → sp [.ref a] H' (fun v _ => v = .bl true) E0) :
    codeAny (model P w) callerA (.call (.ref fa) ⟨[.ref a], []⟩) (fun r s' => r = .ok (.ret (.bool true)) ∧ OldK t.heap s'.heap ∧ s'.os = t.os ∧ AllBare s'.gens) t := by
  have still : ∀ {b : Addr} {m : Str → Option Value}, t.heap.Ns b m → (hidT t.heap H).Ns b m := by
    rintro b m ⟨o, es, ep, e, d, rest⟩
    refine ⟨o, es, ep, hidT_get e ?_, d, rest⟩
    rcases one b with z | ⟨rfl, _⟩
    · exact z
    · rw [ha] at e
      cases e
      cases (show Data.seq us.toArray _ = Data.dict es ep from d)
  have kin : K.In (hidT t.heap H) := fun b o e => hidT_get (KX b o e) (by
    rcases one b with z | ⟨rfl, z⟩
    · exact z
    · have := own (by rw [z]; exact fun q => nomatch q)
      rw [this] at e
      cases e)
  obtain ⟨mc, l1, l2⟩ := lim
  have env : Env0 P w K mg (hidT t.heap H) callerA [] t H :=
    { frames := rfl, mod := ⟨kin, still g1, ⟨mb, still g2, g3⟩, ⟨mc, still l1, l2⟩⟩, bs := fun b o e => of_hidT e, bsz := Nat.le_of_eq (hidT_size _ _), funs := trivial, frf := fun b hb => absurd (show b ∈ ([] : List Addr) from hb) List.not_mem_nil, hok := hok, bare := .of_eq hg }
  apply codeAny_mono ((F _ kin (still g1)).run callerA [] t H ⟨[.ref a], []⟩ [.ref a] [.ref a] (fun v _ => v = .bl true) E0 rfl hr env (bd t (.ref a)) (.cons rfl .nil) (hsp H seq))
  rintro (e | fl) s2 h
  · exact h.elim
  cases fl with
  | ret u =>
    obtain ⟨v, H2, os, bare, un, hok2, rv, rfl⟩ := h
    cases (show u = Value.bool true from rv)
    refine ⟨rfl, OldK.of_keep ?_, os, bare⟩
    intro b o e
    rcases one b with z | ⟨rfl, z⟩
    · exact un.keep b o e z (fun y => absurd (show b ∈ ([] : List Addr) from y) List.not_mem_nil) (by simp)
    · have y1 := (hok _ _ z).1
      have y2 := (hok2 _ _ (un.frzs _ _ _ z)).1
      rw [e] at y1
      cases y1
      exact y2
  | next => exact False.elim h
  | brk => exact False.elim h
  | cont => exact False.elim h
theorem run_law (KX : K.In t.heap) (g1 : t.heap.Ns mainGlobals mg) (g2 : t.heap.Ns builtinsNs mb) (g3 : ∀ y : Str, y ≠ "__name__" → mb y = bootBuiltins y) (lim : t.heap.NoLimit) (hg : t.gens = #[]) (ha : t.heap.get? a = some (boxed us)) (hi : IntsAre us zs) (hl : zs.length ≤ sizeLine) (hr : Room k callerA)
    (F : ∀ base : Heap, K.In base → base.Ns mainGlobals mg → FnG P w K mg base k fa fd [x] sp) (bd : ∀ (s : Shared) (u : Value), BindsTo s fd ⟨[u], []⟩ [(x, u)]) (hsp : ∀ H' : Hp, SqL K H' a (zs.map V.int) → sp [.ref a] H' (fun v _ => v = .bl true) E0) :
    codeAny (model P w) callerA (.call (.ref fa) ⟨[.ref a], []⟩) (fun r s' => r = .ok (.ret (.bool true)) ∧ OldK t.heap s'.heap ∧ s'.os = t.os ∧ AllBare s'.gens) t := by
  have rv : Vals (zs.map V.int) us := vals_ints hi
  cases hk : K.lookup a with
  | none =>
    have h1 : ∀ b, b ≠ a → (fun b => if b = a then some (HO.frz (boxed us) (.lst (zs.map V.int))) else none : Hp) b = none := fun b h => if_neg h
    have h2 : (fun b => if b = a then some (HO.frz (boxed us) (.lst (zs.map V.int))) else none : Hp) a = some (.frz (boxed us) (.lst (zs.map V.int))) := if_pos rfl
    refine run_at (H := fun b => if b = a then some (HO.frz (boxed us) (.lst (zs.map V.int))) else none) (us := us) (zs := zs) (fun b => ?_) (fun _ => hk) (.inl (.inr ⟨_, h2⟩)) (fun b u z => ?_) KX g1 g2 g3 lim hg ha hr F bd hsp
    · by_cases e : b = a
      · subst e; exact .inr ⟨rfl, h2⟩
      · exact .inl (h1 b e)
    · by_cases e : b = a
      · subst e
        cases h2.symm.trans z
        exact ⟨ha, by rw [List.length_map]; exact hl, us, _, rv, ha⟩
      · cases (h1 b e).symm.trans z
  | some o =>
    have e := KX a o hk
    rw [ha] at e
    cases e
    exact run_at (H := fun _ => none) (us := us) (zs := zs) (fun b => .inl rfl) (fun z => absurd rfl z) (.inr ⟨_, us.toArray, _, hk, rfl, rfl, rfl, by rw [List.size_toArray, hi.length]; exact hl, by simpa using rv⟩) (fun b u z => nomatch z) KX g1 g2 g3 lim hg ha hr F bd hsp
end
theorem walk {l : PySem.W.OpenLaw} {q : Program} {loose : List Str} {XP : (Str → Option Value) → Heap → Prop} {YP : World → Heap → Prop} {d : DefRec} {K : Params → PySem.W.Frag} (hn : l.most = some 63) (hdf : d.params.defaults = [])
    (hY : ∀ (w : World) (h : Heap), YP w h → (K w.params).In h)
    (F : ∀ (w : World) (mg : Str → Option Value) (fa : Addr) (h : Heap), (K w.params).In h → h.Ns mainGlobals mg → mg d.name = some (.ref fa) →
      ∃ fd : FuncData, (∀ (s : Shared) (u : Value), BindsTo s fd ⟨[u], []⟩ [("_law_script", u)]) ∧ ∀ base : Heap, (K w.params).In base → base.Ns mainGlobals mg → FnG l.prog w (K w.params) mg base 8 fa fd ["_law_script"] (spLaw (K w.params))) :
    PySem.W.WalkO q loose XP YP l.row.toRowW d [] (fun f vs => PySem.call f vs) := by
  apply Att.attach_call hn hdf
  intro w s0 s1 mg mb fa o pm cd doc a vs ns G Y ho hd hcd hmg hobj hints hlen hg
  have KX := hY w _ Y
  obtain ⟨fd, hb, hF⟩ := F w mg fa _ KX G.T.g hmg
  exact run_law KX G.T.g G.T.b G.T.builtins G.T.nolimit hg hobj hints (Nat.le_trans hlen (by decide)) ⟨rfl, by decide, by decide⟩ hF hb fun H hS => ⟨a, ns, rfl, hS, hlen, fun _ => rfl⟩
end K11
namespace K11
open PySem L2
/-! ### the end: what the top has left -/
theorem at_mk {K : PySem.W.Frag} {h : Heap} {mg : Str → Option Value} {x : Str} {st : Stmt} {ps : List Str} {f : Addr} {fd : FuncData} (X : K.In h) (G : h.Ns mainGlobals mg) (a : PySem.W.nsIn K mainGlobals x = some (some (.ref f))) (F : Fun K x x st f fd)
    (b : ∀ (kV doc pm : Value) (an : Option Addr) (cdv ct : Value) (us : List Value), us.length = ps.length → bindArgs (PySem.W.fnOf x x (defArgs st) (defBody st) (defScope st) .none kV doc pm an cdv ct) ⟨us, []⟩ = pure (ps.zip us)) : At K mg x st ps f fd := ⟨F, F.binds b, PySem.W.mg_of X G a⟩
theorem fv_mk {K : PySem.W.Frag} {f D : Addr} {oc : Value} {od an : Option Addr} {osl : Array (Option Value)} {doc pm cdv ct : Value} (l : K.lookup f = some ⟨oc, od, .func (PySem.W.fnOf "is_value" "is_value" (defArgs sIsValue) (defBody sIsValue) (defScope sIsValue) .none (.ref D) doc pm an cdv ct), osl⟩)
    (c : PySem.W.codeIn K cdv "is_value" = true) (k : PySem.W.keepIn K (.ref f) = true) (d : PySem.W.nsIn K D "may_be_empty" = some (some (.bool false))) : FV K f (PySem.W.fnOf "is_value" "is_value" (defArgs sIsValue) (defBody sIsValue) (defScope sIsValue) .none (.ref D) doc pm an cdv ct) :=
  ⟨⟨oc, od, .none, .ref D, doc, pm, an, cdv, ct, osl, rfl, l, c, .inl ⟨rfl, rfl⟩, .inr ⟨D, rfl, fun q hq => by
    rw [List.mem_singleton.mp hq]
    exact ⟨_, d, rfl⟩⟩⟩, k⟩

theorem all_mk {P : Program} {w : World} {K : PySem.W.Frag} {h : Heap} {mg : Str → Option Value} {fa : Addr} (X : K.In h) (G : h.Ns mainGlobals mg) (hfa : mg "law" = some (.ref fa))
    {f0 f1 f2 f3 f4 f5 f6 f7 f8 f9 f10 f11 f12 f13 f14 f15 f16 f17 f18 f19 f20 : Addr} {d0 d1 d2 d3 d4 d5 d6 d7 d8 d9 d10 d11 d12 d13 d14 d15 d16 d17 d18 d19 d20 : FuncData} {fV C fI gR T : Addr} {dV dI dR : FuncData} {tC tM tL tk t1 t2 t3 : Tok} {od : Option Addr} {n : Nat} {osl : Array (Option Value)}
    (a0 : PySem.W.nsIn K mainGlobals "is_name" = some (some (.ref f0)))
    (F0 : Fun K "is_name" "is_name" sIsName f0 d0)
    (a1 : PySem.W.nsIn K mainGlobals "is_integer" = some (some (.ref f1)))
    (F1 : Fun K "is_integer" "is_integer" sIsInteger f1 d1)
    (a2 : PySem.W.nsIn K mainGlobals "is_count" = some (some (.ref f2)))
    (F2 : Fun K "is_count" "is_count" sIsCount f2 d2)
    (a3 : PySem.W.nsIn K mainGlobals "is_sort" = some (some (.ref f3)))
    (F3 : Fun K "is_sort" "is_sort" sIsSort f3 d3)
    (a4 : PySem.W.nsIn K mainGlobals "sort_of" = some (some (.ref f4)))
    (F4 : Fun K "sort_of" "sort_of" sSortOf f4 d4)
    (a5 : PySem.W.nsIn K mainGlobals "_law_rng" = some (some (.ref f5)))
    (F5 : Fun K "_law_rng" "_law_rng" sRng f5 d5)
    (a6 : PySem.W.nsIn K mainGlobals "_law_draw" = some (some (.ref f6)))
    (F6 : Fun K "_law_draw" "_law_draw" sDraw f6 d6)
    (a7 : PySem.W.nsIn K mainGlobals "_law_choice" = some (some (.ref f7)))
    (F7 : Fun K "_law_choice" "_law_choice" sChoice f7 d7)
    (a8 : PySem.W.nsIn K mainGlobals "_law_letters" = some (some (.ref f8)))
    (F8 : Fun K "_law_letters" "_law_letters" sLetters f8 d8)
    (a9 : PySem.W.nsIn K mainGlobals "_law_digits" = some (some (.ref f9)))
    (F9 : Fun K "_law_digits" "_law_digits" sDigits f9 d9)
    (a10 : PySem.W.nsIn K mainGlobals "_law_string" = some (some (.ref f10)))
    (F10 : Fun K "_law_string" "_law_string" sString f10 d10)
    (a11 : PySem.W.nsIn K mainGlobals "_law_number" = some (some (.ref f11)))
    (F11 : Fun K "_law_number" "_law_number" sNumber f11 d11)
    (a12 : PySem.W.nsIn K mainGlobals "_law_thing" = some (some (.ref f12)))
    (F12 : Fun K "_law_thing" "_law_thing" sThing f12 d12)
    (a13 : PySem.W.nsIn K mainGlobals "_law_no_sort" = some (some (.ref f13)))
    (F13 : Fun K "_law_no_sort" "_law_no_sort" sNoSort f13 d13)
    (a14 : PySem.W.nsIn K mainGlobals "_law_is_whole" = some (some (.ref f14)))
    (F14 : Fun K "_law_is_whole" "_law_is_whole" sIsWhole f14 d14)
    (a15 : PySem.W.nsIn K mainGlobals "_law_is_word" = some (some (.ref f15)))
    (F15 : Fun K "_law_is_word" "_law_is_word" sIsWord f15 d15)
    (a16 : PySem.W.nsIn K mainGlobals "_law_fits" = some (some (.ref f16)))
    (F16 : Fun K "_law_fits" "_law_fits" sFits f16 d16)
    (a17 : PySem.W.nsIn K mainGlobals "_law_told" = some (some (.ref f17)))
    (F17 : Fun K "_law_told" "_law_told" sTold f17 d17)
    (a18 : PySem.W.nsIn K mainGlobals "_law_due" = some (some (.ref f18)))
    (F18 : Fun K "_law_due" "_law_due" sDue f18 d18)
    (a19 : PySem.W.nsIn K mainGlobals "_law_right" = some (some (.ref f19)))
    (F19 : Fun K "_law_right" "_law_right" sRight f19 d19)
    (a20 : PySem.W.nsIn K mainGlobals "law" = some (some (.ref f20)))
    (F20 : Fun K "law" "law" sLaw f20 d20)
    (zlen : PySem.W.nsIn K mainGlobals "len" = some none)
    (zabs : PySem.W.nsIn K mainGlobals "abs" = some none)
    (zmax : PySem.W.nsIn K mainGlobals "max" = some none)
    (zmin : PySem.W.nsIn K mainGlobals "min" = some none)
    (zint : PySem.W.nsIn K mainGlobals "int" = some none)
    (zdivmod : PySem.W.nsIn K mainGlobals "divmod" = some none)
    (zrange : PySem.W.nsIn K mainGlobals "range" = some none)
    (zall : PySem.W.nsIn K mainGlobals "all" = some none)
    (zisinstance : PySem.W.nsIn K mainGlobals "isinstance" = some none)
    (zstr : PySem.W.nsIn K mainGlobals "str" = some none)
    (zbool : PySem.W.nsIn K mainGlobals "bool" = some none)
    (zrepr : PySem.W.nsIn K mainGlobals "repr" = some none)
    (ztuple : PySem.W.nsIn K mainGlobals "tuple" = some none)
    (zset : PySem.W.nsIn K mainGlobals "set" = some none)
    (zsorted : PySem.W.nsIn K mainGlobals "sorted" = some none)
    (mC : PySem.W.nsIn K mainGlobals "MOST_CHARACTERS" = some (some (.int 60 tC)))
    (mM : PySem.W.nsIn K mainGlobals "MOST_LETTERS" = some (some (.int 8 tM)))
    (mL : PySem.W.nsIn K mainGlobals "LETTERS" = some (some (.str "abcdefghijklmnopqrstuvwxyz" tL)))
    (mS : PySem.W.nsIn K mainGlobals "SORTS" = some (some (.ref T)))
    (lS : K.lookup T = some ⟨.type "tuple", od, .seq #[.str "int" t1, .str "text" t2, .str "truth" t3] n, osl⟩)
    (mV : PySem.W.nsIn K mainGlobals "is_value" = some (some (.ref fV)))
    (FVv : FV K fV dV)
    (cC : PySem.W.nsIn K mainGlobals "Label" = some (some (.ref C)))
    (cmk : PySem.W.makesIn K C = true)
    (cin : PySem.W.findIn K (.ref C) "__init__" = some (some (.ref fI)))
    (cfn : PySem.W.isFn K (.ref fI) = true)
    (ckp : PySem.W.keepIn K (.ref C) = true)
    (cpg : PySem.W.plainGet K C Str.empty = true)
    (chd : PySem.W.hasDictIn K C = true)
    (cpo : PySem.W.plainOver K C = true)
    (csa : PySem.W.findIn K (.ref C) "__setattr__" = some (some (.builtin "object.__setattr__")))
    (crd : PySem.W.readsIn K C (.type "type") = true)
    (cga : PySem.W.specialIn K (.ref C) "__getattribute__" = some (some (.builtin "type.__getattribute__")))
    (cmo : PySem.W.findCls K (.ref C) (.type "type") "MOST" = some (.val (.int 4 tk)))
    (cn1 : PySem.W.findIn K (.ref C) "_marks" = some none)
    (cn2 : PySem.W.findIn K (.ref C) "_text" = some none)
    (crg : PySem.W.findIn K (.ref C) "__repr__" = some (some (.ref gR)))
    (cfg : PySem.W.isFn K (.ref gR) = true)
    (FI : Fun K "__init__" "Label.__init__" sInit fI dI)
    (FR : Fun K "__repr__" "Label.__repr__" sRepr gR dR)
    (cha : PySem.W.findIn K (.ref C) "__class__" = some (some (.builtin "object.__class__")))
    (chn : PySem.W.specialIn K (.builtin "object.__class__") "__get__" = some (some (.builtin "getset_descriptor.__get__")))
    (cht : PySem.W.takesIn K (.builtin "object.__class__") = some true)
    (chm : PySem.W.mroIn K C (.type "object") = some true)
    (csbool : PySem.W.subIn K (.ref C) (.type "bool") = some false)
    (csint : PySem.W.subIn K (.ref C) (.type "int") = some false)
    (csstr : PySem.W.subIn K (.ref C) (.type "str") = some false) :
    ∃ fd : FuncData, (∀ (s : Shared) (u : Value), BindsTo s fd ⟨[u], []⟩ [("_law_script", u)]) ∧ ∀ base : Heap, K.In base → base.Ns mainGlobals mg → FnG P w K mg base 8 fa fd ["_law_script"] (spLaw K) := by
  have e := hfa.symm.trans (PySem.W.mg_of X G a20)
  cases e
  have A0 : At K mg "is_name" sIsName ["value"] f0 d0 := at_mk X G a0 F0 fun _ _ _ _ _ _ us hl => match us, hl with | [_], _ => rfl
  have A1 : At K mg "is_integer" sIsInteger ["value"] f1 d1 := at_mk X G a1 F1 fun _ _ _ _ _ _ us hl => match us, hl with | [_], _ => rfl
  have A2 : At K mg "is_count" sIsCount ["value"] f2 d2 := at_mk X G a2 F2 fun _ _ _ _ _ _ us hl => match us, hl with | [_], _ => rfl
  have A3 : At K mg "is_sort" sIsSort ["value"] f3 d3 := at_mk X G a3 F3 fun _ _ _ _ _ _ us hl => match us, hl with | [_], _ => rfl
  have A4 : At K mg "sort_of" sSortOf ["value"] f4 d4 := at_mk X G a4 F4 fun _ _ _ _ _ _ us hl => match us, hl with | [_], _ => rfl
  have A5 : At K mg "_law_rng" sRng ["_law_script", "_law_k"] f5 d5 := at_mk X G a5 F5 fun _ _ _ _ _ _ us hl => match us, hl with | [_, _], _ => rfl
  have A6 : At K mg "_law_draw" sDraw ["_law_rng_here", "_law_many"] f6 d6 := at_mk X G a6 F6 fun _ _ _ _ _ _ us hl => match us, hl with | [_, _], _ => rfl
  have A7 : At K mg "_law_choice" sChoice ["_law_rng_here", "_law_options"] f7 d7 := at_mk X G a7 F7 fun _ _ _ _ _ _ us hl => match us, hl with | [_, _], _ => rfl
  have A8 : At K mg "_law_letters" sLetters ["_law_rng_here", "_law_many"] f8 d8 := at_mk X G a8 F8 fun _ _ _ _ _ _ us hl => match us, hl with | [_, _], _ => rfl
  have A9 : At K mg "_law_digits" sDigits ["_law_rng_here", "_law_many"] f9 d9 := at_mk X G a9 F9 fun _ _ _ _ _ _ us hl => match us, hl with | [_, _], _ => rfl
  have A10 : At K mg "_law_string" sString ["_law_rng_here"] f10 d10 := at_mk X G a10 F10 fun _ _ _ _ _ _ us hl => match us, hl with | [_], _ => rfl
  have A11 : At K mg "_law_number" sNumber ["_law_rng_here"] f11 d11 := at_mk X G a11 F11 fun _ _ _ _ _ _ us hl => match us, hl with | [_], _ => rfl
  have A12 : At K mg "_law_thing" sThing ["_law_rng_here"] f12 d12 := at_mk X G a12 F12 fun _ _ _ _ _ _ us hl => match us, hl with | [_], _ => rfl
  have A13 : At K mg "_law_no_sort" sNoSort ["_law_rng_here"] f13 d13 := at_mk X G a13 F13 fun _ _ _ _ _ _ us hl => match us, hl with | [_], _ => rfl
  have A14 : At K mg "_law_is_whole" sIsWhole ["_law_thing_here"] f14 d14 := at_mk X G a14 F14 fun _ _ _ _ _ _ us hl => match us, hl with | [_], _ => rfl
  have A15 : At K mg "_law_is_word" sIsWord ["_law_thing_here"] f15 d15 := at_mk X G a15 F15 fun _ _ _ _ _ _ us hl => match us, hl with | [_], _ => rfl
  have A16 : At K mg "_law_fits" sFits ["_law_kind", "_law_thing_here"] f16 d16 := at_mk X G a16 F16 fun _ _ _ _ _ _ us hl => match us, hl with | [_, _], _ => rfl
  have A17 : At K mg "_law_told" sTold ["_law_thing_here", "_law_strange"] f17 d17 := at_mk X G a17 F17 fun _ _ _ _ _ _ us hl => match us, hl with | [_, _], _ => rfl
  have A18 : At K mg "_law_due" sDue ["_law_thing_here"] f18 d18 := at_mk X G a18 F18 fun _ _ _ _ _ _ us hl => match us, hl with | [_], _ => rfl
  have A19 : At K mg "_law_right" sRight ["_law_rng_here"] f19 d19 := at_mk X G a19 F19 fun _ _ _ _ _ _ us hl => match us, hl with | [_], _ => rfl
  have B : BEnv mg := ⟨PySem.W.mg_none_of X G zlen, PySem.W.mg_none_of X G zabs, PySem.W.mg_none_of X G zmax, PySem.W.mg_none_of X G zmin, PySem.W.mg_none_of X G zint, PySem.W.mg_none_of X G zdivmod, PySem.W.mg_none_of X G zrange, PySem.W.mg_none_of X G zall⟩
  have Z : Zn mg := ⟨PySem.W.mg_none_of X G zisinstance, PySem.W.mg_none_of X G zbool, PySem.W.mg_none_of X G zint, PySem.W.mg_none_of X G zstr, PySem.W.mg_none_of X G zabs, PySem.W.mg_none_of X G zlen, PySem.W.mg_none_of X G zall, PySem.W.mg_none_of X G zrepr⟩
  have GE : GEnv K mg f6 f7 f8 f9 f10 f11 d6 d7 d8 d9 d10 d11 := ⟨B, A6, A7, A8, A9, A10, A11⟩
  have ST : SrtT K mg := ⟨T, PySem.W.mg_of X G mS, fun H => .inr ⟨_, #[.str "int" t1, .str "text" t2, .str "truth" t3], n, lS, rfl, rfl, by show 3 ≤ sizeLine; decide, .cons ⟨_, rfl⟩ (.cons ⟨_, rfl⟩ (.cons ⟨_, rfl⟩ .nil))⟩⟩
  have JE : JEnv K mg f0 f1 f2 f3 f4 fV d0 d1 d2 d3 d4 dV := ⟨Z, A0, A1, A2, A3, A4, FVv, PySem.W.mg_of X G mV, ⟨tM, PySem.W.mg_of X G mM⟩, ⟨tL, PySem.W.mg_of X G mL⟩, ⟨tC, PySem.W.mg_of X G mC⟩, ST⟩
  have LC : LabC K mg C fI gR dI dR := ⟨⟨cmk, cin, cfn, ckp⟩, ⟨cpg, chd, cpo, csa⟩, PySem.W.mg_of X G cC, ⟨.type "type", tk, ⟨crd, cga⟩, ⟨cmo, ⟨_, rfl⟩⟩⟩, cn1, cn2, FI, FR, crg, cfg⟩
  have LI : LabI K C := ⟨⟨cpg, chd, cpo, csa⟩, cha, chn, cht, chm, csbool, csint, csstr⟩
  have hb : Binds K dR ["self"] [] := FR.binds fun _ _ _ _ _ _ us hl => match us, hl with | [_], _ => rfl
  have bL : ∀ (s : Shared) (u : Value), BindsTo s d20 ⟨[u], []⟩ [("_law_script", u)] := by
    obtain ⟨oc, od, kV, doc, pm, an, cdv, ct, osl, rfl, lk, hcd⟩ := F20.ex
    exact fun s u => .of_eq rfl
  refine ⟨d20, bL, fun base _ _ => ?_⟩
  have GIn : FnR P w K mg base CX0 2 fI (spInitR C) := ok_init LC B Z (PySem.W.mg_none_of X G ztuple) (PySem.W.mg_none_of X G zset) (PySem.W.mg_none_of X G zsorted) (PySem.W.mg_of X G mM) (PySem.W.mg_of X G mL) A0
  have GRe : FnOk P w K mg base CX0 1 gR dR ["self"] (spRepr C) := ok_repr LC Z
  have GTh : FnOk P w K mg base CX0 4 f12 d12 ["_law_rng_here"] (spThing K C) := ok_thing GE LC A12 GIn
  have GNo : FnOk P w K mg base CX0 3 f13 d13 ["_law_rng_here"] (spNoS K) := ok_nosort GE A13
  have GTo : FnOk P w K mg base CX0 3 f17 d17 ["_law_thing_here", "_law_strange"] (spTold K) := ok_told F17 JE
  have GDu : FnOk P w K mg base CX0 3 f18 d18 ["_law_thing_here"] (spDue K) := ok_due F18 Z A15 A14 A16
  have GRt : FnG P w K mg base 7 f19 d19 ["_law_rng_here"] spRt := ok_right F19 B Z LI (PySem.W.mg_none_of X G zrepr) A12 GTh A13 GNo A17 GTo A18 GDu GRe hb crg cfg
  exact ok_law F20 B A5 A19 GRt
end K11
open PySem PySem.W PyProof.Rows in
set_option maxRecDepth 100000 in
set_option maxHeartbeats 0 in
theorem PySem.Challenge.cw_aboveless_k11_values_judged_holds : PySem.Challenge.rw_aboveless_k11_values_judged.Holds := by
  w_on; o_law; k_head; (case hw => w_witness2)
  k_fill
  refine K11.walk (l := PySem.Challenge.rw_aboveless_k11_values_judged) rfl rfl (fun w h Y => PySem.W.kIn_of Y) ?F
  case F =>
    intro w mg fa h KX G hmg
    refine' K11.all_mk KX G hmg ?a0 ?F0 ?a1 ?F1 ?a2 ?F2 ?a3 ?F3 ?a4 ?F4 ?a5 ?F5 ?a6 ?F6 ?a7 ?F7 ?a8 ?F8 ?a9 ?F9 ?a10 ?F10 ?a11 ?F11 ?a12 ?F12 ?a13 ?F13 ?a14 ?F14 ?a15 ?F15 ?a16 ?F16 ?a17 ?F17 ?a18 ?F18 ?a19 ?F19 ?a20 ?F20 ?zlen ?zabs ?zmax ?zmin ?zint ?zdivmod ?zrange ?zall ?zisinstance ?zstr ?zbool ?zrepr ?ztuple ?zset ?zsorted ?mC ?mM ?mL ?mS ?lS ?mV ?FVv ?cC ?cmk ?cin ?cfn ?ckp ?cpg ?chd ?cpo ?csa ?crd ?cga ?cmo ?cn1 ?cn2 ?crg ?cfg ?FI ?FR ?cha ?chn ?cht ?chm ?csbool ?csint ?csstr
    (case a0 => k_is)
    (case F0 => refine' L2.fun_mk ?l ?c ?k; (case l => k_is); (case c => k_is); (case k => k_is))
    (case a1 => k_is)
    (case F1 => refine' L2.fun_mk ?l ?c ?k; (case l => k_is); (case c => k_is); (case k => k_is))
    (case a2 => k_is)
    (case F2 => refine' L2.fun_mk ?l ?c ?k; (case l => k_is); (case c => k_is); (case k => k_is))
    (case a3 => k_is)
    (case F3 => refine' L2.fun_mk ?l ?c ?k; (case l => k_is); (case c => k_is); (case k => k_is))
    (case a4 => k_is)
    (case F4 => refine' L2.fun_mk ?l ?c ?k; (case l => k_is); (case c => k_is); (case k => k_is))
    (case a5 => k_is)
    (case F5 => refine' L2.fun_mk ?l ?c ?k; (case l => k_is); (case c => k_is); (case k => k_is))
    (case a6 => k_is)
    (case F6 => refine' L2.fun_mk ?l ?c ?k; (case l => k_is); (case c => k_is); (case k => k_is))
    (case a7 => k_is)
    (case F7 => refine' L2.fun_mk ?l ?c ?k; (case l => k_is); (case c => k_is); (case k => k_is))
    (case a8 => k_is)
    (case F8 => refine' L2.fun_mk ?l ?c ?k; (case l => k_is); (case c => k_is); (case k => k_is))
    (case a9 => k_is)
    (case F9 => refine' L2.fun_mk ?l ?c ?k; (case l => k_is); (case c => k_is); (case k => k_is))
    (case a10 => k_is)
    (case F10 => refine' L2.fun_mk ?l ?c ?k; (case l => k_is); (case c => k_is); (case k => k_is))
    (case a11 => k_is)
    (case F11 => refine' L2.fun_mk ?l ?c ?k; (case l => k_is); (case c => k_is); (case k => k_is))
    (case a12 => k_is)
    (case F12 => refine' L2.fun_mk ?l ?c ?k; (case l => k_is); (case c => k_is); (case k => k_is))
    (case a13 => k_is)
    (case F13 => refine' L2.fun_mk ?l ?c ?k; (case l => k_is); (case c => k_is); (case k => k_is))
    (case a14 => k_is)
    (case F14 => refine' L2.fun_mk ?l ?c ?k; (case l => k_is); (case c => k_is); (case k => k_is))
    (case a15 => k_is)
    (case F15 => refine' L2.fun_mk ?l ?c ?k; (case l => k_is); (case c => k_is); (case k => k_is))
    (case a16 => k_is)
    (case F16 => refine' L2.fun_mk ?l ?c ?k; (case l => k_is); (case c => k_is); (case k => k_is))
    (case a17 => k_is)
    (case F17 => refine' L2.fun_mk ?l ?c ?k; (case l => k_is); (case c => k_is); (case k => k_is))
    (case a18 => k_is)
    (case F18 => refine' L2.fun_mk ?l ?c ?k; (case l => k_is); (case c => k_is); (case k => k_is))
    (case a19 => k_is)
    (case F19 => refine' L2.fun_mk ?l ?c ?k; (case l => k_is); (case c => k_is); (case k => k_is))
    (case a20 => k_is)
    (case F20 => refine' L2.fun_mk ?l ?c ?k; (case l => k_is); (case c => k_is); (case k => k_is))
    (case zlen => k_is)
    (case zabs => k_is)
    (case zmax => k_is)
    (case zmin => k_is)
    (case zint => k_is)
    (case zdivmod => k_is)
    (case zrange => k_is)
    (case zall => k_is)
    (case zisinstance => k_is)
    (case zstr => k_is)
    (case zbool => k_is)
    (case zrepr => k_is)
    (case ztuple => k_is)
    (case zset => k_is)
    (case zsorted => k_is)
    (case mC => k_is)
    (case mM => k_is)
    (case mL => k_is)
    (case mS => k_is)
    (case lS => k_is)
    (case mV => k_is)
    (case FVv => refine' K11.fv_mk ?l ?c ?k ?d; (case l => k_is); (case c => k_is); (case k => k_is); (case d => k_is))
    (case cC => k_is)
    (case cmk => k_is)
    (case cin => k_is)
    (case cfn => k_is)
    (case ckp => k_is)
    (case cpg => k_is)
    (case chd => k_is)
    (case cpo => k_is)
    (case csa => k_is)
    (case crd => k_is)
    (case cga => k_is)
    (case cmo => k_is)
    (case cn1 => k_is)
    (case cn2 => k_is)
    (case crg => k_is)
    (case cfg => k_is)
    (case FI => refine' L2.fun_mk ?l ?c ?k; (case l => k_is); (case c => k_is); (case k => k_is))
    (case FR => refine' L2.fun_mk ?l ?c ?k; (case l => k_is); (case c => k_is); (case k => k_is))
    (case cha => k_is)
    (case chn => k_is)
    (case cht => k_is)
    (case chm => k_is)
    (case csbool => k_is)
    (case csint => k_is)
    (case csstr => k_is)
