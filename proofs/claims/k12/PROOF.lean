import PyProof.Rows.All
import Wide.All
import OpenK.AllK
import Wide.FinOn
import HandS.List
import KE.KRevSl
import HandS.Set
import HandS.SetFor
import PyProof.Rows.StrMeet
import PyProof.Rows.SortStr
import PyProof.StrLawsChain
import PyProof.NeKinds
import PyProof.EqKinds
import PyProof.InstNe
import HandS.IsInst
import HandS.SlotsOwn
import HandS.Star
import KE.KCallOwn
import HandS.ForMost
import HandS.ForExc
import HandS.StrMore
import HandS.WideBits
import HandS.Zip
import HandS.ExcInit
import HandS.ExcField
import HandS.ExcIs
import HandS.Style
import HandS.Flow
import HandS.WrittenGet
import HandS.Steps
import HandS.Walk
import HandS.Text
import HandS.FStr
import HandS.RaiseMore
import PyProof.ReprRoads
import KE.KxStill
import KE.KStrOpen
import PyProof.Rows.ReprOcc
import HandS.Defaults
import KE.KExcInit
import HandS.Exc
import HandS.TryMany
import HandS.ClsMeth
import HandS.Property
import HandS.ExcOwn
import HandS.TupAny
import KE.KExcLine
import PySem.Challenge.RW_aboveless_k12_labels_made_and_read
set_option Elab.async false
set_option linter.all false
set_option maxRecDepth 100000
set_option maxHeartbeats 4000000
/-! t[::-1] of a tuple -/
namespace RvT
open PySem PySem.Spec PySem.Calls PyProof.Rows L2 HT
theorem fm_congr {α β : Type} {f g : α → Option β} : ∀ {l : List α}, (∀ a ∈ l, f a = g a) → l.filterMap f = l.filterMap g
  | [], _ => rfl
  | a :: l, h => by
    rw [List.filterMap_cons, List.filterMap_cons, h a List.mem_cons_self, fm_congr fun b hb => h b (List.mem_cons_of_mem _ hb)]
theorem pick_rev (xs : Array Value) : ((List.range xs.size).filterMap fun (k : Nat) => xs[(((xs.size : Int) - 1) + (k : Int) * (-1)).toNat]?).toArray = xs.toList.reverse.toArray := by
  have e : (List.range xs.size).filterMap (fun (k : Nat) => xs[(((xs.size : Int) - 1) + (k : Int) * (-1)).toNat]?) = ((List.range xs.size).map fun k => xs.size - 1 - k).filterMap (xs[·]?) := by
    rw [List.filterMap_map]
    refine fm_congr fun k hk => ?_
    have lt := List.mem_range.mp hk
    show xs[(((xs.size : Int) - 1) + (k : Int) * (-1)).toNat]? = xs[xs.size - 1 - k]?
    congr 1
    omega
  rw [e, PySem.W.krv_range, List.filterMap_reverse, PySem.W.krv_all]
section
variable {prog : Program} {w : World} {A : Around} {E : Value → Shared → Prop} {s : Shared}
theorem getRev {t sl : Addr} {items : Array Value} {vl vu vs : Value} {Q : Value → Shared → Prop} (ht : IsTup s.heap t items) (hs : s.heap.IsSliceOf sl vl vu vs) (pl : IsPart vl none) (pu : IsPart vu none) (ps : IsPart vs (some (-1)))
    (h : Q (.ref s.heap.objs.size) { s with heap := s.heap.push { cls := .type "tuple", data := .seq items.toList.reverse.toArray } }) (hsz : items.size ≤ sizeLine) : wpAny (model prog w) A (getItem (.ref t) (.ref sl)) Q E s := by
  have fits : sizeOk (.seq items.toList.reverse.toArray) := by
    show items.toList.reverse.toArray.size ≤ sizeLine
    rw [List.size_toArray, List.length_reverse, Array.length_toList]
    exact hsz
  obtain ⟨os, hos, hcs, hds⟩ := id hs
  have isSl : s.TypeIs (.ref sl) "slice" := ⟨os, hos, hcs⟩
  cases pl
  cases pu
  cases ps
  rename_i tk
  have applied : ∀ {A' : Around} {E' : Value → Shared → Prop} {R : Int × Int × Nat → Shared → Prop}, R ((items.size : Int) - 1, -1, items.size) s → wpAny (model prog w) A' (Builtin.Slice.sliceApplied (.ref sl) (pure (items.size : Int))) R E' s := by
    intro A' E' R r
    unfold Builtin.Slice.sliceApplied Builtin.Slice.sliceFields
    refine wpAny_bind (wpAny_bind (wpAny_field hos hds (x := .none) rfl (wpAny_bind (wpAny_field hos hds (x := .none) rfl (wpAny_bind (wpAny_field hos hds (x := .int (-1) tk) rfl (wpAny_pure ?_)))))))
    refine wpAny_bind (slicePart_int ?_)
    show wpAny _ _ (if ((-1 : Int) == 0) = true then _ else _) _ _ s
    rw [if_neg (by decide)]
    refine wpAny_bind (slicePart_none (wpAny_bind (slicePart_none (wpAny_bind (wpAny_pure ?_)))))
    have pl : Builtin.Slice.slicePlaces ((items.size : Int) - 1) (-1) (-1) = items.size := by
      unfold Builtin.Slice.slicePlaces
      rw [if_neg (by decide)]
      by_cases z : (items.size : Int) - 1 > -1
      · rw [if_pos z, show (-(-1) : Int) = 1 by decide, Int.ediv_one]
        omega
      · rw [if_neg z]
        omega
    show wpAny _ _ (pure ((items.size : Int) - 1, (-1 : Int), Builtin.Slice.slicePlaces ((items.size : Int) - 1) (-1) (-1))) _ _ s
    rw [pl]
    exact wpAny_pure r
  unfold getItem
  try with_reducible refine wpAny_holding ?_
  first | refine wpAny_bind (wpAny_pure ?_) | skip
  refine wpAny_bind (wpAny_sequenceKey ht.typeIs (by decide) ?_)
  refine wpAny_bind (wpAny_callSpecial?_slot (name := Str.ofString "__getitem__") ht.typeIs PyProof.Rows.slot_tuple_getitem (wpAny_call_entry PyProof.Rows.slot_tuple_getitem ht.typeIs entry_tuple_getitem ?_ (args_tuple_getitem _ _)))
  show wpAny _ _ (Builtin.Tuple.tupleItemsOf (.ref t) >>= _) _ _ s
  refine wpAny_bind (tupleItemsOf_ ht (wpAny_bind (wpAny_typeOf isSl ?_)))
  rw [if_pos (by decide)]
  refine wpAny_bind (applied ?_)
  have no : ¬ ((((items.size : Int) - 1) == 0 && (-1 : Int) == 1 && items.size == items.size) = true) := by
    rw [show ((-1 : Int) == 1) = false by decide, Bool.and_false, Bool.false_and]
    decide
  show wpAny _ _ (if ((((items.size : Int) - 1) == 0 && (-1 : Int) == 1 && items.size == items.size) = true) then _ else _) _ _ s
  rw [if_neg no, pick_rev]
  first
    | exact wpAny_bind (m := Builtin.Tuple.tupleExact _) (wpAny_newObj_type (wpAny_pure ⟨_, rfl, wpAny_pure h⟩) fits)
    | exact wpAny_bind (m := Builtin.Tuple.tupleExact _) (wpAny_newObj_type (wpAny_bind (wpAny_pure (wpAny_pure ⟨_, rfl, wpAny_pure h⟩))) fits)
    | exact wpAny_bind (wpAny_bind (m := Builtin.Tuple.tupleExact _) (wpAny_newObj_type (wpAny_pure (wpAny_pure ⟨_, rfl, wpAny_pure h⟩)) fits))
    | exact wpAny_bind (wpAny_bind (m := Builtin.Tuple.tupleExact _) (wpAny_newObj_type (wpAny_pure ⟨_, rfl, wpAny_pure h⟩) fits))
end
def tRevT (K : PySem.W.Frag) (te : TE) : TE := fun σ H Q => te σ H fun x H1 => ∃ a xs, x = .ref a ∧ SqT K H1 a xs ∧ ∀ p, H1 p = none → Q (.ref p) (upd H1 p (.tup xs.reverse))
theorem pe_revT {X : Cx} {e : Expr} {te : TE} {k : Nat} {p1 p2 p3 pos : Pos} (he : PE X e te) : PE X (.Subscript e (.Slice none none (some (.UnaryOp .USub (.Constant (.int 1) k p1) p2)) p3) pos) (tRevT X.K te) := ⟨by
  intro pins s σ H Q I h
  refine Subscript_ (thn (he.run pins s σ H _ I h) ?_)
  rintro v s1 ⟨_, H1, I1, r1, a, xs, rfl, hx, q⟩
  cases r1
  have mone : PO X (some (.UnaryOp .USub (.Constant (.int 1) k p1) p2)) (tPart (tUn (rU fun i => .int (-i)) (tC (.int 1)))) := po_some (pe_un un_neg pe_int)
  refine wpAny_Slice (thn (po_none.run pins s1 σ H1 (fun o H2 => o = none ∧ H2 = H1) I1 ⟨rfl, rfl⟩) ?_)
  rintro vl s2 ⟨_, _, I2, pl, rfl, rfl⟩
  refine thn (po_none.run pins s2 σ _ (fun o H3 => o = none ∧ H3 = _) I2 ⟨rfl, rfl⟩) ?_
  rintro vu s3 ⟨_, _, I3, pu, rfl, rfl⟩
  refine thn (mone.run pins s3 σ _ (fun o H4 => o = some (-1) ∧ H4 = _) I3 ⟨1, rfl, -1, rfl, rfl, rfl⟩) ?_
  rintro vs s4 ⟨_, H4, I4, ps, rfl, rfl⟩
  have I5 : Inv X pins σ H4 { s4 with heap := s4.heap.push { cls := .type "slice", data := .fields #[vl, vu, vs] } } := I4.kept (t' := s4.toks) fun b ob q => Heap.get?_push_of_some _ q
  obtain ⟨its, r, ht, hz⟩ := I5.tuple hx
  have hlen := r.length
  show wpAny (model X.prog X.w) X.A (subscriptTail e (.Slice none none (some (.UnaryOp .USub (.Constant (.int 1) k p1) p2)) p3) (.ref a) (.ref s4.heap.objs.size)) _ _ _
  refine tail_any (ops := [.ref a, .ref s4.heap.objs.size]) ht.typeIs (PyProof.Rows.slot_tuple_getitem.lookup) ?_ (by with_unfolding_all rfl)
  refine getRev ht (Heap.IsSliceOf.new _ vl vu vs) pl pu ps ?_ (by rw [List.size_toArray]; omega)
  refine ⟨.ref _, _, I5.laid (t' := s4.toks) (o := .tup xs.reverse) (fun b ob q => Heap.get?_push_of_some _ q) (Nat.le_refl _) ?_, rfl, q _ (I5.hok.fresh (Nat.le_refl _))⟩
  exact ⟨by rw [List.length_reverse]; exact hz, _, r.reverse, IsTup.new _ _⟩⟩
end RvT
namespace LB
open PySem PySem.Spec PyProof.Rows L2
/-! ### sets of texts: a bag of keys -/
def nm (e : Int × Value) : Str := match e.2 with
  | .str x _ => x
  | _ => Str.empty
def Ent (w : World) (e : Int × Value) : Prop := ∃ x tk, e = (hashStr w x, Value.str x tk)
structure Tab (w : World) (es : Array (Int × Value)) (t : SetTable) : Prop where
  all : ∀ e ∈ es.toList, Ent w e
  few : es.size < scanBound
  fit : t.fits es.size = true
  ris : Ris t.place.toList
  led : w.params.followText "set-order" = true ∨ t.led = true
/-- at a: a set of the texts ks, no two alike -/
def Bag (w : World) (h : Heap) (a : Addr) (ks : List Str) : Prop :=
  ks.Nodup ∧ ∃ o es ep t, h.get? a = some o ∧ o.ExactSet ∧ o.data = .set es ep t ∧ Tab w es t ∧ es.toList.map nm = ks
section
variable {P : Program} {w : World} {A : Around} {E : Value → Shared → Prop} {s : Shared} {a : Addr}
theorem Bag.at {h h' : Heap} {ks : List Str} (B : Bag w h a ks) (k : ∀ o, h.get? a = some o → h'.get? a = some o) : Bag w h' a ks := by
  obtain ⟨nd, o, es, ep, t, e, r⟩ := B
  exact ⟨nd, o, es, ep, t, k o e, r⟩
theorem Bag.len {h : Heap} {ks : List Str} (B : Bag w h a ks) : ks.length < scanBound := by
  obtain ⟨_, o, es, ep, t, _, _, _, T, e⟩ := B
  rw [← e, List.length_map, Array.length_toList]
  exact T.few
theorem Tab.elems {es : Array (Int × Value)} {t : SetTable} (T : Tab w es t) : ElemsOf (PySem.strKind P w) es.toList := fun e he => by
  obtain ⟨x, tk, rfl⟩ := T.all e he
  exact ⟨⟨x, strKind_is P w x tk, rfl⟩, rfl⟩
theorem ent_is {e : Int × Value} {x : Str} (n : Ent w e) : (PySem.strKind P w).is x e.2 = true ↔ nm e = x := by
  obtain ⟨y, tk, rfl⟩ := n
  constructor
  · intro z
    obtain ⟨t2, q⟩ := Value.isStrOf_shape (x := x) (v := .str y tk) z
    cases q
    rfl
  · intro z
    have z' : y = x := z
    subst z'
    exact strKind_is P w y tk
/-- what is stored, and laid anew where the table is too full -/
theorem put_away {say : Bool → Sem Unit} (quiet : ∀ (b : Bool) (s1 : Shared) (R : Unit → Shared → Prop), R () s1 → wpAny (model P w) A (say b) R E s1) {o : Obj} {es es' : Array (Int × Value)} {ep : Nat} {t t' : SetTable} {old : Bool}
    (at_ : s.heap.get? a = some o) (xo : o.ExactSet) (od : o.data = .set es ep t) (T : Tab w es' t') {Q : Option Bool → Shared → Prop}
    (k : ∀ h', Heap.SameBut a s.heap h' → (∃ o2 es2 ep2 t2, h'.get? a = some o2 ∧ o2.ExactSet ∧ o2.data = .set es2 ep2 t2 ∧ Tab w es2 t2 ∧ es2.toList.Perm es'.toList) → Q (some true) { s with heap := h' }) :
    wpAny (model P w) A (do
      storeSet a es' t'
      if (!old && t'.tooFull) = true then do say (relayAll t' es' (SetTable.grown es'.size)).2.2; storeSet a (relayAll t' es' (SetTable.grown es'.size)).1 (relayAll t' es' (SetTable.grown es'.size)).2.1; pure (some true)
      else pure (some true)) Q E s := by
  have first := store_at (es' := es') (t' := t') at_ od
  have same1 := Heap.SameBut.update s.heap a (Obj.putSet es' t')
  apply wpAny_bind
  apply wpAny_storeSet_of at_ od (hz := fits_of_scanBound T.few)
  by_cases full : (!old && t'.tooFull) = true
  · simp only [full, if_true]
    have pe := relayAll_perm t' es' (SetTable.grown es'.size)
    have fe := relayAll_fits t' es' (SetTable.grown es'.size)
    have re := relayAll_ris t' es' (SetTable.grown es'.size)
    have le := relayAll_led t' es' (SetTable.grown es'.size)
    revert pe fe re le
    generalize relayAll t' es' (SetTable.grown es'.size) = laid
    rcases laid with ⟨es2, t2, gave⟩
    intro pe fe re le
    have sz : es2.size = es'.size := by simpa using pe.length_eq
    have T2 : Tab w es2 t2 := ⟨fun e he => T.all e (pe.mem_iff.mp he), sz ▸ T.few, fe, re, T.led.imp (fun z => z) fun z => le.trans z⟩
    apply wpAny_bind
    apply quiet
    apply wpAny_bind
    apply wpAny_storeSet_of first rfl (hz := fits_of_scanBound T2.few)
    have second := store_at (es' := es2) (t' := t2) first rfl
    exact wpAny_pure (k _ (same1.trans (Heap.SameBut.update _ a _)) ⟨_, es2, _, t2, second, xo, rfl, T2, pe⟩)
  · simp only [full]
    exact wpAny_pure (k _ same1 ⟨_, es', _, t', first, xo, rfl, T, List.Perm.refl _⟩)
theorem bag_add {ks : List Str} {x : Str} {tk : Tok} {Q : Bool → Shared → Prop} (B : Bag w s.heap a ks) (room : ks.length + 1 < scanBound)
    (k : ∀ b h' ks', Heap.SameBut a s.heap h' → Bag w h' a ks' → (∀ y, y ∈ ks' ↔ y = x ∨ y ∈ ks) → ks'.length ≤ ks.length + 1 → Q b { s with heap := h' }) :
    wpAny (model P w) A (setAddHashed a (.str x tk) (hashStr w x)) Q E s := by
  obtain ⟨nd, o, es, ep, t, at_, xo, od, T, names⟩ := B
  have el : ElemsOf (PySem.strKind P w) es.toList := T.elems
  have scans : (Value.str x tk).scannable = true := rfl
  have isx : (PySem.strKind P w).is x (.str x tk) = true := strKind_is P w x tk
  have hh : hashStr w x = (PySem.strKind P w).hash x := rfl
  rw [hh]
  unfold setAddHashed setAddHashedIn
  apply wpAny_holding
  apply wpAny_bind
  apply wpAny_setState_of at_ od T.fit
  simp only [byScan_of scans T.few el, if_true]
  unfold setAddByScan
  apply wpAny_bind
  apply wpAny_bind
  apply wpAny_rule
  apply wpAny_bind
  apply wpAny_setScan_of isx at_ od T.fit el
  cases seek : es.toList.findIdx? (fun e => (PySem.strKind P w).is x e.2) with
  | some j =>
    obtain ⟨lt, hit, _⟩ := List.findIdx?_eq_some_iff_getElem.mp seek
    have inside : x ∈ ks := by
      rw [← names]
      exact List.mem_map.mpr ⟨_, List.getElem_mem lt, (ent_is (P := P) (T.all _ (List.getElem_mem lt))).mp hit⟩
    exact wpAny_pure (wpAny_pure (k _ s.heap ks (Heap.SameBut.refl a s.heap) ⟨nd, o, es, ep, t, at_, xo, od, T, names⟩ (fun y => ⟨.inr, fun z => z.elim (fun e => e ▸ inside) id⟩) (Nat.le_succ _)))
  | none =>
    have out : x ∉ ks := fun z => by
      rw [← names] at z
      obtain ⟨e, he, q⟩ := List.mem_map.mp z
      have no := List.findIdx?_eq_none_iff.mp seek e he
      rw [(ent_is (P := P) (T.all e he)).mpr q] at no
      cases no
    have pe := layNew_perm t es ((PySem.strKind P w).hash x) (.str x tk)
    have fe := layNew_fits t es ((PySem.strKind P w).hash x) (.str x tk)
    have re := layNew_ris t es ((PySem.strKind P w).hash x) (.str x tk) T.ris
    have le := layNew_led t es ((PySem.strKind P w).hash x) (.str x tk)
    revert pe fe re le
    dsimp only
    generalize layNew t es ((PySem.strKind P w).hash x) (.str x tk) = laid
    rcases laid with ⟨es1, t1, old, gave⟩
    intro pe fe re le
    dsimp only at pe fe re le ⊢
    have pc : es1.toList.Perm ((hashStr w x, Value.str x tk) :: es.toList) := by
      rw [Array.toList_push] at pe
      exact pe.trans (List.perm_append_singleton _ _)
    have pn : (es1.toList.map nm).Perm (x :: ks) := by
      have q := pc.map nm
      rw [List.map_cons, names] at q
      exact q
    have sz : es1.size = ks.length + 1 := by
      have q := pn.length_eq
      simpa using q
    have T1 : Tab w es1 t1 := ⟨fun e he => by
      rcases List.mem_cons.mp (pc.mem_iff.mp he) with z | z
      · exact ⟨x, tk, z⟩
      · exact T.all e z, by rw [sz]; exact room, fe, re, T.led.imp (fun z => z) fun z => le.trans z⟩
    have fin : ∀ h', Heap.SameBut a s.heap h' → (∃ o2 es2 ep2 t2, h'.get? a = some o2 ∧ o2.ExactSet ∧ o2.data = .set es2 ep2 t2 ∧ Tab w es2 t2 ∧ es2.toList.Perm es1.toList) → Q true { s with heap := h' } := fun h' sb ⟨o2, es2, ep2, t2, g2, x2, d2, T2, p2⟩ => by
      have p3 : (es2.toList.map nm).Perm (x :: ks) := (p2.map nm).trans pn
      exact k true h' _ sb ⟨p3.nodup_iff.mpr (List.nodup_cons.mpr ⟨out, nd⟩), o2, es2, ep2, t2, g2, x2, d2, T2, rfl⟩ (fun y => by rw [p3.mem_iff, List.mem_cons]) (by rw [p3.length_eq, List.length_cons] <;> exact Nat.le_refl _)
    apply wpAny_bind
    have hush : ∀ (b : Bool) (s1 : Shared) (R : Unit → Shared → Prop), R () s1 → wpAny (model P w) A (match b with | true => rule "set.scan.the-table-gave-way" | false => pure ()) R E s1 := fun b s1 R q => by
      cases b
      · exact wpAny_pure q
      · exact wpAny_rule q
    apply hush
    by_cases pl : t1.plain = true
    · simp only [pl, if_true]
      rw [hashByValue_scannable 8 scans]
      apply wpAny_bind
      apply wpAny_pure
      have T1' : ∀ b : Bool, Tab w es1 (if b = true then t1 else { t1 with plain := false }) := fun b => by
        cases b
        · exact ⟨T1.all, T1.few, SetTable.fits_plain_off fe, re, T1.led⟩
        · exact T1
      refine put_away (say := fun b => match b with | true => rule "set.scan.the-table-gave-way" | false => pure ()) hush at_ xo od (T1' _) fun h' sb z => wpAny_pure (fin h' sb z)
    · simp only [pl]
      apply wpAny_bind
      apply wpAny_pure
      refine put_away (say := fun b => match b with | true => rule "set.scan.the-table-gave-way" | false => pure ()) hush at_ xo od T1 fun h' sb z => wpAny_pure (fin h' sb z)
/-- a walk over texts fills the bag at b -/
theorem bag_fill {I b : Addr} {fp wr : List Addr} {G : Array GenState → Array GenState → Prop} {n : Nat} {Pv : Nat → Value → Prop} {St : Nat → Shared → Prop} {R : Result → Shared → Prop} (W : WalksS P w A.in1 I fp wr G n Pv St) (away : b ∉ fp) (xs : List Str) (len : n = xs.length)
    (room : xs.length + 1 < scanBound) (val : ∀ i v, Pv i v → ∃ x t, xs[i]? = some x ∧ v = .str x t) : ∀ (left i : Nat) (s : Shared) (ks : List Str), n - i = left → i ≤ n → St i s → Bag w s.heap b ks → (∀ y, y ∈ ks ↔ y ∈ xs.take i) → ks.length ≤ i →
      (∀ s' ks', Moved (b :: wr) G s s' → Bag w s'.heap b ks' → (∀ y, y ∈ ks' ↔ y ∈ xs) → ks'.length ≤ xs.length → R (.ok (.ret .none)) s') → codeAny (model P w) A (.builtin "set.update.loop" ⟨[.ref b, .ref I], []⟩) R s := by
  have bw : b ∉ wr := fun z => away (W.sub _ z)
  have more : ∀ c ∈ wr, c ∈ b :: wr := fun _ z => List.mem_cons_of_mem _ z
  intro left
  induction left with
  | zero =>
    intro i s ks e1 e2 st B mem le k
    obtain rfl : i = n := by omega
    apply codeAny_builtin F.entry_set_update_loop
    rw [Around.under_plainId F.plain_set_update_loop _]
    show wpAny _ A.in1 (pyNext (.ref I) >>= _) _ _ s
    apply wpAny_bind
    refine W.done s _ _ st fun s' mv => ?_
    show wpAny _ A.in1 (ret Value.none) _ _ s'
    rw [len, List.take_length] at mem
    exact wpAny_pure (k s' ks (mv.mono more) (B.at fun o z => mv.heap b o bw z) mem (len ▸ le))
  | succ left ih =>
    intro i s ks e1 e2 st B mem le k
    have lt : i < n := by omega
    apply codeAny_builtin F.entry_set_update_loop
    rw [Around.under_plainId F.plain_set_update_loop _]
    show wpAny _ A.in1 (pyNext (.ref I) >>= _) _ _ s
    apply wpAny_bind
    refine W.item i s _ _ lt st fun v s1 pv st1 mv => ?_
    obtain ⟨x, t, at_, rfl⟩ := val i v pv
    show wpAny _ A.in1 (holding [Value.str x t] (setAdd b (.str x t)) >>= _) _ _ s1
    apply wpAny_bind
    apply wpAny_holding
    unfold setAdd
    apply wpAny_holding
    apply wpAny_bind
    refine (PySem.strKind P w).pyHash (k := x) (strKind_is P w x t) ?_
    refine bag_add (s := { s1 with toks := s1.toks + 1 }) (B.at fun o z => mv.heap b o bw z) (by omega) fun added h' ks' sb B' mem' le' => ?_
    have off : ∀ c, c ∉ b :: wr → c ≠ b := fun c z q => z (by rw [q]; exact List.mem_cons_self)
    refine wpAny_pure ⟨plainId_quiet F.plain_set_update_loop _, ih (i + 1) _ ks' (by omega) lt (W.frame _ s1 _ _ st1 (Nat.le_succ _) fun c hc o z => ?_) B' (fun y => ?_) (by omega) fun s2 ks2 mv2 B2 mem2 le2 => ?_⟩
    · rw [sb.2 c (fun q => away (q ▸ hc))]
      exact z
    · rw [mem' y, mem y, List.take_add_one, at_, Option.toList_some, List.mem_append, List.mem_singleton]
      exact Or.comm
    · refine k s2 ks2 (Moved.trans W.gtrans ((mv.mono more).then_heap (Nat.le_succ _) fun c o hc z => ?_) mv2) B2 mem2 le2
      rw [sb.2 c (off c hc)]
      exact z
theorem txt_at {us : List Value} {xs : List Str} (h : StrsAre us xs) : ∀ (i : Nat) (v : Value), us[i]? = some v → ∃ x t, xs[i]? = some x ∧ v = .str x t := by
  induction h with
  | nil => intro i v z; cases z
  | cons x t _ ih =>
    intro i v z
    cases i with
    | zero => cases z; exact ⟨x, t, rfl, rfl⟩
    | succ i => exact ih i v z
abbrev freshSet (w : World) : Obj := { cls := .type "set", dict := none, data := .set #[] 0 (.fresh 0 0 (!w.params.followText "set-order")) }
theorem bag_nil {h : Heap} {b : Addr} (e : h.get? b = some (freshSet w)) : Bag w h b [] := by
  refine ⟨List.nodup_nil, _, #[], 0, _, e, ⟨rfl, rfl, rfl⟩, rfl, ⟨fun _ z => (by simp at z), by decide, rfl, List.Pairwise.nil, ?_⟩, rfl⟩
  show w.params.followText "set-order" = true ∨ (!w.params.followText "set-order") = true
  cases w.params.followText "set-order"
  · exact .inr rfl
  · exact .inl rfl
theorem set_of_tuple {l : Addr} {items : Array Value} (xs : List Str) {Q : Value → Shared → Prop} (calm : A.handled = none) (src : s.heap.IsTuple l items) (are : StrsAre items.toList xs) (room : xs.length + 1 < scanBound)
    (k : ∀ (h' : Heap) (tk : Nat) (ks : List Str), Bag w h' s.heap.objs.size ks → (∀ y, y ∈ ks ↔ y ∈ xs) → ks.length ≤ xs.length → (∀ b o, s.heap.get? b = some o → h'.get? b = some o) → Q (.ref s.heap.objs.size) { s with heap := h', toks := tk }) :
    wpAny (model P w) A (call (.type "set") [.ref l]) Q E s := by
  have size_ : items.size = xs.length := by
    have q := are.length
    simpa using q
  obtain ⟨c, tl, hmro⟩ := F.called_set.mro
  have hmade := F.called_set.made
  have hsub := F.called_set.sub
  apply wpAny_call
  apply codeAny_of_tree
  show wpAny _ _ (callAny (.type "set") _) _ _ _
  refine wpAny_pure ⟨Code.quiet_builtin _ (by decide +kernel), codeAny_builtin F.entry_type_call ?_⟩
  rw [Around.under_plain (weight_type_call_type "set" [.ref l] []) rfl]
  have notType := F.called_set.notType
  have creates := F.called_set.canCreate
  have calls1 := F.typeCall_set_1 (.ref l)
  repeat (any_goals (first | assumption | wp_step))
  refine codeAny_mono (code_set_led1 (.ref l) (E := E) (Q₁ := fun ob s1 => ob = .ref s.heap.objs.size ∧ s1 = { s with heap := s.heap.push (freshSet w) }) ⟨rfl, rfl⟩) fun r s1 hr => ?_
  cases r with
  | error e => exact hr
  | ok fl =>
    cases fl with
    | next => exact hr.elim
    | brk => exact hr.elim
    | cont => exact hr.elim
    | ret ob =>
      obtain ⟨rfl, rfl⟩ := hr
      have made : (s.heap.push (freshSet w)).get? s.heap.objs.size = some (freshSet w) := Heap.get?_push_size _ rfl
      have madeT : Shared.TypeIs { s with heap := s.heap.push (freshSet w) } (.ref s.heap.objs.size) "set" := ⟨_, made, rfl⟩
      have initLook := F.called_set.init.lookup
      have initBind := F.called_set.init.bind (.ref s.heap.objs.size)
      repeat (any_goals (first | assumption | wp_step))
      refine codeAny_mono (codeAny_call_builtin (R := wants (fun r s2 => r = .none ∧ ∃ h' tk ks, s2 = { s with heap := h', toks := tk } ∧ Bag w h' s.heap.objs.size ks ∧ (∀ y, y ∈ ks ↔ y ∈ xs) ∧ ks.length ≤ xs.length ∧ ∀ b o, s.heap.get? b = some o → h'.get? b = some o) E)
        F.called_set.init.plain F.entry_set_init (check_set_init_1 madeT ?_)) fun r2 s2 hr2 => ?_
      · obtain ⟨⟨ocls, odict, odata, oslots⟩, hol, hcl, nl, hdl⟩ := src
        simp only at hcl hdl
        subst hcl
        subst hdl
        have srcAt := Heap.get?_push_of_some (freshSet w) hol
        have src1 : (s.heap.push (freshSet w)).IsTuple l items := ⟨_, srcAt, rfl, nl, rfl⟩
        have hsls := F.sub_tuple_set
        have hslf := F.sub_tuple_frozenset
        have noDict : (Value.type "tuple" == Value.type "dict") = false := by decide
        unfold Builtin.«set.__init__» noKeywords Builtin.Frozenset.updateFrom
        generalize hPI : pyIter = PI
        wp_walk
        subst hPI
        apply wpAny_pyIter_tuple src1
        apply wpAny_bind
        apply wpAny_runValue
        have low : l < s.heap.objs.size := Heap.lt_size hol
        have grown : (s.heap.push (freshSet w)).objs.size = s.heap.objs.size + 1 := Heap.size_push _ _
        have calm3 : A.in1.in1.in1.handled = none := by simp [calm]
        have apart : l ≠ (s.heap.push (freshSet w)).objs.size := by rw [grown]; exact Nat.ne_of_lt (Nat.lt_succ_of_lt low)
        have away : s.heap.objs.size ∉ [(s.heap.push (freshSet w)).objs.size, l] := fun z => by
          rcases List.mem_cons.mp z with z | z
          · rw [grown] at z
            exact absurd z (Nat.ne_of_lt (Nat.lt_succ_self _))
          · exact absurd (List.mem_singleton.mp z).symm (Nat.ne_of_lt low)
        refine bag_fill ((Walks.tuple calm3 _ l apart items).toS) away xs size_ room (fun i v z => txt_at are i v (by rw [Array.getElem?_toList]; exact z)) (items.size - 0) 0 _ [] rfl (Nat.zero_le _)
          ⟨⟨_, Heap.get?_push_size _ rfl, rfl, rfl⟩, src1.push _⟩ (bag_nil (Heap.get?_push_of_some _ made)) (fun y => by simp) (Nat.le_refl 0) fun s3 ks mv B mem le => ?_
        rcases s3 with ⟨h3, g3, d3, tk3, os3⟩
        cases (show g3 = s.gens from mv.gens)
        cases (show d3 = s.drawn from mv.drawn)
        cases (show os3 = s.os from mv.os)
        apply wpAny_pure
        show wpAny _ _ (ret Value.none) _ _ _
        refine wpAny_pure ⟨rfl, h3, tk3, ks, rfl, B, mem, le, fun b o e => mv.heap b o (fun z => ?_) (Heap.get?_push_of_some _ (Heap.get?_push_of_some _ e))⟩
        have lb := Heap.lt_size e
        rcases List.mem_cons.mp z with z | z
        · exact absurd z (Nat.ne_of_lt lb)
        · rw [grown] at z
          exact absurd (List.mem_singleton.mp z) (Nat.ne_of_lt (Nat.lt_succ_of_lt lb))
      · cases r2 with
        | error e => exact hr2
        | ok fl2 =>
          cases fl2 with
          | next => exact hr2.elim
          | brk => exact hr2.elim
          | cont => exact hr2.elim
          | ret r =>
            obtain ⟨rfl, h', tk, ks, rfl, B, mem, le, kp⟩ := hr2
            repeat (any_goals (first | assumption | wp_step))
            exact k _ _ _ B mem le kp
theorem set_of_list {l : Addr} {items : Array Value} (xs : List Str) {Q : Value → Shared → Prop} (calm : A.handled = none) (src : s.heap.IsList l items) (are : StrsAre items.toList xs) (room : xs.length + 1 < scanBound)
    (k : ∀ (h' : Heap) (tk : Nat) (ks : List Str), Bag w h' s.heap.objs.size ks → (∀ y, y ∈ ks ↔ y ∈ xs) → ks.length ≤ xs.length → (∀ b o, s.heap.get? b = some o → h'.get? b = some o) → Q (.ref s.heap.objs.size) { s with heap := h', toks := tk }) :
    wpAny (model P w) A (call (.type "set") [.ref l]) Q E s := by
  have size_ : items.size = xs.length := by
    have q := are.length
    simpa using q
  obtain ⟨c, tl, hmro⟩ := F.called_set.mro
  have hmade := F.called_set.made
  have hsub := F.called_set.sub
  apply wpAny_call
  apply codeAny_of_tree
  show wpAny _ _ (callAny (.type "set") _) _ _ _
  refine wpAny_pure ⟨Code.quiet_builtin _ (by decide +kernel), codeAny_builtin F.entry_type_call ?_⟩
  rw [Around.under_plain (weight_type_call_type "set" [.ref l] []) rfl]
  have notType := F.called_set.notType
  have creates := F.called_set.canCreate
  have calls1 := F.typeCall_set_1 (.ref l)
  repeat (any_goals (first | assumption | wp_step))
  refine codeAny_mono (code_set_led1 (.ref l) (E := E) (Q₁ := fun ob s1 => ob = .ref s.heap.objs.size ∧ s1 = { s with heap := s.heap.push (freshSet w) }) ⟨rfl, rfl⟩) fun r s1 hr => ?_
  cases r with
  | error e => exact hr
  | ok fl =>
    cases fl with
    | next => exact hr.elim
    | brk => exact hr.elim
    | cont => exact hr.elim
    | ret ob =>
      obtain ⟨rfl, rfl⟩ := hr
      have made : (s.heap.push (freshSet w)).get? s.heap.objs.size = some (freshSet w) := Heap.get?_push_size _ rfl
      have madeT : Shared.TypeIs { s with heap := s.heap.push (freshSet w) } (.ref s.heap.objs.size) "set" := ⟨_, made, rfl⟩
      have initLook := F.called_set.init.lookup
      have initBind := F.called_set.init.bind (.ref s.heap.objs.size)
      repeat (any_goals (first | assumption | wp_step))
      refine codeAny_mono (codeAny_call_builtin (R := wants (fun r s2 => r = .none ∧ ∃ h' tk ks, s2 = { s with heap := h', toks := tk } ∧ Bag w h' s.heap.objs.size ks ∧ (∀ y, y ∈ ks ↔ y ∈ xs) ∧ ks.length ≤ xs.length ∧ ∀ b o, s.heap.get? b = some o → h'.get? b = some o) E)
        F.called_set.init.plain F.entry_set_init (check_set_init_1 madeT ?_)) fun r2 s2 hr2 => ?_
      · obtain ⟨⟨ocls, odict, odata, oslots⟩, hol, hcl, nl, hdl⟩ := src
        simp only at hcl hdl
        subst hcl
        subst hdl
        have srcAt := Heap.get?_push_of_some (freshSet w) hol
        have src1 : (s.heap.push (freshSet w)).IsList l items := ⟨_, srcAt, rfl, nl, rfl⟩
        have hsls := F.sub_list_set
        have hslf := F.sub_list_frozenset
        have noDict : (Value.type "list" == Value.type "dict") = false := by decide
        unfold Builtin.«set.__init__» noKeywords Builtin.Frozenset.updateFrom
        generalize hPI : pyIter = PI
        wp_walk
        subst hPI
        apply wpAny_pyIter_list src1
        apply wpAny_bind
        apply wpAny_runValue
        have low : l < s.heap.objs.size := Heap.lt_size hol
        have grown : (s.heap.push (freshSet w)).objs.size = s.heap.objs.size + 1 := Heap.size_push _ _
        have calm3 : A.in1.in1.in1.handled = none := by simp [calm]
        have apart : l ≠ (s.heap.push (freshSet w)).objs.size := by rw [grown]; exact Nat.ne_of_lt (Nat.lt_succ_of_lt low)
        have away : s.heap.objs.size ∉ [(s.heap.push (freshSet w)).objs.size, l] := fun z => by
          rcases List.mem_cons.mp z with z | z
          · rw [grown] at z
            exact absurd z (Nat.ne_of_lt (Nat.lt_succ_self _))
          · exact absurd (List.mem_singleton.mp z).symm (Nat.ne_of_lt low)
        refine bag_fill ((Walks.list calm3 _ l apart items).toS) away xs size_ room (fun i v z => txt_at are i v (by rw [Array.getElem?_toList]; exact z)) (items.size - 0) 0 _ [] rfl (Nat.zero_le _)
          ⟨⟨_, Heap.get?_push_size _ rfl, rfl, rfl⟩, src1.push _⟩ (bag_nil (Heap.get?_push_of_some _ made)) (fun y => by simp) (Nat.le_refl 0) fun s3 ks mv B mem le => ?_
        rcases s3 with ⟨h3, g3, d3, tk3, os3⟩
        cases (show g3 = s.gens from mv.gens)
        cases (show d3 = s.drawn from mv.drawn)
        cases (show os3 = s.os from mv.os)
        apply wpAny_pure
        show wpAny _ _ (ret Value.none) _ _ _
        refine wpAny_pure ⟨rfl, h3, tk3, ks, rfl, B, mem, le, fun b o e => mv.heap b o (fun z => ?_) (Heap.get?_push_of_some _ (Heap.get?_push_of_some _ e))⟩
        have lb := Heap.lt_size e
        rcases List.mem_cons.mp z with z | z
        · exact absurd z (Nat.ne_of_lt lb)
        · rw [grown] at z
          exact absurd (List.mem_singleton.mp z) (Nat.ne_of_lt (Nat.lt_succ_of_lt lb))
      · cases r2 with
        | error e => exact hr2
        | ok fl2 =>
          cases fl2 with
          | next => exact hr2.elim
          | brk => exact hr2.elim
          | cont => exact hr2.elim
          | ret r =>
            obtain ⟨rfl, h', tk, ks, rfl, B, mem, le, kp⟩ := hr2
            repeat (any_goals (first | assumption | wp_step))
            exact k _ _ _ B mem le kp
end
end LB
namespace LB
open PySem PySem.Spec PyProof.Rows L2
section
variable {P : Program} {w : World} {A : Around} {E : Value → Shared → Prop} {s : Shared} {a : Addr}
/-- sorted(a bag), few members -/
theorem sorted_bag {b : Addr} {ks : List Str} {Q : Value → Shared → Prop} (B : Bag w s.heap b ks) (calm : A.handled = none) (few : ks.length < 64)
    (k : ∀ s' p (out : Array Value) (c : Nat) (ys : List Str), (∀ d o, s.heap.get? d = some o → s'.heap.get? d = some o) → s'.gens = s.gens → s'.os = s.os → s.heap.objs.size ≤ p → s'.heap.get? p = some (seqObj "list" out c) → StrsAre out.toList ys → ys.Perm ks → sortedS ys = true → Q (.ref p) s') :
    wpAny (model P w) A (call (.builtin "sorted") [.ref b]) Q E s := by
  obtain ⟨nd, o, es, ep, t, at_, xo, od, T, names⟩ := B
  apply Calls.call_function_entry kind_sorted plain_sorted entry_sorted (args_sorted1 _)
  unfold Builtin.«sorted»
  apply wpAny_bind (m := checkCount "sorted" 1 1 _)
  apply wpAny_pure
  apply wpAny_bind
  refine collect_set (A := A.in1) calm ⟨o, at_, xo.1, od⟩ T.fit T.few T.ris T.led fun s1 vs kp sz g1 o1 pm => ?_
  have tx : ∀ us : List Value, (∀ v ∈ us, ∃ x tk, v = Value.str x tk) → StrsAre us (us.map fun v => nm (0, v)) := fun us => by
    induction us with
    | nil => exact fun _ => .nil
    | cons v us ih =>
      intro z
      obtain ⟨x, tk, rfl⟩ := z v List.mem_cons_self
      exact .cons x tk (ih fun u hu => z u (List.mem_cons_of_mem _ hu))
  have are : StrsAre vs (vs.map fun v => nm (0, v)) := tx vs fun v hv => by
    obtain ⟨e, he, rfl⟩ := List.mem_map.mp (pm.mem_iff.mp hv)
    obtain ⟨x, tk, rfl⟩ := T.all e he
    exact ⟨x, tk, rfl⟩
  have pk : (vs.map fun v => nm (0, v)).Perm ks := by
    have q := pm.map fun v => nm (0, v)
    rw [List.map_map] at q
    exact q.trans (List.Perm.of_eq names)
  have vl : vs.length < 64 := by
    have q := pk.length_eq
    rw [List.length_map] at q
    omega
  apply wpAny_bind
  refine wpAny_newList ?_ (by rw [sizeLine_eq]; omega)
  have laid : (s1.heap.push (seqObj "list" vs.toArray 0)).get? s1.heap.objs.size = some (seqObj "list" vs.toArray 0) := Heap.get?_push_size _ rfl
  apply wpAny_bind
  apply wpAny_holding
  refine wpAny_call_entry slot_list_sort ⟨_, laid, rfl⟩ entry_list_sort ?_ (args_list_sort _)
  refine list_sort_treeK PyProof.Rows.strKind_oneLt laid are.keysOf (fun v1 v2 rest e => keyKind_strs (by rw [← e]; exact are)) vl fun st pt sd => ⟨_, rfl, ?_⟩
  obtain ⟨ys, y1, y2, y3⟩ := sorted_out_str are pt sd
  obtain ⟨c, hc⟩ := sortedHeap_at (vs := vs) (out := (arrOf st).map (·.2)) laid
  refine wpAny_pure ⟨_, rfl, k _ s1.heap.objs.size _ c ys (fun d u e => ?_) g1 o1 sz hc y1 (y2.trans pk) y3⟩
  have was := kp d u e
  have low := Heap.lt_size was
  show (sortedHeap (s1.heap.push (seqObj "list" vs.toArray 0)) s1.heap.objs.size vs _).get? d = some u
  rw [sortedHeap_old (Nat.ne_of_lt low) (by rw [size_push']; exact Nat.lt_succ_of_lt low)]
  exact Heap.get?_push_of_some _ was
end
/-! ### as rules -/
def BagO (w : World) (a : Addr) (ks : List Str) : HO := .ext fun h => Bag w h a ks
section
variable {X : Cx}
theorem bagO_ok {P : Program} {w : World} {H : Hp} {h : Heap} {a : Addr} {ks : List Str} (B : Bag w h a ks) : ObjOk P w H h a (BagO w a ks) := by
  have ⟨_, o, _, _, _, e, _⟩ := B
  exact ⟨B, ⟨o, e⟩, fun _ _ p k => Bag.at p k⟩
/-- set(xs): a tuple or a list of texts -/
def rBag (K : PySem.W.Frag) (w : World) : List V → Hp → VK → Prop := fun vs H Q => ∃ (l : Addr) (xs : List Str), vs = [V.ref l] ∧ (SqT K H l (xs.map V.str) ∨ SqL K H l (xs.map V.str)) ∧ xs.length < 63 ∧
  ∀ (p : Addr) (ks : List Str), H p = none → (∀ y, y ∈ ks ↔ y ∈ xs) → ks.Nodup → ks.length ≤ xs.length → Q (.ref p) (upd H p (BagO w p ks))
theorem cr_bag (hc : X.calm = true) : CallR X (.type "set") (rBag X.K X.w) := by
  intro pins s σ H vs us Q I r h
  obtain ⟨l, xs, rfl, src, few, k⟩ := h
  rw [Vals.ref1 r]
  have room : xs.length + 1 < scanBound := by
    have : scanBound = 4096 := rfl
    omega
  have free : H s.heap.objs.size = none := I.hok.fresh (Nat.le_refl _)
  have fin : ∀ (h' : Heap) (tk : Nat) (ks : List Str), Bag X.w h' s.heap.objs.size ks → (∀ y, y ∈ ks ↔ y ∈ xs) → ks.length ≤ xs.length → (∀ b o, s.heap.get? b = some o → h'.get? b = some o) → EP X pins σ Q (.ref s.heap.objs.size) { s with heap := h', toks := tk } :=
    fun h' tk ks B mem le kp => ⟨.ref _, _, I.laid (t' := tk) kp (Nat.le_refl _) (bagO_ok B), rfl, k _ ks free mem B.1 le⟩
  rcases src with src | src
  · obtain ⟨its, rv, pl, _⟩ := I.tuple src
    exact set_of_tuple xs (I.ok.hd hc) pl (by simpa using rv.strs) room fin
  · obtain ⟨its, rv, pl, _⟩ := I.list src
    exact set_of_list xs (I.ok.hd hc) pl.isList (by simpa using rv.strs) room fin
def rSortBag (w : World) : List V → Hp → VK → Prop := fun vs H Q => ∃ (a : Addr) (ks : List Str), vs = [V.ref a] ∧ H a = some (BagO w a ks) ∧ ks.length < 64 ∧
  ∀ (ys : List Str) (p : Addr), ys.Perm ks → sortedS ys = true → H p = none → Q (.ref p) (upd H p (.lst (ys.map V.str)))
theorem cr_sortBag (hc : X.calm = true) : CallR X (.builtin "sorted") (rSortBag X.w) := by
  intro pins s σ H vs us Q I r h
  obtain ⟨a, ks, rfl, at_, few, k⟩ := h
  have B : Bag X.w s.heap a ks := (I.hok a _ at_).1
  rw [Vals.ref1 r]
  refine sorted_bag B (I.ok.hd hc) few fun s' p out c ys kp g o le hp are pm srt => ?_
  have free : H p = none := I.hok.fresh le
  have lim : (ys.map V.str).length ≤ sizeLine := by rw [List.length_map, pm.length_eq]; exact small64 few
  have J : Inv X pins σ (upd H p (.lst (ys.map V.str))) { s with heap := s'.heap, gens := s'.gens, drawn := s'.drawn, toks := s'.toks } :=
    I.call (ch := []) (Un.laid kp le free) (I.hok.laid kp le ⟨lim, out.toList, c, vals_of_strs are, hp⟩) (by rw [g]; exact I.bare) (fun _ z => nomatch z)
  rcases s' with ⟨h2, g2, d2, t2, o2⟩
  cases (show o2 = s.os from o)
  exact ⟨.ref p, _, J, rfl, k ys p pm srt free⟩
end
end LB
/-! what sorted(set(texts)) is: unique, there -/
namespace SR
open PySem PySem.Spec PyProof.Rows
def Srt (xs ys : List Str) : Prop := ys.Nodup ∧ PyProof.Rows.sortedS ys = true ∧ ∀ y, y ∈ ys ↔ y ∈ xs
abbrev Le (a b : Str) : Prop := ltCps b.cps.toList a.cps.toList = false
theorem le_iff (a b : Str) : Le a b ↔ a.cps.toList ≤ b.cps.toList := by
  show ltCps _ _ = false ↔ _
  rw [ltCps_eq, decide_eq_false_iff_not, List.not_lt]
theorem le_trans {a b c : Str} (h1 : Le a b) (h2 : Le b c) : Le a c := (le_iff a c).mpr (List.le_trans ((le_iff a b).mp h1) ((le_iff b c).mp h2))
theorem le_anti {a b : Str} (h1 : Le a b) (h2 : Le b a) : a = b := by
  have e := List.le_antisymm ((le_iff a b).mp h1) ((le_iff b a).mp h2)
  cases a; cases b
  exact congrArg Str.mk (Array.toList_inj.mp e)
theorem le_total (a b : Str) : Le a b ∨ Le b a := (List.le_total a.cps.toList b.cps.toList).imp (le_iff a b).mpr (le_iff b a).mpr
theorem rising_pw : ∀ (p : Str) (l : List Str), risingS p l = true → (p :: l).Pairwise Le
  | p, [], _ => List.pairwise_singleton _ _
  | p, x :: r, h => by
    have h' : (!ltCps x.cps.toList p.cps.toList && risingS x r) = true := h
    obtain ⟨h1, h2⟩ := Bool.and_eq_true_iff.mp h'
    have px : Le p x := by simpa using h1
    have ih := rising_pw x r h2
    refine List.pairwise_cons.mpr ⟨fun y hy => ?_, ih⟩
    rcases List.mem_cons.mp hy with rfl | hy
    · exact px
    · exact le_trans px (List.rel_of_pairwise_cons ih hy)
theorem sorted_pw : ∀ {l : List Str}, sortedS l = true → l.Pairwise Le
  | [], _ => .nil
  | p :: l, h => rising_pw p l h
theorem unique {xs ys zs : List Str} (a : Srt xs ys) (b : Srt xs zs) : ys = zs :=
  List.Perm.eq_of_pairwise (fun _ _ _ _ h1 h2 => le_anti h1 h2) (sorted_pw a.2.1) (sorted_pw b.2.1) ((List.perm_ext_iff_of_nodup a.1 b.1).mpr fun y => (a.2.2 y).trans (b.2.2 y).symm)
theorem there (xs : List Str) : ∃ ys, Srt xs ys := by
  have sort : ∀ l : List Str, l.Nodup → ∃ ys, Srt l ys := fun l nd => by
    have pm := List.mergeSort_perm l (fun a b => !ltCps b.cps.toList a.cps.toList)
    have pw := List.pairwise_mergeSort (le := fun a b : Str => !ltCps b.cps.toList a.cps.toList) (fun a b c h1 h2 => by
      have := le_trans (a := a) (b := b) (c := c) (by simpa using h1) (by simpa using h2)
      simpa using this) (fun a b => by
      rcases le_total a b with h | h
      · simp [show ltCps b.cps.toList a.cps.toList = false from h]
      · simp [show ltCps a.cps.toList b.cps.toList = false from h]) l
    exact ⟨_, pm.nodup_iff.mpr nd, sortedS_of_pairwise _ (pw.imp fun h => by simpa using h), fun y => pm.mem_iff⟩
  have dd : ∀ l : List Str, ∃ m : List Str, m.Nodup ∧ ∀ y, y ∈ m ↔ y ∈ l := fun l => by
    induction l with
    | nil => exact ⟨[], .nil, fun _ => Iff.rfl⟩
    | cons x r ih =>
      obtain ⟨m, nd, mm⟩ := ih
      by_cases h : x ∈ m
      · refine ⟨m, nd, fun y => (mm y).trans ⟨List.mem_cons_of_mem _, fun z => (List.mem_cons.mp z).elim (fun e => by rw [e]; exact (mm x).mp h) id⟩⟩
      · exact ⟨x :: m, List.nodup_cons.mpr ⟨h, nd⟩, fun y => by rw [List.mem_cons, List.mem_cons, mm]⟩
  obtain ⟨m, nd, mm⟩ := dd xs
  obtain ⟨ys, a, b, c⟩ := sort m nd
  exact ⟨ys, a, b, fun y => (c y).trans (mm y)⟩
theorem self {xs ys : List Str} (a : Srt xs ys) : Srt ys ys := ⟨a.1, a.2.1, fun _ => Iff.rfl⟩
theorem congr {xs zs ys : List Str} (a : Srt xs ys) (h : ∀ y, y ∈ xs ↔ y ∈ zs) : Srt zs ys := ⟨a.1, a.2.1, fun y => (a.2.2 y).trans (h y)⟩
theorem tail {ys : List Str} (a : Srt ys ys) : Srt ys.tail ys.tail := by
  refine ⟨a.1.sublist (List.tail_sublist _), ?_, fun _ => Iff.rfl⟩
  exact sortedS_of_pairwise _ ((sorted_pw a.2.1).sublist (List.tail_sublist _))
theorem len_le {xs ys : List Str} (a : Srt xs ys) : ys.length ≤ xs.length := by
  have h : ∀ (l m : List Str), l.Nodup → (∀ y ∈ l, y ∈ m) → l.length ≤ m.length := fun l => by
    induction l with
    | nil => intro m _ _; exact Nat.zero_le _
    | cons x r ih =>
      intro m nd sub
      have nd' := List.nodup_cons.mp nd
      have hx := sub x List.mem_cons_self
      have := ih (m.erase x) nd'.2 fun y hy => (List.mem_erase_of_ne fun e : y = x => nd'.1 (e ▸ hy)).mpr (sub y (List.mem_cons_of_mem _ hy))
      rw [List.length_erase_of_mem hx] at this
      have pos := List.length_pos_of_mem hx
      rw [List.length_cons]
      omega
  exact h ys xs a.1 fun y hy => (a.2.2 y).mp hy
end SR
/-! what split by one sign gives, over codes -/
namespace SP
open PySem Builtin Builtin.Str StrLaws
abbrev Tx := List Nat
def tx (l : Tx) : Str := ⟨l.toArray⟩
def splA (c : Nat) : Tx → Tx → List Tx
  | acc, [] => [acc]
  | acc, a :: r => if a = c then acc :: splA c [] r else splA c (acc ++ [a]) r
def spots (c : Nat) : Tx → Nat → List Nat
  | [], _ => []
  | a :: r, k => if a = c then k :: spots c r (k + 1) else spots c r (k + 1)
theorem sub_at (l : Tx) (c k : Nat) : subAt (tx l) ⟨#[c]⟩ k = true ↔ l[k]? = some c := by
  rw [subAt_eq]
  show (((l.toArray.toList.drop k).take 1 == [c]) = true) ↔ _
  rw [beq_iff_eq, List.toList_toArray]
  cases h : l.drop k with
  | nil =>
    have e : l[k]? = none := by
      have := List.drop_eq_nil_iff.mp h
      exact List.getElem?_eq_none this
    simp [e]
  | cons a r =>
    have e : l[k]? = some a := by
      have := congrArg List.head? h
      rw [List.head?_drop] at this
      simpa using this
    simp [e]
theorem drop_at {l : Tx} {k : Nat} (h : k < l.length) : l.drop k = l[k] :: l.drop (k + 1) := List.drop_eq_getElem_cons h
theorem occ_from (l : Tx) (c limit : Nat) : ∀ (m k : Nat) (st : Array Nat × Nat), k + m = l.length + 1 → st.snd ≤ k → st.fst.size + m ≤ limit →
    (forIn (List.range' k m) st (occBody (tx l) ⟨#[c]⟩ l.length limit)).run.fst.toList = st.fst.toList ++ spots c (l.drop k) k
  | 0, k, st, hk, _, _ => by
    rw [List.drop_of_length_le (by omega)]
    simp [spots]
  | m + 1, k, st, hk, hs, hl => by
    rw [List.range'_succ, List.forIn_cons]
    unfold occBody
    have one : (⟨#[c]⟩ : Str).length = 1 := rfl
    rw [one]
    by_cases h : k < l.length
    · rw [drop_at h]
      by_cases e : l[k] = c
      · have yes : ((st.fst.size < limit ∧ st.snd ≤ k) ∧ k + 1 ≤ l.length) ∧ subAt (tx l) ⟨#[c]⟩ k = true := ⟨⟨⟨by omega, hs⟩, h⟩, (sub_at l c k).mpr (by rw [List.getElem?_eq_getElem h, e])⟩
        rw [if_pos yes]
        have ih := occ_from l c limit m (k + 1) (st.fst.push k, k + 1) (by omega) (Nat.le_refl _) (by show (st.fst.push k).size + m ≤ limit; rw [Array.size_push]; omega)
        show (forIn (List.range' (k + 1) m) (st.fst.push k, k + 1) (occBody (tx l) ⟨#[c]⟩ l.length limit)).run.fst.toList = _
        rw [ih]
        show (st.fst.push k).toList ++ _ = _
        rw [Array.toList_push]
        have un : spots c (l[k] :: l.drop (k + 1)) k = k :: spots c (l.drop (k + 1)) (k + 1) := if_pos e
        rw [un, List.append_assoc]
        rfl
      · have no : ¬ (((st.fst.size < limit ∧ st.snd ≤ k) ∧ k + 1 ≤ l.length) ∧ subAt (tx l) ⟨#[c]⟩ k = true) := fun z => by
          have q := (sub_at l c k).mp z.2
          rw [List.getElem?_eq_getElem h] at q
          exact e (Option.some.inj q)
        rw [if_neg no]
        have ih := occ_from l c limit m (k + 1) st (by omega) (by omega) (by omega)
        show (forIn (List.range' (k + 1) m) st (occBody (tx l) ⟨#[c]⟩ l.length limit)).run.fst.toList = _
        rw [ih]
        conv => rhs; unfold spots
        rw [if_neg e]
    · have no : ¬ (((st.fst.size < limit ∧ st.snd ≤ k) ∧ k + 1 ≤ l.length) ∧ subAt (tx l) ⟨#[c]⟩ k = true) := fun z => by omega
      rw [if_neg no]
      have ih := occ_from l c limit m (k + 1) st (by omega) (by omega) (by omega)
      show (forIn (List.range' (k + 1) m) st (occBody (tx l) ⟨#[c]⟩ l.length limit)).run.fst.toList = _
      rw [ih, List.drop_of_length_le (show l.length ≤ k by omega), List.drop_of_length_le (show l.length ≤ k + 1 by omega)]
      rfl
theorem occ_is (l : Tx) (c : Nat) : occurrences (tx l) ⟨#[c]⟩ 0 (tx l).length ((tx l).length + 1) = spots c l 0 := by
  rw [occ_eq]
  have e : (tx l).length = l.length := List.size_toArray
  rw [e]
  have h := occ_from l c (l.length + 1) (l.length + 1) 0 (#[], 0) (by omega) (Nat.le_refl _) (by show 0 + _ ≤ _; omega)
  rw [Nat.sub_zero, h]
  simp
theorem sub_is (l : Tx) (a b : Nat) : strSub (tx l) a b = tx ((l.drop a).take (b - a)) := by
  apply Str.ext'
  apply Array.toList_inj.mp
  rw [strSub_toList]
  show _ = ((l.drop a).take (b - a)).toArray.toList
  rw [List.toList_toArray]
  rfl
theorem parts_is (l : Tx) (c : Nat) : ∀ (n a b : Nat), b + n = l.length → a ≤ b → partsFrom (tx l) 1 a (spots c (l.drop b) b) = (splA c ((l.drop a).take (b - a)) (l.drop b)).map tx
  | 0, a, b, hb, hab => by
    rw [List.drop_of_length_le (by omega)]
    show [strSub (tx l) a (tx l).length] = [tx _]
    rw [sub_is]
    have e : (tx l).length = b := by show l.toArray.size = b; rw [List.size_toArray]; omega
    rw [e]
  | n + 1, a, b, hb, hab => by
    have h : b < l.length := by omega
    rw [drop_at h]
    by_cases e : l[b] = c
    · unfold spots splA
      rw [if_pos e, if_pos e]
      show strSub (tx l) a b :: partsFrom (tx l) 1 (b + 1) (spots c (l.drop (b + 1)) (b + 1)) = tx _ :: _
      rw [sub_is, parts_is l c n (b + 1) (b + 1) (by omega) (Nat.le_refl _), Nat.sub_self, List.take_zero]
    · unfold spots splA
      rw [if_neg e, if_neg e]
      rw [parts_is l c n a (b + 1) (by omega) (by omega)]
      congr 2
      rw [show b + 1 - a = (b - a) + 1 by omega, List.take_add_one]
      congr 1
      rw [List.getElem?_drop, show a + (b - a) = b by omega, List.getElem?_eq_getElem h]
      rfl
theorem kind_ge (x : Str) : 1 ≤ PySem.Builtin.Str.strKind x := by
  unfold PySem.Builtin.Str.strKind
  split
  · exact Nat.le_refl _
  · split <;> decide
theorem split_is (l : Tx) {c : Nat} (hc : c < 256) : Txt.split (tx l) ⟨#[c]⟩ = (splA c [] l).map tx := by
  unfold Txt.split
  have k1 : PySem.Builtin.Str.strKind (⟨#[c]⟩ : Str) = 1 := by unfold PySem.Builtin.Str.strKind; simp [hc]
  have one : (⟨#[c]⟩ : Str).length = 1 := rfl
  rw [k1, one, occ_is]
  have kg := kind_ge (tx l)
  rw [decide_eq_false (show ¬ PySem.Builtin.Str.strKind (tx l) < 1 by omega), Bool.or_false]
  have e : (tx l).length = l.length := List.size_toArray
  rw [e]
  cases l with
  | nil => rfl
  | cons a r =>
    rw [if_neg (by simp)]
    have p := parts_is (a :: r) c (a :: r).length 0 0 (by omega) (Nat.le_refl _)
    rw [List.drop_zero, Nat.sub_self, List.take_zero] at p
    split
    · rename_i q
      rw [List.isEmpty_iff.mp q] at p
      rw [← p]
      show [tx (a :: r)] = [strSub (tx (a :: r)) 0 (tx (a :: r)).length]
      rw [sub_is, e]
      simp
    · rw [partsBetween_eq]
      exact p
theorem splA_app (c : Nat) : ∀ (p acc rest : Tx), c ∉ p → splA c acc (p ++ rest) = splA c (acc ++ p) rest
  | [], acc, rest, _ => by rw [List.nil_append, List.append_nil]
  | a :: p, acc, rest, h => by
    have ha : a ≠ c := fun e => h (by rw [e]; exact List.mem_cons_self ..)
    rw [List.cons_append]
    conv => lhs; unfold splA
    rw [if_neg ha, splA_app c p (acc ++ [a]) rest fun z => h (List.mem_cons_of_mem _ z), List.append_assoc]
    rfl
def joinC (c : Nat) : List Tx → Tx
  | [] => []
  | [p] => p
  | p :: q :: r => p ++ c :: joinC c (q :: r)
theorem split_join (c : Nat) : ∀ (ps : List Tx), ps ≠ [] → (∀ p ∈ ps, c ∉ p) → splA c [] (joinC c ps) = ps
  | [], h, _ => absurd rfl h
  | [p], _, h => by
    have e := splA_app c p [] [] (h p (List.mem_cons_self ..))
    rw [List.append_nil, List.nil_append] at e
    exact e
  | p :: q :: r, _, h => by
    show splA c [] (p ++ c :: joinC c (q :: r)) = _
    rw [splA_app c p [] _ (h p (List.mem_cons_self ..)), List.nil_append]
    unfold splA
    rw [if_pos rfl, split_join c (q :: r) (by simp) fun z hz => h z (List.mem_cons_of_mem _ hz)]
theorem splA_mem (c : Nat) : ∀ (l acc : Tx), ∀ p ∈ splA c acc l, (∀ x ∈ p, x ∈ acc ∨ x ∈ l) ∧ p.length ≤ acc.length + l.length
  | [], acc, p, h => by
    rw [List.mem_singleton.mp h]
    exact ⟨fun x hx => .inl hx, Nat.le_add_right _ _⟩
  | a :: l, acc, p, h => by
    unfold splA at h
    by_cases e : a = c
    · rw [if_pos e] at h
      rcases List.mem_cons.mp h with rfl | h
      · exact ⟨fun x hx => .inl hx, Nat.le_add_right _ _⟩
      · obtain ⟨m, n⟩ := splA_mem c l [] p h
        refine ⟨fun x hx => (m x hx).elim (fun z => by cases z) fun z => .inr (List.mem_cons_of_mem _ z), ?_⟩
        rw [List.length_cons]
        rw [List.length_nil] at n
        omega
    · rw [if_neg e] at h
      obtain ⟨m, n⟩ := splA_mem c l (acc ++ [a]) p h
      refine ⟨fun x hx => (m x hx).elim (fun z => (List.mem_append.mp z).elim .inl fun z => .inr (by rw [List.mem_singleton.mp z]; exact List.mem_cons_self ..)) fun z => .inr (List.mem_cons_of_mem _ z), ?_⟩
      rw [List.length_append, List.length_singleton] at n
      rw [List.length_cons]
      omega
theorem splA_len (c : Nat) : ∀ (l acc : Tx), (splA c acc l).length ≤ l.length + 1 ∧ splA c acc l ≠ []
  | [], acc => ⟨Nat.le_refl _, by simp [splA]⟩
  | a :: l, acc => by
    unfold splA
    by_cases e : a = c
    · rw [if_pos e]
      have := (splA_len c l []).1
      rw [List.length_cons, List.length_cons]
      exact ⟨by omega, by simp⟩
    · rw [if_neg e]
      have := splA_len c l (acc ++ [a])
      rw [List.length_cons]
      exact ⟨by omega, this.2⟩
end SP
/-! == and != of an instance that has its own __eq__, with whatever stands on the other side -/
namespace EqO
open PySem PySem.Spec PyProof.Rows L2
/-- a value of the built-in type T that declines == and != with the instance at x -/
structure Decl (s : Shared) (v : Value) (x : Addr) (T : String) : Prop where
  ty : s.TypeIs v T
  eq : ∀ (prog : Program) (w : World) (A : Around) (E : Value → Shared → Prop) (Q : Option Value → Shared → Prop), Q none s → wpAny (model prog w) A (tryCompare v "__eq__" (.ref x)) Q E s
  ne : ∀ (prog : Program) (w : World) (A : Around) (E : Value → Shared → Prop) (Q : Option Value → Shared → Prop), Q none s → wpAny (model prog w) A (tryCompare v "__ne__" (.ref x)) Q E s
theorem none_eq (l : Addr) : Gives (Builtin.«NoneType.__eq__» ⟨[.none, .ref l], []⟩) (.val (Value.notImplemented)) :=
  .of_wp fun M A E s Q h => by obtain ⟨hp, g, d, tk, os⟩ := s; wp_walk; exact ⟨_, rfl, h⟩
theorem none_ne (l : Addr) : Gives (Builtin.«NoneType.__ne__» ⟨[.none, .ref l], []⟩) (.val (Value.notImplemented)) :=
  .of_wp fun M A E s Q h => by obtain ⟨hp, g, d, tk, os⟩ := s; wp_walk; exact ⟨_, rfl, h⟩
theorem decl_none {s : Shared} (x : Addr) : Decl s .none x "NoneType" where
  ty := rfl
  eq := fun prog w A E Q h => wpAny_tryCompare_declines rfl F.slot_NoneType_eq (call_gives F.slot_NoneType_eq rfl F.entry_NoneType_eq (F.args_NoneType_eq_2 _ _) (none_eq x) ⟨rfl, h⟩)
  ne := fun prog w A E Q h => wpAny_tryCompare_declines rfl F.slot_NoneType_ne (call_gives F.slot_NoneType_ne rfl F.entry_NoneType_ne (F.args_NoneType_ne_2 _ _) (none_ne x) ⟨rfl, h⟩)
/-- the object at x is a plain one -/
def Pl (x : Addr) (s : Shared) : Prop := ∃ c dd sl, s.heap.get? x = some ({ cls := c, dict := dd, data := .plain, slots := sl } : Obj)
theorem bool_eq (b : Bool) (x : Addr) : Meets (Builtin.«int.__eq__» ⟨[.bool b, .ref x], []⟩) (fun _ R s => Pl x s ∧ R (.ok (.ret .notImplemented)) s) :=
  .of_wp fun prog w A R s h => by obtain ⟨hp, g, d, tk, os⟩ := s; obtain ⟨⟨c, dd, sl, hl⟩, h⟩ := h; wp_walk using wpAny_loadPart' hl, wpAny_load hl; exact ⟨_, rfl, h⟩
theorem bool_ne (b : Bool) (x : Addr) : Meets (Builtin.«int.__ne__» ⟨[.bool b, .ref x], []⟩) (fun _ R s => Pl x s ∧ R (.ok (.ret .notImplemented)) s) :=
  .of_wp fun prog w A R s h => by obtain ⟨hp, g, d, tk, os⟩ := s; obtain ⟨⟨c, dd, sl, hl⟩, h⟩ := h; wp_walk using wpAny_loadPart' hl, wpAny_load hl; exact ⟨_, rfl, h⟩
theorem int_eq (b : Int) (t : Tok) (x : Addr) : Meets (Builtin.«int.__eq__» ⟨[.int b t, .ref x], []⟩) (fun _ R s => Pl x s ∧ R (.ok (.ret .notImplemented)) s) :=
  .of_wp fun prog w A R s h => by obtain ⟨hp, g, d, tk, os⟩ := s; obtain ⟨⟨c, dd, sl, hl⟩, h⟩ := h; wp_walk using wpAny_loadPart' hl, wpAny_load hl; exact ⟨_, rfl, h⟩
theorem int_ne (b : Int) (t : Tok) (x : Addr) : Meets (Builtin.«int.__ne__» ⟨[.int b t, .ref x], []⟩) (fun _ R s => Pl x s ∧ R (.ok (.ret .notImplemented)) s) :=
  .of_wp fun prog w A R s h => by obtain ⟨hp, g, d, tk, os⟩ := s; obtain ⟨⟨c, dd, sl, hl⟩, h⟩ := h; wp_walk using wpAny_loadPart' hl, wpAny_load hl; exact ⟨_, rfl, h⟩
theorem str_eq (b : Str) (t : Tok) (x : Addr) : Meets (Builtin.«str.__eq__» ⟨[.str b t, .ref x], []⟩) (fun _ R s => Pl x s ∧ R (.ok (.ret .notImplemented)) s) :=
  .of_wp fun prog w A R s h => by obtain ⟨hp, g, d, tk, os⟩ := s; obtain ⟨⟨c, dd, sl, hl⟩, h⟩ := h; wp_walk using wpAny_loadPart' hl, wpAny_load hl; exact ⟨_, rfl, h⟩
theorem str_ne (b : Str) (t : Tok) (x : Addr) : Meets (Builtin.«str.__ne__» ⟨[.str b t, .ref x], []⟩) (fun _ R s => Pl x s ∧ R (.ok (.ret .notImplemented)) s) :=
  .of_wp fun prog w A R s h => by obtain ⟨hp, g, d, tk, os⟩ := s; obtain ⟨⟨c, dd, sl, hl⟩, h⟩ := h; wp_walk using wpAny_loadPart' hl, wpAny_load hl; exact ⟨_, rfl, h⟩
/-- the object at x is none of the built-in type T -/
def Not (x : Addr) (T : String) (M : Model) (s : Shared) : Prop := PySem.W.Looks M s.heap (isInstance (.ref x) (.type T)) false
theorem list_eq (l x : Addr) : Meets (Builtin.«list.__eq__» ⟨[.ref l, .ref x], []⟩) (fun A R s => (∀ M : Model, Not x "list" M s) ∧ R (.ok (.ret .notImplemented)) s) :=
  .of_wp fun prog w A R s h => by
    obtain ⟨n, h⟩ := h
    unfold Builtin.«list.__eq__»
    show wpAny _ _ (slotArgs "__eq__" 1 ⟨[.ref l, .ref x], []⟩ >>= _) _ _ _
    refine wpAny_bind (wpAny_pure (wpAny_bind ((n _).here ?_)))
    first | exact wpAny_pure h | exact wpAny_pure ⟨_, rfl, h⟩ | exact wpAny_pure (wpAny_pure h) | skip
theorem list_ne (l x : Addr) : Meets (Builtin.«list.__ne__» ⟨[.ref l, .ref x], []⟩) (fun A R s => (∀ M : Model, Not x "list" M s) ∧ R (.ok (.ret .notImplemented)) s) :=
  .of_wp fun prog w A R s h => by
    obtain ⟨n, h⟩ := h
    unfold Builtin.«list.__ne__»
    show wpAny _ _ (slotArgs "__ne__" 1 ⟨[.ref l, .ref x], []⟩ >>= _) _ _ _
    refine wpAny_bind (wpAny_pure (wpAny_bind ((n _).here ?_)))
    first | exact wpAny_pure h | exact wpAny_pure ⟨_, rfl, h⟩ | exact wpAny_pure (wpAny_pure h) | skip
theorem tuple_eq (l x : Addr) : Meets (Builtin.«tuple.__eq__» ⟨[.ref l, .ref x], []⟩) (fun A R s => (∀ M : Model, Not x "tuple" M s) ∧ R (.ok (.ret .notImplemented)) s) :=
  .of_wp fun prog w A R s h => by
    obtain ⟨n, h⟩ := h
    unfold Builtin.«tuple.__eq__»
    show wpAny _ _ (slotArgs "__eq__" 1 ⟨[.ref l, .ref x], []⟩ >>= _) _ _ _
    refine wpAny_bind (wpAny_pure (wpAny_bind ((n _).here ?_)))
    first | exact wpAny_pure h | exact wpAny_pure ⟨_, rfl, h⟩ | exact wpAny_pure (wpAny_pure h) | skip
theorem tuple_ne (l x : Addr) : Meets (Builtin.«tuple.__ne__» ⟨[.ref l, .ref x], []⟩) (fun A R s => (∀ M : Model, Not x "tuple" M s) ∧ R (.ok (.ret .notImplemented)) s) :=
  .of_wp fun prog w A R s h => by
    obtain ⟨n, h⟩ := h
    unfold Builtin.«tuple.__ne__»
    show wpAny _ _ (slotArgs "__ne__" 1 ⟨[.ref l, .ref x], []⟩ >>= _) _ _ _
    refine wpAny_bind (wpAny_pure (wpAny_bind ((n _).here ?_)))
    first | exact wpAny_pure h | exact wpAny_pure ⟨_, rfl, h⟩ | exact wpAny_pure (wpAny_pure h) | skip
theorem dict_eq (l x : Addr) : Meets (Builtin.«dict.__eq__» ⟨[.ref l, .ref x], []⟩) (fun A R s => (∀ M : Model, Not x "dict" M s) ∧ R (.ok (.ret .notImplemented)) s) :=
  .of_wp fun prog w A R s h => by
    obtain ⟨n, h⟩ := h
    unfold Builtin.«dict.__eq__»
    have f : Builtin.Dict.dictSlotArgs "__eq__" ⟨[.ref l, .ref x], []⟩ = pure (.ref l, .ref x) := by first | rfl | kernel_rfl
    show wpAny _ _ (Builtin.Dict.dictSlotArgs "__eq__" ⟨[.ref l, .ref x], []⟩ >>= _) _ _ _
    rw [f]
    refine wpAny_bind (wpAny_pure (wpAny_bind ((n _).here ?_)))
    rw [if_pos (show (!false) = true from rfl)]
    exact wpAny_bind (wpAny_rule (wpAny_pure ⟨_, rfl, h⟩))
theorem dict_ne (l x : Addr) : Meets (Builtin.«dict.__ne__» ⟨[.ref l, .ref x], []⟩) (fun A R s => (∀ M : Model, Not x "dict" M s) ∧ R (.ok (.ret .notImplemented)) s) :=
  .of_wp fun prog w A R s h => by
    obtain ⟨n, h⟩ := h
    unfold Builtin.«dict.__ne__»
    have f : Builtin.Dict.dictSlotArgs "__ne__" ⟨[.ref l, .ref x], []⟩ = pure (.ref l, .ref x) := by first | rfl | kernel_rfl
    show wpAny _ _ (Builtin.Dict.dictSlotArgs "__ne__" ⟨[.ref l, .ref x], []⟩ >>= _) _ _ _
    rw [f]
    refine wpAny_bind (wpAny_pure (wpAny_bind ((n _).here ?_)))
    rw [if_pos (show (!false) = true from rfl)]
    exact wpAny_bind (wpAny_rule (wpAny_pure ⟨_, rfl, h⟩))

theorem decl_bool {s : Shared} {x : Addr} (b : Bool) (p : Pl x s) : Decl s (.bool b) x "bool" where
  ty := rfl
  eq := fun prog w A E Q h => wpAny_tryCompare_declines (T := "bool") rfl F.slot_bool_eq (call_meets F.slot_bool_eq rfl F.entry_int_eq (F.args_int_eq_2 _ _) (bool_eq b x) ⟨p, rfl, h⟩)
  ne := fun prog w A E Q h => wpAny_tryCompare_declines (T := "bool") rfl F.slot_bool_ne (call_meets F.slot_bool_ne rfl F.entry_int_ne (F.args_int_ne_2 _ _) (bool_ne b x) ⟨p, rfl, h⟩)
theorem decl_int {s : Shared} {x : Addr} (b : Int) (t : Tok) (p : Pl x s) : Decl s (.int b t) x "int" where
  ty := rfl
  eq := fun prog w A E Q h => wpAny_tryCompare_declines (T := "int") rfl F.slot_int_eq (call_meets F.slot_int_eq rfl F.entry_int_eq (F.args_int_eq_2 _ _) (int_eq b t x) ⟨p, rfl, h⟩)
  ne := fun prog w A E Q h => wpAny_tryCompare_declines (T := "int") rfl F.slot_int_ne (call_meets F.slot_int_ne rfl F.entry_int_ne (F.args_int_ne_2 _ _) (int_ne b t x) ⟨p, rfl, h⟩)
theorem decl_str {s : Shared} {x : Addr} (b : Str) (t : Tok) (p : Pl x s) : Decl s (.str b t) x "str" where
  ty := rfl
  eq := fun prog w A E Q h => wpAny_tryCompare_declines (T := "str") rfl F.slot_str_eq (call_meets F.slot_str_eq rfl F.entry_str_eq (F.args_str_eq_2 _ _) (str_eq b t x) ⟨p, rfl, h⟩)
  ne := fun prog w A E Q h => wpAny_tryCompare_declines (T := "str") rfl F.slot_str_ne (call_meets F.slot_str_ne rfl F.entry_str_ne (F.args_str_ne_2 _ _) (str_ne b t x) ⟨p, rfl, h⟩)
theorem decl_list {s : Shared} {l x : Addr} (ty : s.TypeIs (.ref l) "list") (n : ∀ M : Model, Not x "list" M s) : Decl s (.ref l) x "list" where
  ty := ty
  eq := fun prog w A E Q h => wpAny_tryCompare_declines ty F.slot_list_eq (call_meets F.slot_list_eq ty F.entry_list_eq (F.args_list_eq_2 _ _) (list_eq l x) ⟨n, rfl, h⟩)
  ne := fun prog w A E Q h => wpAny_tryCompare_declines ty F.slot_list_ne (call_meets F.slot_list_ne ty F.entry_list_ne (F.args_list_ne_2 _ _) (list_ne l x) ⟨n, rfl, h⟩)
theorem decl_tuple {s : Shared} {l x : Addr} (ty : s.TypeIs (.ref l) "tuple") (n : ∀ M : Model, Not x "tuple" M s) : Decl s (.ref l) x "tuple" where
  ty := ty
  eq := fun prog w A E Q h => wpAny_tryCompare_declines ty F.slot_tuple_eq (call_meets F.slot_tuple_eq ty F.entry_tuple_eq (F.args_tuple_eq_2 _ _) (tuple_eq l x) ⟨n, rfl, h⟩)
  ne := fun prog w A E Q h => wpAny_tryCompare_declines ty F.slot_tuple_ne (call_meets F.slot_tuple_ne ty F.entry_tuple_ne (F.args_tuple_ne_2 _ _) (tuple_ne l x) ⟨n, rfl, h⟩)
theorem decl_dict {s : Shared} {l x : Addr} (ty : s.TypeIs (.ref l) "dict") (n : ∀ M : Model, Not x "dict" M s) : Decl s (.ref l) x "dict" where
  ty := ty
  eq := fun prog w A E Q h => wpAny_tryCompare_declines ty F.slot_dict_eq (call_meets F.slot_dict_eq ty F.entry_dict_eq (F.args_dict_eq_2 _ _) (dict_eq l x) ⟨n, rfl, h⟩)
  ne := fun prog w A E Q h => wpAny_tryCompare_declines ty F.slot_dict_ne (call_meets F.slot_dict_ne ty F.entry_dict_ne (F.args_dict_ne_2 _ _) (dict_ne l x) ⟨n, rfl, h⟩)

section
variable {prog : Program} {w : World} {A : Around} {E : Value → Shared → Prop} {s : Shared} {K : PySem.W.Frag} {x C g : Addr} {ox : Obj} {od : Option Obj} {v b : Value} {T : String}
theorem bne_of (C : Addr) (T : String) : (Value.type T != Value.ref C) = true := by
  have e : (Value.type T == Value.ref C) = false := Bool.eq_false_iff.mpr fun q => by cases beq_iff_eq.mp q
  simp [bne, e]
theorem try_eq {Q : Option Value → Shared → Prop} (X : K.In s.heap) (I : PySem.W.InstAt s.heap x ox C od) (hs : PySem.W.findIn K (.ref C) "__eq__" = some (some (.ref g))) (hf : PySem.W.isFn K (.ref g) = true)
    (h : wpAny (model prog w) A (call (.ref g) [.ref x, b]) (PySem.W.CmpBack fun v s' => Q (some v) s') E s) : wpAny (model prog w) A (tryCompare (.ref x) "__eq__" b) Q E s := by
  unfold tryCompare
  refine wpAny_bind (PySem.W.ifBound_K X I hs hf (wpAny_mono h (fun v s' hv => ?_) fun _ _ e => e))
  cases v <;> first | exact hv.elim | exact wpAny_pure hv
/-- b == x, b of a built-in type -/
theorem eq_right {Q : Value → Shared → Prop} (hu : A.units < cLine) (X : K.In s.heap) (I : PySem.W.InstAt s.heap x ox C od) (D : Decl s v x T) (sub : PySem.W.subIn K (.ref C) (.type T) = some false)
    (hs : PySem.W.findIn K (.ref C) "__eq__" = some (some (.ref g))) (hf : PySem.W.isFn K (.ref g) = true) (h : wpAny (model prog w) A (call (.ref g) [.ref x, v]) (PySem.W.CmpBack Q) E s) :
    wpAny (model prog w) A (richCompare .Eq v (.ref x)) Q E s := by
  unfold richCompare
  simp only [D.ty.oneThing_none]
  refine wpAny_holding (wpAny_bind (wpAny_cRoomFor hu (wpAny_bind (wpAny_typeOf D.ty (wpAny_bind (I.type.here ?_))))))
  rw [if_pos (bne_of C T)]
  refine wpAny_bind ((PySem.W.looks_subIn X sub).here ?_)
  simp only [Bool.false_eq_true, if_false, Bool.not_false, if_true]
  refine wpAny_bind (D.eq _ _ _ _ _ ?_)
  refine wpAny_bind (try_eq X I hs hf (wpAny_mono h (fun u s' hv => ?_) fun _ _ e => e))
  cases u <;> first | exact hv.elim | exact wpAny_pure hv
theorem obj_ne {Q : Fin → Shared → Prop} (hu : A.units < cLine) (X : K.In s.heap) (I : PySem.W.InstAt s.heap x ox C od) (hs : PySem.W.findIn K (.ref C) "__eq__" = some (some (.ref g))) (hf : PySem.W.isFn K (.ref g) = true)
    (h : wpAny (model prog w) A (call (.ref g) [.ref x, b]) (fun v s' => ∃ r, v = .bool r ∧ Q (.done (.ret (.bool (!r)))) s') E s) : wpAny (model prog w) A (Builtin.«object.__ne__» ⟨[.ref x, b], []⟩) Q E s := by
  unfold Builtin.«object.__ne__»
  show wpAny _ _ (slotArgs "__ne__" 1 ⟨[.ref x, b], []⟩ >>= _) _ _ _
  refine wpAny_bind (wpAny_pure (wpAny_bind (wpAny_cRoomFor hu (wpAny_bind (PySem.W.ifBound_K X I hs hf (wpAny_mono h ?_ fun _ _ e => e))))))
  rintro _ s' ⟨r, rfl, q⟩
  exact wpAny_bind (wpAny_truthy_bool (wpAny_pure q))
theorem try_ne {Q : Option Value → Shared → Prop} (hu : A.units + 1 < cLine) (X : K.In s.heap) (I : PySem.W.InstAt s.heap x ox C od) (hn : PySem.W.findIn K (.ref C) "__ne__" = some (some (.builtin "object.__ne__"))) (ob : PySem.W.subIn K (.ref C) (.type "object") = some true)
    (hs : PySem.W.findIn K (.ref C) "__eq__" = some (some (.ref g))) (hf : PySem.W.isFn K (.ref g) = true)
    (h : wpAny (model prog w) A.in1 (call (.ref g) [.ref x, b]) (fun v s' => ∃ r, v = .bool r ∧ Q (some (.bool (!r))) s') E s) : wpAny (model prog w) A (tryCompare (.ref x) "__ne__" b) Q E s := by
  have S := F.cmp_object.ne
  have isO : PySem.W.Looks (model prog w) s.heap (isInstance (.ref x) (.type "object")) true := I.type.andThen (PySem.W.looks_subIn X ob)
  have run : wpAny (model prog w) A (call (.builtin "object.__ne__") [.ref x, b]) (fun v s' => ∃ r, v = .bool r ∧ Q (some (.bool r)) s') E s := by
    refine wpAny_call (codeAny_call_builtin S.plain F.cmpEntry_ne (PySem.W.check_slot F.cmpKind_ne F.cmpSplit_ne isO (F.cmpArgs_ne _ _) (obj_ne (A := A.in1) hu X I hs hf (wpAny_mono h ?_ fun _ _ e => e))))
    rintro _ s' ⟨r, rfl, q⟩
    exact ⟨r, rfl, _, rfl, q⟩
  unfold tryCompare
  simp only [callSpecialIfBound?, bindSpecialIfBound?]
  have fin : wpAny (model prog w) A (call (.builtin "object.__ne__") ([.ref x] ++ [b]) >>= fun v => pure (some v)) (fun r s' => ∃ q, r = some (.bool q) ∧ Q (some (.bool q)) s') E s := wpAny_bind (wpAny_mono run (fun v s' h' => by
    obtain ⟨r, rfl, q⟩ := h'
    exact wpAny_pure ⟨r, rfl, q⟩) fun _ _ h' => h')
  refine wpAny_bind (wpAny_holding (wpAny_bind (wpAny_bind (wpAny_bind (I.type.here ((PySem.W.looks_findIn X hn).here ?_))))))
  simp only [S.bind]
  refine wpAny_bind (wpAny_askSetting (wpAny_ite ?_))
  split
  · refine wpAny_bind (wpAny_pure (wpAny_pure (wpAny_mono fin (fun r s' h' => ?_) fun _ _ e => e)))
    obtain ⟨q, rfl, z⟩ := h'
    exact wpAny_pure z
  · refine wpAny_tryCatch (wpAny_bind (wpAny_pure (wpAny_pure (wpAny_mono fin (fun r s' h' => ?_) fun _ _ e => e))))
    obtain ⟨q, rfl, z⟩ := h'
    exact wpAny_pure z
/-- b != x, b of a built-in type -/
theorem ne_right {Q : Value → Shared → Prop} (hu : A.units + 1 < cLine) (X : K.In s.heap) (I : PySem.W.InstAt s.heap x ox C od) (D : Decl s v x T) (sub : PySem.W.subIn K (.ref C) (.type T) = some false)
    (hn : PySem.W.findIn K (.ref C) "__ne__" = some (some (.builtin "object.__ne__"))) (ob : PySem.W.subIn K (.ref C) (.type "object") = some true)
    (hs : PySem.W.findIn K (.ref C) "__eq__" = some (some (.ref g))) (hf : PySem.W.isFn K (.ref g) = true) (h : wpAny (model prog w) A.in1 (call (.ref g) [.ref x, v]) (fun u s' => ∃ r, u = .bool r ∧ Q (.bool (!r)) s') E s) :
    wpAny (model prog w) A (richCompare .NotEq v (.ref x)) Q E s := by
  unfold richCompare
  simp only [D.ty.oneThing_none]
  refine wpAny_holding (wpAny_bind (wpAny_cRoomFor (Nat.lt_of_succ_lt hu) (wpAny_bind (wpAny_typeOf D.ty (wpAny_bind (I.type.here ?_))))))
  rw [if_pos (bne_of C T)]
  refine wpAny_bind ((PySem.W.looks_subIn X sub).here ?_)
  simp only [Bool.false_eq_true, if_false, Bool.not_false, if_true]
  refine wpAny_bind (D.ne _ _ _ _ _ ?_)
  refine wpAny_bind (try_ne hu X I hn ob hs hf (wpAny_mono h (fun u s' hv => ?_) fun _ _ e => e))
  obtain ⟨r, rfl, q⟩ := hv
  exact ⟨r, rfl, wpAny_pure q⟩
/-- x != b -/
theorem ne_left {tb : Value} {Q : Value → Shared → Prop} (hu : A.units + 1 < cLine) (X : K.In s.heap) (I : PySem.W.InstAt s.heap x ox C od) (hb : PySem.W.Looks (model prog w) s.heap (typeOf b) tb) (nf : PySem.W.notFirst K C tb = true)
    (hn : PySem.W.findIn K (.ref C) "__ne__" = some (some (.builtin "object.__ne__"))) (ob : PySem.W.subIn K (.ref C) (.type "object") = some true)
    (hs : PySem.W.findIn K (.ref C) "__eq__" = some (some (.ref g))) (hf : PySem.W.isFn K (.ref g) = true) (h : wpAny (model prog w) A.in1 (call (.ref g) [.ref x, b]) (fun u s' => ∃ r, u = .bool r ∧ Q (.bool (!r)) s') E s) :
    wpAny (model prog w) A (richCompare .NotEq (.ref x) b) Q E s := by
  have one := try_ne (Q := fun r s' => ∃ q, r = some (.bool q) ∧ Q (.bool q) s') hu X I hn ob hs hf (wpAny_mono h (fun u s' hv => by
    obtain ⟨r, rfl, q⟩ := hv
    exact ⟨r, rfl, _, rfl, q⟩) fun _ _ e => e)
  unfold richCompare
  simp only [oneThing_ref]
  refine wpAny_holding (wpAny_bind (wpAny_cRoomFor (Nat.lt_of_succ_lt hu) (wpAny_bind (I.type.here (wpAny_bind (hb.here ?_))))))
  have last : wpAny (model prog w) A (do
      if let some v ← tryCompare (.ref x) (cmpInfo .NotEq).2.1 b then return v
      if !false then
        if let some v ← tryCompare b (cmpInfo .NotEq).2.2 (.ref x) then return v
      rule "compare.ne-identity"
      return .bool (!(← isSame (.ref x) b))) Q E s := by
    refine wpAny_bind (wpAny_mono one (fun r s' z => ?_) fun _ _ e => e)
    obtain ⟨q, rfl, z⟩ := z
    exact wpAny_pure z
  split
  · rename_i q
    have e : PySem.W.subIn K tb (.ref C) = some false := by
      rcases Bool.or_eq_true_iff.mp nf with e | e
      · rw [beq_iff_eq.mp e] at q; simp at q
      · exact beq_iff_eq.mp e
    exact wpAny_bind ((PySem.W.looks_subIn X e).here last)
  · exact wpAny_bind (wpAny_pure last)
end
end EqO
namespace EqO
open PySem PySem.Spec PyProof.Rows L2
/-- a tracked value of a built-in type -/
inductive BtV (K : PySem.W.Frag) (H : Hp) : V → String → Prop
  | non : BtV K H .non "NoneType"
  | bl (b : Bool) : BtV K H (.bl b) "bool"
  | int (i : Int) : BtV K H (.int i) "int"
  | str (x : Str) : BtV K H (.str x) "str"
  | lst {a : Addr} {xs : List V} : H a = some (.lst xs) → BtV K H (.ref a) "list"
  | tup {a : Addr} {xs : List V} : H a = some (.tup xs) → BtV K H (.ref a) "tuple"
  | dic {a : Addr} {kvs : List (Key × V)} : H a = some (.dK kvs) → BtV K H (.ref a) "dict"
  | kTup {a : Addr} {o : Obj} : K.lookup a = some o → o.cls = .type "tuple" → BtV K H (.ref a) "tuple"
structure OwnE (K : PySem.W.Frag) (C g : Addr) : Prop where
  eq : PySem.W.findIn K (.ref C) "__eq__" = some (some (.ref g))
  fn : PySem.W.isFn K (.ref g) = true
  ne : PySem.W.findIn K (.ref C) "__ne__" = some (some (.builtin "object.__ne__"))
  ob : PySem.W.subIn K (.ref C) (.type "object") = some true
  sub : ∀ T ∈ ["NoneType", "bool", "int", "str", "list", "tuple", "dict"], PySem.W.subIn K (.ref C) (.type T) = some false ∧ PySem.W.notFirst K C (.type T) = true
theorem BtV.mem {K : PySem.W.Frag} {H : Hp} {v : V} {T : String} (h : BtV K H v T) : T ∈ ["NoneType", "bool", "int", "str", "list", "tuple", "dict"] := by
  cases h <;> decide
section
variable {X : Cx} {CX : CXT} {pins : List (Addr × Obj)} {σ : L2.St} {H : Hp} {s : Shared} {a C g dx : Addr} {fs : List (Str × V)} {n : Nat} {sp : Sp} {E : XK} {v : V} {u : Value} {T : String}
theorem decl_of (I : Inv X pins σ H s) (O : OwnE X.K C g) (J : PySem.W.InstAt s.heap a ox C od) (pl : Pl a s) (b : BtV X.K H v T) (r : RelV v u) : Decl s u a T := by
  have no : ∀ T, PySem.W.subIn X.K (.ref C) (.type T) = some false → ∀ M : Model, Not a T M s := fun T e M => J.type.andThen (PySem.W.looks_subIn I.kIn e)
  cases b with
  | non => cases r; exact decl_none a
  | bl b => cases r; exact decl_bool b pl
  | int i => obtain ⟨t, rfl⟩ := r; exact decl_int i t pl
  | str x => obtain ⟨t, rfl⟩ := r; exact decl_str x t pl
  | @lst l xs e =>
    cases r
    obtain ⟨_, _, n, _, h1⟩ := (show ObjOk X.prog X.w H s.heap l (.lst xs) from I.hok l _ e)
    exact decl_list ⟨_, h1, rfl⟩ (no _ (O.sub _ (by decide)).1)
  | @tup l xs e =>
    cases r
    obtain ⟨_, _, _, o, h1, h2, _⟩ := (show ObjOk X.prog X.w H s.heap l (.tup xs) from I.hok l _ e)
    exact decl_tuple ⟨o, h1, h2⟩ (no _ (O.sub _ (by decide)).1)
  | @dic l kvs e =>
    cases r
    obtain ⟨_, _, vs, _, o, es, ep, h1, h2, _⟩ := (show ObjOk X.prog X.w H s.heap l (.dK kvs) from I.hok l _ e)
    exact decl_dict ⟨o, h1, h2.1⟩ (no _ (O.sub _ (by decide)).1)
  | @kTup l o e c =>
    cases r
    exact decl_tuple ⟨o, I.kIn l o e, c⟩ (no _ (O.sub _ (by decide)).1)
theorem inst_of (I : Inv X pins σ H s) (h : H a = some (.ins C dx fs)) : ∃ ox od, PySem.W.InstAt s.heap a ox C od ∧ Pl a s := by
  obtain ⟨mA, O, _⟩ := ins_get I.hok h
  obtain ⟨od, J, _⟩ := O.look
  exact ⟨_, _, J, _, _, _, O.obj⟩
/-- what stands on the other side -/
def Oth (K : PySem.W.Frag) (C : Addr) (H : Hp) (y : V) : Prop := (∃ T, BtV K H y T) ∨ ∃ b dy gs, y = .ref b ∧ H b = some (.ins C dy gs)
def rEqO (K : PySem.W.Frag) (C : Addr) (sp : Sp) (E : XK) : R2 := fun x y H Q =>
  (∃ a dx fs, x = .ref a ∧ H a = some (.ins C dx fs) ∧ Oth K C H y ∧ sp [x, y] H Q E) ∨ ∃ a dx fs T, y = .ref a ∧ H a = some (.ins C dx fs) ∧ BtV K H x T ∧ sp [y, x] H Q E
def rNeO (K : PySem.W.Frag) (C : Addr) (sp : Sp) (E : XK) : R2 := fun x y H Q => rEqO K C (fun vs H1 Q1 E1 => sp vs H1 (fun v H' => ∃ r, v = .bl r ∧ Q (.bl (!r)) H') E1) E x y H fun _ _ => True
theorem type_of (I : Inv X pins σ H s) (O : OwnE X.K C g) (J : PySem.W.InstAt s.heap a ox C od) (pl : Pl a s) (o : Oth X.K C H v) (r : RelV v u) : ∃ tb, PySem.W.Looks (model X.prog X.w) s.heap (typeOf u) tb ∧ PySem.W.notFirst X.K C tb = true := by
  rcases o with ⟨T, b⟩ | ⟨b, dy, gs, rfl, e⟩
  · have D := decl_of I O J pl b r
    refine ⟨.type T, ?_, (O.sub T b.mem).2⟩
    have ty := D.ty
    intro A Q E s' k q
    cases u with
    | ref l =>
      obtain ⟨o, ho, hc⟩ := ty
      exact wpAny_typeOf (T := T) ⟨o, k _ _ ho, hc⟩ q
    | _ => exact wpAny_typeOf (T := T) ty q
  · cases r
    obtain ⟨ox, od, J2, _⟩ := inst_of I e
    exact ⟨.ref C, J2.type, by unfold PySem.W.notFirst; simp⟩
theorem op_eqO (O : OwnE X.K C g) (F : FnR X.prog X.w X.K X.mg X.base CX n g sp) (hr : Room n X.A) (hx : Passes CX X E) : OpR X (compareOp .Eq) (rEqO X.K C sp E) := by
  intro pins s σ H x y v u Q I rx ry h
  show wpAny _ _ (richCompare .Eq v u) _ _ _
  obtain ⟨m, hF⟩ := I.fr
  rcases h with ⟨a, dx, fs, rfl, e, o, q⟩ | ⟨a, dx, fs, T, rfl, e, b, q⟩
  · cases rx
    obtain ⟨ox, od, J, pl⟩ := inst_of I e
    obtain ⟨tb, L, nf⟩ := type_of I O J pl o ry
    refine PySem.W.cmp_K (op := .Eq) hr.units0 hF I.ok.mod.kin J L nf O.eq O.fn ?_
    refine wpAny_mono (wpAny_call (run_fnR (us := [.ref a, u]) (vs := [.ref a, y]) F hr hx I (.cons rfl (.cons ry .nil)) q)) (fun w s' z => ?_) fun _ _ x => x
    obtain ⟨z', H', I', rz, qz⟩ := z
    exact SlX.cmpback rz ⟨z', H', I', rz, qz⟩
  · cases ry
    obtain ⟨ox, od, J, pl⟩ := inst_of I e
    refine eq_right hr.units0 I.kIn J (decl_of I O J pl b rx) (O.sub T b.mem).1 O.eq O.fn ?_
    refine wpAny_mono (wpAny_call (run_fnR (us := [.ref a, v]) (vs := [.ref a, x]) F hr hx I (.cons rfl (.cons rx .nil)) q)) (fun w s' z => ?_) fun _ _ x => x
    obtain ⟨z', H', I', rz, qz⟩ := z
    exact SlX.cmpback rz ⟨z', H', I', rz, qz⟩
theorem op_neO (O : OwnE X.K C g) (F : FnR X.prog X.w X.K X.mg X.base CX n g sp) (hr : Room (n + 1) X.A) (hx : Passes CX X E) : OpR X (compareOp .NotEq) (rNeO X.K C sp E) := by
  intro pins s σ H x y v u Q I rx ry h
  show wpAny _ _ (richCompare .NotEq v u) _ _ _
  have hr1 : Room n X.A.in1 := hr.in1
  rcases h with ⟨a, dx, fs, rfl, e, o, q⟩ | ⟨a, dx, fs, T, rfl, e, b, q⟩
  · cases rx
    obtain ⟨ox, od, J, pl⟩ := inst_of I e
    obtain ⟨tb, L, nf⟩ := type_of I O J pl o ry
    refine ne_left hr1.units0 I.kIn J L nf O.ne O.ob O.eq O.fn ?_
    refine wpAny_mono (wpAny_call (SlX.run_at (us := [.ref a, u]) (ws := [.ref a, y]) F hr1 I.env0.in1 hx I (.cons rfl (.cons ry .nil)) q)) (fun w s' z => ?_) fun _ _ x => x
    obtain ⟨z', H', I', rz, r, rfl, qz⟩ := z
    cases rz
    exact ⟨r, rfl, .bl (!r), H', I', rfl, qz⟩
  · cases ry
    obtain ⟨ox, od, J, pl⟩ := inst_of I e
    refine ne_right hr1.units0 I.kIn J (decl_of I O J pl b rx) (O.sub T b.mem).1 O.ne O.ob O.eq O.fn ?_
    refine wpAny_mono (wpAny_call (SlX.run_at (us := [.ref a, v]) (ws := [.ref a, x]) F hr1 I.env0.in1 hx I (.cons rfl (.cons rx .nil)) q)) (fun w s' z => ?_) fun _ _ x => x
    obtain ⟨z', H', I', rz, r, rfl, qz⟩ := z
    cases rz
    exact ⟨r, rfl, .bl (!r), H', I', rfl, qz⟩
/-- f(x), f one of len, repr, str, x an instance of the class at C, what C's own method keeps: sp -/
def rLenO (C : Addr) (sp : Sp) (E : XK) : List V → Hp → VK → Prop := fun xs H Q => ∃ a dx fs, xs = [V.ref a] ∧ H a = some (.ins C dx fs) ∧ sp [.ref a] H (fun v H' => ∃ k : Nat, v = .int (k : Int) ∧ k < 2 ^ 60 ∧ Q v H') E
def rTxtO (C : Addr) (sp : Sp) (E : XK) : List V → Hp → VK → Prop := fun xs H Q => ∃ a dx fs, xs = [V.ref a] ∧ H a = some (.ins C dx fs) ∧ sp [.ref a] H (fun v H' => ∃ z : Str, v = .str z ∧ Q v H') E
theorem call_lenO (hs : PySem.W.findIn X.K (.ref C) "__len__" = some (some (.ref g))) (hf : PySem.W.isFn X.K (.ref g) = true) (F : FnR X.prog X.w X.K X.mg X.base CX n g sp) (hr : Room (n + 1) X.A) (hx : Passes CX X E) : CallR X (.builtin "len") (rLenO C sp E) := by
  rintro pins s σ H xs us Q I r ⟨a, dx, fs, rfl, e, q⟩
  obtain ⟨u, rfl, ru⟩ := r.one
  cases ru
  obtain ⟨ox, od, J, pl⟩ := inst_of I e
  obtain ⟨m, hF⟩ := I.fr
  refine PySem.W.len_K hF I.ok.mod.kin J hs hf (wpAny_mono (wpAny_call (SlX.run_at (us := [.ref a]) (ws := [.ref a]) F hr.in1 I.env0.in1 hx I (.cons rfl .nil) q)) (fun w s' z => ?_) fun _ _ x => x)
  obtain ⟨z', H', I', rz, k, rfl, hk, qz⟩ := z
  obtain ⟨t, rfl⟩ := rz
  exact ⟨⟨by omega, by omega⟩, .int (k : Int), H', I'.tok _, ⟨_, rfl⟩, qz⟩
theorem call_reprO (hs : PySem.W.findIn X.K (.ref C) "__repr__" = some (some (.ref g))) (hf : PySem.W.isFn X.K (.ref g) = true) (F : FnR X.prog X.w X.K X.mg X.base CX n g sp) (hr : Room (n + 1) X.A) (hx : Passes CX X E) : CallR X (.builtin "repr") (rTxtO C sp E) := by
  rintro pins s σ H xs us Q I r ⟨a, dx, fs, rfl, e, q⟩
  obtain ⟨u, rfl, ru⟩ := r.one
  cases ru
  obtain ⟨ox, od, J, pl⟩ := inst_of I e
  obtain ⟨m, hF⟩ := I.fr
  refine PySem.W.repr_K hr.in1.units0 hF I.ok.mod.kin J hs hf (wpAny_mono (wpAny_call (SlX.run_at (us := [.ref a]) (ws := [.ref a]) F hr.in1 I.env0.in1 hx I (.cons rfl .nil) q)) (fun w s' z => ?_) fun _ _ x => x)
  obtain ⟨z', H', I', rz, y, rfl, qz⟩ := z
  obtain ⟨t, rfl⟩ := rz
  exact ⟨.str y, H', I', ⟨_, rfl⟩, qz⟩
theorem call_strO (hs : PySem.W.findIn X.K (.ref C) "__str__" = some (some (.ref g))) (hf : PySem.W.isFn X.K (.ref g) = true) (F : FnR X.prog X.w X.K X.mg X.base CX n g sp) (hr : Room (n + 2) X.A) (hx : Passes CX X E) : CallR X (.type "str") (rTxtO C sp E) := by
  rintro pins s σ H xs us Q I r ⟨a, dx, fs, rfl, e, q⟩
  obtain ⟨u, rfl, ru⟩ := r.one
  cases ru
  obtain ⟨ox, od, J, pl⟩ := inst_of I e
  have hr2 : Room n X.A.in1.in1 := (show Room (n + 1) X.A.in1 from hr.in1).in1
  refine PySem.W.kso_call hr2.units0 I.kIn J hs hf (wpAny_mono (wpAny_call (SlX.run_at (us := [.ref a]) (ws := [.ref a]) F hr2 I.env0.in1.in1 hx I (.cons rfl .nil) q)) (fun w s' z => ?_) fun _ _ x => x)
  obtain ⟨z', H', I', rz, y, rfl, qz⟩ := z
  obtain ⟨t, rfl⟩ := rz
  exact ⟨.str y, H', I', ⟨_, rfl⟩, qz⟩
/-- v in x -/
def rInO (C : Addr) (sp : Sp) (E : XK) : R2 := fun y x H Q => ∃ a dx fs, x = V.ref a ∧ H a = some (.ins C dx fs) ∧ sp [.ref a, y] H (fun v H' => ∃ b : Bool, v = .bl b ∧ Q v H') E
theorem op_inO (hs : PySem.W.findIn X.K (.ref C) "__contains__" = some (some (.ref g))) (hf : PySem.W.isFn X.K (.ref g) = true) (F : FnR X.prog X.w X.K X.mg X.base CX n g sp) (hr : Room n X.A) (hx : Passes CX X E) : OpR X (compareOp .In) (rInO C sp E) := by
  rintro pins s σ H y x v u Q I ry rx ⟨a, dx, fs, rfl, e, q⟩
  cases rx
  obtain ⟨ox, od, J, pl⟩ := inst_of I e
  obtain ⟨m, hF⟩ := I.fr
  refine PySem.W.in_K hF I.ok.mod.kin J hs hf (wpAny_mono (wpAny_call (run_fnR (us := [.ref a, v]) (vs := [.ref a, y]) F hr hx I (.cons rfl (.cons ry .nil)) q)) (fun w s' z => ?_) fun _ _ x => x)
  obtain ⟨z', H', I', rz, b, rfl, qz⟩ := z
  cases rz
  exact wpAny_truthy_bool ⟨.bl b, H', I', rfl, qz⟩
end
end EqO
namespace K12
open PySem L2
abbrev Tx := List Nat
def top (i : Nat) : Stmt := PySem.Challenge.pw_aboveless_k12_labels_made_and_read.main.body.getD i (.Pass ⟨0, 0, 0, 0⟩)
def tot (ts : List Tx) : Nat := (ts.map List.length).sum
def asc (l : Tx) : Prop := ∀ c ∈ l, c < 128
abbrev sIsName : Stmt := top 11
abbrev sRng : Stmt := top 17
abbrev sDraw : Stmt := top 18
abbrev sChoice : Stmt := top 19
abbrev sLIsName : Stmt := top 20
abbrev sMark : Stmt := top 21
abbrev sPool : Stmt := top 22
abbrev sLabel : Stmt := top 23
abbrev sDue : Stmt := top 24
abbrev sTold : Stmt := top 25
abbrev sRead : Stmt := top 26
abbrev sReadDue : Stmt := top 27
abbrev sText : Stmt := top 28
abbrev sSpoilt : Stmt := top 29
abbrev sSame : Stmt := top 30
abbrev sUnlike : Stmt := top 31
abbrev sLabelRight : Stmt := top 32
abbrev sRight : Stmt := top 33
abbrev sLaw : Stmt := top 34
abbrev sMarksOf : Stmt := top 14
/-- a text by its codes -/
def txt (l : Tx) : Str := ⟨l.toArray⟩
abbrev tv (l : Tx) : V := .str (txt l)
theorem txt_len (l : Tx) : (txt l).length = l.length := List.size_toArray
theorem txt_list (l : Tx) : (txt l).cps.toList = l := rfl
theorem txt_of (z : Str) : z = txt z.cps.toList := by cases z with | mk a => cases a; rfl
theorem txt_inj {a b : Tx} (h : txt a = txt b) : a = b := by
  have h2 : (txt a).cps.toList = (txt b).cps.toList := by rw [h]
  exact h2
theorem txt_app (a b : Tx) : txt a ++ txt b = txt (a ++ b) := by
  show (⟨a.toArray ++ b.toArray⟩ : Str) = ⟨(a ++ b).toArray⟩
  simp
/-- the most signs of a text here -/
def big : Nat := 1000000
theorem big_line : big ≤ sizeLine := by decide
theorem same_upd {H : Hp} {p : Addr} {o : HO} (h : H p = none) : Same H (upd H p o) := fun b u e => by
  rw [upd_ne (ne_of_none e h)]
  exact e
/-! ### a text times an int -/
def rep (n : Nat) (l : Tx) : Tx := (List.replicate n l).flatten
theorem rep_len (n : Nat) (l : Tx) : (rep n l).length = n * l.length := by unfold rep; simp
theorem fold_rep (l : Tx) : ∀ (k : Nat) (acc : Tx), List.foldl (fun a b : Array Nat => a ++ b) acc.toArray (List.replicate k l.toArray) = (acc ++ rep k l).toArray
  | 0, acc => by simp [rep]
  | k + 1, acc => by
    have e : acc.toArray ++ l.toArray = (acc ++ l).toArray := by simp
    rw [List.replicate_succ, List.foldl_cons, e, fold_rep l k (acc ++ l)]
    unfold rep
    rw [List.replicate_succ, List.flatten_cons, List.append_assoc]
theorem op_mulS {X : Cx} : OpR X (binaryOp .Mult) (fun x y H Q => ∃ (l : Tx) (n : Nat), x = tv l ∧ y = .int (n : Int) ∧ n ≤ big ∧ l.length * n ≤ big ∧ Q (tv (rep n l)) H) := by
  rintro pins s σ H x y v u Q I rx ry ⟨l, n, rfl, rfl, hn, hl, q⟩
  obtain ⟨t, rfl⟩ := rx
  obtain ⟨t', rfl⟩ := ry
  have hb : big = 1000000 := rfl
  have hsl : sizeLine = 16777216 := sizeLine_eq
  refine PySem.P.mul_str (by rw [decide_eq_false (by omega), decide_eq_false (by omega)]; rfl) (fun h1 _ => ?_) (fun h1 _ => ?_) ?_
  · rw [txt_len]
    have hdiv : (l.length : Int) ≤ (2 ^ 63 - 1) / (n : Int) := by
      rw [Int.le_ediv_iff_mul_le (by omega)]
      have : ((l.length * n : Nat) : Int) ≤ 1000000 := by omega
      rw [Int.natCast_mul] at this
      omega
    omega
  · rw [txt_len, Int.toNat_natCast]
    unfold PySem.Builtin.Str.tooLong
    exact decide_eq_false (by rw [hsl]; omega)
  · have fin : ∀ tk' k, EP X pins σ Q (.str (txt (rep n l)) tk') { s with toks := k } := fun tk' k => ⟨tv (rep n l), H, I.tok k, ⟨tk', rfl⟩, q⟩
    by_cases h1 : (n : Int) < 1
    · rw [if_pos h1]
      have e0 : n = 0 := by omega
      subst e0
      exact ⟨by decide, fin _ _⟩
    · rw [if_neg h1]
      by_cases h2 : (((n : Int) == 1 || (txt l).length == 0) = true)
      · rw [if_pos h2]
        have e : rep n l = l := by
          rcases Bool.or_eq_true_iff.mp h2 with h | h
          · have : n = 1 := by have := beq_iff_eq.mp h; omega
            subst this
            simp [rep]
          · rw [txt_len] at h
            have h0 : l = [] := List.eq_nil_of_length_eq_zero (beq_iff_eq.mp h)
            subst h0
            simp [rep]
        have f := fin t s.toks
        rw [e] at f
        exact f
      · rw [if_neg h2]
        have e : (⟨List.foldl (fun x1 x2 => x1 ++ x2) #[] (List.replicate (n : Int).toNat (txt l).cps)⟩ : Str) = txt (rep n l) := by
          rw [Int.toNat_natCast]
          have q := fold_rep l n []
          rw [List.nil_append] at q
          exact congrArg Str.mk q
        rw [e]
        refine ⟨?_, fin _ _⟩
        rw [txt_len, rep_len, Nat.mul_comm]
        omega
theorem txt_eq (a b : Tx) : (txt a == txt b) = decide (a = b) := by
  by_cases h : a = b
  · subst h; simp
  · rw [decide_eq_false h]
    exact beq_eq_false_iff_ne.mpr fun e => h (txt_inj e)
structure At (K : PySem.W.Frag) (mg : Str → Option Value) (x : Str) (st : Stmt) (ps : List Str) (f : Addr) (fd : FuncData) : Prop where
  F : Fun K x x st f fd
  b : Binds K fd ps []
  m : mg x = some (.ref f)
theorem map_at {ts : List Tx} {i : Nat} {x : V} (h : (ts.map tv)[i]? = some x) : ∃ t, ts[i]? = some t ∧ x = tv t := by
  rw [List.getElem?_map] at h
  cases e : ts[i]? with
  | none => rw [e] at h; cases h
  | some t => rw [e] at h; exact ⟨t, rfl, (Option.some.inj h).symm⟩
theorem asc_app {a b : Tx} (ha : asc a) (hb : asc b) : asc (a ++ b) := fun c hc => (List.mem_append.mp hc).elim (ha c) (hb c)
theorem asc_of {l : Tx} (h : (l.all fun c => decide (c < 128)) = true) : asc l := fun c hc => of_decide_eq_true (List.all_eq_true.mp h c hc)
theorem asc_nil : asc [] := fun _ z => by cases z
theorem asc_rep {l : Tx} (h : asc l) (n : Nat) : asc (rep n l) := fun c hc => by
  obtain ⟨x, hx, hc⟩ := List.mem_flatten.mp hc
  rw [List.eq_of_mem_replicate hx] at hc
  exact h c hc
theorem cutS_any (l : Tx) (lo hi : Option Int) : ∃ l', cutS (txt l) lo hi = txt l' ∧ (asc l → asc l') ∧ l'.length ≤ l.length := by
  refine ⟨(l.drop (HT.sIx (txt l).length 0 lo)).take (HT.sIx (txt l).length (txt l).length hi - HT.sIx (txt l).length 0 lo), rfl, fun h c hc => h c (List.mem_of_mem_drop (List.mem_of_mem_take hc)), ?_⟩
  rw [List.length_take, List.length_drop]
  omega
/-! ### the draws -/
/-- at r: a stock of draws -/
def Rg (H : Hp) (r : Addr) : Prop := ∃ x y : Int, H r = some (.lst [.int x, .int y]) ∧ 0 ≤ x ∧ 0 ≤ y ∧ y ≤ 2147483629
/-- what was tracked stands, but r, which is a stock as before -/
def Kp (r : Addr) (H H' : Hp) : Prop := (∀ b o, b ≠ r → H b = some o → H' b = some o) ∧ (Rg H r → Rg H' r)
theorem Kp.refl (r : Addr) (H : Hp) : Kp r H H := ⟨fun _ _ _ h => h, fun h => h⟩
theorem Kp.trans {r : Addr} {H H1 H2 : Hp} (a : Kp r H H1) (b : Kp r H1 H2) : Kp r H H2 := ⟨fun c o h e => b.1 c o h (a.1 c o h e), fun h => b.2 (a.2 h)⟩
theorem Kp.of_same {r : Addr} {H H' : Hp} (s : Same H H') : Kp r H H' := ⟨fun b o _ e => s b o e, fun ⟨x, y, h, p⟩ => ⟨x, y, s _ _ h, p⟩⟩
theorem Kp.free {r : Addr} {H H' : Hp} (k : Kp r H H') (g : Rg H r) {b : Addr} (h : H' b = none) : H b = none := by
  by_cases e : b = r
  · subst e
    obtain ⟨x, y, q, _⟩ := k.2 g
    rw [q] at h
    cases h
  · cases q : H b with
    | none => rfl
    | some o =>
      rw [k.1 b o e q] at h
      cases h
section
variable {P : Program} {w : World} {K : PySem.W.Frag} {mg : Str → Option Value} {base : Heap}
def spRng (K : PySem.W.Frag) : Sp := fun vs H Q _ => ∃ (a : Addr) (ns : List Int) (k : Nat), vs = [.ref a, .int (k : Int)] ∧ SqL K H a (ns.map V.int) ∧ k ≤ 1000 ∧ ∀ H' p, Same H H' → H p = none → Rg H' p → Q (.ref p) H'
theorem scRn : FnScope ["_law_script", "_law_k", "_law_cell"] ["_law_script", "_law_k"] (defScope sRng) := ⟨rfl, rfl, rfl, by decide +kernel, rfl, by decide +kernel, by decide +kernel⟩
/-- the built-in names that the law leans on -/
structure BEnv (mg : Str → Option Value) : Prop where
  zLen : mg "len" = none
  zAbs : mg "abs" = none
  zMax : mg "max" = none
  zMin : mg "min" = none
  zInt : mg "int" = none
  zDm : mg "divmod" = none
  zRange : mg "range" = none
  zAll : mg "all" = none
theorem ok_rng {f : Addr} {fd : FuncData} (F : Fun K "_law_rng" "_law_rng" sRng f fd) (B : BEnv mg) : FnOk P w K mg base CX0 1 f fd ["_law_script", "_law_k"] (spRng K) := by
  refine F.ok scRn (fun vs H Q E h => ?_) (fun cdv A outer_ s H vs Q E hr h => ?_)
  · obtain ⟨a, ns, k, rfl, _⟩ := h
    rfl
  · obtain ⟨a, ns, k, rfl, hS, hk, kk⟩ := h
    refine ⟨_, pss_cons (ps_set (i := 2) scRn.nd rfl (Or.inl rfl) (pe_ifExp (pt_cmpR op_lt (pv 1) (pe_callB call_len_seq (by rfl) B.zLen PySem.boot_len (pa_cons (pv 0) pa_nil)) (nomark _)) (pe_callB call_abs (by rfl) B.zAbs (by decide +kernel) (pa_cons (pe_ix ix_list (pv 0) (pv 1) (fun _ _ => rfl)) pa_nil)) pe_int))
      (pss_one (ps_ret (pe_lst (pa_cons (pe_callB (call_max2 rfl) (by rfl) B.zMax (by decide +kernel) (pa_cons pe_int (pa_cons (pe_op op_sub (pv 2) (pe_op op_pow pe_int pe_int)) pa_nil)))
        (pa_cons (pe_op op_add (pe_op op_mod (pe_callTy call_int1 (by rfl) B.zInt (by decide +kernel) (pa_cons (pe_op op_pow (pe_op op_add (pe_op op_add (pe_op op_mod (pe_callTy call_int1 (by rfl) B.zInt (by decide +kernel) (pa_cons (pv 2) pa_nil)) pe_int) (pe_op op_mul pe_int (pv 1))) pe_int) pe_int) pa_nil)) pe_int) pe_int) pa_nil))))), ?_⟩
    have rest : ∀ c : Int, 0 ≤ c → 0 ≤ (if c - 10 ^ (18 : Int).toNat > 0 then c - 10 ^ (18 : Int).toNat else 0) ∧ (c % 2147483549 + 4127 * (k : Int) + 29).natAbs < 2 ^ 64 := fun c hc => by
      have h1 := Int.emod_nonneg c (show (2147483549 : Int) ≠ 0 by decide)
      have h2 := Int.emod_lt_of_pos c (show (0 : Int) < 2147483549 by decide)
      refine ⟨by split <;> omega, by omega⟩
    have last : ∀ z : Int, 0 ≤ z % 2147483477 + 1 ∧ z % 2147483477 + 1 ≤ 2147483629 := fun z => by
      have h1 := Int.emod_nonneg z (show (2147483477 : Int) ≠ 0 by decide)
      have h2 := Int.emod_lt_of_pos z (show (0 : Int) < 2147483477 by decide)
      omega
    have cell : ∀ c : Int, 0 ≤ c → (∀ (H' : Hp) (p : Addr), Same H H' → H p = none → Rg H' p → Q (.ref p) H') → True := fun _ _ _ => trivial
    refine ⟨_, rfl, _, rfl, a, _, rfl, .inl hS, _, _, rfl, rfl, _, rfl, ?_⟩
    refine ite2 (fun h1 => ?_) (fun h1 => ?_)
    · have hlt : k < ns.length := by
        have := of_decide_eq_true h1
        rw [List.length_map] at this
        omega
      have hv : (ns.map V.int)[k]? = some (V.int ns[k]) := by rw [List.getElem?_map, List.getElem?_eq_getElem hlt]; rfl
      refine ⟨_, rfl, _, rfl, a, _, _, _, rfl, rfl, hS, atI_nat hv, _, rfl, ?_⟩
      have hc : 0 ≤ (if ns[k] < 0 then -ns[k] else ns[k]) := by split <;> omega
      generalize (if ns[k] < 0 then -ns[k] else ns[k]) = c at hc
      obtain ⟨r1, r2⟩ := rest c hc
      refine ⟨_, rfl, _, _, rfl, rfl, ⟨by decide, by decide, by decide⟩, _, _, rfl, rfl, _, _, rfl, ?_⟩
      refine ⟨_, rfl, .inl ⟨_, rfl, _, _, rfl, rfl, (by show (0 : Int) < 2147483549; decide), _, rfl, _, _, rfl, rfl, .inl ⟨by decide, by decide⟩, _, _, rfl, rfl, _, _, rfl, rfl, _, _, rfl, rfl, ⟨by decide, by decide, r2⟩,
        .inl ⟨_, rfl, _, _, rfl, rfl, (by show (0 : Int) < 2147483477; decide), _, _, rfl, rfl, (by show 2 ≤ sizeLine; decide), fun p hp => kk _ p (same_upd hp) hp ⟨_, _, upd_same, r1, (last _).1, (last _).2⟩⟩⟩⟩
    · have hc : (0 : Int) ≤ 0 := Int.le_refl 0
      obtain ⟨r1, r2⟩ := rest 0 hc
      refine ⟨_, rfl, _, _, rfl, rfl, ⟨by decide, by decide, by decide⟩, _, _, rfl, rfl, _, _, rfl, ?_⟩
      refine ⟨_, rfl, .inl ⟨_, rfl, _, _, rfl, rfl, (by show (0 : Int) < 2147483549; decide), _, rfl, _, _, rfl, rfl, .inl ⟨by decide, by decide⟩, _, _, rfl, rfl, _, _, rfl, rfl, _, _, rfl, rfl, ⟨by decide, by decide, r2⟩,
        .inl ⟨_, rfl, _, _, rfl, rfl, (by show (0 : Int) < 2147483477; decide), _, _, rfl, rfl, (by show 2 ≤ sizeLine; decide), fun p hp => kk _ p (same_upd hp) hp ⟨_, _, upd_same, r1, (last _).1, (last _).2⟩⟩⟩⟩
/-! ### _law_draw -/
def spDraw : Sp := fun vs H Q _ => ∃ (r : Addr) (m : Nat), vs = [.ref r, .int (m : Int)] ∧ Rg H r ∧ 0 < m ∧ m ≤ big ∧ ∀ H' (n : Nat), Kp r H H' → n < m → Q (.int (n : Int)) H'
theorem scDr : FnScope ["_law_rng_here", "_law_many", "_law_digit"] ["_law_rng_here", "_law_many"] (defScope sDraw) := ⟨rfl, rfl, rfl, by decide +kernel, rfl, by decide +kernel, by decide +kernel⟩
theorem mod_nat (z : Int) {m : Nat} (h : 0 < m) : ∃ n : Nat, z % (m : Int) = (n : Int) ∧ n < m := by
  have h1 := Int.emod_nonneg z (show (m : Int) ≠ 0 by omega)
  have h2 := Int.emod_lt_of_pos z (show (0 : Int) < m by omega)
  exact ⟨(z % (m : Int)).toNat, by omega, by omega⟩
theorem ixN_0 (n : Nat) : ixN (n + 1) 0 = some 0 := by
  unfold ixN
  rw [if_pos (by decide)]
  simp
theorem ixN_1 (n : Nat) : ixN (n + 2) 1 = some 1 := by
  unfold ixN
  rw [if_pos (by decide)]
  simp
  omega
theorem ok_draw {f : Addr} {fd : FuncData} (F : Fun K "_law_draw" "_law_draw" sDraw f fd) (B : BEnv mg) : FnOk P w K mg base CX0 1 f fd ["_law_rng_here", "_law_many"] spDraw := by
  refine F.ok scDr (fun vs H Q E h => ?_) (fun cdv A outer_ s H vs Q E hr h => ?_)
  · obtain ⟨r, m, rfl, _⟩ := h
    rfl
  · obtain ⟨r, m, rfl, ⟨x, y, hL, hx, hy, hy2⟩, hm, hm2, k⟩ := h
    refine ⟨_, pss_cons (ps_if (pt_cmpR op_gt (pe_ix ix_list (pv 0) pe_int (fun _ _ => rfl)) pe_int (nomark _))
        (pss_cons (ps_asg (pe_callB call_divmod (by rfl) B.zDm (by decide +kernel) (pa_cons (pe_ix ix_list (pv 0) pe_int (fun _ _ => rfl)) (pa_cons (pv 1) pa_nil))) (pg_tup rfl (pgs_cons (pg_sub (pv 0) pe_int set_list) (pgs_cons (pg_name (i := 2) scDr.nd rfl (Or.inl rfl)) pgs_nil))))
        (pss_one (ps_ret (pv 2)))) pss_nil)
      (pss_cons (ps_asg (pe_op op_mod (pe_callTy call_int1 (by rfl) B.zInt (by decide +kernel) (pa_cons (pe_op op_add (pe_op op_mul (pe_ix ix_list (pv 0) pe_int (fun _ _ => rfl)) pe_int) pe_int) pa_nil)) pe_int) (pg_sub (pv 0) pe_int set_list))
      (pss_one (ps_ret (pe_op op_mod (pe_callTy call_int1 (by rfl) B.zInt (by decide +kernel) (pa_cons (pe_op op_fdiv (pe_op op_mod (pe_callTy call_int1 (by rfl) B.zInt (by decide +kernel) (pa_cons (pe_op op_mul (pe_ix ix_list (pv 0) pe_int (fun _ _ => rfl)) (pe_ix ix_list (pv 0) pe_int (fun _ _ => rfl))) pa_nil)) pe_int) pe_int) pa_nil)) (pv 1))))), ?_⟩
    have hb : big = 1000000 := rfl
    refine ⟨_, rfl, r, _, _, _, rfl, rfl, SqL.of hL, atI_nat (j := 0) rfl, _, _, rfl, rfl, _, rfl, ?_⟩
    refine ite2 (fun h1 => ?_) (fun h1 => ?_)
    · obtain ⟨n, en, hn⟩ := mod_nat x hm
      refine ⟨_, rfl, r, _, _, _, rfl, rfl, SqL.of hL, atI_nat (j := 0) rfl, _, rfl, _, _, rfl, ⟨by omega, by omega⟩, fun t ht => ?_⟩
      have nt : r ≠ t := ne_of_none hL ht
      refine ⟨t, _, rfl, SqT.of upd_same, rfl, _, _, rfl, _, rfl, r, [.int x, .int y], _, 0, rfl, rfl, by rw [upd_ne nt]; exact hL, ixN_0 1, ?_⟩
      refine ⟨_, _, rfl, rfl, ?_⟩
      refine ⟨_, rfl, ?_⟩
      rw [en]
      refine k _ n ⟨fun b o hb e => ?_, fun _ => ⟨x / (m : Int), y, upd_same, Int.ediv_nonneg hx (by omega), hy, hy2⟩⟩ hn
      rw [upd_ne hb, upd_ne (ne_of_none e ht)]
      exact e
    · refine ⟨_, rfl, r, _, _, _, rfl, rfl, SqL.of hL, atI_nat (j := 1) rfl, _, _, rfl, rfl, .inr ⟨by decide, by decide⟩, _, _, rfl, rfl, .inl ⟨_, rfl, _, _, rfl, rfl, (by show (0 : Int) < 2147483629; decide), _, rfl, r, [.int x, .int y], _, 1, rfl, rfl, hL, ixN_1 0, ?_⟩⟩
      have e1 := Int.emod_nonneg (y * 39373 + 9973) (show (2147483629 : Int) ≠ 0 by decide)
      have e2 := Int.emod_lt_of_pos (y * 39373 + 9973) (show (0 : Int) < 2147483629 by decide)
      obtain ⟨z, ez⟩ : ∃ z, z = (y * 39373 + 9973) % 2147483629 := ⟨_, rfl⟩
      rw [← ez] at e1 e2
      rw [show ([V.int x, V.int y].set 1 ((fun i j : Int => V.int (i % j)) (y * 39373 + 9973) 2147483629)) = [.int x, .int z] by rw [ez]; rfl]
      have hL2 : (upd H r (.lst [.int x, .int z])) r = some (.lst [.int x, .int z]) := upd_same
      have cm : CMul z z := .inl ⟨by omega, by omega⟩
      obtain ⟨n, en, hn⟩ := mod_nat (z * z % 2147483563 / 13) hm
      refine ⟨_, rfl, r, _, _, _, rfl, rfl, SqL.of hL2, atI_nat (j := 1) rfl, _, rfl, r, _, _, _, rfl, rfl, SqL.of hL2, atI_nat (j := 1) rfl, _, _, rfl, rfl, cm, .inl ⟨_, rfl, _, _, rfl, rfl, (by show (0 : Int) < 2147483563; decide), _, _, rfl, rfl, ⟨by decide, by decide⟩,
        .inl ⟨_, rfl, _, rfl, _, _, rfl, rfl, (by show (0 : Int) < (m : Int); omega), ?_⟩⟩⟩
      show Q (.int (z * z % 2147483563 / 13 % (m : Int))) _
      rw [en]
      refine k _ n ⟨fun b o hb e => ?_, fun _ => ⟨x, z, upd_same, hx, e1, by omega⟩⟩ hn
      rw [upd_ne hb]
      exact e
/-! ### _law_choice -/
def spChoice (K : PySem.W.Frag) : Sp := fun vs H Q _ => ∃ (r : Addr) (o : V), vs = [.ref r, o] ∧ Rg H r ∧
  ((∃ (a : Addr) (xs : List V), o = .ref a ∧ H a = some (.lst xs) ∧ a ≠ r ∧ xs ≠ [] ∧ xs.length ≤ big ∧ ∀ H' x, Kp r H H' → x ∈ xs → Q x H') ∨
   ∃ l : Tx, o = tv l ∧ l ≠ [] ∧ l.length ≤ big ∧ ∀ H' c, Kp r H H' → c ∈ l → Q (tv [c]) H')
theorem scCh : FnScope ["_law_rng_here", "_law_options"] ["_law_rng_here", "_law_options"] (defScope sChoice) := ⟨rfl, rfl, rfl, by decide +kernel, rfl, by decide +kernel, by decide +kernel⟩
theorem ok_choice {f fD : Addr} {fd dD : FuncData} (F : Fun K "_law_choice" "_law_choice" sChoice f fd) (B : BEnv mg) (AD : At K mg "_law_draw" sDraw ["_law_rng_here", "_law_many"] fD dD) : FnOk P w K mg base CX0 2 f fd ["_law_rng_here", "_law_options"] (spChoice K) := by
  have GD : FnOk P w K mg base CX0 1 fD dD ["_law_rng_here", "_law_many"] spDraw := ok_draw AD.F B
  refine F.ok scCh (fun vs H Q E h => ?_) (fun cdv A outer_ s H vs Q E hr h => ?_)
  · obtain ⟨r, o, rfl, _⟩ := h
    rfl
  · obtain ⟨r, o, rfl, g, h⟩ := h
    refine ⟨_, pss_one (ps_ret (pe_ix ix_seq (pv 1) (pe_call GD hr (by rfl) AD.m AD.F.kp AD.b .nil pass0 (pa_cons (pv 0) (pa_cons (pe_callB call_len (by rfl) B.zLen PySem.boot_len (pa_cons (pv 1) pa_nil)) pa_nil))) (fun _ _ => rfl))), ?_⟩
    rcases h with ⟨a, xs, rfl, hL, hne, hx, hlen, k⟩ | ⟨l, rfl, hl0, hlen, k⟩
    · have hpos : 0 < xs.length := List.length_pos_iff.mpr hx
      refine ⟨_, rfl, _, rfl, _, rfl, _, xs.length, rfl, .inl ⟨_, SqL.of hL, rfl⟩, r, xs.length, rfl, g, hpos, hlen, fun H' n kp hn => ?_⟩
      have hv : xs[n]? = some xs[n] := List.getElem?_eq_getElem hn
      exact .inl ⟨a, _, _, _, rfl, rfl, SqL.of (kp.1 a _ hne hL), atI_nat hv, k H' _ kp (List.getElem_mem hn)⟩
    · have hpos : 0 < l.length := List.length_pos_iff.mpr hl0
      have hline : (txt l).length ≤ sizeLine := by rw [txt_len]; exact Nat.le_trans hlen big_line
      refine ⟨_, rfl, _, rfl, _, rfl, _, l.length, rfl, ⟨hline, (txt_len l).symm⟩, r, l.length, rfl, g, hpos, hlen, fun H' n kp hn => ?_⟩
      have hv : l[n]? = some l[n] := List.getElem?_eq_getElem hn
      exact .inr (.inr ⟨_, _, _, rfl, rfl, hline, atI_nat hv, k H' _ kp (List.getElem_mem hn)⟩)
end
theorem strOk_asc {l : Tx} (h : asc l) : PyData.strOk (txt l) = true := by
  unfold PyData.strOk txt
  rw [List.all_toArray]
  exact List.all_eq_true.mpr fun c hc => decide_eq_true (Nat.lt_trans (h c hc) (by decide))
section
variable {K : PySem.W.Frag} {H : Hp}
theorem dpS : ∀ ts : List Tx, DpAll K H (ts.map tv) (ts.map fun t => PyData.str (txt t))
  | [] => .nil
  | t :: r => .cons (.str _) (dpS r)
end
theorem canS : ∀ ts : List Tx, (∀ t ∈ ts, asc t) → PyData.canLayAll0 (ts.map fun t => PyData.str (txt t)) = true ∧ PyData.depthAll (ts.map fun t => PyData.str (txt t)) = 0
  | [], _ => ⟨rfl, rfl⟩
  | t :: r, h => by
    obtain ⟨h1, h2⟩ := canS r fun u hu => h u (List.mem_cons_of_mem _ hu)
    refine ⟨?_, ?_⟩
    · show (PyData.canLay0 (.str (txt t)) && PyData.canLayAll0 (r.map fun t => PyData.str (txt t))) = true
      rw [h1]
      simp [PyData.canLay0, strOk_asc (h t List.mem_cons_self)]
    · show max (PyData.depth (.str (txt t))) (PyData.depthAll (r.map fun t => PyData.str (txt t))) = 0
      rw [h2]
      simp [PyData.depth]
theorem shS (ts : List Tx) (h : ∀ t ∈ ts, asc t) : SeqAt.shaped (.list (ts.map fun t => PyData.str (txt t))) = true := by
  obtain ⟨h1, h2⟩ := canS ts h
  unfold SeqAt.shaped
  have e1 : PyData.canLay0 (.list (ts.map fun t => PyData.str (txt t))) = true := by rw [PyData.canLay0]; exact h1
  have e2 : PyData.depth (.list (ts.map fun t => PyData.str (txt t))) = 1 := by rw [PyData.depth, h2]
  rw [e1, e2]
  rfl
theorem eqvS : ∀ ts us : List Tx, PyData.eqvAll (ts.map fun t => PyData.str (txt t)) (us.map fun t => PyData.str (txt t)) = decide (ts = us)
  | [], [] => by simp [PyData.eqvAll]
  | [], m :: ms => by simp [PyData.eqvAll]
  | n :: ns, [] => by simp [PyData.eqvAll]
  | n :: ns, m :: ms => by
    have ih := eqvS ns ms
    show PyData.eqvAll (PyData.str (txt n) :: ns.map fun t => PyData.str (txt t)) (PyData.str (txt m) :: ms.map fun t => PyData.str (txt t)) = _
    rw [PyData.eqvAll, ih, PyData.eqv, txt_eq]
    by_cases h : n = m
    · subst h; simp
    · simp [h]
theorem eqvLS (ts us : List Tx) : PyData.eqv (.list (ts.map fun t => PyData.str (txt t))) (.list (us.map fun t => PyData.str (txt t))) = decide (ts = us) := by rw [PyData.eqv]; exact eqvS ts us
end K12
namespace K12
open PySem L2
/-! ### functions that are run where nothing is being shown -/
structure FnG (P : Program) (w : World) (K : PySem.W.Frag) (mg : Str → Option Value) (base : Heap) (k : Nat) (f : Addr) (fd : FuncData) (ps : List Str) (sp : Sp) : Prop where
  len : ∀ vs H Q E, sp vs H Q E → vs.length = ps.length
  run : ∀ (A : Around) (o_ : List Env) (s : Shared) (H : Hp) (gs : Args) (us : List Value) (vs : List V) (Q : VK) (E : XK), A.guards = some [] → Room k A → Env0 P w K mg base A o_ s H → BindsTo s fd gs (ps.zip us) → Vals vs us → sp vs H Q E →
    codeAny (model P w) A (.call (.ref f) gs) (CR CX0 o_ P w H s Q E) s
section
variable {X : Cx} {k : Nat} {f : Addr} {fd : FuncData} {ps : List Str} {sp : Sp} {x : Str} {p pos : Pos} {e : Expr} {es : List Expr} {t : TA}
theorem pe_callG (F : FnG X.prog X.w X.K X.mg X.base k f fd ps sp) (gd : X.A.guards = some []) (hr : Room k X.A) (hg : Gl X x) (hm : X.mg x = some (.ref f)) (hk : PySem.W.keepIn X.K (.ref f) = true) (hb : Binds X.K fd ps []) (ha : PA X (e :: es) t)
    (hdb : (x == ("__debug__" : Str)) = false := by decide) (he : starEach (e :: es) X.env = (false, eval e X.env) :: starEach es X.env := by rfl) (hpl : (backTo pos (starEach es X.env)).any (·.1) = false := by rfl) :
    PE X (.Call (.Name x p) (e :: es) [] pos) (tCall sp [] E0 t) := ⟨by
  intro pins s σ H Q I h
  apply wpAny_Call_Name_kw (ld_glob I hg hm ?_ hdb)
  apply PySem.W.callWith_K (h₀ := X.base) I.ok.mod.kin hk (thn (ha.run pos pins s σ H _ I h) ?_) he hpl
  rintro us s1 ⟨vs, H1, I1, r, q⟩
  refine ⟨I1.kIn, ?_⟩
  have q' : sp vs H1 Q E0 := by
    have z : sp (vs ++ []) H1 Q E0 := q
    rw [List.append_nil] at z
    exact z
  have hl : (us ++ []).length = ps.length := by
    rw [List.append_nil, ← r.length]
    exact F.len _ _ _ _ q'
  have b1 := hb s1 us I1.kIn hl
  rw [List.append_nil] at b1
  apply wpAny_call (codeAny_mono (F.run X.A X.stack s1 H1 ⟨us, []⟩ us vs Q E0 gd hr I1.env0 b1 r q') ?_)
  rintro (e | fl) s2 hq
  · exact hq.elim
  · cases fl <;> first | exact I1.after hq | exact False.elim hq⟩
end
section
variable {P : Program} {w : World} {K : PySem.W.Frag} {mg : Str → Option Value} {base : Heap}
theorem okG {x qual : Str} {st : Stmt} {f : Addr} {fd : FuncData} {N ps : List Str} {k : Nat} {sp : Sp} (F : Fun K x qual st f fd) (S : FnScope N ps (defScope st)) (len : ∀ vs H Q E, sp vs H Q E → vs.length = ps.length)
    (body : ∀ (cdv : Value) (A : Around) (o_ : List Env) (s : Shared) (H : Hp) (vs : List V) (Q : VK) (E : XK), A.guards = some [] → Room k (A.deeper (PyProof.Rows.envOfC qual (defScope st) s.heap.objs.size f cdv)) → sp vs H Q E →
      ∃ t, PSs (cxOf CX0 P w K mg base N qual (defScope st) f cdv A o_ s H E).nox (defBody st) t ∧ t { nx := fun _ H' => Q .non H', rt := Q } (start N vs) H) : FnG P w K mg base (k + 1) f fd ps sp := by
  obtain ⟨oc, od, kV, doc, pm, an, cdv, ct, osl, rfl, lk, cok⟩ := F.ex
  refine ⟨len, fun A o_ s H gs us vs Q E gd hr e0 hb r hsp => ?_⟩
  have up : ∀ b o, base.get? b = some o → s.heap.get? b = some o := fun b o q => (e0.bs b o q).1
  have KX : K.In s.heap := e0.mod.kin.keeps up
  have lm : s.heap.NoLimit := e0.mod.nolimit.keeps up
  have kinds : ∀ y ∈ ps.zip us, (defScope st).names.lookup y.1 = some .local ∨ ((defScope st).names.lookup y.1 = some .cell ∧ ((cellsFrom (s.heap.objs.size + 1) (defScope st).names []).lookup y.1).isSome = true) := by
    rintro ⟨n, v⟩ hy
    cases S.par n (List.of_mem_zip hy).1 with
    | inl q => exact .inl q
    | inr q => exact .inr ⟨q, PySem.W.cellsFrom_some _ _ _ (.inl q)⟩
  apply codeAny_call_function hr.depth (KX _ _ lk) rfl S.co S.gen rfl (PySem.W.codeRec_of KX cok) (hb _ _ _ _ ?_)
  apply wpAny_newFunctionEnv_cells S.kind kinds
  rintro env rfl s1 x
  refine ⟨lm.keeps x.toInCall.keep, codeAny_func ?_⟩
  obtain ⟨t, ht, hq⟩ := body cdv A o_ s H vs Q E gd (hr.deeper _) hsp
  have I : Inv (cxOf CX0 P w K mg base N qual (defScope st) f cdv A o_ s H E) [] (start N vs) H s1 := inv_start S hr.hd e0 (len _ _ _ _ hsp) r x
  apply wpAny_mono (ht.nox.run [] s1 (start N vs) H _ I hq)
  · rintro fl s2 hs
    cases fl with
    | ret u =>
      obtain ⟨v, σ2, H2, J, rv, q⟩ := hs
      exact ⟨v, H2, J.os, J.bare, J.base, J.hok, rv, q⟩
    | next =>
      obtain ⟨σ2, H2, J, q⟩ := hs
      exact ⟨V.non, H2, J.os, J.bare, J.base, J.hok, rfl, q⟩
    | brk =>
      obtain ⟨_, _, _, q⟩ := hs
      exact q.elim
    | cont =>
      obtain ⟨_, _, _, q⟩ := hs
      exact q.elim
  · exact fun e s2 z => z
end
/-! ### what a thing is, and how it is shown -/
/-- a thing of the law: its data -/
inductive Th (K : PySem.W.Frag) (H : Hp) : V → PyData → Prop
  | non : Th K H .non .none
  | bl (b : Bool) : Th K H (.bl b) (.bool b)
  | int (i : Int) : Th K H (.int i) (.int i)
  | str (x : Str) : Th K H (.str x) (.str x)
  | lst {a : Addr} {xs : List V} {ds : List PyData} : H a = some (.lst xs) → (∀ H1, DpAll K H1 xs ds) → PyData.hasDictAll ds = false → Th K H (.ref a) (.list ds)
  | tup {a : Addr} {xs : List V} {ds : List PyData} : H a = some (.tup xs) → (∀ H1, DpAll K H1 xs ds) → PyData.hasDictAll ds = false → Th K H (.ref a) (.tuple ds)
  | d0 {a : Addr} : H a = some (.dK []) → Th K H (.ref a) (.dict [])
  | d1 {a : Addr} {x : Str} {i : Int} : H a = some (.dK [(.inr x, .int i)]) → Th K H (.ref a) (.dict [(.str x, .int i)])
theorem Th.keep {K : PySem.W.Frag} {H H' : Hp} {v : V} {d : PyData} (h : Th K H v d) (k : ∀ a o, v = .ref a → H a = some o → H' a = some o) : Th K H' v d := by
  cases h with
  | non => exact .non
  | bl b => exact .bl b
  | int i => exact .int i
  | str x => exact .str x
  | lst e a n => exact .lst (k _ _ rfl e) a n
  | tup e a n => exact .tup (k _ _ rfl e) a n
  | d0 e => exact .d0 (k _ _ rfl e)
  | d1 e => exact .d1 (k _ _ rfl e)
/-- shown in little room -/
def Sho (d : PyData) : Prop := d.showable = true ∧ d.shown.length ≤ 2000 ∧ d.depth ≤ 5
theorem Sho.fits {d : PyData} (h : Sho d) : d.shown.length ≤ sizeLine := Nat.le_trans h.2.1 (by decide)
section
variable {X : Cx} {pins : List (Addr × Obj)} {σ : St} {H : Hp} {s : Shared}
theorem Th.reads (I : Inv X pins σ H s) {v : V} {d : PyData} {u : Value} (h : Th X.K H v d) (r : RelV v u) : ∃ as, Reads s.heap u d as ∧ (d.hasDict = true → sysModules ∉ as) := by
  cases h with
  | non => exact (Dp.reads I _ _ _ .non r).elim fun as q => ⟨as, q, fun z => by cases z⟩
  | bl b => exact (Dp.reads I _ _ _ (.bl b) r).elim fun as q => ⟨as, q, fun z => by cases z⟩
  | int i => exact (Dp.reads I _ _ _ (.int i) r).elim fun as q => ⟨as, q, fun z => by cases z⟩
  | str x => exact (Dp.reads I _ _ _ (.str x) r).elim fun as q => ⟨as, q, fun z => by cases z⟩
  | lst e a n => exact (Dp.reads I _ _ _ (.lst (SqL.of e) (a _)) r).elim fun as q => ⟨as, q, fun z => by rw [PyData.hasDict, n] at z; cases z⟩
  | tup e a n => exact (Dp.reads I _ _ _ (.tup (SqT.of e) (a _)) r).elim fun as q => ⟨as, q, fun z => by rw [PyData.hasDict, n] at z; cases z⟩
  | d0 e =>
    cases r
    obtain ⟨_, low, vs, kv, o, es, ep, ho, ex, hd, _, hp, _⟩ := I.hok _ _ e
    cases kv
    have hz : es.toList = [] := by
      generalize es.toList = l at hp
      cases hp
      rfl
    refine ⟨_, Reads.dict (as := []) (bs := []) ho ex.1 hd (by rw [hz]; exact .nil) (by rw [hz]; exact .nil), fun _ m => ?_⟩
    have := List.mem_singleton.mp m
    rw [this] at low
    simp at low
  | @d1 a0 x0 i0 e =>
    cases r
    obtain ⟨_, low, vs, kv, o, es, ep, ho, ex, hd, _, hp, _⟩ := I.hok _ _ e
    cases kv with
    | cons q1 q2 =>
      cases q2
      obtain ⟨k1, t, k2⟩ := q1
      obtain ⟨e1, z1, z2, hz⟩ : ∃ e1 : DictEntry, keyIs (.inr x0) e1.key = true ∧ e1.val = .int i0 t ∧ es.toList = [e1] := by
        generalize es.toList = l at hp
        cases hp with
        | cons a b c =>
          cases c
          refine ⟨_, ?_, b.trans k2, rfl⟩
          rw [← k1] at a
          exact a
      obtain ⟨x2, t2, y1, y2⟩ : ∃ x2 t2, (Sum.inr x0 : Key) = Sum.inr x2 ∧ e1.key = Value.str x2 t2 := by
        rcases keyIs_shape z1 with ⟨i, t, a, b⟩ | ⟨x, t, a, b⟩
        · cases a
        · exact ⟨x, t, a, b⟩
      cases y1
      refine ⟨_, Reads.dict (as := []) (bs := []) ho ex.1 hd (by rw [hz]; show ReadsAll _ [e1.key] _ _; rw [y2]; exact .cons (.str _ _) .nil) (by rw [hz]; show ReadsAll _ [e1.val] _ _; rw [z2]; exact .cons (.int _ _) .nil), fun _ m => ?_⟩
      have := List.mem_singleton.mp m
      rw [this] at low
      simp at low
/-- repr(x), where nothing is being shown -/
theorem call_reprD (gd : X.A.guards = some []) (un : X.A.units + 200 < cLine) : CallR X (.builtin "repr") (fun xs H Q => ∃ v d, xs = [v] ∧ Th X.K H v d ∧ Sho d ∧ Q (.str d.shown) H) := by
  rintro pins s σ H xs us Q I r ⟨v, d, rfl, th, sh, q⟩
  have s1 := sh.1
  have s2 := sh.fits
  have s3 := sh.2.2
  obtain ⟨u, rfl, ru⟩ := vals1 r
  obtain ⟨as, rd, hm⟩ := Th.reads I th ru
  cases rd with
  | none => exact PySem.P.repr_of_none ⟨.str _, H, I.tok _, ⟨_, rfl⟩, by simpa only [PyData.shown] using q⟩
  | bool b =>
    refine PySem.P.repr_of_bool ⟨.str _, H, I.tok _, ⟨_, rfl⟩, ?_⟩
    simp only [PyData.shown] at q
    cases b <;> exact q
  | int i t =>
    simp only [PyData.shown] at q
    exact PySem.P.repr_of_int (by simpa [PyData.showable] using s1) ⟨.str _, H, I.tok _, ⟨_, rfl⟩, q⟩
  | str x t =>
    simp only [PyData.shown] at q s2
    exact PySem.P.repr_of_str ⟨.str _, H, I.tok _, ⟨_, rfl⟩, q⟩ s2
  | list a b c e => exact repr_of_reads' (Reads.list a b c e) s1 hm gd (by omega) (fun _ _ z => z) (fun h' u tk k => ⟨.str _, H, I.kept k, ⟨_, rfl⟩, q⟩) s2
  | tuple a b c e => exact repr_of_reads' (Reads.tuple a b c e) s1 hm gd (by omega) (fun _ _ z => z) (fun h' u tk k => ⟨.str _, H, I.kept k, ⟨_, rfl⟩, q⟩) s2
  | dict a b c e g => exact repr_of_reads' (Reads.dict a b c e g) s1 hm gd (by omega) (fun _ _ z => z) (fun h' u tk k => ⟨.str _, H, I.kept k, ⟨_, rfl⟩, q⟩) s2
end
end K12
namespace K12
open PySem L2
/-! ### what a thing is to isinstance -/
def vB : V → Bool
  | .bl _ => true
  | _ => false
def vI : V → Bool
  | .bl _ => true
  | .int _ => true
  | _ => false
def vS : V → Bool
  | .str _ => true
  | _ => false
inductive Cl (K : PySem.W.Frag) (H : Hp) : V → Prop
  | non : Cl K H .non
  | bl (b : Bool) : Cl K H (.bl b)
  | int (i : Int) : Cl K H (.int i)
  | str (l : Tx) : l.length ≤ 4000 → Cl K H (tv l)
  | oth {a : Addr} {t : Value} : TyX K H (.ref a) t → PySem.W.kitOne K t (.type "bool") = some false → PySem.W.kitOne K t (.type "int") = some false → PySem.W.kitOne K t (.type "str") = some false → Cl K H (.ref a)
theorem Cl.kit {K : PySem.W.Frag} {H : Hp} {v : V} (h : Cl K H v) : ∃ t, TyX K H v t ∧ PySem.W.kitOne K t (.type "bool") = some (vB v) ∧ PySem.W.kitOne K t (.type "int") = some (vI v) ∧ PySem.W.kitOne K t (.type "str") = some (vS v) := by
  cases h with
  | non => exact ⟨_, .base .non, kit_ty (a := "NoneType") (b := "bool") (r := false) (by decide +kernel), kit_ty (a := "NoneType") (b := "int") (r := false) (by decide +kernel), kit_ty (a := "NoneType") (b := "str") (r := false) (by decide +kernel)⟩
  | bl b => exact ⟨_, .base (.bl b), kit_ty (a := "bool") (b := "bool") (r := true) (by decide +kernel), kit_ty (a := "bool") (b := "int") (r := true) (by decide +kernel), kit_ty (a := "bool") (b := "str") (r := false) (by decide +kernel)⟩
  | int i => exact ⟨_, .base (.int i), kit_ty (a := "int") (b := "bool") (r := false) (by decide +kernel), kit_ty (a := "int") (b := "int") (r := true) (by decide +kernel), kit_ty (a := "int") (b := "str") (r := false) (by decide +kernel)⟩
  | str l _ => exact ⟨_, .base (.str _), kit_ty (a := "str") (b := "bool") (r := false) (by decide +kernel), kit_ty (a := "str") (b := "int") (r := false) (by decide +kernel), kit_ty (a := "str") (b := "str") (r := true) (by decide +kernel)⟩
  | oth t b i s => exact ⟨_, t, b, i, s⟩
theorem Cl.text {K : PySem.W.Frag} {H : Hp} {v : V} (h : Cl K H v) (s : vS v = true) : ∃ l : Tx, v = tv l ∧ l.length ≤ 4000 := by
  cases h with
  | str l e => exact ⟨l, rfl, e⟩
  | _ => cases s
/-! ### names -/
def low (c : Nat) : Bool := decide (97 ≤ c) && decide (c ≤ 122)
def nmC (l : Tx) : Bool := decide (l.length ≤ 8) && (!decide (l = []) && l.all low)
def nameV : V → Bool
  | .str x => nmC x.cps.toList
  | _ => false
def abc : Tx := (Str.ofString "abcdefghijklmnopqrstuvwxyz").cps.toList
theorem abc_is : abc = (List.range 26).map (97 + ·) := by decide +kernel
theorem mem_abc (c : Nat) : decide (c ∈ (Str.ofString "abcdefghijklmnopqrstuvwxyz").cps.toList) = low c := by
  show decide (c ∈ abc) = _
  rw [abc_is]
  unfold low
  by_cases h : 97 ≤ c ∧ c ≤ 122
  · rw [decide_eq_true h.1, decide_eq_true h.2]
    refine decide_eq_true (List.mem_map.mpr ⟨c - 97, List.mem_range.mpr (by omega), by omega⟩)
  · have e : (decide (97 ≤ c) && decide (c ≤ 122)) = false := by
      by_cases a : 97 ≤ c
      · rw [decide_eq_false (show ¬ c ≤ 122 by omega)]; simp
      · rw [decide_eq_false a]; rfl
    rw [e]
    refine decide_eq_false fun z => h ?_
    obtain ⟨k, hk, rfl⟩ := List.mem_map.mp z
    have := List.mem_range.mp hk
    omega
theorem abc_all : abc.all low = true ∧ abc.length = 26 := by decide +kernel
theorem lit_nil : Str.ofString "" = txt [] := by decide +kernel
theorem lit_q : Str.ofString "'" = txt [39] := by decide +kernel
theorem tv_eq (a b : Tx) : decide ((tv a : V) = tv b) = decide (a = b) := by
  by_cases h : a = b
  · subst h; simp
  · rw [decide_eq_false h]
    exact decide_eq_false fun e => h (txt_inj (V.str.inj e))
theorem take_snoc {α : Type} {l : List α} {i : Nat} {x : α} (h : l[i]? = some x) : l.take (i + 1) = l.take i ++ [x] := by
  rw [List.take_succ, h, Option.toList_some]
/-- the built-in names -/
structure Zn (mg : Str → Option Value) : Prop where
  zIs : mg "isinstance" = none
  zBool : mg "bool" = none
  zInt : mg "int" = none
  zStr : mg "str" = none
  zAbs : mg "abs" = none
  zLen : mg "len" = none
  zAll : mg "all" = none
  zRepr : mg "repr" = none
section
variable {P : Program} {w : World} {K : PySem.W.Frag} {mg : Str → Option Value} {base : Heap}
/-- all([.. for a sign in a text]) of low signs -/
theorem all_low (l : Tx) : ((l.map low).take l.length).all id = l.all low := by
  rw [List.take_of_length_le (by rw [List.length_map]; exact Nat.le_refl _), List.all_map]
  rfl
/-! ### is_name -/
def spName (K : PySem.W.Frag) : Sp := fun vs H Q _ => ∃ v : V, vs = [v] ∧ Cl K H v ∧ ∀ H', Same H H' → Q (.bl (nameV v)) H'
theorem scNm : FnScope ["value", "letter"] ["value"] (defScope sIsName) := ⟨rfl, rfl, rfl, by decide +kernel, rfl, by decide +kernel, by decide +kernel⟩
theorem ok_name {f : Addr} {fd : FuncData} {tk t2 : Tok} (F : Fun K "is_name" "is_name" sIsName f fd) (Z : Zn mg) (mM : mg "MOST_LETTERS" = some (.int 8 tk)) (mL : mg "LETTERS" = some (.str "abcdefghijklmnopqrstuvwxyz" t2)) : FnOk P w K mg base CX0 1 f fd ["value"] (spName K) := by
  refine F.ok scNm (fun vs H Q E h => ?_) (fun cdv A outer_ s H vs Q E hr h => ?_)
  · obtain ⟨v, rfl, _⟩ := h
    rfl
  · obtain ⟨v, rfl, cl, k⟩ := h
    refine ⟨_, pss_cons (ps_if (PW.pt (pw_or (pt_not (pt_val (pe_callB call_isi (by rfl) Z.zIs (by decide +kernel) (pa_cons (pv 0) (pa_cons (pe_bltn (v := .ty "str") (u := .type "str") (by rfl) Z.zStr (by decide +kernel) rfl) pa_nil)))))
          (pw_or1 (pt_cmpR op_gt (pe_callB call_len_str (by rfl) Z.zLen PySem.boot_len (pa_cons (pv 0) pa_nil)) (pe_glob (v := .int 8) rfl mM ⟨_, rfl⟩) (nomark _))))) (pss_one (ps_ret pe_bl)) pss_nil)
      (pss_one (ps_ret (pe_and (pe_cmpR op_ne (pv 0) pe_str (nomark _)) (pe_one (pe_callB (cr_all rfl) (by rfl) Z.zAll (by decide +kernel) (pa_cons (pe_lc (own := [("letter", 1)]) (g := gName 1) (tt := tYes) rfl scNm.nd (pi_str (pv 0))
        (blkOk_by (N := ["value", "letter"]) (sc := defScope sIsName) (by decide +kernel)) (fun _ _ _ _ _ => pg_name (i := 1) scNm.nd rfl (Or.inl rfl)) (fun _ _ _ _ _ => pts_nil)
        (fun _ _ _ _ _ => pe_cmpR op_in_sign (pv 1) (pe_glob (v := .str "abcdefghijklmnopqrstuvwxyz") rfl mL ⟨_, rfl⟩) (by rfl))) pa_nil)))))), ?_⟩
    obtain ⟨t, ty, kb, ki, ks⟩ := cl.kit
    refine ⟨_, rfl, v, .ty "str", t, .type "str", vS v, rfl, .ty _, ty, ks, _, rfl, ?_⟩
    by_cases hs : vS v = true
    · obtain ⟨l, rfl, hl⟩ := cl.text hs
      have hline : (txt l).length ≤ sizeLine := by rw [txt_len, sizeLine_eq]; omega
      rw [hs]
      refine ⟨_, rfl, _, rfl, hline, _, _, rfl, rfl, _, rfl, ?_⟩
      rw [txt_len]
      have nm : nameV (tv l) = nmC l := rfl
      refine ite2 (fun h1 => ?_) (fun h1 => ?_)
      · have e : nmC l = false := by
          unfold nmC
          rw [decide_eq_false (show ¬ l.length ≤ 8 by have := of_decide_eq_true h1; omega)]
          rfl
        have z := k H (Same.refl H)
        rw [nm, e] at z
        exact z
      have l8 : l.length ≤ 8 := by
        have : ¬ ((l.length : Int) > 8) := fun z => h1 (decide_eq_true z)
        omega
      rw [lit_nil]
      refine ⟨_, rfl, rfl, _, rfl, ?_⟩
      rw [tv_eq]
      by_cases h2 : l = []
      · subst h2
        exact k H (Same.refl H)
      rw [decide_eq_false h2]
      refine ⟨_, rfl, _, rfl, fun D hD => ?_⟩
      refine lc_it (walk_str (z := txt l)) (fun i H' => Same H H' ∧ H' D = some (.lst (((l.map low).take i).map V.bl))) ⟨same_upd hD, upd_same⟩ (fun _ _ _ _ => trivial) ?_ ?_
      · rintro i x H1 H2 hi ⟨sm, hL⟩ ⟨rfl, c, hc, rfl⟩
        have hc' : l[i]? = some c := by
          have z : l.toArray[i]? = some c := hc
          simpa using z
        refine ⟨rfl, _, rfl, c, _, rfl, rfl, _, hL, ?_, fun b o q => ?_, ?_⟩
        · rw [List.length_map, List.length_take, List.length_map, sizeLine_eq]
          omega
        · rw [upd_ne (ne_of_none q hD)]
          exact sm b o q
        · rw [upd_same, take_snoc (x := low c) (by rw [List.getElem?_map, hc']; rfl), List.map_append, mem_abc]
          rfl
      · rintro H1 ⟨sm, hL⟩
        refine ⟨D, _, rfl, SqL.of hL, ?_⟩
        have e : ((l.map low).take (txt l).cps.size).all id = nmC l := by
          rw [show (txt l).cps.size = l.length from txt_len l, all_low]
          unfold nmC
          rw [decide_eq_true l8, decide_eq_false h2]
          rfl
        rw [e]
        exact k H1 sm
    · have hs' : vS v = false := by simpa using hs
      rw [hs']
      have e : nameV v = false := by cases v <;> first | rfl | cases hs'
      have z := k H (Same.refl H)
      rw [e] at z
      exact z
end
end K12
/-! own exceptions below ArithmeticError, with a walked __init__ -/
namespace AEx
open PySem PySem.Spec PyProof.Rows L2
def aeMro : List Value := ["ArithmeticError", "Exception", "BaseException", "object"].map Value.type
structure AeC (K : PySem.W.Frag) (C : Addr) : Prop where
  made : PySem.W.excInitIn K C aeMro "ArithmeticError.__new__" = true
  over : PySem.W.excOver K C aeMro = true
  dct : PySem.W.hasDictIn K C = true
  setA : PySem.W.findIn K (.ref C) "__setattr__" = some (some (.builtin "object.__setattr__"))
  exc : PySem.W.subIn K (.ref C) (.type "BaseException") = some true
  typ : PySem.W.typeIn K (.ref C) = some (.type "type")
  keep : PySem.W.keepIn K (.ref C) = true
theorem upd_swap {H : Hp} {a b : Addr} {o u v : HO} (h : a ≠ b) : upd (upd (upd H b o) a u) b v = upd (upd H b v) a u := by
  funext c
  by_cases hb : c = b
  · subst hb
    rw [upd_same, upd_ne (Ne.symm h), upd_same]
  · rw [upd_ne hb]
    by_cases ha : c = a
    · subst ha
      rw [upd_same, upd_same]
    · rw [upd_ne ha, upd_ne ha, upd_ne hb, upd_ne hb]
section
variable {X : Cx} {pins : List (Addr × Obj)} {σ : L2.St} {H : Hp} {s : Shared} {a C dx : Addr} {f : Str} {y : V} {u : Value} {fs : List (Str × V)} {Q : Unit → Shared → Prop} {E : Value → Shared → Prop} {A : Around}
theorem put_first (T : AeC X.K C) (I : Inv X pins σ H s) (e : H a = some (exo a C none)) (ht : PySem.W.takerIn X.K C f = some none) (ry : RelV y u)
    (h : ∀ dx s', H dx = none → dx ≠ a → Inv X pins σ (upd (upd H dx (exd dx [(f, y)])) a (exo a C (some dx))) s' → Q () s') : wpAny (model X.prog X.w) A (setAttr (.ref a) f u) Q E s := by
  obtain ⟨t1, ho⟩ := exo_at I.hok e
  obtain ⟨hp, g, dr, t, os⟩ := s
  have inst : PySem.W.InstAt hp a { cls := .ref C, dict := none, data := .fields #[.ref t1, .none, .none, .none, .bool false, .none] } C none := ⟨ho, rfl, rfl, trivial⟩
  refine PySem.W.set_plain I.kIn inst T.setA (PySem.W.osa_openX (s := ⟨hp, g, dr, t + 1, os⟩) F.store_ArithmeticError I.kIn inst T.over ht fun b => ?_)
  obtain ⟨cd, hc, hd'⟩ := PySem.W.any_some T.dct
  have J : Inv X pins σ H ⟨hp, g, dr, t + 1, os⟩ := I.tok (t + 1)
  refine wpAny_bind (wpAny_pure (wpAny_bind (PySem.W.instanceDict_exc (s := ⟨hp, g, dr, t + 1, os⟩) (C := C) ho (PySem.W.looks_clsIn J.kIn hc) hd' ?_)))
  have lt : a < hp.objs.size := Heap.lt_size ho
  have free : H hp.objs.size = none := I.hok.fresh (Nat.le_refl _)
  have ne : hp.objs.size ≠ a := Nat.ne_of_gt lt
  have get0 : (hp.push (PySem.W.dictOf [] 0)).get? hp.objs.size = some (PySem.W.dictOf [] 0) := Heap.get?_push_at rfl rfl
  have get1 : ((hp.push (PySem.W.dictOf [] 0)).update a fun o => { o with dict := some hp.objs.size }).get? hp.objs.size = some (PySem.W.dictOf [] 0) := (Heap.get?_update_ne _ _ _ _ ne).trans get0
  have nil0 : ∀ G : Heap, G.get? hp.objs.size = some (PySem.W.dictOf [] 0) → G.Ns hp.objs.size (fun _ => none) := fun G e => ⟨_, #[], 0, e, rfl, fun e he => absurd he (by simp), fun _ => rfl⟩
  refine PySem.HandSPX.store_in_new (nil0 _ get1) fun h' tk' hn' sb => ?_
  have J1 : Inv X pins σ (upd H hp.objs.size (exd hp.objs.size [])) ⟨hp.push (PySem.W.dictOf [] 0), g, dr, t + 1, os⟩ :=
    J.laid (t' := t + 1) (a := hp.objs.size) (o := exd hp.objs.size []) (h' := hp.push (PySem.W.dictOf [] 0)) (fun b o q => Heap.get?_push_of_some _ q) (Nat.le_refl _) (exd_ok (Heap.Ns1.of_empty (nil0 _ get0)) fun g => True.intro)
  have geta : (hp.push (PySem.W.dictOf [] 0)).get? a = some ({ cls := .ref C, dict := none, data := .fields #[.ref t1, .none, .none, .none, .bool false, .none] } : Obj) := Heap.get?_push_of_some _ ho
  have getb : ((hp.push (PySem.W.dictOf [] 0)).update a fun o => { o with dict := some hp.objs.size }).get? a = some ({ cls := .ref C, dict := some hp.objs.size, data := .fields #[.ref t1, .none, .none, .none, .bool false, .none] } : Obj) := Heap.get?_update_self _ geta rfl
  have J2 := J1.write (t' := t + 1) (h' := (hp.push (PySem.W.dictOf [] 0)).update a fun o => { o with dict := some hp.objs.size }) (x := a) (e := a) (o := exo a C (some hp.objs.size)) (by rw [upd_ne (Ne.symm ne), e]; exact True.intro) (.inl rfl)
    (fun b o nb q => (Heap.get?_update_ne _ _ _ _ nb).trans q) ⟨_, getb⟩ (exo_ok getb)
  have J3 := J2.write (t' := tk') (h' := h') (x := hp.objs.size) (e := hp.objs.size) (o := exd hp.objs.size [(f, y)]) (by rw [upd_ne ne, upd_same]; exact True.intro) (.inl rfl)
    (fun b o nb q => (sb.2 b nb).trans q) (by obtain ⟨o, _, _, e', _⟩ := hn'; exact ⟨o, e'⟩) (exd_ok hn' (relO_put (fs := []) ry fun g => True.intro))
  rw [upd_swap (Ne.symm ne)] at J3
  exact h _ _ free ne J3
theorem put_next (T : AeC X.K C) (I : Inv X pins σ H s) (e : H a = some (exo a C (some dx))) (ed : H dx = some (exd dx fs)) (hl : fs.length ≤ 900) (ht : PySem.W.takerIn X.K C f = some none) (ry : RelV y u)
    (h : ∀ s', Inv X pins σ (upd H dx (exd dx ((f, y) :: fs))) s' → Q () s') : wpAny (model X.prog X.w) A (setAttr (.ref a) f u) Q E s := by
  obtain ⟨t1, ho⟩ := exo_at I.hok e
  obtain ⟨mA, hns, rel⟩ := exd_at I.hok ed
  have win := within_of rel
  obtain ⟨hp, g, dr, t, os⟩ := s
  obtain ⟨oD, _, _, hoD, _, _⟩ := hns.count win
  have inst : PySem.W.InstAt hp a { cls := .ref C, dict := some dx, data := .fields #[.ref t1, .none, .none, .none, .bool false, .none] } C (some oD) := ⟨ho, rfl, rfl, hoD⟩
  refine PySem.W.set_plain I.kIn inst T.setA (PySem.W.osa_openX (s := ⟨hp, g, dr, t + 1, os⟩) F.store_ArithmeticError I.kIn inst T.over ht fun b => ?_)
  obtain ⟨cd, hc, hd'⟩ := PySem.W.any_some T.dct
  have J : Inv X pins σ H ⟨hp, g, dr, t + 1, os⟩ := I.tok (t + 1)
  refine wpAny_bind (wpAny_pure (wpAny_bind (wpAny_bind (wpAny_loadPart ho (wpAny_bind (PySem.W.Looks.here (s := ⟨hp, g, dr, t + 1, os⟩) (PySem.W.looks_clsIn J.kIn hc) ?_))))))
  rw [hd']
  refine wpAny_pure (a := some dx) ?_
  refine PySem.OEX.store_in_old hns win (by rw [List.length_map]; omega) fun h' tk' hn' sb => ?_
  refine h _ (I.write (t' := tk') (h' := h') (x := dx) (e := dx) (o := exd dx ((f, y) :: fs)) (by rw [ed]; exact True.intro) (.inl rfl) (fun b o nb q => (sb.2 b nb).trans q) ?_ (exd_ok hn' (relO_put ry rel)))
  obtain ⟨o, _, _, e', _⟩ := hn'
  exact ⟨o, e'⟩
end
/-- self.f = e in the __init__ of such a class -/
def tPut (K : PySem.W.Frag) (f : Str) (to te : TE) : TS := fun D σ H => te σ H fun y H1 => to σ H1 fun x H2 => ∃ a C : Addr, x = .ref a ∧ AeC K C ∧ PySem.W.takerIn K C f = some none ∧
  ((H2 a = some (exo a C none) ∧ ∀ dx, H2 dx = none → dx ≠ a → D.nx σ (upd (upd H2 dx (exd dx [(f, y)])) a (exo a C (some dx)))) ∨
   ∃ (dx : Addr) (fs : List (Str × V)), fs.length ≤ 900 ∧ H2 a = some (exo a C (some dx)) ∧ H2 dx = some (exd dx fs) ∧ D.nx σ (upd H2 dx (exd dx ((f, y) :: fs))))
section
variable {X : Cx} {o e : Expr} {es : List Expr} {to te : TE} {ta : TA} {f : Str} {p p' pos : Pos}
theorem ps_put (ho : PE X o to) (he : PE X e te) (hs : swapsWith e (some (.Attribute o f p')) pos.line X.env = pure false := by rfl) : PS X (.Assign [.Attribute o f p'] e pos) (tPut X.K f to te) := ⟨by
  intro pins s σ H D I h
  refine plainObj_wpAny_Assign_Attribute (thn (he.run pins s σ H _ I h) ?_) hs
  rintro v s1 ⟨y, H1, I1, r1, q1⟩
  refine thn (ho.run pins s1 σ H1 _ I1 q1) ?_
  rintro _ s2 ⟨_, H2, I2, r2, a, C, rfl, T, ht, q⟩
  cases r2
  rcases q with ⟨ea, q⟩ | ⟨dx, fs, hl, ea, ed, q⟩
  · exact put_first T I2 ea ht r1 fun dx s' n ne J => ⟨σ, _, J, q dx n ne⟩
  · exact put_next T I2 ea ed hl ht r1 fun s' J => ⟨σ, _, J, q⟩⟩
/-- C(e, ..) of such a class -/
theorem pmk_ae {CX : CXT} {x : Str} {C fI : Addr} {k : Nat} {fd : FuncData} {ps : List Str} {sp : Sp} (T : AeC X.K C) (iC : PySem.W.findIn X.K (.ref C) "__init__" = some (some (.ref fI))) (tI : PySem.W.typeIn X.K (.ref fI) = some (.type "function"))
    (F1 : FnOk X.prog X.w X.K X.mg X.base CX k fI fd ps sp) (hr : Room (k + 1) X.A) (hb : Binds X.K fd ps []) (hx : Passes CX X (fun _ _ _ => False)) (hg : Gl X x) (hm : X.mg x = some (.ref C)) (ha : PA X (e :: es) ta)
    (hdb : (x == ("__debug__" : Str)) = false := by decide) (he : starEach (e :: es) X.env = (false, eval e X.env) :: starEach es X.env := by rfl) (hpl : (backTo pos (starEach es X.env)).any (·.1) = false := by rfl) :
    PMk X (.Call (.Name x p) (e :: es) [] pos) (tMkO C sp [] ta) := by
  intro pins s σ H Q I h
  refine wpAny_Call_Name_kw (ld_glob I hg hm ?_ hdb)
  refine PySem.W.callWith_K (h₀ := X.base) I.ok.mod.kin T.keep (thn (ha.run pos pins s σ H _ I h) ?_) he hpl
  rintro us ⟨hp, g, dr, tk, os⟩ ⟨vs, H1, I1, r1, hz, q1⟩
  refine ⟨I1.kIn, ?_⟩
  show wpAny _ _ (call (.ref C) us) _ _ _
  obtain ⟨nm, N, qn, bs, bm, hdct, sn, sub, ab, col, dd, k0, k1, k2, k3, k5, hC, hT⟩ := PySem.W.excInit_of I1.kIn T.made
  have lay : ∀ b o, hp.get? b = some o → ((hp.push (PySem.W.kdv_tup us)).push (PySem.HandSPX.excO C hp.objs.size)).get? b = some o := fun b o e => Heap.get?_push_of_some _ (Heap.get?_push_of_some _ e)
  have here : ((hp.push (PySem.W.kdv_tup us)).push (PySem.HandSPX.excO C hp.objs.size)).get? (hp.objs.size + 1) = some (PySem.HandSPX.excO C hp.objs.size) := by heap_get
  have new : hp.objs.size ≤ hp.objs.size + 1 := Nat.le_succ _
  have hq := q1 _ (I1.hok.fresh new)
  have I2 := I1.laid (t' := tk) (a := hp.objs.size + 1) (o := exo (hp.objs.size + 1) C none) lay new (exo_ok here)
  have r2 : Vals (V.ref (hp.objs.size + 1) :: (vs ++ [])) (Value.ref (hp.objs.size + 1) :: (us ++ [])) := .cons rfl (r1.append .nil)
  have len : (Value.ref (hp.objs.size + 1) :: us ++ []).length = ps.length := (F1.len _ _ _ _ hq).symm.trans r2.length |>.symm
  have few : us.length ≤ sizeLine := by have := Paired.length r1; rw [sizeLine_eq]; omega
  refine wpAny_call (PySem.HandSPX.call_own F.excBase_ArithmeticError hT hC (PySem.W.looks_findIn I1.kIn iC) (fun self => PySem.W.bind_fn I1.kIn self tI) few ?_)
  refine codeAny_mono (F1.run _ X.stack _ _ ⟨Value.ref (hp.objs.size + 1) :: us, []⟩ ((Value.ref (hp.objs.size + 1) :: us) ++ []) _ _ (fun _ _ _ => False) (hr.make C us []) (I2.env0.make C us []) (hb _ (Value.ref (hp.objs.size + 1) :: us) I2.kIn len) r2 hq) ?_
  rintro (er | fl) s' back
  · exact hx pins σ _ _ er s' I2 back
  · cases fl with
    | ret rv =>
      obtain ⟨_, H2, os2, bare2, un2, hok2, rv', rfl, d, fs, ea, ed, hd1, q2⟩ := back
      obtain ⟨h2, g2, d2, t2, os'⟩ := s'
      exact ⟨rv', mk_end (raises_own T.exc T.typ) I1 new lay un2 hok2 os2 bare2 ea ed hd1 q2⟩
    | next => exact back.elim
    | brk => exact back.elim
    | cont => exact back.elim
end
end AEx
/-! try with several clauses 'except C as e', one name for all -/
namespace TAs
open PySem PySem.Spec PyProof.Rows L2
abbrev Clause := Value × (Addr → Value → Option Addr → TS)
def wishes (K : PySem.W.Frag) (i : Nat) (Wout : WX) (D : Ends) : List Clause → WX
  | [] => Wout
  | (c, ts) :: more => wAs K c i ts (wishes K i Wout D more) D
inductive Clauses (X : Cx) (n : Str) : List ExceptHandler → List Clause → Prop
  | nil : Clauses X n [] []
  | cons {x : Str} {c : Value} {ts : Addr → Value → Option Addr → TS} {st : Stmt} {sts : List Stmt} {p1 p2 : Pos} {hs : List ExceptHandler} {cs : List Clause} (nm : Names X x c)
      (run : ∀ (e : Addr) (ob : Obj) (cls : Value) (d : Option Addr) (pn : List (Addr × Obj)), Zc cls d ob → (∃ fv, ob.data = .fields fv) → PSs (X.suite e ((e, ob) :: pn)) (st :: sts) (ts e cls d)) (more : Clauses X n hs cs) :
      Clauses X n (.ExceptHandler (some (.Name x p1)) (some n) (st :: sts) p2 :: hs) ((c, ts) :: cs)
section
variable {X : Cx} {n : Str} {i : Nat} {body : List Stmt} {h1 : ExceptHandler} {hs : List ExceptHandler} {cs : List Clause} {pos : Pos} {tb : WX → TS} {Wout : WX}
theorem ps_try (hst : X.stack = X.env :: X.outer) (hfm : X.env.frame = some X.env.locals) (nd : X.N.Nodup) (at_i : X.N[i]? = some n) (loc : X.env.kindOf n = some .local) (tk : Takes X Wout)
    (hb : ∀ (W : WX) (pn : List (Addr × Obj)) (xe : Value → Shared → Prop), Takes (X.tr pn xe) W → PassesOwn (model X.prog X.w) X.A X.env xe → PSs (X.tr pn xe) body (tb W))
    (all : Clauses X n (h1 :: hs) cs) : PS X (.Try body (h1 :: hs) [] [] pos) (fun D σ H => tb (wishes X.K i Wout D cs) D σ H) := ⟨by
  intro pins s σ H D I start
  have okI := I.ok
  have frames : X.A.frames = some (X.env :: X.outer) := by rw [okI.frames, hst]
  have isLoc : Loc X.env.scope n := .inl loc
  let after : Value → Shared → Prop := fun e s₁ => wpAny (model X.prog X.w) X.A (noteFrame e X.env) (fun _ s₂ => wpAny (model X.prog X.w) X.A (setFlight e none) (fun _ s₃ => wpAny (model X.prog X.w) X.A (handleBy e X.env (h1 :: hs)) (SP X pins D) X.xe s₃) X.xe s₂) X.xe s₁
  refine wpAny_Try_except (wpAny_mono ((hb (wishes X.K i Wout D cs) (X.pn ++ pins) after ?_ PassesOwn.looking).run [] s σ H D (I.toTry _) start) ?_ fun e s1 z => z)
  · rintro u sE ⟨e, B, sI, pins', σ', H', cls, d, rfl, JT, nb, grow, skyT, na, sos, ag, want⟩
    have J : Inv X pins σ' H' sI := JT.ofTry okI
    have sky : Sky B (X.env :: X.outer) e (Zc cls d) X.env.locals sE.heap := by rw [← hst]; exact skyT
    show wpAny _ X.A (noteFrame (.ref e) X.env) _ _ sE
    refine Sky.land Zc.steady frames hfm sky ?_
    intro hA flA upA
    have JA : Inv X pins σ' H' { sE with heap := hA } := J.landed nb flA.1 (grow.trans upA) sos ag
    obtain ⟨obA, fvA, getA, zcA, datA⟩ := flA.there
    have away : e ∉ frs (X.env :: X.outer) := fun mem => by
      obtain ⟨_, o', get', nf⟩ := flA.2.2.1.mem mem
      rw [getA] at get'
      cases get'
      exact nf _ datA
    have nLoc : e ≠ X.env.locals := fun z => away (List.mem_filterMap.mpr ⟨X.env, List.mem_cons_self, by rw [hfm, z]⟩)
    have nFs : e ∉ X.fs := fun mem => by
      obtain ⟨en, hen, q⟩ := List.mem_filterMap.mp mem
      exact away (List.mem_filterMap.mpr ⟨en, List.mem_cons_of_mem _ hen, q⟩)
    have SA := JA.suite getA datA na nLoc nFs
    have typed : PySem.W.Looks (model X.prog X.w) hA (typeOf (.ref e)) cls := fun A Q E s k q => wpAny_typeOf_ref (k _ _ getA) (by rw [zcA.1]; exact q)
    suffices walk : ∀ {ks : List ExceptHandler} {ls : List Clause}, Clauses X n ks ls → wishes X.K i Wout D ls cls d σ' H' → wpAny (model X.prog X.w) X.A (handleBy (.ref e) X.env ks) (SP X pins D) X.xe { sE with heap := hA } from walk all want
    intro ks ls cl
    induction cl with
    | nil =>
      intro w
      refine wpAny_handleBy_nil ?_
      obtain ⟨_, _, _, ob, fv, T, oT, ts', gob, zob, dob, d1, _⟩ := id flA
      unfold PySem.passOn
      refine wpAny_bind (wpAny_field gob dob d1 ?_)
      rw [if_neg (show ¬ ((Value.ref T == Value.none) = true) from by simp)]
      have leave : wpAny (model X.prog X.w) X.A (setFlight (.ref e) X.env.frame) (fun _ sN => wpAny (model X.prog X.w) X.A (throw (.ref e) : Sem Flow) (SP X pins D) X.xe sN) X.xe { sE with heap := hA } := by
        rw [hfm]
        refine HandSPX.setFlight_upZ flA ?_
        intro hB inB upB
        refine wpAny_throw (tk _ _ ⟨e, B, sI, pins, σ', H', cls, d, rfl, J, nb, (grow.trans upA).trans upB, .inr (.inr ?_), na, sos, ag, w⟩)
        rw [hst]
        exact inB
      first | exact wpAny_bind (wpAny_pure (wpAny_bind leave)) | exact wpAny_bind leave
    | @cons x c ts st sts p1 p2 hs2 cs2 nm run more ih =>
      rintro ⟨b, eb, yes, no⟩
      refine wpAny_handleBy_cons (codeAny_handlers_test ?_) (fun q => nomatch q)
      have isC := PySem.W.exm_one (M := model X.prog X.w) JA.kIn typed eb
      have named : ∀ {Q E : Value → Shared → Prop}, Q c { sE with heap := hA } → wpAny (model X.prog X.w) (X.A.mark (some (.ref e))) (eval (.Name x p1) X.env) Q E { sE with heap := hA } := by
        intro Q E q
        obtain ⟨gl, nd, m | ⟨m, bv, nn⟩⟩ := nm
        · exact ld_glob (X := X.suite e ((e, obA) :: (X.pn ++ pins))) SA gl m q nd
        · exact ld_blt (X := X.suite e ((e, obA) :: (X.pn ++ pins))) SA gl m bv q nn nd
      refine named (isC.here ?_)
      cases b with
      | false =>
        show wpAny _ X.A (handleBy (.ref e) X.env hs2) _ _ _
        exact ih (no rfl)
      | true =>
        refine codeAny_handlers_suite_as (HandSPX.lands_againZ flA ?_)
        intro hB flB upB
        have JB : Inv X pins σ' H' { sE with heap := hB } := J.landed nb flB.1 ((grow.trans upA).trans upB) sos ag
        obtain ⟨obB, fvB, getB, zcB, datB⟩ := flB.there
        have SB := JB.suite getB datB na nLoc nFs
        refine store_ok (X := X.suite e ((e, obB) :: (X.pn ++ pins))) (v := .ref e) SB nd at_i isLoc rfl (fun s5 S5 => ?_) (.inr loc)
        refine wpAny_mono ((run e obB cls d (X.pn ++ pins) zcB ⟨_, datB⟩).run [] s5 _ H' _ S5 (yes rfl e na)) (fun f s6 sp => ?_) fun _ _ z => z.elim
        have unbind : ∀ {σ6 : L2.St} {H6 : Hp} {Q : Shared → Prop}, Inv (X.suite e ((e, obB) :: (X.pn ++ pins))) [] σ6 H6 s6 → (∀ s7, Inv X pins (σ6.set i none) H6 s7 → Q s7) →
            wpAny (model X.prog X.w) X.A (do bindName X.env n .none; unbindBehindTheSuite X.env n p2) (fun _ s7 => Q s7) X.xe s6 := fun S6 go => gone_ok (S6.unsuite okI) nd at_i loc go
        rcases f with _ | _ | _ | u
        all_goals first
          | (obtain ⟨v6, σ6, H6, S6, r6, q6⟩ := sp; exact unbind S6 fun s7 J7 => ⟨_, _, _, J7, r6, q6⟩)
          | (obtain ⟨σ6, H6, S6, q6⟩ := sp; exact unbind S6 fun s7 J7 => ⟨_, _, J7, q6⟩)
  · intro f s1 sp
    rcases f with _ | _ | _ | u
    all_goals first
      | (obtain ⟨v, σ', H', J', r, q⟩ := sp; exact ⟨v, σ', H', J'.ofTry okI, r, q⟩)
      | (obtain ⟨σ', H', J', q⟩ := sp; first | exact wpAny_execs_nil ⟨σ', H', J'.ofTry okI, q⟩ | exact ⟨σ', H', J'.ofTry okI, q⟩)⟩
end
end TAs
/-! isinstance of a caught error that has its own dict -/
namespace PySem.W
open PySem PySem.Spec PySem.Calls PyProof.Rows
section
variable {prog : Program} {w : World} {A : Around} {E : Value → Shared → Prop} {s : Shared} {K : Frag} {x D : Addr} {ox : Obj} {od : Option Obj}
theorem k14_find {C : Addr} {name : Str} {a g : Value} (hc : (clsIn K C).isSome = true) (ha : findIn K (.ref C) name = some (some a)) (hg : specialIn K a "__get__" = some (some g)) (ht : takesIn K a = some true) : findObj K C od name = some (.bind g a) := by
  cases hq : clsIn K C with
  | none => rw [hq] at hc; cases hc
  | some cd => unfold findObj; rw [hq, Option.bind_some, ha, Option.bind_some]; simp [hg, ht]
theorem k14_class {Q : Option Value → Shared → Prop} (C : L2.ExcC K D) (X : K.In s.heap) (I : InstAt s.heap x ox D od) (h : Q (some (.ref D)) { s with toks := s.toks + 1 }) : wpAny (model prog w) A (getAttr? (.ref x) "__class__") Q E s := by
  obtain ⟨hga, hgt, hsub, hdct, ha, hn, htk, hm⟩ := C
  have hf : findObj K D od "__class__" = some (.bind (.builtin "getset_descriptor.__get__") (.builtin "object.__class__")) := k14_find (by obtain ⟨cd, hc, _⟩ := any_some hdct; rw [hc]; rfl) ha hn htk
  obtain ⟨hp, g, d, t, os⟩ := s
  have J0 := I.type (M := model prog w)
  have J1 := looks_findIn (M := model prog w) X hga
  have J2 := looks_findIn (M := model prog w) X hgt
  have J3 := looks_find (M := model prog w) X I hf
  have sb : Looks (model prog w) hp (isInstance (.ref x) (.type "BaseException")) true := J0.andThen (looks_subIn X hsub)
  have z0 : (false && onTheHeap (Value.builtin "BaseException.__getattribute__")) = false := rfl
  have z2 : (Value.builtin "BaseException.__getattribute__" == Value.builtin "object.__getattribute__") = false := by decide +kernel
  have z1 : (onTheHeap (Value.ref D) && Value.builtin "BaseException.__getattribute__" == Value.builtin "object.__getattribute__") = false := by rw [z2]; rfl
  unfold getAttr? getAttrBy? getAttrBy
  apply wpAny_bind; apply wpAny_mkText; apply wpAny_bind; apply wpAny_attempt; apply wpAny_holding; apply wpAny_bind; apply J0.at; apply wpAny_bind; apply J1.at
  show wpAny _ _ (if (onTheHeap (Value.ref D) && Value.builtin "BaseException.__getattribute__" == Value.builtin "object.__getattribute__") = true then _ else _) _ _ _
  rw [z1, if_neg Bool.false_ne_true]
  unfold getAttrByItsOwn hookBefore
  apply wpAny_bind
  rw [if_pos (show onTheHeap (Value.ref D) = true from rfl)]
  apply J2.at; apply wpAny_bind; apply wpAny_attempt; apply wpAny_holding
  unfold callGetattribute
  rw [z0, if_neg Bool.false_ne_true]
  unfold boundAndCalled
  rw [PySem.F.excAttr_ValueError.ga.bind (.ref x)]
  apply wpAny_bind; apply wpAny_pure
  show wpAny _ _ (call (.builtin "BaseException.__getattribute__") [.ref x, .str "__class__" t]) _ _ _
  apply wpAny_call; apply codeAny_call_builtin PySem.F.excAttr_ValueError.ga.plain PySem.F.entry_bexc_ga
  apply @check_slot (model prog w) _ _ ⟨hp, g, d, t + 1, os⟩ "BaseException.__getattribute__" "BaseException" "__getattribute__" (.ref x) [.str "__class__" t] [] _ (by decide +kernel) (by decide +kernel) sb (PySem.F.args_bexc_ga (.ref x) (.str "__class__" t))
  unfold Builtin.«object.__getattribute__»
  apply wpAny_bind; apply wpAny_of_eq (a := ((Value.ref x : Value), [Value.str "__class__" t])) (by first | rfl | (simp only [slotArgs]; rfl))
  apply wpAny_bind; apply wpAny_pure; apply wpAny_bind; apply J0.at; apply wpAny_bind; apply J3.at
  show wpAny _ _ (holding [Value.builtin "object.__class__"] (call (.builtin "getset_descriptor.__get__") [.builtin "object.__class__", .ref x, .ref D]) >>= ret) _ _ _
  apply wpAny_bind; apply wpAny_holding; apply wpAny_call; apply class_get (s := ⟨hp, g, d, t + 1, os⟩) (ox := ox) (od := od) X I hm
  apply wpAny_pure
  show wpAny _ _ (handedOut (.ref D)) _ _ _
  rw [handedOut_of (v := .ref D) rfl]
  first
    | exact wpAny_pure (wpAny_pure h)
    | exact wpAny_pure h
    | exact wpAny_pure (wpAny_bind (wpAny_pure (wpAny_pure h)))
theorem k14_cls {C : Addr} (h : (clsIn K C).isSome = true) : ∃ cc dd dt sl, K.lookup C = some ⟨cc, dd, .cls dt, sl⟩ := by
  unfold clsIn at h
  split at h
  · rename_i e; exact ⟨_, _, _, _, e⟩
  · cases h
theorem k14_kit (C : L2.ExcC K D) : KitX K (.ref x) (.ref D) (fun h => ∃ (ox : Obj) (od : Option Obj), InstAt h x ox D od) where
  ty := fun _ _ _ ⟨_, _, I⟩ => I.type
  it := fun _ _ X _ => by
    obtain ⟨cd, hcd, _⟩ := any_some C.hd
    obtain ⟨cc, dd, dt, sl, ho⟩ := k14_cls (K := K) (C := D) (by rw [hcd]; rfl)
    intro A' Q' E' s' k q
    unfold isType loadHead
    exact wpAny_bind (wpAny_loadPart (k _ _ (X _ _ ho)) (wpAny_pure q))
  ne := fun h tp dd its n sl X htp => by
    obtain ⟨cd, hcd, _⟩ := any_some C.hd
    obtain ⟨cc, dd', dt, sl', ho⟩ := k14_cls (K := K) (C := D) (by rw [hcd]; rfl)
    by_cases e : D = tp
    · subst e
      have z := (X _ _ ho).symm.trans htp
      cases z
    · exact beq_eq_false_iff_ne.mpr fun q => e (Value.ref.inj q)
  ca := fun X ⟨_, _, I⟩ k => k14_class C X I k
end
end PySem.W
namespace L2
open PySem PySem.Spec PyProof.Rows
/-! ### f(k = v) in a try -/
section
variable {X : Cx} {CX : CXT} {k : Nat} {f : Addr} {fd : FuncData} {kn : Str} {sp : Sp} {E : St → XK} {x : Str} {p pos kpos : Pos} {e : Expr} {te : TE}
def tKw1 (sp : Sp) (E : St → XK) (te : TE) : TE := fun σ H Q => tCons te tNil σ H fun vs H1 => vs.length = 1 ∧ sp vs H1 Q (E σ)
theorem pe_callKw1 (F : FnOk X.prog X.w X.K X.mg X.base CX k f fd [kn] sp) (hr : Room k X.A) (hg : Gl X x) (hm : X.mg x = some (.ref f)) (hk : PySem.W.keepIn X.K (.ref f) = true)
    (hb : ∀ (s : Shared) (u : Value), BindsTo s fd ⟨[], [(kn, u)]⟩ [(kn, u)]) (hx : ∀ σ, PassesAt CX X σ (E σ)) (he : PE X e te)
    (hall : (backToKw pos (keywordEach [⟨some kn, e, kpos⟩] X.env)).all (·.1.isSome) = true := by rfl) (hks : (backToKw pos (keywordEach [⟨some kn, e, kpos⟩] X.env)).filterMap (·.1) = [kn] := by rfl)
    (hdb : (x == ("__debug__" : Str)) = false := by decide) (hpl : ((backTo pos (starEach [] X.env)).any (·.1) || (backToKw pos (keywordEach [⟨some kn, e, kpos⟩] X.env)).any (·.1.isNone)) = false := by rfl) :
    PE X (.Call (.Name x p) [] [⟨some kn, e, kpos⟩] pos) (tKw1 sp E te) := ⟨by
  intro pins s σ H Q I h
  have pk : PK X [⟨some kn, e, kpos⟩] (tCons te tNil) := pk_cons he pk_nil
  apply wpAny_Call_Name_kw
  apply ld_glob I hg hm _ hdb
  apply PySem.W.callWith_KW0 (h₀ := X.base) I.ok.mod.kin hk hall _ hpl
  apply thn (pk.run pos pins s σ H _ I h)
  rintro ws s2 ⟨zs, H2, I2, rz, hl, q2⟩
  refine ⟨I2.kIn, ?_⟩
  rw [hks]
  obtain ⟨v, rfl⟩ : ∃ v, zs = [v] := List.length_eq_one_iff.mp hl
  obtain ⟨u, rfl, ru⟩ := vals1 rz
  apply wpAny_call
  apply codeAny_mono (F.run X.A X.stack s2 H2 ⟨[], [(kn, u)]⟩ [u] [v] Q (E σ) hr I2.env0 (hb s2 u) rz q2)
  intro r s' hq
  match r, hq with
  | .error er, hq => exact hx σ pins H2 s2 er s' I2 hq
  | .ok (.ret _), hq => exact I2.after hq
  | .ok .next, hq => exact hq.elim
  | .ok .brk, hq => exact hq.elim
  | .ok .cont, hq => exact hq.elim⟩
end
/-! ### isinstance(e, c), isinstance(e, (c, ..)), e the error that the suite holds -/
def rIsX (K : PySem.W.Frag) (a : Addr) (cls : Value) (d : Option Addr) : List V → Hp → VK → Prop := fun xs H Q => ∃ (D dd : Addr) (fs : List (Str × V)) (c : V) (cv : Value) (b : Bool),
  cls = .ref D ∧ d = some dd ∧ ExcC K D ∧ H dd = some (.xd fs) ∧ xs = [.ref a, c] ∧ ClsV c cv ∧ PySem.W.kitOne K (.ref D) cv = some b ∧ Q (.bl b) H
def rIsXT (K : PySem.W.Frag) (a : Addr) (cls : Value) (d : Option Addr) : List V → Hp → VK → Prop := fun xs H Q => ∃ (D dd tp : Addr) (fs : List (Str × V)) (cs : List V) (us : List Value) (b : Bool),
  cls = .ref D ∧ d = some dd ∧ ExcC K D ∧ H dd = some (.xd fs) ∧ xs = [.ref a, .ref tp] ∧ H tp = some (.tup cs) ∧ Paired ClsV cs us ∧ PySem.W.kitAny K (.ref D) us = some b ∧ Q (.bl b) H
section
variable {X : Cx} {a : Addr} {oe : Obj} {cls : Value} {d : Option Addr} {pn : List (Addr × Obj)}
theorem suite_inst {pins : List (Addr × Obj)} {σ : St} {H : Hp} {s : Shared} {D dd : Addr} {fs : List (Str × V)} (hz : Zc (.ref D) (some dd) oe) (hf : ∃ vs, oe.data = .fields vs) (I : Inv (X.suite a ((a, oe) :: pn)) pins σ H s) (hd : H dd = some (.xd fs)) :
    ∃ od, PySem.W.InstAt s.heap a oe D (some od) := by
  obtain ⟨hget, _⟩ := I.pin (a, oe) (List.mem_append_left _ List.mem_cons_self)
  obtain ⟨vs, hv⟩ := hf
  obtain ⟨mA, hns, _⟩ := (show ObjOk X.prog X.w H s.heap dd (.xd fs) from I.hok dd _ hd)
  obtain ⟨od, ho, _⟩ := lookIn_ns hns
  exact ⟨od, hget, hz.1, by unfold PySem.W.notCls; rw [hv] <;> rfl, by rw [hz.2]; exact ho⟩
theorem call_isX (hz : Zc cls d oe) (hf : ∃ vs, oe.data = .fields vs) : CallR (X.suite a ((a, oe) :: pn)) (.builtin "isinstance") (rIsX X.K a cls d) := by
  rintro pins s σ H xs us Q I r ⟨D, dd, fs, c, cv, b, rfl, rfl, C, hd, rfl, k, e, q⟩
  obtain ⟨u1, u2, rfl, r1, r2⟩ := vals2 r
  obtain rfl : u1 = Value.ref a := r1
  have ec := k.eq r2
  subst ec
  obtain ⟨od, J⟩ := suite_inst hz hf I hd
  exact PySem.W.kia_one (PySem.W.k14_kit C) I.kIn ⟨oe, some od, J⟩ e (fun z => nomatch z) fun tk => ⟨.bl b, H, I.tok tk, rfl, q⟩
theorem call_isXT (hz : Zc cls d oe) (hf : ∃ vs, oe.data = .fields vs) : CallR (X.suite a ((a, oe) :: pn)) (.builtin "isinstance") (rIsXT X.K a cls d) := by
  rintro pins s σ H xs us Q I r ⟨D, dd, tp, fs, cs, ws, b, rfl, rfl, C, hd, rfl, hT, k, e, q⟩
  obtain ⟨u1, u2, rfl, r1, r2⟩ := vals2 r
  obtain rfl : u1 = Value.ref a := r1
  obtain rfl : u2 = Value.ref tp := r2
  obtain ⟨od, J⟩ := suite_inst hz hf I hd
  obtain ⟨_, its, rv, o, h1, h2, n, h3⟩ := (show ObjOk X.prog X.w H s.heap tp (.tup cs) from I.hok tp _ hT)
  have e3 := ClsV.all k rv
  subst e3
  obtain ⟨oc, od', dt, sl⟩ := o
  dsimp only at h2 h3
  subst h2 h3
  exact PySem.W.kia_tup (PySem.W.k14_kit C) I.kIn ⟨oe, some od, J⟩ h1 e (fun z => nomatch z) fun tk => ⟨.bl b, H, I.tok tk, rfl, q⟩
end
end L2
namespace K12
open PySem L2
section
variable {P : Program} {w : World} {K : PySem.W.Frag} {mg : Str → Option Value} {base : Heap}
abbrev sInitT : Stmt := inClass (top 5) 0
structure IT (K : PySem.W.Frag) (mg : Str → Option Value) (C fI : Addr) (fd : FuncData) : Prop where
  o : OexC K C
  iC : PySem.W.findIn K (.ref C) "__init__" = some (some (.ref fI))
  tI : PySem.W.typeIn K (.ref fI) = some (.type "function")
  n1 : PySem.W.findIn K (.ref C) "problem" = some none
  n2 : PySem.W.findIn K (.ref C) "_told" = some none
  m : mg "InvalidText" = some (.ref C)
  F : Fun K "__init__" "InvalidText.__init__" sInitT fI fd
  b : Binds K fd ["self", "problem"] []
def spInitT (C : Addr) : Sp := fun vs H Q _ => ∃ (a : Addr) (v : V), vs = [.ref a, v] ∧ H a = some (exo a C none) ∧
  ∀ (H' : Hp) (d t : Addr), H d = none → d ≠ a → H' a = some (exo a C (some d)) → H' d = some (exd d [("_told", .ref t), ("problem", v)]) → (∀ b o, b ≠ a → H b = some o → H' b = some o) → Q .non H'
theorem scInT : FnScope ["self", "problem"] ["self", "problem"] (defScope sInitT) := ⟨rfl, rfl, rfl, by decide +kernel, rfl, by decide +kernel, by decide +kernel⟩
theorem ok_initT {C f : Addr} {fd : FuncData} (T : IT K mg C f fd) : FnOk P w K mg base CX0 1 f fd ["self", "problem"] (spInitT C) := by
  refine T.F.ok scInT (fun vs H Q E h => ?_) (fun cdv A outer_ s H vs Q E hr h => ?_)
  · obtain ⟨a, v, rfl, _⟩ := h
    rfl
  · obtain ⟨a, v, rfl, he, k⟩ := h
    refine ⟨_, pss_cons (ps_ost (pv 0) (pv 1)) (pss_one (ps_ost (pv 0) (pe_tup (pa_cons (pv 1) pa_nil)))), ?_⟩
    refine ⟨_, rfl, _, rfl, a, C, rfl, T.o, T.n1, .inl ⟨he, fun d hd hne => ?_⟩⟩
    refine ⟨_, rfl, (by show 1 ≤ sizeLine; decide), fun t ht => ?_⟩
    have nt : t ≠ a := fun e => by rw [e, upd_same] at ht; cases ht
    have nd : t ≠ d := fun e => by rw [e, upd_ne hne, upd_same] at ht; cases ht
    refine ⟨_, rfl, a, C, rfl, T.o, T.n2, .inr ⟨d, [("problem", v)], ?_, ?_, (show 1 ≤ 900 by decide), ?_⟩⟩
    · rw [upd_ne (Ne.symm nt), upd_same]
    · rw [upd_ne (Ne.symm nd), upd_ne hne, upd_same]
    · refine k _ d t hd hne ?_ upd_same fun b o hb e => ?_
      · rw [upd_ne (Ne.symm hne), upd_ne (Ne.symm nt), upd_same]
      · have n1 : b ≠ d := ne_of_none e hd
        have n2 : b ≠ t := fun z => by
          rw [upd_ne nt, upd_ne nd] at ht
          rw [z, ht] at e
          cases e
        rw [upd_ne n1, upd_ne n2, upd_ne hb, upd_ne n1]
        exact e
abbrev sInitK : Stmt := inClass (top 3) 0
structure IK (K : PySem.W.Frag) (mg : Str → Option Value) (C fI : Addr) (fd : FuncData) : Prop where
  o : OexC K C
  iC : PySem.W.findIn K (.ref C) "__init__" = some (some (.ref fI))
  tI : PySem.W.typeIn K (.ref fI) = some (.type "function")
  n1 : PySem.W.findIn K (.ref C) "value" = some none
  n2 : PySem.W.findIn K (.ref C) "_told" = some none
  m : mg "InvalidName" = some (.ref C)
  F : Fun K "__init__" "InvalidName.__init__" sInitK fI fd
  b : Binds K fd ["self", "value"] []
def spInitK (C : Addr) : Sp := fun vs H Q _ => ∃ (a : Addr) (v : V), vs = [.ref a, v] ∧ H a = some (exo a C none) ∧
  ∀ (H' : Hp) (d t : Addr), H d = none → d ≠ a → H' a = some (exo a C (some d)) → H' d = some (exd d [("_told", .ref t), ("value", v)]) → (∀ b o, b ≠ a → H b = some o → H' b = some o) → Q .non H'
theorem scInK : FnScope ["self", "value"] ["self", "value"] (defScope sInitK) := ⟨rfl, rfl, rfl, by decide +kernel, rfl, by decide +kernel, by decide +kernel⟩
theorem ok_initK {C f : Addr} {fd : FuncData} (T : IK K mg C f fd) : FnOk P w K mg base CX0 1 f fd ["self", "value"] (spInitK C) := by
  refine T.F.ok scInK (fun vs H Q E h => ?_) (fun cdv A outer_ s H vs Q E hr h => ?_)
  · obtain ⟨a, v, rfl, _⟩ := h
    rfl
  · obtain ⟨a, v, rfl, he, k⟩ := h
    refine ⟨_, pss_cons (ps_ost (pv 0) (pv 1)) (pss_one (ps_ost (pv 0) (pe_tup (pa_cons (pv 1) pa_nil)))), ?_⟩
    refine ⟨_, rfl, _, rfl, a, C, rfl, T.o, T.n1, .inl ⟨he, fun d hd hne => ?_⟩⟩
    refine ⟨_, rfl, (by show 1 ≤ sizeLine; decide), fun t ht => ?_⟩
    have nt : t ≠ a := fun e => by rw [e, upd_same] at ht; cases ht
    have nd : t ≠ d := fun e => by rw [e, upd_ne hne, upd_same] at ht; cases ht
    refine ⟨_, rfl, a, C, rfl, T.o, T.n2, .inr ⟨d, [("value", v)], ?_, ?_, (show 1 ≤ 900 by decide), ?_⟩⟩
    · rw [upd_ne (Ne.symm nt), upd_same]
    · rw [upd_ne (Ne.symm nd), upd_ne hne, upd_same]
    · refine k _ d t hd hne ?_ upd_same fun b o hb e => ?_
      · rw [upd_ne (Ne.symm hne), upd_ne (Ne.symm nt), upd_same]
      · have n1 : b ≠ d := ne_of_none e hd
        have n2 : b ≠ t := fun z => by
          rw [upd_ne nt, upd_ne nd] at ht
          rw [z, ht] at e
          cases e
        rw [upd_ne n1, upd_ne n2, upd_ne hb, upd_ne n1]
        exact e
/-- the error leaves, with this one in its field -/
def Bad (fld : Str) (C : Addr) (H : Hp) (v : V) (E : XK) : Prop := ∀ (H' : Hp) (d : Addr) (fs : List (Str × V)), Same H H' → H d = none → H' d = some (.xd fs) → List.lookup fld fs = some v → E (.ref C) (some d) H'
theorem bad_of {fld : Str} {C : Addr} {H H0 : Hp} {v : V} {E : XK} (s : Same H H0) (b : Bad fld C H v E) : Bad fld C H0 v E := fun H' d fs s' hd e1 e2 => b H' d fs (s.trans s') (s.free hd) e1 e2
theorem mkK {C : Addr} {E : XK} (H0 : Hp) (v : V) (hb : Bad "value" C H0 v E) : 1 ≤ 1000 ∧ ∀ a, H0 a = none → spInitK C (.ref a :: ([v] ++ [])) (upd H0 a (exo a C none))
    (fun u H2 => u = .non ∧ ∃ (d : Addr) (fs : List (Str × V)), H2 a = some (exo a C (some d)) ∧ H2 d = some (exd d fs) ∧ H0 d = none ∧ E (.ref C) (some d) (upd (del H2 a) d (.xd fs))) (fun _ _ _ => False) := by
  refine ⟨by decide, fun a ha => ⟨a, v, rfl, upd_same, fun H2 d t hd hne he1 he2 hs => ⟨rfl, d, _, he1, he2, ?_, ?_⟩⟩⟩
  · rw [upd_ne hne] at hd
    exact hd
  · refine hb _ d [("_told", .ref t), ("value", v)] (fun b o e => ?_) (by rw [upd_ne hne] at hd; exact hd) upd_same (by rfl)
    have nb : b ≠ a := ne_of_none e ha
    have nd : b ≠ d := fun z => by
      rw [z] at e
      rw [upd_ne hne, e] at hd
      cases hd
    rw [upd_ne nd, del_ne nb]
    exact hs b o nb (by rw [upd_ne nb]; exact e)
theorem mkT {C : Addr} {E : XK} (H0 : Hp) (v : V) (hb : Bad "problem" C H0 v E) : 1 ≤ 1000 ∧ ∀ a, H0 a = none → spInitT C (.ref a :: ([v] ++ [])) (upd H0 a (exo a C none))
    (fun u H2 => u = .non ∧ ∃ (d : Addr) (fs : List (Str × V)), H2 a = some (exo a C (some d)) ∧ H2 d = some (exd d fs) ∧ H0 d = none ∧ E (.ref C) (some d) (upd (del H2 a) d (.xd fs))) (fun _ _ _ => False) := by
  refine ⟨by decide, fun a ha => ⟨a, v, rfl, upd_same, fun H2 d t hd hne he1 he2 hs => ⟨rfl, d, _, he1, he2, ?_, ?_⟩⟩⟩
  · rw [upd_ne hne] at hd
    exact hd
  · refine hb _ d [("_told", .ref t), ("problem", v)] (fun b o e => ?_) (by rw [upd_ne hne] at hd; exact hd) upd_same (by rfl)
    have nb : b ≠ a := ne_of_none e ha
    have nd : b ≠ d := fun z => by
      rw [z] at e
      rw [upd_ne hne, e] at hd
      cases hd
    rw [upd_ne nd, del_ne nb]
    exact hs b o nb (by rw [upd_ne nb]; exact e)
end
end K12
namespace K12
open PySem L2
section
variable {P : Program} {w : World} {K : PySem.W.Frag} {mg : Str → Option Value} {base : Heap}
/-! ### TooMany -/
abbrev sInitM : Stmt := inClass (top 7) 0
structure IM (K : PySem.W.Frag) (mg : Str → Option Value) (C fI : Addr) (fd : FuncData) : Prop where
  o : AEx.AeC K C
  iC : PySem.W.findIn K (.ref C) "__init__" = some (some (.ref fI))
  tI : PySem.W.typeIn K (.ref fI) = some (.type "function")
  t1 : PySem.W.takerIn K C "kind" = some none
  t2 : PySem.W.takerIn K C "limit" = some none
  t3 : PySem.W.takerIn K C "_told" = some none
  m : mg "TooMany" = some (.ref C)
  F : Fun K "__init__" "TooMany.__init__" sInitM fI fd
  b : Binds K fd ["self", "kind", "limit"] []
def spInitM (C : Addr) : Sp := fun vs H Q _ => ∃ (a : Addr) (u v : V), vs = [.ref a, u, v] ∧ H a = some (exo a C none) ∧
  ∀ (H' : Hp) (d t : Addr), H d = none → d ≠ a → H' a = some (exo a C (some d)) → H' d = some (exd d [("_told", .ref t), ("limit", v), ("kind", u)]) → (∀ b o, b ≠ a → H b = some o → H' b = some o) → Q .non H'
theorem scInM : FnScope ["self", "kind", "limit"] ["self", "kind", "limit"] (defScope sInitM) := ⟨rfl, rfl, rfl, by decide +kernel, rfl, by decide +kernel, by decide +kernel⟩
theorem ok_initM {C f : Addr} {fd : FuncData} (T : IM K mg C f fd) : FnOk P w K mg base CX0 1 f fd ["self", "kind", "limit"] (spInitM C) := by
  refine T.F.ok scInM (fun vs H Q E h => ?_) (fun cdv A outer_ s H vs Q E hr h => ?_)
  · obtain ⟨a, u, v, rfl, _⟩ := h
    rfl
  · obtain ⟨a, u, v, rfl, he, k⟩ := h
    refine ⟨_, pss_cons (AEx.ps_put (pv 0) (pv 1)) (pss_cons (AEx.ps_put (pv 0) (pv 2)) (pss_one (AEx.ps_put (pv 0) (pe_tup (pa_cons (pv 1) (pa_cons (pv 2) pa_nil)))))), ?_⟩
    refine ⟨_, rfl, _, rfl, a, C, rfl, T.o, T.t1, .inl ⟨he, fun d hd hne => ?_⟩⟩
    have ea : (upd (upd H d (exd d [("kind", u)])) a (exo a C (some d))) a = some (exo a C (some d)) := upd_same
    have ed : (upd (upd H d (exd d [("kind", u)])) a (exo a C (some d))) d = some (exd d [("kind", u)]) := by rw [upd_ne hne, upd_same]
    have kp : ∀ b o, b ≠ a → H b = some o → (upd (upd H d (exd d [("kind", u)])) a (exo a C (some d))) b = some o := fun b o nb e => by rw [upd_ne nb, upd_ne (ne_of_none e hd)]; exact e
    revert ea ed kp
    generalize upd (upd H d (exd d [("kind", u)])) a (exo a C (some d)) = H1
    intro ea ed kp
    refine ⟨_, rfl, _, rfl, a, C, rfl, T.o, T.t2, .inr ⟨d, [("kind", u)], (show 1 ≤ 900 by decide), ea, ed, ?_⟩⟩
    refine ⟨_, rfl, _, rfl, (by show 2 ≤ sizeLine; decide), fun t ht => ?_⟩
    have na : t ≠ a := fun e => by rw [e, upd_ne (Ne.symm hne), ea] at ht; cases ht
    have nt : t ≠ d := fun e => by rw [e, upd_same] at ht; cases ht
    refine ⟨_, rfl, a, C, rfl, T.o, T.t3, .inr ⟨d, [("limit", v), ("kind", u)], (show 2 ≤ 900 by decide), ?_, ?_, ?_⟩⟩
    · rw [upd_ne (Ne.symm na), upd_ne (Ne.symm hne)]
      exact ea
    · rw [upd_ne (Ne.symm nt), upd_same]
    · refine k _ d t hd hne ?_ upd_same fun b o nb e => ?_
      · rw [upd_ne (Ne.symm hne), upd_ne (Ne.symm na), upd_ne (Ne.symm hne)]
        exact ea
      · have n1 : b ≠ d := ne_of_none e hd
        have n2 : b ≠ t := fun z => by
          rw [upd_ne nt] at ht
          rw [z] at e
          rw [kp _ _ (z ▸ nb) e] at ht
          cases ht
        rw [upd_ne n1, upd_ne n2, upd_ne n1]
        exact kp b o nb e
/-- the error leaves, with these two in its fields -/
def BadM (C : Addr) (H : Hp) (u v : V) (E : XK) : Prop := ∀ (H' : Hp) (d : Addr) (fs : List (Str × V)), Same H H' → H d = none → H' d = some (.xd fs) → List.lookup ("kind" : Str) fs = some u → List.lookup ("limit" : Str) fs = some v → E (.ref C) (some d) H'
theorem badM_of {C : Addr} {H H0 : Hp} {u v : V} {E : XK} (s : Same H H0) (b : BadM C H u v E) : BadM C H0 u v E := fun H' d fs s' hd e1 e2 e3 => b H' d fs (s.trans s') (s.free hd) e1 e2 e3
theorem mkM {C : Addr} {E : XK} (H0 : Hp) (u v : V) (hb : BadM C H0 u v E) : 2 ≤ 1000 ∧ ∀ a, H0 a = none → spInitM C (.ref a :: ([u, v] ++ [])) (upd H0 a (exo a C none))
    (fun r H2 => r = .non ∧ ∃ (d : Addr) (fs : List (Str × V)), H2 a = some (exo a C (some d)) ∧ H2 d = some (exd d fs) ∧ H0 d = none ∧ E (.ref C) (some d) (upd (del H2 a) d (.xd fs))) (fun _ _ _ => False) := by
  refine ⟨by decide, fun a ha => ⟨a, u, v, rfl, upd_same, fun H2 d t hd hne he1 he2 hs => ⟨rfl, d, _, he1, he2, ?_, ?_⟩⟩⟩
  · rw [upd_ne hne] at hd
    exact hd
  · refine hb _ d [("_told", .ref t), ("limit", v), ("kind", u)] (fun b o e => ?_) (by rw [upd_ne hne] at hd; exact hd) upd_same (by rfl) (by rfl)
    have nb : b ≠ a := ne_of_none e ha
    have nd : b ≠ d := fun z => by
      rw [z] at e
      rw [upd_ne hne, e] at hd
      cases hd
    rw [upd_ne nd, del_ne nb]
    exact hs b o nb (by rw [upd_ne nb]; exact e)
end
end K12
namespace K12
open PySem L2 SR
/-! ### Label -/
abbrev sInit : Stmt := inClass (top 15) 1
theorem scInit : FnScope ["self", "marks", "mark", "different"] ((["self"] : List Str) ++ [("marks" : Str)]) (defScope sInit) := ⟨rfl, rfl, rfl, by decide +kernel, rfl, by decide +kernel, by decide +kernel⟩
def plus : Str := "+"
def ltext (ys : List Str) : Str := if (Txt.join plus ys).length = 0 then "-" else Txt.join plus ys
def isNm (x : Str) : Bool := nmC x.cps.toList
theorem putF2 (u v : V) : putF "_text" v (putF "_marks" u []) = ([(("_marks" : Str), u), (("_text" : Str), v)] : List (Str × V)) := if_neg (by decide +kernel)
theorem join_is (sep : Str) (ts : List Str) : Txt.join sep ts = Str.join sep ts := StrLaws.glued_eq_join _ _
theorem isNm_len {x : Str} (h : isNm x = true) : x.cps.toList.length ≤ 8 := of_decide_eq_true (Bool.and_eq_true_iff.mp h).1
theorem isNm_str {x : Str} (h : isNm x = true) : x.length ≤ 8 := by
  rw [txt_of x, txt_len]
  exact isNm_len h
theorem lens_of {ys : List Str} (h : ∀ y ∈ ys, isNm y = true) : (ys.map (·.length)).sum ≤ 8 * ys.length := by
  induction ys with
  | nil => exact Nat.le_refl _
  | cons y r ih =>
    have a := isNm_str (h y List.mem_cons_self)
    have b := ih fun z hz => h z (List.mem_cons_of_mem _ hz)
    rw [List.map_cons, List.sum_cons, List.length_cons]
    omega
theorem plus_len : plus.length = 1 := by decide +kernel
theorem jlen {ys : List Str} (h : ∀ y ∈ ys, isNm y = true) : (Txt.join plus ys).length ≤ 9 * ys.length := by
  rw [join_is]
  have a := StrLaws.join_length_le plus ys
  rw [plus_len] at a
  have b := lens_of h
  omega
abbrev bad (v : V) : Bool := !nameV v
theorem find_first {xs : List V} {i : Nat} {v : V} (h : xs[i]? = some v) (good : (xs.take i).all nameV = true) (b : nameV v = false) : xs.find? bad = some v := by
  have hi : i < xs.length := (List.getElem?_eq_some_iff.mp h).1
  have hv : xs[i] = v := (List.getElem?_eq_some_iff.mp h).2
  have e : xs = xs.take i ++ v :: xs.drop (i + 1) := by
    rw [← hv, ← List.drop_eq_getElem_cons hi, List.take_append_drop]
  rw [e, List.find?_append, List.find?_eq_none.mpr fun u hu => by simp [bad, List.all_eq_true.mp good u hu]]
  simp [bad, b]
theorem all_names : ∀ {xs : List V}, xs.all nameV = true → ∃ ts : List Str, xs = ts.map V.str ∧ ts.all isNm = true
  | [], _ => ⟨[], rfl, rfl⟩
  | v :: r, h => by
    rw [List.all_cons, Bool.and_eq_true] at h
    obtain ⟨ts, e, q⟩ := all_names h.2
    cases v with
    | str x => exact ⟨x :: ts, by rw [e]; rfl, by rw [List.all_cons, q, Bool.and_true]; exact h.1⟩
    | _ => cases h.1
/-- the class Label at C; InvalidName at CN, TooMany at CM -/
structure LabC (K : PySem.W.Frag) (mg : Str → Option Value) (C f CN fN CM fM : Addr) (fd dN dM : FuncData) : Prop where
  mkr : Mk K C f
  cl : Cls K C
  m : mg "Label" = some (.ref C)
  rd : ∃ mc tk, ClX.CRead K C mc ∧ ClX.CVal K C mc "MOST" (.int 4) (.int 4 tk)
  n1 : NoAttr K C "_marks"
  n2 : NoAttr K C "_text"
  F : Fun K "__init__" "Label.__init__" sInit f fd
  N : IK K mg CN fN dN
  M : IM K mg CM fM dM
section
variable {P : Program} {w : World} {K : PySem.W.Frag} {mg : Str → Option Value} {base : Heap}
def spInit (K : PySem.W.Frag) (C CN CM : Addr) : Sp := fun vs H Q E => ∃ (x dx p : Addr) (xs : List V), vs = [.ref x, .ref p] ∧ H x = some (.ins C dx []) ∧ H p = some (.tup xs) ∧ xs.length < 60 ∧ (∀ v ∈ xs, Cl K H v) ∧
  (∀ v, xs.find? bad = some v → Bad "value" CN H v E) ∧ ∀ ts ys, xs = ts.map V.str → ts.all isNm = true → Srt ts ys → (4 < ys.length → BadM CM H (.str "marks") (.int 4) E) ∧
  (ys.length ≤ 4 → ∀ H' t, (∀ b o, b ≠ x → H b = some o → H' b = some o) → H' x = some (.ins C dx [("_marks", .ref t), ("_text", .str (ltext ys))]) → H' t = some (.tup (ys.map V.str)) → Q .non H')
theorem Cl.same {H H' : Hp} {v : V} (h : Cl K H v) (s : ∀ a t, v = .ref a → TyX K H (.ref a) t → TyX K H' (.ref a) t) : Cl K H' v := by
  cases h with
  | non => exact .non
  | bl b => exact .bl b
  | int i => exact .int i
  | str l q => exact .str l q
  | oth t a b c => exact .oth (s _ _ rfl t) a b c
theorem tyx_same {H H' : Hp} {v : V} {t : Value} (h : TyX K H v t) (s : Same H H') : TyX K H' v t := by
  cases h with
  | base h =>
    cases h with
    | lst e => exact .base (.lst (s _ _ e))
    | tup e => exact .base (.tup (s _ _ e))
    | dK e => exact .base (.dK (s _ _ e))
    | dT e => exact .base (.dT (s _ _ e))
    | frz e => exact .base (.frz (s _ _ e))
    | ins e c a n tk m => exact .base (.ins (s _ _ e) c a n tk m)
    | non => exact .base .non
    | bl b => exact .base (.bl b)
    | int i => exact .base (.int i)
    | str x => exact .base (.str x)
    | flt x => exact .base (.flt x)
  | byt b => exact .byt b
  | set e => exact .set (s _ _ e)
  | kList e c => exact .kList e c
  | kTuple e c => exact .kTuple e c
  | kDict e c => exact .kDict e c
  | fTuple e => exact .fTuple (s _ _ e)
  | fDict e => exact .fDict (s _ _ e)
theorem ok_init {C f CN fN CM fM fI : Addr} {fd dN dM dI : FuncData} {tk t2 : Tok} (L : LabC K mg C f CN fN CM fM fd dN dM) (Z : Zn mg) (zT : mg "tuple" = none) (zS : mg "set" = none) (zO : mg "sorted" = none) (mM : mg "MOST_LETTERS" = some (.int 8 tk)) (mL : mg "LETTERS" = some (.str "abcdefghijklmnopqrstuvwxyz" t2))
    (AN : At K mg "is_name" sIsName ["value"] fI dI) : FnR P w K mg base (L2.CX P w) 3 f (fun vs H Q E => ∃ ws rest, vs = ws ++ rest ∧ ws.length = ([("self" : Str)]).length ∧ rest.length ≤ sizeLine ∧ ∀ p, H p = Option.none → spInit K C CN CM (ws ++ [V.ref p]) (upd H p (.tup rest)) Q E) := by
  have GN : FnOk P w K mg base CX0 1 fI dI ["value"] (spName K) := ok_name AN.F Z mM mL
  have GK : FnOk P w K mg base CX0 1 fN dN ["self", "value"] (spInitK CN) := ok_initK L.N
  have GM : FnOk P w K mg base CX0 1 fM dM ["self", "kind", "limit"] (spInitM CM) := ok_initM L.M
  obtain ⟨oc, od, kV, doc, pm, an, cdv, ct, osl, rfl, lk, hcd⟩ := L.F.ex
  obtain ⟨mc, tc, rd, cv⟩ := L.rd
  refine StX.fn_star lk hcd scInit StX.cxUp (StX.bind_star1 (B := fun us => bindArgs (PySem.W.fnOf "__init__" "Label.__init__" (defArgs sInit) (defBody sInit) (defScope sInit) .none kV doc pm an cdv ct) ⟨us, []⟩) (fun _ => rfl) (fun _ _ _ => rfl)) fun A outer_ s H vs Q E hr h => ?_
  obtain ⟨x, dx, p, xs, rfl, hx, hp, few, cls, kb, kt⟩ := h
  refine ⟨_, pss_cons (ps_for (passes_of rfl) rfl (pi_tup (pv 1)) (pg_name (i := 2) scInit.nd rfl (Or.inl rfl)) (pss_one (ps_if (pt_not (pt_val (pe_call GN (hr.mono (by decide)) (by rfl) AN.m AN.F.kp AN.b .nil pass0 (pa_cons (pv 2) pa_nil))))
      (pss_one (ps_raise rfl (takes_of rfl rfl rfl rfl) (pmk_oex L.N.o L.N.iC L.N.tI GK hr L.N.b .nil pass0 (by rfl) L.N.m (by exact (pa_cons (pv 2) pa_nil))))) pss_nil)))
    (pss_cons (ps_set (i := 3) scInit.nd rfl (Or.inl rfl) (pe_callB (LB.cr_sortBag rfl) (by rfl) zO (by decide +kernel) (pa_cons (pe_callTy (LB.cr_bag rfl) (by rfl) zS (by decide +kernel) (pa_cons (pv 1) pa_nil)) pa_nil)))
    (pss_cons (ps_if (pt_cmpR op_gt (pe_callB call_len_seq (by rfl) Z.zLen PySem.boot_len (pa_cons (pv 3) pa_nil)) (ClX.pe_cval (pe_glob (v := .ref C) rfl L.m rfl)) (nomark _))
      (pss_one (ps_raise rfl (takes_of rfl rfl rfl rfl) (AEx.pmk_ae L.M.o L.M.iC L.M.tI GM hr L.M.b pass0 (by rfl) L.M.m (by exact (pa_cons pe_str (pa_cons (ClX.pe_cval (pe_glob (v := .ref C) rfl L.m rfl)) pa_nil)))))) pss_nil)
    (pss_cons (ps_fld (pv 0) (pe_callTy call_tuple_of (by rfl) zT (by decide +kernel) (pa_cons (pv 3) pa_nil)) rfl)
    (pss_one (ps_fld (pv 0) (pe_orT (pe_join pe_str (pv 3)) (pe_one pe_str)) rfl))))), ?_⟩
  have hsl : sizeLine = 16777216 := sizeLine_eq
  refine ⟨_, rfl, p, rfl, ⟨_, SqT.of hp⟩, ?_⟩
  refine for_tup (xs := xs) (fun i σ H' => Same H H' ∧ (xs.take i).all nameV = true ∧ ∃ m, σ = [some (.ref x), some (.ref p), m, none]) ⟨Same.refl H, rfl, none, rfl⟩ (fun i σ H' _ q => SqT.of (q.1 _ _ hp)) ?_ ?_
  · rintro i v σ H' hi ⟨sm, good, m, rfl⟩
    have cl : Cl K H' v := Cl.same (cls v (List.mem_of_getElem? hi)) fun a t _ ty => tyx_same ty sm
    refine ⟨_, rfl, v, rfl, cl, fun H2 s2 => ⟨_, rfl, ?_⟩⟩
    have sm2 : Same H H2 := fun b o q => s2 _ _ (sm _ _ q)
    by_cases nm : nameV v = true
    · rw [nm]
      exact ⟨sm2, by rw [take_snoc hi, List.all_append, good, List.all_cons, nm]; rfl, some v, rfl⟩
    · have nm' : nameV v = false := by simpa using nm
      rw [nm']
      exact ⟨_, rfl, mkK H2 v (bad_of sm2 (kb v (find_first hi good nm')))⟩
  · rintro σ H1 ⟨sm, good, m, rfl⟩
    rw [List.take_of_length_le (Nat.le_refl _)] at good
    obtain ⟨ts, rfl, nms⟩ := all_names good
    have nmAt : ∀ y ∈ ts, isNm y = true := fun y hy => List.all_eq_true.mp nms y hy
    rw [List.length_map] at few
    refine ⟨_, rfl, p, ts, rfl, .inl (SqT.of (sm _ _ hp)), by omega, fun b ks hb mem nd le => ?_⟩
    refine ⟨b, ks, rfl, upd_same, by omega, fun ys d pm srt hd => ?_⟩
    have srtd : Srt ts ys := ⟨pm.nodup_iff.mpr nd, srt, fun y => pm.mem_iff.trans (mem y)⟩
    obtain ⟨k5, k4⟩ := kt ts ys rfl nms srtd
    obtain ⟨H2, eH⟩ : ∃ H2, H2 = upd (upd H1 b (LB.BagO w b ks)) d (.lst (ys.map V.str)) := ⟨_, rfl⟩
    have sm2 : Same H H2 := fun c o q => by
      rw [eH, upd_ne (ne_of_none (by rw [upd_ne (ne_of_none (sm _ _ q) hb)]; exact sm _ _ q) hd), upd_ne (ne_of_none (sm _ _ q) hb)]
      exact sm _ _ q
    have hL : H2 d = some (.lst (ys.map V.str)) := by rw [eH, upd_same]
    suffices z : ∀ F : Hp → Prop, F H2 → F (upd (upd H1 b (LB.BagO w b ks)) d (.lst (ys.map V.str))) by
      refine z _ ?_
      clear z
      clear eH
      dsimp only
      refine ⟨_, rfl, d, _, rfl, .inl (SqL.of hL), C, mc, _, _, rfl, rd, cv, _, _, rfl, rfl, _, rfl, ?_⟩
      rw [List.length_map]
      show if decide ((4 : Int) < (ys.length : Int)) = true then _ else _
      refine ite2 (fun h5 => ?_) (fun h5 => ?_)
      · have l5 : 4 < ys.length := by have := of_decide_eq_true h5; omega
        refine ⟨C, mc, _, _, rfl, rd, cv, ?_⟩
        exact mkM H2 _ _ (badM_of sm2 (k5 l5))
      have l4 : ys.length ≤ 4 := by
        have : ¬ ((4 : Int) < (ys.length : Int)) := fun z => h5 (decide_eq_true z)
        omega
      refine ⟨_, rfl, d, _, rfl, .inl ⟨SqL.of hL, fun t ht => ?_⟩⟩
      have hx2 := sm2 _ _ hx
      have nx : x ≠ t := ne_of_none hx2 ht
      have nd2 : d ≠ t := ne_of_none hL ht
      have xd : d ≠ x := ne_of hL hx2 (by intro z; cases z)
      refine ⟨_, rfl, x, C, dx, [], rfl, by rw [upd_ne nx]; exact hx2, L.cl, L.n1, by decide, ?_⟩
      have hL3 : (upd (upd H2 t (.tup (ys.map V.str))) x (.ins C dx (putF "_marks" (.ref t) []))) d = some (.lst (ys.map V.str)) := by
        rw [upd_ne xd, upd_ne nd2]
        exact hL
      have nmY : ∀ y ∈ ys, isNm y = true := fun y hy => nmAt y ((srtd.2.2 y).mp hy)
      have lens : (ys.map (·.length)).sum + ys.length * plus.length ≤ 16777216 := by
        have a := lens_of nmY
        rw [plus_len]
        omega
      have jl : (Txt.join plus ys).length ≤ 16777216 := by
        have := jlen nmY
        omega
      refine ⟨⟨_, rfl⟩, _, rfl, plus, d, ys, rfl, rfl, .inl (SqL.of hL3), lens, ?_⟩
      refine ⟨_, ⟨by rw [hsl]; exact jl, rfl⟩, ?_⟩
      have fin : ∀ z : Str, z = ltext ys → Q .non (upd (upd (upd H2 t (.tup (ys.map V.str))) x (.ins C dx (putF "_marks" (.ref t) []))) x (.ins C dx (putF "_text" (.str z) (putF "_marks" (.ref t) [])))) := fun z hz => by
        subst hz
        refine k4 l4 _ t (fun c o nc q => ?_) ?_ ?_
        · rw [upd_ne nc, upd_ne nc, upd_ne (ne_of_none (sm2 _ _ q) ht)]
          exact sm2 _ _ q
        · rw [upd_same, putF2]
        · rw [upd_ne (Ne.symm nx), upd_ne (Ne.symm nx), upd_same]
      refine ite2 (fun h => ?_) (fun h => ?_)
      · refine ⟨_, rfl, x, C, dx, _, rfl, upd_same, L.cl, L.n2, (by show 1 < 1000; decide), fin _ (if_neg fun z => ?_).symm⟩
        rw [z] at h
        cases h
      · refine ⟨_, rfl, x, C, dx, _, rfl, upd_same, L.cl, L.n2, (by show 1 < 1000; decide), fin _ (if_pos ?_).symm⟩
        have h2 : ((Txt.join plus ys).length : Int) = 0 := by simpa using h
        omega
    intro F h; rw [← eH]; exact h
end
end K12
namespace K12
open PySem L2 SR
/-! ### marks_of_text -/
def piecesC (l : Tx) : List Tx := SP.splA 43 [] l
/-- the marks of the label with this text -/
def rdM (l : Tx) : Option (List Str) :=
  if l = [45] then some [] else
  if 4 < (piecesC l).length then none else
  if (piecesC l).all nmC = true then (if ((piecesC l).map txt).Nodup ∧ PyProof.Rows.sortedS ((piecesC l).map txt) = true then some ((piecesC l).map txt) else none) else none
theorem dash_txt : Str.ofString "-" = txt [45] := by decide +kernel
theorem split_plus (l : Tx) : Txt.split (txt l) (Str.ofString "+") = (piecesC l).map txt := by
  have e : (Str.ofString "+" : Str) = ⟨#[43]⟩ := by decide +kernel
  rw [e]
  exact SP.split_is l (c := 43) (by decide)
theorem pieces_len (l : Tx) : (piecesC l).length ≤ l.length + 1 ∧ ∀ p ∈ piecesC l, p.length ≤ l.length := by
  refine ⟨(SP.splA_len 43 l []).1, fun p hp => ?_⟩
  have := (SP.splA_mem 43 l [] p hp).2
  rw [List.length_nil] at this
  omega
theorem low_lt {c : Nat} (h : low c = true) : c < 128 := by
  unfold low at h
  have := of_decide_eq_true (Bool.and_eq_true_iff.mp h).2
  omega
theorem nm_asc {l : Tx} (h : nmC l = true) : asc l := fun c hc => by
  unfold nmC at h
  have h2 := (Bool.and_eq_true_iff.mp (Bool.and_eq_true_iff.mp h).2).2
  exact low_lt (List.all_eq_true.mp h2 c hc)
theorem srt_iff {ms ys : List Str} (s : Srt ms ys) : (ms.Nodup ∧ PyProof.Rows.sortedS ms = true) ↔ ms = ys :=
  ⟨fun h => SR.unique ⟨h.1, h.2, fun _ => Iff.rfl⟩ s, fun e => by rw [e]; exact ⟨s.1, s.2.1⟩⟩
theorem nms_is (ts : List Tx) : (ts.map txt).all isNm = ts.all nmC := by
  rw [List.all_map]
  rfl
theorem map_tv (ts : List Tx) : (ts.map txt).map V.str = ts.map tv := by
  rw [List.map_map]
  rfl
theorem tx_of (xs : List Str) : ∃ ts : List Tx, xs = ts.map txt := ⟨xs.map fun x => x.cps.toList, by
  rw [List.map_map]
  have : (txt ∘ fun x : Str => x.cps.toList) = id := by funext x; exact (txt_of x).symm
  rw [this, List.map_id]⟩
section
variable {P : Program} {w : World} {K : PySem.W.Frag} {mg : Str → Option Value} {base : Heap}
def spMk : Sp := fun vs H Q _ => ∃ l : Tx, vs = [tv l] ∧ l.length ≤ 4000 ∧ (rdM l = none → ∀ H', Same H H' → Q .non H') ∧ (∀ ms, rdM l = some ms → ∀ H' p, Same H H' → H p = none → H' p = some (.lst (ms.map V.str)) → Q (.ref p) H')
theorem scMk : FnScope ["text", "marks", "mark"] ["text"] (defScope sMarksOf) := ⟨rfl, rfl, rfl, by decide +kernel, rfl, by decide +kernel, by decide +kernel⟩
theorem ok_mk {C f CN fN CM fM fI f1 : Addr} {fd dN dM dI d1 : FuncData} {tk t2 : Tok} (F : Fun K "marks_of_text" "marks_of_text" sMarksOf f1 d1) (L : LabC K mg C f CN fN CM fM fd dN dM) (Z : Zn mg) (zS : mg "set" = none) (zO : mg "sorted" = none) (mM : mg "MOST_LETTERS" = some (.int 8 tk)) (mL : mg "LETTERS" = some (.str "abcdefghijklmnopqrstuvwxyz" t2))
    (AN : At K mg "is_name" sIsName ["value"] fI dI) : FnOk P w K mg base CX0 2 f1 d1 ["text"] spMk := by
  have GN : FnOk P w K mg base CX0 1 fI dI ["value"] (spName K) := ok_name AN.F Z mM mL
  obtain ⟨mc, tc, rd, cv⟩ := L.rd
  refine F.ok scMk (fun vs H Q E h => ?_) (fun cdv A outer_ s H vs Q E hr h => ?_)
  · obtain ⟨l, rfl, _⟩ := h
    rfl
  · obtain ⟨l, rfl, hl, kn, ks⟩ := h
    have un : (A.deeper (PyProof.Rows.envOfC "marks_of_text" (defScope sMarksOf) s.heap.objs.size f1 cdv)).units + 64 < cLine := by have := hr.units; omega
    refine ⟨_, pss_cons (ps_if (pt_cmpR op_eq (pv 0) pe_str (nomark _)) (pss_one (ps_ret (pe_lst pa_nil))) pss_nil)
      (pss_cons (ps_set (i := 1) scMk.nd rfl (Or.inl rfl) (pe_split (pv 0) pe_str))
      (pss_cons (ps_if (PW.pt (pw_or (pt_cmpR op_gt (pe_callB call_len_seq (by rfl) Z.zLen PySem.boot_len (pa_cons (pv 1) pa_nil)) (ClX.pe_cval (pe_glob (v := .ref C) rfl L.m rfl)) (nomark _))
          (pw_or1 (pt_not (pt_val (pe_callB (cr_all rfl) (by rfl) Z.zAll (by decide +kernel) (pa_cons (pe_lc (own := [("mark", 2)]) (g := gName 2) (tt := tYes) rfl scMk.nd (pi_list (pv 1))
            (blkOk_by (N := ["text", "marks", "mark"]) (sc := defScope sMarksOf) (by decide +kernel)) (fun _ _ _ _ _ => pg_name (i := 2) scMk.nd rfl (Or.inl rfl)) (fun _ _ _ _ _ => pts_nil)
            (fun _ _ _ _ _ => pe_call GN hr (by rfl) AN.m AN.F.kp AN.b .nil pass0 (pa_cons (pv 2) pa_nil))) pa_nil)))))))
        (pss_one (ps_ret pe_non)) pss_nil)
      (pss_one (ps_ret (pe_ifExp (pt_cmpR (op_eqD un) (pv 1) (pe_callB (LB.cr_sortBag rfl) (by rfl) zO (by decide +kernel) (pa_cons (pe_callTy (LB.cr_bag rfl) (by rfl) zS (by decide +kernel) (pa_cons (pv 1) pa_nil)) pa_nil)) (nomark _)) (pv 1) pe_non))))), ?_⟩
    have hsl : sizeLine = 16777216 := sizeLine_eq
    have hline : (txt l).length + 2 ≤ sizeLine := by rw [txt_len]; omega
    refine ⟨_, rfl, rfl, _, rfl, ?_⟩
    rw [dash_txt, tv_eq]
    refine ite2 (fun a => ?_) (fun a => ?_)
    · have e : rdM l = some [] := by unfold rdM; rw [if_pos (of_decide_eq_true a)]
      refine ⟨(by show 0 ≤ sizeLine; decide), fun p hp => ?_⟩
      exact ks [] e _ p (same_upd hp) hp upd_same
    have nd : l ≠ [45] := fun z => a (decide_eq_true z)
    refine ⟨_, rfl, ⟨_, rfl⟩, txt l, Str.ofString "+", rfl, rfl, (by decide +kernel), hline, fun p hp => ?_⟩
    rw [split_plus, map_tv]
    obtain ⟨pl, pe⟩ := pieces_len l
    have sm1 : Same H (upd H p (.lst ((piecesC l).map tv))) := same_upd hp
    have hL1 : (upd H p (.lst ((piecesC l).map tv))) p = some (.lst ((piecesC l).map tv)) := upd_same
    revert sm1 hL1
    generalize upd H p (.lst ((piecesC l).map tv)) = H1
    intro sm1 hL1
    refine ⟨_, rfl, p, _, rfl, .inl (SqL.of hL1), C, mc, _, _, rfl, rd, cv, _, _, rfl, rfl, _, rfl, ?_⟩
    rw [List.length_map]
    show if decide ((4 : Int) < ((piecesC l).length : Int)) = true then _ else _
    refine ite2 (fun b => ?_) (fun b => ?_)
    · have l5 : 4 < (piecesC l).length := by have := of_decide_eq_true b; omega
      exact kn (by unfold rdM; rw [if_neg nd, if_pos l5]) _ sm1
    have l4 : ¬ 4 < (piecesC l).length := fun z => b (decide_eq_true (by omega))
    refine ⟨_, rfl, p, rfl, ⟨_, SqL.of hL1⟩, fun D hD => ?_⟩
    refine lc_it walk_list (fun i H' => Same H1 H' ∧ H' D = some (.lst ((((piecesC l).map nmC).take i).map V.bl))) ⟨same_upd hD, upd_same⟩ (fun i H' _ q => SqL.of (q.1 _ _ hL1)) ?_ ?_
    · rintro i x H2 H3 hi ⟨sm, hL⟩ ⟨rfl, hv⟩
      rw [List.getElem?_map] at hv
      obtain ⟨y, hy, rfl⟩ := Option.map_eq_some_iff.mp hv
      have hyl : y.length ≤ 4000 := Nat.le_trans (pe y (List.mem_of_getElem? hy)) hl
      refine ⟨rfl, _, rfl, tv y, rfl, .str y hyl, fun H4 s4 => ⟨_, s4 _ _ hL, ?_, fun b o q => ?_, ?_⟩⟩
      · rw [List.length_map, List.length_take, List.length_map]
        omega
      · rw [upd_ne (ne_of_none q hD)]
        exact s4 _ _ (sm b o q)
      · rw [upd_same, take_snoc (x := nmC y) (by rw [List.getElem?_map, hy]; rfl), List.map_append]
        rfl
    · rintro H2 ⟨sm, hL⟩
      rw [List.length_map, List.take_of_length_le (by rw [List.length_map]; exact Nat.le_refl _)] at hL
      refine ⟨D, _, rfl, SqL.of hL, _, rfl, ?_⟩
      have ea : ((piecesC l).map nmC).all id = (piecesC l).all nmC := by rw [List.all_map]; rfl
      rw [ea]
      have sm2 : Same H H2 := sm1.trans sm
      by_cases al : (piecesC l).all nmC = true
      · rw [al]
        have hL2 := sm _ _ hL1
        have asc_all : ∀ t ∈ piecesC l, asc t := fun t ht => nm_asc (List.all_eq_true.mp al t ht)
        refine ⟨_, rfl, _, rfl, p, (piecesC l).map txt, rfl, .inr (by rw [map_tv]; exact SqL.of hL2), by rw [List.length_map]; omega, fun c ks2 hc mem nd2 le => ?_⟩
        rw [List.length_map] at le
        refine ⟨c, ks2, rfl, upd_same, by omega, fun ys d pm srt hd => ?_⟩
        have srtd : Srt ((piecesC l).map txt) ys := ⟨pm.nodup_iff.mpr nd2, srt, fun y => pm.mem_iff.trans (mem y)⟩
        obtain ⟨us, rfl⟩ := tx_of ys
        have asc_us : ∀ t ∈ us, asc t := fun t ht => by
          have m := (srtd.2.2 (txt t)).mp (List.mem_map.mpr ⟨t, ht, rfl⟩)
          obtain ⟨z, hz, e⟩ := List.mem_map.mp m
          rw [← txt_inj e]
          exact asc_all z hz
        have hL3 : (upd (upd H2 c (LB.BagO w c ks2)) d (.lst ((us.map txt).map V.str))) p = some (.lst ((piecesC l).map tv)) := by
          rw [upd_ne (ne_of_none (by rw [upd_ne (ne_of_none hL2 hc)]; exact hL2) hd), upd_ne (ne_of_none hL2 hc)]
          exact hL2
        have hL4 : (upd (upd H2 c (LB.BagO w c ks2)) d (.lst ((us.map txt).map V.str))) d = some (.lst (us.map tv)) := by rw [upd_same, map_tv]
        have sm3 : Same H (upd (upd H2 c (LB.BagO w c ks2)) d (.lst ((us.map txt).map V.str))) := fun e o q => by
          have q2 := sm2 _ _ q
          rw [upd_ne (ne_of_none (by rw [upd_ne (ne_of_none q2 hc)]; exact q2) hd), upd_ne (ne_of_none q2 hc)]
          exact q2
        refine ⟨_, _, .lst (SqL.of hL3) (dpS _), .lst (SqL.of hL4) (dpS _), shS _ asc_all, shS _ asc_us, ?_⟩
        rw [eqvLS]
        refine ⟨_, rfl, ?_⟩
        have eq2 : (piecesC l = us) ↔ (piecesC l).map txt = us.map txt := ⟨fun e => by rw [e], fun e => by
          have inj : ∀ a b : List Tx, a.map txt = b.map txt → a = b := fun a => by
            induction a with
            | nil => intro b e; cases b with
              | nil => rfl
              | cons _ _ => cases e
            | cons x r ih => intro b e; cases b with
              | nil => cases e
              | cons y q =>
                rw [List.map_cons, List.map_cons] at e
                rw [txt_inj (List.cons.inj e).1, ih q (List.cons.inj e).2]
          exact inj _ _ e⟩
        refine ite2 (fun z => ?_) (fun z => ?_)
        · have e := of_decide_eq_true z
          have good := (srt_iff srtd).mpr (eq2.mp e)
          have r : rdM l = some ((piecesC l).map txt) := by unfold rdM; rw [if_neg nd, if_neg l4, if_pos al, if_pos good]
          exact ⟨_, rfl, ks _ r _ p sm3 hp (hL3.trans (by rw [map_tv]))⟩
        · have no : ¬ (((piecesC l).map txt).Nodup ∧ PyProof.Rows.sortedS ((piecesC l).map txt) = true) := fun g => z (decide_eq_true (eq2.mpr ((srt_iff srtd).mp g)))
          exact kn (by unfold rdM; rw [if_neg nd, if_neg l4, if_pos al, if_neg no]) _ sm3
      · have al' : (piecesC l).all nmC = false := by simpa using al
        rw [al']
        exact kn (by unfold rdM; rw [if_neg nd, if_neg l4, if_neg al]) _ sm2
end
end K12
namespace K12
open PySem L2 SR
/-! ### what a label is, and its methods -/
abbrev sGetM : Stmt := inClass (top 15) 3
abbrev sHas : Stmt := inClass (top 15) 8
abbrev sEq : Stmt := inClass (top 15) 9
abbrev sLen : Stmt := inClass (top 15) 10
abbrev sStr : Stmt := inClass (top 15) 11
abbrev sRepr : Stmt := inClass (top 15) 12
def Lb (C : Addr) (H : Hp) (a : Addr) (ys : List Str) : Prop := ys.all isNm = true ∧ ys.length ≤ 4 ∧ Srt ys ys ∧ ∃ dx t, H a = some (.ins C dx [(("_marks" : Str), .ref t), (("_text" : Str), .str (ltext ys))]) ∧ H t = some (.tup (ys.map V.str))
theorem Lb.keep {C : Addr} {H H' : Hp} {a : Addr} {ys : List Str} (h : Lb C H a ys) (s : ∀ b o, H b = some o → (∃ xs, o = .tup xs) ∨ (∃ D dx fs, o = .ins D dx fs) → H' b = some o) : Lb C H' a ys := by
  obtain ⟨n, l, z, dx, t, h1, h2⟩ := h
  exact ⟨n, l, z, dx, t, s _ _ h1 (.inr ⟨_, _, _, rfl⟩), s _ _ h2 (.inl ⟨_, rfl⟩)⟩
theorem Lb.same {C : Addr} {H H' : Hp} {a : Addr} {ys : List Str} (h : Lb C H a ys) (s : Same H H') : Lb C H' a ys := h.keep fun b o e _ => s b o e
theorem Lb.ins {C : Addr} {H : Hp} {a : Addr} {ys : List Str} (h : Lb C H a ys) : ∃ dx fs, H a = some (.ins C dx fs) := by
  obtain ⟨_, _, _, dx, t, h1, _⟩ := h
  exact ⟨_, _, h1⟩
section
variable {X : Cx} {CX : CXT} {k : Nat} {f C : Addr} {sp : Sp} {E : XK} {x : Str} {e : Expr} {te : TE} {p p2 pos : Pos}
theorem pe_make0 (M : Mk X.K C f) (F : FnR X.prog X.w X.K X.mg X.base CX k f sp) (hr : Room (k + 1) X.A) (hg : Gl X x) (hm : X.mg x = some (.ref C)) (hx : Passes CX X E) (hd : (x == ("__debug__" : Str)) = false := by decide) :
    PE X (.Call (.Name x p) [] [] pos) (StX.tMakeR C sp E tNil) := ⟨by
  intro pins s σ H Q I h
  apply wpAny_Call_Name_kw (ld_glob I hg hm ?_ hd)
  exact PySem.W.callWith_K0 I.kIn M.kp (StX.run_makeR (us := []) (vs := []) M F hr hx I .nil h)⟩
/-- C(*y) -/
def tMakeS (K : PySem.W.Frag) (C : Addr) (sp : Sp) (E : XK) (te : TE) : TE := fun σ H Q => te σ H fun y H1 => ∃ p xs, y = V.ref p ∧ (SqT K H1 p xs ∨ SqL K H1 p xs) ∧ ∀ z dz, H1 z = Option.none → H1 dz = Option.none → dz ≠ z →
  sp (V.ref z :: xs) (upd (upd H1 dz (.own z)) z (.ins C dz [])) (fun v H2 => v = .non ∧ Q (.ref z) H2) E
theorem pe_makeS (M : Mk X.K C f) (F : FnR X.prog X.w X.K X.mg X.base CX k f sp) (hr : Room (k + 1) X.A) (hg : Gl X x) (hm : X.mg x = some (.ref C)) (hx : Passes CX X E) (he : PE X e te) (hd : (x == ("__debug__" : Str)) = false := by decide)
    (one : starEach [.Starred e p2] X.env = [(true, eval e X.env)] := by rfl) : PE X (.Call (.Name x p) [.Starred e p2] [] pos) (tMakeS X.K C sp E te) := ⟨by
  intro pins s σ H Q I h
  apply wpAny_Call_Name_kw (ld_glob I hg hm ?_ hd)
  refine PySem.W.callWith_S (h₀ := X.base) I.ok.mod.kin M.kp (thn (he.run pins s σ H _ I h) ?_) one
  rintro v s1 ⟨_, H1, I1, ry, a, xs, rfl, hxs, q⟩
  cases ry
  exact StX.star_any I1 hxs fun us s2 I2 rv => ⟨I2.kIn, StX.run_makeR M F hr hx I2 rv q⟩⟩
theorem call_reprS : CallR X (.builtin "repr") (fun xs H Q => ∃ y : Str, xs = [.str y] ∧ (reprText y).length ≤ sizeLine ∧ Q (.str (reprText y)) H) := by
  rintro pins s σ H xs us Q I r ⟨y, rfl, hz, q⟩
  obtain ⟨u, rfl, t, rfl⟩ := vals1 r
  exact PySem.P.repr_of_str ⟨.str _, H, I.tok _, ⟨_, rfl⟩, q⟩ hz
end
/-- the methods of Label, at the class at C -/
structure LabM (K : PySem.W.Frag) (mg : Str → Option Value) (C gE gL gS gR gH pM gM : Addr) (dE dL dS dR dH dM : FuncData) : Prop where
  cl : Cls K C
  n1 : NoAttr K C "_marks"
  n2 : NoAttr K C "_text"
  m : mg "Label" = some (.ref C)
  E : Fun K "__eq__" "Label.__eq__" sEq gE dE
  O : EqO.OwnE K C gE
  L : Fun K "__len__" "Label.__len__" sLen gL dL
  fL : PySem.W.findIn K (.ref C) "__len__" = some (some (.ref gL))
  iL : PySem.W.isFn K (.ref gL) = true
  S : Fun K "__str__" "Label.__str__" sStr gS dS
  fS : PySem.W.findIn K (.ref C) "__str__" = some (some (.ref gS))
  iS : PySem.W.isFn K (.ref gS) = true
  R : Fun K "__repr__" "Label.__repr__" sRepr gR dR
  fR : PySem.W.findIn K (.ref C) "__repr__" = some (some (.ref gR))
  iR : PySem.W.isFn K (.ref gR) = true
  H : Fun K "__contains__" "Label.__contains__" sHas gH dH
  fH : PySem.W.findIn K (.ref C) "__contains__" = some (some (.ref gH))
  iH : PySem.W.isFn K (.ref gH) = true
  M : Fun K "marks" "Label.marks" sGetM gM dM
  pr : PropOf K C "marks" pM gM
  bE : Binds K dE ["self", "other"] []
  bL : Binds K dL ["self"] []
  bS : Binds K dS ["self"] []
  bR : Binds K dR ["self"] []
  bH : Binds K dH ["self", "mark"] []
  bM : Binds K dM ["self"] []
  kt : ∀ T ∈ ["NoneType", "bool", "int", "str", "list", "tuple", "dict"], PySem.W.kitOne K (.type T) (.ref C) = some false
  kc : PySem.W.kitOne K (.ref C) (.ref C) = some true
  ca : PySem.W.findIn K (.ref C) "__class__" = some (some (.builtin "object.__class__"))
  cn : PySem.W.specialIn K (.builtin "object.__class__") "__get__" = some (some (.builtin "getset_descriptor.__get__"))
  ct : PySem.W.takesIn K (.builtin "object.__class__") = some true
  cm : PySem.W.mroIn K C (.type "object") = some true
theorem bt_ty {K : PySem.W.Frag} {H : Hp} {v : V} {T : String} (h : EqO.BtV K H v T) : TyX K H v (.type T) := by
  cases h with
  | non => exact .base .non
  | bl b => exact .base (.bl b)
  | int i => exact .base (.int i)
  | str x => exact .base (.str x)
  | lst e => exact .base (.lst e)
  | tup e => exact .base (.tup e)
  | dic e => exact .base (.dK e)
  | kTup e c => exact .kTuple e c
theorem canT : ∀ ds : List Str, (∀ x ∈ ds, PyData.strOk x = true) → PyData.canLayAll0 (ds.map PyData.str) = true ∧ PyData.depthAll (ds.map PyData.str) = 0
  | [], _ => ⟨rfl, rfl⟩
  | x :: r, h => by
    obtain ⟨h1, h2⟩ := canT r fun u hu => h u (List.mem_cons_of_mem _ hu)
    refine ⟨?_, ?_⟩
    · show (PyData.canLay0 (.str x) && PyData.canLayAll0 (r.map PyData.str)) = true
      rw [h1]
      simp [PyData.canLay0, h x List.mem_cons_self]
    · show max (PyData.depth (.str x)) (PyData.depthAll (r.map PyData.str)) = 0
      rw [h2]
      simp [PyData.depth]
theorem shT (ds : List Str) (h : ∀ x ∈ ds, PyData.strOk x = true) : SeqAt.shaped (.tuple (ds.map PyData.str)) = true := by
  obtain ⟨h1, h2⟩ := canT ds h
  unfold SeqAt.shaped
  have e1 : PyData.canLay0 (.tuple (ds.map PyData.str)) = true := by rw [PyData.canLay0]; exact h1
  have e2 : PyData.depth (.tuple (ds.map PyData.str)) = 1 := by rw [PyData.depth, h2]
  rw [e1, e2]
  rfl
theorem eqvTS : ∀ ds es : List Str, PyData.eqvAll (ds.map PyData.str) (es.map PyData.str) = decide (ds = es)
  | [], [] => by simp [PyData.eqvAll]
  | [], m :: ms => by simp [PyData.eqvAll]
  | n :: ns, [] => by simp [PyData.eqvAll]
  | n :: ns, m :: ms => by
    have ih := eqvTS ns ms
    show PyData.eqvAll (PyData.str n :: ns.map PyData.str) (PyData.str m :: ms.map PyData.str) = _
    rw [PyData.eqvAll, ih, PyData.eqv]
    by_cases h : n = m
    · subst h; simp
    · simp [h]
theorem eqvT (ds es : List Str) : PyData.eqv (.tuple (ds.map PyData.str)) (.tuple (es.map PyData.str)) = decide (ds = es) := by rw [PyData.eqv]; exact eqvTS ds es
theorem dpT {K : PySem.W.Frag} {H : Hp} : ∀ ds : List Str, DpAll K H (ds.map V.str) (ds.map PyData.str)
  | [] => .nil
  | x :: r => .cons (.str x) (dpT r)
theorem nm_ok {x : Str} (h : isNm x = true) : PyData.strOk x = true := by
  rw [txt_of x]
  exact strOk_asc (nm_asc h)
section
variable {P : Program} {w : World} {K : PySem.W.Frag} {mg : Str → Option Value} {base : Heap}
variable {C gE gL gS gR gH pM gM : Addr} {dE dL dS dR dH dM : FuncData}
/-! .marks -/
theorem ok_get (L : LabM K mg C gE gL gS gR gH pM gM dE dL dS dR dH dM) : FnOk P w K mg base CX0 1 gM dM ["self"] (getSp C "_marks") := by
  obtain ⟨oc, od, kV, doc, pm, an, cdv, ct, osl, rfl, lk, hcd⟩ := L.M.ex
  exact fn_getter (N := ["self"]) lk hcd ⟨rfl, rfl, rfl, by decide +kernel, rfl, by decide +kernel, by decide +kernel⟩ rfl rfl L.cl L.n1
/-! len -/
def spLen (C : Addr) : Sp := fun vs H Q _ => ∃ (a : Addr) (ys : List Str), vs = [.ref a] ∧ Lb C H a ys ∧ Q (.int (ys.length : Int)) H
theorem sc1 {st : Stmt} (h : FnScope ["self"] ["self"] (defScope st)) : FnScope ["self"] ["self"] (defScope st) := h
theorem ok_len (L : LabM K mg C gE gL gS gR gH pM gM dE dL dS dR dH dM) (Z : Zn mg) : FnOk P w K mg base CX0 1 gL dL ["self"] (spLen C) := by
  refine L.L.ok (N := ["self"]) ⟨rfl, rfl, rfl, by decide +kernel, rfl, by decide +kernel, by decide +kernel⟩ (fun vs H Q E h => ?_) (fun cdv A outer_ s H vs Q E hr h => ?_)
  · obtain ⟨a, ys, rfl, _⟩ := h
    rfl
  · obtain ⟨a, ys, rfl, ⟨nms, l4, sy, dx, t, ha, ht⟩, k⟩ := h
    refine ⟨_, pss_one (ps_ret (pe_callB call_len_seq (by rfl) Z.zLen PySem.boot_len (pa_cons (pe_fld (pv 0) rfl) pa_nil))), ?_⟩
    refine ⟨_, rfl, a, C, dx, _, .ref t, rfl, ha, L.cl, L.n1, rfl, t, _, rfl, .inr (SqT.of ht), ?_⟩
    rw [List.length_map]
    exact k
/-! str -/
def spStr (C : Addr) : Sp := fun vs H Q _ => ∃ (a : Addr) (ys : List Str), vs = [.ref a] ∧ Lb C H a ys ∧ Q (.str (ltext ys)) H
theorem ok_str (L : LabM K mg C gE gL gS gR gH pM gM dE dL dS dR dH dM) (Z : Zn mg) : FnOk P w K mg base CX0 1 gS dS ["self"] (spStr C) := by
  refine L.S.ok (N := ["self"]) ⟨rfl, rfl, rfl, by decide +kernel, rfl, by decide +kernel, by decide +kernel⟩ (fun vs H Q E h => ?_) (fun cdv A outer_ s H vs Q E hr h => ?_)
  · obtain ⟨a, ys, rfl, _⟩ := h
    rfl
  · obtain ⟨a, ys, rfl, ⟨nms, l4, sy, dx, t, ha, ht⟩, k⟩ := h
    refine ⟨_, pss_one (ps_ret (pe_callTy SkE.call_str_str (by rfl) Z.zStr (by decide +kernel) (pa_cons (pe_fld (pv 0) rfl) pa_nil))), ?_⟩
    exact ⟨_, rfl, a, C, dx, _, .str (ltext ys), rfl, ha, L.cl, L.n2, rfl, _, rfl, k⟩
/-! in -/
def hasV (v : V) (ys : List Str) : Bool := match v with
  | .str x => decide (x ∈ ys)
  | _ => false
theorem inV_str (x : Str) : ∀ ys : List Str, inV (.str x) (ys.map V.str) = decide (x ∈ ys)
  | [] => by simp [inV]
  | y :: r => by
    have ih := inV_str x r
    unfold inV at ih ⊢
    rw [List.map_cons, List.any_cons, ih]
    show ((y == x) || _) = _
    by_cases h : y = x
    · subst h; simp
    · have h' : ¬ x = y := fun e => h e.symm
      simp [h, h', List.mem_cons]
def spHas (K : PySem.W.Frag) (C : Addr) : Sp := fun vs H Q _ => ∃ (a : Addr) (v : V) (ys : List Str), vs = [.ref a, v] ∧ Lb C H a ys ∧ Cl K H v ∧ Q (.bl (hasV v ys)) H
theorem flat_all (ys : List Str) : (ys.map V.str).all flatV = true := by
  rw [List.all_map]
  exact List.all_eq_true.mpr fun _ _ => rfl
theorem ok_has (L : LabM K mg C gE gL gS gR gH pM gM dE dL dS dR dH dM) (Z : Zn mg) : FnOk P w K mg base CX0 1 gH dH ["self", "mark"] (spHas K C) := by
  refine L.H.ok (N := ["self", "mark"]) ⟨rfl, rfl, rfl, by decide +kernel, rfl, by decide +kernel, by decide +kernel⟩ (fun vs H Q E h => ?_) (fun cdv A outer_ s H vs Q E hr h => ?_)
  · obtain ⟨a, v, ys, rfl, _⟩ := h
    rfl
  · obtain ⟨a, v, ys, rfl, ⟨nms, l4, sy, dx, t, ha, ht⟩, cl, k⟩ := h
    refine ⟨_, pss_one (ps_ret (pe_and (pe_callB call_isi (by rfl) Z.zIs (by decide +kernel) (pa_cons (pv 1) (pa_cons (pe_bltn (v := .ty "str") (u := .type "str") (by rfl) Z.zStr (by decide +kernel) rfl) pa_nil))) (pe_one (pe_cmpR op_in_seq (pv 1) (pe_fld (pv 0) rfl) (by rfl))))), ?_⟩
    obtain ⟨ty, tx, kb, ki, ks⟩ := cl.kit
    refine ⟨_, rfl, v, .ty "str", ty, .type "str", vS v, rfl, .ty _, tx, ks, _, rfl, ?_⟩
    by_cases hs : vS v = true
    · obtain ⟨l, rfl, hl⟩ := cl.text hs
      rw [hs]
      refine ⟨_, rfl, _, rfl, a, C, dx, _, .ref t, rfl, ha, L.cl, L.n1, rfl, t, _, rfl, .inr (SqT.of ht), rfl, flat_all ys, ?_⟩
      rw [if_neg Bool.false_ne_true, inV_str]
      exact k
    · have hs' : vS v = false := by simpa using hs
      rw [hs']
      have e : hasV v ys = false := by cases v <;> first | rfl | cases hs'
      rw [e] at k
      exact k
/-! == -/
def spEqL (K : PySem.W.Frag) (C : Addr) : Sp := fun vs H Q _ => ∃ (a : Addr) (y : V) (xs : List Str), vs = [.ref a, y] ∧ Lb C H a xs ∧
  ((∃ T, EqO.BtV K H y T ∧ Q (.bl false) H) ∨ ∃ b ys, y = .ref b ∧ Lb C H b ys ∧ Q (.bl (decide (xs = ys))) H)
theorem ok_eq (L : LabM K mg C gE gL gS gR gH pM gM dE dL dS dR dH dM) (Z : Zn mg) : FnOk P w K mg base CX0 1 gE dE ["self", "other"] (spEqL K C) := by
  refine L.E.ok (N := ["self", "other"]) ⟨rfl, rfl, rfl, by decide +kernel, rfl, by decide +kernel, by decide +kernel⟩ (fun vs H Q E h => ?_) (fun cdv A outer_ s H vs Q E hr h => ?_)
  · obtain ⟨a, y, xs, rfl, _⟩ := h
    rfl
  · obtain ⟨a, y, xs, rfl, ⟨nms, l4, sy, dx, t, ha, ht⟩, h⟩ := h
    have un : (A.deeper (PyProof.Rows.envOfC "Label.__eq__" (defScope sEq) s.heap.objs.size gE cdv)).units + 64 < cLine := by have := hr.units; omega
    refine ⟨_, pss_one (ps_ret (pe_and (pe_callB call_isi (by rfl) Z.zIs (by decide +kernel) (pa_cons (pv 1) (pa_cons (pe_glob (v := .ref C) rfl L.m rfl) pa_nil))) (pe_one (pe_cmpR (op_eqD un) (pe_fld (pv 0) rfl) (pe_fld (pv 1) rfl) (nomark _))))), ?_⟩
    rcases h with ⟨T, bt, k⟩ | ⟨b, ys, rfl, ⟨nmy, l4y, syy, dy, ty, hb, hty⟩, k⟩
    · exact ⟨_, rfl, y, .ref C, .type T, .ref C, false, rfl, .own _, bt_ty bt, L.kt T bt.mem, _, rfl, k⟩
    · refine ⟨_, rfl, .ref b, .ref C, .ref C, .ref C, true, rfl, .own _, .base (.ins hb L.cl L.ca L.cn L.ct L.cm), L.kc, _, rfl, ?_⟩
      refine ⟨_, rfl, a, C, dx, _, .ref t, rfl, ha, L.cl, L.n1, rfl, _, rfl, b, C, dy, _, .ref ty, rfl, hb, L.cl, L.n1, rfl, ?_⟩
      refine ⟨_, _, .tup (SqT.of ht) (dpT xs), .tup (SqT.of hty) (dpT ys), shT _ fun z hz => nm_ok (List.all_eq_true.mp nms z hz), shT _ fun z hz => nm_ok (List.all_eq_true.mp nmy z hz), ?_⟩
      rw [eqvT]
      exact k
end
end K12
/-! calls in a try whose wish rests on the locals: of a classmethod; what passes -/
namespace CmS
open PySem PySem.Spec PyProof.Rows L2 ClX
theorem passE {X : Cx} {E : XK} (tk : Takes X (fun cls d _ H => E cls d H)) : Passes (L2.CX X.prog X.w) X E := fun pins σ H s e s' I c => passAt tk σ pins H s e s' I c
section
variable {X : Cx} {CX : CXT} {pins : List (Addr × Obj)} {σ : L2.St} {H : Hp} {s : Shared} {C p g q : Addr} {mc : Value} {k : Nat} {sp : Sp} {E : XK} {Q : VK} {us : List Value} {vs : List V}
theorem run_at (F : FnR X.prog X.w X.K X.mg X.base CX k g sp) (hr : Room k X.A) (hx : PassesAt CX X σ E) (I : Inv X pins σ H s) (r : Vals vs us) (h : sp vs H Q E) :
    codeAny (model X.prog X.w) X.A (.call (.ref g) ⟨us, []⟩) (fun r s' => match r with | .ok (.ret v) => EP X pins σ Q v s' | .ok _ => False | .error e => X.xe e s') s := by
  refine codeAny_mono (F X.A X.stack s H us vs Q E hr I.env0 r h) ?_
  rintro (e | fl) s' hq
  · exact hx pins H s e s' I hq
  · cases fl <;> first | exact I.after hq | exact hq.elim
theorem run_met (F : FnR X.prog X.w X.K X.mg X.base CX k g sp) (hr : Room k X.A) (hx : PassesAt CX X σ E) (I : Inv X ((q, PySem.W.methodObj (.ref g) (.ref C)) :: pins) σ H s) (r : Vals vs us) (h : sp (.ref C :: vs) H Q E) :
    wpAny (model X.prog X.w) X.A (call (.ref q) us) (EP X pins σ Q) X.xe s := by
  have z : wpAny (model X.prog X.w) X.A (call (.ref q) us) (EP X ((q, PySem.W.methodObj (.ref g) (.ref C)) :: pins) σ Q) X.xe s :=
    wpAny_call (PySem.W.method_call (pin_at I) (run_at (us := .ref C :: us) (vs := .ref C :: vs) F hr hx I (.cons rfl r) h))
  exact thn z fun _ _ y => unpinE y
end
def tCm (C : Addr) (sp : Sp) (E : L2.St → XK) (to : TE) (t : TA) : TE := fun σ H Q => to σ H fun x H1 => x = .ref C ∧ t σ H1 fun vs H2 => sp (.ref C :: vs) H2 Q (E σ)
section
variable {X : Cx} {CX : CXT} {k : Nat} {C p g : Addr} {mc : Value} {sp : Sp} {E : L2.St → XK} {o e : Expr} {es : List Expr} {m : Str} {pos apos : Pos} {to : TE} {t : TA} {pl : Sem Bool}
theorem pe_cm (ho : PE X o to) (r : CRead X.K C mc) (c : CMet X.K C mc m p g) (F : FnR X.prog X.w X.K X.mg X.base CX k g sp) (hr : Room k X.A) (hx : ∀ σ, PassesAt CX X σ (E σ)) (ha : PA X (e :: es) t)
    (st : starEach (e :: es) X.env = (false, eval e X.env) :: starEach es X.env := by rfl) (np : (backTo pos (starEach es X.env)).any (·.1) = false := by rfl)
    (ev : eval (.Call (.Attribute o m apos) (e :: es) [] pos) X.env = (do
      let ov ← eval o X.env
      standAt apos.atName
      let (f, first) ← holding [ov] (getMethod ov m pl)
      callWith pos f first (backTo pos (starEach (e :: es) X.env)) (backToKw pos (keywordEach [] X.env))) := by rfl) :
    PE X (.Call (.Attribute o m apos) (e :: es) [] pos) (tCm C sp E to t) := ⟨by
  intro pins s σ H Q I h
  refine PySem.W.methodCall_KW (pl := pl) (thn (ho.run pins s σ H _ I h) ?_) ev
  rintro u s1 ⟨_, H1, I1, rx, rfl, q⟩
  cases rx
  refine getmethcm_ok I1 r c fun s2 I2 => callwith_cm I2 (base_none I1 (Nat.le_refl _)) c.fi (thn (ha.run pos _ s2 σ H1 _ I2 q) ?_) st np
  rintro us s3 ⟨vs, H2, I3, rv, q2⟩
  exact ⟨⟨pin_at I3, I3.kIn⟩, run_met F hr (hx σ) I3 rv q2⟩⟩
end
end CmS
namespace K12
open PySem L2 SR
section
variable {P : Program} {w : World} {K : PySem.W.Frag} {mg : Str → Option Value} {base : Heap}
variable {C gE gL gS gR gH pM gM : Addr} {dE dL dS dR dH dM : FuncData}
/-! repr -/
def comma : Str := ", "
def lshow (ys : List Str) : Str := Str.empty ++ "Label(" ++ Txt.join comma (ys.map reprText) ++ ")"
theorem repr_len8 {y : Str} (h : isNm y = true) : (reprText y).length ≤ 82 := by
  have l8 := isNm_len h
  have lo : y.cps.toList.all low = true := (Bool.and_eq_true_iff.mp (Bool.and_eq_true_iff.mp h).2).2
  have e := StrLaws.reprText_len (txt y.cps.toList) (fun c hc => by
    have z := Bool.and_eq_true_iff.mp (List.all_eq_true.mp lo c hc)
    have := of_decide_eq_true z.2
    omega)
  rw [← txt_of y] at e
  have e2 : y.length = y.cps.toList.length := by rw [txt_of y, txt_len]; rfl
  omega
def spRepr (C : Addr) : Sp := fun vs H Q _ => ∃ (a : Addr) (ys : List Str), vs = [.ref a] ∧ Lb C H a ys ∧ ∀ H', Same H H' → Q (.str (lshow ys)) H'
theorem scRe : FnScope ["self", "mark"] ["self"] (defScope sRepr) := ⟨rfl, rfl, rfl, by decide +kernel, rfl, by decide +kernel, by decide +kernel⟩
theorem ok_repr (L : LabM K mg C gE gL gS gR gH pM gM dE dL dS dR dH dM) (Z : Zn mg) : FnOk P w K mg base CX0 1 gR dR ["self"] (spRepr C) := by
  refine L.R.ok scRe (fun vs H Q E h => ?_) (fun cdv A outer_ s H vs Q E hr h => ?_)
  · obtain ⟨a, ys, rfl, _⟩ := h
    rfl
  · obtain ⟨a, ys, rfl, ⟨nms, l4, sy, dx, t, ha, ht⟩, k⟩ := h
    refine ⟨_, pss_one (ps_ret (pe_joined (PJ.cons pe_str (PJ.cons (pe_fmt (pe_join pe_str (pe_lc (own := [("mark", 1)]) (g := gName 1) (tt := tYes) rfl scRe.nd (pi_tup (pe_fld (pv 0) rfl))
      (blkOk_by (N := ["self", "mark"]) (sc := defScope sRepr) (by decide +kernel)) (fun _ _ _ _ _ => pg_name (i := 1) scRe.nd rfl (Or.inl rfl)) (fun _ _ _ _ _ => pts_nil)
      (fun _ _ _ _ _ => pe_callB call_reprS (by rfl) Z.zRepr (by decide +kernel) (pa_cons (pv 1) pa_nil))))) (PJ.cons pe_str PJ.nil))))), ?_⟩
    have hsl : sizeLine = 16777216 := sizeLine_eq
    have nmAt : ∀ y ∈ ys, isNm y = true := fun y hy => List.all_eq_true.mp nms y hy
    refine ⟨_, rfl, by decide +kernel, ?_⟩
    refine ⟨⟨_, rfl⟩, _, rfl, a, C, dx, _, .ref t, rfl, ha, L.cl, L.n1, rfl, t, rfl, ⟨_, SqT.of ht⟩, fun D hD => ?_⟩
    refine lc_tup (xs := ys.map V.str) (fun i H' => Same H H' ∧ H' D = some (.lst (((ys.map reprText).take i).map V.str))) ⟨same_upd hD, upd_same⟩ (fun i H' _ q => SqT.of (q.1 _ _ ht)) ?_ ?_
    · rintro i v H1 hv ⟨sm, hL⟩
      rw [List.getElem?_map] at hv
      obtain ⟨y, hy, rfl⟩ := Option.map_eq_some_iff.mp hv
      have l82 := repr_len8 (nmAt y (List.mem_of_getElem? hy))
      refine ⟨rfl, _, rfl, y, rfl, by omega, _, hL, ?_, fun b o q => ?_, ?_⟩
      · rw [List.length_map, List.length_take, List.length_map]
        omega
      · rw [upd_ne (ne_of_none q hD)]
        exact sm b o q
      · rw [upd_same, take_snoc (x := reprText y) (by rw [List.getElem?_map, hy]; rfl), List.map_append]
        rfl
    · rintro H1 ⟨sm, hL⟩
      rw [List.length_map, List.take_of_length_le (by rw [List.length_map]; exact Nat.le_refl _)] at hL
      have lens : ((ys.map reprText).map (·.length)).sum + (ys.map reprText).length * comma.length ≤ 1000 := by
        have each : ∀ zs : List Str, (∀ y ∈ zs, isNm y = true) → ((zs.map reprText).map (·.length)).sum ≤ 82 * zs.length := fun zs => by
          induction zs with
          | nil => intro _; decide
          | cons z zs ih =>
            intro hz
            have a := repr_len8 (hz z List.mem_cons_self)
            have b := ih fun y hy => hz y (List.mem_cons_of_mem _ hy)
            rw [List.map_cons, List.map_cons, List.sum_cons, List.length_cons]
            omega
        have a := each ys nmAt
        have b : comma.length = 2 := by decide +kernel
        rw [b, List.length_map]
        omega
      have jl : (Txt.join comma (ys.map reprText)).length ≤ 1000 := by
        rw [join_is]
        exact Nat.le_trans (StrLaws.join_length_le comma _) lens
      have jl' : (Txt.join (", " : Str) (ys.map reprText)).length ≤ 1000 := jl
      have e7 : ("Label(" : Str).length = 6 := by decide +kernel
      have e8 : (")" : Str).length = 1 := by decide +kernel
      refine ⟨_, D, ys.map reprText, rfl, rfl, .inl (SqL.of hL), by exact Nat.le_trans lens (by decide), .inl ⟨_, rfl, by omega, _, rfl, ?_, _, rfl, ?_, k _ sm⟩⟩
      · rw [strLen_append, strLen_append, e7]
        show 0 + 6 + _ ≤ _
        omega
      · rw [strLen_append, strLen_append, strLen_append, e7, e8]
        show 0 + 6 + _ + 1 ≤ _
        omega

/-! ### of_text -/
abbrev sOf : Stmt := inClass (top 15) 2
theorem scOf : FnScope ["cls", "text", "marks"] ["cls", "text"] (defScope sOf) := ⟨rfl, rfl, rfl, by decide +kernel, rfl, by decide +kernel, by decide +kernel⟩
def spOf (K : PySem.W.Frag) (C CT : Addr) : Sp := fun vs H Q E => ∃ v : V, vs = [.ref C, v] ∧
  ((Cl K H v ∧ vS v = false ∧ Bad "problem" CT H (.str "string") E) ∨
   ∃ l : Tx, v = tv l ∧ l.length ≤ 4000 ∧ (rdM l = none → Bad "problem" CT H (.str "label") E) ∧ ∀ ms, rdM l = some ms → ∀ H' a, Same H H' → H a = none → Lb C H' a ms → Q (.ref a) H')
theorem rd_facts {l : Tx} {ms : List Str} (h : rdM l = some ms) : ms.all isNm = true ∧ ms.length ≤ 4 ∧ Srt ms ms := by
  unfold rdM at h
  split at h
  · cases h
    exact ⟨rfl, by decide, .nil, rfl, fun _ => Iff.rfl⟩
  · split at h
    · cases h
    · rename_i h4
      split at h
      · rename_i al
        split at h
        · rename_i g
          cases h
          exact ⟨by rw [nms_is]; exact al, by rw [List.length_map]; omega, g.1, g.2, fun _ => Iff.rfl⟩
        · cases h
      · cases h
theorem find_none {ts : List Str} (h : ts.all isNm = true) : (ts.map V.str).find? bad = none := by
  rw [List.find?_map, Option.map_eq_none_iff]
  exact List.find?_eq_none.mpr fun u hu => by
    have := List.all_eq_true.mp h u hu
    show ¬ (!isNm u) = true
    rw [this]
    decide
theorem cl_names {H : Hp} {ts : List Str} (h : ts.all isNm = true) : ∀ v ∈ ts.map V.str, Cl K H v := fun v hv => by
  obtain ⟨y, hy, rfl⟩ := List.mem_map.mp hv
  have := isNm_len (List.all_eq_true.mp h y hy)
  rw [txt_of y]
  exact .str _ (Nat.le_trans this (by decide))
theorem str_inj : ∀ {a b : List Str}, a.map V.str = b.map V.str → a = b
  | [], [], _ => rfl
  | [], _ :: _, e => by cases e
  | _ :: _, [], e => by cases e
  | x :: r, y :: q, e => by
    rw [List.map_cons, List.map_cons] at e
    rw [V.str.inj (List.cons.inj e).1, str_inj (List.cons.inj e).2]
/-- a call of Label with names, at most four different ones -/
theorem mk_lab {H1 : Hp} {C CN CM z dz : Addr} {ts ys : List Str} {Q : VK} {E : XK} (hz : H1 z = none) (hd : H1 dz = none) (ne : dz ≠ z) (nms : ts.all isNm = true) (few : ts.length < 60) (s : Srt ts ys) (l4 : ys.length ≤ 4)
    (k : ∀ H', Same H1 H' → Lb C H' z ys → Q (.ref z) H') : ∃ ws rest, V.ref z :: ts.map V.str = ws ++ rest ∧ ws.length = ([("self" : Str)]).length ∧ rest.length ≤ sizeLine ∧
      ∀ p, (upd (upd H1 dz (.own z)) z (.ins C dz [])) p = Option.none → spInit K C CN CM (ws ++ [V.ref p]) (upd (upd (upd H1 dz (.own z)) z (.ins C dz [])) p (.tup rest)) (fun v H2 => v = .non ∧ Q (.ref z) H2) E := by
  refine ⟨[.ref z], ts.map V.str, rfl, rfl, by rw [List.length_map, sizeLine_eq]; omega, fun p hp => ?_⟩
  have np : p ≠ z := fun e => by rw [e, upd_same] at hp; cases hp
  refine ⟨z, dz, p, ts.map V.str, rfl, by rw [upd_ne (Ne.symm np), upd_same], upd_same, by rw [List.length_map]; exact few, cl_names nms, (fun v e => by rw [find_none nms] at e; cases e), fun ts' ys' e nms' s' => ?_⟩
  obtain rfl := str_inj e
  obtain rfl := SR.unique s s'
  refine ⟨fun l5 => absurd l4 (by omega), fun _ H' t kp hz' ht => ⟨rfl, k H' (fun b o q => ?_) ⟨?_, l4, SR.self s, dz, t, hz', ht⟩⟩⟩
  · have nb : b ≠ z := ne_of_none q hz
    have nd : b ≠ dz := ne_of_none q hd
    refine kp b o nb ?_
    have q2 : (upd (upd H1 dz (.own z)) z (.ins C dz [])) b = some o := by rw [upd_ne nb, upd_ne nd]; exact q
    rw [upd_ne (ne_of_none q2 hp)]
    exact q2
  · exact List.all_eq_true.mpr fun y hy => List.all_eq_true.mp nms y ((s.2.2 y).mp hy)
theorem ok_of {C f CN fN CM fM fI f1 CT fT gO : Addr} {fd dN dM dI d1 dT dO : FuncData} {tk t2 : Tok} (FO : Fun K "of_text" "Label.of_text" sOf gO dO) (T : IT K mg CT fT dT) (AM : At K mg "marks_of_text" sMarksOf ["text"] f1 d1) (L : LabC K mg C f CN fN CM fM fd dN dM) (Z : Zn mg) (zT : mg "tuple" = none) (zS : mg "set" = none) (zO : mg "sorted" = none)
    (mM : mg "MOST_LETTERS" = some (.int 8 tk)) (mL : mg "LETTERS" = some (.str "abcdefghijklmnopqrstuvwxyz" t2)) (AN : At K mg "is_name" sIsName ["value"] fI dI) : FnOk P w K mg base (L2.CX P w) 5 gO dO ["cls", "text"] (spOf K C CT) := by
  have GK : FnOk P w K mg base CX0 2 f1 d1 ["text"] spMk := ok_mk AM.F L Z zS zO mM mL AN
  have GI := ok_init (P := P) (w := w) (base := base) L Z zT zS zO mM mL AN
  have GT : FnOk P w K mg base CX0 1 fT dT ["self", "problem"] (spInitT CT) := ok_initT T
  refine FO.okX scOf (fun vs H Q E h => ?_) (fun cdv A outer_ s H vs Q E hr h => ?_)
  · obtain ⟨v, rfl, _⟩ := h
    rfl
  · obtain ⟨v, rfl, h⟩ := h
    refine ⟨_, pss_cons (ps_if (pt_not (pt_val (pe_callB call_isi (by rfl) Z.zIs (by decide +kernel) (pa_cons (pv 1) (pa_cons (pe_bltn (v := .ty "str") (u := .type "str") (by rfl) Z.zStr (by decide +kernel) rfl) pa_nil)))))
        (pss_one (ps_raise rfl (takes_of rfl rfl rfl rfl) (pmk_oex T.o T.iC T.tI GT (hr.mono (by decide)) T.b .nil pass0 (by rfl) T.m (by exact (pa_cons pe_str pa_nil))))) pss_nil)
      (pss_cons (ps_set (i := 2) scOf.nd rfl (Or.inl rfl) (pe_call GK (hr.mono (by decide)) (by rfl) AM.m AM.F.kp AM.b .nil pass0 (pa_cons (pv 1) pa_nil)))
      (pss_cons (ps_if (pt_cmp (pc_isN (pv 2))) (pss_one (ps_raise rfl (takes_of rfl rfl rfl rfl) (pmk_oex T.o T.iC T.tI GT (hr.mono (by decide)) T.b .nil pass0 (by rfl) T.m (by exact (pa_cons pe_str pa_nil))))) pss_nil)
      (pss_one (ps_ret (pe_makeS (E := E) L.mkr GI hr (by rfl) L.m (CmS.passE (takes_of rfl rfl rfl rfl)) (pv 2)))))), ?_⟩
    rcases h with ⟨cl, hs, hb⟩ | ⟨l, rfl, hl, kn, ks⟩
    · obtain ⟨t, ty, _, _, ks⟩ := cl.kit
      rw [hs] at ks
      exact ⟨_, rfl, v, .ty "str", t, .type "str", false, rfl, .ty _, ty, ks, _, rfl, mkT H _ hb⟩
    · refine ⟨_, rfl, tv l, .ty "str", .type "str", .type "str", true, rfl, .ty "str", .base (.str _), kit_ty (a := "str") (b := "str") (r := true) (by decide +kernel), _, rfl, ?_⟩
      refine ⟨_, rfl, l, rfl, hl, fun e H1 s1 => ?_, fun ms e H1 p s1 hp hL => ?_⟩
      · exact ⟨_, rfl, _, rfl, mkT H1 _ (bad_of s1 (kn e))⟩
      · refine ⟨_, rfl, false, rfl, ?_⟩
        obtain ⟨nms, l4, sr⟩ := rd_facts e
        refine ⟨_, rfl, p, ms.map V.str, rfl, .inr (SqL.of hL), fun z dz hz hd ne => ?_⟩
        exact mk_lab (ts := ms) (ys := ms) hz hd ne nms (by omega) sr l4 fun H' s2 lb => ks ms e H' z (s1.trans s2) (s1.free hz) lb
end
end K12
namespace K12
open PySem L2 SR
/-! ### repr of a tuple of things -/
theorem shownAll_le : ∀ {ds : List PyData}, (∀ d ∈ ds, Sho d) → ((PyData.shownAll ds).map (·.length)).sum ≤ 2000 * ds.length
  | [], _ => Nat.le_refl _
  | d :: r, h => by
    have a := (h d List.mem_cons_self).2.1
    have b := shownAll_le fun z hz => h z (List.mem_cons_of_mem _ hz)
    simp only [PyData.shownAll, List.map_cons, List.sum_cons, List.length_cons]
    omega
theorem shownAll_len : ∀ ds : List PyData, (PyData.shownAll ds).length = ds.length
  | [] => rfl
  | d :: r => by simp only [PyData.shownAll, List.length_cons, shownAll_len r]
theorem tupleText_len {ds : List PyData} (h : ∀ d ∈ ds, Sho d) (l : ds.length ≤ 8) : (tupleText (PyData.shownAll ds)).length ≤ 20000 := by
  have a := shownAll_le h
  have b := StrLaws.join_length_le ", " (PyData.shownAll ds)
  have c : (", " : Str).length = 2 := by decide +kernel
  rw [c, shownAll_len] at b
  unfold tupleText
  rw [strLen_append, strLen_append]
  have e1 : ("(" : Str).length = 1 := by decide +kernel
  have e2 : (Str.ofString (if (PyData.shownAll ds).length == 1 then ",)" else ")")).length ≤ 2 := by split <;> decide +kernel
  rw [e1]
  omega
section
variable {X : Cx} {pins : List (Addr × Obj)} {σ : St} {H : Hp} {s : Shared}
theorem all_k (I : Inv X pins σ H s) : ∀ {vs : List V} {ds : List PyData} {us : List Value}, Paired (Th X.K H) vs ds → (∀ d ∈ ds, Sho d) → Vals vs us →
    ∃ as bs, ReadsAll s.heap us ds as ∧ ReadAtMost s.heap (PyData.depthAll ds) bs ∧ ReprAllK X.prog X.w bs s.heap (PyData.depthAll ds) us (PyData.shownAll ds) ∧ PyData.depthAll ds ≤ 5
  | _, _, _, .nil, _, .nil => ⟨[], [], .nil, (fun _ h => nomatch h), by simp only [PyData.shownAll]; exact .nil, by simp [PyData.depthAll]⟩
  | _, _, _, .cons (b := d) (l₂ := ds) t ts, h, .cons r rs => by
    obtain ⟨as2, b2, r2, m2, k2, d2⟩ := all_k I ts (fun z hz => h z (List.mem_cons_of_mem _ hz)) rs
    have sd := h d List.mem_cons_self
    obtain ⟨as1, rd1, n1⟩ := t.reads I r
    have zf : d.shown.length ≤ sizeLine := sd.fits
    obtain ⟨b1, m1, k1⟩ := ReprAllK.of_readsAll (prog := X.prog) (w := X.w) (ReadsAll.cons rd1 .nil) (by simp [PyData.showableAll, sd.1]) (fun hx hm => n1 (by simpa [PyData.hasDictAll] using hx) (by simpa using hm)) (fun t ht => by simp only [PyData.shownAll, List.mem_singleton] at ht; rw [ht]; exact zf)
    have le1 : PyData.depthAll [d] ≤ PyData.depthAll (d :: ds) := by simp only [PyData.depthAll]; omega
    have le2 : PyData.depthAll ds ≤ PyData.depthAll (d :: ds) := by simp only [PyData.depthAll]; omega
    have q1 := k1.more_le (as' := b1 ++ b2) (fun b hb => List.mem_append_left _ hb) le1
    have q2 := k2.more_le (as' := b1 ++ b2) (fun b hb => List.mem_append_right _ hb) le2
    refine ⟨as1 ++ as2, b1 ++ b2, .cons rd1 r2, (m1.mono le1).append (m2.mono le2), ?_, ?_⟩
    · cases q1 with
      | cons q _ =>
        simp only [PyData.shownAll]
        exact .cons q q2
    · have := sd.2.2
      simp only [PyData.depthAll]
      omega
def rReprT (K : PySem.W.Frag) : List V → Hp → VK → Prop := fun xs H Q => ∃ (a : Addr) (vs : List V) (ds : List PyData), xs = [.ref a] ∧ H a = some (.tup vs) ∧ Paired (Th K H) vs ds ∧ (∀ d ∈ ds, Sho d) ∧ ds.length ≤ 8 ∧ Q (.str (tupleText (PyData.shownAll ds))) H
theorem call_reprT (gd : X.A.guards = some []) (un : X.A.units + 200 < cLine) : CallR X (.builtin "repr") (rReprT X.K) := by
  rintro pins s σ H xs us Q I r ⟨a, vs, ds, rfl, ha, th, sh, l8, q⟩
  rw [Vals.ref1 r]
  obtain ⟨_, its, rv, o, h1, h2, n, h3⟩ := (show ObjOk X.prog X.w H s.heap a (.tup vs) from I.hok a _ ha)
  obtain ⟨as, bs, rd, most, all, d5⟩ := all_k I th sh rv
  have whole : Reads s.heap (.ref a) (.tuple ds) _ := Reads.tuple h1 h2 h3 (by simpa using rd)
  have hna : a ∉ bs := not_mem_of_deeper whole (n := PyData.depthAll ds) (by simp only [PyData.depth]; omega) most
  have len : (tupleText (PyData.shownAll ds)).length ≤ sizeLine := Nat.le_trans (tupleText_len sh l8) (by decide)
  refine call_repr_slot (T := "tuple") (idr := "tuple.__repr__") (s := s) (by omega) ⟨o, h1, h2⟩ F.slot_tuple_repr ?_
  refine call_tuple_reprK (as := bs) (h₀ := s.heap) (d := PyData.depthAll ds) (ts := PyData.shownAll ds) (s := s) h1 h2 h3 hna (by simpa using all) gd (fun b _ => Clear.nil b) ?_ (fun _ _ z => z) (fun h' u tk kk => ⟨_, _, rfl, .str (tupleText (PyData.shownAll ds)), H, I.kept kk, ⟨_, rfl⟩, q⟩) len
  show X.A.units + 1 + _ < cLine
  omega
end
end K12
namespace K12
open PySem L2 SR
section
variable {P : Program} {w : World} {K : PySem.W.Frag} {mg : Str → Option Value} {base : Heap}
theorem scLn : FnScope ["_law_thing", "_law_letters", "_law_sign"] ["_law_thing"] (defScope sLIsName) := ⟨rfl, rfl, rfl, by decide +kernel, rfl, by decide +kernel, by decide +kernel⟩
theorem ok_lname {f : Addr} {fd : FuncData} (F : Fun K "_law_is_name" "_law_is_name" sLIsName f fd) (Z : Zn mg) : FnOk P w K mg base CX0 1 f fd ["_law_thing"] (spName K) := by
  refine F.ok scLn (fun vs H Q E h => ?_) (fun cdv A outer_ s H vs Q E hr h => ?_)
  · obtain ⟨v, rfl, _⟩ := h
    rfl
  · obtain ⟨v, rfl, cl, k⟩ := h
    refine ⟨_, pss_cons (ps_set (i := 1) scLn.nd rfl (Or.inr rfl) pe_str)
      (pss_one (ps_ret (pe_and (pe_callB call_isi (by rfl) Z.zIs (by decide +kernel) (pa_cons (pv 0) (pa_cons (pe_bltn (v := .ty "str") (u := .type "str") (by rfl) Z.zStr (by decide +kernel) rfl) pa_nil)))
        (pe_and (pe_chain op_le op_le pe_int (pe_callB call_len_str (by rfl) Z.zLen PySem.boot_len (pa_cons (pv 0) pa_nil)) pe_int)
        (pe_one (pe_callB (cr_all rfl) (by rfl) Z.zAll (by decide +kernel) (pa_cons (pe_lc (own := [("_law_sign", 2)]) (g := gName 2) (tt := tYes) rfl scLn.nd (pi_str (pv 0))
        (blkOk_by (N := ["_law_thing", "_law_letters", "_law_sign"]) (sc := defScope sLIsName) (by decide +kernel)) (fun _ _ _ _ _ => pg_name (i := 2) scLn.nd rfl (Or.inl rfl)) (fun _ _ _ _ _ => pts_nil)
        (fun _ _ _ _ _ => pe_cmpR op_in_sign (pv 2) (pv 1) (by rfl))) pa_nil))))))), ?_⟩
    obtain ⟨t, ty, kb, ki, ks⟩ := cl.kit
    refine ⟨_, rfl, v, .ty "str", t, .type "str", vS v, rfl, .ty _, ty, ks, _, rfl, ?_⟩
    by_cases hs : vS v = true
    · obtain ⟨l, rfl, hl⟩ := cl.text hs
      have hline : (txt l).length ≤ sizeLine := by rw [txt_len, sizeLine_eq]; omega
      have nm : nameV (tv l) = nmC l := rfl
      rw [nm] at k
      unfold nmC at k
      rw [hs]
      refine ⟨_, rfl, _, rfl, hline, _, _, rfl, rfl, ?_⟩
      have fin0 : l = [] ∨ ¬ l.length ≤ 8 → Q (.bl false) H := fun z => by
        have q := k H (Same.refl H)
        rcases z with z | z
        · subst z
          exact q
        · rw [decide_eq_false z] at q
          exact q
      refine ⟨_, rfl, ?_⟩
      rw [txt_len]
      refine ite2 (fun h1 => ?_) (fun h1 => ?_)
      · have h1' := of_decide_eq_true h1
        refine ⟨_, _, rfl, rfl, _, rfl, ?_⟩
        refine ite2 (fun h2 => ?_) (fun h2 => ?_)
        · have h2' := of_decide_eq_true h2
          have n0 : ¬ l = [] := fun z => by rw [z] at h1'; exact absurd h1' (by decide)
          have n8 : l.length ≤ 8 := by omega
          rw [decide_eq_true n8, decide_eq_false n0] at k
          refine ⟨_, rfl, _, rfl, fun D hD => ?_⟩
          refine lc_it (walk_str (z := txt l)) (fun i H' => Same H H' ∧ H' D = some (.lst (((l.map low).take i).map V.bl))) ⟨same_upd hD, upd_same⟩ (fun _ _ _ _ => trivial) ?_ ?_
          · rintro i x H1 H2 hi ⟨sm, hL⟩ ⟨rfl, c, hc, rfl⟩
            have hc' : l[i]? = some c := by
              have z : l.toArray[i]? = some c := hc
              simpa using z
            refine ⟨rfl, _, rfl, _, rfl, c, _, rfl, rfl, _, hL, ?_, fun b o q => ?_, ?_⟩
            · rw [List.length_map, List.length_take, List.length_map, sizeLine_eq]
              omega
            · rw [upd_ne (ne_of_none q hD)]
              exact sm b o q
            · rw [upd_same, take_snoc (x := low c) (by rw [List.getElem?_map, hc']; rfl), List.map_append, mem_abc]
              rfl
          · rintro H1 ⟨sm, hL⟩
            refine ⟨D, _, rfl, SqL.of hL, ?_⟩
            rw [show (txt l).cps.size = l.length from txt_len l, all_low]
            exact k H1 sm
        · exact fin0 (.inr fun z => h2 (decide_eq_true (by omega)))
      · refine ⟨_, rfl, fin0 (.inl ?_)⟩
        have : ¬ (1 : Int) ≤ (l.length : Int) := fun z => h1 (decide_eq_true z)
        exact List.eq_nil_of_length_eq_zero (by omega)
    · have hs' : vS v = false := by simpa using hs
      rw [hs']
      have e : nameV v = false := by cases v <;> first | rfl | cases hs'
      have z := k H (Same.refl H)
      rw [e] at z
      exact z

end
/-! ### what the law draws as marks -/
inductive Mv (H : Hp) : V → PyData → Prop
  | non : Mv H .non .none
  | bl (b : Bool) : Mv H (.bl b) (.bool b)
  | int {i : Int} : i = 0 ∨ i = 1 → Mv H (.int i) (.int i)
  | str {l : Tx} : asc l → l.length ≤ 9 → Mv H (tv l) (.str (txt l))
  | t0 {a : Addr} : H a = some (.tup []) → Mv H (.ref a) (.tuple [])
  | t1 {a : Addr} : H a = some (.tup [.str "a"]) → Mv H (.ref a) (.tuple [.str "a"])
  | l0 {a : Addr} : H a = some (.lst []) → Mv H (.ref a) (.list [])
  | l1 {a : Addr} : H a = some (.lst [.str "a"]) → Mv H (.ref a) (.list [.str "a"])
  | d0 {a : Addr} : H a = some (.dK []) → Mv H (.ref a) (.dict [])
theorem Mv.keep {H H' : Hp} {v : V} {d : PyData} (h : Mv H v d) (k : ∀ a o, v = .ref a → H a = some o → H' a = some o) : Mv H' v d := by
  cases h with
  | non => exact .non
  | bl b => exact .bl b
  | int q => exact .int q
  | str a b => exact .str a b
  | t0 e => exact .t0 (k _ _ rfl e)
  | t1 e => exact .t1 (k _ _ rfl e)
  | l0 e => exact .l0 (k _ _ rfl e)
  | l1 e => exact .l1 (k _ _ rfl e)
  | d0 e => exact .d0 (k _ _ rfl e)
theorem Mv.same {H H' : Hp} {v : V} {d : PyData} (h : Mv H v d) (s : Same H H') : Mv H' v d := h.keep fun a o _ e => s a o e
theorem Mv.ne {r : Addr} {H : Hp} {v : V} {d : PyData} (h : Mv H v d) (g : Rg H r) : v ≠ .ref r := by
  obtain ⟨x, y, e, _⟩ := g
  intro z
  cases h <;> first | (cases z; done) | (cases z; rename_i q; rw [q] at e; cases e)
theorem Mv.kp {r : Addr} {H H' : Hp} {v : V} {d : PyData} (h : Mv H v d) (g : Rg H r) (k : Kp r H H') : Mv H' v d := h.keep fun a o e q => k.1 a o (fun z => h.ne g (by rw [e, z])) q
theorem Mv.det {H : Hp} {v : V} {d e : PyData} (h : Mv H v d) (h2 : Mv H v e) : d = e := by
  cases h <;> cases h2 <;> first
    | rfl
    | (rename_i q1 q2; rw [q1] at q2; cases q2)
    | (rename_i q1 _ q2; first | rfl | (rw [q1] at q2; cases q2))
theorem Mv.th {K : PySem.W.Frag} {H : Hp} {v : V} {d : PyData} (h : Mv H v d) : Th K H v d := by
  cases h with
  | non => exact .non
  | bl b => exact .bl b
  | int q => exact .int _
  | str a b => exact .str _
  | t0 e => exact .tup e (fun _ => .nil) rfl
  | t1 e => exact .tup e (fun _ => .cons (.str _) .nil) rfl
  | l0 e => exact .lst e (fun _ => .nil) rfl
  | l1 e => exact .lst e (fun _ => .cons (.str _) .nil) rfl
  | d0 e => exact .d0 e
theorem sho_str {x : Str} (h : (reprText x).length ≤ 2000) : Sho (.str x) := ⟨by simp [PyData.showable], by simpa [PyData.shown] using h, by simp [PyData.depth]⟩
theorem repr_le {l : Tx} (ha : asc l) : (reprText (txt l)).length ≤ 10 * l.length + 2 := by
  have e := StrLaws.reprText_len (txt l) (fun c hc => Nat.lt_trans (ha c hc) (by decide))
  rw [txt_len] at e
  omega
theorem Mv.sho {H : Hp} {v : V} {d : PyData} (h : Mv H v d) : Sho d := by
  cases h with
  | non => exact ⟨by decide +kernel, by decide +kernel, by decide +kernel⟩
  | bl b => cases b <;> exact ⟨by decide +kernel, by decide +kernel, by decide +kernel⟩
  | int q => rcases q with rfl | rfl <;> exact ⟨by decide +kernel, by decide +kernel, by decide +kernel⟩
  | str a b => exact sho_str (by have := repr_le a; omega)
  | _ => exact ⟨by decide +kernel, by decide +kernel, by decide +kernel⟩
theorem Mv.bt {K : PySem.W.Frag} {H : Hp} {v : V} {d : PyData} (h : Mv H v d) : ∃ T, EqO.BtV K H v T := by
  cases h with
  | non => exact ⟨_, .non⟩
  | bl b => exact ⟨_, .bl b⟩
  | int q => exact ⟨_, .int _⟩
  | str a b => exact ⟨_, .str _⟩
  | t0 e => exact ⟨_, .tup e⟩
  | t1 e => exact ⟨_, .tup e⟩
  | l0 e => exact ⟨_, .lst e⟩
  | l1 e => exact ⟨_, .lst e⟩
  | d0 e => exact ⟨_, .dic e⟩
theorem cl_tup {K : PySem.W.Frag} {H : Hp} {a : Addr} {xs : List V} (e : H a = some (.tup xs)) : Cl K H (.ref a) :=
  .oth (.base (.tup e)) (kit_ty (a := "tuple") (b := "bool") (r := false) (by decide +kernel)) (kit_ty (a := "tuple") (b := "int") (r := false) (by decide +kernel)) (kit_ty (a := "tuple") (b := "str") (r := false) (by decide +kernel))
theorem cl_lst {K : PySem.W.Frag} {H : Hp} {a : Addr} {xs : List V} (e : H a = some (.lst xs)) : Cl K H (.ref a) :=
  .oth (.base (.lst e)) (kit_ty (a := "list") (b := "bool") (r := false) (by decide +kernel)) (kit_ty (a := "list") (b := "int") (r := false) (by decide +kernel)) (kit_ty (a := "list") (b := "str") (r := false) (by decide +kernel))
theorem cl_dic {K : PySem.W.Frag} {H : Hp} {a : Addr} {kvs : List (Key × V)} (e : H a = some (.dK kvs)) : Cl K H (.ref a) :=
  .oth (.base (.dK e)) (kit_ty (a := "dict") (b := "bool") (r := false) (by decide +kernel)) (kit_ty (a := "dict") (b := "int") (r := false) (by decide +kernel)) (kit_ty (a := "dict") (b := "str") (r := false) (by decide +kernel))
theorem Mv.cl {K : PySem.W.Frag} {H : Hp} {v : V} {d : PyData} (h : Mv H v d) : Cl K H v := by
  cases h with
  | non => exact .non
  | bl b => exact .bl b
  | int q => exact .int _
  | str a b => exact .str _ (Nat.le_trans b (by decide))
  | t0 e => exact cl_tup e
  | t1 e => exact cl_tup e
  | l0 e => exact cl_lst e
  | l1 e => exact cl_lst e
  | d0 e => exact cl_dic e
end K12
namespace K12
open PySem L2 SR
theorem Rg.ne {H : Hp} {r m : Addr} (g : Rg H r) (h : H m = none) : m ≠ r := fun e => by
  obtain ⟨x, y, q, _⟩ := g
  rw [e, q] at h
  cases h
theorem Rg.ne' {H : Hp} {r m : Addr} {xs : List V} (g : Rg H r) (h : H m = some (.lst xs)) (n : xs.length ≠ 2 := by intro z; simp at z) : m ≠ r := fun e => by
  obtain ⟨x, y, q, _⟩ := g
  rw [e, q] at h
  cases h
  exact n rfl
theorem asc_lit {l : Tx} (h : (l.all fun c => decide (c < 128)) = true) : asc l := asc_of h
theorem mv_lit {H : Hp} {x : Str} (h1 : (x.cps.toList.all fun c => decide (c < 128)) = true) (h2 : x.cps.toList.length ≤ 9) : ∃ d, Mv H (.str x) d := by
  have e := txt_of x
  rw [e]
  exact ⟨_, .str (asc_of h1) h2⟩
section
variable {P : Program} {w : World} {K : PySem.W.Frag} {mg : Str → Option Value} {base : Heap}
/-! ### _law_mark -/
theorem none_of {H H1 : Hp} {a : Addr} (s : Same H H1) (h : H1 a = none) : H a = none := by
  cases e : H a with
  | none => rfl
  | some o => rw [s _ _ e] at h; cases h
theorem mv_lit2 {H0 H : Hp} {x : Str} (h1 : (x.cps.toList.all fun c => decide (c < 128)) = true) (h2 : x.cps.toList.length ≤ 9) : ∃ d, Mv H (.str x) d ∧ ∀ a, V.str x = .ref a → H0 a = none := by
  obtain ⟨d, h⟩ := mv_lit (H := H) h1 h2
  exact ⟨d, h, fun _ e => nomatch e⟩
def spMark (K : PySem.W.Frag) : Sp := fun vs H Q _ => ∃ (r p : Addr) (ts : List Tx), vs = [.ref r, .ref p] ∧ Rg H r ∧ H p = some (.lst (ts.map tv)) ∧ p ≠ r ∧ ts ≠ [] ∧ ts.length ≤ 100 ∧ (∀ t ∈ ts, nmC t = true) ∧ ∀ H' v d, Kp r H H' → Mv H' v d → (∀ a, v = .ref a → H a = none) → Q v H'
theorem scMa : FnScope ["_law_rng_here", "_law_pool_here", "_law_odd"] ["_law_rng_here", "_law_pool_here"] (defScope sMark) := ⟨rfl, rfl, rfl, by decide +kernel, rfl, by decide +kernel, by decide +kernel⟩
theorem ok_mark {f fD fC : Addr} {fd dD dC : FuncData} (F : Fun K "_law_mark" "_law_mark" sMark f fd) (B : BEnv mg) (AD : At K mg "_law_draw" sDraw ["_law_rng_here", "_law_many"] fD dD) (AC : At K mg "_law_choice" sChoice ["_law_rng_here", "_law_options"] fC dC) :
    FnOk P w K mg base CX0 3 f fd ["_law_rng_here", "_law_pool_here"] (spMark K) := by
  have GD : FnOk P w K mg base CX0 1 fD dD ["_law_rng_here", "_law_many"] spDraw := ok_draw AD.F B
  have GC : FnOk P w K mg base CX0 2 fC dC ["_law_rng_here", "_law_options"] (spChoice K) := ok_choice AC.F B AD
  refine F.ok scMa (fun vs H Q E h => ?_) (fun cdv A outer_ s H vs Q E hr h => ?_)
  · obtain ⟨r, p, ts, rfl, _⟩ := h
    rfl
  · obtain ⟨r, p, ts, rfl, g, hL, npr, tne, tl, nms, k⟩ := h
    have hr1 := hr.mono (j := 1) (by decide)
    refine ⟨_, pss_cons (ps_set (i := 2) scMa.nd rfl (Or.inl rfl) (pe_lst (pa_cons pe_non (pa_cons pe_bl (pa_cons pe_bl (pa_cons pe_int (pa_cons pe_int (pa_cons pe_str (pa_cons pe_str (pa_cons pe_str (pa_cons pe_str (pa_cons pe_str (pa_cons pe_str (pa_cons pe_str (pa_cons pe_str (pa_cons pe_str (pa_cons pe_str (pa_cons (pe_tup pa_nil) (pa_cons (pe_tup (pa_cons pe_str pa_nil)) (pa_cons (pe_lst (pa_cons pe_str pa_nil)) pa_nil))))))))))))))))))))
      (pss_one (ps_ret (pe_ifExp (pt_cmpR op_eq (pe_call GD hr1 (by rfl) AD.m AD.F.kp AD.b .nil pass0 (pa_cons (pv 0) (pa_cons pe_int pa_nil))) pe_int (nomark _))
        (pe_call GC hr (by rfl) AC.m AC.F.kp AC.b .nil pass0 (pa_cons (pv 0) (pa_cons (pe_op op_cat (pv 2) (pe_lst (pa_cons pe_dnewK pa_nil))) pa_nil)))
        (pe_call GC hr (by rfl) AC.m AC.F.kp AC.b .nil pass0 (pa_cons (pv 0) (pa_cons (pv 1) pa_nil)))))), ?_⟩
    refine ⟨by show 0 ≤ sizeLine; decide, fun a1 h1 => ?_⟩
    have s1 : Same H (upd H a1 (HO.tup [])) := same_upd h1
    have f1 : (upd H a1 (HO.tup [])) a1 = some (HO.tup []) := upd_same
    revert s1 f1
    generalize upd H a1 (HO.tup []) = H1
    intro s1 f1
    refine ⟨by show 1 ≤ sizeLine; decide, fun a2 h2 => ?_⟩
    have s2 : Same H1 (upd H1 a2 (HO.tup [.str "a"])) := same_upd h2
    have f2 : (upd H1 a2 (HO.tup [.str "a"])) a2 = some (HO.tup [.str "a"]) := upd_same
    revert s2 f2
    generalize upd H1 a2 (HO.tup [.str "a"]) = H2
    intro s2 f2
    refine ⟨by show 1 ≤ sizeLine; decide, fun a3 h3 => ?_⟩
    have s3 : Same H2 (upd H2 a3 (HO.lst [.str "a"])) := same_upd h3
    have f3 : (upd H2 a3 (HO.lst [.str "a"])) a3 = some (HO.lst [.str "a"]) := upd_same
    revert s3 f3
    generalize upd H2 a3 (HO.lst [.str "a"]) = H3
    intro s3 f3
    refine ⟨by show 18 ≤ sizeLine; decide, fun o ho => ?_⟩
    have all3 : ∀ x ∈ [V.non, V.bl true, V.bl false, V.int 0, V.int 1, V.str (Str.ofString ""), V.str (Str.ofString "A"), V.str (Str.ofString "ninechars"), V.str (Str.ofString "a b"), V.str (Str.ofString "a+b"), V.str (Str.ofString "-"), V.str (Str.ofString "a1"), V.str (Str.ofString " a"), V.str (Str.ofString "a "), V.str (Str.ofString "+"), V.ref a1, V.ref a2, V.ref a3], ∃ d, Mv H3 x d ∧ ∀ a, x = .ref a → H a = none := by
      simp only [List.forall_mem_cons]
      refine ⟨⟨_, .non, fun _ e => nomatch e⟩, ⟨_, .bl _, fun _ e => nomatch e⟩, ⟨_, .bl _, fun _ e => nomatch e⟩, ⟨_, .int (.inl rfl), fun _ e => nomatch e⟩, ⟨_, .int (.inr rfl), fun _ e => nomatch e⟩, ?_, ?_, ?_, ?_, ?_, ?_, ?_, ?_, ?_, ?_, ⟨_, .t0 (s3 _ _ (s2 _ _ f1)), fun _ e => by cases e; exact h1⟩, ⟨_, .t1 (s3 _ _ f2), fun _ e => by cases e; exact none_of s1 h2⟩, ⟨_, .l1 f3, fun _ e => by cases e; exact none_of (s1.trans s2) h3⟩, fun _ h => nomatch h⟩
      all_goals exact mv_lit2 (by decide +kernel) (by decide +kernel)
    have len18 : [V.non, V.bl true, V.bl false, V.int 0, V.int 1, V.str (Str.ofString ""), V.str (Str.ofString "A"), V.str (Str.ofString "ninechars"), V.str (Str.ofString "a b"), V.str (Str.ofString "a+b"), V.str (Str.ofString "-"), V.str (Str.ofString "a1"), V.str (Str.ofString " a"), V.str (Str.ofString "a "), V.str (Str.ofString "+"), V.ref a1, V.ref a2, V.ref a3].length = 18 := rfl
    revert all3 len18
    generalize [V.non, V.bl true, V.bl false, V.int 0, V.int 1, V.str (Str.ofString ""), V.str (Str.ofString "A"), V.str (Str.ofString "ninechars"), V.str (Str.ofString "a b"), V.str (Str.ofString "a+b"), V.str (Str.ofString "-"), V.str (Str.ofString "a1"), V.str (Str.ofString " a"), V.str (Str.ofString "a "), V.str (Str.ofString "+"), V.ref a1, V.ref a2, V.ref a3] = ods
    intro all3 len18
    have s0 : Same H H3 := (s1.trans s2).trans s3
    have so : Same H3 (upd H3 o (HO.lst ods)) := same_upd ho
    have fo : (upd H3 o (HO.lst ods)) o = some (HO.lst ods) := upd_same
    revert so fo
    generalize upd H3 o (HO.lst ods) = H4
    intro so fo
    have k4 : Kp r H H4 := Kp.of_same (s0.trans so)
    have g4 := k4.2 g
    have no : o ≠ r := fun z => by
      have := (Kp.of_same (r := r) s0).2 g
      obtain ⟨x, y, e, _⟩ := this
      rw [z, e] at ho
      cases ho
    refine ⟨_, rfl, r, 12, rfl, g4, by decide, by decide, fun H5 n k5 hn => ?_⟩
    have k45 := k4.trans k5
    refine ⟨rfl, _, rfl, ?_⟩
    refine ite2 (fun z => ?_) (fun z => ?_)
    · refine ⟨_, rfl, _, rfl, fun dd hd => ?_⟩
      have nd : dd ≠ r := (k45.2 g).ne hd
      refine ⟨by show 1 ≤ sizeLine; decide, fun q hq => ?_⟩
      have sd : Same H5 (upd H5 dd (HO.dK [])) := same_upd hd
      have sq : Same (upd H5 dd (HO.dK [])) (upd (upd H5 dd (HO.dK [])) q (HO.lst [V.ref dd])) := same_upd hq
      have fd : (upd (upd H5 dd (HO.dK [])) q (HO.lst [V.ref dd])) dd = some (HO.dK []) := sq _ _ upd_same
      have fq : (upd (upd H5 dd (HO.dK [])) q (HO.lst [V.ref dd])) q = some (HO.lst [V.ref dd]) := upd_same
      have s6 := sd.trans sq
      revert s6 fd fq
      generalize upd (upd H5 dd (HO.dK [])) q (HO.lst [V.ref dd]) = H6
      intro fd fq s6
      have fo6 : H6 o = some (HO.lst ods) := s6 _ _ (k5.1 o _ no fo)
      refine ⟨o, q, ods, [V.ref dd], rfl, rfl, fo6, fq, (by rw [len18, List.length_singleton]; decide), fun m hm => ?_⟩
      have k6 : Kp r H5 (upd H6 m (HO.lst (ods ++ [V.ref dd]))) := Kp.of_same (s6.trans (same_upd hm))
      have g6 := (k45.trans k6).2 g
      refine ⟨r, _, rfl, g6, .inl ⟨m, _, rfl, upd_same, Rg.ne' g6 upd_same (by rw [List.length_append, len18, List.length_singleton]; decide), (by simp), (by rw [List.length_append, len18, List.length_singleton]; decide), fun H7 x k7 hx => ?_⟩⟩
      have kk := (k45.trans k6).trans k7
      rcases List.mem_append.mp hx with hx | hx
      · obtain ⟨d, md, fr⟩ := all3 x hx
        exact k H7 x d kk ((md.same so).kp g4 ((k5.trans k6).trans k7)) fr
      · obtain rfl := List.mem_singleton.mp hx
        refine k H7 _ _ kk (.d0 (k7.1 dd _ nd ?_)) (fun _ e => by cases e; exact k45.free g hd)
        rw [upd_ne (ne_of_none fd hm)]
        exact fd
    · have g5 := k45.2 g
      refine ⟨_, rfl, _, rfl, r, _, rfl, g5, .inl ⟨p, _, rfl, k45.1 p _ npr hL, npr, (by simpa using tne), (by rw [List.length_map]; exact Nat.le_trans tl (by decide)), fun H7 x k7 hx => ?_⟩⟩
      obtain ⟨t, ht, rfl⟩ := List.mem_map.mp hx
      have nm := nms t ht
      exact k H7 _ _ (k45.trans k7) (.str (nm_asc nm) (by have := of_decide_eq_true (Bool.and_eq_true_iff.mp nm).1; omega)) (fun _ e => nomatch e)
end
end K12
namespace K12
open PySem L2 SR
theorem lit_a : Str.ofString "a" = txt [97] := by decide +kernel
theorem lit_b : Str.ofString "b" = txt [98] := by decide +kernel
theorem lit_ab : Str.ofString "ab" = txt [97, 98] := by decide +kernel
theorem lit_z : Str.ofString "z" = txt [122] := by decide +kernel
theorem lit_label : Str.ofString "label" = txt [108, 97, 98, 101, 108] := by decide +kernel
theorem lit_none : Str.ofString "none" = txt [110, 111, 110, 101] := by decide +kernel
theorem lit_abc : Str.ofString "abcdefghijklmnopqrstuvwxyz" = txt abc := by decide +kernel
theorem nm_of {l : Tx} (h1 : l.length ≤ 8) (h2 : l ≠ []) (h3 : l.all low = true) : nmC l = true := by
  unfold nmC
  rw [decide_eq_true h1, decide_eq_false h2, h3]
  rfl
theorem Kp.put {r D : Addr} {H H2 : Hp} {o : HO} (k : Kp r H H2) (hD : H D = none) (n : D ≠ r) : Kp r H (upd H2 D o) := by
  refine ⟨fun b u hb e => ?_, fun g => ?_⟩
  · rw [upd_ne (ne_of_none e hD)]
    exact k.1 b u hb e
  · obtain ⟨x, y, h, q⟩ := k.2 g
    exact ⟨x, y, by rw [upd_ne (Ne.symm n)]; exact h, q⟩
def pl8 (c : Nat) : List Tx := [[c], [c, 97], rep 8 [c], [98, c], [122], [c, 97, 98], [108, 97, 98, 101, 108], [110, 111, 110, 101]]
theorem pl8_nm {c : Nat} (h : low c = true) : ∀ t ∈ pl8 c, nmC t = true := by
  have e : rep 8 [c] = [c, c, c, c, c, c, c, c] := rfl
  unfold pl8
  rw [e]
  simp only [List.forall_mem_cons]
  have h1 : 97 ≤ c := of_decide_eq_true (Bool.and_eq_true_iff.mp h).1
  have h2 : c ≤ 122 := of_decide_eq_true (Bool.and_eq_true_iff.mp h).2
  refine ⟨?_, ?_, ?_, ?_, ?_, ?_, ?_, ?_, fun _ z => nomatch z⟩
  all_goals exact nm_of (by simp) (by simp) (by simp [low, h1, h2])
theorem seq_ix {n m : Nat} (h : n < m) : seqIndex? (n : Int) m = some n := by
  unfold seqIndex?
  simp only [show ¬ ((n : Int) < 0) by omega, if_false]
  rw [if_pos]
  · simp
  · simp
    omega
theorem erase_map {α β : Type} (f : α → β) : ∀ (l : List α) (n : Nat), (l.map f).eraseIdx n = (l.eraseIdx n).map f
  | [], _ => rfl
  | _ :: _, 0 => rfl
  | a :: l, n + 1 => by
    show f a :: (l.map f).eraseIdx n = f a :: (l.eraseIdx n).map f
    rw [erase_map f l n]
theorem flat_tv (ts : List Tx) : (ts.map tv).all flatV = true := by
  rw [List.all_map]
  exact List.all_eq_true.mpr fun _ _ => rfl
section
variable {P : Program} {w : World} {K : PySem.W.Frag} {mg : Str → Option Value} {base : Heap}
/-! ### _law_pool -/
def spPool : Sp := fun vs H Q _ => ∃ r : Addr, vs = [.ref r] ∧ Rg H r ∧ ∀ H' p (ts : List Tx), Kp r H H' → H p = none → p ≠ r → H' p = some (.lst (ts.map tv)) → ts ≠ [] → ts.length ≤ 5 → (∀ t ∈ ts, nmC t = true) → Q (.ref p) H'
theorem scPo : FnScope ["_law_rng_here", "_law_first", "_law_pool_here", "_law_found", "_law_turn", "_law_one"] ["_law_rng_here"] (defScope sPool) := ⟨rfl, rfl, rfl, by decide +kernel, rfl, by decide +kernel, by decide +kernel⟩
theorem ok_pool {f fD : Addr} {fd dD : FuncData} (F : Fun K "_law_pool" "_law_pool" sPool f fd) (B : BEnv mg) (AD : At K mg "_law_draw" sDraw ["_law_rng_here", "_law_many"] fD dD) :
    FnOk P w K mg base CX0 2 f fd ["_law_rng_here"] spPool := by
  have GD : FnOk P w K mg base CX0 1 fD dD ["_law_rng_here", "_law_many"] spDraw := ok_draw AD.F B
  refine F.ok scPo (fun vs H Q E h => ?_) (fun cdv A outer_ s H vs Q E hr h => ?_)
  · obtain ⟨r, rfl, _⟩ := h
    rfl
  · obtain ⟨r, rfl, g, k⟩ := h
    refine ⟨_, pss_cons (ps_set (i := 1) scPo.nd rfl (Or.inl rfl) (pe_ix ix_str pe_str (pe_call GD hr (by rfl) AD.m AD.F.kp AD.b .nil pass0 (pa_cons (pv 0) (pa_cons pe_int pa_nil))) (fun _ _ => rfl)))
      (pss_cons (ps_set (i := 2) scPo.nd rfl (Or.inl rfl) (pe_lst (pa_cons (pv 1) (pa_cons (pe_op op_add_str (pv 1) pe_str) (pa_cons (pe_op op_mulS (pv 1) pe_int) (pa_cons (pe_op op_add_str pe_str (pv 1)) (pa_cons pe_str (pa_cons (pe_op op_add_str (pv 1) pe_str) (pa_cons pe_str (pa_cons pe_str pa_nil))))))))))
      (pss_cons (ps_set (i := 3) scPo.nd rfl (Or.inl rfl) (pe_lst pa_nil))
      (pss_cons (ps_for PassesOwn.never rfl (pi_range1 (by rfl) B.zRange (pa_cons pe_int pa_nil)) (pg_name (i := 4) scPo.nd rfl (Or.inl rfl))
        (pss_cons (ps_set (i := 5) scPo.nd rfl (Or.inl rfl) (pe_bm PySem.F.plainAttrs_list PySem.F.slot_list_pop PySem.F.type_list_pop mt_popAt (pv 2) (pa_cons (pe_call GD hr (by rfl) AD.m AD.F.kp AD.b .nil pass0 (pa_cons (pv 0) (pa_cons (pe_callB call_len_seq (by rfl) B.zLen PySem.boot_len (pa_cons (pv 2) pa_nil)) pa_nil))) pa_nil)))
        (pss_one (ps_if (pt_cmpR op_notIn_seq (pv 5) (pv 3) (by rfl)) (pss_one (ps_expr (pe_bm PySem.F.plainAttrs_list PySem.F.slot_list_append PySem.F.type_list_append mt_append (pv 3) (pa_cons (pv 5) pa_nil)))) pss_nil))))
      (pss_one (ps_ret (pv 3)))))), ?_⟩
    have hb : big = 1000000 := rfl
    have hsl : sizeLine = 16777216 := sizeLine_eq
    refine ⟨_, rfl, r, 26, rfl, g, by decide, by decide, fun H1 n k1 hn => ?_⟩
    rw [lit_abc]
    have hc : abc[n]? = some (abc[n]'(by rw [abc_all.2]; exact hn)) := List.getElem?_eq_getElem _
    generalize abc[n]'(by rw [abc_all.2]; exact hn) = c at hc
    have lc : low c = true := List.all_eq_true.mp abc_all.1 c (List.mem_of_getElem? hc)
    refine ⟨_, _, c, rfl, rfl, (by rw [txt_len, abc_all.2]; decide), atI_nat hc, ?_⟩
    have line : ∀ x y : Str, x.length ≤ 10 → y.length ≤ 10 → x.length + y.length ≤ sizeLine := fun x y h1 h2 => by omega
    have c1 : (⟨#[c]⟩ : Str) = txt [c] := rfl
    rw [c1]
    have l1 : (txt [c]).length ≤ 10 := by rw [txt_len]; decide +revert
    refine ⟨_, rfl, _, rfl, _, _, rfl, rfl, line _ _ l1 (by decide +kernel), _, rfl, [c], 8, rfl, rfl, by decide, (by show 1 * 8 ≤ big; decide), _, rfl, _, _, rfl, rfl, line _ _ (by decide +kernel) l1, _, rfl, _, _, rfl, rfl, line _ _ l1 (by decide +kernel), ?_⟩
    refine ⟨by show 8 ≤ sizeLine; decide, fun o ho => ?_⟩
    have no : o ≠ r := (k1.2 g).ne ho
    have ho0 : H o = none := k1.free g ho
    have lst : ([V.str (txt [c]), V.str (txt [c] ++ Str.ofString "a"), tv (rep 8 [c]), V.str (Str.ofString "b" ++ txt [c]), V.str (Str.ofString "z"), V.str (txt [c] ++ Str.ofString "ab"), V.str (Str.ofString "label"), V.str (Str.ofString "none")] : List V) = (pl8 c).map tv := by
      rw [lit_a, lit_b, lit_ab, lit_z, lit_label, lit_none, txt_app, txt_app, txt_app]
      rfl
    have s2 : Kp r H (upd H1 o (HO.lst [V.str (txt [c]), V.str (txt [c] ++ Str.ofString "a"), tv (rep 8 [c]), V.str (Str.ofString "b" ++ txt [c]), V.str (Str.ofString "z"), V.str (txt [c] ++ Str.ofString "ab"), V.str (Str.ofString "label"), V.str (Str.ofString "none")])) := k1.trans (Kp.of_same (same_upd ho))
    have f2 : (upd H1 o (HO.lst [V.str (txt [c]), V.str (txt [c] ++ Str.ofString "a"), tv (rep 8 [c]), V.str (Str.ofString "b" ++ txt [c]), V.str (Str.ofString "z"), V.str (txt [c] ++ Str.ofString "ab"), V.str (Str.ofString "label"), V.str (Str.ofString "none")])) o = some (HO.lst ((pl8 c).map tv)) := by rw [upd_same, lst]
    revert s2 f2
    generalize upd H1 o (HO.lst [V.str (txt [c]), V.str (txt [c] ++ Str.ofString "a"), tv (rep 8 [c]), V.str (Str.ofString "b" ++ txt [c]), V.str (Str.ofString "z"), V.str (txt [c] ++ Str.ofString "ab"), V.str (Str.ofString "label"), V.str (Str.ofString "none")]) = H2
    intro s2 f2
    clear lst
    refine ⟨by show 0 ≤ sizeLine; decide, fun q hq => ?_⟩
    have nq : q ≠ r := (s2.2 g).ne hq
    have hq0 : H q = none := s2.free g hq
    have oq : o ≠ q := ne_of_none f2 hq
    refine ⟨_, rfl, (by decide), (by decide), ?_⟩
    show ∃ W, _
    refine for_range (lo := 0) (n := 5) (fun i σ H' => ∃ (t u : Option V) (ps ts : List Tx), σ = [some (.ref r), some (tv [c]), some (.ref o), some (.ref q), t, u] ∧ Kp r H H' ∧ H' o = some (.lst (ps.map tv)) ∧ H' q = some (.lst (ts.map tv)) ∧ ps.length = 8 - i ∧ ts.length ≤ i ∧ (0 < i → ts ≠ []) ∧ (∀ t ∈ ps, nmC t = true) ∧ ∀ t ∈ ts, nmC t = true)
      ⟨none, none, pl8 c, [], rfl, s2.put hq0 nq, by rw [upd_ne oq]; exact f2, upd_same, rfl, Nat.le_refl _, fun z => absurd z (by decide), pl8_nm lc, fun _ z => nomatch z⟩ ?_ ?_
    · rintro i σ H' hi ⟨t, u, ps, ts, rfl, kp, fo, fq, lp, lt, ne, np, nt⟩
      have g' := kp.2 g
      refine ⟨_, rfl, (.inl ⟨rfl, _, SqL.of fo⟩), _, rfl, _, rfl, o, _, rfl, .inl (SqL.of fo), r, ps.length, ?_, g', by omega, by omega, fun H3 m k3 hm => ?_⟩
      · rw [List.length_map]
        rfl
      have fo3 := k3.1 o _ no fo
      have fq3 := k3.1 q _ nq fq
      have hv : (ps.map tv)[m]? = some (tv ps[m]) := by rw [List.getElem?_map, List.getElem?_eq_getElem hm]; rfl
      refine ⟨o, _, _, m, _, rfl, rfl, fo3, by omega, by omega, seq_ix (by rw [List.length_map]; exact hm), hv, ?_⟩
      have nmm : nmC ps[m] = true := np _ (List.getElem_mem hm)
      rw [erase_map]
      have kp3 : Kp r H (upd H3 o (.lst ((ps.eraseIdx m).map tv))) := (kp.trans k3).put ho0 no
      have fq4 : (upd H3 o (.lst ((ps.eraseIdx m).map tv))) q = some (.lst (ts.map tv)) := by rw [upd_ne (Ne.symm oq)]; exact fq3
      have fo4 : (upd H3 o (.lst ((ps.eraseIdx m).map tv))) o = some (.lst ((ps.eraseIdx m).map tv)) := upd_same
      revert kp3 fq4 fo4
      generalize upd H3 o (.lst ((ps.eraseIdx m).map tv)) = H4
      intro kp3 fq4 fo4
      have le : (ps.eraseIdx m).length = 8 - (i + 1) := by rw [List.length_eraseIdx_of_lt hm]; omega
      have npe : ∀ t ∈ ps.eraseIdx m, nmC t = true := fun t ht => np t (List.mem_of_mem_eraseIdx ht)
      refine ⟨_, rfl, _, rfl, q, _, rfl, .inl (SqL.of fq4), rfl, flat_tv ts, ?_⟩
      rw [if_pos rfl]
      refine ⟨_, rfl, ?_⟩
      refine ite2 (fun z => ?_) (fun z => ?_)
      · refine ⟨_, rfl, (.inl ⟨rfl, _, SqL.of fq4⟩), _, rfl, q, _, _, rfl, rfl, fq4, (by rw [List.length_map]; omega), ?_⟩
        refine ⟨_, _, ps.eraseIdx m, ts ++ [ps[m]], rfl, kp3.put hq0 nq, by rw [upd_ne oq]; exact fo4, by rw [upd_same, List.map_append]; rfl, le, by rw [List.length_append, List.length_singleton]; omega, fun _ => by simp, npe, fun t ht => ?_⟩
        rcases List.mem_append.mp ht with ht | ht
        · exact nt t ht
        · rw [List.mem_singleton.mp ht]
          exact nmm
      · refine ⟨_, _, ps.eraseIdx m, ts, rfl, kp3, fo4, fq4, le, by omega, fun _ e => z ?_, npe, nt⟩
        rw [e]
        rfl
    · rintro σ H' ⟨t, u, ps, ts, rfl, kp, fo, fq, lp, lt, ne, np, nt⟩
      exact ⟨_, rfl, k H' q ts kp hq0 nq fq (ne (by decide)) lt nt⟩
end
end K12
namespace K12
open PySem L2 SR
theorem ix_of {K : PySem.W.Frag} {H : Hp} {p : Addr} {xs : List V} {i : Int} {v : V} {Q : VK} (h : SqL K H p xs ∨ SqT K H p xs) (e : atI xs i = some v) (q : Q v H) : rIx K (.ref p) (.int i) H Q :=
  h.elim (fun s => .inl ⟨p, xs, i, v, rfl, rfl, s, e, q⟩) fun s => .inr (.inl ⟨p, xs, i, v, rfl, rfl, s, e, q⟩)
/-- what a call of Label with these wishes -/
def Asks (K : PySem.W.Frag) (C CN CM : Addr) (H : Hp) (xs : List V) (Q : VK) (E : XK) : Prop := (∀ v ∈ xs, Cl K H v) ∧ (∀ v, xs.find? bad = some v → Bad "value" CN H v E) ∧ ∀ ts ys, xs = ts.map V.str → ts.all isNm = true → Srt ts ys →
  (4 < ys.length → BadM CM H (.str "marks") (.int 4) E) ∧ (ys.length ≤ 4 → ∀ H' z, Same H H' → H z = none → Lb C H' z ys → Q (.ref z) H')
theorem mk_any {K : PySem.W.Frag} {H1 : Hp} {C CN CM z dz : Addr} {xs : List V} {Q : VK} {E : XK} (a : Asks K C CN CM H1 xs Q E) (few : xs.length < 60) (hz : H1 z = none) (hd : H1 dz = none) (ne : dz ≠ z) :
    ∃ ws rest, V.ref z :: xs = ws ++ rest ∧ ws.length = ([("self" : Str)]).length ∧ rest.length ≤ sizeLine ∧
      ∀ p, (upd (upd H1 dz (.own z)) z (.ins C dz [])) p = Option.none → spInit K C CN CM (ws ++ [V.ref p]) (upd (upd (upd H1 dz (.own z)) z (.ins C dz [])) p (.tup rest)) (fun v H2 => v = .non ∧ Q (.ref z) H2) E := by
  obtain ⟨cl, kb, kt⟩ := a
  refine ⟨[.ref z], xs, rfl, rfl, by rw [sizeLine_eq]; omega, fun p hp => ?_⟩
  have np : p ≠ z := fun e => by rw [e, upd_same] at hp; cases hp
  have sm : Same H1 (upd (upd (upd H1 dz (.own z)) z (.ins C dz [])) p (.tup xs)) := fun b o q => by
    have q2 : (upd (upd H1 dz (.own z)) z (.ins C dz [])) b = some o := by rw [upd_ne (ne_of_none q hz), upd_ne (ne_of_none q hd)]; exact q
    rw [upd_ne (ne_of_none q2 hp)]
    exact q2
  refine ⟨z, dz, p, xs, rfl, by rw [upd_ne (Ne.symm np), upd_same], upd_same, few, fun v hv => Cl.same (cl v hv) fun a t _ ty => tyx_same ty sm, fun v e => bad_of sm (kb v e), fun ts ys e nms s => ?_⟩
  obtain ⟨k5, k4⟩ := kt ts ys e nms s
  refine ⟨fun l5 => badM_of sm (k5 l5), fun l4 H' t kp hz' ht => ⟨rfl, k4 l4 H' z (fun b o q => ?_) hz ⟨?_, l4, SR.self s, dz, t, hz', ht⟩⟩⟩
  · exact kp b o (ne_of_none q hz) (sm b o q)
  · exact List.all_eq_true.mpr fun y hy => List.all_eq_true.mp nms y ((s.2.2 y).mp hy)
section
variable {P : Program} {w : World} {K : PySem.W.Frag} {mg : Str → Option Value} {base : Heap}
/-! ### _law_label -/
def spLabel (K : PySem.W.Frag) (C CN CM : Addr) : Sp := fun vs H Q E => ∃ (p : Addr) (xs : List V), vs = [.ref p] ∧ (SqL K H p xs ∨ SqT K H p xs) ∧ xs.length ≤ 6 ∧ Asks K C CN CM H xs Q E
theorem scLb : FnScope ["_law_marks"] ["_law_marks"] (defScope sLabel) := ⟨rfl, rfl, rfl, by decide +kernel, rfl, by decide +kernel, by decide +kernel⟩
theorem ok_label {C f CN fN CM fM fI f1 : Addr} {fd dN dM dI d1 : FuncData} {tk t2 : Tok} (F : Fun K "_law_label" "_law_label" sLabel f1 d1) (L : LabC K mg C f CN fN CM fM fd dN dM) (Z : Zn mg) (zT : mg "tuple" = none) (zS : mg "set" = none) (zO : mg "sorted" = none)
    (mM : mg "MOST_LETTERS" = some (.int 8 tk)) (mL : mg "LETTERS" = some (.str "abcdefghijklmnopqrstuvwxyz" t2)) (AN : At K mg "is_name" sIsName ["value"] fI dI) : FnOk P w K mg base (L2.CX P w) 5 f1 d1 ["_law_marks"] (spLabel K C CN CM) := by
  have GI := ok_init (P := P) (w := w) (base := base) L Z zT zS zO mM mL AN
  refine F.okX scLb (fun vs H Q E h => ?_) (fun cdv A outer_ s H vs Q E hr h => ?_)
  · obtain ⟨p, xs, rfl, _⟩ := h
    rfl
  · obtain ⟨p, xs, rfl, hS, l6, asks⟩ := h
    refine ⟨_, pss_cons (ps_if (pt_cmpR op_eq (pe_callB call_len_seq (by rfl) Z.zLen PySem.boot_len (pa_cons (pv 0) pa_nil)) pe_int (nomark _)) (pss_one (ps_ret (pe_make0 (E := E) L.mkr GI hr (by rfl) L.m (CmS.passE (takes_of rfl rfl rfl rfl))))) pss_nil)
      (pss_cons (ps_if (pt_cmpR op_eq (pe_callB call_len_seq (by rfl) Z.zLen PySem.boot_len (pa_cons (pv 0) pa_nil)) pe_int (nomark _)) (pss_one (ps_ret (StX.pe_makeR (E := E) L.mkr GI hr (by rfl) L.m (CmS.passE (takes_of rfl rfl rfl rfl)) (pa_cons (pe_ix ix_seq (pv 0) pe_int (fun _ _ => rfl)) pa_nil)))) pss_nil)
      (pss_cons (ps_if (pt_cmpR op_eq (pe_callB call_len_seq (by rfl) Z.zLen PySem.boot_len (pa_cons (pv 0) pa_nil)) pe_int (nomark _)) (pss_one (ps_ret (StX.pe_makeR (E := E) L.mkr GI hr (by rfl) L.m (CmS.passE (takes_of rfl rfl rfl rfl)) (pa_cons (pe_ix ix_seq (pv 0) pe_int (fun _ _ => rfl)) (pa_cons (pe_ix ix_seq (pv 0) pe_int (fun _ _ => rfl)) pa_nil))))) pss_nil)
      (pss_cons (ps_if (pt_cmpR op_eq (pe_callB call_len_seq (by rfl) Z.zLen PySem.boot_len (pa_cons (pv 0) pa_nil)) pe_int (nomark _)) (pss_one (ps_ret (StX.pe_makeR (E := E) L.mkr GI hr (by rfl) L.m (CmS.passE (takes_of rfl rfl rfl rfl)) (pa_cons (pe_ix ix_seq (pv 0) pe_int (fun _ _ => rfl)) (pa_cons (pe_ix ix_seq (pv 0) pe_int (fun _ _ => rfl)) (pa_cons (pe_ix ix_seq (pv 0) pe_int (fun _ _ => rfl)) pa_nil)))))) pss_nil)
      (pss_cons (ps_if (pt_cmpR op_eq (pe_callB call_len_seq (by rfl) Z.zLen PySem.boot_len (pa_cons (pv 0) pa_nil)) pe_int (nomark _)) (pss_one (ps_ret (StX.pe_makeR (E := E) L.mkr GI hr (by rfl) L.m (CmS.passE (takes_of rfl rfl rfl rfl)) (pa_cons (pe_ix ix_seq (pv 0) pe_int (fun _ _ => rfl)) (pa_cons (pe_ix ix_seq (pv 0) pe_int (fun _ _ => rfl)) (pa_cons (pe_ix ix_seq (pv 0) pe_int (fun _ _ => rfl)) (pa_cons (pe_ix ix_seq (pv 0) pe_int (fun _ _ => rfl)) pa_nil))))))) pss_nil)
      (pss_cons (ps_if (pt_cmpR op_eq (pe_callB call_len_seq (by rfl) Z.zLen PySem.boot_len (pa_cons (pv 0) pa_nil)) pe_int (nomark _)) (pss_one (ps_ret (StX.pe_makeR (E := E) L.mkr GI hr (by rfl) L.m (CmS.passE (takes_of rfl rfl rfl rfl)) (pa_cons (pe_ix ix_seq (pv 0) pe_int (fun _ _ => rfl)) (pa_cons (pe_ix ix_seq (pv 0) pe_int (fun _ _ => rfl)) (pa_cons (pe_ix ix_seq (pv 0) pe_int (fun _ _ => rfl)) (pa_cons (pe_ix ix_seq (pv 0) pe_int (fun _ _ => rfl)) (pa_cons (pe_ix ix_seq (pv 0) pe_int (fun _ _ => rfl)) pa_nil)))))))) pss_nil)
      (pss_one (ps_ret (StX.pe_makeR (E := E) L.mkr GI hr (by rfl) L.m (CmS.passE (takes_of rfl rfl rfl rfl)) (pa_cons (pe_ix ix_seq (pv 0) pe_int (fun _ _ => rfl)) (pa_cons (pe_ix ix_seq (pv 0) pe_int (fun _ _ => rfl)) (pa_cons (pe_ix ix_seq (pv 0) pe_int (fun _ _ => rfl)) (pa_cons (pe_ix ix_seq (pv 0) pe_int (fun _ _ => rfl)) (pa_cons (pe_ix ix_seq (pv 0) pe_int (fun _ _ => rfl)) (pa_cons (pe_ix ix_seq (pv 0) pe_int (fun _ _ => rfl)) pa_nil)))))))))))))), ?_⟩
    have go : ∀ z dz, H z = none → H dz = none → dz ≠ z → _ := fun z dz hz hd ne => mk_any asks (by omega) hz hd ne
    match xs, l6, hS, asks, go with
    | [], l6, hS, asks, go =>
      refine ⟨_, rfl, p, _, rfl, hS, ?_⟩
      refine ⟨rfl, _, rfl, ?_⟩
      refine ite2 (fun _ => ?_) (fun z => absurd (by simp) z)
      exact go
    | [x0], l6, hS, asks, go =>
      refine ⟨_, rfl, p, _, rfl, hS, ?_⟩
      refine ⟨rfl, _, rfl, ?_⟩
      refine ite2 (fun z => absurd z (by simp)) (fun _ => ?_)
      refine ⟨_, rfl, p, _, rfl, hS, ?_⟩
      refine ⟨rfl, _, rfl, ?_⟩
      refine ite2 (fun _ => ?_) (fun z => absurd (by simp) z)
      refine ⟨_, rfl, ix_of hS rfl ?_⟩
      exact go
    | [x0, x1], l6, hS, asks, go =>
      refine ⟨_, rfl, p, _, rfl, hS, ?_⟩
      refine ⟨rfl, _, rfl, ?_⟩
      refine ite2 (fun z => absurd z (by simp)) (fun _ => ?_)
      refine ⟨_, rfl, p, _, rfl, hS, ?_⟩
      refine ⟨rfl, _, rfl, ?_⟩
      refine ite2 (fun z => absurd z (by simp)) (fun _ => ?_)
      refine ⟨_, rfl, p, _, rfl, hS, ?_⟩
      refine ⟨rfl, _, rfl, ?_⟩
      refine ite2 (fun _ => ?_) (fun z => absurd (by simp) z)
      refine ⟨_, rfl, ix_of hS rfl ?_⟩
      refine ⟨_, rfl, ix_of hS rfl ?_⟩
      exact go
    | [x0, x1, x2], l6, hS, asks, go =>
      refine ⟨_, rfl, p, _, rfl, hS, ?_⟩
      refine ⟨rfl, _, rfl, ?_⟩
      refine ite2 (fun z => absurd z (by simp)) (fun _ => ?_)
      refine ⟨_, rfl, p, _, rfl, hS, ?_⟩
      refine ⟨rfl, _, rfl, ?_⟩
      refine ite2 (fun z => absurd z (by simp)) (fun _ => ?_)
      refine ⟨_, rfl, p, _, rfl, hS, ?_⟩
      refine ⟨rfl, _, rfl, ?_⟩
      refine ite2 (fun z => absurd z (by simp)) (fun _ => ?_)
      refine ⟨_, rfl, p, _, rfl, hS, ?_⟩
      refine ⟨rfl, _, rfl, ?_⟩
      refine ite2 (fun _ => ?_) (fun z => absurd (by simp) z)
      refine ⟨_, rfl, ix_of hS rfl ?_⟩
      refine ⟨_, rfl, ix_of hS rfl ?_⟩
      refine ⟨_, rfl, ix_of hS rfl ?_⟩
      exact go
    | [x0, x1, x2, x3], l6, hS, asks, go =>
      refine ⟨_, rfl, p, _, rfl, hS, ?_⟩
      refine ⟨rfl, _, rfl, ?_⟩
      refine ite2 (fun z => absurd z (by simp)) (fun _ => ?_)
      refine ⟨_, rfl, p, _, rfl, hS, ?_⟩
      refine ⟨rfl, _, rfl, ?_⟩
      refine ite2 (fun z => absurd z (by simp)) (fun _ => ?_)
      refine ⟨_, rfl, p, _, rfl, hS, ?_⟩
      refine ⟨rfl, _, rfl, ?_⟩
      refine ite2 (fun z => absurd z (by simp)) (fun _ => ?_)
      refine ⟨_, rfl, p, _, rfl, hS, ?_⟩
      refine ⟨rfl, _, rfl, ?_⟩
      refine ite2 (fun z => absurd z (by simp)) (fun _ => ?_)
      refine ⟨_, rfl, p, _, rfl, hS, ?_⟩
      refine ⟨rfl, _, rfl, ?_⟩
      refine ite2 (fun _ => ?_) (fun z => absurd (by simp) z)
      refine ⟨_, rfl, ix_of hS rfl ?_⟩
      refine ⟨_, rfl, ix_of hS rfl ?_⟩
      refine ⟨_, rfl, ix_of hS rfl ?_⟩
      refine ⟨_, rfl, ix_of hS rfl ?_⟩
      exact go
    | [x0, x1, x2, x3, x4], l6, hS, asks, go =>
      refine ⟨_, rfl, p, _, rfl, hS, ?_⟩
      refine ⟨rfl, _, rfl, ?_⟩
      refine ite2 (fun z => absurd z (by simp)) (fun _ => ?_)
      refine ⟨_, rfl, p, _, rfl, hS, ?_⟩
      refine ⟨rfl, _, rfl, ?_⟩
      refine ite2 (fun z => absurd z (by simp)) (fun _ => ?_)
      refine ⟨_, rfl, p, _, rfl, hS, ?_⟩
      refine ⟨rfl, _, rfl, ?_⟩
      refine ite2 (fun z => absurd z (by simp)) (fun _ => ?_)
      refine ⟨_, rfl, p, _, rfl, hS, ?_⟩
      refine ⟨rfl, _, rfl, ?_⟩
      refine ite2 (fun z => absurd z (by simp)) (fun _ => ?_)
      refine ⟨_, rfl, p, _, rfl, hS, ?_⟩
      refine ⟨rfl, _, rfl, ?_⟩
      refine ite2 (fun z => absurd z (by simp)) (fun _ => ?_)
      refine ⟨_, rfl, p, _, rfl, hS, ?_⟩
      refine ⟨rfl, _, rfl, ?_⟩
      refine ite2 (fun _ => ?_) (fun z => absurd (by simp) z)
      refine ⟨_, rfl, ix_of hS rfl ?_⟩
      refine ⟨_, rfl, ix_of hS rfl ?_⟩
      refine ⟨_, rfl, ix_of hS rfl ?_⟩
      refine ⟨_, rfl, ix_of hS rfl ?_⟩
      refine ⟨_, rfl, ix_of hS rfl ?_⟩
      exact go
    | [x0, x1, x2, x3, x4, x5], l6, hS, asks, go =>
      refine ⟨_, rfl, p, _, rfl, hS, ?_⟩
      refine ⟨rfl, _, rfl, ?_⟩
      refine ite2 (fun z => absurd z (by simp)) (fun _ => ?_)
      refine ⟨_, rfl, p, _, rfl, hS, ?_⟩
      refine ⟨rfl, _, rfl, ?_⟩
      refine ite2 (fun z => absurd z (by simp)) (fun _ => ?_)
      refine ⟨_, rfl, p, _, rfl, hS, ?_⟩
      refine ⟨rfl, _, rfl, ?_⟩
      refine ite2 (fun z => absurd z (by simp)) (fun _ => ?_)
      refine ⟨_, rfl, p, _, rfl, hS, ?_⟩
      refine ⟨rfl, _, rfl, ?_⟩
      refine ite2 (fun z => absurd z (by simp)) (fun _ => ?_)
      refine ⟨_, rfl, p, _, rfl, hS, ?_⟩
      refine ⟨rfl, _, rfl, ?_⟩
      refine ite2 (fun z => absurd z (by simp)) (fun _ => ?_)
      refine ⟨_, rfl, p, _, rfl, hS, ?_⟩
      refine ⟨rfl, _, rfl, ?_⟩
      refine ite2 (fun z => absurd z (by simp)) (fun _ => ?_)
      refine ⟨_, rfl, ix_of hS rfl ?_⟩
      refine ⟨_, rfl, ix_of hS rfl ?_⟩
      refine ⟨_, rfl, ix_of hS rfl ?_⟩
      refine ⟨_, rfl, ix_of hS rfl ?_⟩
      refine ⟨_, rfl, ix_of hS rfl ?_⟩
      refine ⟨_, rfl, ix_of hS rfl ?_⟩
      exact go
    | _ :: _ :: _ :: _ :: _ :: _ :: _ :: _, l6, _, _, _ => simp at l6
end
end K12
namespace K12
open PySem L2 SR
/-- what is due of these marks lies at q; what it is -/
def DueD (xs : List V) (H : Hp) (q : Addr) (ds : List PyData) : Prop :=
  (∃ v d, xs.find? bad = some v ∧ Mv H v d ∧ H q = some (.tup [.str "name", v]) ∧ ds = [.str "name", d]) ∨
  ∃ ts ys, xs = ts.map V.str ∧ ts.all isNm = true ∧ Srt ts ys ∧
    ((4 < ys.length ∧ H q = some (.tup [.str "many", .str "marks", .int 4]) ∧ ds = [.str "many", .str "marks", .int 4]) ∨
     (ys.length ≤ 4 ∧ ∃ t, H q = some (.tup [.str "marks", .ref t]) ∧ H t = some (.tup (ys.map V.str)) ∧ ds = [.str "marks", .tuple (ys.map PyData.str)]))
theorem DueD.same {xs : List V} {H H' : Hp} {q : Addr} {ds : List PyData} (h : DueD xs H q ds) (s : Same H H') : DueD xs H' q ds := by
  rcases h with ⟨v, d, a, b, c, e⟩ | ⟨ts, ys, a, b, c, ⟨l, h, e⟩ | ⟨l, t, h1, h2, e⟩⟩
  · exact .inl ⟨v, d, a, b.same s, s _ _ c, e⟩
  · exact .inr ⟨ts, ys, a, b, c, .inl ⟨l, s _ _ h, e⟩⟩
  · exact .inr ⟨ts, ys, a, b, c, .inr ⟨l, t, s _ _ h1, s _ _ h2, e⟩⟩
theorem DueD.det {xs : List V} {H : Hp} {q q' : Addr} {ds ds' : List PyData} (h : DueD xs H q ds) (h' : DueD xs H q' ds') : ds = ds' := by
  rcases h with ⟨v, d, a, b, c, rfl⟩ | ⟨ts, ys, a, b, c, h⟩
  · rcases h' with ⟨v', d', a', b', c', rfl⟩ | ⟨ts', ys', a', b', c', h'⟩
    · rw [a] at a'
      cases a'
      rw [b.det b']
    · rw [a', find_none b'] at a
      cases a
  · rcases h' with ⟨v', d', a', b', c', rfl⟩ | ⟨ts', ys', a', b', c', h'⟩
    · rw [a, find_none b] at a'
      cases a'
    · obtain rfl := str_inj (a.symm.trans a')
      obtain rfl := SR.unique c c'
      rcases h with ⟨l, h, rfl⟩ | ⟨l, t, h1, h2, rfl⟩ <;> rcases h' with ⟨l', h', rfl⟩ | ⟨l', t', h1', h2', rfl⟩ <;> first | rfl | omega
theorem sho_lit {x : Str} (h1 : (x.cps.toList.all fun c => decide (c < 128)) = true) (h2 : x.cps.toList.length ≤ 20) : Sho (.str x) := by
  rw [txt_of x]
  exact sho_str (by have := repr_le (asc_of h1); omega)
theorem shownAll_str : ∀ ys : List Str, PyData.shownAll (ys.map PyData.str) = ys.map reprText
  | [] => rfl
  | y :: r => by
    rw [List.map_cons]
    simp only [PyData.shownAll, PyData.shown, List.map_cons, shownAll_str r]
theorem showable_str : ∀ ys : List Str, PyData.showableAll (ys.map PyData.str) = true
  | [] => rfl
  | y :: r => by
    rw [List.map_cons]
    simp only [PyData.showableAll, PyData.showable, showable_str r, Bool.and_self]
theorem depth_str : ∀ ys : List Str, PyData.depthAll (ys.map PyData.str) = 0
  | [] => by simp [PyData.depthAll]
  | y :: r => by
    rw [List.map_cons]
    simp only [PyData.depthAll, PyData.depth, depth_str r]
    rfl
theorem nodict_str : ∀ ys : List Str, PyData.hasDictAll (ys.map PyData.str) = false
  | [] => rfl
  | y :: r => by
    rw [List.map_cons]
    simp only [PyData.hasDictAll, PyData.hasDict, nodict_str r, Bool.or_self]
theorem sho_names {ys : List Str} (nms : ys.all isNm = true) (l : ys.length ≤ 8) : Sho (.tuple (ys.map PyData.str)) := by
  refine ⟨by simpa only [PyData.showable] using showable_str ys, ?_, by simp only [PyData.depth, depth_str]; decide⟩
  have each : ∀ zs : List Str, (∀ y ∈ zs, isNm y = true) → ((zs.map reprText).map (·.length)).sum ≤ 82 * zs.length := fun zs => by
    induction zs with
    | nil => intro _; decide
    | cons z zs ih =>
      intro hz
      have a := repr_len8 (hz z List.mem_cons_self)
      have b := ih fun y hy => hz y (List.mem_cons_of_mem _ hy)
      rw [List.map_cons, List.map_cons, List.sum_cons, List.length_cons]
      omega
  have a := each ys fun y hy => List.all_eq_true.mp nms y hy
  have b := StrLaws.join_length_le ", " (ys.map reprText)
  have c : (", " : Str).length = 2 := by decide +kernel
  rw [c, List.length_map] at b
  simp only [PyData.shown, shownAll_str]
  unfold tupleText
  rw [strLen_append, strLen_append]
  have e1 : ("(" : Str).length = 1 := by decide +kernel
  have e2 : (Str.ofString (if (ys.map reprText).length == 1 then ",)" else ")")).length ≤ 2 := by split <;> decide +kernel
  rw [e1]
  omega
theorem th_names {K : PySem.W.Frag} {H : Hp} {t : Addr} {ys : List Str} (h : H t = some (.tup (ys.map V.str))) : Th K H (.ref t) (.tuple (ys.map PyData.str)) := .tup h (fun _ => dpT ys) (nodict_str ys)
theorem srt_nm {ts ys : List Str} (h : ts.all isNm = true) (s : Srt ts ys) : ys.all isNm = true := List.all_eq_true.mpr fun y hy => List.all_eq_true.mp h y ((s.2.2 y).mp hy)
/-- what is due, to be shown -/
theorem DueD.shows {K : PySem.W.Frag} {xs : List V} {H : Hp} {q : Addr} {ds : List PyData} (h : DueD xs H q ds) : ∃ vs, H q = some (.tup vs) ∧ Paired (Th K H) vs ds ∧ (∀ d ∈ ds, Sho d) ∧ ds.length ≤ 8 := by
  rcases h with ⟨v, d, a, b, c, rfl⟩ | ⟨ts, ys, a, b, c, ⟨l, h, rfl⟩ | ⟨l, t, h1, h2, rfl⟩⟩
  · refine ⟨_, c, .cons (.str _) (.cons b.th .nil), ?_, Nat.le_of_ble_eq_true rfl⟩
    simp only [List.forall_mem_cons]
    exact ⟨sho_lit (by decide +kernel) (by decide +kernel), b.sho, fun _ z => nomatch z⟩
  · refine ⟨_, h, .cons (.str _) (.cons (.str _) (.cons (.int _) .nil)), ?_, by decide⟩
    simp only [List.forall_mem_cons]
    exact ⟨sho_lit (by decide +kernel) (by decide +kernel), sho_lit (by decide +kernel) (by decide +kernel), ⟨by decide +kernel, by decide +kernel, by decide +kernel⟩, fun _ z => nomatch z⟩
  · refine ⟨_, h1, .cons (.str _) (.cons (th_names h2) .nil), ?_, Nat.le_of_ble_eq_true rfl⟩
    simp only [List.forall_mem_cons]
    exact ⟨sho_lit (by decide +kernel) (by decide +kernel), sho_names (srt_nm b c) (by omega), fun _ z => nomatch z⟩
section
variable {P : Program} {w : World} {K : PySem.W.Frag} {mg : Str → Option Value} {base : Heap}
/-! ### _law_due -/
def spDue : Sp := fun vs H Q _ => ∃ (p : Addr) (xs : List V), vs = [.ref p] ∧ H p = some (.lst xs) ∧ xs.length < 60 ∧ (∀ v ∈ xs, ∃ d, Mv H v d) ∧ ∀ H' q ds, Same H H' → H q = none → DueD xs H' q ds → Q (.ref q) H'
theorem scDu : FnScope ["_law_marks", "_law_mark_here", "_law_found"] ["_law_marks"] (defScope sDue) := ⟨rfl, rfl, rfl, by decide +kernel, rfl, by decide +kernel, by decide +kernel⟩
theorem ok_due {f fI : Addr} {fd dI : FuncData} (F : Fun K "_law_due" "_law_due" sDue f fd) (Z : Zn mg) (zT : mg "tuple" = none) (zS : mg "set" = none) (zO : mg "sorted" = none) (AI : At K mg "_law_is_name" sLIsName ["_law_thing"] fI dI) : FnOk P w K mg base CX0 2 f fd ["_law_marks"] spDue := by
  have GI : FnOk P w K mg base CX0 1 fI dI ["_law_thing"] (spName K) := ok_lname AI.F Z
  refine F.ok scDu (fun vs H Q E h => ?_) (fun cdv A outer_ s H vs Q E hr h => ?_)
  · obtain ⟨p, xs, rfl, _⟩ := h
    rfl
  · obtain ⟨p, xs, rfl, hL, few, mv, k⟩ := h
    refine ⟨_, pss_cons (ps_for PassesOwn.never rfl (pi_list (pv 0)) (pg_name (i := 1) scDu.nd rfl (Or.inl rfl)) (pss_one (ps_if (pt_not (pt_val (pe_call GI hr (by rfl) AI.m AI.F.kp AI.b .nil pass0 (pa_cons (pv 1) pa_nil)))) (pss_one (ps_ret (pe_tup (pa_cons pe_str (pa_cons (pv 1) pa_nil))))) pss_nil)))
      (pss_cons (ps_set (i := 2) scDu.nd rfl (Or.inl rfl) (pe_callTy call_tuple_of (by rfl) zT (by decide +kernel) (pa_cons (pe_callB (LB.cr_sortBag rfl) (by rfl) zO (by decide +kernel) (pa_cons (pe_callTy (LB.cr_bag rfl) (by rfl) zS (by decide +kernel) (pa_cons (pv 0) pa_nil)) pa_nil)) pa_nil)))
      (pss_one (ps_ret (pe_ifExp (pt_cmpR op_gt (pe_callB call_len_seq (by rfl) Z.zLen PySem.boot_len (pa_cons (pv 2) pa_nil)) pe_int (nomark _)) (pe_tup (pa_cons pe_str (pa_cons pe_str (pa_cons pe_int pa_nil)))) (pe_tup (pa_cons pe_str (pa_cons (pv 2) pa_nil))))))), ?_⟩
    have hsl : sizeLine = 16777216 := sizeLine_eq
    refine ⟨_, rfl, p, rfl, ⟨_, SqL.of hL⟩, ?_⟩
    refine for_list (xs := xs) (fun i σ H' => Same H H' ∧ (xs.take i).all nameV = true ∧ ∃ m, σ = [some (.ref p), m, none]) ⟨Same.refl H, rfl, none, rfl⟩ (fun i σ H' _ q => SqL.of (q.1 _ _ hL)) ?_ ?_
    · rintro i v σ H' hi ⟨sm, good, m, rfl⟩
      obtain ⟨d, md⟩ := mv v (List.mem_of_getElem? hi)
      refine ⟨_, rfl, v, rfl, (md.same sm).cl, fun H2 s2 => ⟨_, rfl, ?_⟩⟩
      have sm2 : Same H H2 := fun b o q => s2 _ _ (sm _ _ q)
      by_cases nm : nameV v = true
      · rw [nm]
        exact ⟨sm2, by rw [take_snoc hi, List.all_append, good, List.all_cons, nm]; rfl, some v, rfl⟩
      · have nm' : nameV v = false := by simpa using nm
        rw [nm']
        refine ⟨_, rfl, (by show 2 ≤ sizeLine; decide), fun q hq => ?_⟩
        exact k _ q _ (sm2.trans (same_upd hq)) (sm2.free hq) (.inl ⟨v, d, find_first hi good nm', md.same (sm2.trans (same_upd hq)), upd_same, rfl⟩)
    · rintro σ H1 ⟨sm, good, m, rfl⟩
      rw [List.take_of_length_le (Nat.le_refl _)] at good
      obtain ⟨ts, rfl, nms⟩ := all_names good
      rw [List.length_map] at few
      refine ⟨_, rfl, p, ts, rfl, .inr (SqL.of (sm _ _ hL)), by omega, fun b ks hb mem nd le => ?_⟩
      refine ⟨b, ks, rfl, upd_same, by omega, fun ys d pm srt hd => ?_⟩
      have srtd : Srt ts ys := ⟨pm.nodup_iff.mpr nd, srt, fun y => pm.mem_iff.trans (mem y)⟩
      obtain ⟨H2, eH⟩ : ∃ H2, H2 = upd (upd H1 b (LB.BagO w b ks)) d (.lst (ys.map V.str)) := ⟨_, rfl⟩
      have sm2 : Same H H2 := fun c o q => by
        rw [eH, upd_ne (ne_of_none (by rw [upd_ne (ne_of_none (sm _ _ q) hb)]; exact sm _ _ q) hd), upd_ne (ne_of_none (sm _ _ q) hb)]
        exact sm _ _ q
      have hL2 : H2 d = some (.lst (ys.map V.str)) := by rw [eH, upd_same]
      suffices z : ∀ F : Hp → Prop, F H2 → F (upd (upd H1 b (LB.BagO w b ks)) d (.lst (ys.map V.str))) by
        refine z _ ?_
        clear z
        clear eH
        dsimp only
        refine ⟨d, _, rfl, .inl ⟨SqL.of hL2, fun t ht => ?_⟩⟩
        have st : Same H (upd H2 t (.tup (ys.map V.str))) := sm2.trans (same_upd ht)
        have ft : (upd H2 t (.tup (ys.map V.str))) t = some (.tup (ys.map V.str)) := upd_same
        revert st ft
        generalize upd H2 t (.tup (ys.map V.str)) = H3
        intro st ft
        refine ⟨_, rfl, t, _, rfl, .inr (SqT.of ft), _, _, rfl, rfl, _, rfl, ?_⟩
        rw [List.length_map]
        show if decide ((4 : Int) < (ys.length : Int)) = true then _ else _
        refine ite2 (fun h5 => ?_) (fun h5 => ?_)
        · have l5 : 4 < ys.length := by have := of_decide_eq_true h5; omega
          refine ⟨(by show 3 ≤ sizeLine; decide), fun q hq => ?_⟩
          exact k _ q _ (st.trans (same_upd hq)) (st.free hq) (.inr ⟨ts, ys, rfl, nms, srtd, .inl ⟨l5, upd_same, rfl⟩⟩)
        · have l4 : ys.length ≤ 4 := by
            have : ¬ ((4 : Int) < (ys.length : Int)) := fun z => h5 (decide_eq_true z)
            omega
          refine ⟨_, rfl, (by show 2 ≤ sizeLine; decide), fun q hq => ?_⟩
          exact k _ q _ (st.trans (same_upd hq)) (st.free hq) (.inr ⟨ts, ys, rfl, nms, srtd, .inr ⟨l4, t, upd_same, by rw [upd_ne (ne_of_none ft hq)]; exact ft, rfl⟩⟩)
      intro F h; rw [← eH]; exact h
end
end K12
namespace K12
open PySem L2 SR
structure NEnv (K : PySem.W.Frag) (mg : Str → Option Value) (CN C0 cL cT cM : Addr) : Prop where
  ex : ExcC K CN
  xf : XfC K CN
  te : PySem.W.exmOne K (.ref CN) (.ref CN) = some true
  m0 : mg "InvalidError" = some (.ref C0)
  mL : mg "InvalidLabel" = some (.ref cL)
  mT : mg "InvalidText" = some (.ref cT)
  mM : mg "LimitError" = some (.ref cM)
  k0 : PySem.W.kitOne K (.ref CN) (.ref C0) = some true
  kN : PySem.W.kitAny K (.ref CN) [.ref cL, .ref cT, .ref cM] = some false
structure MEnv (K : PySem.W.Frag) (mg : Str → Option Value) (CM CN cM : Addr) : Prop where
  ex : ExcC K CM
  xf : XfC K CM
  te : PySem.W.exmOne K (.ref CM) (.ref CM) = some true
  tn : PySem.W.exmOne K (.ref CM) (.ref CN) = some false
  mA : mg "ArithmeticError" = none
  mV : mg "ValueError" = none
  n1 : PySem.W.findIn K (.ref CM) "kind" = some none
  n2 : PySem.W.findIn K (.ref CM) "limit" = some none
  kL : PySem.W.kitOne K (.ref CM) (.ref cM) = some true
  kA : PySem.W.kitOne K (.ref CM) (.type "ArithmeticError") = some true
  kV : PySem.W.kitOne K (.ref CM) (.type "ValueError") = some false
/-- all that the law and the program name -/
structure Env12 (K : PySem.W.Frag) (mg : Str → Option Value) (C f CN fN CM fM fI f1 C0 cL cT cM gE gL gS gR gH pM gM : Addr) (fd dN dM dI d1 dE dL dS dR dH dG : FuncData) : Prop where
  L : LabC K mg C f CN fN CM fM fd dN dM
  M : LabM K mg C gE gL gS gR gH pM gM dE dL dS dR dH dG
  Z : Zn mg
  zT : mg "tuple" = none
  zS : mg "set" = none
  zO : mg "sorted" = none
  mM : ∃ tk, mg "MOST_LETTERS" = some (.int 8 tk)
  mL : ∃ t2, mg "LETTERS" = some (.str "abcdefghijklmnopqrstuvwxyz" t2)
  AN : At K mg "is_name" sIsName ["value"] fI dI
  AL : At K mg "_law_label" sLabel ["_law_marks"] f1 d1
  N : NEnv K mg CN C0 cL cT cM
  O : MEnv K mg CM CN cM
section
variable {P : Program} {w : World} {K : PySem.W.Frag} {mg : Str → Option Value} {base : Heap}
variable {C f CN fN CM fM fI f1 C0 cL cT cM gE gL gS gR gH pM gM : Addr} {fd dN dM dI d1 dE dL dS dR dH dG : FuncData}
theorem lab_of (T : Env12 K mg C f CN fN CM fM fI f1 C0 cL cT cM gE gL gS gR gH pM gM fd dN dM dI d1 dE dL dS dR dH dG) : FnOk P w K mg base (L2.CX P w) 5 f1 d1 ["_law_marks"] (spLabel K C CN CM) := by
  obtain ⟨tk, mM⟩ := T.mM
  obtain ⟨t2, mL⟩ := T.mL
  exact ok_label T.AL.F T.L T.Z T.zT T.zS T.zO mM mL T.AN
/-! ### _law_told -/
theorem scTo : FnScope ["_law_marks", "_law_told_here", "e"] ["_law_marks"] (defScope sTold) := ⟨rfl, rfl, rfl, by decide +kernel, rfl, by decide +kernel, by decide +kernel⟩
def spTold : Sp := fun vs H Q _ => ∃ (p : Addr) (xs : List V), vs = [.ref p] ∧ H p = some (.lst xs) ∧ xs.length ≤ 6 ∧ (∀ v ∈ xs, ∃ d, Mv H v d) ∧ ∀ H' q ds, Same H H' → H q = none → DueD xs H' q ds → Q (.ref q) H'
theorem ok_told {ft : Addr} {dt : FuncData} (F : Fun K "_law_told" "_law_told" sTold ft dt) (T : Env12 K mg C f CN fN CM fM fI f1 C0 cL cT cM gE gL gS gR gH pM gM fd dN dM dI d1 dE dL dS dR dH dG) : FnOk P w K mg base CX0 6 ft dt ["_law_marks"] spTold := by
  have GL : FnOk P w K mg base (L2.CX P w) 5 f1 d1 ["_law_marks"] (spLabel K C CN CM) := lab_of T
  have GG : FnOk P w K mg base CX0 1 gM dG ["self"] (getSp C "_marks") := ok_get T.M
  have Z := T.Z
  refine F.ok scTo (fun vs H Q E h => ?_) (fun cdv A outer_ s H vs Q E hr h => ?_)
  · obtain ⟨p, xs, rfl, _⟩ := h
    rfl
  · obtain ⟨p, xs, rfl, hL, l6, mv, k⟩ := h
    refine ⟨_, pss_cons (ps_set (i := 1) scTo.nd rfl (Or.inl rfl) (pe_tup (pa_cons pe_str pa_nil)))
      (pss_cons (TAs.ps_try (i := 2) (tb := fun W => tAsg (tTup (tCons (tC (.str "marks")) (tCons (tProp C (getSp C "_marks") [] E0 (tCallS (spLabel K C CN CM) (WE W) (tCons (tVar 0) tNil))) tNil))) (gName 1)) (Wout := fun _ _ _ _ => False) rfl rfl scTo.nd rfl rfl takes0
        (fun W pn xe tk _ => pss_one (ps_set (i := 1) scTo.nd rfl (Or.inl rfl) (by exact (pe_tup (pa_cons pe_str (pa_cons (pe_prop (pe_callS GL hr rfl T.AL.m T.AL.F.kp T.AL.b (fun σ => passAt tk σ) (pa_cons (pv 0) pa_nil)) T.M.cl T.M.pr GG (hr.mono (by decide)) T.M.bM .nil pass0 rfl) pa_nil))))))
        (.cons ⟨rfl, by decide, .inl T.L.N.m⟩ (fun a oe cls d pn hz hf => pss_one (ps_if (PW.pt (pw_and (pt_val (pe_callB (call_isX hz hf) (by rfl) Z.zIs (by decide +kernel) (pa_cons (pv 2) (pa_cons (pe_glob (v := .ref C0) rfl T.N.m0 rfl) pa_nil))))
            (pw_and1 (pt_not (pt_val (pe_callB (call_isXT hz hf) (by rfl) Z.zIs (by decide +kernel) (pa_cons (pv 2) (pa_cons (pe_tup (pa_cons (pe_glob (v := .ref cL) rfl T.N.mL rfl) (pa_cons (pe_glob (v := .ref cT) rfl T.N.mT rfl) (pa_cons (pe_glob (v := .ref cM) rfl T.N.mM rfl) pa_nil)))) pa_nil))))))))
            (pss_one (ps_set (i := 1) scTo.nd rfl (Or.inl rfl) (pe_tup (pa_cons pe_str (pa_cons (pe_xf T.N.xf T.L.N.n1 hz hf (pv 2)) pa_nil))))) pss_nil))
        (.cons ⟨rfl, by decide, .inl T.L.M.m⟩ (fun a oe cls d pn hz hf => pss_one (ps_if (PW.pt (pw_and (pt_val (pe_callB (call_isX hz hf) (by rfl) Z.zIs (by decide +kernel) (pa_cons (pv 2) (pa_cons (pe_glob (v := .ref cM) rfl T.N.mM rfl) pa_nil))))
            (pw_and (pt_val (pe_callB (call_isX hz hf) (by rfl) Z.zIs (by decide +kernel) (pa_cons (pv 2) (pa_cons (pe_bltn (v := .ty "ArithmeticError") (u := .type "ArithmeticError") (by rfl) T.O.mA (by decide +kernel) rfl) pa_nil))))
            (pw_and1 (pt_not (pt_val (pe_callB (call_isX hz hf) (by rfl) Z.zIs (by decide +kernel) (pa_cons (pv 2) (pa_cons (pe_bltn (v := .ty "ValueError") (u := .type "ValueError") (by rfl) T.O.mV (by decide +kernel) rfl) pa_nil)))))))))
            (pss_one (ps_set (i := 1) scTo.nd rfl (Or.inl rfl) (pe_tup (pa_cons pe_str (pa_cons (pe_xf T.O.xf T.O.n1 hz hf (pv 2)) (pa_cons (pe_xf T.O.xf T.O.n2 hz hf (pv 2)) pa_nil)))))) pss_nil)) .nil)))
      (pss_one (ps_ret (pv 1)))), ?_⟩
    refine ⟨by show 1 ≤ sizeLine; decide, fun t0 ht0 => ?_⟩
    have sm0 : Same H (upd H t0 (.tup [.str "other"])) := same_upd ht0
    revert sm0
    generalize upd H t0 (.tup [.str "other"]) = H0
    intro sm0
    have mvAt : ∀ {H1 : Hp} {v : V}, Same H0 H1 → v ∈ xs → ∃ d, Mv H1 v d := fun {H1 v} s1 hv => by
      obtain ⟨d, md⟩ := mv v hv
      exact ⟨d, md.same (sm0.trans s1)⟩
    refine ⟨_, rfl, p, xs, rfl, .inl (SqL.of (sm0 _ _ hL)), l6, fun v hv => ?_, fun v hb H1 d fs s1 hd hx hlk => ?_, fun ts ys e nms sr => ⟨fun l5 H1 d fs s1 hd hx h1 h2 => ?_, fun l4 H1 z s1 hz lb => ?_⟩⟩
    · obtain ⟨d, md⟩ := mv v hv
      exact (md.same sm0).cl
    · refine ⟨true, T.N.te, fun _ a0 _ => ?_, fun q => Bool.noConfusion q⟩
      refine ⟨_, rfl, CN, d, fs, _, .ref C0, true, rfl, rfl, T.N.ex, hx, rfl, .own _, T.N.k0, _, rfl, ?_⟩
      refine ⟨_, rfl, (by show 3 ≤ sizeLine; decide), fun tp htp => ?_⟩
      have sp : Same H1 (upd H1 tp (.tup [V.ref cL, V.ref cT, V.ref cM])) := same_upd htp
      have fp : (upd H1 tp (.tup [V.ref cL, V.ref cT, V.ref cM])) tp = some (.tup [V.ref cL, V.ref cT, V.ref cM]) := upd_same
      revert sp fp
      generalize upd H1 tp (.tup [V.ref cL, V.ref cT, V.ref cM]) = H2
      intro sp fp
      have hx2 := sp _ _ hx
      refine ⟨CN, d, tp, fs, _, [.ref cL, .ref cT, .ref cM], false, rfl, rfl, T.N.ex, hx2, rfl, fp, .cons (.own _) (.cons (.own _) (.cons (.own _) .nil)), T.N.kN, _, rfl, ?_⟩
      refine ⟨_, rfl, rfl, rfl, d, fs, _, rfl, hx2, hlk, ?_⟩
      refine ⟨by show 2 ≤ sizeLine; decide, fun q hq => ?_⟩
      have s3 : Same H0 (upd H2 q (.tup [.str "name", v])) := (s1.trans sp).trans (same_upd hq)
      obtain ⟨dd, md⟩ := mvAt s3 (List.mem_of_find?_eq_some hb)
      exact ⟨_, rfl, k _ q _ (sm0.trans s3) (((sm0.trans s1).trans sp).free hq) (.inl ⟨v, dd, hb, md, upd_same, rfl⟩)⟩
    · refine ⟨false, T.O.tn, fun q => Bool.noConfusion q, fun _ => ⟨true, T.O.te, fun _ a0 _ => ?_, fun q => Bool.noConfusion q⟩⟩
      refine ⟨_, rfl, CM, d, fs, _, .ref cM, true, rfl, rfl, T.O.ex, hx, rfl, .own _, T.O.kL, _, rfl, ?_⟩
      refine ⟨_, rfl, CM, d, fs, _, .type "ArithmeticError", true, rfl, rfl, T.O.ex, hx, rfl, .ty _, T.O.kA, _, rfl, ?_⟩
      refine ⟨_, rfl, CM, d, fs, _, .type "ValueError", false, rfl, rfl, T.O.ex, hx, rfl, .ty _, T.O.kV, _, rfl, ?_⟩
      refine ⟨_, rfl, rfl, rfl, d, fs, _, rfl, hx, h1, ?_⟩
      refine ⟨_, rfl, rfl, rfl, d, fs, _, rfl, hx, h2, ?_⟩
      refine ⟨by show 3 ≤ sizeLine; decide, fun q hq => ?_⟩
      have s3 : Same H0 (upd H1 q (.tup [.str "many", .str "marks", .int 4])) := s1.trans (same_upd hq)
      exact ⟨_, rfl, k _ q _ (sm0.trans s3) ((sm0.trans s1).free hq) (.inr ⟨ts, ys, e, nms, sr, .inl ⟨l5, upd_same, rfl⟩⟩)⟩
    · obtain ⟨n1, n2, n3, dx, t, hi, ht⟩ := lb
      refine ⟨z, dx, _, rfl, hi, z, dx, _, .ref t, rfl, hi, rfl, ?_⟩
      refine ⟨by show 2 ≤ sizeLine; decide, fun q hq => ?_⟩
      have s3 : Same H0 (upd H1 q (.tup [.str "marks", .ref t])) := s1.trans (same_upd hq)
      exact ⟨_, rfl, k _ q _ (sm0.trans s3) ((sm0.trans s1).free hq) (.inr ⟨ts, ys, e, nms, sr, .inr ⟨l4, t, upd_same, by rw [upd_ne (ne_of_none ht hq)]; exact ht, rfl⟩⟩)⟩
end
end K12
namespace K12
open PySem L2 SR
/-- what this thing is read as lies at q -/
def RdD (v : V) (H : Hp) (q : Addr) (ds : List PyData) : Prop :=
  (vS v = false ∧ H q = some (.tup [.str "refused", .str "string"]) ∧ ds = [.str "refused", .str "string"]) ∨
  ∃ l : Tx, v = tv l ∧ ((rdM l = none ∧ H q = some (.tup [.str "refused", .str "label"]) ∧ ds = [.str "refused", .str "label"]) ∨
    ∃ ms t, rdM l = some ms ∧ H q = some (.tup [.str "marks", .ref t]) ∧ H t = some (.tup (ms.map V.str)) ∧ ds = [.str "marks", .tuple (ms.map PyData.str)])
theorem RdD.same {v : V} {H H' : Hp} {q : Addr} {ds : List PyData} (h : RdD v H q ds) (s : Same H H') : RdD v H' q ds := by
  rcases h with ⟨a, b, c⟩ | ⟨l, a, ⟨b, c, e⟩ | ⟨ms, t, b, c, d, e⟩⟩
  · exact .inl ⟨a, s _ _ b, c⟩
  · exact .inr ⟨l, a, .inl ⟨b, s _ _ c, e⟩⟩
  · exact .inr ⟨l, a, .inr ⟨ms, t, b, s _ _ c, s _ _ d, e⟩⟩
theorem RdD.det {v : V} {H : Hp} {q q' : Addr} {ds ds' : List PyData} (h : RdD v H q ds) (h' : RdD v H q' ds') : ds = ds' := by
  rcases h with ⟨a, b, rfl⟩ | ⟨l, a, h⟩
  · rcases h' with ⟨a', b', rfl⟩ | ⟨l', a', h'⟩
    · rfl
    · rw [a'] at a
      cases a
  · rcases h' with ⟨a', b', rfl⟩ | ⟨l', a', h'⟩
    · rw [a] at a'
      cases a'
    · have e : l = l' := txt_inj (V.str.inj (a.symm.trans a'))
      subst e
      rcases h with ⟨b, c, rfl⟩ | ⟨ms, t, b, c, d, rfl⟩ <;> rcases h' with ⟨b', c', rfl⟩ | ⟨ms', t', b', c', d', rfl⟩
      · rfl
      · rw [b] at b'
        cases b'
      · rw [b] at b'
        cases b'
      · rw [b] at b'
        cases b'
        rfl
theorem RdD.shows {K : PySem.W.Frag} {v : V} {H : Hp} {q : Addr} {ds : List PyData} (h : RdD v H q ds) : ∃ vs, H q = some (.tup vs) ∧ Paired (Th K H) vs ds ∧ (∀ d ∈ ds, Sho d) ∧ ds.length ≤ 8 := by
  rcases h with ⟨a, b, rfl⟩ | ⟨l, a, ⟨b, c, rfl⟩ | ⟨ms, t, b, c, d, rfl⟩⟩
  · refine ⟨_, b, .cons (.str _) (.cons (.str _) .nil), ?_, by decide⟩
    simp only [List.forall_mem_cons]
    exact ⟨sho_lit (by decide +kernel) (by decide +kernel), sho_lit (by decide +kernel) (by decide +kernel), fun _ z => nomatch z⟩
  · refine ⟨_, c, .cons (.str _) (.cons (.str _) .nil), ?_, by decide⟩
    simp only [List.forall_mem_cons]
    exact ⟨sho_lit (by decide +kernel) (by decide +kernel), sho_lit (by decide +kernel) (by decide +kernel), fun _ z => nomatch z⟩
  · obtain ⟨n1, n2, _⟩ := rd_facts b
    refine ⟨_, c, .cons (.str _) (.cons (th_names d) .nil), ?_, Nat.le_of_ble_eq_true rfl⟩
    simp only [List.forall_mem_cons]
    exact ⟨sho_lit (by decide +kernel) (by decide +kernel), sho_names n1 (by omega), fun _ z => nomatch z⟩
def rdU (ts : List Tx) : Option (List Str) :=
  if 4 < ts.length then none else if ts.all nmC = true then (if (ts.map txt).Nodup ∧ PyProof.Rows.sortedS (ts.map txt) = true then some (ts.map txt) else none) else none
theorem txs_inj : ∀ {a b : List Tx}, a.map txt = b.map txt → a = b
  | [], [], _ => rfl
  | [], _ :: _, e => by cases e
  | _ :: _, [], e => by cases e
  | x :: r, y :: q, e => by
    rw [List.map_cons, List.map_cons] at e
    rw [txt_inj (List.cons.inj e).1, txs_inj (List.cons.inj e).2]
section
variable {P : Program} {w : World} {K : PySem.W.Frag} {mg : Str → Option Value} {base : Heap}
variable {C f CN fN CM fM fI f1 C0 cL cT cM gE gL gS gR gH pM gM : Addr} {fd dN dM dI d1 dE dL dS dR dH dG : FuncData}
/-! ### _law_read_due -/
def spRead (K : PySem.W.Frag) : Sp := fun vs H Q _ => ∃ v : V, vs = [v] ∧ ((Cl K H v ∧ vS v = false) ∨ ∃ l : Tx, v = tv l ∧ l.length ≤ 4000) ∧ ∀ H' q ds, Same H H' → H q = none → RdD v H' q ds → Q (.ref q) H'
theorem scRd : FnScope ["_law_thing", "_law_marks", "_law_mark_here"] ["_law_thing"] (defScope sReadDue) := ⟨rfl, rfl, rfl, by decide +kernel, rfl, by decide +kernel, by decide +kernel⟩
theorem ok_rdue {f0 fJ : Addr} {d0 dJ : FuncData} (F : Fun K "_law_read_due" "_law_read_due" sReadDue f0 d0) (Z : Zn mg) (zT : mg "tuple" = none) (zS : mg "set" = none) (zO : mg "sorted" = none) (AI : At K mg "_law_is_name" sLIsName ["_law_thing"] fJ dJ) : FnOk P w K mg base CX0 2 f0 d0 ["_law_thing"] (spRead K) := by
  have GI : FnOk P w K mg base CX0 1 fJ dJ ["_law_thing"] (spName K) := ok_lname AI.F Z
  refine F.ok scRd (fun vs H Q E h => ?_) (fun cdv A outer_ s H vs Q E hr h => ?_)
  · obtain ⟨v, rfl, _⟩ := h
    rfl
  · obtain ⟨v, rfl, h, k⟩ := h
    have un : (A.deeper (PyProof.Rows.envOfC "_law_read_due" (defScope sReadDue) s.heap.objs.size f0 cdv)).units + 64 < cLine := by have := hr.units; omega
    refine ⟨_, pss_cons (ps_if (pt_not (pt_val (pe_callB call_isi (by rfl) Z.zIs (by decide +kernel) (pa_cons (pv 0) (pa_cons (pe_bltn (v := .ty "str") (u := .type "str") (by rfl) Z.zStr (by decide +kernel) rfl) pa_nil))))) (pss_one (ps_ret (pe_tup (pa_cons pe_str (pa_cons pe_str pa_nil))))) pss_nil)
      (pss_cons (ps_set (i := 1) scRd.nd rfl (Or.inl rfl) (pe_ifExp (pt_cmpR op_ne (pv 0) pe_str (nomark _)) (pe_split (pv 0) pe_str) (pe_lst pa_nil)))
      (pss_cons (ps_if (PW.pt (pw_or (pt_cmpR op_gt (pe_callB call_len_seq (by rfl) Z.zLen PySem.boot_len (pa_cons (pv 1) pa_nil)) pe_int (nomark _))
          (pw_or1 (pt_not (pt_val (pe_callB (cr_all rfl) (by rfl) Z.zAll (by decide +kernel) (pa_cons (pe_lc (own := [("_law_mark_here", 2)]) (g := gName 2) (tt := tYes) rfl scRd.nd (pi_list (pv 1))
            (blkOk_by (N := ["_law_thing", "_law_marks", "_law_mark_here"]) (sc := defScope sReadDue) (by decide +kernel)) (fun _ _ _ _ _ => pg_name (i := 2) scRd.nd rfl (Or.inl rfl)) (fun _ _ _ _ _ => pts_nil)
            (fun _ _ _ _ _ => pe_call GI hr (by rfl) AI.m AI.F.kp AI.b .nil pass0 (pa_cons (pv 2) pa_nil))) pa_nil)))))))
        (pss_one (ps_ret (pe_tup (pa_cons pe_str (pa_cons pe_str pa_nil))))) pss_nil)
      (pss_one (ps_ret (pe_ifExp (pt_cmpR (op_eqD un) (pv 1) (pe_callB (LB.cr_sortBag rfl) (by rfl) zO (by decide +kernel) (pa_cons (pe_callTy (LB.cr_bag rfl) (by rfl) zS (by decide +kernel) (pa_cons (pv 1) pa_nil)) pa_nil)) (nomark _))
        (pe_tup (pa_cons pe_str (pa_cons (pe_callTy call_tuple_of (by rfl) zT (by decide +kernel) (pa_cons (pv 1) pa_nil)) pa_nil))) (pe_tup (pa_cons pe_str (pa_cons pe_str pa_nil)))))))), ?_⟩
    have hsl : sizeLine = 16777216 := sizeLine_eq
    rcases h with ⟨cl, hs⟩ | ⟨l, rfl, hl⟩
    · obtain ⟨t, ty, _, _, ks⟩ := cl.kit
      rw [hs] at ks
      refine ⟨_, rfl, v, .ty "str", t, .type "str", false, rfl, .ty _, ty, ks, _, rfl, ?_⟩
      exact ⟨(by show 2 ≤ sizeLine; decide), fun q hq => k _ q _ (same_upd hq) hq (.inl ⟨hs, upd_same, rfl⟩)⟩
    have refuse : ∀ H1, Same H H1 → rdM l = none → 2 ≤ sizeLine ∧ ∀ q, H1 q = none → Q (.ref q) (upd H1 q (.tup [.str "refused", .str "label"])) := fun H1 s1 e => ⟨by decide, fun q hq => k _ q _ (s1.trans (same_upd hq)) (s1.free hq) (.inr ⟨l, rfl, .inl ⟨e, upd_same, rfl⟩⟩)⟩
    refine ⟨_, rfl, tv l, .ty "str", .type "str", .type "str", true, rfl, .ty "str", .base (.str _), kit_ty (a := "str") (b := "str") (r := true) (by decide +kernel), _, rfl, ?_⟩
    refine ⟨_, rfl, rfl, _, rfl, ?_⟩
    rw [dash_txt, tv_eq]
    have hline : (txt l).length + 2 ≤ sizeLine := by rw [txt_len]; omega
    refine ite2 (fun a => ?_) (fun a => ?_)
    · have nd : l ≠ [45] := fun z => by rw [z] at a; simp at a
      refine ⟨_, rfl, ⟨_, rfl⟩, txt l, Str.ofString "+", rfl, rfl, (by decide +kernel), hline, fun p hp => ?_⟩
      rw [split_plus, map_tv]
      obtain ⟨ts, ets⟩ : ∃ ts, ts = piecesC l := ⟨_, rfl⟩
      have pe : ∀ t ∈ ts, t.length ≤ 4000 := fun t ht => Nat.le_trans ((pieces_len l).2 t (ets ▸ ht)) hl
      have ru : rdM l = rdU ts := by rw [ets]; unfold rdM rdU; rw [if_neg nd]
      rw [← ets]
      have sm1 : Same H (upd H p (.lst (ts.map tv))) := same_upd hp
      have hL1 : (upd H p (.lst (ts.map tv))) p = some (.lst (ts.map tv)) := upd_same
      revert sm1 hL1
      generalize upd H p (.lst (ts.map tv)) = H1
      intro sm1 hL1
      refine ⟨_, rfl, p, _, rfl, .inl (SqL.of hL1), _, _, rfl, rfl, _, rfl, ?_⟩
      rw [List.length_map]
      show if decide ((4 : Int) < (ts.length : Int)) = true then _ else _
      refine ite2 (fun b => ?_) (fun b => ?_)
      · have l5 : 4 < ts.length := by have := of_decide_eq_true b; omega
        exact refuse H1 sm1 (by rw [ru]; unfold rdU; rw [if_pos l5])
      have l4 : ¬ 4 < ts.length := fun z => b (decide_eq_true (by omega))
      refine ⟨_, rfl, p, rfl, ⟨_, SqL.of hL1⟩, fun D hD => ?_⟩
      refine lc_it walk_list (fun i H' => Same H1 H' ∧ H' D = some (.lst (((ts.map nmC).take i).map V.bl))) ⟨same_upd hD, upd_same⟩ (fun i H' _ q => SqL.of (q.1 _ _ hL1)) ?_ ?_
      · rintro i x H2 H3 hi ⟨sm, hL⟩ ⟨rfl, hv⟩
        rw [List.getElem?_map] at hv
        obtain ⟨y, hy, rfl⟩ := Option.map_eq_some_iff.mp hv
        have hyl : y.length ≤ 4000 := pe y (List.mem_of_getElem? hy)
        refine ⟨rfl, _, rfl, tv y, rfl, .str y hyl, fun H4 s4 => ⟨_, s4 _ _ hL, ?_, fun b o q => ?_, ?_⟩⟩
        · rw [List.length_map, List.length_take, List.length_map]
          omega
        · rw [upd_ne (ne_of_none q hD)]
          exact s4 _ _ (sm b o q)
        · rw [upd_same, take_snoc (x := nmC y) (by rw [List.getElem?_map, hy]; rfl), List.map_append]
          rfl
      · rintro H2 ⟨sm, hL⟩
        rw [List.length_map, List.take_of_length_le (by rw [List.length_map]; exact Nat.le_refl _)] at hL
        refine ⟨D, _, rfl, SqL.of hL, _, rfl, ?_⟩
        have ea : (ts.map nmC).all id = ts.all nmC := by rw [List.all_map]; rfl
        rw [ea]
        have sm2 : Same H H2 := sm1.trans sm
        by_cases al : ts.all nmC = true
        · rw [al]
          have hL2 := sm _ _ hL1
          have asc_all : ∀ t ∈ ts, asc t := fun t ht => nm_asc (List.all_eq_true.mp al t ht)
          refine ⟨_, rfl, _, rfl, p, ts.map txt, rfl, .inr (by rw [map_tv]; exact SqL.of hL2), by rw [List.length_map]; omega, fun c ks2 hc mem nd2 le => ?_⟩
          rw [List.length_map] at le
          refine ⟨c, ks2, rfl, upd_same, by omega, fun ys d pm srt hd => ?_⟩
          have srtd : Srt (ts.map txt) ys := ⟨pm.nodup_iff.mpr nd2, srt, fun y => pm.mem_iff.trans (mem y)⟩
          obtain ⟨us, rfl⟩ := tx_of ys
          have asc_us : ∀ t ∈ us, asc t := fun t ht => by
            have m := (srtd.2.2 (txt t)).mp (List.mem_map.mpr ⟨t, ht, rfl⟩)
            obtain ⟨z, hz, e⟩ := List.mem_map.mp m
            rw [← txt_inj e]
            exact asc_all z hz
          have hL3 : (upd (upd H2 c (LB.BagO w c ks2)) d (.lst ((us.map txt).map V.str))) p = some (.lst (ts.map tv)) := by
            rw [upd_ne (ne_of_none (by rw [upd_ne (ne_of_none hL2 hc)]; exact hL2) hd), upd_ne (ne_of_none hL2 hc)]
            exact hL2
          have hL4 : (upd (upd H2 c (LB.BagO w c ks2)) d (.lst ((us.map txt).map V.str))) d = some (.lst (us.map tv)) := by rw [upd_same, map_tv]
          have sm3 : Same H (upd (upd H2 c (LB.BagO w c ks2)) d (.lst ((us.map txt).map V.str))) := fun e o q => by
            have q2 := sm2 _ _ q
            rw [upd_ne (ne_of_none (by rw [upd_ne (ne_of_none q2 hc)]; exact q2) hd), upd_ne (ne_of_none q2 hc)]
            exact q2
          refine ⟨_, _, .lst (SqL.of hL3) (dpS _), .lst (SqL.of hL4) (dpS _), shS _ asc_all, shS _ asc_us, ?_⟩
          rw [eqvLS]
          refine ⟨_, rfl, ?_⟩
          have eq2 : (ts = us) ↔ ts.map txt = us.map txt := ⟨fun e => by rw [e], fun e => txs_inj e⟩
          refine ite2 (fun z => ?_) (fun z => ?_)
          · have good := (srt_iff srtd).mpr (eq2.mp (of_decide_eq_true z))
            have r : rdM l = some (ts.map txt) := by rw [ru]; unfold rdU; rw [if_neg l4, if_pos al, if_pos good]
            refine ⟨_, rfl, p, _, rfl, .inl ⟨SqL.of hL3, fun t ht => ?_⟩⟩
            refine ⟨by show 2 ≤ sizeLine; decide, fun q hq => ?_⟩
            have s4 := (sm3.trans (same_upd (o := HO.tup (ts.map tv)) ht)).trans (same_upd (o := HO.tup [.str "marks", .ref t]) hq)
            refine k _ q _ s4 ((sm3.trans (same_upd (o := HO.tup (ts.map tv)) ht)).free hq) (.inr ⟨l, rfl, .inr ⟨_, t, r, upd_same, ?_, rfl⟩⟩)
            rw [upd_ne (ne_of_none (upd_same (o := HO.tup (ts.map tv))) hq), upd_same, map_tv]
          · have no : ¬ ((ts.map txt).Nodup ∧ PyProof.Rows.sortedS (ts.map txt) = true) := fun g => z (decide_eq_true (eq2.mpr ((srt_iff srtd).mp g)))
            exact refuse _ sm3 (by rw [ru]; unfold rdU; rw [if_neg l4, if_pos al, if_neg no])
        · have al' : ts.all nmC = false := by simpa using al
          rw [al']
          exact refuse H2 sm2 (by rw [ru]; unfold rdU; rw [if_neg l4, if_neg al])
    · have yd : l = [45] := by simpa using a
      refine ⟨(by show 0 ≤ sizeLine; decide), fun p hp => ?_⟩
      obtain ⟨ts, ets⟩ : ∃ ts : List Tx, ts = [] := ⟨_, rfl⟩
      have pe : ∀ t ∈ ts, t.length ≤ 4000 := fun t ht => by rw [ets] at ht; cases ht
      have ru : rdM l = rdU ts := by rw [ets]; unfold rdM; rw [if_pos yd]; rfl
      have sm1 : Same H (upd H p (.lst [])) := same_upd hp
      have hL1 : (upd H p (.lst [])) p = some (.lst (ts.map tv)) := by rw [ets]; exact upd_same
      revert sm1 hL1
      generalize upd H p (.lst []) = H1
      intro sm1 hL1
      refine ⟨_, rfl, p, _, rfl, .inl (SqL.of hL1), _, _, rfl, rfl, _, rfl, ?_⟩
      rw [List.length_map]
      show if decide ((4 : Int) < (ts.length : Int)) = true then _ else _
      refine ite2 (fun b => ?_) (fun b => ?_)
      · have l5 : 4 < ts.length := by have := of_decide_eq_true b; omega
        exact refuse H1 sm1 (by rw [ru]; unfold rdU; rw [if_pos l5])
      have l4 : ¬ 4 < ts.length := fun z => b (decide_eq_true (by omega))
      refine ⟨_, rfl, p, rfl, ⟨_, SqL.of hL1⟩, fun D hD => ?_⟩
      refine lc_it walk_list (fun i H' => Same H1 H' ∧ H' D = some (.lst (((ts.map nmC).take i).map V.bl))) ⟨same_upd hD, upd_same⟩ (fun i H' _ q => SqL.of (q.1 _ _ hL1)) ?_ ?_
      · rintro i x H2 H3 hi ⟨sm, hL⟩ ⟨rfl, hv⟩
        rw [List.getElem?_map] at hv
        obtain ⟨y, hy, rfl⟩ := Option.map_eq_some_iff.mp hv
        have hyl : y.length ≤ 4000 := pe y (List.mem_of_getElem? hy)
        refine ⟨rfl, _, rfl, tv y, rfl, .str y hyl, fun H4 s4 => ⟨_, s4 _ _ hL, ?_, fun b o q => ?_, ?_⟩⟩
        · rw [List.length_map, List.length_take, List.length_map]
          omega
        · rw [upd_ne (ne_of_none q hD)]
          exact s4 _ _ (sm b o q)
        · rw [upd_same, take_snoc (x := nmC y) (by rw [List.getElem?_map, hy]; rfl), List.map_append]
          rfl
      · rintro H2 ⟨sm, hL⟩
        rw [List.length_map, List.take_of_length_le (by rw [List.length_map]; exact Nat.le_refl _)] at hL
        refine ⟨D, _, rfl, SqL.of hL, _, rfl, ?_⟩
        have ea : (ts.map nmC).all id = ts.all nmC := by rw [List.all_map]; rfl
        rw [ea]
        have sm2 : Same H H2 := sm1.trans sm
        by_cases al : ts.all nmC = true
        · rw [al]
          have hL2 := sm _ _ hL1
          have asc_all : ∀ t ∈ ts, asc t := fun t ht => nm_asc (List.all_eq_true.mp al t ht)
          refine ⟨_, rfl, _, rfl, p, ts.map txt, rfl, .inr (by rw [map_tv]; exact SqL.of hL2), by rw [List.length_map]; omega, fun c ks2 hc mem nd2 le => ?_⟩
          rw [List.length_map] at le
          refine ⟨c, ks2, rfl, upd_same, by omega, fun ys d pm srt hd => ?_⟩
          have srtd : Srt (ts.map txt) ys := ⟨pm.nodup_iff.mpr nd2, srt, fun y => pm.mem_iff.trans (mem y)⟩
          obtain ⟨us, rfl⟩ := tx_of ys
          have asc_us : ∀ t ∈ us, asc t := fun t ht => by
            have m := (srtd.2.2 (txt t)).mp (List.mem_map.mpr ⟨t, ht, rfl⟩)
            obtain ⟨z, hz, e⟩ := List.mem_map.mp m
            rw [← txt_inj e]
            exact asc_all z hz
          have hL3 : (upd (upd H2 c (LB.BagO w c ks2)) d (.lst ((us.map txt).map V.str))) p = some (.lst (ts.map tv)) := by
            rw [upd_ne (ne_of_none (by rw [upd_ne (ne_of_none hL2 hc)]; exact hL2) hd), upd_ne (ne_of_none hL2 hc)]
            exact hL2
          have hL4 : (upd (upd H2 c (LB.BagO w c ks2)) d (.lst ((us.map txt).map V.str))) d = some (.lst (us.map tv)) := by rw [upd_same, map_tv]
          have sm3 : Same H (upd (upd H2 c (LB.BagO w c ks2)) d (.lst ((us.map txt).map V.str))) := fun e o q => by
            have q2 := sm2 _ _ q
            rw [upd_ne (ne_of_none (by rw [upd_ne (ne_of_none q2 hc)]; exact q2) hd), upd_ne (ne_of_none q2 hc)]
            exact q2
          refine ⟨_, _, .lst (SqL.of hL3) (dpS _), .lst (SqL.of hL4) (dpS _), shS _ asc_all, shS _ asc_us, ?_⟩
          rw [eqvLS]
          refine ⟨_, rfl, ?_⟩
          have eq2 : (ts = us) ↔ ts.map txt = us.map txt := ⟨fun e => by rw [e], fun e => txs_inj e⟩
          refine ite2 (fun z => ?_) (fun z => ?_)
          · have good := (srt_iff srtd).mpr (eq2.mp (of_decide_eq_true z))
            have r : rdM l = some (ts.map txt) := by rw [ru]; unfold rdU; rw [if_neg l4, if_pos al, if_pos good]
            refine ⟨_, rfl, p, _, rfl, .inl ⟨SqL.of hL3, fun t ht => ?_⟩⟩
            refine ⟨by show 2 ≤ sizeLine; decide, fun q hq => ?_⟩
            have s4 := (sm3.trans (same_upd (o := HO.tup (ts.map tv)) ht)).trans (same_upd (o := HO.tup [.str "marks", .ref t]) hq)
            refine k _ q _ s4 ((sm3.trans (same_upd (o := HO.tup (ts.map tv)) ht)).free hq) (.inr ⟨l, rfl, .inr ⟨_, t, r, upd_same, ?_, rfl⟩⟩)
            rw [upd_ne (ne_of_none (upd_same (o := HO.tup (ts.map tv))) hq), upd_same, map_tv]
          · have no : ¬ ((ts.map txt).Nodup ∧ PyProof.Rows.sortedS (ts.map txt) = true) := fun g => z (decide_eq_true (eq2.mpr ((srt_iff srtd).mp g)))
            exact refuse _ sm3 (by rw [ru]; unfold rdU; rw [if_neg l4, if_pos al, if_neg no])
        · have al' : ts.all nmC = false := by simpa using al
          rw [al']
          exact refuse H2 sm2 (by rw [ru]; unfold rdU; rw [if_neg l4, if_neg al])
end
end K12
namespace K12
open PySem L2 SR
/-- Label.of_text, and what it raises -/
structure OEnv (K : PySem.W.Frag) (mg : Str → Option Value) (C C0 CN cL cM CT fT pO gO fm : Addr) (dT dO dm : FuncData) : Prop where
  T : IT K mg CT fT dT
  FO : Fun K "of_text" "Label.of_text" sOf gO dO
  bO : Binds K dO ["cls", "text"] []
  AM : At K mg "marks_of_text" sMarksOf ["text"] fm dm
  cr : ∃ mc, ClX.CRead K C mc ∧ ClX.CMet K C mc "of_text" pO gO
  ex : ExcC K CT
  xf : XfC K CT
  te : PySem.W.exmOne K (.ref CT) (.ref CT) = some true
  k0 : PySem.W.kitOne K (.ref CT) (.ref C0) = some true
  kN : PySem.W.kitAny K (.ref CT) [.ref cL, .ref CN, .ref cM] = some false
section
variable {P : Program} {w : World} {K : PySem.W.Frag} {mg : Str → Option Value} {base : Heap}
variable {C f CN fN CM fM fI f1 C0 cL cM gE gL gS gR gH pM gM CT fT pO gO fm : Addr} {fd dN dM dI d1 dE dL dS dR dH dG dT dO dm : FuncData}
theorem of_of (T : Env12 K mg C f CN fN CM fM fI f1 C0 cL CT cM gE gL gS gR gH pM gM fd dN dM dI d1 dE dL dS dR dH dG) (O : OEnv K mg C C0 CN cL cM CT fT pO gO fm dT dO dm) : FnR P w K mg base (L2.CX P w) 5 gO (fun vs H Q E => spOf K C CT (vs ++ []) H Q E) := by
  obtain ⟨tk, mM⟩ := T.mM
  obtain ⟨t2, mL⟩ := T.mL
  exact (ok_of O.FO O.T O.AM T.L T.Z T.zT T.zS T.zO mM mL T.AN).raw O.bO .nil
/-! ### _law_read -/
theorem scRe2 : FnScope ["_law_thing", "_law_told_here", "e"] ["_law_thing"] (defScope sRead) := ⟨rfl, rfl, rfl, by decide +kernel, rfl, by decide +kernel, by decide +kernel⟩
theorem ok_lread {ft : Addr} {dt : FuncData} (F : Fun K "_law_read" "_law_read" sRead ft dt) (T : Env12 K mg C f CN fN CM fM fI f1 C0 cL CT cM gE gL gS gR gH pM gM fd dN dM dI d1 dE dL dS dR dH dG) (O : OEnv K mg C C0 CN cL cM CT fT pO gO fm dT dO dm) :
    FnOk P w K mg base CX0 6 ft dt ["_law_thing"] (spRead K) := by
  have GO : FnR P w K mg base (L2.CX P w) 5 gO (fun vs H Q E => spOf K C CT (vs ++ []) H Q E) := of_of T O
  have GG : FnOk P w K mg base CX0 1 gM dG ["self"] (getSp C "_marks") := ok_get T.M
  have Z := T.Z
  obtain ⟨mc, cr, cm⟩ := O.cr
  refine F.ok scRe2 (fun vs H Q E h => ?_) (fun cdv A outer_ s H vs Q E hr h => ?_)
  · obtain ⟨v, rfl, _⟩ := h
    rfl
  · obtain ⟨v, rfl, h, k⟩ := h
    refine ⟨_, pss_cons (ps_set (i := 1) scRe2.nd rfl (Or.inl rfl) (pe_tup (pa_cons pe_str pa_nil)))
      (pss_cons (TAs.ps_try (i := 2) (tb := fun W => tAsg (tTup (tCons (tC (.str "marks")) (tCons (tProp C (getSp C "_marks") [] E0 (CmS.tCm C (fun vs H Q E => spOf K C CT (vs ++ []) H Q E) (WE W) (tC (.ref C)) (tCons (tVar 0) tNil))) tNil))) (gName 1)) (Wout := fun _ _ _ _ => False) rfl rfl scRe2.nd rfl rfl takes0
        (fun W pn xe tk _ => pss_one (ps_set (i := 1) scRe2.nd rfl (Or.inl rfl) (by exact (pe_tup (pa_cons pe_str (pa_cons (pe_prop (CmS.pe_cm (pe_glob (v := .ref C) rfl T.M.m rfl) cr cm GO hr (fun σ => passAt tk σ) (pa_cons (pv 0) pa_nil)) T.M.cl T.M.pr GG (hr.mono (by decide)) T.M.bM .nil pass0 rfl) pa_nil))))))
        (.cons ⟨rfl, by decide, .inl O.T.m⟩ (fun a oe cls d pn hz hf => pss_one (ps_if (PW.pt (pw_and (pt_val (pe_callB (call_isX hz hf) (by rfl) Z.zIs (by decide +kernel) (pa_cons (pv 2) (pa_cons (pe_glob (v := .ref C0) rfl T.N.m0 rfl) pa_nil))))
            (pw_and1 (pt_not (pt_val (pe_callB (call_isXT hz hf) (by rfl) Z.zIs (by decide +kernel) (pa_cons (pv 2) (pa_cons (pe_tup (pa_cons (pe_glob (v := .ref cL) rfl T.N.mL rfl) (pa_cons (pe_glob (v := .ref CN) rfl T.L.N.m rfl) (pa_cons (pe_glob (v := .ref cM) rfl T.N.mM rfl) pa_nil)))) pa_nil))))))))
            (pss_one (ps_set (i := 1) scRe2.nd rfl (Or.inl rfl) (pe_tup (pa_cons pe_str (pa_cons (pe_xf O.xf O.T.n1 hz hf (pv 2)) pa_nil))))) pss_nil)) .nil))
      (pss_one (ps_ret (pv 1)))), ?_⟩
    refine ⟨by show 1 ≤ sizeLine; decide, fun t0 ht0 => ?_⟩
    have sm0 : Same H (upd H t0 (.tup [.str "other"])) := same_upd ht0
    revert sm0
    generalize upd H t0 (.tup [.str "other"]) = H0
    intro sm0
    refine ⟨rfl, _, rfl, v, rfl, ?_⟩
    rcases h with ⟨cl, hs⟩ | ⟨l, rfl, hl⟩
    · refine .inl ⟨Cl.same cl fun a t _ ty => tyx_same ty sm0, hs, fun H1 d fs s1 hd hx hlk => ?_⟩
      refine ⟨true, O.te, fun _ a0 _ => ?_, fun q => Bool.noConfusion q⟩
      refine ⟨_, rfl, CT, d, fs, _, .ref C0, true, rfl, rfl, O.ex, hx, rfl, .own _, O.k0, _, rfl, ?_⟩
      refine ⟨_, rfl, (by show 3 ≤ sizeLine; decide), fun tp htp => ?_⟩
      have sp : Same H1 (upd H1 tp (.tup [V.ref cL, V.ref CN, V.ref cM])) := same_upd htp
      have fp : (upd H1 tp (.tup [V.ref cL, V.ref CN, V.ref cM])) tp = some (.tup [V.ref cL, V.ref CN, V.ref cM]) := upd_same
      revert sp fp
      generalize upd H1 tp (.tup [V.ref cL, V.ref CN, V.ref cM]) = H2
      intro sp fp
      have hx2 := sp _ _ hx
      refine ⟨CT, d, tp, fs, _, [.ref cL, .ref CN, .ref cM], false, rfl, rfl, O.ex, hx2, rfl, fp, .cons (.own _) (.cons (.own _) (.cons (.own _) .nil)), O.kN, _, rfl, ?_⟩
      refine ⟨_, rfl, rfl, rfl, d, fs, _, rfl, hx2, hlk, ?_⟩
      refine ⟨by show 2 ≤ sizeLine; decide, fun q hq => ?_⟩
      have s3 := (sm0.trans s1).trans sp
      exact ⟨_, rfl, k _ q _ (s3.trans (same_upd hq)) (s3.free hq) (.inl ⟨hs, upd_same, rfl⟩)⟩
    · refine .inr ⟨l, rfl, hl, fun e H1 d fs s1 hd hx hlk => ?_, fun ms e H1 z s1 hz lb => ?_⟩
      · refine ⟨true, O.te, fun _ a0 _ => ?_, fun q => Bool.noConfusion q⟩
        refine ⟨_, rfl, CT, d, fs, _, .ref C0, true, rfl, rfl, O.ex, hx, rfl, .own _, O.k0, _, rfl, ?_⟩
        refine ⟨_, rfl, (by show 3 ≤ sizeLine; decide), fun tp htp => ?_⟩
        have sp : Same H1 (upd H1 tp (.tup [V.ref cL, V.ref CN, V.ref cM])) := same_upd htp
        have fp : (upd H1 tp (.tup [V.ref cL, V.ref CN, V.ref cM])) tp = some (.tup [V.ref cL, V.ref CN, V.ref cM]) := upd_same
        revert sp fp
        generalize upd H1 tp (.tup [V.ref cL, V.ref CN, V.ref cM]) = H2
        intro sp fp
        have hx2 := sp _ _ hx
        refine ⟨CT, d, tp, fs, _, [.ref cL, .ref CN, .ref cM], false, rfl, rfl, O.ex, hx2, rfl, fp, .cons (.own _) (.cons (.own _) (.cons (.own _) .nil)), O.kN, _, rfl, ?_⟩
        refine ⟨_, rfl, rfl, rfl, d, fs, _, rfl, hx2, hlk, ?_⟩
        refine ⟨by show 2 ≤ sizeLine; decide, fun q hq => ?_⟩
        have s3 := (sm0.trans s1).trans sp
        exact ⟨_, rfl, k _ q _ (s3.trans (same_upd hq)) (s3.free hq) (.inr ⟨l, rfl, .inl ⟨e, upd_same, rfl⟩⟩)⟩
      · obtain ⟨n1, n2, n3, dx, t, hi, ht⟩ := lb
        refine ⟨z, dx, _, rfl, hi, z, dx, _, .ref t, rfl, hi, rfl, ?_⟩
        refine ⟨by show 2 ≤ sizeLine; decide, fun q hq => ?_⟩
        have s3 := sm0.trans s1
        exact ⟨_, rfl, k _ q _ (s3.trans (same_upd hq)) (s3.free hq) (.inr ⟨l, rfl, .inr ⟨ms, t, e, upd_same, by rw [upd_ne (ne_of_none ht hq)]; exact ht, rfl⟩⟩)⟩
end
end K12
namespace K12
open PySem L2 SR
/-! ### texts of pieces -/
def AscL (xs : List Str) : Prop := ∀ x ∈ xs, asc x.cps.toList
def sumL (xs : List Str) : Nat := (xs.map (·.length)).sum
theorem asc_join : ∀ {xs : List Str}, AscL xs → asc (Str.join plus xs).cps.toList
  | [], _ => fun c hc => by cases hc
  | [x], h => h x List.mem_cons_self
  | x :: y :: r, h => by
    have ih := asc_join (xs := y :: r) fun z hz => h z (List.mem_cons_of_mem _ hz)
    show asc (x ++ plus ++ Str.join plus (y :: r)).cps.toList
    intro c hc
    have e : (x ++ plus ++ Str.join plus (y :: r)).cps.toList = x.cps.toList ++ plus.cps.toList ++ (Str.join plus (y :: r)).cps.toList := by
      rw [Str.cps_append, Str.cps_append, Array.toList_append, Array.toList_append]
    rw [e] at hc
    rcases List.mem_append.mp hc with hc | hc
    · rcases List.mem_append.mp hc with hc | hc
      · exact h x List.mem_cons_self c hc
      · have p : plus.cps.toList = [43] := by decide +kernel
        rw [p] at hc
        rw [List.mem_singleton.mp hc]
        decide
    · exact ih c hc
theorem len_join (xs : List Str) : (Txt.join plus xs).length ≤ sumL xs + xs.length := by
  rw [join_is]
  have := StrLaws.join_length_le plus xs
  rw [plus_len] at this
  unfold sumL
  omega
theorem sum_perm {a b : List Str} (p : a.Perm b) : sumL a = sumL b := (p.map _).sum_nat
theorem asc_perm {a b : List Str} (p : a.Perm b) (h : AscL b) : AscL a := fun x hx => h x (p.mem_iff.mp hx)
theorem sum_app (a b : List Str) : sumL (a ++ b) = sumL a + sumL b := by
  unfold sumL
  rw [List.map_append, List.sum_append]
theorem splA_tot (c : Nat) : ∀ (l acc : Tx), tot (SP.splA c acc l) + (SP.splA c acc l).length = acc.length + l.length + 1
  | [], acc => by simp [SP.splA, tot]
  | a :: l, acc => by
    unfold SP.splA
    by_cases e : a = c
    · rw [if_pos e]
      have := splA_tot c l []
      rw [List.length_nil] at this
      unfold tot at this ⊢
      rw [List.map_cons, List.sum_cons, List.length_cons, List.length_cons]
      omega
    · rw [if_neg e]
      have := splA_tot c l (acc ++ [a])
      rw [List.length_append, List.length_singleton] at this
      rw [List.length_cons]
      omega
theorem sum_txt (ts : List Tx) : sumL (ts.map txt) = tot ts := by
  unfold sumL tot
  rw [List.map_map]
  congr 1
theorem pieces_sum (l : Tx) : sumL ((piecesC l).map txt) + (piecesC l).length = l.length + 1 := by
  rw [sum_txt]
  have := splA_tot 43 l []
  rw [List.length_nil] at this
  unfold piecesC
  omega
theorem pieces_asc {l : Tx} (h : asc l) : AscL ((piecesC l).map txt) := fun x hx => by
  obtain ⟨t, ht, rfl⟩ := List.mem_map.mp hx
  exact fun c hc => ((SP.splA_mem 43 l [] t ht).1 c hc).elim (fun z => by cases z) fun z => h c z
theorem upper_le {l : Tx} (h : asc l) : ∃ u, Txt.upper (txt l) = txt u ∧ asc u ∧ u.length = l.length := by
  induction l with
  | nil => exact ⟨[], by decide +kernel, asc_nil, rfl⟩
  | cons c r ih =>
    obtain ⟨u, e1, e2, e3⟩ := ih fun d hd => h d (List.mem_cons_of_mem _ hd)
    have hc : c < 128 := h c List.mem_cons_self
    have e : txt (c :: r) = txt [c] ++ txt r := (txt_app [c] r).symm
    refine ⟨(if 97 ≤ c ∧ c ≤ 122 then c - 32 else c) :: u, ?_, fun d hd => ?_, by rw [List.length_cons, List.length_cons, e3]⟩
    · rw [e, PySem.W.KOpn.upper_app, e1]
      have e4 := PySem.W.KOpn.upper_one hc
      have e5 : Txt.upper (txt [c]) = txt [if 97 ≤ c ∧ c ≤ 122 then c - 32 else c] := e4
      rw [e5, txt_app]
      rfl
    · rcases List.mem_cons.mp hd with rfl | hd
      · split <;> omega
      · exact e2 d hd
def ltext2 (ys : List Str) : Str := if 0 < ys.length then Txt.join plus ys else "-"
section
variable {P : Program} {w : World} {K : PySem.W.Frag} {mg : Str → Option Value} {base : Heap}
/-! ### _law_text -/
def spText (K : PySem.W.Frag) : Sp := fun vs H Q _ => ∃ (p : Addr) (ys : List Str), vs = [.ref p] ∧ (SqL K H p (ys.map V.str) ∨ SqT K H p (ys.map V.str)) ∧ ys.all isNm = true ∧ ys.length ≤ 100 ∧ Q (.str (ltext2 ys)) H
theorem ok_text {f : Addr} {fd : FuncData} (F : Fun K "_law_text" "_law_text" sText f fd) (Z : Zn mg) : FnOk P w K mg base CX0 1 f fd ["_law_marks"] (spText K) := by
  refine F.ok (N := ["_law_marks"]) ⟨rfl, rfl, rfl, by decide +kernel, rfl, by decide +kernel, by decide +kernel⟩ (fun vs H Q E h => ?_) (fun cdv A outer_ s H vs Q E hr h => ?_)
  · obtain ⟨p, ys, rfl, _⟩ := h
    rfl
  · obtain ⟨p, ys, rfl, hS, nms, l, k⟩ := h
    refine ⟨_, pss_one (ps_ret (pe_ifExp (pt_cmpR op_gt (pe_callB call_len_seq (by rfl) Z.zLen PySem.boot_len (pa_cons (pv 0) pa_nil)) pe_int (nomark _)) (pe_join pe_str (pv 0)) pe_str)), ?_⟩
    refine ⟨_, rfl, p, _, rfl, hS, _, _, rfl, rfl, _, rfl, ?_⟩
    rw [List.length_map]
    show if decide ((0 : Int) < (ys.length : Int)) = true then _ else _
    have a := lens_of fun y hy => List.all_eq_true.mp nms y hy
    refine ite2 (fun z => ?_) (fun z => ?_)
    · have z' : 0 < ys.length := by have := of_decide_eq_true z; omega
      have e : ltext2 ys = Txt.join plus ys := if_pos z'
      rw [e] at k
      refine ⟨⟨_, rfl⟩, _, rfl, plus, p, ys, rfl, rfl, hS, ?_, k⟩
      rw [plus_len]
      omega
    · have e : ltext2 ys = "-" := if_neg fun y => z (decide_eq_true (by omega))
      rw [e] at k
      exact k
end
end K12
namespace K12
open PySem L2 SR
def bd : Nat → Nat
  | 0 => 60
  | n + 1 => 2 * bd n + 12
theorem bd_le : ∀ i, i ≤ 2 → bd i ≤ 276 := by decide
abbrev cnt (u : Tx) : Nat := u.count 43
theorem cut_to (u : Tx) (a : Nat) : cutS (txt u) none (some (a : Int)) = txt (u.take a) := by
  unfold cutS
  rw [HT.sIx_none, HT.sIx_nat, txt_len, List.drop_zero, Nat.sub_zero]
  show (⟨(u.take (min a u.length)).toArray⟩ : Str) = ⟨(u.take a).toArray⟩
  congr 2
  by_cases h : a ≤ u.length
  · rw [Nat.min_eq_left h]
  · rw [Nat.min_eq_right (by omega), List.take_of_length_le (Nat.le_refl _), List.take_of_length_le (by omega)]
theorem cut_from (u : Tx) (a : Nat) : cutS (txt u) (some (a : Int)) none = txt (u.drop a) := by
  unfold cutS
  rw [HT.sIx_none, HT.sIx_nat, txt_len]
  show (⟨((u.drop (min a u.length)).take (u.length - min a u.length)).toArray⟩ : Str) = ⟨(u.drop a).toArray⟩
  congr 2
  rw [List.take_of_length_le (by rw [List.length_drop]; exact Nat.le_refl _)]
  by_cases h : a ≤ u.length
  · rw [Nat.min_eq_left h]
  · rw [Nat.min_eq_right (by omega), List.drop_of_length_le (Nat.le_refl _), List.drop_of_length_le (by omega)]
theorem cut_one (u : Tx) (a : Nat) : ∃ x : Tx, cutS (txt u) (some (a : Int)) (some ((a + 1 : Nat) : Int)) = txt x ∧ (asc u → asc x) ∧ x.length ≤ 1 := by
  unfold cutS
  rw [HT.sIx_nat, HT.sIx_nat, txt_len]
  refine ⟨_, rfl, fun h c hc => h c (List.mem_of_mem_drop (List.mem_of_mem_take hc)), ?_⟩
  rw [List.length_take]
  omega
theorem put_in {u x : Tx} {a b : Nat} (h : a ≤ b) (ua : asc u) (xa : asc x) : asc (u.take a ++ x ++ u.drop b) ∧ (u.take a ++ x ++ u.drop b).length ≤ u.length + x.length ∧ cnt (u.take a ++ x ++ u.drop b) ≤ cnt u + x.length := by
  have sb : (u.take a ++ u.drop b).Sublist u := by
    have e : u.take a ++ u.drop a = u := List.take_append_drop a u
    conv => rhs; rw [← e]
    refine List.Sublist.append (List.Sublist.refl _) ?_
    rw [show u.drop b = (u.drop a).drop (b - a) by rw [List.drop_drop]; congr 1; omega]
    exact List.drop_sublist _ _
  have l := sb.length_le
  have c := sb.count_le (43 : Nat)
  have x43 : x.count 43 ≤ x.length := List.count_le_length
  rw [List.length_append] at l
  rw [List.count_append] at c
  refine ⟨asc_app (asc_app (fun z hz => ua z (List.mem_of_mem_take hz)) xa) fun z hz => ua z (List.mem_of_mem_drop hz), ?_, ?_⟩
  · rw [List.length_append, List.length_append]
    omega
  · show (u.take a ++ x ++ u.drop b).count 43 ≤ u.count 43 + x.length
    rw [List.count_append, List.count_append]
    omega
theorem splA_cnt (c : Nat) : ∀ (l acc : Tx), (SP.splA c acc l).length = l.count c + 1
  | [], acc => rfl
  | a :: l, acc => by
    unfold SP.splA
    by_cases e : a = c
    · rw [if_pos e, List.length_cons, splA_cnt c l [], e, List.count_cons_self]
    · rw [if_neg e, splA_cnt c l (acc ++ [a]), List.count_cons_of_ne e]
theorem splA_no (c : Nat) : ∀ (l acc : Tx), c ∉ acc → ∀ p ∈ SP.splA c acc l, c ∉ p
  | [], acc, h, p, hp => by rw [List.mem_singleton.mp hp]; exact h
  | a :: l, acc, h, p, hp => by
    unfold SP.splA at hp
    by_cases e : a = c
    · rw [if_pos e] at hp
      rcases List.mem_cons.mp hp with rfl | hp
      · exact h
      · exact splA_no c l [] (fun z => by cases z) p hp
    · rw [if_neg e] at hp
      refine splA_no c l (acc ++ [a]) (fun z => ?_) p hp
      rcases List.mem_append.mp z with z | z
      · exact h z
      · exact e (List.mem_singleton.mp z).symm
def NoP (xs : List Str) : Prop := ∀ x ∈ xs, 43 ∉ x.cps.toList
theorem cnt_join : ∀ {xs : List Str}, NoP xs → (Str.join plus xs).cps.toList.count 43 ≤ xs.length
  | [], _ => Nat.zero_le _
  | [x], h => by
    show x.cps.toList.count 43 ≤ 1
    rw [List.count_eq_zero.mpr (h x List.mem_cons_self)]
    exact Nat.zero_le _
  | x :: y :: r, h => by
    have ih := cnt_join (xs := y :: r) fun z hz => h z (List.mem_cons_of_mem _ hz)
    have e : (x ++ plus ++ Str.join plus (y :: r)).cps.toList = x.cps.toList ++ plus.cps.toList ++ (Str.join plus (y :: r)).cps.toList := by
      rw [Str.cps_append, Str.cps_append, Array.toList_append, Array.toList_append]
    show (x ++ plus ++ Str.join plus (y :: r)).cps.toList.count 43 ≤ _
    have p : plus.cps.toList = [43] := by decide +kernel
    rw [e, p, List.count_append, List.count_append, List.count_eq_zero.mpr (h x List.mem_cons_self), List.length_cons]
    show 0 + 1 + _ ≤ _
    omega
theorem pieces_cnt (l : Tx) : (piecesC l).length = cnt l + 1 := splA_cnt 43 l []
theorem pieces_no (l : Tx) : NoP ((piecesC l).map txt) := fun x hx => by
  obtain ⟨t, ht, rfl⟩ := List.mem_map.mp hx
  exact splA_no 43 l [] (fun z => by cases z) t ht
/-- what pieces are joined to -/
theorem join_tx {xs : List Str} (a : AscL xs) (n : NoP xs) : ∃ u : Tx, Txt.join plus xs = txt u ∧ asc u ∧ u.length ≤ sumL xs + xs.length ∧ cnt u ≤ xs.length := by
  have e := join_is plus xs
  refine ⟨(Str.join plus xs).cps.toList, by rw [e]; exact txt_of _, asc_join a, ?_, cnt_join n⟩
  have l := len_join xs
  rw [e] at l
  rw [← txt_len, ← txt_of]
  exact l
def bends : Tx := (Str.ofString "+-aAz b1(:").cps.toList
theorem bends_ok : (bends.all fun c => decide (c < 128)) = true ∧ bends.length = 10 := by decide +kernel
theorem bends_txt : Str.ofString "+-aAz b1(:" = txt bends := txt_of _
theorem cut_mm {n : Nat} (h : n < 2) : ∃ zs : List Str, cutV [V.str "mm", V.str "nn"] none (some (1 + (n : Int))) = zs.map V.str ∧ AscL zs ∧ NoP zs ∧ sumL zs ≤ 4 ∧ zs.length ≤ 2 := by
  have one : AscL ["mm"] ∧ NoP ["mm"] ∧ sumL ["mm"] ≤ 4 := by unfold AscL NoP asc; decide +kernel
  have two : AscL ["mm", "nn"] ∧ NoP ["mm", "nn"] ∧ sumL ["mm", "nn"] ≤ 4 := by unfold AscL NoP asc; decide +kernel
  match n, h with
  | 0, _ => exact ⟨["mm"], by rfl, one.1, one.2.1, one.2.2, by decide⟩
  | 1, _ => exact ⟨["mm", "nn"], by rfl, two.1, two.2.1, two.2.2, by decide⟩
  | n + 2, h => exact absurd h (by omega)
section
variable {P : Program} {w : World} {K : PySem.W.Frag} {mg : Str → Option Value} {base : Heap}
/-! ### _law_spoilt -/
def spSp : Sp := fun vs H Q _ => ∃ (r : Addr) (l : Tx), vs = [.ref r, tv l] ∧ Rg H r ∧ asc l ∧ l.length ≤ 60 ∧ cnt l ≤ 6 ∧ ∀ H' u, Kp r H H' → asc u → u.length ≤ 4000 → Q (tv u) H'
theorem scSp : FnScope ["_law_rng_here", "_law_text_here", "_law_turn", "_law_at", "_law_way", "_law_marks", "_law_sign"] ["_law_rng_here", "_law_text_here"] (defScope sSpoilt) := ⟨rfl, rfl, rfl, by decide +kernel, rfl, by decide +kernel, by decide +kernel⟩
theorem ok_sp {f fD fC : Addr} {fd dD dC : FuncData} (F : Fun K "_law_spoilt" "_law_spoilt" sSpoilt f fd) (B : BEnv mg) (zO : mg "sorted" = none) (AD : At K mg "_law_draw" sDraw ["_law_rng_here", "_law_many"] fD dD) (AC : At K mg "_law_choice" sChoice ["_law_rng_here", "_law_options"] fC dC) :
    FnOk P w K mg base CX0 3 f fd ["_law_rng_here", "_law_text_here"] spSp := by
  have GD : FnOk P w K mg base CX0 1 fD dD ["_law_rng_here", "_law_many"] spDraw := ok_draw AD.F B
  have GC : FnOk P w K mg base CX0 2 fC dC ["_law_rng_here", "_law_options"] (spChoice K) := ok_choice AC.F B AD
  refine F.ok scSp (fun vs H Q E h => ?_) (fun cdv A outer_ s H vs Q E hr h => ?_)
  · obtain ⟨r, l, rfl, _⟩ := h
    rfl
  · obtain ⟨r, l, rfl, g, la, lm, lc, k⟩ := h
    have hr1 := hr.mono (j := 1) (by decide)
    refine ⟨_, pss_cons (ps_for PassesOwn.never rfl (pi_range1 (by rfl) B.zRange (pa_cons (pe_call GC hr (by rfl) AC.m AC.F.kp AC.b .nil pass0 (pa_cons (pv 0) (pa_cons (pe_lst (pa_cons pe_int (pa_cons pe_int (pa_cons pe_int (pa_cons pe_int pa_nil))))) pa_nil))) pa_nil)) (pg_name (i := 2) scSp.nd rfl (Or.inl rfl))
        (pss_cons (ps_par3 (i := 3) (j := 4) (l := 5) rfl scSp.nd rfl rfl rfl (by decide) (by decide) (by decide) rfl rfl rfl
          (pa_cons (pe_call GD hr1 (by rfl) AD.m AD.F.kp AD.b .nil pass0 (pa_cons (pv 0) (pa_cons (pe_op op_add (pe_callB call_len_str (by rfl) B.zLen PySem.boot_len (pa_cons (pv 1) pa_nil)) pe_int) pa_nil)))
            (pa_cons (pe_call GD hr1 (by rfl) AD.m AD.F.kp AD.b .nil pass0 (pa_cons (pv 0) (pa_cons pe_int pa_nil))) (pa_cons (pe_split (pv 1) pe_str) pa_nil))) (by rfl))
        (pss_one (ps_if (pt_cmpR op_eq (pv 4) pe_int (nomark _))
          (pss_one (ps_set (i := 1) scSp.nd rfl (Or.inl rfl) (pe_op op_add_str (pe_slice sl_str (pv 1) po_none (po_some (pv 3))) (pe_slice sl_str (pv 1) (po_some (pe_op op_add (pv 3) pe_int)) po_none))))
          (pss_one (ps_if (pt_cmpR op_lt (pv 4) pe_int (nomark _))
            (pss_one (ps_set (i := 1) scSp.nd rfl (Or.inl rfl) (pe_op op_add_str (pe_op op_add_str (pe_slice sl_str (pv 1) po_none (po_some (pv 3))) (pe_call GC hr (by rfl) AC.m AC.F.kp AC.b .nil pass0 (pa_cons (pv 0) (pa_cons pe_str pa_nil)))) (pe_slice sl_str (pv 1) (po_some (pe_op op_sub (pe_op op_add (pv 3) (pv 4)) pe_int)) po_none))))
            (pss_one (ps_if (pt_cmpR op_eq (pv 4) pe_int (nomark _))
              (pss_one (ps_set (i := 1) scSp.nd rfl (Or.inl rfl) (pe_join pe_str (pe_revL (pv 5)))))
              (pss_one (ps_if (pt_cmpR op_eq (pv 4) pe_int (nomark _))
                (pss_one (ps_set (i := 1) scSp.nd rfl (Or.inl rfl) (pe_join pe_str (pe_op op_cat (pv 5) (pe_lst (pa_cons (pe_call GC hr (by rfl) AC.m AC.F.kp AC.b .nil pass0 (pa_cons (pv 0) (pa_cons (pv 5) pa_nil))) pa_nil))))))
                (pss_one (ps_if (pt_cmpR op_eq (pv 4) pe_int (nomark _))
                  (pss_cons (ps_set (i := 6) scSp.nd rfl (Or.inl rfl) (pe_upper (pe_slice sl_str (pv 1) (po_some (pv 3)) (po_some (pe_op op_add (pv 3) pe_int)))))
                  (pss_one (ps_set (i := 1) scSp.nd rfl (Or.inl rfl) (pe_op op_add_str (pe_op op_add_str (pe_slice sl_str (pv 1) po_none (po_some (pv 3))) (pv 6)) (pe_slice sl_str (pv 1) (po_some (pe_op op_add (pv 3) pe_int)) po_none)))))
                  (pss_one (ps_set (i := 1) scSp.nd rfl (Or.inl rfl) (pe_join pe_str (pe_callB cr_sortedS (by rfl) zO (by decide +kernel) (pa_cons (pe_op op_cat (pv 5) (pe_slice sl_list (pe_lst (pa_cons pe_str (pa_cons pe_str pa_nil))) po_none (po_some (pe_op op_add pe_int (pe_call GD hr1 (by rfl) AD.m AD.F.kp AD.b .nil pass0 (pa_cons (pv 0) (pa_cons pe_int pa_nil))))))) pa_nil)))))))))))))))))
      (pss_one (ps_ret (pv 1))), ?_⟩
    have hb : big = 1000000 := rfl
    refine ⟨_, rfl, (by show 4 ≤ sizeLine; decide), fun a ha => ?_⟩
    refine ⟨r, _, rfl, (Kp.of_same (same_upd ha)).2 g, .inl ⟨a, _, rfl, upd_same, Rg.ne g ha, (fun e => nomatch e), (by decide), fun H1 x k1 hx => ?_⟩⟩
    have k1' : Kp r H H1 := Kp.trans (Kp.of_same (same_upd ha)) k1
    obtain ⟨n, rfl, hn⟩ : ∃ n : Nat, x = V.int (n : Int) ∧ n ≤ 2 := by
      rcases List.mem_cons.mp hx with e | hx
      · exact ⟨0, e, by decide⟩
      rcases List.mem_cons.mp hx with e | hx
      · exact ⟨1, e, by decide⟩
      rcases List.mem_cons.mp hx with e | hx
      · exact ⟨1, e, by decide⟩
      · exact ⟨2, List.mem_singleton.mp hx, by decide⟩
    refine ⟨_, rfl, by omega, by omega, ?_⟩
    show ∃ W, _
    rw [Int.toNat_natCast]
    refine for_range (lo := 0) (n := n) (fun i σ H' => ∃ (u : Tx) (x y z q t : Option V), σ = [some (.ref r), some (tv u), x, y, z, q, t] ∧ Kp r H H' ∧ asc u ∧ u.length ≤ bd i ∧ cnt u ≤ 6 + 3 * i) ⟨l, none, none, none, none, none, rfl, k1', la, lm, lc⟩ ?_ ?_
    · rintro i σ H' hi ⟨u, x, y, z, q, t, rfl, kp, ua, um, uc⟩
      have hu : u.length ≤ 276 := Nat.le_trans um (bd_le i (by omega))
      have b3 : bd (i + 1) = 2 * bd i + 12 := rfl
      have hsl : sizeLine = 16777216 := sizeLine_eq
      have hline : (txt u).length ≤ sizeLine := by rw [txt_len]; omega
      have ll : ∀ (x y : Tx), x.length + y.length ≤ 500000 → (txt x).length + (txt y).length ≤ sizeLine := fun x y h => by
        rw [txt_len, txt_len]
        omega
      have g' := kp.2 g
      refine ⟨_, rfl, _, rfl, txt u, rfl, hline, _, _, rfl, rfl, r, u.length + 1, ?_, g', Nat.succ_pos _, by omega, fun H2 at_ k2 hat => ?_⟩
      · rw [txt_len]
        rfl
      refine ⟨_, rfl, r, 7, rfl, k2.2 g', by decide, by decide, fun H3 way k3 hway => ?_⟩
      have g3 := k3.2 (k2.2 g')
      have kp3 : Kp r H H3 := (kp.trans k2).trans k3
      refine ⟨_, rfl, ⟨_, rfl⟩, txt u, Str.ofString "+", rfl, rfl, (by decide +kernel), (by rw [txt_len]; omega), fun m hm => ?_⟩
      rw [split_plus, map_tv]
      have nm := Rg.ne g3 hm
      have kp4 : Kp r H (upd H3 m (.lst ((piecesC u).map tv))) := kp3.trans (Kp.of_same (same_upd hm))
      have fm : (upd H3 m (.lst ((piecesC u).map tv))) m = some (.lst ((piecesC u).map tv)) := upd_same
      revert kp4 fm
      generalize upd H3 m (.lst ((piecesC u).map tv)) = H4
      intro kp4 fm
      have g4 := kp4.2 g
      have pc := pieces_cnt u
      have ps := pieces_sum u
      have pa := pieces_asc ua
      have pn := pieces_no u
      have at1 : (at_ : Int) + 1 = ((at_ + 1 : Nat) : Int) := by omega
      refine ⟨_, _, _, rfl, ?_⟩
      have joined : ∀ (H5 : Hp) (p : Addr) (ys : List Str), AscL ys → NoP ys → sumL ys + ys.length ≤ 2 * u.length + 12 → ys.length ≤ cnt u + 3 → (ys.map (·.length)).sum + ys.length * plus.length ≤ 16777216 ∧ ∃ v : Tx, Txt.join plus ys = txt v ∧ asc v ∧ v.length ≤ bd (i + 1) ∧ cnt v ≤ 6 + 3 * (i + 1) := fun H5 p ys ya yn yl yc => by
        obtain ⟨v, e, va, vl, vc⟩ := join_tx ya yn
        refine ⟨?_, v, e, va, by omega, by omega⟩
        rw [plus_len]
        unfold sumL at yl
        omega
      refine ⟨_, rfl, rfl, _, rfl, ?_⟩
      refine ite2 (fun h1 => ?_) (fun h1 => ?_)
      · refine ⟨_, rfl, _, rfl, _, rfl, txt u, rfl, hline, ?_⟩
        rw [cut_to]
        refine ⟨_, rfl, _, rfl, _, _, rfl, rfl, _, rfl, txt u, rfl, hline, ?_⟩
        rw [at1, cut_from]
        obtain ⟨pa1, pa2, pa3⟩ := put_in (x := []) (a := at_) (b := at_ + 1) (Nat.le_succ at_) ua asc_nil
        rw [List.append_nil] at pa1 pa2 pa3
        rw [List.length_append] at pa2
        rw [List.length_nil] at pa2 pa3
        refine ⟨_, _, rfl, rfl, ll _ _ (by omega), ?_⟩
        rw [txt_app]
        exact ⟨_, _, _, _, _, _, rfl, kp4, pa1, by rw [List.length_append]; omega, by omega⟩
      have w0 : way ≠ 0 := fun z => by rw [z] at h1; exact h1 (by simp)
      refine ⟨_, rfl, _, _, rfl, rfl, _, rfl, ?_⟩
      refine ite2 (fun h2 => ?_) (fun h2 => ?_)
      · refine ⟨_, rfl, _, rfl, _, rfl, txt u, rfl, hline, ?_⟩
        rw [cut_to, bends_txt]
        refine ⟨_, rfl, r, tv bends, rfl, g4, .inr ⟨bends, rfl, (fun e => by have := bends_ok.2; rw [e] at this; cases this), (by rw [bends_ok.2]; decide), fun H5 c k5 hc => ?_⟩⟩
        have ca : asc [c] := fun x hx => by rw [List.mem_singleton.mp hx]; exact of_decide_eq_true (List.all_eq_true.mp bends_ok.1 c hc)
        have ix : (at_ : Int) + (way : Int) - 1 = ((at_ + way - 1 : Nat) : Int) := by omega
        obtain ⟨pa1, pa2, pa3⟩ := put_in (x := [c]) (a := at_) (b := at_ + way - 1) (by omega) ua ca
        rw [List.length_append, List.length_append] at pa2
        rw [List.length_singleton] at pa2 pa3
        refine ⟨_, _, rfl, rfl, ll _ _ (by rw [List.length_singleton]; omega), ?_⟩
        refine ⟨_, rfl, _, rfl, _, rfl, _, _, rfl, rfl, _, _, rfl, rfl, _, rfl, txt u, rfl, hline, ?_⟩
        rw [ix, cut_from]
        refine ⟨txt (u.take at_ ++ [c]), txt (u.drop (at_ + way - 1)), (by rw [txt_app]), rfl, ll _ _ (by rw [List.length_append, List.length_singleton]; omega), ?_⟩
        rw [txt_app]
        exact ⟨_, _, _, _, _, _, rfl, kp4.trans k5, pa1, by rw [List.length_append, List.length_append, List.length_singleton]; omega, by omega⟩
      refine ⟨_, rfl, rfl, _, rfl, ?_⟩
      refine ite2 (fun h3 => ?_) (fun h3 => ?_)
      · refine ⟨⟨_, rfl⟩, _, rfl, m, _, rfl, SqL.of fm, fun p hp => ?_⟩
        have pm : (((piecesC u).map txt).reverse).Perm ((piecesC u).map txt) := List.reverse_perm _
        have lr : ((piecesC u).map txt).reverse.length = (piecesC u).length := by rw [List.length_reverse, List.length_map]
        obtain ⟨jl, v, e, va, vl, vc⟩ := joined H4 p ((piecesC u).map txt).reverse (asc_perm pm pa) (fun x hx => pn x (pm.mem_iff.mp hx)) (by rw [sum_perm pm, lr]; omega) (by rw [lr]; omega)
        refine ⟨plus, p, ((piecesC u).map txt).reverse, rfl, rfl, .inl (SqL.of (by rw [upd_same, List.map_reverse, map_tv])), jl, ?_⟩
        rw [e]
        exact ⟨_, _, _, _, _, _, rfl, kp4.trans (Kp.of_same (same_upd hp)), va, vl, vc⟩
      refine ⟨_, rfl, rfl, _, rfl, ?_⟩
      refine ite2 (fun h4 => ?_) (fun h4 => ?_)
      · have pne : (piecesC u).map tv ≠ [] := fun z => by
          have := congrArg List.length z
          rw [List.length_map] at this
          rw [List.length_nil] at this
          omega
        refine ⟨⟨_, rfl⟩, _, rfl, _, rfl, _, rfl, r, _, rfl, g4, .inl ⟨m, _, rfl, fm, nm, pne, by rw [List.length_map]; omega, fun H5 x k5 hx => ?_⟩⟩
        obtain ⟨t', ht', rfl⟩ := List.mem_map.mp hx
        refine ⟨by show 1 ≤ sizeLine; decide, fun b hb' => ?_⟩
        have fm5 := k5.1 m _ nm fm
        have s6 : Same H5 (upd H5 b (.lst [tv t'])) := same_upd hb'
        have fb : (upd H5 b (.lst [tv t'])) b = some (.lst [tv t']) := upd_same
        revert s6 fb
        generalize upd H5 b (.lst [tv t']) = H6
        intro s6 fb
        refine ⟨m, b, _, _, rfl, rfl, s6 _ _ fm5, fb, by rw [List.length_map, List.length_singleton]; omega, fun p hp => ?_⟩
        have lt' := (pieces_len u).2 t' ht'
        obtain ⟨jl, v, e, va, vl, vc⟩ := joined H6 p ((piecesC u).map txt ++ [txt t']) (fun x hx => by
            rcases List.mem_append.mp hx with hx | hx
            · exact pa x hx
            · exact pa x (by rw [List.mem_singleton.mp hx]; exact List.mem_map.mpr ⟨t', ht', rfl⟩)) (fun x hx => by
            rcases List.mem_append.mp hx with hx | hx
            · exact pn x hx
            · exact pn x (by rw [List.mem_singleton.mp hx]; exact List.mem_map.mpr ⟨t', ht', rfl⟩)) (by
            rw [sum_app, List.length_append, List.length_map, List.length_singleton]
            have : sumL [txt t'] = t'.length := by unfold sumL; simp [txt_len]
            omega) (by rw [List.length_append, List.length_map, List.length_singleton]; omega)
        refine ⟨plus, p, (piecesC u).map txt ++ [txt t'], rfl, rfl, .inl (SqL.of (by rw [upd_same, List.map_append, map_tv]; rfl)), jl, ?_⟩
        rw [e]
        exact ⟨_, _, _, _, _, _, rfl, (kp4.trans k5).trans (Kp.of_same (s6.trans (same_upd hp))), va, vl, vc⟩
      refine ⟨_, rfl, rfl, _, rfl, ?_⟩
      refine ite2 (fun h5 => ?_) (fun h5 => ?_)
      · obtain ⟨x1, e1, a1, m1⟩ := cut_one u at_
        refine ⟨_, rfl, _, rfl, _, rfl, _, rfl, _, _, rfl, rfl, _, rfl, txt u, rfl, hline, ?_⟩
        rw [at1, e1]
        obtain ⟨x2, e2, a2, m2⟩ := upper_le (a1 ua)
        refine ⟨⟨_, rfl⟩, _, rfl, rfl, by rw [txt_len]; omega, ?_⟩
        rw [e2]
        obtain ⟨pa1, pa2, pa3⟩ := put_in (x := x2) (a := at_) (b := at_ + 1) (Nat.le_succ at_) ua a2
        rw [List.length_append, List.length_append] at pa2
        refine ⟨_, rfl, _, rfl, _, rfl, txt u, rfl, hline, ?_⟩
        rw [cut_to]
        refine ⟨_, rfl, _, _, rfl, rfl, ll _ _ (by omega), ?_⟩
        refine ⟨_, rfl, _, rfl, _, _, rfl, rfl, _, rfl, txt u, rfl, hline, ?_⟩
        rw [at1, cut_from]
        refine ⟨txt (u.take at_ ++ x2), txt (u.drop (at_ + 1)), (by rw [txt_app]), rfl, ll _ _ (by rw [List.length_append]; omega), ?_⟩
        rw [txt_app]
        exact ⟨_, _, _, _, _, _, rfl, kp4, pa1, by rw [List.length_append, List.length_append]; omega, by omega⟩
      · refine ⟨⟨_, rfl⟩, _, rfl, (by show 2 ≤ sizeLine; decide), fun b hb' => ?_⟩
        have nb := Rg.ne g4 hb'
        have s5 : Same H4 (upd H4 b (.lst [.str "mm", .str "nn"])) := same_upd hb'
        have fb : (upd H4 b (.lst [.str "mm", .str "nn"])) b = some (.lst [.str "mm", .str "nn"]) := upd_same
        revert s5 fb
        generalize upd H4 b (.lst [.str "mm", .str "nn"]) = H5
        intro s5 fb
        have kp5 := kp4.trans (Kp.of_same (r := r) s5)
        refine ⟨_, rfl, r, 2, rfl, kp5.2 g, by decide, by decide, fun H6 n6 k6 hn6 => ?_⟩
        have kp6 := kp5.trans k6
        obtain ⟨zs, ez, za, zn, zl, zc⟩ := cut_mm hn6
        refine ⟨_, _, rfl, rfl, _, rfl, b, _, rfl, SqL.of (k6.1 b _ nb fb), fun p hp => ?_⟩
        rw [ez]
        have fm6 := k6.1 m _ nm (s5 _ _ fm)
        have s7 : Same H6 (upd H6 p (.lst (zs.map V.str))) := same_upd hp
        have fp : (upd H6 p (.lst (zs.map V.str))) p = some (.lst (zs.map V.str)) := upd_same
        revert s7 fp
        generalize upd H6 p (.lst (zs.map V.str)) = H7
        intro s7 fp
        refine ⟨m, p, _, _, rfl, rfl, s7 _ _ fm6, fp, by rw [List.length_map, List.length_map]; omega, fun p2 hp2 => ?_⟩
        refine ⟨p2, (piecesC u).map txt ++ zs, rfl, SqL.of (by rw [upd_same, List.map_append, map_tv]), by rw [List.length_append, List.length_map]; omega, fun ys p3 pm srt hp3 => ?_⟩
        have ly : ys.length = (piecesC u).length + zs.length := by rw [pm.length_eq, List.length_append, List.length_map]
        obtain ⟨jl, v, e, va, vl, vc⟩ := joined H7 p3 ys (asc_perm pm fun x hx => (List.mem_append.mp hx).elim (pa x) (za x)) (fun x hx => (List.mem_append.mp (pm.mem_iff.mp hx)).elim (pn x) (zn x)) (by rw [sum_perm pm, sum_app, ly]; omega) (by rw [ly]; omega)
        refine ⟨plus, p3, ys, rfl, rfl, .inl (SqL.of upd_same), jl, ?_⟩
        rw [e]
        exact ⟨_, _, _, _, _, _, rfl, kp6.trans (Kp.of_same ((s7.trans (same_upd hp2)).trans (same_upd hp3))), va, vl, vc⟩
    · rintro σ H' ⟨u, x, y, z, q, t, rfl, kp, ua, um, uc⟩
      have := bd_le n hn
      exact ⟨_, rfl, k H' u kp ua (by omega)⟩
end
end K12
namespace K12
open PySem L2 SR
section
variable {P : Program} {w : World} {K : PySem.W.Frag} {mg : Str → Option Value} {base : Heap}
variable {C gE gL gS gR gH pM gM : Addr} {dE dL dS dR dH dM : FuncData}
/-! ### _law_same, _law_unlike -/
theorem eqR (M : LabM K mg C gE gL gS gR gH pM gM dE dL dS dR dH dM) (Z : Zn mg) : FnR P w K mg base CX0 1 gE (fun vs H Q E => spEqL K C (vs ++ []) H Q E) := (ok_eq M Z).raw M.bE .nil
/-- == of labels -/
theorem eq_ll {H : Hp} {Q : VK} {a b : Addr} {xs ys : List Str} (la : Lb C H a xs) (lb : Lb C H b ys) (q : Q (.bl (decide (xs = ys))) H) : EqO.rEqO K C (fun vs H Q E => spEqL K C (vs ++ []) H Q E) E0 (.ref a) (.ref b) H Q := by
  obtain ⟨dx, fs, ha⟩ := la.ins
  obtain ⟨dy, gs, hb⟩ := lb.ins
  exact .inl ⟨a, dx, fs, rfl, ha, .inr ⟨b, dy, gs, rfl, hb⟩, a, .ref b, xs, rfl, la, .inr ⟨b, ys, rfl, lb, q⟩⟩
theorem ne_ll {H : Hp} {Q : VK} {a b : Addr} {xs ys : List Str} (la : Lb C H a xs) (lb : Lb C H b ys) (q : Q (.bl (!decide (xs = ys))) H) : EqO.rNeO K C (fun vs H Q E => spEqL K C (vs ++ []) H Q E) E0 (.ref a) (.ref b) H Q := by
  obtain ⟨dx, fs, ha⟩ := la.ins
  obtain ⟨dy, gs, hb⟩ := lb.ins
  exact .inl ⟨a, dx, fs, rfl, ha, .inr ⟨b, dy, gs, rfl, hb⟩, a, .ref b, xs, rfl, la, .inr ⟨b, ys, rfl, lb, _, rfl, q⟩⟩
/-- of a label and a value of a built-in type -/
theorem eq_lv {H : Hp} {Q : VK} {a : Addr} {xs : List Str} {y : V} {T : String} (la : Lb C H a xs) (t : EqO.BtV K H y T) (q : Q (.bl false) H) : EqO.rEqO K C (fun vs H Q E => spEqL K C (vs ++ []) H Q E) E0 (.ref a) y H Q := by
  obtain ⟨dx, fs, ha⟩ := la.ins
  exact .inl ⟨a, dx, fs, rfl, ha, .inl ⟨T, t⟩, a, y, xs, rfl, la, .inl ⟨T, t, q⟩⟩
theorem ne_lv {H : Hp} {Q : VK} {a : Addr} {xs : List Str} {y : V} {T : String} (la : Lb C H a xs) (t : EqO.BtV K H y T) (q : Q (.bl true) H) : EqO.rNeO K C (fun vs H Q E => spEqL K C (vs ++ []) H Q E) E0 (.ref a) y H Q := by
  obtain ⟨dx, fs, ha⟩ := la.ins
  exact .inl ⟨a, dx, fs, rfl, ha, .inl ⟨T, t⟩, a, y, xs, rfl, la, .inl ⟨T, t, _, rfl, q⟩⟩
theorem ne_vl {H : Hp} {Q : VK} {a : Addr} {xs : List Str} {y : V} {T : String} (la : Lb C H a xs) (t : EqO.BtV K H y T) (q : Q (.bl true) H) : EqO.rNeO K C (fun vs H Q E => spEqL K C (vs ++ []) H Q E) E0 y (.ref a) H Q := by
  obtain ⟨dx, fs, ha⟩ := la.ins
  exact .inr ⟨a, dx, fs, T, rfl, ha, t, a, y, xs, rfl, la, .inl ⟨T, t, _, rfl, q⟩⟩
def spSame (C : Addr) : Sp := fun vs H Q _ => ∃ (a b : Addr) (xs ys : List Str), vs = [.ref a, .ref b] ∧ Lb C H a xs ∧ Lb C H b ys ∧ Q (.bl (decide (xs = ys))) H
theorem ok_same {f : Addr} {fd : FuncData} (F : Fun K "_law_same" "_law_same" sSame f fd) (M : LabM K mg C gE gL gS gR gH pM gM dE dL dS dR dH dM) (Z : Zn mg) : FnOk P w K mg base CX0 3 f fd ["_law_one", "_law_other"] (spSame C) := by
  have GE : FnR P w K mg base CX0 1 gE (fun vs H Q E => spEqL K C (vs ++ []) H Q E) := eqR M Z
  refine F.ok (N := ["_law_one", "_law_other"]) ⟨rfl, rfl, rfl, by decide +kernel, rfl, by decide +kernel, by decide +kernel⟩ (fun vs H Q E h => ?_) (fun cdv A outer_ s H vs Q E hr h => ?_)
  · obtain ⟨a, b, xs, ys, rfl, _⟩ := h
    rfl
  · obtain ⟨a, b, xs, ys, rfl, la, lb, k⟩ := h
    refine ⟨_, pss_one (ps_ret (pe_and (pe_cmpR (EqO.op_eqO M.O GE (E := E0) (hr.mono (by decide)) pass0) (pv 0) (pv 1) (nomark _)) (pe_and (pe_cmpR (EqO.op_eqO M.O GE (E := E0) (hr.mono (by decide)) pass0) (pv 1) (pv 0) (nomark _))
      (pe_one (pe_not (pe_cmpR (EqO.op_neO M.O GE (E := E0) hr pass0) (pv 0) (pv 1) (nomark _))))))), ?_⟩
    refine ⟨_, rfl, _, rfl, eq_ll la lb ?_⟩
    refine ⟨_, rfl, ?_⟩
    by_cases e : xs = ys
    · have e' : ys = xs := e.symm
      rw [decide_eq_true e] at k ⊢
      rw [if_pos rfl]
      refine ⟨_, rfl, _, rfl, eq_ll lb la ⟨_, rfl, ?_⟩⟩
      rw [decide_eq_true e', if_pos rfl]
      refine ⟨_, rfl, _, rfl, ne_ll la lb ⟨_, rfl, ?_⟩⟩
      rw [decide_eq_true e]
      exact k
    · rw [decide_eq_false e] at k ⊢
      exact k
def spUnlike (K : PySem.W.Frag) (C : Addr) : Sp := fun vs H Q _ => ∃ (a : Addr) (y : V) (xs : List Str), vs = [.ref a, y] ∧ Lb C H a xs ∧ ((∃ T, EqO.BtV K H y T ∧ Q (.bl true) H) ∨ ∃ b ys, y = .ref b ∧ Lb C H b ys ∧ Q (.bl (!decide (xs = ys))) H)
theorem ok_unlike {f : Addr} {fd : FuncData} (F : Fun K "_law_unlike" "_law_unlike" sUnlike f fd) (M : LabM K mg C gE gL gS gR gH pM gM dE dL dS dR dH dM) (Z : Zn mg) : FnOk P w K mg base CX0 3 f fd ["_law_one", "_law_other"] (spUnlike K C) := by
  have GE : FnR P w K mg base CX0 1 gE (fun vs H Q E => spEqL K C (vs ++ []) H Q E) := eqR M Z
  refine F.ok (N := ["_law_one", "_law_other"]) ⟨rfl, rfl, rfl, by decide +kernel, rfl, by decide +kernel, by decide +kernel⟩ (fun vs H Q E h => ?_) (fun cdv A outer_ s H vs Q E hr h => ?_)
  · obtain ⟨a, y, xs, rfl, _⟩ := h
    rfl
  · obtain ⟨a, y, xs, rfl, la, h⟩ := h
    refine ⟨_, pss_one (ps_ret (pe_and (pe_cmpR (EqO.op_neO M.O GE (E := E0) hr pass0) (pv 0) (pv 1) (nomark _)) (pe_and (pe_cmpR (EqO.op_neO M.O GE (E := E0) hr pass0) (pv 1) (pv 0) (nomark _))
      (pe_one (pe_not (pe_cmpR (EqO.op_eqO M.O GE (E := E0) (hr.mono (by decide)) pass0) (pv 0) (pv 1) (nomark _))))))), ?_⟩
    rcases h with ⟨T, bt, k⟩ | ⟨b, ys, rfl, lb, k⟩
    · refine ⟨_, rfl, _, rfl, ne_lv la bt ⟨_, rfl, ?_⟩⟩
      rw [if_pos rfl]
      refine ⟨_, rfl, _, rfl, ne_vl la bt ⟨_, rfl, ?_⟩⟩
      rw [if_pos rfl]
      exact ⟨_, rfl, _, rfl, eq_lv la bt ⟨_, rfl, k⟩⟩
    · refine ⟨_, rfl, _, rfl, ne_ll la lb ⟨_, rfl, ?_⟩⟩
      by_cases e : xs = ys
      · rw [decide_eq_true e] at k ⊢
        exact k
      · have e' : ¬ ys = xs := fun z => e z.symm
        rw [decide_eq_false e] at k ⊢
        rw [show (!false) = true from rfl, if_pos rfl]
        refine ⟨_, rfl, _, rfl, ne_ll lb la ⟨_, rfl, ?_⟩⟩
        rw [decide_eq_false e', show (!false) = true from rfl, if_pos rfl]
        refine ⟨_, rfl, _, rfl, eq_ll la lb ⟨_, rfl, ?_⟩⟩
        rw [decide_eq_false e]
        exact k
end
end K12
namespace K12
open PySem L2 SR
/-! ### the text of a label, and what is read from it -/
theorem plus_txt : plus = txt [43] := by decide +kernel
theorem join_joinC : ∀ ts : List Tx, Str.join plus (ts.map txt) = txt (SP.joinC 43 ts)
  | [] => by decide +kernel
  | [p] => rfl
  | p :: q :: r => by
    have ih := join_joinC (q :: r)
    show txt p ++ plus ++ Str.join plus ((q :: r).map txt) = txt (p ++ 43 :: SP.joinC 43 (q :: r))
    rw [ih, plus_txt, txt_app, txt_app, List.append_assoc]
    rfl
theorem nm_no {t : Tx} (h : nmC t = true) : 43 ∉ t := fun z => by
  have := List.all_eq_true.mp (Bool.and_eq_true_iff.mp (Bool.and_eq_true_iff.mp h).2).2 43 z
  exact absurd this (by decide)
theorem joinC_len : ∀ ts : List Tx, (SP.joinC 43 ts).length ≤ tot ts + ts.length
  | [] => Nat.zero_le _
  | [p] => by
    show p.length ≤ _
    unfold tot
    rw [List.map_cons, List.sum_cons]
    omega
  | p :: q :: r => by
    have ih := joinC_len (q :: r)
    show (p ++ 43 :: SP.joinC 43 (q :: r)).length ≤ _
    unfold tot at ih ⊢
    rw [List.length_append, List.length_cons]
    rw [List.map_cons, List.sum_cons, List.length_cons]
    omega
theorem text_is {ys : List Str} (nms : ys.all isNm = true) (l : ys.length ≤ 6) : ∃ u : Tx, ltext2 ys = txt u ∧ asc u ∧ u.length ≤ 60 ∧ cnt u ≤ 6 ∧ (ys.length ≤ 4 → Srt ys ys → rdM u = some ys) := by
  obtain ⟨ts, rfl⟩ := tx_of ys
  rw [nms_is] at nms
  rw [List.length_map] at l
  have nmAt : ∀ t ∈ ts, nmC t = true := fun t ht => List.all_eq_true.mp nms t ht
  cases ts with
  | nil =>
    refine ⟨[45], by decide +kernel, by unfold asc; decide, by decide, by decide, fun _ _ => ?_⟩
    unfold rdM
    rw [if_pos rfl]
    rfl
  | cons p r =>
    have e : ltext2 ((p :: r).map txt) = txt (SP.joinC 43 (p :: r)) := by
      unfold ltext2
      rw [if_pos (by rw [List.length_map]; exact Nat.succ_pos _), join_is, join_joinC]
    have sp : piecesC (SP.joinC 43 (p :: r)) = p :: r := SP.split_join 43 (p :: r) (by simp) fun t ht => nm_no (nmAt t ht)
    have t8 : tot (p :: r) ≤ 8 * (p :: r).length := by
      have z : ∀ ts : List Tx, (∀ t ∈ ts, nmC t = true) → tot ts ≤ 8 * ts.length := fun ts => by
        induction ts with
        | nil => intro _; exact Nat.le_refl _
        | cons a s ih =>
          intro h
          have h1 : a.length ≤ 8 := of_decide_eq_true (Bool.and_eq_true_iff.mp (h a List.mem_cons_self)).1
          have h2 := ih fun t ht => h t (List.mem_cons_of_mem _ ht)
          unfold tot at h2 ⊢
          rw [List.map_cons, List.sum_cons, List.length_cons]
          omega
      exact z _ nmAt
    have jl := joinC_len (p :: r)
    have pc := pieces_cnt (SP.joinC 43 (p :: r))
    rw [sp] at pc
    have as : asc (SP.joinC 43 (p :: r)) := by
      have := asc_join (xs := (p :: r).map txt) fun x hx => by
        obtain ⟨t, ht, rfl⟩ := List.mem_map.mp hx
        exact nm_asc (nmAt t ht)
      rw [join_joinC] at this
      exact this
    refine ⟨_, e, as, by omega, by omega, fun l4 s => ?_⟩
    have nd : SP.joinC 43 (p :: r) ≠ [45] := fun z => by
      rw [z] at sp
      have : p = [45] := by
        have q : piecesC [45] = [[45]] := by decide
        rw [q] at sp
        exact (List.cons.inj sp).1.symm
      have := nmAt p List.mem_cons_self
      rw [‹p = [45]›] at this
      exact absurd this (by decide)
    unfold rdM
    rw [if_neg nd, sp, if_neg (by rw [List.length_map] at l4; omega), if_pos nms, if_pos ⟨s.1, s.2.1⟩]
theorem ltext_eq {ys : List Str} (nms : ys.all isNm = true) : ltext ys = ltext2 ys := by
  unfold ltext ltext2
  cases ys with
  | nil => rfl
  | cons y r =>
    have ny : isNm y = true := (Bool.and_eq_true_iff.mp (by rw [List.all_cons] at nms; exact nms)).1
    have y0 : 0 < y.length := by
      have h := of_decide_eq_false (by
        have := (Bool.and_eq_true_iff.mp (Bool.and_eq_true_iff.mp ny).2).1
        simpa using this : decide (y.cps.toList = []) = false)
      have : y.length = y.cps.toList.length := by rw [txt_of y, txt_len]; rfl
      rw [this]
      exact List.length_pos_iff.mpr h
    have jl : 0 < (Txt.join plus (y :: r)).length := by
      rw [join_is]
      cases r with
      | nil => exact y0
      | cons z q =>
        show 0 < (y ++ plus ++ Str.join plus (z :: q)).length
        rw [strLen_append, strLen_append]
        omega
    rw [if_neg (by omega), if_pos (by rw [List.length_cons]; omega)]
section
variable {K : PySem.W.Frag} {H : Hp}
theorem slA_any {a : Addr} {xs : List V} {lo hi : Option Int} {Q : VK} (h : SqT K H a xs) (k : ∀ H' p, Same H H' → SqT K H' p (cutV xs lo hi) → Q (.ref p) H') : rSlA K (.ref a) lo hi H Q := by
  refine ⟨a, xs, rfl, h, fun w => ?_, fun _ p hp => k _ p (same_upd hp) (SqT.of upd_same)⟩
  have e : cutV xs lo hi = xs := by
    unfold cutV
    rw [w.1, w.2, List.drop_zero, Nat.sub_zero, List.take_of_length_le (Nat.le_refl _)]
  exact k H a (Same.refl H) (by rw [e]; exact h)
theorem catA_any {a b : Addr} {xs ys : List V} {Q : VK} (h1 : SqT K H a xs) (h2 : SqT K H b ys) (l : xs.length + ys.length ≤ sizeLine) (k : ∀ H' p, Same H H' → SqT K H' p (xs ++ ys) → Q (.ref p) H') : rCatA K (.ref a) (.ref b) H Q := by
  refine ⟨a, b, xs, ys, rfl, rfl, h1, h2, l, fun e => ?_, fun _ e => ?_, fun _ _ p hp => k _ p (same_upd hp) (SqT.of upd_same)⟩
  · exact k H b (Same.refl H) (by rw [e]; exact h2)
  · exact k H a (Same.refl H) (by rw [e, List.append_nil]; exact h1)
theorem cut_first (xs : List V) : cutV xs none (some 1) = xs.take 1 := by
  unfold cutV
  rw [HT.sIx_none, List.drop_zero, Nat.sub_zero, show (some (1 : Int)) = some ((1 : Nat) : Int) from rfl, HT.sIx_nat]
  by_cases h : 1 ≤ xs.length
  · rw [Nat.min_eq_left h]
  · rw [Nat.min_eq_right (by omega), List.take_of_length_le (Nat.le_refl _), List.take_of_length_le (by omega)]
theorem cut_rest (xs : List V) : cutV xs (some 1) none = xs.drop 1 := by
  unfold cutV
  rw [HT.sIx_none, show (some (1 : Int)) = some ((1 : Nat) : Int) from rfl, HT.sIx_nat, List.take_of_length_le (by rw [List.length_drop]; exact Nat.le_refl _)]
  by_cases h : 1 ≤ xs.length
  · rw [Nat.min_eq_left h]
  · rw [Nat.min_eq_right (by omega), List.drop_of_length_le (Nat.le_refl _), List.drop_of_length_le (by omega)]
end
/-- a call of Label with names, at most four different ones -/
theorem asks0 {K : PySem.W.Frag} {C CN CM : Addr} {H : Hp} {ts ys : List Str} {Q : VK} {E : XK} (nms : ts.all isNm = true) (s : Srt ts ys) (l4 : ys.length ≤ 4) (k : ∀ H' z, Same H H' → H z = none → Lb C H' z ys → Q (.ref z) H') : Asks K C CN CM H (ts.map V.str) Q E := by
  refine ⟨cl_names nms, (fun v e => by rw [find_none nms] at e; cases e), fun ts' ys' e nms' s' => ?_⟩
  obtain rfl := str_inj e
  obtain rfl := SR.unique s s'
  exact ⟨fun l5 => absurd l4 (by omega), fun _ => k⟩
end K12
/-! lists of the same texts: == and != -/
namespace StL
open PySem PySem.Spec PySem.SeqAt PyProof.Rows L2
theorem same_txt {A : Around} {s : Shared} {xs : List Str} : ∀ {us ws : List Value}, Vals (xs.map V.str) us → Vals (xs.map V.str) ws → ∀ (j : Nat) (h1 : j < us.length) (h2 : j < ws.length), EqAt A s us[j] ws[j] true := by
  induction xs with
  | nil =>
    intro us ws a b j h1 h2
    cases a
    exact absurd h1 (Nat.not_lt_zero _)
  | cons x xs ih =>
    intro us ws a b j h1 h2
    cases a with
    | cons ra a =>
      cases b with
      | cons rb b =>
        cases j with
        | zero =>
          obtain ⟨t, e⟩ := ra
          obtain ⟨t', e'⟩ := rb
          subst e e'
          have z := EqAt.str_str (A := A) (s := s) x t x t'
          rw [beq_self_eq_true] at z
          exact z
        | succ j => exact ih a b j (Nat.lt_of_succ_lt_succ h1) (Nat.lt_of_succ_lt_succ h2)
def rSame (K : PySem.W.Frag) (c : Bool) : R2 := fun x y H Q => ∃ (a b : Addr) (xs : List Str), x = .ref a ∧ y = .ref b ∧ SqL K H a (xs.map V.str) ∧ SqL K H b (xs.map V.str) ∧ Q (.bl c) H
section
variable {X : Cx}
theorem op_ne (hu0 : X.A.units + 64 < cLine) : OpR X (compareOp .NotEq) (rSame X.K false) := by
  rintro pins s σ H _ _ v u Q I rx ry ⟨a, b, xs, rfl, rfl, h1, h2, q⟩
  cases rx
  cases ry
  obtain ⟨i1, r1, t1, z1⟩ := I.list h1
  obtain ⟨i2, r2, t2, z2⟩ := I.list h2
  have hu : X.A.units < cLine := by omega
  have e1 := r1.length
  have e2 := r2.length
  have z := RcNeAt.lists (e := fun _ => true) t1.isList t2.isList (by rw [List.size_toArray, List.size_toArray]; omega) hu (fun j h1 h2 => same_txt r1 r2 j h1 h2)
  refine z X.prog X.w X.xe _ ?_
  have z : ((List.range i1.toArray.size).all fun _ => true) = true := List.all_eq_true.mpr fun _ _ => rfl
  rw [z]
  exact ⟨.bl false, H, I, rfl, q⟩
theorem op_eq (hu0 : X.A.units + 64 < cLine) : OpR X (compareOp .Eq) (rSame X.K true) := by
  rintro pins s σ H _ _ v u Q I rx ry ⟨a, b, xs, rfl, rfl, h1, h2, q⟩
  cases rx
  cases ry
  obtain ⟨i1, r1, t1, z1⟩ := I.list h1
  obtain ⟨i2, r2, t2, z2⟩ := I.list h2
  have hu : X.A.units < cLine := by omega
  have e1 := r1.length
  have e2 := r2.length
  have z := RcAt.lists (e := fun _ => true) t1.isList t2.isList (by rw [List.size_toArray, List.size_toArray]; omega) hu (fun j h1 h2 => same_txt r1 r2 j h1 h2)
  refine z X.prog X.w X.xe _ ?_
  have z : ((List.range i1.toArray.size).all fun _ => true) = true := List.all_eq_true.mpr fun _ _ => rfl
  rw [z]
  exact ⟨.bl true, H, I, rfl, q⟩
end
end StL
namespace K12
open PySem L2 SR
/-- the defs that _law_label_right calls, besides -/
structure REnv (K : PySem.W.Frag) (mg : Str → Option Value) (C fD fC fJ fM fT fS fU : Addr) (dD dC dJ dM dT dS dU : FuncData) : Prop where
  B : BEnv mg
  zL : mg "list" = none
  D : At K mg "_law_draw" sDraw ["_law_rng_here", "_law_many"] fD dD
  Ch : At K mg "_law_choice" sChoice ["_law_rng_here", "_law_options"] fC dC
  J : At K mg "_law_is_name" sLIsName ["_law_thing"] fJ dJ
  M : At K mg "_law_mark" sMark ["_law_rng_here", "_law_pool_here"] fM dM
  T : At K mg "_law_text" sText ["_law_marks"] fT dT
  S : At K mg "_law_same" sSame ["_law_one", "_law_other"] fS dS
  U : At K mg "_law_unlike" sUnlike ["_law_one", "_law_other"] fU dU
  kI : ∀ T ∈ ["bool", "int", "str"], PySem.W.kitOne K (.ref C) (.type T) = some false
def shB (b : Bool) : Str := if b then "True" else "False"
theorem call_reprBl {X : Cx} : CallR X (.builtin "repr") (fun xs H Q => ∃ b : Bool, xs = [.bl b] ∧ Q (.str (shB b)) H) := by
  rintro pins s σ H xs us Q I r ⟨b, rfl, q⟩
  obtain ⟨u, rfl, ru⟩ := vals1 r
  cases ru
  refine PySem.P.repr_of_bool ⟨.str _, H, I.tok _, ⟨_, rfl⟩, ?_⟩
  cases b <;> exact q
theorem sho_n : ∀ n : Nat, n < 5 → Sho (.int (n : Int)) := by unfold Sho; decide +kernel
theorem emp_app (x : Str) : Str.empty ++ x = x := Str.ext' (by rw [Str.cps_append]; exact Array.empty_append)
theorem via {te : TE} {σ : L2.St} {H : Hp} {Q : VK} (R : V → Hp → Prop) (h : ∀ Q' : VK, (∀ v H', R v H' → Q' v H') → te σ H Q') (k : ∀ v H', R v H' → Q v H') : te σ H Q := h Q k
theorem mk_te {K : PySem.W.Frag} {C CN CM : Addr} {σ : L2.St} {H1 : Hp} {Q : VK} {t : TA} (ts ys : List Str) (ht : ∀ k : List V → Hp → Prop, k (ts.map V.str) H1 → t σ H1 k) (nms : ts.all isNm = true) (s : Srt ts ys) (l4 : ys.length ≤ 4) (few : (ts.map V.str).length < 60)
    (k : ∀ H' z, Same H1 H' → Lb C H' z ys → Q (.ref z) H') : StX.tMakeR C (fun vs H Q E => ∃ ws rest, vs = ws ++ rest ∧ ws.length = ([("self" : Str)]).length ∧ rest.length ≤ sizeLine ∧ ∀ p, H p = Option.none → spInit K C CN CM (ws ++ [V.ref p]) (upd H p (.tup rest)) Q E) E0 t σ H1 Q := by
  refine ht _ fun za dza hza hda nea => ?_
  exact mk_any (asks0 nms s l4 fun H' z s1 _ lz => k H' z s1 lz) few hza hda nea
theorem cl_lab {K : PySem.W.Frag} {mg : Str → Option Value} {C gE gL gS gR gH pM gM : Addr} {dE dL dS dR dH dM : FuncData} {H : Hp} {z : Addr} {ys : List Str} (M : LabM K mg C gE gL gS gR gH pM gM dE dL dS dR dH dM)
    (kI : ∀ T ∈ ["bool", "int", "str"], PySem.W.kitOne K (.ref C) (.type T) = some false) (h : Lb C H z ys) : Cl K H (.ref z) := by
  obtain ⟨_, _, _, dx, t, ha, _⟩ := h
  exact .oth (.base (.ins ha M.cl M.ca M.cn M.ct M.cm)) (kI _ (by decide)) (kI _ (by decide)) (kI _ (by decide))
theorem cl_str {K : PySem.W.Frag} {H : Hp} {y : Str} (h : y.cps.toList.length ≤ 4000) : Cl K H (.str y) := by
  rw [txt_of y]
  exact .str _ h
theorem cl_nm {K : PySem.W.Frag} {H : Hp} {y : Str} (h : isNm y = true) : Cl K H (.str y) := cl_str (Nat.le_trans (isNm_len h) (by decide))
theorem srt_q : Srt [("q" : Str)] ["q"] := ⟨by decide +kernel, by decide +kernel, fun _ => Iff.rfl⟩
theorem srt_qz : Srt [("q" : Str), "zz"] ["q", "zz"] := ⟨by decide +kernel, by decide +kernel, fun _ => Iff.rfl⟩
theorem has_nm {x : Str} {ys : List Str} (nms : ys.all isNm = true) (h : nameV (.str x) = false) : hasV (.str x) ys = false := by
  show decide (x ∈ ys) = false
  refine decide_eq_false fun z => ?_
  have : isNm x = true := List.all_eq_true.mp nms x z
  rw [show nameV (.str x) = isNm x from rfl, this] at h
  cases h
section
variable {P : Program} {w : World} {K : PySem.W.Frag} {mg : Str → Option Value} {base : Heap}
variable {C f CN fN CM fM fI f1 C0 cL cM gE gL gS gR gH pM gM CT fT pO gO fm : Addr} {fd dN dM dI d1 dE dL dS dR dH dG dT dO dm : FuncData}
variable {fD fC fJ fMk fTx fS fU : Addr} {dD dC dJ dMk dTx dS' dU : FuncData}
theorem scLR : FnScope ["_law_rng_here", "_law_marks", "_law_due_here", "_law_made", "_law_text_here", "_law_shown", "_law_again", "_law_others", "_law_things", "_law_found", "_law_mark_here", "_law_other", "_law_thing", "_law_turn"] ["_law_rng_here", "_law_marks", "_law_due_here"] (defScope sLabelRight) := ⟨rfl, rfl, rfl, by decide +kernel, rfl, by decide +kernel, by decide +kernel⟩
abbrev nLR : List Str := ["_law_rng_here", "_law_marks", "_law_due_here", "_law_made", "_law_text_here", "_law_shown", "_law_again", "_law_others", "_law_things", "_law_found", "_law_mark_here", "_law_other", "_law_thing", "_law_turn"]
def spLRt (C : Addr) : Sp := fun vs H Q _ => ∃ (r p t : Addr) (ts ys : List Str), vs = [.ref r, .ref p, .ref t] ∧ Rg H r ∧ H p = some (.lst (ts.map V.str)) ∧ p ≠ r ∧ ts.all isNm = true ∧ ts.length ≤ 6 ∧ Srt ts ys ∧ ys.length ≤ 4 ∧ H t = some (.tup (ys.map V.str)) ∧ ∀ H', Kp r H H' → Q (.bl true) H'
theorem ok_lright {ft : Addr} {dt : FuncData} (F : Fun K "_law_label_right" "_law_label_right" sLabelRight ft dt) (T : Env12 K mg C f CN fN CM fM fI f1 C0 cL CT cM gE gL gS gR gH pM gM fd dN dM dI d1 dE dL dS dR dH dG) (O : OEnv K mg C C0 CN cL cM CT fT pO gO fm dT dO dm)
    (R : REnv K mg C fD fC fJ fMk fTx fS fU dD dC dJ dMk dTx dS' dU) : FnG P w K mg base 8 ft dt ["_law_rng_here", "_law_marks", "_law_due_here"] (spLRt C) := by
  have Z := T.Z
  have GL : FnOk P w K mg base (L2.CX P w) 5 f1 d1 ["_law_marks"] (spLabel K C CN CM) := lab_of T
  have GO : FnR P w K mg base (L2.CX P w) 5 gO (fun vs H Q E => spOf K C CT (vs ++ []) H Q E) := of_of T O
  have GG : FnOk P w K mg base CX0 1 gM dG ["self"] (getSp C "_marks") := ok_get T.M
  have GI : FnR P w K mg base (L2.CX P w) 3 f (fun vs H Q E => ∃ ws rest, vs = ws ++ rest ∧ ws.length = ([("self" : Str)]).length ∧ rest.length ≤ sizeLine ∧ ∀ p, H p = Option.none → spInit K C CN CM (ws ++ [V.ref p]) (upd H p (.tup rest)) Q E) := by
    obtain ⟨tk, mM⟩ := T.mM
    obtain ⟨t2, mL⟩ := T.mL
    exact ok_init T.L Z T.zT T.zS T.zO mM mL T.AN
  have GLn : FnR P w K mg base CX0 1 gL (fun vs H Q E => spLen C (vs ++ []) H Q E) := (ok_len T.M Z).raw T.M.bL .nil
  have GSt : FnR P w K mg base CX0 1 gS (fun vs H Q E => spStr C (vs ++ []) H Q E) := (ok_str T.M Z).raw T.M.bS .nil
  have GRe : FnR P w K mg base CX0 1 gR (fun vs H Q E => spRepr C (vs ++ []) H Q E) := (ok_repr T.M Z).raw T.M.bR .nil
  have GHs : FnR P w K mg base CX0 1 gH (fun vs H Q E => spHas K C (vs ++ []) H Q E) := (ok_has T.M Z).raw T.M.bH .nil
  have GJ : FnOk P w K mg base CX0 1 fJ dJ ["_law_thing"] (spName K) := ok_lname R.J.F Z
  have GT : FnOk P w K mg base CX0 1 fTx dTx ["_law_marks"] (spText K) := ok_text R.T.F Z
  have GS : FnOk P w K mg base CX0 3 fS dS' ["_law_one", "_law_other"] (spSame C) := ok_same R.S.F T.M Z
  have GU : FnOk P w K mg base CX0 3 fU dU ["_law_one", "_law_other"] (spUnlike K C) := ok_unlike R.U.F T.M Z
  have GM : FnOk P w K mg base CX0 3 fMk dMk ["_law_rng_here", "_law_pool_here"] (spMark K) := ok_mark R.M.F R.B R.D R.Ch
  obtain ⟨mc2, cr2, cm2⟩ := O.cr
  obtain ⟨mc, tc, rd, cv⟩ := T.L.rd
  refine okG F scLR (fun vs H Q E h => ?_) (fun cdv A outer_ s H vs Q E gd hr h => ?_)
  · obtain ⟨r, p, t, ts, ys, rfl, _⟩ := h
    rfl
  · obtain ⟨r, p, t, ts, ys, rfl, g, hL, npr, nms, l6, sr, l4, ht, k⟩ := h
    have un : (A.deeper (PyProof.Rows.envOfC "_law_label_right" (defScope sLabelRight) s.heap.objs.size ft cdv)).units + 200 < cLine := by have := hr.un; omega
    have un64 : (A.deeper (PyProof.Rows.envOfC "_law_label_right" (defScope sLabelRight) s.heap.objs.size ft cdv)).units + 64 < cLine := by omega
    have h5 := hr.mono (j := 5) (by decide)
    have h4 := hr.mono (j := 4) (by decide)
    have h3 := hr.mono (j := 3) (by decide)
    have h2 := hr.mono (j := 2) (by decide)
    have h1 := hr.mono (j := 1) (by decide)
    refine ⟨_, pss_cons (ps_asg (pe_tup (pa_cons (pe_call (E := E0) GL h5 (by rfl) T.AL.m T.AL.F.kp T.AL.b .nil (CmS.passE takes_none5) (pa_cons (pv 1) pa_nil)) (pa_cons (pe_call GT h1 (by rfl) R.T.m R.T.F.kp R.T.b .nil pass0 (pa_cons (pv 2) pa_nil)) pa_nil))) (pg_tup rfl (pgs_cons (pg_name (i := 3) scLR.nd rfl (Or.inr rfl)) (pgs_cons (pg_name (i := 4) scLR.nd rfl (Or.inl rfl)) pgs_nil))))
      (pss_cons (ps_set (i := 5) scLR.nd rfl (Or.inl rfl) (pe_op op_add_str (pe_op op_add_str pe_str (pe_join pe_str (pe_lc (own := [("_law_mark_here", 10)]) (g := gName 10) (tt := tYes) rfl scLR.nd (pi_tup (pv 2)) (blkOk_by (N := nLR) (sc := defScope sLabelRight) (by decide +kernel)) (fun _ _ _ _ _ => pg_name (i := 10) scLR.nd rfl (Or.inl rfl)) (fun _ _ _ _ _ => pts_nil)
        (fun _ _ _ _ _ => pe_callB call_reprS (by rfl) Z.zRepr (by decide +kernel) (pa_cons (pv 10) pa_nil))))) pe_str))
      (pss_cons (ps_if (pt_cmpR (StL.op_ne un64) (pe_lst (pa_cons (pe_callB (call_reprD gd un) (by rfl) Z.zRepr (by decide +kernel) (pa_cons (pe_prop (E := E0) (pv 3) T.M.cl T.M.pr GG h2 T.M.bM .nil pass0 rfl) pa_nil)) (pa_cons (pe_callB (call_reprD gd un) (by rfl) Z.zRepr (by decide +kernel) (pa_cons (pe_callB (EqO.call_lenO T.M.fL T.M.iL GLn (E := E0) h2 pass0) (by rfl) Z.zLen PySem.boot_len (pa_cons (pv 3) pa_nil)) pa_nil))
          (pa_cons (pe_callTy (EqO.call_strO T.M.fS T.M.iS GSt (E := E0) h3 pass0) (by rfl) Z.zStr (by decide +kernel) (pa_cons (pv 3) pa_nil)) (pa_cons (pe_callB (EqO.call_reprO T.M.fR T.M.iR GRe (E := E0) h2 pass0) (by rfl) Z.zRepr (by decide +kernel) (pa_cons (pv 3) pa_nil)) pa_nil)))))
          (pe_lst (pa_cons (pe_callB (call_reprD gd un) (by rfl) Z.zRepr (by decide +kernel) (pa_cons (pv 2) pa_nil)) (pa_cons (pe_callTy call_str_int (by rfl) Z.zStr (by decide +kernel) (pa_cons (pe_callB call_len_seq (by rfl) Z.zLen PySem.boot_len (pa_cons (pv 2) pa_nil)) pa_nil)) (pa_cons (pv 4) (pa_cons (pv 5) pa_nil))))) (nomark _)) (pss_one (ps_ret pe_bl)) pss_nil)
      (pss_cons (ps_set (i := 6) scLR.nd rfl (Or.inl rfl) (CmS.pe_cm (E := fun _ => E0) (pe_glob (v := .ref C) rfl T.M.m rfl) cr2 cm2 GO h5 (fun σ => passAt takes_none5 σ) (pa_cons (pv 4) pa_nil)))
      (pss_cons (ps_if (PW.pt (pw_or (pt_not (pt_val (pe_call GS h3 (by rfl) R.S.m R.S.F.kp R.S.b .nil pass0 (pa_cons (pv 6) (pa_cons (pv 3) pa_nil)))))
          (pw_or (pt_not (pt_val (pe_call GS h3 (by rfl) R.S.m R.S.F.kp R.S.b .nil pass0 (pa_cons (pe_call (E := E0) GL h5 (by rfl) T.AL.m T.AL.F.kp T.AL.b .nil (CmS.passE takes_none5) (pa_cons (pe_op op_catA (RvT.pe_revT (pv 2)) (pe_slice sl_tupA (pv 2) po_none (po_some pe_int))) pa_nil)) (pa_cons (pv 3) pa_nil)))))
          (pw_or1 (pt_cmpR op_ne (ClX.pe_cval (pe_glob (v := .ref C) rfl T.M.m rfl)) pe_int (nomark _)))))) (pss_one (ps_ret pe_bl)) pss_nil)
      (pss_cons (ps_set (i := 7) scLR.nd rfl (Or.inl rfl) (pe_lst (pa_cons (StX.pe_makeR (E := E0) T.L.mkr GI h4 (by rfl) T.L.m (CmS.passE takes_none5) (pa_cons pe_str pa_nil)) (pa_cons (StX.pe_makeR (E := E0) T.L.mkr GI h4 (by rfl) T.L.m (CmS.passE takes_none5) (pa_cons pe_str (pa_cons pe_str pa_nil)))
          (pa_cons (pe_ifExp (pt_cmpR (op_neD un64) (pv 2) (pe_tup pa_nil) (nomark _)) (pe_call (E := E0) GL h5 (by rfl) T.AL.m T.AL.F.kp T.AL.b .nil (CmS.passE takes_none5) (pa_cons (pe_slice sl_tupA (pv 2) (po_some pe_int) po_none) pa_nil)) (StX.pe_makeR (E := E0) T.L.mkr GI h4 (by rfl) T.L.m (CmS.passE takes_none5) (pa_cons pe_str pa_nil))) pa_nil)))))
      (pss_cons (ps_if (pt_not (pt_val (pe_callB (cr_all rfl) (by rfl) Z.zAll (by decide +kernel) (pa_cons (pe_lc (own := [("_law_other", 11)]) (g := gName 11) (tt := tTest (tOp (rNeD K) (tProp C (getSp C "_marks") [] E0 (tVar 11)) (tVar 2))) rfl scLR.nd (pi_list (pv 7)) (blkOk_by (N := nLR) (sc := defScope sLabelRight) (by decide +kernel)) (fun _ _ _ _ _ => pg_name (i := 11) scLR.nd rfl (Or.inl rfl))
          (fun _ _ _ _ _ => pts_one (pt_cmpR (op_neD un64) (pe_prop (E := E0) (pv 11) T.M.cl T.M.pr GG h2 T.M.bM .nil pass0 rfl) (pv 2) (nomark _))) (fun _ _ _ _ _ => pe_call GU h3 (by rfl) R.U.m R.U.F.kp R.U.b .nil pass0 (pa_cons (pv 3) (pa_cons (pv 11) pa_nil)))) pa_nil)))) (pss_one (ps_ret pe_bl)) pss_nil)
      (pss_cons (ps_if (pt_not (pt_val (pe_callB (cr_all rfl) (by rfl) Z.zAll (by decide +kernel) (pa_cons (pe_lc (own := [("_law_thing", 12)]) (g := gName 12) (tt := tYes) rfl scLR.nd (pi_tup (pe_tup (pa_cons pe_non (pa_cons (pv 4) (pa_cons (pv 2) (pa_cons (pe_callTy call_list_of (by rfl) R.zL (by decide +kernel) (pa_cons (pv 2) pa_nil)) (pa_cons pe_int (pa_cons pe_bl (pa_cons (pe_callB call_len_seq (by rfl) Z.zLen PySem.boot_len (pa_cons (pv 2) pa_nil)) (pa_cons pe_dnewK (pa_cons (pv 5) pa_nil)))))))))))
          (blkOk_by (N := nLR) (sc := defScope sLabelRight) (by decide +kernel)) (fun _ _ _ _ _ => pg_name (i := 12) scLR.nd rfl (Or.inl rfl)) (fun _ _ _ _ _ => pts_nil) (fun _ _ _ _ _ => pe_call GU h3 (by rfl) R.U.m R.U.F.kp R.U.b .nil pass0 (pa_cons (pv 3) (pa_cons (pv 12) pa_nil)))) pa_nil)))) (pss_one (ps_ret pe_bl)) pss_nil)
      (pss_cons (ps_set (i := 8) scLR.nd rfl (Or.inl rfl) (pe_op op_cat (pe_op op_cat (pe_callTy call_list_of (by rfl) R.zL (by decide +kernel) (pa_cons (pv 2) pa_nil)) (pe_lc (own := [("_law_turn", 13)]) (g := gName 13) (tt := tYes) rfl scLR.nd (pi_range1 (by rfl) R.B.zRange (pa_cons pe_int pa_nil)) (blkOk_by (N := nLR) (sc := defScope sLabelRight) (by decide +kernel)) (fun _ _ _ _ _ => pg_name (i := 13) scLR.nd rfl (Or.inl rfl)) (fun _ _ _ _ _ => pts_nil)
          (fun _ _ _ _ _ => pe_call GM h3 (by rfl) R.M.m R.M.F.kp R.M.b .nil pass0 (pa_cons (pv 0) (pa_cons (pe_lst (pa_cons pe_str (pa_cons pe_str pa_nil))) pa_nil))))) (pe_lst (pa_cons (pv 4) (pa_cons (pv 2) (pa_cons pe_non (pa_cons (pv 3) (pa_cons (pe_lst pa_nil) (pa_cons pe_dnewK (pa_cons pe_int (pa_cons pe_str pa_nil)))))))))))
      (pss_cons (ps_setLc (i := 9) (own := [("_law_thing", 12)]) (g := gName 12) (tt := tYes) rfl scLR.nd rfl rfl (sw_true rfl rfl rfl rfl) (pi_list (pv 8)) (blkOk_by (N := nLR) (sc := defScope sLabelRight) (by decide +kernel)) (fun _ _ _ _ _ => pg_name (i := 12) scLR.nd rfl (Or.inl rfl)) (fun _ _ _ _ _ => pts_nil)
          (fun _ _ _ _ _ => pe_callB call_reprBl (by rfl) Z.zRepr (by decide +kernel) (pa_cons (pe_cmpR (EqO.op_inO T.M.fH T.M.iH GHs (E := E0) h1 pass0) (pv 12) (pv 3) (by rfl)) pa_nil)))
      (pss_one (ps_ret (pe_cmpR (StL.op_eq un64) (pv 9) (pe_lc (own := [("_law_thing", 12)]) (g := gName 12) (tt := tYes) rfl scLR.nd (pi_list (pv 8)) (blkOk_by (N := nLR) (sc := defScope sLabelRight) (by decide +kernel)) (fun _ _ _ _ _ => pg_name (i := 12) scLR.nd rfl (Or.inl rfl)) (fun _ _ _ _ _ => pts_nil)
          (fun _ _ _ _ _ => pe_callB call_reprBl (by rfl) Z.zRepr (by decide +kernel) (pa_cons (pe_and (pe_call GJ h1 (by rfl) R.J.m R.J.F.kp R.J.b .nil pass0 (pa_cons (pv 12) pa_nil)) (pe_one (pe_cmpR (show OpR _ (compareOp .In) (rIn K false) from op_in_seq) (pv 12) (pv 2) (by rfl)))) pa_nil))) (nomark _))))))))))))), ?_⟩
    have hsl : sizeLine = 16777216 := sizeLine_eq
    have ynms : ys.all isNm = true := srt_nm nms sr
    have nmAt : ∀ y ∈ ys, isNm y = true := fun y hy => List.all_eq_true.mp ynms y hy
    have sy : Srt ys ys := SR.self sr
    have ntr : t ≠ r := fun e => by
      obtain ⟨x, y, h, _⟩ := g
      rw [e, h] at ht
      cases ht
    refine ⟨_, rfl, p, ts.map V.str, rfl, .inl (SqL.of hL), by rw [List.length_map]; exact l6, asks0 nms sr l4 fun H1 z s1 hz lb => ?_⟩
    have ht1 := s1 _ _ ht
    obtain ⟨u, hu, ua, u60, uc, urd⟩ := text_is ynms (by omega)
    refine ⟨_, rfl, t, ys, rfl, .inr (SqT.of ht1), ynms, by omega, ?_⟩
    refine ⟨by show 2 ≤ sizeLine; omega, fun q hq => ⟨q, _, rfl, SqT.of upd_same, rfl, _, _, rfl, _, _, rfl, rfl, ?_⟩⟩
    have s2 : Same H (upd H1 q (.tup [V.ref z, V.str (ltext2 ys)])) := s1.trans (same_upd hq)
    have lb2 : Lb C (upd H1 q (.tup [V.ref z, V.str (ltext2 ys)])) z ys := lb.same (same_upd hq)
    revert s2 lb2
    generalize upd H1 q (.tup [V.ref z, V.str (ltext2 ys)]) = H2
    intro s2 lb2
    clear hq lb hz s1 ht1
    have ht2 := s2 _ _ ht
    refine ⟨⟨_, rfl⟩, _, rfl, t, rfl, ⟨_, SqT.of ht2⟩, fun D hD => ?_⟩
    refine lc_tup (xs := ys.map V.str) (fun i H' => Same H2 H' ∧ H' D = some (.lst (((ys.map reprText).take i).map V.str))) ⟨same_upd hD, upd_same⟩ (fun i H' _ q => SqT.of (q.1 _ _ ht2)) ?_ ?_
    · rintro i v H1 hv ⟨sm, hL⟩
      rw [List.getElem?_map] at hv
      obtain ⟨y, hy, rfl⟩ := Option.map_eq_some_iff.mp hv
      have l82 := repr_len8 (nmAt y (List.mem_of_getElem? hy))
      refine ⟨rfl, _, rfl, y, rfl, by omega, _, hL, ?_, fun b o q => ?_, ?_⟩
      · rw [List.length_map, List.length_take, List.length_map]
        omega
      · rw [upd_ne (ne_of_none q hD)]
        exact sm b o q
      · rw [upd_same, take_snoc (x := reprText y) (by rw [List.getElem?_map, hy]; rfl), List.map_append]
        rfl
    rintro H3 ⟨sm, hLD⟩
    rw [List.length_map, List.take_of_length_le (by rw [List.length_map]; exact Nat.le_refl _)] at hLD
    have lens : ((ys.map reprText).map (·.length)).sum + (ys.map reprText).length * comma.length ≤ 1000 := by
      have each : ∀ zs : List Str, (∀ y ∈ zs, isNm y = true) → ((zs.map reprText).map (·.length)).sum ≤ 82 * zs.length := fun zs => by
        induction zs with
        | nil => intro _; decide
        | cons z zs ih =>
          intro hz
          have a := repr_len8 (hz z List.mem_cons_self)
          have b := ih fun y hy => hz y (List.mem_cons_of_mem _ hy)
          rw [List.map_cons, List.map_cons, List.sum_cons, List.length_cons]
          omega
      have a := each ys nmAt
      have b : comma.length = 2 := by decide +kernel
      rw [b, List.length_map]
      omega
    have jl : (Txt.join comma (ys.map reprText)).length ≤ 1000 := by
      rw [join_is]
      exact Nat.le_trans (StrLaws.join_length_le comma _) lens
    have jl' : (Txt.join (", " : Str) (ys.map reprText)).length ≤ 1000 := jl
    have e7 : ("Label(" : Str).length = 6 := by decide +kernel
    have e8 : (")" : Str).length = 1 := by decide +kernel
    refine ⟨_, D, ys.map reprText, rfl, rfl, .inl (SqL.of hLD), Nat.le_trans lens (by decide), _, _, rfl, rfl, ?_, _, _, rfl, rfl, ?_, ?_⟩
    · rw [e7]
      omega
    · rw [strLen_append, e7, e8]
      omega
    have eS : lshow ys = (("Label(" : Str) ++ Txt.join (", " : Str) (ys.map reprText)) ++ (")" : Str) := by
      unfold lshow comma
      rw [emp_app]
    rw [← eS]
    have s3 := s2.trans sm
    have lb3 := lb2.same sm
    clear sm lb2 s2 hLD ht2 hD eS e7 e8 jl jl' lens
    have ht3 := s3 _ _ ht
    obtain ⟨_, _, _, dx, tz, hz3, htz3⟩ := id lb3
    -- the two lists
    refine ⟨_, rfl, z, dx, _, rfl, hz3, z, dx, _, .ref tz, rfl, hz3, rfl, _, .tuple (ys.map PyData.str), rfl, th_names htz3, sho_names ynms (by omega), ?_⟩
    refine ⟨_, rfl, z, dx, _, rfl, hz3, z, ys, rfl, lb3, ys.length, rfl, by omega, _, .int (ys.length : Int), rfl, .int _, sho_n _ (by omega), ?_⟩
    refine ⟨_, rfl, z, dx, _, rfl, hz3, z, ys, rfl, lb3, _, rfl, ?_⟩
    refine ⟨_, rfl, z, dx, _, rfl, hz3, z, ys, rfl, lb3, fun H4 s34 => ⟨_, rfl, by show 4 ≤ sizeLine; omega, fun q1 hq1 => ?_⟩⟩
    have s5 := (s3.trans s34).trans (same_upd (o := .lst [V.str (PyData.tuple (ys.map PyData.str)).shown, V.str (PyData.int (ys.length : Int)).shown, V.str (ltext ys), V.str (lshow ys)]) hq1)
    have lb5 := (lb3.same s34).same (same_upd (o := .lst [V.str (PyData.tuple (ys.map PyData.str)).shown, V.str (PyData.int (ys.length : Int)).shown, V.str (ltext ys), V.str (lshow ys)]) hq1)
    have ht5 := s5 _ _ ht
    refine ⟨_, rfl, _, .tuple (ys.map PyData.str), rfl, th_names ht5, sho_names ynms (by omega), ?_⟩
    refine ⟨_, rfl, t, ys.map V.str, rfl, .inr (SqT.of ht5), _, rfl, ?_, ?_⟩
    · rw [List.length_map]
      have : ∀ n : Nat, n < 5 → (n : Int).natAbs.log2 < 1920 := by decide +kernel
      exact this _ (by omega)
    refine ⟨_, rfl, _, rfl, by show 4 ≤ sizeLine; omega, fun q2 hq2 => ?_⟩
    rw [List.length_map]
    refine ⟨q1, q2, [(PyData.tuple (ys.map PyData.str)).shown, (PyData.int (ys.length : Int)).shown, ltext ys, lshow ys], rfl, rfl, SqL.of ?_, SqL.of ?_, false, rfl, ?_⟩
    · rw [upd_ne (ne_of_none upd_same hq2)]
      exact upd_same
    · rw [upd_same, ltext_eq ynms]
      rfl
    have s6 := s5.trans (same_upd (o := .lst [V.str (PyData.tuple (ys.map PyData.str)).shown, V.str (Str.ofString (toString (ys.length : Int))), V.str (ltext2 ys), V.str (lshow ys)]) hq2)
    have lb6 := lb5.same (same_upd (o := .lst [V.str (PyData.tuple (ys.map PyData.str)).shown, V.str (Str.ofString (toString (ys.length : Int))), V.str (ltext2 ys), V.str (lshow ys)]) hq2)
    revert s6 lb6
    generalize upd _ q2 _ = H6
    intro s6 lb6
    clear s5 lb5 hq2 hq1 ht5 s34 lb3 s3 hz3 htz3 ht3
    have ht6 := s6 _ _ ht
    -- of_text
    refine ⟨rfl, _, rfl, _, rfl, .inr ⟨u, by rw [hu], by omega, fun e => absurd (e.symm.trans (urd l4 sy)) (fun z => nomatch z), fun ms e H7 z2 s67 hz2 lz2 => ?_⟩⟩
    have em : ms = ys := Option.some.inj (e.symm.trans (urd l4 sy))
    rw [em] at lz2
    clear em e
    have s7 := s6.trans s67
    have lb7 := lb6.same s67
    have ht7 := s7 _ _ ht
    -- the same
    refine ⟨_, rfl, _, rfl, z2, z, ys, ys, rfl, lz2, lb7, true, by rw [decide_eq_true rfl], ?_⟩
    refine ⟨_, rfl, t, ys.map V.str, rfl, SqT.of ht7, fun tr htr => ?_⟩
    have s8 := s7.trans (same_upd (o := .tup (ys.map V.str).reverse) htr)
    have lb8 := lb7.same (same_upd (o := .tup (ys.map V.str).reverse) htr)
    have hr8 : (upd H7 tr (.tup (ys.map V.str).reverse)) tr = some (.tup (ys.map V.str).reverse) := upd_same
    revert s8 lb8 hr8
    generalize upd H7 tr _ = H8
    intro s8 lb8 hr8
    refine ⟨_, rfl, _, rfl, slA_any (SqT.of (s8 _ _ ht)) fun H9 tc s89 hc => ?_⟩
    rw [cut_first] at hc
    refine catA_any (SqT.of (s89 _ _ hr8)) hc (by rw [List.length_reverse, List.length_map, List.length_take]; omega) fun H10 tx s9 hx => ?_
    have s10 := (s8.trans s89).trans s9
    have lb10 := (lb8.same s89).same s9
    have ex : (ys.map V.str).reverse ++ (ys.map V.str).take 1 = (ys.reverse ++ ys.take 1).map V.str := by rw [List.map_append, List.map_reverse, List.map_take]
    rw [ex] at hx
    have nx : (ys.reverse ++ ys.take 1).all isNm = true := List.all_eq_true.mpr fun y hy => by
      rcases List.mem_append.mp hy with h | h
      · exact nmAt y (List.mem_reverse.mp h)
      · exact nmAt y (List.mem_of_mem_take h)
    have sx : Srt (ys.reverse ++ ys.take 1) ys := SR.congr sy fun y => by
      rw [List.mem_append, List.mem_reverse]
      exact ⟨.inl, fun h => h.elim id List.mem_of_mem_take⟩
    refine ⟨tx, _, rfl, .inr hx, by rw [List.length_map, List.length_append, List.length_reverse, List.length_take]; omega, asks0 nx sx l4 fun H11 z3 s11 hz3 lz3 => ?_⟩
    have s11' := s10.trans s11
    have lb11 := lb10.same s11
    clear s8 lb8 hr8 s89 hc s9 hx s10 lb10 ex nx sx htr lz2 s67 hz2
    refine ⟨_, rfl, z3, z, ys, ys, rfl, lz3, lb11, true, by rw [decide_eq_true rfl], ?_⟩
    refine ⟨C, mc, _, _, rfl, rd, cv, rfl, false, by rw [decide_eq_true rfl]; rfl, ?_⟩
    clear s7 lb7 ht7 lz3 hz3 s11 lb6 s6 ht6
    revert s11' lb11
    intro s11 lb11
    -- the others
    rw [if_neg Bool.false_ne_true]
    unfold tNext tSeq tAsg tLst tCons
    dsimp only
    refine mk_te ["q"] ["q"] ?_ (by decide +kernel) srt_q (by decide) (by decide) ?_
    · exact fun k h => h
    rintro H12 a1 s12 l12
    refine mk_te ["q", "zz"] ["q", "zz"] ?_ (by decide +kernel) srt_qz (by decide) (by decide) ?_
    · exact fun k h => h
    rintro H13 a2 s13 l13
    show tIf _ _ _ _ _ (fun x H1 => _)
    refine via (te := tIf _ _ _) (fun v H' => Same H13 H' ∧ ∃ a3 zs, v = .ref a3 ∧ Lb C H' a3 zs) (fun Q' k' => ?_) ?_
    · have ht13 := (s11.trans (s12.trans s13)) _ _ ht
      refine ⟨_, rfl, by show 0 ≤ sizeLine; omega, fun p0 hp0 => ?_⟩
      have sp0 := same_upd (o := .tup []) hp0
      have hp1 : (upd H13 p0 (.tup [])) p0 = some (.tup []) := upd_same
      revert sp0 hp1
      generalize upd H13 p0 (.tup []) = H14
      intro sp0 hp1
      have ht14 := sp0 _ _ ht13
      refine ⟨_, _, .tup (SqT.of ht14) (dpT ys), .tup (SqT.of hp1) (dpT []), shT _ fun z hz => nm_ok (nmAt z hz), shT _ (fun z hz => nomatch hz), !decide (ys = []), by rw [← eqvT], ?_⟩
      by_cases e : ys = []
      · rw [decide_eq_true e]
        show (if false = true then _ else _)
        rw [if_neg Bool.false_ne_true]
        refine mk_te ["q"] ["q"] ?_ (by decide +kernel) srt_q (by decide) (by decide) ?_
        · exact fun k h => h
        rintro H15 a3 s15 l15
        exact k' _ _ ⟨sp0.trans s15, a3, _, rfl, l15⟩
      · rw [decide_eq_false e]
        show (if true = true then _ else _)
        rw [if_pos rfl]
        refine ⟨_, rfl, _, rfl, ?_⟩
        unfold tNoPart
        refine slA_any (SqT.of ht14) fun H15 tc s15 hc => ?_
        rw [cut_rest, ← List.map_drop] at hc
        have nd : (ys.drop 1).all isNm = true := List.all_eq_true.mpr fun y hy => nmAt y (List.mem_of_mem_drop hy)
        have st : Srt (ys.drop 1) (ys.drop 1) := by rw [List.drop_one]; exact SR.tail sy
        refine ⟨tc, _, rfl, .inr hc, by rw [List.length_map, List.length_drop]; omega, asks0 nd st (by rw [List.length_drop]; omega) fun H16 a3 s16 _ l16 => ?_⟩
        exact k' _ _ ⟨(sp0.trans s15).trans s16, a3, _, rfl, l16⟩
    rintro v H14 ⟨s14, a3, zs, rfl, l14⟩
    refine ⟨by show 3 ≤ sizeLine; omega, fun qo hqo => ?_⟩
    have su := same_upd (o := .lst [V.ref a1, V.ref a2, V.ref a3]) hqo
    have ho : (upd H14 qo (.lst [V.ref a1, V.ref a2, V.ref a3])) qo = some (.lst [V.ref a1, V.ref a2, V.ref a3]) := upd_same
    revert su ho
    generalize upd H14 qo (.lst [V.ref a1, V.ref a2, V.ref a3]) = H15
    intro su ho
    have s15 := (s11.trans (s12.trans (s13.trans s14))).trans su
    have lb15 := (lb11.same (s12.trans (s13.trans s14))).same su
    have each : ∀ x ∈ [V.ref a1, V.ref a2, V.ref a3], ∃ a zs, x = .ref a ∧ Lb C H15 a zs := by
      simp only [List.forall_mem_cons]
      exact ⟨⟨_, _, rfl, (l12.same (s13.trans s14)).same su⟩, ⟨_, _, rfl, (l13.same s14).same su⟩, ⟨_, _, rfl, l14.same su⟩, fun _ h => nomatch h⟩
    clear su l14 l13 l12 s14 s13 s12 hqo lb11 s11
    have ht15 := s15 _ _ ht
    refine ⟨_, rfl, qo, rfl, ⟨_, SqL.of ho⟩, fun D2 hD2 => ?_⟩
    refine lc_list (xs := [V.ref a1, V.ref a2, V.ref a3]) (fun i H' => Same H15 H' ∧ ∃ bs : List Bool, H' D2 = some (.lst (bs.map V.bl)) ∧ bs.all id = true ∧ bs.length ≤ i) ⟨same_upd hD2, [], upd_same, rfl, Nat.le_refl _⟩ (fun i H' _ q => SqL.of (q.1 _ _ ho)) ?_ ?_
    · rintro i x H' hx ⟨sm, bs, hb, al, bl⟩
      obtain ⟨a, zs, rfl, la⟩ := each x (List.mem_of_getElem? hx)
      have la' := la.same sm
      have i3 : i < 3 := (List.getElem?_eq_some_iff.mp hx).1
      obtain ⟨nz, l4z, sz, dz, tz, hza, htz⟩ := id la'
      refine ⟨rfl, _, rfl, a, dz, _, rfl, hza, a, dz, _, .ref tz, rfl, hza, rfl, _, rfl, ?_⟩
      refine ⟨_, _, .tup (SqT.of htz) (dpT zs), .tup (SqT.of (sm _ _ ht15)) (dpT ys), shT _ fun z hz => nm_ok (List.all_eq_true.mp nz z hz), shT _ fun z hz => nm_ok (nmAt z hz), _, rfl, ?_⟩
      rw [eqvT]
      by_cases e : zs = ys
      · rw [decide_eq_true e]
        exact ⟨sm, bs, hb, al, by omega⟩
      · rw [decide_eq_false e]
        have e' : ¬ ys = zs := fun z => e z.symm
        refine ⟨_, rfl, _, rfl, z, .ref a, ys, rfl, lb15.same sm, .inr ⟨a, zs, rfl, la', ?_⟩⟩
        rw [decide_eq_false e']
        refine ⟨_, hb, by rw [List.length_map]; omega, fun b o q => ?_, bs ++ [true], ?_, ?_, ?_⟩
        · rw [upd_ne (ne_of_none q hD2)]
          exact sm b o q
        · rw [upd_same, List.map_append]
          rfl
        · rw [List.all_append, al]
          rfl
        · rw [List.length_append, List.length_singleton]
          omega
    rintro H16 ⟨sm, bs, hb, al, _⟩
    refine ⟨D2, bs, rfl, SqL.of hb, true, by rw [al], ?_⟩
    have s16 := s15.trans sm
    have lb16 := lb15.same sm
    clear sm hb al each ho hD2 lb15 s15 ht15
    -- the mixed tuple
    have ht16 := s16 _ _ ht
    refine ⟨_, rfl, _, rfl, _, rfl, t, _, rfl, .inr (SqT.of ht16), fun l1 hl1 => ?_⟩
    have s17 := s16.trans (same_upd (o := .lst (ys.map V.str)) hl1)
    have lb17 := lb16.same (same_upd (o := .lst (ys.map V.str)) hl1)
    have fl1 : (upd H16 l1 (.lst (ys.map V.str))) l1 = some (.lst (ys.map V.str)) := upd_same
    revert s17 lb17 fl1
    generalize upd H16 l1 (.lst (ys.map V.str)) = H17
    intro s17 lb17 fl1
    have ht17 := s17 _ _ ht
    refine ⟨_, rfl, t, _, rfl, .inr (SqT.of ht17), fun d1 hd1 => ?_⟩
    have sd := same_upd (o := .dK []) hd1
    have fd1 : (upd H17 d1 (.dK [])) d1 = some (.dK []) := upd_same
    revert sd fd1
    generalize upd H17 d1 (.dK []) = H18
    intro sd fd1
    have each9 : ∀ x ∈ [V.non, V.str (ltext2 ys), V.ref t, V.ref l1, V.int 0, V.bl true, V.int ((ys.map V.str).length : Int), V.ref d1, V.str (lshow ys)], ∀ H', Same H18 H' → ∃ T, EqO.BtV K H' x T := by
      simp only [List.forall_mem_cons]
      exact ⟨fun _ _ => ⟨_, .non⟩, fun _ _ => ⟨_, .str _⟩, fun H' s => ⟨_, .tup (s _ _ (sd _ _ ht17))⟩, fun H' s => ⟨_, .lst (s _ _ (sd _ _ fl1))⟩, fun _ _ => ⟨_, .int _⟩, fun _ _ => ⟨_, .bl _⟩, fun _ _ => ⟨_, .int _⟩, fun H' s => ⟨_, .dic (s _ _ fd1)⟩, fun _ _ => ⟨_, .str _⟩, fun _ h => nomatch h⟩
    refine ⟨_, rfl, by show 9 ≤ sizeLine; omega, fun tq htq => ?_⟩
    have sq := same_upd (o := .tup [V.non, V.str (ltext2 ys), V.ref t, V.ref l1, V.int 0, V.bl true, V.int ((ys.map V.str).length : Int), V.ref d1, V.str (lshow ys)]) htq
    have fq : (upd H18 tq (.tup [V.non, V.str (ltext2 ys), V.ref t, V.ref l1, V.int 0, V.bl true, V.int ((ys.map V.str).length : Int), V.ref d1, V.str (lshow ys)])) tq = some (.tup [V.non, V.str (ltext2 ys), V.ref t, V.ref l1, V.int 0, V.bl true, V.int ((ys.map V.str).length : Int), V.ref d1, V.str (lshow ys)]) := upd_same
    revert sq fq
    generalize upd H18 tq _ = H19
    intro sq fq
    have s19 := (s17.trans sd).trans sq
    have lb19 := (lb17.same sd).same sq
    refine ⟨tq, rfl, ⟨_, SqT.of fq⟩, fun D3 hD3 => ?_⟩
    refine lc_tup (xs := [V.non, V.str (ltext2 ys), V.ref t, V.ref l1, V.int 0, V.bl true, V.int ((ys.map V.str).length : Int), V.ref d1, V.str (lshow ys)]) (fun i H' => Same H19 H' ∧ ∃ bs : List Bool, H' D3 = some (.lst (bs.map V.bl)) ∧ bs.all id = true ∧ bs.length ≤ i) ⟨same_upd hD3, [], upd_same, rfl, Nat.le_refl _⟩ (fun i H' _ q => SqT.of (q.1 _ _ fq)) ?_ ?_
    · rintro i x H' hx ⟨sm, bs, hb, al, bl⟩
      obtain ⟨T0, bt⟩ := each9 x (List.mem_of_getElem? hx) H' (sq.trans sm)
      have i9 : i < 9 := (List.getElem?_eq_some_iff.mp hx).1
      refine ⟨rfl, _, rfl, _, rfl, z, x, ys, rfl, lb19.same sm, .inl ⟨T0, bt, ?_⟩⟩
      refine ⟨_, hb, by rw [List.length_map]; omega, fun b o q => ?_, bs ++ [true], ?_, ?_, ?_⟩
      · rw [upd_ne (ne_of_none q hD3)]
        exact sm b o q
      · rw [upd_same, List.map_append]
        rfl
      · rw [List.all_append, al]
        rfl
      · rw [List.length_append, List.length_singleton]
        omega
    rintro H20 ⟨sm, bs, hb, al, _⟩
    refine ⟨D3, bs, rfl, SqL.of hb, true, by rw [al], ?_⟩
    have s20 := s19.trans sm
    have lb20 := lb19.same sm
    clear sm hb al each9 hD3 sq fq htq sd fd1 hd1 lb19 s19 lb17 s17 fl1 hl1 ht17 ht16 lb16 s16
    have ht20 := s20 _ _ ht
    -- the things
    refine ⟨_, rfl, t, _, rfl, .inr (SqT.of ht20), fun l2 hl2 => ?_⟩
    have s21 := s20.trans (same_upd (o := .lst (ys.map V.str)) hl2)
    have lb21 := lb20.same (same_upd (o := .lst (ys.map V.str)) hl2)
    have fl2 : (upd H20 l2 (.lst (ys.map V.str))) l2 = some (.lst (ys.map V.str)) := upd_same
    have g20 := (Kp.of_same (r := r) s20).2 g
    have nl2 : l2 ≠ r := g20.ne hl2
    revert s21 lb21 fl2
    generalize upd H20 l2 (.lst (ys.map V.str)) = H21
    intro s21 lb21 fl2
    have g21 := (Kp.of_same (r := r) s21).2 g
    refine ⟨6, rfl, by decide, by decide, fun D4 hD4 => ?_⟩
    have nD4 : D4 ≠ r := g21.ne hD4
    have eaq : ([V.str "a", V.str "q"] : List V) = ([[97], [113]] : List Tx).map tv := by
      show [V.str "a", V.str "q"] = [V.str (txt [97]), V.str (txt [113])]
      rw [show txt [97] = ("a" : Str) from by decide +kernel, show txt [113] = ("q" : Str) from by decide +kernel]
    refine lc_range (lo := 0) (n := 6) (fun i H' => Kp r H21 H' ∧ ∃ ms : List V, H' D4 = some (.lst ms) ∧ ms.length ≤ i ∧ ∀ v ∈ ms, (∃ d, Mv H' v d) ∧ v ≠ .ref D4) ⟨(Kp.refl r H21).put hD4 nD4, [], upd_same, Nat.le_refl _, fun _ h => nomatch h⟩ ?_ ?_
    · rintro i H' hi ⟨kp, ms, hm, lm, mvs⟩
      have g' := kp.2 g21
      refine ⟨rfl, _, rfl, by show 2 ≤ sizeLine; omega, fun pl hpl => ?_⟩
      have k1 : Kp r H' (upd H' pl (.lst [V.str "a", V.str "q"])) := Kp.of_same (same_upd hpl)
      have npl : pl ≠ r := g'.ne hpl
      have fpl : (upd H' pl (.lst [V.str "a", V.str "q"])) pl = some (.lst [V.str "a", V.str "q"]) := upd_same
      revert k1 fpl
      generalize upd H' pl _ = H1
      intro k1 fpl
      rw [eaq] at fpl
      refine ⟨r, pl, [[97], [113]], rfl, k1.2 g', fpl, npl, by simp, by decide, by decide, fun H2 v d k2 mv fr => ?_⟩
      have k12 := k1.trans k2
      have hm2 := k12.1 D4 _ nD4 hm
      have hm1 := k1.1 D4 _ nD4 hm
      have vD : v ≠ .ref D4 := fun e => by
        rw [fr D4 e] at hm1
        cases hm1
      have kk : Kp r H21 (upd H2 D4 (.lst (ms ++ [v]))) := (kp.trans k12).put hD4 nD4
      have up : ∀ {x : V} {e : PyData}, Mv H2 x e → x ≠ .ref D4 → Mv (upd H2 D4 (.lst (ms ++ [v]))) x e := fun {x e} h n => h.keep fun a o z q => by
        rw [upd_ne (fun w => n (by rw [z, w]))]
        exact q
      refine ⟨ms, hm2, by omega, kk, ms ++ [v], upd_same, by rw [List.length_append, List.length_singleton]; omega, fun x hx => ?_⟩
      rcases List.mem_append.mp hx with hx | hx
      · obtain ⟨⟨e, me⟩, n⟩ := mvs x hx
        exact ⟨⟨e, up (me.kp g' k12) n⟩, n⟩
      · obtain rfl := List.mem_singleton.mp hx
        exact ⟨⟨d, up mv vD⟩, vD⟩
    rintro H22 ⟨kp, ms, hm, lm, mvs⟩
    have lb22 : Lb C H22 z ys := lb21.keep fun b o q h => by
      refine kp.1 b o (fun e => ?_) q
      obtain ⟨x, y, hr, _⟩ := g21
      rw [e, hr] at q
      cases q
      rcases h with ⟨_, h⟩ | ⟨_, _, _, h⟩ <;> cases h
    have k22 : Kp r H H22 := (Kp.of_same s21).trans kp
    have ht22 := k22.1 t _ ntr ht
    refine ⟨l2, D4, _, _, rfl, rfl, kp.1 l2 _ nl2 fl2, hm, by rw [List.length_map]; omega, fun c1 hc1 => ?_⟩
    have sa := same_upd (o := .lst (ys.map V.str ++ ms)) hc1
    have fa : (upd H22 c1 (.lst (ys.map V.str ++ ms))) c1 = some (.lst (ys.map V.str ++ ms)) := upd_same
    revert sa fa
    generalize upd H22 c1 _ = H23
    intro sa fa
    refine ⟨_, rfl, _, rfl, _, rfl, by show 0 ≤ sizeLine; omega, fun e1 he1 => ?_⟩
    have sb := same_upd (o := .lst []) he1
    have fb : (upd H23 e1 (.lst [])) e1 = some (.lst []) := upd_same
    revert sb fb
    generalize upd H23 e1 _ = H24
    intro sb fb d2 hd2
    have sc := same_upd (o := .dK []) hd2
    have fc : (upd H24 d2 (.dK [])) d2 = some (.dK []) := upd_same
    revert sc fc
    generalize upd H24 d2 _ = H25
    intro sc fc
    refine ⟨by show 8 ≤ sizeLine; omega, fun c2 hc2 => ?_⟩
    have se := same_upd (o := .lst [V.str (ltext2 ys), V.ref t, V.non, V.ref z, V.ref e1, V.ref d2, V.int 1, V.str "Q"]) hc2
    have fe : (upd H25 c2 (.lst [V.str (ltext2 ys), V.ref t, V.non, V.ref z, V.ref e1, V.ref d2, V.int 1, V.str "Q"])) c2 = some (.lst [V.str (ltext2 ys), V.ref t, V.non, V.ref z, V.ref e1, V.ref d2, V.int 1, V.str "Q"]) := upd_same
    revert se fe
    generalize upd H25 c2 _ = H26
    intro se fe
    have s2226 := ((sa.trans sb).trans sc).trans se
    refine ⟨c1, c2, _, _, rfl, rfl, se _ _ (sc _ _ (sb _ _ fa)), fe, by rw [List.length_append, List.length_map]; show _ + 8 ≤ _; omega, fun c3 hc3 => ?_⟩
    have cl26 : ∀ x ∈ ys.map V.str ++ ms ++ [V.str (ltext2 ys), V.ref t, V.non, V.ref z, V.ref e1, V.ref d2, V.int 1, V.str "Q"], Cl K H26 x := by
      intro x hx
      rcases List.mem_append.mp hx with hx | hx
      · rcases List.mem_append.mp hx with hx | hx
        · obtain ⟨y, hy, rfl⟩ := List.mem_map.mp hx
          exact cl_nm (nmAt y hy)
        · obtain ⟨⟨e, me⟩, _⟩ := mvs x hx
          exact (me.same s2226).cl
      · have each8 : ∀ x ∈ [V.str (ltext2 ys), V.ref t, V.non, V.ref z, V.ref e1, V.ref d2, V.int 1, V.str "Q"], Cl K H26 x := by
          simp only [List.forall_mem_cons]
          exact ⟨by rw [hu]; exact .str u (by omega), cl_tup (s2226 _ _ ht22), .non, cl_lab T.M R.kI (lb22.same s2226), cl_lst (se _ _ (sc _ _ fb)), cl_dic (se _ _ fc), .int _, cl_str (by decide +kernel), fun _ h => nomatch h⟩
        exact each8 x hx
    have l26 : (ys.map V.str ++ ms ++ [V.str (ltext2 ys), V.ref t, V.non, V.ref z, V.ref e1, V.ref d2, V.int 1, V.str "Q"]).length ≤ 18 := by
      rw [List.length_append, List.length_append, List.length_map]
      show _ + 8 ≤ _
      omega
    have sf := same_upd (o := .lst (ys.map V.str ++ ms ++ [V.str (ltext2 ys), V.ref t, V.non, V.ref z, V.ref e1, V.ref d2, V.int 1, V.str "Q"])) hc3
    have ff : (upd H26 c3 (.lst (ys.map V.str ++ ms ++ [V.str (ltext2 ys), V.ref t, V.non, V.ref z, V.ref e1, V.ref d2, V.int 1, V.str "Q"]))) c3 = some (.lst (ys.map V.str ++ ms ++ [V.str (ltext2 ys), V.ref t, V.non, V.ref z, V.ref e1, V.ref d2, V.int 1, V.str "Q"])) := upd_same
    revert sf ff
    generalize upd H26 c3 _ = H27
    intro sf ff
    have cl27 : ∀ x ∈ ys.map V.str ++ ms ++ [V.str (ltext2 ys), V.ref t, V.non, V.ref z, V.ref e1, V.ref d2, V.int 1, V.str "Q"], ∀ H', Same H27 H' → Cl K H' x := fun x hx H' sm => Cl.same (cl26 x hx) fun a t _ ty => tyx_same ty (sf.trans sm)
    revert cl27 l26 ff
    generalize ys.map V.str ++ ms ++ [V.str (ltext2 ys), V.ref t, V.non, V.ref z, V.ref e1, V.ref d2, V.int 1, V.str "Q"] = things
    intro l26 ff cl27
    have s27 := s2226.trans sf
    have lb27 := lb22.same s27
    have ht27 := s27 _ _ ht22
    clear cl26 sf hc3 se fe hc2 sc fc hd2 sb fb he1 sa fa hc1 mvs hm lm
    refine ⟨_, rfl, c3, rfl, ⟨_, SqL.of ff⟩, fun D5 hD5 => ?_⟩
    refine lc_list (xs := things) (fun i H' => Same H27 H' ∧ H' D5 = some (.lst (((things.map fun v => shB (hasV v ys)).take i).map V.str))) ⟨same_upd hD5, upd_same⟩ (fun i H' _ q => SqL.of (q.1 _ _ ff)) ?_ ?_
    · rintro i x H' hx ⟨sm, hb⟩
      have i18 : i < things.length := (List.getElem?_eq_some_iff.mp hx).1
      obtain ⟨dz, fz, hz⟩ := (lb27.same sm).ins
      refine ⟨rfl, _, rfl, _, rfl, z, dz, fz, rfl, hz, z, x, ys, rfl, lb27.same sm, cl27 x (List.mem_of_getElem? hx) H' sm, _, rfl, _, rfl, _, hb, ?_, fun b o q => ?_, ?_⟩
      · rw [List.length_map, List.length_take, List.length_map]
        omega
      · rw [upd_ne (ne_of_none q hD5)]
        exact sm b o q
      · rw [upd_same, take_snoc (x := shB (hasV x ys)) (by rw [List.getElem?_map, hx]; rfl), List.map_append]
        rfl
    rintro H28 ⟨s28, f5⟩
    rw [List.take_of_length_le (by rw [List.length_map]; exact Nat.le_refl _)] at f5
    refine ⟨_, rfl, _, rfl, c3, rfl, ⟨_, SqL.of (s28 _ _ ff)⟩, fun D6 hD6 => ?_⟩
    have n56 : D5 ≠ D6 := ne_of_none f5 hD6
    refine lc_list (xs := things) (fun i H' => Same H28 H' ∧ H' D6 = some (.lst (((things.map fun v => shB (hasV v ys)).take i).map V.str))) ⟨same_upd hD6, upd_same⟩ (fun i H' _ q => SqL.of (q.1 _ _ (s28 _ _ ff))) ?_ ?_
    · rintro i x H' hx ⟨sm, hb⟩
      have i18 : i < things.length := (List.getElem?_eq_some_iff.mp hx).1
      have fin : ∀ H'', Same H' H'' → ∃ acc, H'' D6 = some (.lst acc) ∧ acc.length < sizeLine ∧ (Same H28 (upd H'' D6 (.lst (acc ++ [V.str (shB (hasV x ys))]))) ∧ (upd H'' D6 (.lst (acc ++ [V.str (shB (hasV x ys))]))) D6 = some (.lst (((things.map fun v => shB (hasV v ys)).take (i + 1)).map V.str))) := fun H'' s2 => by
        refine ⟨_, s2 _ _ hb, ?_, fun b o q => ?_, ?_⟩
        · rw [List.length_map, List.length_take, List.length_map]
          omega
        · rw [upd_ne (ne_of_none q hD6)]
          exact s2 _ _ (sm b o q)
        · rw [upd_same, take_snoc (x := shB (hasV x ys)) (by rw [List.getElem?_map, hx]; rfl), List.map_append]
          rfl
      refine ⟨rfl, _, rfl, x, rfl, cl27 x (List.mem_of_getElem? hx) H' (s28.trans sm), fun H'' s2 => ⟨_, rfl, ?_⟩⟩
      by_cases nv : nameV x = true
      · rw [if_pos nv]
        cases x with
        | str y =>
          refine ⟨_, rfl, _, rfl, t, _, rfl, .inr (SqT.of (s2 _ _ (sm _ _ (s28 _ _ ht27)))), rfl, flat_all ys, _, rfl, ?_⟩
          rw [if_neg Bool.false_ne_true, inV_str]
          exact fin H'' s2
        | _ => cases nv
      · rw [if_neg nv]
        refine ⟨_, rfl, ?_⟩
        have e : hasV x ys = false := by
          cases x with
          | str y => exact has_nm ynms (by simpa using nv)
          | _ => rfl
        have f2 := fin H'' s2
        rw [e] at f2
        exact f2
    rintro H29 ⟨s29, f6⟩
    rw [List.take_of_length_le (by rw [List.length_map]; exact Nat.le_refl _)] at f6
    refine ⟨D5, D6, _, rfl, rfl, SqL.of (s29 _ _ f5), SqL.of f6, ?_⟩
    exact k _ (k22.trans (Kp.of_same ((s27.trans s28).trans s29)))
end
end K12
namespace K12
open PySem L2 SR
/-- the defs that _law_right calls -/
structure SEnv (K : PySem.W.Frag) (mg : Str → Option Value) (fD fC fJ fM fT fP fDu fTo fLR fSp fRe fRd : Addr) (dD dC dJ dM dT dP dDu dTo dLR dSp dRe dRd : FuncData) : Prop where
  B : BEnv mg
  D : At K mg "_law_draw" sDraw ["_law_rng_here", "_law_many"] fD dD
  Ch : At K mg "_law_choice" sChoice ["_law_rng_here", "_law_options"] fC dC
  J : At K mg "_law_is_name" sLIsName ["_law_thing"] fJ dJ
  M : At K mg "_law_mark" sMark ["_law_rng_here", "_law_pool_here"] fM dM
  T : At K mg "_law_text" sText ["_law_marks"] fT dT
  P : At K mg "_law_pool" sPool ["_law_rng_here"] fP dP
  Du : At K mg "_law_due" sDue ["_law_marks"] fDu dDu
  To : At K mg "_law_told" sTold ["_law_marks"] fTo dTo
  LR : At K mg "_law_label_right" sLabelRight ["_law_rng_here", "_law_marks", "_law_due_here"] fLR dLR
  Sp : At K mg "_law_spoilt" sSpoilt ["_law_rng_here", "_law_text_here"] fSp dSp
  Re : At K mg "_law_read" sRead ["_law_thing"] fRe dRe
  Rd : At K mg "_law_read_due" sReadDue ["_law_thing"] fRd dRd
theorem viaT {t : TT} {σ : L2.St} {H : Hp} {Q : Bool → Hp → Prop} (R : Bool → Hp → Prop) (h : ∀ Q' : Bool → Hp → Prop, (∀ v H', R v H' → Q' v H') → t σ H Q') (k : ∀ v H', R v H' → Q v H') : t σ H Q := h Q k
theorem viaS {t : TS} {D : Ends} {σ : L2.St} {H : Hp} (R : L2.St → Hp → Prop) (h : ∀ D' : Ends, (∀ σ' H', R σ' H' → D'.nx σ' H') → t D' σ H) (k : ∀ σ' H', R σ' H' → D.nx σ' H') : t D σ H := h D k
theorem tNext_eq (D : Ends) (σ : L2.St) (H : Hp) : tNext D σ H = D.nx σ H := rfl
theorem tSeq_eq (t u : TS) (D : Ends) (σ : L2.St) (H : Hp) : tSeq t u D σ H = t { D with nx := u D } σ H := rfl
theorem tIfS_eq (c : TT) (t u : TS) (D : Ends) (σ : L2.St) (H : Hp) : tIfS c t u D σ H = c σ H (fun b H1 => if b = true then t D σ H1 else u D σ H1) := rfl
def Rdb (K : PySem.W.Frag) (H : Hp) (v : V) : Prop := (Cl K H v ∧ vS v = false) ∨ ∃ l : Tx, v = tv l ∧ l.length ≤ 4000
theorem rdb_str {K : PySem.W.Frag} {H : Hp} {x : Str} (h : x.cps.toList.length ≤ 4000) : Rdb K H (.str x) := .inr ⟨x.cps.toList, congrArg V.str (txt_of x), h⟩
section
variable {P : Program} {w : World} {K : PySem.W.Frag} {mg : Str → Option Value} {base : Heap}
variable {C f CN fN CM fM fI f1 C0 cL cT cM gE gL gS gR gH pM gM CT fT pO gO fm : Addr} {fd dN dM dI d1 dE dL dS dR dH dG dT dO dm : FuncData}
variable {fD fC fJ fMk fTx fS fU : Addr} {dD dC dJ dMk dTx dS' dU : FuncData}
variable {fP fDu fTo fLR fSp fRe fRd : Addr} {dP dDu dTo dLR dSp dRe dRd : FuncData}
abbrev nRi : List Str := ["_law_rng_here", "_law_pool_here", "_law_marks", "_law_due_here", "_law_clean", "_law_turn", "_law_thing", "_law_mark_here"]
theorem scRi : FnScope nRi ["_law_rng_here"] (defScope sRight) := ⟨rfl, rfl, rfl, by decide +kernel, rfl, by decide +kernel, by decide +kernel⟩
def spRi : Sp := fun vs H Q _ => ∃ r : Addr, vs = [.ref r] ∧ Rg H r ∧ ∀ H', Kp r H H' → Q (.bl true) H'
theorem ok_right {ft : Addr} {dt : FuncData} (F : Fun K "_law_right" "_law_right" sRight ft dt) (T : Env12 K mg C f CN fN CM fM fI f1 C0 cL CT cM gE gL gS gR gH pM gM fd dN dM dI d1 dE dL dS dR dH dG) (O : OEnv K mg C C0 CN cL cM CT fT pO gO fm dT dO dm)
    (R : REnv K mg C fD fC fJ fMk fTx fS fU dD dC dJ dMk dTx dS' dU) (S : SEnv K mg fD fC fJ fMk fTx fP fDu fTo fLR fSp fRe fRd dD dC dJ dMk dTx dP dDu dTo dLR dSp dRe dRd) : FnG P w K mg base 9 ft dt ["_law_rng_here"] spRi := by
  have Z := T.Z
  have GD : FnOk P w K mg base CX0 1 fD dD ["_law_rng_here", "_law_many"] spDraw := ok_draw S.D.F S.B
  have GC : FnOk P w K mg base CX0 2 fC dC ["_law_rng_here", "_law_options"] (spChoice K) := ok_choice S.Ch.F S.B S.D
  have GJ : FnOk P w K mg base CX0 1 fJ dJ ["_law_thing"] (spName K) := ok_lname S.J.F Z
  have GM : FnOk P w K mg base CX0 3 fMk dMk ["_law_rng_here", "_law_pool_here"] (spMark K) := ok_mark S.M.F S.B S.D S.Ch
  have GT : FnOk P w K mg base CX0 1 fTx dTx ["_law_marks"] (spText K) := ok_text S.T.F Z
  have GP : FnOk P w K mg base CX0 2 fP dP ["_law_rng_here"] spPool := ok_pool S.P.F S.B S.D
  have GDu : FnOk P w K mg base CX0 2 fDu dDu ["_law_marks"] spDue := ok_due S.Du.F Z T.zT T.zS T.zO S.J
  have GTo : FnOk P w K mg base CX0 6 fTo dTo ["_law_marks"] spTold := ok_told S.To.F T
  have GLR : FnG P w K mg base 8 fLR dLR ["_law_rng_here", "_law_marks", "_law_due_here"] (spLRt C) := ok_lright S.LR.F T O R
  have GSp : FnOk P w K mg base CX0 3 fSp dSp ["_law_rng_here", "_law_text_here"] spSp := ok_sp S.Sp.F S.B T.zO S.D S.Ch
  have GRe : FnOk P w K mg base CX0 6 fRe dRe ["_law_thing"] (spRead K) := ok_lread S.Re.F T O
  have GRd : FnOk P w K mg base CX0 2 fRd dRd ["_law_thing"] (spRead K) := ok_rdue S.Rd.F Z T.zT T.zS T.zO S.J
  refine okG F scRi (fun vs H Q E h => ?_) (fun cdv A outer_ s H vs Q E gd hr h => ?_)
  · obtain ⟨r, rfl, _⟩ := h
    rfl
  · obtain ⟨r, rfl, g, k⟩ := h
    have un : (A.deeper (PyProof.Rows.envOfC "_law_right" (defScope sRight) s.heap.objs.size ft cdv)).units + 200 < cLine := by have := hr.un; omega
    have h6 := hr.mono (j := 6) (by decide)
    have h3 := hr.mono (j := 3) (by decide)
    have h2 := hr.mono (j := 2) (by decide)
    have h1 := hr.mono (j := 1) (by decide)
    refine ⟨_, pss_cons (ps_set (i := 1) scRi.nd rfl (Or.inr rfl) (pe_call GP h2 (by rfl) S.P.m S.P.F.kp S.P.b .nil pass0 (pa_cons (pv 0) pa_nil)))
      (pss_cons (ps_setLc (i := 2) (own := [("_law_turn", 5)]) (g := gName 5) (tt := tYes) rfl scRi.nd rfl rfl (sw_true rfl rfl rfl rfl) (pi_range1 (by rfl) S.B.zRange (pa_cons (pe_call GD h1 (by rfl) S.D.m S.D.F.kp S.D.b .nil pass0 (pa_cons (pv 0) (pa_cons pe_int pa_nil))) pa_nil)) (blkOk_by (N := nRi) (sc := defScope sRight) (by decide +kernel)) (fun _ _ _ _ _ => pg_name (i := 5) scRi.nd rfl (Or.inl rfl)) (fun _ _ _ _ _ => pts_nil)
          (fun _ _ _ _ _ => pe_call GM h3 (by rfl) S.M.m S.M.F.kp S.M.b .nil pass0 (pa_cons (pv 0) (pa_cons (pv 1) pa_nil))))
      (pss_cons (ps_set (i := 3) scRi.nd rfl (Or.inl rfl) (pe_call GDu h2 (by rfl) S.Du.m S.Du.F.kp S.Du.b .nil pass0 (pa_cons (pv 2) pa_nil)))
      (pss_cons (ps_if (pt_cmpR op_ne (pe_callB (call_reprT gd un) (by rfl) Z.zRepr (by decide +kernel) (pa_cons (pe_call GTo h6 (by rfl) S.To.m S.To.F.kp S.To.b .nil pass0 (pa_cons (pv 2) pa_nil)) pa_nil)) (pe_callB (call_reprT gd un) (by rfl) Z.zRepr (by decide +kernel) (pa_cons (pv 3) pa_nil)) (nomark _)) (pss_one (ps_ret pe_bl)) pss_nil)
      (pss_cons (ps_if (PW.pt (pw_and (pt_cmpR op_eq (pe_ix ix_seq (pv 3) pe_int (fun _ _ => rfl)) pe_str (nomark _)) (pw_and1 (pt_not (pt_val (pe_callG GLR gd hr (by rfl) S.LR.m S.LR.F.kp S.LR.b (pa_cons (pv 0) (pa_cons (pv 2) (pa_cons (pe_ix ix_seq (pv 3) pe_int (fun _ _ => rfl)) pa_nil))))))))) (pss_one (ps_ret pe_bl)) pss_nil)
      (pss_cons (ps_set (i := 4) scRi.nd rfl (Or.inl rfl) (pe_callB (LB.cr_sortBag rfl) (by rfl) T.zO (by decide +kernel) (pa_cons (pe_callTy (LB.cr_bag rfl) (by rfl) T.zS (by decide +kernel) (pa_cons (pe_lc (own := [("_law_mark_here", 7)]) (g := gName 7) (tt := tB (tCall (spName K) [] E0 (tCons (tVar 7) tNil))) rfl scRi.nd (pi_list (pv 2)) (blkOk_by (N := nRi) (sc := defScope sRight) (by decide +kernel)) (fun _ _ _ _ _ => pg_name (i := 7) scRi.nd rfl (Or.inl rfl))
          (fun _ _ _ _ _ => pts_one (pt_val (pe_call GJ h1 (by rfl) S.J.m S.J.F.kp S.J.b .nil pass0 (pa_cons (pv 7) pa_nil)))) (fun _ _ _ _ _ => pv 7)) pa_nil)) pa_nil)))
      (pss_cons (ps_for PassesOwn.never rfl (pi_range1 (by rfl) S.B.zRange (pa_cons pe_int pa_nil)) (pg_name (i := 5) scRi.nd rfl (Or.inl rfl))
        (pss_cons (ps_set (i := 6) scRi.nd rfl (Or.inl rfl) (pe_call GSp h3 (by rfl) S.Sp.m S.Sp.F.kp S.Sp.b .nil pass0 (pa_cons (pv 0) (pa_cons (pe_call GT h1 (by rfl) S.T.m S.T.F.kp S.T.b .nil pass0 (pa_cons (pv 4) pa_nil)) pa_nil))))
        (pss_cons (ps_if (pt_cmpR op_eq (pe_call GD h1 (by rfl) S.D.m S.D.F.kp S.D.b .nil pass0 (pa_cons (pv 0) (pa_cons pe_int pa_nil))) pe_int (nomark _))
          (pss_one (ps_set (i := 6) scRi.nd rfl (Or.inl rfl) (pe_call GC h2 (by rfl) S.Ch.m S.Ch.F.kp S.Ch.b .nil pass0 (pa_cons (pv 0) (pa_cons (pe_lst (pa_cons pe_non (pa_cons pe_int (pa_cons pe_bl (pa_cons pe_str (pa_cons pe_str (pa_cons pe_str (pa_cons pe_str (pa_cons (pe_tup pa_nil) (pa_cons (pe_lst pa_nil) (pa_cons pe_dnewK (pa_cons (pe_lst (pa_cons pe_str pa_nil)) (pa_cons (pe_tup (pa_cons pe_str pa_nil)) (pa_cons pe_str (pa_cons pe_str (pa_cons pe_str pa_nil)))))))))))))))) pa_nil))))) pss_nil)
        (pss_one (ps_if (pt_cmpR op_ne (pe_callB (call_reprT gd un) (by rfl) Z.zRepr (by decide +kernel) (pa_cons (pe_call GRe h6 (by rfl) S.Re.m S.Re.F.kp S.Re.b .nil pass0 (pa_cons (pv 6) pa_nil)) pa_nil)) (pe_callB (call_reprT gd un) (by rfl) Z.zRepr (by decide +kernel) (pa_cons (pe_call GRd h2 (by rfl) S.Rd.m S.Rd.F.kp S.Rd.b .nil pass0 (pa_cons (pv 6) pa_nil)) pa_nil)) (nomark _)) (pss_one (ps_ret pe_bl)) pss_nil)))))
      (pss_one (ps_ret pe_bl)))))))), ?_⟩
    have hsl : sizeLine = 16777216 := sizeLine_eq
    refine ⟨_, rfl, r, rfl, g, fun H1 p pts k1 hp np fp ne pl5 pnm => ?_⟩
    have g1 := k1.2 g
    refine ⟨_, rfl, r, 7, rfl, g1, by decide, by decide, fun H2 n k2 hn => ?_⟩
    have g2 := k2.2 g1
    refine ⟨(n : Int), rfl, by omega, by omega, fun D hD => ?_⟩
    have nD : D ≠ r := g2.ne hD
    have fp2 := k2.1 p _ np fp
    refine lc_range (lo := 0) (n := (n : Int).toNat) (fun i H' => Kp r H2 H' ∧ ∃ ms : List V, H' D = some (.lst ms) ∧ ms.length ≤ i ∧ ∀ v ∈ ms, (∃ d, Mv H' v d) ∧ v ≠ .ref D) ⟨(Kp.refl r H2).put hD nD, [], upd_same, Nat.le_refl _, fun _ h => nomatch h⟩ ?_ ?_
    · rintro i H' hi ⟨kp, ms, hm, lm, mvs⟩
      have g' := kp.2 g2
      refine ⟨rfl, _, rfl, _, rfl, r, p, pts, rfl, g', kp.1 p _ np fp2, np, ne, by omega, pnm, fun H4 v d k4 mv fr => ?_⟩
      have hm4 := k4.1 D _ nD hm
      have vD : v ≠ .ref D := fun e => by
        rw [fr D e] at hm
        cases hm
      have kk : Kp r H2 (upd H4 D (.lst (ms ++ [v]))) := (kp.trans k4).put hD nD
      have up : ∀ {x : V} {e : PyData}, Mv H4 x e → x ≠ .ref D → Mv (upd H4 D (.lst (ms ++ [v]))) x e := fun {x e} h n => h.keep fun a o z q => by
        rw [upd_ne (fun w => n (by rw [z, w]))]
        exact q
      refine ⟨ms, hm4, by omega, kk, ms ++ [v], upd_same, by rw [List.length_append, List.length_singleton]; omega, fun x hx => ?_⟩
      rcases List.mem_append.mp hx with hx | hx
      · obtain ⟨⟨e, me⟩, n⟩ := mvs x hx
        exact ⟨⟨e, up (me.kp g' k4) n⟩, n⟩
      · obtain rfl := List.mem_singleton.mp hx
        exact ⟨⟨d, up mv vD⟩, vD⟩
    rintro H3 ⟨kp, ms, hm, lm, mvs⟩
    have lm6 : ms.length ≤ 6 := by omega
    have k3 : Kp r H H3 := (k1.trans k2).trans kp
    have mv3 : ∀ v ∈ ms, ∃ d, Mv H3 v d := fun v hv => (mvs v hv).1
    have g3 := k3.2 g
    clear mvs lm kp fp2 hD hn g2 k2 fp k1 g1
    -- due, told
    refine ⟨_, rfl, D, ms, rfl, hm, by omega, mv3, fun H4 q ds s4 hq dq => ?_⟩
    have hm4 := s4 _ _ hm
    refine ⟨_, rfl, D, ms, rfl, hm4, lm6, fun v hv => (mv3 v hv).elim fun d m => ⟨d, m.same s4⟩, fun H5 q5 ds5 s5 hq5 dq5 => ?_⟩
    have dq' := dq.same s5
    have e5 : ds5 = ds := dq5.det dq'
    subst e5
    obtain ⟨vs5, f5, pr5, sh5, l5⟩ := dq5.shows (K := K)
    obtain ⟨vs4, f4, pr4, sh4, l4⟩ := dq'.shows (K := K)
    refine ⟨q5, vs5, ds5, rfl, f5, pr5, sh5, l5, _, rfl, q, vs4, ds5, rfl, f4, pr4, sh4, l4, rfl, false, by rw [decide_eq_true rfl]; rfl, ?_⟩
    have k5 : Kp r H H5 := (k3.trans (Kp.of_same s4)).trans (Kp.of_same s5)
    have hm5 := s5 _ _ hm4
    have mv5 : ∀ v ∈ ms, ∃ d, Mv H5 v d := fun v hv => (mv3 v hv).elim fun d m => ⟨d, (m.same s4).same s5⟩
    have g5 := k5.2 g
    clear f4 pr4 sh4 l4 f5 pr5 sh5 l5 dq5 hq5 s5 s4 hm4 hm mv3 k3 g3 dq hq
    show (if false = true then _ else _)
    rw [if_neg Bool.false_ne_true]
    rw [tNext_eq]
    dsimp only
    rw [tSeq_eq, tIfS_eq]
    refine viaT (t := tAnd _ _) (fun b H' => b = false ∧ Kp r H5 H') (fun Q' k' => ?_) ?_
    · rcases dq' with ⟨v, d, a, b, c, e⟩ | ⟨ts, ys, rfl, b, c, ⟨l, h, e⟩ | ⟨l, t, h1', h2', e⟩⟩
      · refine ⟨_, rfl, ix_of (.inr (SqT.of c)) rfl ⟨rfl, false, by rw [decide_eq_false (by decide +kernel)], ?_⟩⟩
        exact k' _ _ ⟨rfl, Kp.refl _ _⟩
      · refine ⟨_, rfl, ix_of (.inr (SqT.of h)) rfl ⟨rfl, false, by rw [decide_eq_false (by decide +kernel)], ?_⟩⟩
        exact k' _ _ ⟨rfl, Kp.refl _ _⟩
      · refine ⟨_, rfl, ix_of (.inr (SqT.of h1')) rfl ⟨rfl, true, by rw [decide_eq_true rfl], ?_⟩⟩
        show (if true = true then _ else _)
        rw [if_pos rfl]
        refine ⟨_, rfl, _, rfl, _, rfl, ix_of (.inr (SqT.of h1')) rfl ?_⟩
        refine ⟨r, D, t, ts, ys, rfl, g5, hm5, nD, b, by rw [List.length_map] at lm6; exact lm6, c, l, h2', fun H6 k6 => ⟨true, rfl, ?_⟩⟩
        exact k' _ _ ⟨rfl, k6⟩
    rintro b H6 ⟨rfl, k56⟩
    have k6 := k5.trans k56
    have hm6 := k56.1 D _ nD hm5
    have mv6 : ∀ v ∈ ms, ∃ d, Mv H6 v d := fun v hv => (mv5 v hv).elim fun d m => ⟨d, m.kp g5 k56⟩
    have g6 := k6.2 g
    clear k56 mv5 hm5 k5 g5 dq'
    have clms : ∀ v ∈ ms, ∀ H', Same H6 H' → Cl K H' v := fun v hv H' sm => (mv6 v hv).elim fun d m => (m.same sm).cl
    -- the clean ones
    refine ⟨_, rfl, D, rfl, ⟨_, SqL.of hm6⟩, fun D2 hD2 => ?_⟩
    refine lc_list (xs := ms) (fun i H' => Same H6 H' ∧ ∃ ts : List Str, H' D2 = some (.lst (ts.map V.str)) ∧ ts.all isNm = true ∧ ts.length ≤ i) ⟨same_upd hD2, [], upd_same, rfl, Nat.le_refl _⟩ (fun i H' _ q => SqL.of (q.1 _ _ hm6)) ?_ ?_
    · rintro i x H' hx ⟨sm, ts, ht, nt, lt⟩
      have i6 : i < ms.length := (List.getElem?_eq_some_iff.mp hx).1
      refine ⟨rfl, _, rfl, x, rfl, clms x (List.mem_of_getElem? hx) H' sm, fun H'' s2 => ⟨nameV x, rfl, ?_⟩⟩
      have sm2 := sm.trans s2
      show (if nameV x = true then _ else _)
      by_cases nv : nameV x = true
      · rw [if_pos nv]
        cases x with
        | str y =>
          refine ⟨_, rfl, _, s2 _ _ ht, by rw [List.length_map]; omega, fun b o q => ?_, ts ++ [y], ?_, ?_, ?_⟩
          · rw [upd_ne (ne_of_none q hD2)]
            exact sm2 b o q
          · rw [upd_same, List.map_append]
            rfl
          · rw [List.all_append, nt, List.all_cons, show isNm y = true from nv]
            rfl
          · rw [List.length_append, List.length_singleton]
            omega
        | _ => cases nv
      · rw [if_neg nv]
        exact ⟨sm2, ts, s2 _ _ ht, nt, by omega⟩
    rintro H7 ⟨s67, ts, hts, nts, lts⟩
    refine ⟨D2, ts, rfl, .inr (SqL.of hts), by omega, fun bb ks hb mem nd le => ?_⟩
    refine ⟨bb, ks, rfl, upd_same, by omega, fun ys d pm srt hd => ?_⟩
    have sy : Srt ts ys := ⟨pm.nodup_iff.mpr nd, srt, fun y => pm.mem_iff.trans (mem y)⟩
    have yl : ys.length ≤ 6 := Nat.le_trans (SR.len_le sy) (by omega)
    have ynm : ys.all isNm = true := srt_nm nts sy
    obtain ⟨u, hu, ua, u60, uc, _⟩ := text_is ynm yl
    have s78 : Same H7 (upd (upd H7 bb (LB.BagO w bb ks)) d (.lst (ys.map V.str))) := fun c o q => by
      rw [upd_ne (ne_of_none (by rw [upd_ne (ne_of_none q hb)]; exact q) hd), upd_ne (ne_of_none q hb)]
      exact q
    have hd8 : (upd (upd H7 bb (LB.BagO w bb ks)) d (.lst (ys.map V.str))) d = some (.lst (ys.map V.str)) := upd_same
    have dn : (upd H7 bb (LB.BagO w bb ks)) d = none := hd
    have nd6 : d ≠ r := fun e => by
      obtain ⟨x, y, h, _⟩ := (Kp.of_same (r := r) s67).2 g6
      rw [e, upd_ne (ne_of_none h hb), h] at dn
      cases dn
    obtain ⟨H8, eH⟩ : ∃ H8, H8 = upd (upd H7 bb (LB.BagO w bb ks)) d (.lst (ys.map V.str)) := ⟨_, rfl⟩
    rw [← eH] at s78 hd8
    suffices z : ∀ F : Hp → Prop, F H8 → F (upd (upd H7 bb (LB.BagO w bb ks)) d (.lst (ys.map V.str))) by
      refine z _ ?_
      clear z eH
      have k8 : Kp r H H8 := (k6.trans (Kp.of_same s67)).trans (Kp.of_same s78)
      have g8 := k8.2 g
      clear s78 s67 hts dn hd hb mem nd le pm hD2 clms mv6 hm6
      -- the four turns
      refine ⟨_, rfl, by decide, by decide, ?_⟩
      show ∃ W, _
      refine for_range (lo := 0) (n := 4) (fun i σ H' => ∃ t5 t6 : Option V, σ = [some (.ref r), some (.ref p), some (.ref D), some (.ref q), some (.ref d), t5, t6, none] ∧ Kp r H8 H') ⟨none, none, rfl, Kp.refl r H8⟩ ?_ ?_
      · rintro i σ H' hi ⟨t5, t6, rfl, kp⟩
        have g' := kp.2 g8
        refine ⟨_, rfl, _, rfl, d, ys, rfl, .inl (SqL.of (kp.1 d _ nd6 hd8)), ynm, by omega, r, u, by rw [hu]; rfl, g', ua, by omega, by omega, fun H9 v k9 va vl => ?_⟩
        have g9 := k9.2 g'
        dsimp only [gName]
        rw [tSeq_eq]
        refine viaS (t := tIfS _ _ _) (fun σ' H'' => ∃ v6 : V, σ' = [some (.ref r), some (.ref p), some (.ref D), some (.ref q), some (.ref d), some (.int (0 + (i : Int))), some v6, none] ∧ Kp r H9 H'' ∧ Rdb K H'' v6) (fun D' k' => ?_) ?_
        · refine ⟨_, rfl, r, 8, rfl, g9, by decide, by decide, fun H10 n k10 hn => ⟨rfl, _, rfl, ?_⟩⟩
          have g10 := k10.2 g9
          refine ite2 (fun z => ?_) (fun z => ?_)
          · refine ⟨_, rfl, by show 0 ≤ sizeLine; omega, fun a1 x1 => ?_⟩
            have b1 := same_upd (o := .tup []) x1
            have y1 : (upd H10 a1 (.tup [])) a1 = some (.tup []) := upd_same
            revert b1 y1
            generalize upd H10 a1 _ = G1
            intro b1 y1
            refine ⟨by show 0 ≤ sizeLine; omega, fun a2 x2 => ?_⟩
            have b2 := same_upd (o := .lst []) x2
            have y2 : (upd G1 a2 (.lst [])) a2 = some (.lst []) := upd_same
            revert b2 y2
            generalize upd G1 a2 _ = G2
            intro b2 y2 a3 x3
            have b3 := same_upd (o := .dK []) x3
            have y3 : (upd G2 a3 (.dK [])) a3 = some (.dK []) := upd_same
            revert b3 y3
            generalize upd G2 a3 _ = G3
            intro b3 y3
            refine ⟨by show 1 ≤ sizeLine; omega, fun a4 x4 => ?_⟩
            have b4 := same_upd (o := .lst [V.str "a"]) x4
            have y4 : (upd G3 a4 (.lst [V.str "a"])) a4 = some (.lst [V.str "a"]) := upd_same
            revert b4 y4
            generalize upd G3 a4 _ = G4
            intro b4 y4
            refine ⟨by show 1 ≤ sizeLine; omega, fun a5 x5 => ?_⟩
            have b5 := same_upd (o := .tup [V.str "a"]) x5
            have y5 : (upd G4 a5 (.tup [V.str "a"])) a5 = some (.tup [V.str "a"]) := upd_same
            revert b5 y5
            generalize upd G4 a5 _ = G5
            intro b5 y5
            refine ⟨by show 15 ≤ sizeLine; omega, fun o xo => ?_⟩
            have bo := same_upd (o := .lst [V.non, V.int 0, V.bl true, V.str "", V.str "-", V.str "+", V.str "--", V.ref a1, V.ref a2, V.ref a3, V.ref a4, V.ref a5, V.str "-+a", V.str "a+", V.str "+a"]) xo
            have yo : (upd G5 o (.lst [V.non, V.int 0, V.bl true, V.str "", V.str "-", V.str "+", V.str "--", V.ref a1, V.ref a2, V.ref a3, V.ref a4, V.ref a5, V.str "-+a", V.str "a+", V.str "+a"])) o = some (.lst [V.non, V.int 0, V.bl true, V.str "", V.str "-", V.str "+", V.str "--", V.ref a1, V.ref a2, V.ref a3, V.ref a4, V.ref a5, V.str "-+a", V.str "a+", V.str "+a"]) := upd_same
            revert bo yo
            generalize upd G5 o _ = G6
            intro bo yo
            have s16 := ((((b1.trans b2).trans b3).trans b4).trans b5).trans bo
            have kg := Kp.of_same (r := r) s16
            have gg := kg.2 g10
            have no : o ≠ r := ((Kp.of_same (r := r) ((((b1.trans b2).trans b3).trans b4).trans b5)).2 g10).ne xo
            have n1 : a1 ≠ r := g10.ne x1
            have n2 : a2 ≠ r := ((Kp.of_same (r := r) b1).2 g10).ne x2
            have n3 : a3 ≠ r := ((Kp.of_same (r := r) (b1.trans b2)).2 g10).ne x3
            have n4 : a4 ≠ r := ((Kp.of_same (r := r) ((b1.trans b2).trans b3)).2 g10).ne x4
            have n5 : a5 ≠ r := ((Kp.of_same (r := r) (((b1.trans b2).trans b3).trans b4)).2 g10).ne x5
            have all15 : ∀ x ∈ [V.non, V.int 0, V.bl true, V.str "", V.str "-", V.str "+", V.str "--", V.ref a1, V.ref a2, V.ref a3, V.ref a4, V.ref a5, V.str "-+a", V.str "a+", V.str "+a"], ∀ H'', Kp r G6 H'' → Rdb K H'' x := by
              simp only [List.forall_mem_cons]
              refine ⟨fun _ _ => .inl ⟨.non, rfl⟩, fun _ _ => .inl ⟨.int _, rfl⟩, fun _ _ => .inl ⟨.bl _, rfl⟩, fun _ _ => rdb_str (by decide +kernel), fun _ _ => rdb_str (by decide +kernel), fun _ _ => rdb_str (by decide +kernel), fun _ _ => rdb_str (by decide +kernel),
                fun H'' kk => .inl ⟨cl_tup (kk.1 _ _ n1 (bo _ _ (b5 _ _ (b4 _ _ (b3 _ _ (b2 _ _ y1)))))), rfl⟩, fun H'' kk => .inl ⟨cl_lst (kk.1 _ _ n2 (bo _ _ (b5 _ _ (b4 _ _ (b3 _ _ y2))))), rfl⟩, fun H'' kk => .inl ⟨cl_dic (kk.1 _ _ n3 (bo _ _ (b5 _ _ (b4 _ _ y3)))), rfl⟩,
                fun H'' kk => .inl ⟨cl_lst (kk.1 _ _ n4 (bo _ _ (b5 _ _ y4))), rfl⟩, fun H'' kk => .inl ⟨cl_tup (kk.1 _ _ n5 (bo _ _ y5)), rfl⟩, fun _ _ => rdb_str (by decide +kernel), fun _ _ => rdb_str (by decide +kernel), fun _ _ => rdb_str (by decide +kernel), fun _ h => nomatch h⟩
            refine ⟨r, .ref o, rfl, gg, .inl ⟨o, _, rfl, yo, no, by simp, by show 15 ≤ big; decide, fun H11 x k11 hx => ?_⟩⟩
            exact k' _ _ ⟨x, rfl, (k10.trans kg).trans k11, all15 x hx H11 k11⟩
          · exact k' _ _ ⟨tv v, rfl, k10, .inr ⟨v, rfl, vl⟩⟩
        rintro σ' H11 ⟨v6, rfl, k11, rd⟩
        have rdS : ∀ H'', Same H11 H'' → Rdb K H'' v6 := fun H'' sm => rd.elim (fun h => .inl ⟨Cl.same h.1 fun a t _ ty => tyx_same ty sm, h.2⟩) .inr
        refine ⟨_, rfl, v6, rfl, rd, fun H12 q1 e1 s12 hq1 r1 => ?_⟩
        obtain ⟨ws1, z1, pq1, sq1, lq1⟩ := r1.shows (K := K)
        refine ⟨q1, ws1, e1, rfl, z1, pq1, sq1, lq1, _, rfl, v6, rfl, rdS H12 s12, fun H13 q2 e2 s13 hq2 r2 => ?_⟩
        obtain ⟨ws2, z2, pq2, sq2, lq2⟩ := r2.shows (K := K)
        have e12 : e2 = e1 := r2.det (r1.same s13)
        subst e12
        refine ⟨q2, ws2, e2, rfl, z2, pq2, sq2, lq2, rfl, false, by rw [decide_eq_true rfl]; rfl, ?_⟩
        exact ⟨_, _, rfl, (((kp.trans k9).trans k11).trans (Kp.of_same s12)).trans (Kp.of_same s13)⟩
      · rintro σ H' ⟨t5, t6, rfl, kp⟩
        exact k _ (k8.trans kp)
    intro F h; rw [← eH]; exact h
end
end K12
namespace K12
open PySem L2 PySem.Spec PyProof.Rows
theorem same_kp {r : Addr} {H H1 H2 : Hp} (s : Same H H1) (h : H r = none) (k : Kp r H1 H2) : Same H H2 := fun b o e => k.1 b o (ne_of_none e h) (s b o e)
section
variable {P : Program} {w : World} {K : PySem.W.Frag} {mg : Str → Option Value} {base : Heap}
/-! ### law -/
def spLaw (K : PySem.W.Frag) : Sp := fun vs H Q _ => ∃ (a : Addr) (ns : List Int), vs = [.ref a] ∧ SqL K H a (ns.map V.int) ∧ ns.length ≤ 63 ∧ ∀ H', Q (.bl true) H'
theorem scLw : FnScope ["_law_script", "_law_k"] ["_law_script"] (defScope sLaw) := ⟨rfl, rfl, rfl, by decide +kernel, rfl, by decide +kernel, by decide +kernel⟩
theorem ok_law {f fR fT : Addr} {fd dR dT : FuncData} (F : Fun K "law" "law" sLaw f fd) (B : BEnv mg) (AR : At K mg "_law_rng" sRng ["_law_script", "_law_k"] fR dR) (AT : At K mg "_law_right" sRight ["_law_rng_here"] fT dT) (GT : FnG P w K mg base 9 fT dT ["_law_rng_here"] (spRi)) :
    FnG P w K mg base 10 f fd ["_law_script"] (spLaw K) := by
  have GR : FnOk P w K mg base CX0 1 fR dR ["_law_script", "_law_k"] (spRng K) := ok_rng AR.F B
  refine okG F scLw (fun vs H Q E h => ?_) (fun cdv A outer_ s H vs Q E gd hr h => ?_)
  · obtain ⟨a, ns, rfl, _⟩ := h
    rfl
  · obtain ⟨a, ns, rfl, hS, hlen, k⟩ := h
    have hr1 := hr.mono (j := 1) (by decide)
    refine ⟨_, pss_one (ps_ret (pe_callB (cr_all rfl) (by rfl) B.zAll (by decide +kernel) (pa_cons (pe_lc (own := [("_law_k", 1)]) (g := gName 1) (tt := tYes) rfl scLw.nd
        (pi_range1 (by rfl) B.zRange (pa_cons (pe_callB (call_max2 rfl) (by rfl) B.zMax (by decide +kernel) (pa_cons pe_int (pa_cons (pe_callB (call_min2 rfl) (by rfl) B.zMin (by decide +kernel) (pa_cons (pe_callB call_len_seq (by rfl) B.zLen PySem.boot_len (pa_cons (pv 0) pa_nil)) (pa_cons pe_int pa_nil))) pa_nil))) pa_nil))
        (blkOk_by (N := ["_law_script", "_law_k"]) (sc := defScope sLaw) (by decide +kernel)) (fun _ _ _ _ _ => pg_name (i := 1) scLw.nd rfl (Or.inl rfl)) (fun _ _ _ _ _ => pts_nil)
        (fun _ _ _ _ _ => pe_callG GT gd hr (by rfl) AT.m AT.F.kp AT.b (pa_cons (pe_call GR hr1 (by rfl) AR.m AR.F.kp AR.b .nil pass0 (pa_cons (pv 0) (pa_cons (pv 1) pa_nil))) pa_nil))) pa_nil))), ?_⟩
    have hsl : sizeLine = 16777216 := sizeLine_eq
    refine ⟨_, rfl, a, _, rfl, .inl hS, _, _, rfl, _, _, rfl, _, rfl, ?_⟩
    rw [List.length_map]
    have hj : 1 ≤ (if (if (6 : Int) < (ns.length : Int) then (6 : Int) else (ns.length : Int)) > 1 then (if (6 : Int) < (ns.length : Int) then (6 : Int) else (ns.length : Int)) else 1) ∧ (if (if (6 : Int) < (ns.length : Int) then (6 : Int) else (ns.length : Int)) > 1 then (if (6 : Int) < (ns.length : Int) then (6 : Int) else (ns.length : Int)) else 1) ≤ 8 := by
      constructor <;> split <;> split <;> omega
    generalize (if (if (6 : Int) < (ns.length : Int) then (6 : Int) else (ns.length : Int)) > 1 then (if (6 : Int) < (ns.length : Int) then (6 : Int) else (ns.length : Int)) else 1) = j at hj
    refine ⟨by omega, by omega, fun D hD => ?_⟩
    refine lc_range (lo := 0) (n := j.toNat) (fun i H' => Same H H' ∧ H' D = some (.lst ((List.replicate i true).map V.bl))) ⟨same_upd hD, upd_same⟩ ?_ ?_
    · rintro i H' hi ⟨sm, hL⟩
      refine ⟨rfl, _, rfl, _, rfl, a, ns, i, ?_, sm.seq hS, by omega, fun H1 r s1 hr0 g1 => ?_⟩
      · show [V.ref a, V.int (0 + (i : Int))] = [V.ref a, V.int (i : Int)]
        rw [Int.zero_add]
      have hrH : H r = none := sm.free hr0
      have nD : D ≠ r := ne_of_none hL hr0
      refine ⟨r, rfl, g1, fun H2 k2 => ⟨_, k2.1 D _ nD (s1 _ _ hL), ?_, fun b o e => ?_, ?_⟩⟩
      · rw [List.length_map, List.length_replicate]
        omega
      · rw [upd_ne (ne_of_none e hD)]
        exact same_kp (sm.trans s1) hrH k2 b o e
      · rw [upd_same, List.replicate_succ', List.map_append]
        rfl
    · rintro H1 ⟨s1, hLD⟩
      refine ⟨D, _, rfl, SqL.of hLD, ?_⟩
      have e3 : (List.replicate j.toNat true).all id = true := by simp
      rw [e3]
      exact k _
end
/-! ### the law's call, where nothing is being shown -/
section
variable {P : Program} {w : World} {K : PySem.W.Frag} {mg mb : Str → Option Value} {k : Nat} {fa a : Addr} {fd : FuncData} {x : Str} {sp : Sp} {t : Shared} {us : List Value} {zs : List Int}
abbrev boxed (us : List Value) : Obj := { cls := .type "list", data := .seq us.toArray }
theorem run_at {H : Hp} (one : ∀ b, H b = none ∨ (b = a ∧ H b = some (.frz (boxed us) (.lst (zs.map V.int))))) (own : H a ≠ none → K.lookup a = none) (seq : SqL K H a (zs.map V.int)) (hok : HOk P w H t.heap)
    (KX : K.In t.heap) (g1 : t.heap.Ns mainGlobals mg) (g2 : t.heap.Ns builtinsNs mb) (g3 : ∀ y : Str, y ≠ "__name__" → mb y = bootBuiltins y) (lim : t.heap.NoLimit) (hg : t.gens = #[]) (ha : t.heap.get? a = some (boxed us)) (hr : Room k callerA)
    (F : ∀ base : Heap, K.In base → base.Ns mainGlobals mg → FnG P w K mg base k fa fd [x] sp) (bd : ∀ (s : Shared) (u : Value), BindsTo s fd ⟨[u], []⟩ [(x, u)]) (hsp : ∀ H' : Hp, SqL K H' a (zs.map V.int) → sp [.ref a] H' (fun v _ => v = .bl true) E0) :
    codeAny (model P w) callerA (.call (.ref fa) ⟨[.ref a], []⟩) (fun r s' => r = .ok (.ret (.bool true)) ∧ OldK t.heap s'.heap ∧ s'.os = t.os ∧ AllBare s'.gens) t := by
  have still : ∀ {b : Addr} {m : Str → Option Value}, t.heap.Ns b m → (hidT t.heap H).Ns b m := by
    rintro b m ⟨o, es, ep, e, d, rest⟩
    refine ⟨o, es, ep, hidT_get e ?_, d, rest⟩
    rcases one b with z | ⟨rfl, _⟩
    · exact z
    · rw [ha] at e
      cases e
      cases (show Data.seq us.toArray _ = Data.dict es ep from d)
  have kin : K.In (hidT t.heap H) := fun b o e => hidT_get (KX b o e) (by
    rcases one b with z | ⟨rfl, z⟩
    · exact z
    · have := own (by rw [z]; exact fun q => nomatch q)
      rw [this] at e
      cases e)
  obtain ⟨mc, l1, l2⟩ := lim
  have env : Env0 P w K mg (hidT t.heap H) callerA [] t H :=
    { frames := rfl, mod := ⟨kin, still g1, ⟨mb, still g2, g3⟩, ⟨mc, still l1, l2⟩⟩, bs := fun b o e => of_hidT e, bsz := Nat.le_of_eq (hidT_size _ _), funs := trivial, frf := fun b hb => absurd (show b ∈ ([] : List Addr) from hb) List.not_mem_nil, hok := hok, bare := .of_eq hg }
  apply codeAny_mono ((F _ kin (still g1)).run callerA [] t H ⟨[.ref a], []⟩ [.ref a] [.ref a] (fun v _ => v = .bl true) E0 rfl hr env (bd t (.ref a)) (.cons rfl .nil) (hsp H seq))
  rintro (e | fl) s2 h
  · exact h.elim
  cases fl with
  | ret u =>
    obtain ⟨v, H2, os, bare, un, hok2, rv, rfl⟩ := h
    cases (show u = Value.bool true from rv)
    refine ⟨rfl, OldK.of_keep ?_, os, bare⟩
    intro b o e
    rcases one b with z | ⟨rfl, z⟩
    · exact un.keep b o e z (fun y => absurd (show b ∈ ([] : List Addr) from y) List.not_mem_nil) (by simp)
    · have y1 := (hok _ _ z).1
      have y2 := (hok2 _ _ (un.frzs _ _ _ z)).1
      rw [e] at y1
      cases y1
      exact y2
  | next => exact False.elim h
  | brk => exact False.elim h
  | cont => exact False.elim h
theorem run_law (KX : K.In t.heap) (g1 : t.heap.Ns mainGlobals mg) (g2 : t.heap.Ns builtinsNs mb) (g3 : ∀ y : Str, y ≠ "__name__" → mb y = bootBuiltins y) (lim : t.heap.NoLimit) (hg : t.gens = #[]) (ha : t.heap.get? a = some (boxed us)) (hi : IntsAre us zs) (hl : zs.length ≤ sizeLine) (hr : Room k callerA)
    (F : ∀ base : Heap, K.In base → base.Ns mainGlobals mg → FnG P w K mg base k fa fd [x] sp) (bd : ∀ (s : Shared) (u : Value), BindsTo s fd ⟨[u], []⟩ [(x, u)]) (hsp : ∀ H' : Hp, SqL K H' a (zs.map V.int) → sp [.ref a] H' (fun v _ => v = .bl true) E0) :
    codeAny (model P w) callerA (.call (.ref fa) ⟨[.ref a], []⟩) (fun r s' => r = .ok (.ret (.bool true)) ∧ OldK t.heap s'.heap ∧ s'.os = t.os ∧ AllBare s'.gens) t := by
  have rv : Vals (zs.map V.int) us := vals_ints hi
  cases hk : K.lookup a with
  | none =>
    have h1 : ∀ b, b ≠ a → (fun b => if b = a then some (HO.frz (boxed us) (.lst (zs.map V.int))) else none : Hp) b = none := fun b h => if_neg h
    have h2 : (fun b => if b = a then some (HO.frz (boxed us) (.lst (zs.map V.int))) else none : Hp) a = some (.frz (boxed us) (.lst (zs.map V.int))) := if_pos rfl
    refine run_at (H := fun b => if b = a then some (HO.frz (boxed us) (.lst (zs.map V.int))) else none) (us := us) (zs := zs) (fun b => ?_) (fun _ => hk) (.inl (.inr ⟨_, h2⟩)) (fun b u z => ?_) KX g1 g2 g3 lim hg ha hr F bd hsp
    · by_cases e : b = a
      · subst e; exact .inr ⟨rfl, h2⟩
      · exact .inl (h1 b e)
    · by_cases e : b = a
      · subst e
        cases h2.symm.trans z
        exact ⟨ha, by rw [List.length_map]; exact hl, us, _, rv, ha⟩
      · cases (h1 b e).symm.trans z
  | some o =>
    have e := KX a o hk
    rw [ha] at e
    cases e
    exact run_at (H := fun _ => none) (us := us) (zs := zs) (fun b => .inl rfl) (fun z => absurd rfl z) (.inr ⟨_, us.toArray, _, hk, rfl, rfl, rfl, by rw [List.size_toArray, hi.length]; exact hl, by simpa using rv⟩) (fun b u z => nomatch z) KX g1 g2 g3 lim hg ha hr F bd hsp
end
theorem walk {l : PySem.W.OpenLaw} {q : Program} {loose : List Str} {XP : (Str → Option Value) → Heap → Prop} {YP : World → Heap → Prop} {d : DefRec} {K : Params → PySem.W.Frag} (hn : l.most = some 63) (hdf : d.params.defaults = [])
    (hY : ∀ (w : World) (h : Heap), YP w h → (K w.params).In h)
    (F : ∀ (w : World) (mg : Str → Option Value) (fa : Addr) (h : Heap), (K w.params).In h → h.Ns mainGlobals mg → mg d.name = some (.ref fa) →
      ∃ fd : FuncData, (∀ (s : Shared) (u : Value), BindsTo s fd ⟨[u], []⟩ [("_law_script", u)]) ∧ ∀ base : Heap, (K w.params).In base → base.Ns mainGlobals mg → FnG l.prog w (K w.params) mg base 10 fa fd ["_law_script"] (spLaw (K w.params))) :
    PySem.W.WalkO q loose XP YP l.row.toRowW d [] (fun f vs => PySem.call f vs) := by
  apply Att.attach_call hn hdf
  intro w s0 s1 mg mb fa o pm cd doc a vs ns G Y ho hd hcd hmg hobj hints hlen hg
  have KX := hY w _ Y
  obtain ⟨fd, hb, hF⟩ := F w mg fa _ KX G.T.g hmg
  exact run_law KX G.T.g G.T.b G.T.builtins G.T.nolimit hg hobj hints (Nat.le_trans hlen (by decide)) ⟨rfl, by decide, by decide⟩ hF hb fun H hS => ⟨a, ns, rfl, hS, hlen, fun _ => rfl⟩
end K12
namespace K12
open PySem L2
/-! ### the end: what the top has left -/
theorem exm_to {K : PySem.W.Frag} {C D : Addr} {b : Bool} (x : PySem.W.subIn K (.ref D) (.type "BaseException") = some true) (i : PySem.W.isClsIn K D = true) (t : PySem.W.typeIn K (.ref D) = some (.type "type")) (s : PySem.W.subIn K (.ref C) (.ref D) = some b) : PySem.W.exmOne K (.ref C) (.ref D) = some b := by
  have i' : (PySem.W.clsIn K D).isSome = true := i
  have g : ((PySem.W.clsIn K D).isSome && PySem.W.typeIn K (.ref D) == some (.type "type")) = true := by rw [i', t] <;> rfl
  unfold PySem.W.exmOne
  rw [if_pos (by rw [x] <;> rfl)]
  show (if ((PySem.W.clsIn K D).isSome && PySem.W.typeIn K (.ref D) == some (.type "type")) = true then PySem.W.subIn K (.ref C) (.ref D) else none) = some b
  rw [if_pos g]
  exact s
theorem kit_tyref {K : PySem.W.Frag} {T : String} {D : Addr} {b : Bool} (i : PySem.W.isClsIn K D = true) (t : PySem.W.typeIn K (.ref D) = some (.type "type")) (s : PySem.W.subIn K (.type T) (.ref D) = some b) : PySem.W.kitOne K (.type T) (.ref D) = some b := by
  have i' : (PySem.W.clsIn K D).isSome = true := i
  have g : ((PySem.W.clsIn K D).isSome && PySem.W.typeIn K (.ref D) == some (.type "type")) = true := by rw [i', t] <;> rfl
  unfold PySem.W.kitOne
  rw [if_neg (fun z => by cases z)]
  show (if ((PySem.W.clsIn K D).isSome && PySem.W.typeIn K (.ref D) == some (.type "type")) = true then PySem.W.subIn K (.type T) (.ref D) else none) = some b
  rw [if_pos g]
  exact s
theorem kit_self {K : PySem.W.Frag} {D : Addr} : PySem.W.kitOne K (.ref D) (.ref D) = some true := by
  unfold PySem.W.kitOne
  exact if_pos (beq_self_eq_true _)
theorem nf_of {K : PySem.W.Frag} {T : String} {D : Addr} (s : PySem.W.subIn K (.type T) (.ref D) = some false) : PySem.W.notFirst K D (.type T) = true := by
  unfold PySem.W.notFirst
  rw [s]
  exact Bool.or_true _
theorem kit_ref {K : PySem.W.Frag} {C D : Addr} {b : Bool} (n : (Value.ref C == Value.ref D) = false) (i : PySem.W.isClsIn K D = true) (t : PySem.W.typeIn K (.ref D) = some (.type "type")) (s : PySem.W.subIn K (.ref C) (.ref D) = some b) : PySem.W.kitOne K (.ref C) (.ref D) = some b := by
  have i' : (PySem.W.clsIn K D).isSome = true := i
  have g : ((PySem.W.clsIn K D).isSome && PySem.W.typeIn K (.ref D) == some (.type "type")) = true := by rw [i', t] <;> rfl
  unfold PySem.W.kitOne
  rw [if_neg (by rw [n]; decide)]
  show (if ((PySem.W.clsIn K D).isSome && PySem.W.typeIn K (.ref D) == some (.type "type")) = true then PySem.W.subIn K (.ref C) (.ref D) else none) = some b
  rw [if_pos g]
  exact s
theorem kit_blt {K : PySem.W.Frag} {C : Addr} {T : String} {b : Bool} (m : PySem.W.kitMeta T = true) (s : PySem.W.subIn K (.ref C) (.type T) = some b) : PySem.W.kitOne K (.ref C) (.type T) = some b := by
  unfold PySem.W.kitOne
  rw [if_neg (fun z => by cases z)]
  show (if PySem.W.kitMeta T = true then PySem.W.subIn K (.ref C) (.type T) else none) = some b
  rw [if_pos m]
  exact s
theorem at_mk {K : PySem.W.Frag} {h : Heap} {mg : Str → Option Value} {x : Str} {st : Stmt} {ps : List Str} {f : Addr} {fd : FuncData} (X : K.In h) (G : h.Ns mainGlobals mg) (a : PySem.W.nsIn K mainGlobals x = some (some (.ref f))) (F : Fun K x x st f fd)
    (b : ∀ (kV doc pm : Value) (an : Option Addr) (cdv ct : Value) (us : List Value), us.length = ps.length → bindArgs (PySem.W.fnOf x x (defArgs st) (defBody st) (defScope st) .none kV doc pm an cdv ct) ⟨us, []⟩ = pure (ps.zip us)) : At K mg x st ps f fd := ⟨F, F.binds b, PySem.W.mg_of X G a⟩

theorem all_mk {P : Program} {w : World} {K : PySem.W.Frag} {h : Heap} {mg : Str → Option Value} {fa : Addr} (X : K.In h) (G : h.Ns mainGlobals mg) (hfa : mg "law" = some (.ref fa))
    {f0 f1 f2 f3 f4 f5 f6 f7 f8 f9 f10 f11 f12 f13 f14 f15 f16 f17 f18 f19 : Addr} {d0 d1 d2 d3 d4 d5 d6 d7 d8 d9 d10 d11 d12 d13 d14 d15 d16 d17 d18 d19 : FuncData} {C fL CN fN CM fM CT fT C0 cL cM gE gL gS gR gH pM gM pO gO : Addr} {dL0 dN dM dT dE dLn dS dR dH dG dO : FuncData} {tM tL tk : Tok} {rm ro : List Value}
    {nm q nmb q2 : Str} {N N2 : Addr} {bs bm bs2 bm2 : List Value} {sn sn2 : List Str} {sub sub2 : List Value} {ab ab2 : Bool} {col col2 : Option Bool} {dd dd2 : Option Addr} {k0 k1 k2 k3 k5 j0 j1 j2 j3 j5 : Option Value}
    (a0 : PySem.W.nsIn K mainGlobals "is_name" = some (some (.ref f0)))
    (F0 : Fun K "is_name" "is_name" sIsName f0 d0)
    (a1 : PySem.W.nsIn K mainGlobals "marks_of_text" = some (some (.ref f1)))
    (F1 : Fun K "marks_of_text" "marks_of_text" sMarksOf f1 d1)
    (a2 : PySem.W.nsIn K mainGlobals "_law_rng" = some (some (.ref f2)))
    (F2 : Fun K "_law_rng" "_law_rng" sRng f2 d2)
    (a3 : PySem.W.nsIn K mainGlobals "_law_draw" = some (some (.ref f3)))
    (F3 : Fun K "_law_draw" "_law_draw" sDraw f3 d3)
    (a4 : PySem.W.nsIn K mainGlobals "_law_choice" = some (some (.ref f4)))
    (F4 : Fun K "_law_choice" "_law_choice" sChoice f4 d4)
    (a5 : PySem.W.nsIn K mainGlobals "_law_is_name" = some (some (.ref f5)))
    (F5 : Fun K "_law_is_name" "_law_is_name" sLIsName f5 d5)
    (a6 : PySem.W.nsIn K mainGlobals "_law_mark" = some (some (.ref f6)))
    (F6 : Fun K "_law_mark" "_law_mark" sMark f6 d6)
    (a7 : PySem.W.nsIn K mainGlobals "_law_pool" = some (some (.ref f7)))
    (F7 : Fun K "_law_pool" "_law_pool" sPool f7 d7)
    (a8 : PySem.W.nsIn K mainGlobals "_law_label" = some (some (.ref f8)))
    (F8 : Fun K "_law_label" "_law_label" sLabel f8 d8)
    (a9 : PySem.W.nsIn K mainGlobals "_law_due" = some (some (.ref f9)))
    (F9 : Fun K "_law_due" "_law_due" sDue f9 d9)
    (a10 : PySem.W.nsIn K mainGlobals "_law_told" = some (some (.ref f10)))
    (F10 : Fun K "_law_told" "_law_told" sTold f10 d10)
    (a11 : PySem.W.nsIn K mainGlobals "_law_read" = some (some (.ref f11)))
    (F11 : Fun K "_law_read" "_law_read" sRead f11 d11)
    (a12 : PySem.W.nsIn K mainGlobals "_law_read_due" = some (some (.ref f12)))
    (F12 : Fun K "_law_read_due" "_law_read_due" sReadDue f12 d12)
    (a13 : PySem.W.nsIn K mainGlobals "_law_text" = some (some (.ref f13)))
    (F13 : Fun K "_law_text" "_law_text" sText f13 d13)
    (a14 : PySem.W.nsIn K mainGlobals "_law_spoilt" = some (some (.ref f14)))
    (F14 : Fun K "_law_spoilt" "_law_spoilt" sSpoilt f14 d14)
    (a15 : PySem.W.nsIn K mainGlobals "_law_same" = some (some (.ref f15)))
    (F15 : Fun K "_law_same" "_law_same" sSame f15 d15)
    (a16 : PySem.W.nsIn K mainGlobals "_law_unlike" = some (some (.ref f16)))
    (F16 : Fun K "_law_unlike" "_law_unlike" sUnlike f16 d16)
    (a17 : PySem.W.nsIn K mainGlobals "_law_label_right" = some (some (.ref f17)))
    (F17 : Fun K "_law_label_right" "_law_label_right" sLabelRight f17 d17)
    (a18 : PySem.W.nsIn K mainGlobals "_law_right" = some (some (.ref f18)))
    (F18 : Fun K "_law_right" "_law_right" sRight f18 d18)
    (a19 : PySem.W.nsIn K mainGlobals "law" = some (some (.ref f19)))
    (F19 : Fun K "law" "law" sLaw f19 d19)
    (zlen : PySem.W.nsIn K mainGlobals "len" = some none)
    (zabs : PySem.W.nsIn K mainGlobals "abs" = some none)
    (zmax : PySem.W.nsIn K mainGlobals "max" = some none)
    (zmin : PySem.W.nsIn K mainGlobals "min" = some none)
    (zint : PySem.W.nsIn K mainGlobals "int" = some none)
    (zdivmod : PySem.W.nsIn K mainGlobals "divmod" = some none)
    (zrange : PySem.W.nsIn K mainGlobals "range" = some none)
    (zall : PySem.W.nsIn K mainGlobals "all" = some none)
    (zisinstance : PySem.W.nsIn K mainGlobals "isinstance" = some none)
    (zstr : PySem.W.nsIn K mainGlobals "str" = some none)
    (zbool : PySem.W.nsIn K mainGlobals "bool" = some none)
    (zrepr : PySem.W.nsIn K mainGlobals "repr" = some none)
    (ztuple : PySem.W.nsIn K mainGlobals "tuple" = some none)
    (zset : PySem.W.nsIn K mainGlobals "set" = some none)
    (zsorted : PySem.W.nsIn K mainGlobals "sorted" = some none)
    (zlist : PySem.W.nsIn K mainGlobals "list" = some none)
    (zArithmeticError : PySem.W.nsIn K mainGlobals "ArithmeticError" = some none)
    (zValueError : PySem.W.nsIn K mainGlobals "ValueError" = some none)
    (mM : PySem.W.nsIn K mainGlobals "MOST_LETTERS" = some (some (.int 8 tM)))
    (mL : PySem.W.nsIn K mainGlobals "LETTERS" = some (some (.str "abcdefghijklmnopqrstuvwxyz" tL)))
    (cC : PySem.W.nsIn K mainGlobals "Label" = some (some (.ref C)))
    (cmk : PySem.W.makesIn K C = true)
    (cin : PySem.W.findIn K (.ref C) "__init__" = some (some (.ref fL)))
    (cfn : PySem.W.isFn K (.ref fL) = true)
    (ckp : PySem.W.keepIn K (.ref C) = true)
    (cpg : PySem.W.plainGet K C Str.empty = true)
    (chd : PySem.W.hasDictIn K C = true)
    (cpo : PySem.W.plainOver K C = true)
    (csa : PySem.W.findIn K (.ref C) "__setattr__" = some (some (.builtin "object.__setattr__")))
    (crd : PySem.W.readsIn K C (.type "type") = true)
    (cga : PySem.W.specialIn K (.ref C) "__getattribute__" = some (some (.builtin "type.__getattribute__")))
    (cmo : PySem.W.findCls K (.ref C) (.type "type") "MOST" = some (.val (.int 4 tk)))
    (cn1 : PySem.W.findIn K (.ref C) "_marks" = some none)
    (cn2 : PySem.W.findIn K (.ref C) "_text" = some none)
    (cic : PySem.W.isClsIn K C = true)
    (cty : PySem.W.typeIn K (.ref C) = some (.type "type"))
    (FL : Fun K "__init__" "Label.__init__" sInit fL dL0)
    (cgE : PySem.W.findIn K (.ref C) "__eq__" = some (some (.ref gE)))
    (igE : PySem.W.isFn K (.ref gE) = true)
    (FgE : Fun K "__eq__" "Label.__eq__" sEq gE dE)
    (cgL : PySem.W.findIn K (.ref C) "__len__" = some (some (.ref gL)))
    (igL : PySem.W.isFn K (.ref gL) = true)
    (FgL : Fun K "__len__" "Label.__len__" sLen gL dLn)
    (cgS : PySem.W.findIn K (.ref C) "__str__" = some (some (.ref gS)))
    (igS : PySem.W.isFn K (.ref gS) = true)
    (FgS : Fun K "__str__" "Label.__str__" sStr gS dS)
    (cgR : PySem.W.findIn K (.ref C) "__repr__" = some (some (.ref gR)))
    (igR : PySem.W.isFn K (.ref gR) = true)
    (FgR : Fun K "__repr__" "Label.__repr__" sRepr gR dR)
    (cgH : PySem.W.findIn K (.ref C) "__contains__" = some (some (.ref gH)))
    (igH : PySem.W.isFn K (.ref gH) = true)
    (FgH : Fun K "__contains__" "Label.__contains__" sHas gH dH)
    (cne : PySem.W.findIn K (.ref C) "__ne__" = some (some (.builtin "object.__ne__")))
    (cob : PySem.W.subIn K (.ref C) (.type "object") = some true)
    (sNoneType : PySem.W.subIn K (.ref C) (.type "NoneType") = some false)
    (uNoneType : PySem.W.subIn K (.type "NoneType") (.ref C) = some false)
    (sbool : PySem.W.subIn K (.ref C) (.type "bool") = some false)
    (ubool : PySem.W.subIn K (.type "bool") (.ref C) = some false)
    (sint : PySem.W.subIn K (.ref C) (.type "int") = some false)
    (uint : PySem.W.subIn K (.type "int") (.ref C) = some false)
    (sstr : PySem.W.subIn K (.ref C) (.type "str") = some false)
    (ustr : PySem.W.subIn K (.type "str") (.ref C) = some false)
    (slist : PySem.W.subIn K (.ref C) (.type "list") = some false)
    (ulist : PySem.W.subIn K (.type "list") (.ref C) = some false)
    (stuple : PySem.W.subIn K (.ref C) (.type "tuple") = some false)
    (utuple : PySem.W.subIn K (.type "tuple") (.ref C) = some false)
    (sdict : PySem.W.subIn K (.ref C) (.type "dict") = some false)
    (udict : PySem.W.subIn K (.type "dict") (.ref C) = some false)
    (cpM : PySem.W.findIn K (.ref C) "marks" = some (some (.ref pM)))
    (pg : PySem.W.specialIn K (.ref pM) "__get__" = some (some (.builtin "property.__get__")))
    (pt : PySem.W.takesIn K (.ref pM) = some true)
    (pr : PySem.W.recIn K pM "property" = some (.ref gM :: rm))
    (FgM : Fun K "marks" "Label.marks" sGetM gM dG)
    (cpO : PySem.W.findCls K (.ref C) (.type "type") "of_text" = some (.get (.builtin "classmethod.__get__") (.ref pO) .none (.ref C)))
    (orc : PySem.W.recIn K pO "classmethod" = some (.ref gO :: ro))
    (ofi : PySem.W.fnIn K gO = true)
    (FgO : Fun K "of_text" "Label.of_text" sOf gO dO)
    (cha : PySem.W.findIn K (.ref C) "__class__" = some (some (.builtin "object.__class__")))
    (hn : PySem.W.specialIn K (.builtin "object.__class__") "__get__" = some (some (.builtin "getset_descriptor.__get__")))
    (ht : PySem.W.takesIn K (.builtin "object.__class__") = some true)
    (chm : PySem.W.mroIn K C (.type "object") = some true)
    (naC : PySem.W.nsIn K mainGlobals "InvalidName" = some (some (.ref CN)))
    (nlC : K.lookup CN = some (PySem.excClassObj nm q CN N bs bm true sn sub ab col dd k0 k1 k2 k3 k5 "ValueError.__new__"))
    (nbC : PySem.HandSPX.refsVE bm = true)
    (nsa : PySem.W.findIn K (.ref CN) "__setattr__" = some (some (.builtin "object.__setattr__")))
    (nxC : PySem.W.subIn K (.ref CN) (.type "BaseException") = some true)
    (ntC : PySem.W.typeIn K (.ref CN) = some (.type "type"))
    (nkC : PySem.W.keepIn K (.ref CN) = true)
    (nhg : PySem.W.findIn K (.ref CN) "__getattribute__" = some (some (.builtin "BaseException.__getattribute__")))
    (nhk : PySem.W.findIn K (.ref CN) "__getattr__" = some none)
    (nhd : PySem.W.hasDictIn K CN = true)
    (nha : PySem.W.findIn K (.ref CN) "__class__" = some (some (.builtin "object.__class__")))
    (nhm : PySem.W.mroIn K CN (.type "object") = some true)
    (niC : PySem.W.isClsIn K CN = true)
    (nsC : PySem.W.subIn K (.ref CN) (.ref CN) = some true)
    (ninC : PySem.W.findIn K (.ref CN) "__init__" = some (some (.ref fN)))
    (ntI : PySem.W.typeIn K (.ref fN) = some (.type "function"))
    (nm1 : PySem.W.findIn K (.ref CN) "value" = some none)
    (nm2 : PySem.W.findIn K (.ref CN) "_told" = some none)
    (nFI : Fun K "__init__" "InvalidName.__init__" sInitK fN dN)
    (taC : PySem.W.nsIn K mainGlobals "InvalidText" = some (some (.ref CT)))
    (tlC : K.lookup CT = some (PySem.excClassObj nmb q2 CT N2 bs2 bm2 true sn2 sub2 ab2 col2 dd2 j0 j1 j2 j3 j5 "ValueError.__new__"))
    (tbC : PySem.HandSPX.refsVE bm2 = true)
    (tsa : PySem.W.findIn K (.ref CT) "__setattr__" = some (some (.builtin "object.__setattr__")))
    (txC : PySem.W.subIn K (.ref CT) (.type "BaseException") = some true)
    (ttC : PySem.W.typeIn K (.ref CT) = some (.type "type"))
    (tkC : PySem.W.keepIn K (.ref CT) = true)
    (thg : PySem.W.findIn K (.ref CT) "__getattribute__" = some (some (.builtin "BaseException.__getattribute__")))
    (thk : PySem.W.findIn K (.ref CT) "__getattr__" = some none)
    (thd : PySem.W.hasDictIn K CT = true)
    (tha : PySem.W.findIn K (.ref CT) "__class__" = some (some (.builtin "object.__class__")))
    (thm : PySem.W.mroIn K CT (.type "object") = some true)
    (tiC : PySem.W.isClsIn K CT = true)
    (tsC : PySem.W.subIn K (.ref CT) (.ref CT) = some true)
    (tinC : PySem.W.findIn K (.ref CT) "__init__" = some (some (.ref fT)))
    (ttI : PySem.W.typeIn K (.ref fT) = some (.type "function"))
    (tm1 : PySem.W.findIn K (.ref CT) "problem" = some none)
    (tm2 : PySem.W.findIn K (.ref CT) "_told" = some none)
    (tFI : Fun K "__init__" "InvalidText.__init__" sInitT fT dT)
    (maC : PySem.W.nsIn K mainGlobals "TooMany" = some (some (.ref CM)))
    (mei : PySem.W.excInitIn K CM [.type "ArithmeticError", .type "Exception", .type "BaseException", .type "object"] "ArithmeticError.__new__" = true)
    (meo : PySem.W.excOver K CM [.type "ArithmeticError", .type "Exception", .type "BaseException", .type "object"] = true)
    (msa : PySem.W.findIn K (.ref CM) "__setattr__" = some (some (.builtin "object.__setattr__")))
    (mxC : PySem.W.subIn K (.ref CM) (.type "BaseException") = some true)
    (mtC : PySem.W.typeIn K (.ref CM) = some (.type "type"))
    (mkC : PySem.W.keepIn K (.ref CM) = true)
    (mhg : PySem.W.findIn K (.ref CM) "__getattribute__" = some (some (.builtin "BaseException.__getattribute__")))
    (mhk : PySem.W.findIn K (.ref CM) "__getattr__" = some none)
    (mhd : PySem.W.hasDictIn K CM = true)
    (mha : PySem.W.findIn K (.ref CM) "__class__" = some (some (.builtin "object.__class__")))
    (mhm : PySem.W.mroIn K CM (.type "object") = some true)
    (miC : PySem.W.isClsIn K CM = true)
    (msC : PySem.W.subIn K (.ref CM) (.ref CM) = some true)
    (minC : PySem.W.findIn K (.ref CM) "__init__" = some (some (.ref fM)))
    (mtI : PySem.W.typeIn K (.ref fM) = some (.type "function"))
    (mm1 : PySem.W.findIn K (.ref CM) "kind" = some none)
    (mm2 : PySem.W.findIn K (.ref CM) "limit" = some none)
    (mm3 : PySem.W.findIn K (.ref CM) "_told" = some none)
    (mFI : Fun K "__init__" "TooMany.__init__" sInitM fM dM)
    (gC0 : PySem.W.nsIn K mainGlobals "InvalidError" = some (some (.ref C0)))
    (iC0 : PySem.W.isClsIn K C0 = true)
    (tC0 : PySem.W.typeIn K (.ref C0) = some (.type "type"))
    (gcL : PySem.W.nsIn K mainGlobals "InvalidLabel" = some (some (.ref cL)))
    (icL : PySem.W.isClsIn K cL = true)
    (tcL : PySem.W.typeIn K (.ref cL) = some (.type "type"))
    (gcM : PySem.W.nsIn K mainGlobals "LimitError" = some (some (.ref cM)))
    (icM : PySem.W.isClsIn K cM = true)
    (tcM : PySem.W.typeIn K (.ref cM) = some (.type "type"))
    (sCNC0 : PySem.W.subIn K (.ref CN) (.ref C0) = some true)
    (nCNC0 : (Value.ref CN == Value.ref C0) = false)
    (sCTC0 : PySem.W.subIn K (.ref CT) (.ref C0) = some true)
    (nCTC0 : (Value.ref CT == Value.ref C0) = false)
    (sCNcL : PySem.W.subIn K (.ref CN) (.ref cL) = some false)
    (nCNcL : (Value.ref CN == Value.ref cL) = false)
    (sCNCT : PySem.W.subIn K (.ref CN) (.ref CT) = some false)
    (nCNCT : (Value.ref CN == Value.ref CT) = false)
    (sCNcM : PySem.W.subIn K (.ref CN) (.ref cM) = some false)
    (nCNcM : (Value.ref CN == Value.ref cM) = false)
    (sCTcL : PySem.W.subIn K (.ref CT) (.ref cL) = some false)
    (nCTcL : (Value.ref CT == Value.ref cL) = false)
    (sCTCN : PySem.W.subIn K (.ref CT) (.ref CN) = some false)
    (nCTCN : (Value.ref CT == Value.ref CN) = false)
    (sCTcM : PySem.W.subIn K (.ref CT) (.ref cM) = some false)
    (nCTcM : (Value.ref CT == Value.ref cM) = false)
    (sCMcM : PySem.W.subIn K (.ref CM) (.ref cM) = some true)
    (nCMcM : (Value.ref CM == Value.ref cM) = false)
    (sCMCN : PySem.W.subIn K (.ref CM) (.ref CN) = some false)
    (sMA : PySem.W.subIn K (.ref CM) (.type "ArithmeticError") = some true)
    (sMV : PySem.W.subIn K (.ref CM) (.type "ValueError") = some false) :
    ∃ fd : FuncData, (∀ (s : Shared) (u : Value), BindsTo s fd ⟨[u], []⟩ [("_law_script", u)]) ∧ ∀ base : Heap, K.In base → base.Ns mainGlobals mg → FnG P w K mg base 10 fa fd ["_law_script"] (spLaw K) := by
  have e := hfa.symm.trans (PySem.W.mg_of X G a19)
  cases e
  have A0 : At K mg "is_name" sIsName ["value"] f0 d0 := at_mk X G a0 F0 fun _ _ _ _ _ _ us hl => match us, hl with | [_], _ => rfl
  have A1 : At K mg "marks_of_text" sMarksOf ["text"] f1 d1 := at_mk X G a1 F1 fun _ _ _ _ _ _ us hl => match us, hl with | [_], _ => rfl
  have A2 : At K mg "_law_rng" sRng ["_law_script", "_law_k"] f2 d2 := at_mk X G a2 F2 fun _ _ _ _ _ _ us hl => match us, hl with | [_, _], _ => rfl
  have A3 : At K mg "_law_draw" sDraw ["_law_rng_here", "_law_many"] f3 d3 := at_mk X G a3 F3 fun _ _ _ _ _ _ us hl => match us, hl with | [_, _], _ => rfl
  have A4 : At K mg "_law_choice" sChoice ["_law_rng_here", "_law_options"] f4 d4 := at_mk X G a4 F4 fun _ _ _ _ _ _ us hl => match us, hl with | [_, _], _ => rfl
  have A5 : At K mg "_law_is_name" sLIsName ["_law_thing"] f5 d5 := at_mk X G a5 F5 fun _ _ _ _ _ _ us hl => match us, hl with | [_], _ => rfl
  have A6 : At K mg "_law_mark" sMark ["_law_rng_here", "_law_pool_here"] f6 d6 := at_mk X G a6 F6 fun _ _ _ _ _ _ us hl => match us, hl with | [_, _], _ => rfl
  have A7 : At K mg "_law_pool" sPool ["_law_rng_here"] f7 d7 := at_mk X G a7 F7 fun _ _ _ _ _ _ us hl => match us, hl with | [_], _ => rfl
  have A8 : At K mg "_law_label" sLabel ["_law_marks"] f8 d8 := at_mk X G a8 F8 fun _ _ _ _ _ _ us hl => match us, hl with | [_], _ => rfl
  have A9 : At K mg "_law_due" sDue ["_law_marks"] f9 d9 := at_mk X G a9 F9 fun _ _ _ _ _ _ us hl => match us, hl with | [_], _ => rfl
  have A10 : At K mg "_law_told" sTold ["_law_marks"] f10 d10 := at_mk X G a10 F10 fun _ _ _ _ _ _ us hl => match us, hl with | [_], _ => rfl
  have A11 : At K mg "_law_read" sRead ["_law_thing"] f11 d11 := at_mk X G a11 F11 fun _ _ _ _ _ _ us hl => match us, hl with | [_], _ => rfl
  have A12 : At K mg "_law_read_due" sReadDue ["_law_thing"] f12 d12 := at_mk X G a12 F12 fun _ _ _ _ _ _ us hl => match us, hl with | [_], _ => rfl
  have A13 : At K mg "_law_text" sText ["_law_marks"] f13 d13 := at_mk X G a13 F13 fun _ _ _ _ _ _ us hl => match us, hl with | [_], _ => rfl
  have A14 : At K mg "_law_spoilt" sSpoilt ["_law_rng_here", "_law_text_here"] f14 d14 := at_mk X G a14 F14 fun _ _ _ _ _ _ us hl => match us, hl with | [_, _], _ => rfl
  have A15 : At K mg "_law_same" sSame ["_law_one", "_law_other"] f15 d15 := at_mk X G a15 F15 fun _ _ _ _ _ _ us hl => match us, hl with | [_, _], _ => rfl
  have A16 : At K mg "_law_unlike" sUnlike ["_law_one", "_law_other"] f16 d16 := at_mk X G a16 F16 fun _ _ _ _ _ _ us hl => match us, hl with | [_, _], _ => rfl
  have A17 : At K mg "_law_label_right" sLabelRight ["_law_rng_here", "_law_marks", "_law_due_here"] f17 d17 := at_mk X G a17 F17 fun _ _ _ _ _ _ us hl => match us, hl with | [_, _, _], _ => rfl
  have A18 : At K mg "_law_right" sRight ["_law_rng_here"] f18 d18 := at_mk X G a18 F18 fun _ _ _ _ _ _ us hl => match us, hl with | [_], _ => rfl
  have B : BEnv mg := ⟨(PySem.W.mg_none_of X G zlen), (PySem.W.mg_none_of X G zabs), (PySem.W.mg_none_of X G zmax), (PySem.W.mg_none_of X G zmin), (PySem.W.mg_none_of X G zint), (PySem.W.mg_none_of X G zdivmod), (PySem.W.mg_none_of X G zrange), (PySem.W.mg_none_of X G zall)⟩
  have Z : Zn mg := ⟨(PySem.W.mg_none_of X G zisinstance), (PySem.W.mg_none_of X G zbool), (PySem.W.mg_none_of X G zint), (PySem.W.mg_none_of X G zstr), (PySem.W.mg_none_of X G zabs), (PySem.W.mg_none_of X G zlen), (PySem.W.mg_none_of X G zall), (PySem.W.mg_none_of X G zrepr)⟩
  have IN : IK K mg CN fN dN := { o := ⟨⟨nm, q, N, bs, bm, sn, sub, ab, col, dd, k0, k1, k2, k3, k5, nlC, nbC⟩, nsa, nxC, ntC, nkC⟩, iC := ninC, tI := ntI, n1 := nm1, n2 := nm2, m := (PySem.W.mg_of X G naC), F := nFI, b := (nFI.binds fun _ _ _ _ _ _ us hl => match us, hl with | [_, _], _ => rfl) }
  have ITt : IT K mg CT fT dT := { o := ⟨⟨nmb, q2, N2, bs2, bm2, sn2, sub2, ab2, col2, dd2, j0, j1, j2, j3, j5, tlC, tbC⟩, tsa, txC, ttC, tkC⟩, iC := tinC, tI := ttI, n1 := tm1, n2 := tm2, m := (PySem.W.mg_of X G taC), F := tFI, b := (tFI.binds fun _ _ _ _ _ _ us hl => match us, hl with | [_, _], _ => rfl) }
  have IMm : IM K mg CM fM dM := { o := ⟨mei, meo, mhd, msa, mxC, mtC, mkC⟩, iC := minC, tI := mtI, t1 := NoAttr.taker mm1, t2 := NoAttr.taker mm2, t3 := NoAttr.taker mm3, m := (PySem.W.mg_of X G maC), F := mFI, b := (mFI.binds fun _ _ _ _ _ _ us hl => match us, hl with | [_, _, _], _ => rfl) }
  have CL : Cls K C := ⟨cpg, chd, cpo, csa⟩
  have CR : ClX.CRead K C (.type "type") := ⟨crd, cga⟩
  have LC : LabC K mg C fL CN fN CM fM dL0 dN dM := { mkr := ⟨cmk, cin, cfn, ckp⟩, cl := CL, m := (PySem.W.mg_of X G cC), rd := ⟨_, tk, CR, ⟨cmo, ⟨_, rfl⟩⟩⟩, n1 := cn1, n2 := cn2, F := FL, N := IN, M := IMm }
  have kt : ∀ T ∈ ["NoneType", "bool", "int", "str", "list", "tuple", "dict"], PySem.W.kitOne K (.type T) (.ref C) = some false := by
    simp only [List.forall_mem_cons]
    exact ⟨kit_tyref cic cty uNoneType, kit_tyref cic cty ubool, kit_tyref cic cty uint, kit_tyref cic cty ustr, kit_tyref cic cty ulist, kit_tyref cic cty utuple, kit_tyref cic cty udict, fun _ z => nomatch z⟩
  have sb : ∀ T ∈ ["NoneType", "bool", "int", "str", "list", "tuple", "dict"], PySem.W.subIn K (.ref C) (.type T) = some false ∧ PySem.W.notFirst K C (.type T) = true := by
    simp only [List.forall_mem_cons]
    exact ⟨⟨sNoneType, nf_of uNoneType⟩, ⟨sbool, nf_of ubool⟩, ⟨sint, nf_of uint⟩, ⟨sstr, nf_of ustr⟩, ⟨slist, nf_of ulist⟩, ⟨stuple, nf_of utuple⟩, ⟨sdict, nf_of udict⟩, fun _ z => nomatch z⟩
  have LM : LabM K mg C gE gL gS gR gH pM gM dE dLn dS dR dH dG := { cl := CL, n1 := cn1, n2 := cn2, m := (PySem.W.mg_of X G cC), E := FgE, O := ⟨cgE, igE, cne, cob, sb⟩, L := FgL, fL := cgL, iL := igL, S := FgS, fS := cgS, iS := igS, R := FgR, fR := cgR, iR := igR, H := FgH, fH := cgH, iH := igH, M := FgM, pr := ⟨cpM, pg, pt, ⟨rm, pr⟩⟩, bE := (FgE.binds fun _ _ _ _ _ _ us hl => match us, hl with | [_, _], _ => rfl), bL := (FgL.binds fun _ _ _ _ _ _ us hl => match us, hl with | [_], _ => rfl), bS := (FgS.binds fun _ _ _ _ _ _ us hl => match us, hl with | [_], _ => rfl), bR := (FgR.binds fun _ _ _ _ _ _ us hl => match us, hl with | [_], _ => rfl), bH := (FgH.binds fun _ _ _ _ _ _ us hl => match us, hl with | [_, _], _ => rfl), bM := (FgM.binds fun _ _ _ _ _ _ us hl => match us, hl with | [_], _ => rfl), kt := kt, kc := kit_self, ca := cha, cn := hn, ct := ht, cm := chm }
  have NE : NEnv K mg CN C0 cL CT cM := { ex := ⟨nhg, nhk, nxC, nhd, nha, hn, ht, nhm⟩, xf := ⟨nhg, nhk, nxC, nhd⟩, te := exm_to nxC niC ntC nsC, m0 := (PySem.W.mg_of X G gC0), mL := (PySem.W.mg_of X G gcL), mT := (PySem.W.mg_of X G taC), mM := (PySem.W.mg_of X G gcM), k0 := kit_ref nCNC0 iC0 tC0 sCNC0, kN := kitAny_cons (kit_ref nCNcL icL tcL sCNcL) (fun _ => kitAny_cons (kit_ref nCNCT tiC ttC sCNCT) (fun _ => kitAny_cons (kit_ref nCNcM icM tcM sCNcM) (fun _ => kitAny_nil) (fun z => nomatch z)) (fun z => nomatch z)) (fun z => nomatch z) }
  have ME : MEnv K mg CM CN cM := { ex := ⟨mhg, mhk, mxC, mhd, mha, hn, ht, mhm⟩, xf := ⟨mhg, mhk, mxC, mhd⟩, te := exm_to mxC miC mtC msC, tn := exm_to nxC niC ntC sCMCN, mA := (PySem.W.mg_none_of X G zArithmeticError), mV := (PySem.W.mg_none_of X G zValueError), n1 := mm1, n2 := mm2, kL := kit_ref nCMcM icM tcM sCMcM, kA := kit_blt (by decide +kernel) sMA, kV := kit_blt (by decide +kernel) sMV }
  have T : Env12 K mg C fL CN fN CM fM f0 f8 C0 cL CT cM gE gL gS gR gH pM gM dL0 dN dM d0 d8 dE dLn dS dR dH dG := { L := LC, M := LM, Z := Z, zT := (PySem.W.mg_none_of X G ztuple), zS := (PySem.W.mg_none_of X G zset), zO := (PySem.W.mg_none_of X G zsorted), mM := ⟨tM, (PySem.W.mg_of X G mM)⟩, mL := ⟨tL, (PySem.W.mg_of X G mL)⟩, AN := A0, AL := A8, N := NE, O := ME }
  have O : OEnv K mg C C0 CN cL cM CT fT pO gO f1 dT dO d1 := { T := ITt, FO := FgO, bO := (FgO.binds fun _ _ _ _ _ _ us hl => match us, hl with | [_, _], _ => rfl), AM := A1, cr := ⟨_, CR, ⟨cpO, ⟨ro, orc⟩, ofi⟩⟩, ex := ⟨thg, thk, txC, thd, tha, hn, ht, thm⟩, xf := ⟨thg, thk, txC, thd⟩, te := exm_to txC tiC ttC tsC, k0 := kit_ref nCTC0 iC0 tC0 sCTC0, kN := kitAny_cons (kit_ref nCTcL icL tcL sCTcL) (fun _ => kitAny_cons (kit_ref nCTCN niC ntC sCTCN) (fun _ => kitAny_cons (kit_ref nCTcM icM tcM sCTcM) (fun _ => kitAny_nil) (fun z => nomatch z)) (fun z => nomatch z)) (fun z => nomatch z) }
  have kI : ∀ T ∈ ["bool", "int", "str"], PySem.W.kitOne K (.ref C) (.type T) = some false := by
    simp only [List.forall_mem_cons]
    exact ⟨kit_blt (by decide +kernel) sbool, kit_blt (by decide +kernel) sint, kit_blt (by decide +kernel) sstr, fun _ z => nomatch z⟩
  have R : REnv K mg C f3 f4 f5 f6 f13 f15 f16 d3 d4 d5 d6 d13 d15 d16 := { B := B, zL := (PySem.W.mg_none_of X G zlist), D := A3, Ch := A4, J := A5, M := A6, T := A13, S := A15, U := A16, kI := kI }
  have S : SEnv K mg f3 f4 f5 f6 f13 f7 f9 f10 f17 f14 f11 f12 d3 d4 d5 d6 d13 d7 d9 d10 d17 d14 d11 d12 := ⟨B, A3, A4, A5, A6, A13, A7, A9, A10, A17, A14, A11, A12⟩
  have bL : ∀ (s : Shared) (u : Value), BindsTo s d19 ⟨[u], []⟩ [("_law_script", u)] := by
    obtain ⟨oc, od, kV, doc, pm, an, cdv, ct, osl, rfl, lk, hcd⟩ := F19.ex
    exact fun s u => .of_eq rfl
  refine ⟨d19, bL, fun base _ _ => ?_⟩
  have GRt : FnG P w K mg base 9 f18 d18 ["_law_rng_here"] spRi := ok_right F18 T O R S
  exact ok_law F19 B A2 A18 GRt
end K12
open PySem PySem.W PyProof.Rows in
set_option maxRecDepth 100000 in
set_option maxHeartbeats 0 in
theorem PySem.Challenge.cw_aboveless_k12_labels_made_and_read_holds : PySem.Challenge.rw_aboveless_k12_labels_made_and_read.Holds := by
  w_on; o_law; k_head; (case hw => w_witness2)
  k_fill
  refine K12.walk (l := PySem.Challenge.rw_aboveless_k12_labels_made_and_read) rfl rfl (fun w h Y => PySem.W.kIn_of Y) ?F
  case F =>
    intro w mg fa h KX G hmg
    refine' K12.all_mk KX G hmg ?a0 ?F0 ?a1 ?F1 ?a2 ?F2 ?a3 ?F3 ?a4 ?F4 ?a5 ?F5 ?a6 ?F6 ?a7 ?F7 ?a8 ?F8 ?a9 ?F9 ?a10 ?F10 ?a11 ?F11 ?a12 ?F12 ?a13 ?F13 ?a14 ?F14 ?a15 ?F15 ?a16 ?F16 ?a17 ?F17 ?a18 ?F18 ?a19 ?F19 ?zlen ?zabs ?zmax ?zmin ?zint ?zdivmod ?zrange ?zall ?zisinstance ?zstr ?zbool ?zrepr ?ztuple ?zset ?zsorted ?zlist ?zArithmeticError ?zValueError ?mM ?mL ?cC ?cmk ?cin ?cfn ?ckp ?cpg ?chd ?cpo ?csa ?crd ?cga ?cmo ?cn1 ?cn2 ?cic ?cty ?FL ?cgE ?igE ?FgE ?cgL ?igL ?FgL ?cgS ?igS ?FgS ?cgR ?igR ?FgR ?cgH ?igH ?FgH ?cne ?cob ?sNoneType ?uNoneType ?sbool ?ubool ?sint ?uint ?sstr ?ustr ?slist ?ulist ?stuple ?utuple ?sdict ?udict ?cpM ?pg ?pt ?pr ?FgM ?cpO ?orc ?ofi ?FgO ?cha ?hn ?ht ?chm ?naC ?nlC ?nbC ?nsa ?nxC ?ntC ?nkC ?nhg ?nhk ?nhd ?nha ?nhm ?niC ?nsC ?ninC ?ntI ?nm1 ?nm2 ?nFI ?taC ?tlC ?tbC ?tsa ?txC ?ttC ?tkC ?thg ?thk ?thd ?tha ?thm ?tiC ?tsC ?tinC ?ttI ?tm1 ?tm2 ?tFI ?maC ?mei ?meo ?msa ?mxC ?mtC ?mkC ?mhg ?mhk ?mhd ?mha ?mhm ?miC ?msC ?minC ?mtI ?mm1 ?mm2 ?mm3 ?mFI ?gC0 ?iC0 ?tC0 ?gcL ?icL ?tcL ?gcM ?icM ?tcM ?sCNC0 ?nCNC0 ?sCTC0 ?nCTC0 ?sCNcL ?nCNcL ?sCNCT ?nCNCT ?sCNcM ?nCNcM ?sCTcL ?nCTcL ?sCTCN ?nCTCN ?sCTcM ?nCTcM ?sCMcM ?nCMcM ?sCMCN ?sMA ?sMV
    (case a0 => k_is)
    (case F0 => refine' L2.fun_mk ?l ?c ?k; (case l => k_is); (case c => k_is); (case k => k_is))
    (case a1 => k_is)
    (case F1 => refine' L2.fun_mk ?l ?c ?k; (case l => k_is); (case c => k_is); (case k => k_is))
    (case a2 => k_is)
    (case F2 => refine' L2.fun_mk ?l ?c ?k; (case l => k_is); (case c => k_is); (case k => k_is))
    (case a3 => k_is)
    (case F3 => refine' L2.fun_mk ?l ?c ?k; (case l => k_is); (case c => k_is); (case k => k_is))
    (case a4 => k_is)
    (case F4 => refine' L2.fun_mk ?l ?c ?k; (case l => k_is); (case c => k_is); (case k => k_is))
    (case a5 => k_is)
    (case F5 => refine' L2.fun_mk ?l ?c ?k; (case l => k_is); (case c => k_is); (case k => k_is))
    (case a6 => k_is)
    (case F6 => refine' L2.fun_mk ?l ?c ?k; (case l => k_is); (case c => k_is); (case k => k_is))
    (case a7 => k_is)
    (case F7 => refine' L2.fun_mk ?l ?c ?k; (case l => k_is); (case c => k_is); (case k => k_is))
    (case a8 => k_is)
    (case F8 => refine' L2.fun_mk ?l ?c ?k; (case l => k_is); (case c => k_is); (case k => k_is))
    (case a9 => k_is)
    (case F9 => refine' L2.fun_mk ?l ?c ?k; (case l => k_is); (case c => k_is); (case k => k_is))
    (case a10 => k_is)
    (case F10 => refine' L2.fun_mk ?l ?c ?k; (case l => k_is); (case c => k_is); (case k => k_is))
    (case a11 => k_is)
    (case F11 => refine' L2.fun_mk ?l ?c ?k; (case l => k_is); (case c => k_is); (case k => k_is))
    (case a12 => k_is)
    (case F12 => refine' L2.fun_mk ?l ?c ?k; (case l => k_is); (case c => k_is); (case k => k_is))
    (case a13 => k_is)
    (case F13 => refine' L2.fun_mk ?l ?c ?k; (case l => k_is); (case c => k_is); (case k => k_is))
    (case a14 => k_is)
    (case F14 => refine' L2.fun_mk ?l ?c ?k; (case l => k_is); (case c => k_is); (case k => k_is))
    (case a15 => k_is)
    (case F15 => refine' L2.fun_mk ?l ?c ?k; (case l => k_is); (case c => k_is); (case k => k_is))
    (case a16 => k_is)
    (case F16 => refine' L2.fun_mk ?l ?c ?k; (case l => k_is); (case c => k_is); (case k => k_is))
    (case a17 => k_is)
    (case F17 => refine' L2.fun_mk ?l ?c ?k; (case l => k_is); (case c => k_is); (case k => k_is))
    (case a18 => k_is)
    (case F18 => refine' L2.fun_mk ?l ?c ?k; (case l => k_is); (case c => k_is); (case k => k_is))
    (case a19 => k_is)
    (case F19 => refine' L2.fun_mk ?l ?c ?k; (case l => k_is); (case c => k_is); (case k => k_is))
    (case zlen => k_is)
    (case zabs => k_is)
    (case zmax => k_is)
    (case zmin => k_is)
    (case zint => k_is)
    (case zdivmod => k_is)
    (case zrange => k_is)
    (case zall => k_is)
    (case zisinstance => k_is)
    (case zstr => k_is)
    (case zbool => k_is)
    (case zrepr => k_is)
    (case ztuple => k_is)
    (case zset => k_is)
    (case zsorted => k_is)
    (case zlist => k_is)
    (case zArithmeticError => k_is)
    (case zValueError => k_is)
    (case mM => k_is)
    (case mL => k_is)
    (case cC => k_is)
    (case cmk => k_is)
    (case cin => k_is)
    (case cfn => k_is)
    (case ckp => k_is)
    (case cpg => k_is)
    (case chd => k_is)
    (case cpo => k_is)
    (case csa => k_is)
    (case crd => k_is)
    (case cga => k_is)
    (case cmo => k_is)
    (case cn1 => k_is)
    (case cn2 => k_is)
    (case cic => k_is)
    (case cty => k_is)
    (case FL => refine' L2.fun_mk ?l ?c ?k; (case l => k_is); (case c => k_is); (case k => k_is))
    (case cgE => k_is)
    (case igE => k_is)
    (case FgE => refine' L2.fun_mk ?l ?c ?k; (case l => k_is); (case c => k_is); (case k => k_is))
    (case cgL => k_is)
    (case igL => k_is)
    (case FgL => refine' L2.fun_mk ?l ?c ?k; (case l => k_is); (case c => k_is); (case k => k_is))
    (case cgS => k_is)
    (case igS => k_is)
    (case FgS => refine' L2.fun_mk ?l ?c ?k; (case l => k_is); (case c => k_is); (case k => k_is))
    (case cgR => k_is)
    (case igR => k_is)
    (case FgR => refine' L2.fun_mk ?l ?c ?k; (case l => k_is); (case c => k_is); (case k => k_is))
    (case cgH => k_is)
    (case igH => k_is)
    (case FgH => refine' L2.fun_mk ?l ?c ?k; (case l => k_is); (case c => k_is); (case k => k_is))
    (case cne => k_is)
    (case cob => k_is)
    (case sNoneType => k_is)
    (case uNoneType => k_is)
    (case sbool => k_is)
    (case ubool => k_is)
    (case sint => k_is)
    (case uint => k_is)
    (case sstr => k_is)
    (case ustr => k_is)
    (case slist => k_is)
    (case ulist => k_is)
    (case stuple => k_is)
    (case utuple => k_is)
    (case sdict => k_is)
    (case udict => k_is)
    (case cpM => k_is)
    (case pg => k_is)
    (case pt => k_is)
    (case pr => k_is)
    (case FgM => refine' L2.fun_mk ?l ?c ?k; (case l => k_is); (case c => k_is); (case k => k_is))
    (case cpO => k_is)
    (case orc => k_is)
    (case ofi => k_is)
    (case FgO => refine' L2.fun_mk ?l ?c ?k; (case l => k_is); (case c => k_is); (case k => k_is))
    (case cha => k_is)
    (case hn => k_is)
    (case ht => k_is)
    (case chm => k_is)
    (case naC => k_is)
    (case nlC => k_is)
    (case nbC => decide +kernel)
    (case nsa => k_is)
    (case nxC => k_is)
    (case ntC => k_is)
    (case nkC => k_is)
    (case nhg => k_is)
    (case nhk => k_is)
    (case nhd => k_is)
    (case nha => k_is)
    (case nhm => k_is)
    (case niC => k_is)
    (case nsC => first | k_is | rfl)
    (case ninC => k_is)
    (case ntI => k_is)
    (case nm1 => k_is)
    (case nm2 => k_is)
    (case nFI => refine' L2.fun_mk ?l ?c ?k; (case l => k_is); (case c => k_is); (case k => k_is))
    (case taC => k_is)
    (case tlC => k_is)
    (case tbC => decide +kernel)
    (case tsa => k_is)
    (case txC => k_is)
    (case ttC => k_is)
    (case tkC => k_is)
    (case thg => k_is)
    (case thk => k_is)
    (case thd => k_is)
    (case tha => k_is)
    (case thm => k_is)
    (case tiC => k_is)
    (case tsC => first | k_is | rfl)
    (case tinC => k_is)
    (case ttI => k_is)
    (case tm1 => k_is)
    (case tm2 => k_is)
    (case tFI => refine' L2.fun_mk ?l ?c ?k; (case l => k_is); (case c => k_is); (case k => k_is))
    (case maC => k_is)
    (case mei => kx_is)
    (case meo => kx_is)
    (case msa => k_is)
    (case mxC => k_is)
    (case mtC => k_is)
    (case mkC => k_is)
    (case mhg => k_is)
    (case mhk => k_is)
    (case mhd => k_is)
    (case mha => k_is)
    (case mhm => k_is)
    (case miC => k_is)
    (case msC => first | k_is | rfl)
    (case minC => k_is)
    (case mtI => k_is)
    (case mm1 => k_is)
    (case mm2 => k_is)
    (case mm3 => k_is)
    (case mFI => refine' L2.fun_mk ?l ?c ?k; (case l => k_is); (case c => k_is); (case k => k_is))
    (case gC0 => k_is)
    (case iC0 => k_is)
    (case tC0 => k_is)
    (case gcL => k_is)
    (case icL => k_is)
    (case tcL => k_is)
    (case gcM => k_is)
    (case icM => k_is)
    (case tcM => k_is)
    (case sCNC0 => k_is)
    (case nCNC0 => rfl)
    (case sCTC0 => k_is)
    (case nCTC0 => rfl)
    (case sCNcL => k_is)
    (case nCNcL => rfl)
    (case sCNCT => k_is)
    (case nCNCT => rfl)
    (case sCNcM => k_is)
    (case nCNcM => rfl)
    (case sCTcL => k_is)
    (case nCTcL => rfl)
    (case sCTCN => k_is)
    (case nCTCN => rfl)
    (case sCTcM => k_is)
    (case nCTcM => rfl)
    (case sCMcM => k_is)
    (case nCMcM => rfl)
    (case sCMCN => k_is)
    (case sMA => k_is)
    (case sMV => k_is)
