import PyProof.Rows.All
import Wide.All
import OpenK.AllK
import Wide.FinOn
import HandS.Call
import OpenK.KMore
import HandS.List
import HandS.Set
import HandS.SetFor
import PyProof.NeKinds
import PyProof.EqKinds
import KE.KSortKey
import KE.KSortKeySt
import HandS.SortKw
import KE.KSortTup
import KE.KSortTupAny
import PyProof.EqAt
import HandS.TupLe
import HandS.Keys
import HandS.SlotsOwn
import HandS.Words
import HandS.Lambda
import HandS.ForMost
import HandS.GenList
import HandS.Property
import HandS.Exc
import HandS.TryMany
import PyProof.InstNe
import HandS.IsInst
import HandS.Star
import KE.KCallOwn
import KE.KOpsOwn
import HandS.ClsMeth
import HandS.ExcOwn
import PyProof.Rows.StrMeet
import PyProof.Rows.SortStr
import PyProof.StrLawsChain
import HandS.ForExc
import HandS.StrMore
import HandS.WideBits
import HandS.Zip
import HandS.ExcInit
import HandS.ExcField
import HandS.ExcIs
import HandS.Style
import HandS.Flow
import HandS.WrittenGet
import HandS.Steps
import HandS.Walk
import HandS.Text
import HandS.FStr
import HandS.RaiseMore
import PyProof.ReprRoads
import KE.KxStill
import KE.KStrOpen
import PyProof.Rows.ReprOcc
import HandS.Defaults
import KE.KExcInit
import HandS.TupAny
import HandS.ForList
import PyProof.P3Eq
import HandS.EndTab
import HandS.NestedK
import KE.KNestM
import KE.KExcLine
import PySem.Challenge.RW_aboveless_k13_whole_below_joined_and_met
set_option Elab.async false
set_option linter.all false
set_option maxRecDepth 100000
set_option maxHeartbeats 4000000
/-! o.m(k=e) -/
namespace MkX
open PySem PySem.Spec L2
open PyProof.Rows hiding St
def tMkw (C : Addr) (m : Str) (sp : Sp) (E : XK) (ta te : TE) : TE := fun σ H Q => ta σ H fun x H1 => ∃ a dx fs, x = .ref a ∧ H1 a = some (.ins C dx fs) ∧ fs.lookup m = none ∧ te σ H1 fun z H2 => sp [.ref a, z] H2 Q E
theorem pe_methKw {X : Cx} {CX : CXT} {k : Nat} {C f : Addr} {fd : FuncData} {ps : List Str} {sp : Sp} {E : XK} {m kn : Str} {o e : Expr} {ta te : TE} {apos pos kpos : Pos} {pl : Sem Bool} (he : PE X o ta) (c : Cls X.K C) (hm : Meth X.K C m f)
    (F : FnOk X.prog X.w X.K X.mg X.base CX k f fd ps sp) (hr : Room k X.A) (hb : ∀ (s : Shared) (u v : Value), BindsTo s fd ⟨[u], [(kn, v)]⟩ (ps.zip [u, v])) (hx : Passes CX X E) (hv : PE X e te)
    (ht : eval (.Call (.Attribute o m apos) [] [⟨some kn, e, kpos⟩] pos) X.env = (do
      let ov ← eval o X.env
      standAt apos.atName
      let (f, first) ← holding [ov] (getMethod ov m pl)
      callWith pos f first (backTo pos (starEach [] X.env)) (backToKw pos (keywordEach [⟨some kn, e, kpos⟩] X.env))) := by rfl) :
    PE X (.Call (.Attribute o m apos) [] [⟨some kn, e, kpos⟩] pos) (tMkw C m sp E ta te) := by
  refine ⟨fun pins s σ H Q I h => ?_⟩
  refine PySem.W.methodCall_KW (pl := pl) (thn (he.run pins s σ H _ I h) fun u s1 q => ?_) ht
  obtain ⟨x, H1, I1, rx, a, dx, fs, rfl, ea, l, q⟩ := q
  obtain rfl : u = Value.ref a := rx
  refine getmeth_ok I1 ea c hm l ?_
  have pk : PK X [⟨some kn, e, kpos⟩] (tCons te tNil) := pk_cons hv pk_nil
  refine PySem.W.callWith_KW0 (first := [.ref a]) (h₀ := X.base) I1.ok.mod.kin hm.kp (by rfl) (thn (pk.run pos pins s1 σ H1 (fun zs H2 => ∃ z, zs = [z] ∧ sp [.ref a, z] H2 Q E) I1 ?_) fun ws s2 z => ?_) (by rfl)
  · show te σ H1 fun z H2 => _
    exact (show (fun z H2 => ∃ y, [z] = [y] ∧ sp [.ref a, y] H2 Q E) = fun z H2 => sp [.ref a, z] H2 Q E from funext fun z => funext fun H2 => propext ⟨fun ⟨y, e1, e2⟩ => by cases e1; exact e2, fun e => ⟨z, rfl, e⟩⟩) ▸ q
  · obtain ⟨zs, H2, I2, rz, y, rfl, q2⟩ := z
    cases rz with
    | cons ry rz =>
      cases rz
      refine ⟨I2.kIn, wpAny_call (codeAny_mono (F.run X.A X.stack s2 H2 ⟨[.ref a], [(kn, _)]⟩ [.ref a, _] [.ref a, y] Q E hr I2.env0 (hb s2 _ _) (.cons rfl (.cons ry .nil)) q2) fun r s3 hq => ?_)⟩
      cases r with
      | error er => exact hx pins σ H2 s2 er s3 I2 hq
      | ok fl =>
        cases fl with
        | ret u => exact I2.after hq
        | next => exact False.elim hq
        | brk => exact False.elim hq
        | cont => exact False.elim hq
end MkX
namespace LB
open PySem PySem.Spec PyProof.Rows L2
/-! ### sets of texts: a bag of keys -/
def nm (e : Int × Value) : Str := match e.2 with
  | .str x _ => x
  | _ => Str.empty
def Ent (w : World) (e : Int × Value) : Prop := ∃ x tk, e = (hashStr w x, Value.str x tk)
structure Tab (w : World) (es : Array (Int × Value)) (t : SetTable) : Prop where
  all : ∀ e ∈ es.toList, Ent w e
  few : es.size < scanBound
  fit : t.fits es.size = true
  ris : Ris t.place.toList
  led : w.params.followText "set-order" = true ∨ t.led = true
/-- at a: a set of the texts ks, no two alike -/
def Bag (w : World) (h : Heap) (a : Addr) (ks : List Str) : Prop :=
  ks.Nodup ∧ ∃ o es ep t, h.get? a = some o ∧ o.ExactSet ∧ o.data = .set es ep t ∧ Tab w es t ∧ es.toList.map nm = ks
section
variable {P : Program} {w : World} {A : Around} {E : Value → Shared → Prop} {s : Shared} {a : Addr}
theorem Bag.at {h h' : Heap} {ks : List Str} (B : Bag w h a ks) (k : ∀ o, h.get? a = some o → h'.get? a = some o) : Bag w h' a ks := by
  obtain ⟨nd, o, es, ep, t, e, r⟩ := B
  exact ⟨nd, o, es, ep, t, k o e, r⟩
theorem Bag.len {h : Heap} {ks : List Str} (B : Bag w h a ks) : ks.length < scanBound := by
  obtain ⟨_, o, es, ep, t, _, _, _, T, e⟩ := B
  rw [← e, List.length_map, Array.length_toList]
  exact T.few
theorem Tab.elems {es : Array (Int × Value)} {t : SetTable} (T : Tab w es t) : ElemsOf (PySem.strKind P w) es.toList := fun e he => by
  obtain ⟨x, tk, rfl⟩ := T.all e he
  exact ⟨⟨x, strKind_is P w x tk, rfl⟩, rfl⟩
theorem ent_is {e : Int × Value} {x : Str} (n : Ent w e) : (PySem.strKind P w).is x e.2 = true ↔ nm e = x := by
  obtain ⟨y, tk, rfl⟩ := n
  constructor
  · intro z
    obtain ⟨t2, q⟩ := Value.isStrOf_shape (x := x) (v := .str y tk) z
    cases q
    rfl
  · intro z
    have z' : y = x := z
    subst z'
    exact strKind_is P w y tk
/-- what is stored, and laid anew where the table is too full -/
theorem put_away {say : Bool → Sem Unit} (quiet : ∀ (b : Bool) (s1 : Shared) (R : Unit → Shared → Prop), R () s1 → wpAny (model P w) A (say b) R E s1) {o : Obj} {es es' : Array (Int × Value)} {ep : Nat} {t t' : SetTable} {old : Bool}
    (at_ : s.heap.get? a = some o) (xo : o.ExactSet) (od : o.data = .set es ep t) (T : Tab w es' t') {Q : Option Bool → Shared → Prop}
    (k : ∀ h', Heap.SameBut a s.heap h' → (∃ o2 es2 ep2 t2, h'.get? a = some o2 ∧ o2.ExactSet ∧ o2.data = .set es2 ep2 t2 ∧ Tab w es2 t2 ∧ es2.toList.Perm es'.toList) → Q (some true) { s with heap := h' }) :
    wpAny (model P w) A (do
      storeSet a es' t'
      if (!old && t'.tooFull) = true then do say (relayAll t' es' (SetTable.grown es'.size)).2.2; storeSet a (relayAll t' es' (SetTable.grown es'.size)).1 (relayAll t' es' (SetTable.grown es'.size)).2.1; pure (some true)
      else pure (some true)) Q E s := by
  have first := store_at (es' := es') (t' := t') at_ od
  have same1 := Heap.SameBut.update s.heap a (Obj.putSet es' t')
  apply wpAny_bind
  apply wpAny_storeSet_of at_ od (hz := fits_of_scanBound T.few)
  by_cases full : (!old && t'.tooFull) = true
  · simp only [full, if_true]
    have pe := relayAll_perm t' es' (SetTable.grown es'.size)
    have fe := relayAll_fits t' es' (SetTable.grown es'.size)
    have re := relayAll_ris t' es' (SetTable.grown es'.size)
    have le := relayAll_led t' es' (SetTable.grown es'.size)
    revert pe fe re le
    generalize relayAll t' es' (SetTable.grown es'.size) = laid
    rcases laid with ⟨es2, t2, gave⟩
    intro pe fe re le
    have sz : es2.size = es'.size := by simpa using pe.length_eq
    have T2 : Tab w es2 t2 := ⟨fun e he => T.all e (pe.mem_iff.mp he), sz ▸ T.few, fe, re, T.led.imp (fun z => z) fun z => le.trans z⟩
    apply wpAny_bind
    apply quiet
    apply wpAny_bind
    apply wpAny_storeSet_of first rfl (hz := fits_of_scanBound T2.few)
    have second := store_at (es' := es2) (t' := t2) first rfl
    exact wpAny_pure (k _ (same1.trans (Heap.SameBut.update _ a _)) ⟨_, es2, _, t2, second, xo, rfl, T2, pe⟩)
  · simp only [full]
    exact wpAny_pure (k _ same1 ⟨_, es', _, t', first, xo, rfl, T, List.Perm.refl _⟩)
theorem bag_add {ks : List Str} {x : Str} {tk : Tok} {Q : Bool → Shared → Prop} (B : Bag w s.heap a ks) (room : ks.length + 1 < scanBound)
    (k : ∀ b h' ks', Heap.SameBut a s.heap h' → Bag w h' a ks' → (∀ y, y ∈ ks' ↔ y = x ∨ y ∈ ks) → ks'.length ≤ ks.length + 1 → Q b { s with heap := h' }) :
    wpAny (model P w) A (setAddHashed a (.str x tk) (hashStr w x)) Q E s := by
  obtain ⟨nd, o, es, ep, t, at_, xo, od, T, names⟩ := B
  have el : ElemsOf (PySem.strKind P w) es.toList := T.elems
  have scans : (Value.str x tk).scannable = true := rfl
  have isx : (PySem.strKind P w).is x (.str x tk) = true := strKind_is P w x tk
  have hh : hashStr w x = (PySem.strKind P w).hash x := rfl
  rw [hh]
  unfold setAddHashed setAddHashedIn
  apply wpAny_holding
  apply wpAny_bind
  apply wpAny_setState_of at_ od T.fit
  simp only [byScan_of scans T.few el, if_true]
  unfold setAddByScan
  apply wpAny_bind
  apply wpAny_bind
  apply wpAny_rule
  apply wpAny_bind
  apply wpAny_setScan_of isx at_ od T.fit el
  cases seek : es.toList.findIdx? (fun e => (PySem.strKind P w).is x e.2) with
  | some j =>
    obtain ⟨lt, hit, _⟩ := List.findIdx?_eq_some_iff_getElem.mp seek
    have inside : x ∈ ks := by
      rw [← names]
      exact List.mem_map.mpr ⟨_, List.getElem_mem lt, (ent_is (P := P) (T.all _ (List.getElem_mem lt))).mp hit⟩
    exact wpAny_pure (wpAny_pure (k _ s.heap ks (Heap.SameBut.refl a s.heap) ⟨nd, o, es, ep, t, at_, xo, od, T, names⟩ (fun y => ⟨.inr, fun z => z.elim (fun e => e ▸ inside) id⟩) (Nat.le_succ _)))
  | none =>
    have out : x ∉ ks := fun z => by
      rw [← names] at z
      obtain ⟨e, he, q⟩ := List.mem_map.mp z
      have no := List.findIdx?_eq_none_iff.mp seek e he
      rw [(ent_is (P := P) (T.all e he)).mpr q] at no
      cases no
    have pe := layNew_perm t es ((PySem.strKind P w).hash x) (.str x tk)
    have fe := layNew_fits t es ((PySem.strKind P w).hash x) (.str x tk)
    have re := layNew_ris t es ((PySem.strKind P w).hash x) (.str x tk) T.ris
    have le := layNew_led t es ((PySem.strKind P w).hash x) (.str x tk)
    revert pe fe re le
    dsimp only
    generalize layNew t es ((PySem.strKind P w).hash x) (.str x tk) = laid
    rcases laid with ⟨es1, t1, old, gave⟩
    intro pe fe re le
    dsimp only at pe fe re le ⊢
    have pc : es1.toList.Perm ((hashStr w x, Value.str x tk) :: es.toList) := by
      rw [Array.toList_push] at pe
      exact pe.trans (List.perm_append_singleton _ _)
    have pn : (es1.toList.map nm).Perm (x :: ks) := by
      have q := pc.map nm
      rw [List.map_cons, names] at q
      exact q
    have sz : es1.size = ks.length + 1 := by
      have q := pn.length_eq
      simpa using q
    have T1 : Tab w es1 t1 := ⟨fun e he => by
      rcases List.mem_cons.mp (pc.mem_iff.mp he) with z | z
      · exact ⟨x, tk, z⟩
      · exact T.all e z, by rw [sz]; exact room, fe, re, T.led.imp (fun z => z) fun z => le.trans z⟩
    have fin : ∀ h', Heap.SameBut a s.heap h' → (∃ o2 es2 ep2 t2, h'.get? a = some o2 ∧ o2.ExactSet ∧ o2.data = .set es2 ep2 t2 ∧ Tab w es2 t2 ∧ es2.toList.Perm es1.toList) → Q true { s with heap := h' } := fun h' sb ⟨o2, es2, ep2, t2, g2, x2, d2, T2, p2⟩ => by
      have p3 : (es2.toList.map nm).Perm (x :: ks) := (p2.map nm).trans pn
      exact k true h' _ sb ⟨p3.nodup_iff.mpr (List.nodup_cons.mpr ⟨out, nd⟩), o2, es2, ep2, t2, g2, x2, d2, T2, rfl⟩ (fun y => by rw [p3.mem_iff, List.mem_cons]) (by rw [p3.length_eq, List.length_cons] <;> exact Nat.le_refl _)
    apply wpAny_bind
    have hush : ∀ (b : Bool) (s1 : Shared) (R : Unit → Shared → Prop), R () s1 → wpAny (model P w) A (match b with | true => rule "set.scan.the-table-gave-way" | false => pure ()) R E s1 := fun b s1 R q => by
      cases b
      · exact wpAny_pure q
      · exact wpAny_rule q
    apply hush
    by_cases pl : t1.plain = true
    · simp only [pl, if_true]
      rw [hashByValue_scannable 8 scans]
      apply wpAny_bind
      apply wpAny_pure
      have T1' : ∀ b : Bool, Tab w es1 (if b = true then t1 else { t1 with plain := false }) := fun b => by
        cases b
        · exact ⟨T1.all, T1.few, SetTable.fits_plain_off fe, re, T1.led⟩
        · exact T1
      refine put_away (say := fun b => match b with | true => rule "set.scan.the-table-gave-way" | false => pure ()) hush at_ xo od (T1' _) fun h' sb z => wpAny_pure (fin h' sb z)
    · simp only [pl]
      apply wpAny_bind
      apply wpAny_pure
      refine put_away (say := fun b => match b with | true => rule "set.scan.the-table-gave-way" | false => pure ()) hush at_ xo od T1 fun h' sb z => wpAny_pure (fin h' sb z)
/-- a walk over texts fills the bag at b -/
theorem bag_fill {I b : Addr} {fp wr : List Addr} {G : Array GenState → Array GenState → Prop} {n : Nat} {Pv : Nat → Value → Prop} {St : Nat → Shared → Prop} {R : Result → Shared → Prop} (W : WalksS P w A.in1 I fp wr G n Pv St) (away : b ∉ fp) (xs : List Str) (len : n = xs.length)
    (room : xs.length + 1 < scanBound) (val : ∀ i v, Pv i v → ∃ x t, xs[i]? = some x ∧ v = .str x t) : ∀ (left i : Nat) (s : Shared) (ks : List Str), n - i = left → i ≤ n → St i s → Bag w s.heap b ks → (∀ y, y ∈ ks ↔ y ∈ xs.take i) → ks.length ≤ i →
      (∀ s' ks', Moved (b :: wr) G s s' → Bag w s'.heap b ks' → (∀ y, y ∈ ks' ↔ y ∈ xs) → ks'.length ≤ xs.length → R (.ok (.ret .none)) s') → codeAny (model P w) A (.builtin "set.update.loop" ⟨[.ref b, .ref I], []⟩) R s := by
  have bw : b ∉ wr := fun z => away (W.sub _ z)
  have more : ∀ c ∈ wr, c ∈ b :: wr := fun _ z => List.mem_cons_of_mem _ z
  intro left
  induction left with
  | zero =>
    intro i s ks e1 e2 st B mem le k
    obtain rfl : i = n := by omega
    apply codeAny_builtin F.entry_set_update_loop
    rw [Around.under_plainId F.plain_set_update_loop _]
    show wpAny _ A.in1 (pyNext (.ref I) >>= _) _ _ s
    apply wpAny_bind
    refine W.done s _ _ st fun s' mv => ?_
    show wpAny _ A.in1 (ret Value.none) _ _ s'
    rw [len, List.take_length] at mem
    exact wpAny_pure (k s' ks (mv.mono more) (B.at fun o z => mv.heap b o bw z) mem (len ▸ le))
  | succ left ih =>
    intro i s ks e1 e2 st B mem le k
    have lt : i < n := by omega
    apply codeAny_builtin F.entry_set_update_loop
    rw [Around.under_plainId F.plain_set_update_loop _]
    show wpAny _ A.in1 (pyNext (.ref I) >>= _) _ _ s
    apply wpAny_bind
    refine W.item i s _ _ lt st fun v s1 pv st1 mv => ?_
    obtain ⟨x, t, at_, rfl⟩ := val i v pv
    show wpAny _ A.in1 (holding [Value.str x t] (setAdd b (.str x t)) >>= _) _ _ s1
    apply wpAny_bind
    apply wpAny_holding
    unfold setAdd
    apply wpAny_holding
    apply wpAny_bind
    refine (PySem.strKind P w).pyHash (k := x) (strKind_is P w x t) ?_
    refine bag_add (s := { s1 with toks := s1.toks + 1 }) (B.at fun o z => mv.heap b o bw z) (by omega) fun added h' ks' sb B' mem' le' => ?_
    have off : ∀ c, c ∉ b :: wr → c ≠ b := fun c z q => z (by rw [q]; exact List.mem_cons_self)
    refine wpAny_pure ⟨plainId_quiet F.plain_set_update_loop _, ih (i + 1) _ ks' (by omega) lt (W.frame _ s1 _ _ st1 (Nat.le_succ _) fun c hc o z => ?_) B' (fun y => ?_) (by omega) fun s2 ks2 mv2 B2 mem2 le2 => ?_⟩
    · rw [sb.2 c (fun q => away (q ▸ hc))]
      exact z
    · rw [mem' y, mem y, List.take_add_one, at_, Option.toList_some, List.mem_append, List.mem_singleton]
      exact Or.comm
    · refine k s2 ks2 (Moved.trans W.gtrans ((mv.mono more).then_heap (Nat.le_succ _) fun c o hc z => ?_) mv2) B2 mem2 le2
      rw [sb.2 c (off c hc)]
      exact z
theorem txt_at {us : List Value} {xs : List Str} (h : StrsAre us xs) : ∀ (i : Nat) (v : Value), us[i]? = some v → ∃ x t, xs[i]? = some x ∧ v = .str x t := by
  induction h with
  | nil => intro i v z; cases z
  | cons x t _ ih =>
    intro i v z
    cases i with
    | zero => cases z; exact ⟨x, t, rfl, rfl⟩
    | succ i => exact ih i v z
abbrev freshSet (w : World) : Obj := { cls := .type "set", dict := none, data := .set #[] 0 (.fresh 0 0 (!w.params.followText "set-order")) }
theorem bag_nil {h : Heap} {b : Addr} (e : h.get? b = some (freshSet w)) : Bag w h b [] := by
  refine ⟨List.nodup_nil, _, #[], 0, _, e, ⟨rfl, rfl, rfl⟩, rfl, ⟨fun _ z => (by simp at z), by decide, rfl, List.Pairwise.nil, ?_⟩, rfl⟩
  show w.params.followText "set-order" = true ∨ (!w.params.followText "set-order") = true
  cases w.params.followText "set-order"
  · exact .inr rfl
  · exact .inl rfl
theorem set_of_tuple {l : Addr} {items : Array Value} (xs : List Str) {Q : Value → Shared → Prop} (calm : A.handled = none) (src : s.heap.IsTuple l items) (are : StrsAre items.toList xs) (room : xs.length + 1 < scanBound)
    (k : ∀ (h' : Heap) (tk : Nat) (ks : List Str), Bag w h' s.heap.objs.size ks → (∀ y, y ∈ ks ↔ y ∈ xs) → ks.length ≤ xs.length → (∀ b o, s.heap.get? b = some o → h'.get? b = some o) → Q (.ref s.heap.objs.size) { s with heap := h', toks := tk }) :
    wpAny (model P w) A (call (.type "set") [.ref l]) Q E s := by
  have size_ : items.size = xs.length := by
    have q := are.length
    simpa using q
  obtain ⟨c, tl, hmro⟩ := F.called_set.mro
  have hmade := F.called_set.made
  have hsub := F.called_set.sub
  apply wpAny_call
  apply codeAny_of_tree
  show wpAny _ _ (callAny (.type "set") _) _ _ _
  refine wpAny_pure ⟨Code.quiet_builtin _ (by decide +kernel), codeAny_builtin F.entry_type_call ?_⟩
  rw [Around.under_plain (weight_type_call_type "set" [.ref l] []) rfl]
  have notType := F.called_set.notType
  have creates := F.called_set.canCreate
  have calls1 := F.typeCall_set_1 (.ref l)
  repeat (any_goals (first | assumption | wp_step))
  refine codeAny_mono (code_set_led1 (.ref l) (E := E) (Q₁ := fun ob s1 => ob = .ref s.heap.objs.size ∧ s1 = { s with heap := s.heap.push (freshSet w) }) ⟨rfl, rfl⟩) fun r s1 hr => ?_
  cases r with
  | error e => exact hr
  | ok fl =>
    cases fl with
    | next => exact hr.elim
    | brk => exact hr.elim
    | cont => exact hr.elim
    | ret ob =>
      obtain ⟨rfl, rfl⟩ := hr
      have made : (s.heap.push (freshSet w)).get? s.heap.objs.size = some (freshSet w) := Heap.get?_push_size _ rfl
      have madeT : Shared.TypeIs { s with heap := s.heap.push (freshSet w) } (.ref s.heap.objs.size) "set" := ⟨_, made, rfl⟩
      have initLook := F.called_set.init.lookup
      have initBind := F.called_set.init.bind (.ref s.heap.objs.size)
      repeat (any_goals (first | assumption | wp_step))
      refine codeAny_mono (codeAny_call_builtin (R := wants (fun r s2 => r = .none ∧ ∃ h' tk ks, s2 = { s with heap := h', toks := tk } ∧ Bag w h' s.heap.objs.size ks ∧ (∀ y, y ∈ ks ↔ y ∈ xs) ∧ ks.length ≤ xs.length ∧ ∀ b o, s.heap.get? b = some o → h'.get? b = some o) E)
        F.called_set.init.plain F.entry_set_init (check_set_init_1 madeT ?_)) fun r2 s2 hr2 => ?_
      · obtain ⟨⟨ocls, odict, odata, oslots⟩, hol, hcl, nl, hdl⟩ := src
        simp only at hcl hdl
        subst hcl
        subst hdl
        have srcAt := Heap.get?_push_of_some (freshSet w) hol
        have src1 : (s.heap.push (freshSet w)).IsTuple l items := ⟨_, srcAt, rfl, nl, rfl⟩
        have hsls := F.sub_tuple_set
        have hslf := F.sub_tuple_frozenset
        have noDict : (Value.type "tuple" == Value.type "dict") = false := by decide
        unfold Builtin.«set.__init__» noKeywords Builtin.Frozenset.updateFrom
        generalize hPI : pyIter = PI
        wp_walk
        subst hPI
        apply wpAny_pyIter_tuple src1
        apply wpAny_bind
        apply wpAny_runValue
        have low : l < s.heap.objs.size := Heap.lt_size hol
        have grown : (s.heap.push (freshSet w)).objs.size = s.heap.objs.size + 1 := Heap.size_push _ _
        have calm3 : A.in1.in1.in1.handled = none := by simp [calm]
        have apart : l ≠ (s.heap.push (freshSet w)).objs.size := by rw [grown]; exact Nat.ne_of_lt (Nat.lt_succ_of_lt low)
        have away : s.heap.objs.size ∉ [(s.heap.push (freshSet w)).objs.size, l] := fun z => by
          rcases List.mem_cons.mp z with z | z
          · rw [grown] at z
            exact absurd z (Nat.ne_of_lt (Nat.lt_succ_self _))
          · exact absurd (List.mem_singleton.mp z).symm (Nat.ne_of_lt low)
        refine bag_fill ((Walks.tuple calm3 _ l apart items).toS) away xs size_ room (fun i v z => txt_at are i v (by rw [Array.getElem?_toList]; exact z)) (items.size - 0) 0 _ [] rfl (Nat.zero_le _)
          ⟨⟨_, Heap.get?_push_size _ rfl, rfl, rfl⟩, src1.push _⟩ (bag_nil (Heap.get?_push_of_some _ made)) (fun y => by simp) (Nat.le_refl 0) fun s3 ks mv B mem le => ?_
        rcases s3 with ⟨h3, g3, d3, tk3, os3⟩
        cases (show g3 = s.gens from mv.gens)
        cases (show d3 = s.drawn from mv.drawn)
        cases (show os3 = s.os from mv.os)
        apply wpAny_pure
        show wpAny _ _ (ret Value.none) _ _ _
        refine wpAny_pure ⟨rfl, h3, tk3, ks, rfl, B, mem, le, fun b o e => mv.heap b o (fun z => ?_) (Heap.get?_push_of_some _ (Heap.get?_push_of_some _ e))⟩
        have lb := Heap.lt_size e
        rcases List.mem_cons.mp z with z | z
        · exact absurd z (Nat.ne_of_lt lb)
        · rw [grown] at z
          exact absurd (List.mem_singleton.mp z) (Nat.ne_of_lt (Nat.lt_succ_of_lt lb))
      · cases r2 with
        | error e => exact hr2
        | ok fl2 =>
          cases fl2 with
          | next => exact hr2.elim
          | brk => exact hr2.elim
          | cont => exact hr2.elim
          | ret r =>
            obtain ⟨rfl, h', tk, ks, rfl, B, mem, le, kp⟩ := hr2
            repeat (any_goals (first | assumption | wp_step))
            exact k _ _ _ B mem le kp
theorem set_of_list {l : Addr} {items : Array Value} (xs : List Str) {Q : Value → Shared → Prop} (calm : A.handled = none) (src : s.heap.IsList l items) (are : StrsAre items.toList xs) (room : xs.length + 1 < scanBound)
    (k : ∀ (h' : Heap) (tk : Nat) (ks : List Str), Bag w h' s.heap.objs.size ks → (∀ y, y ∈ ks ↔ y ∈ xs) → ks.length ≤ xs.length → (∀ b o, s.heap.get? b = some o → h'.get? b = some o) → Q (.ref s.heap.objs.size) { s with heap := h', toks := tk }) :
    wpAny (model P w) A (call (.type "set") [.ref l]) Q E s := by
  have size_ : items.size = xs.length := by
    have q := are.length
    simpa using q
  obtain ⟨c, tl, hmro⟩ := F.called_set.mro
  have hmade := F.called_set.made
  have hsub := F.called_set.sub
  apply wpAny_call
  apply codeAny_of_tree
  show wpAny _ _ (callAny (.type "set") _) _ _ _
  refine wpAny_pure ⟨Code.quiet_builtin _ (by decide +kernel), codeAny_builtin F.entry_type_call ?_⟩
  rw [Around.under_plain (weight_type_call_type "set" [.ref l] []) rfl]
  have notType := F.called_set.notType
  have creates := F.called_set.canCreate
  have calls1 := F.typeCall_set_1 (.ref l)
  repeat (any_goals (first | assumption | wp_step))
  refine codeAny_mono (code_set_led1 (.ref l) (E := E) (Q₁ := fun ob s1 => ob = .ref s.heap.objs.size ∧ s1 = { s with heap := s.heap.push (freshSet w) }) ⟨rfl, rfl⟩) fun r s1 hr => ?_
  cases r with
  | error e => exact hr
  | ok fl =>
    cases fl with
    | next => exact hr.elim
    | brk => exact hr.elim
    | cont => exact hr.elim
    | ret ob =>
      obtain ⟨rfl, rfl⟩ := hr
      have made : (s.heap.push (freshSet w)).get? s.heap.objs.size = some (freshSet w) := Heap.get?_push_size _ rfl
      have madeT : Shared.TypeIs { s with heap := s.heap.push (freshSet w) } (.ref s.heap.objs.size) "set" := ⟨_, made, rfl⟩
      have initLook := F.called_set.init.lookup
      have initBind := F.called_set.init.bind (.ref s.heap.objs.size)
      repeat (any_goals (first | assumption | wp_step))
      refine codeAny_mono (codeAny_call_builtin (R := wants (fun r s2 => r = .none ∧ ∃ h' tk ks, s2 = { s with heap := h', toks := tk } ∧ Bag w h' s.heap.objs.size ks ∧ (∀ y, y ∈ ks ↔ y ∈ xs) ∧ ks.length ≤ xs.length ∧ ∀ b o, s.heap.get? b = some o → h'.get? b = some o) E)
        F.called_set.init.plain F.entry_set_init (check_set_init_1 madeT ?_)) fun r2 s2 hr2 => ?_
      · obtain ⟨⟨ocls, odict, odata, oslots⟩, hol, hcl, nl, hdl⟩ := src
        simp only at hcl hdl
        subst hcl
        subst hdl
        have srcAt := Heap.get?_push_of_some (freshSet w) hol
        have src1 : (s.heap.push (freshSet w)).IsList l items := ⟨_, srcAt, rfl, nl, rfl⟩
        have hsls := F.sub_list_set
        have hslf := F.sub_list_frozenset
        have noDict : (Value.type "list" == Value.type "dict") = false := by decide
        unfold Builtin.«set.__init__» noKeywords Builtin.Frozenset.updateFrom
        generalize hPI : pyIter = PI
        wp_walk
        subst hPI
        apply wpAny_pyIter_list src1
        apply wpAny_bind
        apply wpAny_runValue
        have low : l < s.heap.objs.size := Heap.lt_size hol
        have grown : (s.heap.push (freshSet w)).objs.size = s.heap.objs.size + 1 := Heap.size_push _ _
        have calm3 : A.in1.in1.in1.handled = none := by simp [calm]
        have apart : l ≠ (s.heap.push (freshSet w)).objs.size := by rw [grown]; exact Nat.ne_of_lt (Nat.lt_succ_of_lt low)
        have away : s.heap.objs.size ∉ [(s.heap.push (freshSet w)).objs.size, l] := fun z => by
          rcases List.mem_cons.mp z with z | z
          · rw [grown] at z
            exact absurd z (Nat.ne_of_lt (Nat.lt_succ_self _))
          · exact absurd (List.mem_singleton.mp z).symm (Nat.ne_of_lt low)
        refine bag_fill ((Walks.list calm3 _ l apart items).toS) away xs size_ room (fun i v z => txt_at are i v (by rw [Array.getElem?_toList]; exact z)) (items.size - 0) 0 _ [] rfl (Nat.zero_le _)
          ⟨⟨_, Heap.get?_push_size _ rfl, rfl, rfl⟩, src1.push _⟩ (bag_nil (Heap.get?_push_of_some _ made)) (fun y => by simp) (Nat.le_refl 0) fun s3 ks mv B mem le => ?_
        rcases s3 with ⟨h3, g3, d3, tk3, os3⟩
        cases (show g3 = s.gens from mv.gens)
        cases (show d3 = s.drawn from mv.drawn)
        cases (show os3 = s.os from mv.os)
        apply wpAny_pure
        show wpAny _ _ (ret Value.none) _ _ _
        refine wpAny_pure ⟨rfl, h3, tk3, ks, rfl, B, mem, le, fun b o e => mv.heap b o (fun z => ?_) (Heap.get?_push_of_some _ (Heap.get?_push_of_some _ e))⟩
        have lb := Heap.lt_size e
        rcases List.mem_cons.mp z with z | z
        · exact absurd z (Nat.ne_of_lt lb)
        · rw [grown] at z
          exact absurd (List.mem_singleton.mp z) (Nat.ne_of_lt (Nat.lt_succ_of_lt lb))
      · cases r2 with
        | error e => exact hr2
        | ok fl2 =>
          cases fl2 with
          | next => exact hr2.elim
          | brk => exact hr2.elim
          | cont => exact hr2.elim
          | ret r =>
            obtain ⟨rfl, h', tk, ks, rfl, B, mem, le, kp⟩ := hr2
            repeat (any_goals (first | assumption | wp_step))
            exact k _ _ _ B mem le kp
end
end LB
namespace LB
open PySem PySem.Spec PyProof.Rows L2
section
variable {P : Program} {w : World} {A : Around} {E : Value → Shared → Prop} {s : Shared} {a : Addr}
/-- sorted(a bag), few members -/
theorem sorted_bag {b : Addr} {ks : List Str} {Q : Value → Shared → Prop} (B : Bag w s.heap b ks) (calm : A.handled = none) (few : ks.length < 64)
    (k : ∀ s' p (out : Array Value) (c : Nat) (ys : List Str), (∀ d o, s.heap.get? d = some o → s'.heap.get? d = some o) → s'.gens = s.gens → s'.os = s.os → s.heap.objs.size ≤ p → s'.heap.get? p = some (seqObj "list" out c) → StrsAre out.toList ys → ys.Perm ks → sortedS ys = true → Q (.ref p) s') :
    wpAny (model P w) A (call (.builtin "sorted") [.ref b]) Q E s := by
  obtain ⟨nd, o, es, ep, t, at_, xo, od, T, names⟩ := B
  apply Calls.call_function_entry kind_sorted plain_sorted entry_sorted (args_sorted1 _)
  unfold Builtin.«sorted»
  apply wpAny_bind (m := checkCount "sorted" 1 1 _)
  apply wpAny_pure
  apply wpAny_bind
  refine collect_set (A := A.in1) calm ⟨o, at_, xo.1, od⟩ T.fit T.few T.ris T.led fun s1 vs kp sz g1 o1 pm => ?_
  have tx : ∀ us : List Value, (∀ v ∈ us, ∃ x tk, v = Value.str x tk) → StrsAre us (us.map fun v => nm (0, v)) := fun us => by
    induction us with
    | nil => exact fun _ => .nil
    | cons v us ih =>
      intro z
      obtain ⟨x, tk, rfl⟩ := z v List.mem_cons_self
      exact .cons x tk (ih fun u hu => z u (List.mem_cons_of_mem _ hu))
  have are : StrsAre vs (vs.map fun v => nm (0, v)) := tx vs fun v hv => by
    obtain ⟨e, he, rfl⟩ := List.mem_map.mp (pm.mem_iff.mp hv)
    obtain ⟨x, tk, rfl⟩ := T.all e he
    exact ⟨x, tk, rfl⟩
  have pk : (vs.map fun v => nm (0, v)).Perm ks := by
    have q := pm.map fun v => nm (0, v)
    rw [List.map_map] at q
    exact q.trans (List.Perm.of_eq names)
  have vl : vs.length < 64 := by
    have q := pk.length_eq
    rw [List.length_map] at q
    omega
  apply wpAny_bind
  refine wpAny_newList ?_ (by rw [sizeLine_eq]; omega)
  have laid : (s1.heap.push (seqObj "list" vs.toArray 0)).get? s1.heap.objs.size = some (seqObj "list" vs.toArray 0) := Heap.get?_push_size _ rfl
  apply wpAny_bind
  apply wpAny_holding
  refine wpAny_call_entry slot_list_sort ⟨_, laid, rfl⟩ entry_list_sort ?_ (args_list_sort _)
  refine list_sort_treeK PyProof.Rows.strKind_oneLt laid are.keysOf (fun v1 v2 rest e => keyKind_strs (by rw [← e]; exact are)) vl fun st pt sd => ⟨_, rfl, ?_⟩
  obtain ⟨ys, y1, y2, y3⟩ := sorted_out_str are pt sd
  obtain ⟨c, hc⟩ := sortedHeap_at (vs := vs) (out := (arrOf st).map (·.2)) laid
  refine wpAny_pure ⟨_, rfl, k _ s1.heap.objs.size _ c ys (fun d u e => ?_) g1 o1 sz hc y1 (y2.trans pk) y3⟩
  have was := kp d u e
  have low := Heap.lt_size was
  show (sortedHeap (s1.heap.push (seqObj "list" vs.toArray 0)) s1.heap.objs.size vs _).get? d = some u
  rw [sortedHeap_old (Nat.ne_of_lt low) (by rw [size_push']; exact Nat.lt_succ_of_lt low)]
  exact Heap.get?_push_of_some _ was
end
/-! ### as rules -/
def BagO (w : World) (a : Addr) (ks : List Str) : HO := .ext fun h => Bag w h a ks
section
variable {X : Cx}
theorem bagO_ok {P : Program} {w : World} {H : Hp} {h : Heap} {a : Addr} {ks : List Str} (B : Bag w h a ks) : ObjOk P w H h a (BagO w a ks) := by
  have ⟨_, o, _, _, _, e, _⟩ := B
  exact ⟨B, ⟨o, e⟩, fun _ _ p k => Bag.at p k⟩
/-- set(xs): a tuple or a list of texts -/
def rBag (K : PySem.W.Frag) (w : World) : List V → Hp → VK → Prop := fun vs H Q => ∃ (l : Addr) (xs : List Str), vs = [V.ref l] ∧ (SqT K H l (xs.map V.str) ∨ SqL K H l (xs.map V.str)) ∧ xs.length < 63 ∧
  ∀ (p : Addr) (ks : List Str), H p = none → (∀ y, y ∈ ks ↔ y ∈ xs) → ks.Nodup → ks.length ≤ xs.length → Q (.ref p) (upd H p (BagO w p ks))
theorem cr_bag (hc : X.calm = true) : CallR X (.type "set") (rBag X.K X.w) := by
  intro pins s σ H vs us Q I r h
  obtain ⟨l, xs, rfl, src, few, k⟩ := h
  rw [Vals.ref1 r]
  have room : xs.length + 1 < scanBound := by
    have : scanBound = 4096 := rfl
    omega
  have free : H s.heap.objs.size = none := I.hok.fresh (Nat.le_refl _)
  have fin : ∀ (h' : Heap) (tk : Nat) (ks : List Str), Bag X.w h' s.heap.objs.size ks → (∀ y, y ∈ ks ↔ y ∈ xs) → ks.length ≤ xs.length → (∀ b o, s.heap.get? b = some o → h'.get? b = some o) → EP X pins σ Q (.ref s.heap.objs.size) { s with heap := h', toks := tk } :=
    fun h' tk ks B mem le kp => ⟨.ref _, _, I.laid (t' := tk) kp (Nat.le_refl _) (bagO_ok B), rfl, k _ ks free mem B.1 le⟩
  rcases src with src | src
  · obtain ⟨its, rv, pl, _⟩ := I.tuple src
    exact set_of_tuple xs (I.ok.hd hc) pl (by simpa using rv.strs) room fin
  · obtain ⟨its, rv, pl, _⟩ := I.list src
    exact set_of_list xs (I.ok.hd hc) pl.isList (by simpa using rv.strs) room fin
def rSortBag (w : World) : List V → Hp → VK → Prop := fun vs H Q => ∃ (a : Addr) (ks : List Str), vs = [V.ref a] ∧ H a = some (BagO w a ks) ∧ ks.length < 64 ∧
  ∀ (ys : List Str) (p : Addr), ys.Perm ks → sortedS ys = true → H p = none → Q (.ref p) (upd H p (.lst (ys.map V.str)))
theorem cr_sortBag (hc : X.calm = true) : CallR X (.builtin "sorted") (rSortBag X.w) := by
  intro pins s σ H vs us Q I r h
  obtain ⟨a, ks, rfl, at_, few, k⟩ := h
  have B : Bag X.w s.heap a ks := (I.hok a _ at_).1
  rw [Vals.ref1 r]
  refine sorted_bag B (I.ok.hd hc) few fun s' p out c ys kp g o le hp are pm srt => ?_
  have free : H p = none := I.hok.fresh le
  have lim : (ys.map V.str).length ≤ sizeLine := by rw [List.length_map, pm.length_eq]; exact small64 few
  have J : Inv X pins σ (upd H p (.lst (ys.map V.str))) { s with heap := s'.heap, gens := s'.gens, drawn := s'.drawn, toks := s'.toks } :=
    I.call (ch := []) (Un.laid kp le free) (I.hok.laid kp le ⟨lim, out.toList, c, vals_of_strs are, hp⟩) (by rw [g]; exact I.bare) (fun _ z => nomatch z)
  rcases s' with ⟨h2, g2, d2, t2, o2⟩
  cases (show o2 = s.os from o)
  exact ⟨.ref p, _, J, rfl, k ys p pm srt free⟩
end
end LB
/-! lists of the same texts: == and != -/
namespace StL
open PySem PySem.Spec PySem.SeqAt PyProof.Rows L2
theorem same_txt {A : Around} {s : Shared} {xs : List Str} : ∀ {us ws : List Value}, Vals (xs.map V.str) us → Vals (xs.map V.str) ws → ∀ (j : Nat) (h1 : j < us.length) (h2 : j < ws.length), EqAt A s us[j] ws[j] true := by
  induction xs with
  | nil =>
    intro us ws a b j h1 h2
    cases a
    exact absurd h1 (Nat.not_lt_zero _)
  | cons x xs ih =>
    intro us ws a b j h1 h2
    cases a with
    | cons ra a =>
      cases b with
      | cons rb b =>
        cases j with
        | zero =>
          obtain ⟨t, e⟩ := ra
          obtain ⟨t', e'⟩ := rb
          subst e e'
          have z := EqAt.str_str (A := A) (s := s) x t x t'
          rw [beq_self_eq_true] at z
          exact z
        | succ j => exact ih a b j (Nat.lt_of_succ_lt_succ h1) (Nat.lt_of_succ_lt_succ h2)
def rSame (K : PySem.W.Frag) (c : Bool) : R2 := fun x y H Q => ∃ (a b : Addr) (xs : List Str), x = .ref a ∧ y = .ref b ∧ SqL K H a (xs.map V.str) ∧ SqL K H b (xs.map V.str) ∧ Q (.bl c) H
section
variable {X : Cx}
theorem op_ne (hu0 : X.A.units + 64 < cLine) : OpR X (compareOp .NotEq) (rSame X.K false) := by
  rintro pins s σ H _ _ v u Q I rx ry ⟨a, b, xs, rfl, rfl, h1, h2, q⟩
  cases rx
  cases ry
  obtain ⟨i1, r1, t1, z1⟩ := I.list h1
  obtain ⟨i2, r2, t2, z2⟩ := I.list h2
  have hu : X.A.units < cLine := by omega
  have e1 := r1.length
  have e2 := r2.length
  have z := RcNeAt.lists (e := fun _ => true) t1.isList t2.isList (by rw [List.size_toArray, List.size_toArray]; omega) hu (fun j h1 h2 => same_txt r1 r2 j h1 h2)
  refine z X.prog X.w X.xe _ ?_
  have z : ((List.range i1.toArray.size).all fun _ => true) = true := List.all_eq_true.mpr fun _ _ => rfl
  rw [z]
  exact ⟨.bl false, H, I, rfl, q⟩
theorem op_eq (hu0 : X.A.units + 64 < cLine) : OpR X (compareOp .Eq) (rSame X.K true) := by
  rintro pins s σ H _ _ v u Q I rx ry ⟨a, b, xs, rfl, rfl, h1, h2, q⟩
  cases rx
  cases ry
  obtain ⟨i1, r1, t1, z1⟩ := I.list h1
  obtain ⟨i2, r2, t2, z2⟩ := I.list h2
  have hu : X.A.units < cLine := by omega
  have e1 := r1.length
  have e2 := r2.length
  have z := RcAt.lists (e := fun _ => true) t1.isList t2.isList (by rw [List.size_toArray, List.size_toArray]; omega) hu (fun j h1 h2 => same_txt r1 r2 j h1 h2)
  refine z X.prog X.w X.xe _ ?_
  have z : ((List.range i1.toArray.size).all fun _ => true) = true := List.all_eq_true.mpr fun _ _ => rfl
  rw [z]
  exact ⟨.bl true, H, I, rfl, q⟩
end
end StL
/-! lists of lists, all of the same texts: == -/
namespace StN
open PySem PySem.Spec PySem.SeqAt PyProof.Rows L2
def rSameLL (K : PySem.W.Frag) : R2 := fun x y H Q => ∃ (a b : Addr) (ps qs : List Addr) (xs : List Str), x = .ref a ∧ y = .ref b ∧ SqL K H a (ps.map V.ref) ∧ SqL K H b (qs.map V.ref) ∧ ps.length = qs.length ∧ (∀ p ∈ ps, SqL K H p (xs.map V.str)) ∧ (∀ q ∈ qs, SqL K H q (xs.map V.str)) ∧ Q (.bl true) H
theorem refs_at : ∀ {ps : List Addr} {us : List Value}, Vals (ps.map V.ref) us → ∀ (j : Nat) (h : j < us.length), ∃ (h2 : j < ps.length), us[j] = .ref ps[j] := by
  intro ps
  induction ps with
  | nil =>
    intro us r j h
    cases r
    exact absurd h (Nat.not_lt_zero _)
  | cons p ps ih =>
    intro us r j h
    cases r with
    | cons ra r =>
      cases j with
      | zero =>
        cases ra
        exact ⟨Nat.succ_pos _, rfl⟩
      | succ j =>
        obtain ⟨h2, e⟩ := ih r j (Nat.lt_of_succ_lt_succ h)
        exact ⟨Nat.succ_lt_succ h2, e⟩
section
variable {X : Cx}
theorem op_eqLL (hu0 : X.A.units + 64 < cLine) : OpR X (compareOp .Eq) (rSameLL X.K) := by
  rintro pins s σ H _ _ v u Q I rx ry ⟨a, b, ps, qs, xs, rfl, rfl, h1, h2, hl, hp, hq, q⟩
  cases rx
  cases ry
  obtain ⟨i1, r1, t1, z1⟩ := I.list h1
  obtain ⟨i2, r2, t2, z2⟩ := I.list h2
  have hu : X.A.units < cLine := by omega
  have hu1 : X.A.in1.units < cLine := by
    show X.A.units + 1 < cLine
    omega
  have e1 := r1.length
  have e2 := r2.length
  rw [List.length_map] at e1 e2
  have z := RcAt.lists (e := fun _ => true) t1.isList t2.isList (by rw [List.size_toArray, List.size_toArray]; omega) hu (fun j k1 k2 => by
    rw [List.size_toArray] at k1 k2
    obtain ⟨m1, y1⟩ := refs_at r1 j k1
    obtain ⟨m2, y2⟩ := refs_at r2 j k2
    rw [List.getElem_toArray, List.getElem_toArray, y1, y2]
    by_cases e : ps[j] = qs[j]
    · rw [e]
      exact EqAt.same _
    · obtain ⟨w1, g1, t3, _⟩ := I.list (hp _ (List.getElem_mem m1))
      obtain ⟨w2, g2, t4, _⟩ := I.list (hq _ (List.getElem_mem m2))
      have f1 := g1.length
      have f2 := g2.length
      have y := RcAt.lists (A := X.A.in1) (e := fun _ => true) t3.isList t4.isList (by rw [List.size_toArray, List.size_toArray]; omega) hu1 (fun j h1 h2 => StL.same_txt g1 g2 j h1 h2)
      rw [show ((List.range w1.toArray.size).all fun _ => true) = true from List.all_eq_true.mpr fun _ _ => rfl] at y
      exact EqAt.of_refs e y)
  refine z X.prog X.w X.xe _ ?_
  have z : ((List.range i1.toArray.size).all fun _ => true) = true := List.all_eq_true.mpr fun _ _ => rfl
  rw [z]
  exact ⟨.bl true, H, I, rfl, q⟩
end
end StN
/-! list.sort with key=: any key def, any order of the keys -/
namespace SortK
open PySem PySem.W PyProof.Rows Srt SrtO
section
variable {prog : Program} {w : World} {A : Around} {E : Value → Shared → Prop} {s : Shared} {a kS : Addr} {P : PySem.Fin → Shared → Prop} {ltv : Value → Value → Bool} {κ : SortKind} {vs : List Value} {keys : Array Value} {e e1 : Nat}
/-- what the sort leaves: the keys let go, the list filled again -/
def left (h : Heap) (kS a : Addr) (ps : List Keyed) : Heap := (h.update kS (Obj.mapSeq fun _ => (#[] : Array Value))).update a (Obj.mapSeq fun _ => (ps.map (·.2)).toArray)
theorem key_tail {st : SortSt} (hk : s.heap.get? kS = some (seqObj "list" keys e)) (ha : s.heap.get? a = some (seqObj "list" #[] e1)) (ne : kS ≠ a) (hz : keys.size ≤ sizeLine) (hzs : (arrOf st).size ≤ sizeLine) (hf : failedOf st = none)
    (h : P (.done (.ret .none)) { s with heap := left s.heap kS a (arrOf st).toList }) : wpAny (model prog w) A (ksk_tail a false e1 (.ref kS) st) P E s := by
  have same := Heap.SameBut.update s.heap kS (Obj.mapSeq fun _ => (#[] : Array Value))
  have ha1 := (same.2 a ne.symm).trans ha
  unfold ksk_tail
  try dsimp only
  refine wpAny_bind (listUpdate_at hk rfl ?_ hz (Nat.zero_le _))
  refine wpAny_bind (wpAny_letGo ?_)
  refine wpAny_bind (seqEpoch_at ha1 rfl ?_)
  refine wpAny_bind (listUpdate_at ha1 rfl ?_ (Nat.zero_le _) (by simp only [Bool.false_eq_true, if_false, Array.size_map]; exact Nat.le_trans hzs (Nat.le_succ _)))
  rw [hf]
  simp only [bne_self_eq_false, Bool.false_eq_true, if_false]
  refine wpAny_pure ?_
  have e2 : (arrOf st).map (·.2) = ((arrOf st).toList.map (·.2)).toArray := by
    rw [← Array.toList_map, Array.toArray_toList]
  unfold left at h
  rw [← e2] at h
  exact h
theorem key_end (O : Swo ltv) (hk : s.heap.get? kS = some (seqObj "list" keys e)) (ha : s.heap.get? a = some (seqObj "list" #[] e1)) (ne : kS ≠ a) (hl : keys.size = vs.length) (hz : vs.length ≤ sizeLine)
    (kind : 2 ≤ vs.length → ∀ (Q : SortKind → Shared → Prop) (E : Value → Shared → Prop), Q κ s → wpAny (model prog w) A (keyKind' keys) Q E s)
    (C : Cmp prog w A s κ (fun p => p.1 ∈ keys.toList) (lt2 ltv))
    (h : ∀ ps : List Keyed, Srtd (lt2 ltv) ps → Stb (lt2 ltv) ps (keys.zip vs.toArray).toList → P (.done (.ret .none)) { s with heap := left s.heap kS a ps }) :
    wpAny (model prog w) A (ksk_end a false vs.toArray e1 (.ref kS) keys) P E s := by
  have zs : (keys.zip vs.toArray).size = vs.length := by
    rw [Array.size_zip, List.size_toArray]
    have : keys.size = vs.length := hl
    show min keys.size vs.length = vs.length
    omega
  unfold ksk_end
  simp only [Bool.false_eq_true, if_false]
  have sz : vs.toArray.size = vs.length := by simp
  by_cases h2 : vs.toArray.size < 2
  · rw [if_pos h2, if_pos h2]
    refine wpAny_bind (wpAny_pure ?_)
    rw [StateT.run_pure]
    refine wpAny_bind (wpAny_pure ?_)
    try dsimp only
    refine key_tail hk ha ne (by omega) (Nat.le_trans (Nat.le_of_eq zs) hz) rfl (h _ ?_ (Stb.refl _))
    have l2 : (keys.zip vs.toArray).toList.length < 2 := by rw [Array.length_toList, zs]; omega
    show Srtd (lt2 ltv) (keys.zip vs.toArray).toList
    revert l2
    generalize (keys.zip vs.toArray).toList = l
    intro l2
    match l, l2 with
    | [], _ => exact List.Pairwise.nil
    | [v], _ => exact List.pairwise_singleton _ _
    | _ :: _ :: l, h => exact absurd h (by rw [List.length_cons, List.length_cons]; omega)
  · rw [if_neg h2, if_neg h2]
    refine wpAny_bind (kind (by omega) _ _ ?_)
    have all : AllL (fun p : Keyed => p.1 ∈ keys.toList) (keys.zip vs.toArray).toList := fun p hm => by
      rw [Array.toList_zip] at hm
      exact (List.of_mem_zip hm).1
    refine wpAny_bind (wpAny_mono (wpS_sortO (st0 := SortSt.mk' κ (keys.zip vs.toArray) #[] 7 none)
      (Q := fun _ st' => Srtd (lt2 ltv) (arrOf st').toList ∧ Stb (lt2 ltv) (arrOf st').toList (keys.zip vs.toArray).toList ∧ failedOf st' = none) (swo2 O) C rfl all rfl rfl fun st' a1 a2 a3 => ⟨a1, a2, a3⟩) ?_ fun _ _ x => x)
    rintro ⟨⟨⟩, st'⟩ s' ⟨rfl, p1, p2, hf⟩
    try dsimp only
    refine key_tail hk ha ne (by omega) ?_ hf (h _ p1 p2)
    have q : (arrOf st').toList.length = (keys.zip vs.toArray).toList.length := p2.perm.length_eq
    rw [Array.length_toList, Array.length_toList, zs] at q
    show (arrOf st').size ≤ sizeLine
    rw [q]
    exact hz
/-- the keys are made one after another; J tells the turn, the keys so far, and what stands -/
theorem key_rest {f : Value} (J : Nat → List Value → Shared → Prop) (j0 : J 0 [] s)
    (turn : ∀ (i : Nat) (ks : List Value) (st : Shared) (v : Value), J i ks st → vs[i]? = some v → wpAny (model prog w) A (call f [v])
      (fun k st' => ∃ ek, st'.heap.get? kS = some (seqObj "list" ks.toArray ek) ∧ ks.length < sizeLine ∧ J (i + 1) (ks ++ [k]) { st' with heap := st'.heap.update kS (Obj.mapSeq (·.push k)) }) (fun _ _ => False) st)
    (fin : ∀ (ks : List Value) (st : Shared), J vs.length ks st → (∃ ek, st.heap.get? kS = some (seqObj "list" ks.toArray ek)) ∧ wpAny (model prog w) A (ksk_end a false vs.toArray e1 (.ref kS) ks.toArray) P E st) :
    wpAny (model prog w) A (ksk_rest a f false vs.toArray e1 (.ref kS)) P E s := by
  unfold ksk_rest
  refine wpAny_bind (wpAny_rule ?_)
  rw [List.forIn_toArray]
  refine wpAny_bind (ksk_fold (fun i s' => ∃ ks, J i ks s') vs 0 s ⟨[], j0⟩ (fun j x s' hx hJ => ?_) fun s' hJ => ?_)
  · obtain ⟨ks, hJ⟩ := hJ
    rw [Nat.zero_add] at hJ ⊢
    refine wpAny_bind (wpAny_attempt (wpAny_mono (turn j ks s' x hJ hx) (fun k st hk => ?_) fun _ _ x => x.elim))
    obtain ⟨ek, g, lt, j1⟩ := hk
    try dsimp only
    refine wpAny_bind (listUpdate_at g rfl ?_ (by rw [List.size_toArray]; exact Nat.le_of_lt lt) (by rw [Array.size_push, List.size_toArray]; exact Nat.succ_le_succ (Nat.le_of_lt lt)))
    exact wpAny_pure ⟨rfl, _, j1⟩
  · obtain ⟨ks, hJ⟩ := hJ
    rw [Nat.zero_add] at hJ
    obtain ⟨⟨ek, g⟩, h⟩ := fin ks s' hJ
    try dsimp only
    refine wpAny_bind (listItems_at g rfl ?_)
    exact h
/-- the heap when the keys begin: the list emptied, its things held, the store of keys at the end -/
def begun (h : Heap) (a : Addr) (vs : List Value) : Heap := ((h.update a (Obj.mapSeq fun _ => #[])).push (seqObj "tuple" vs.toArray 0)).push (seqObj "list" #[] 0)
theorem sort_key {q : Addr} {n : Nat} (ho : s.heap.get? a = some (seqObj "list" vs.toArray n)) (hz : vs.length ≤ sizeLine)
    (h : ∀ e1, (begun s.heap a vs).get? a = some (seqObj "list" #[] e1) → (begun s.heap a vs).get? (s.heap.objs.size + 1) = some (seqObj "list" #[] 0) →
      wpAny (model prog w) A (ksk_rest a (.ref q) false vs.toArray e1 (.ref (s.heap.objs.size + 1))) P E { s with heap := begun s.heap a vs }) :
    wpAny (model prog w) A (Builtin.«list.sort» ⟨[.ref a], [(Str.ofString "key", .ref q)]⟩) P E s := by
  rw [ksk_t1]
  unfold ksk_tree
  refine wpAny_bind (listItems_at ho rfl ?_)
  refine wpAny_bind (listUpdate_at ho rfl ?_ (by rw [List.size_toArray]; exact hz) (Nat.zero_le _))
  obtain ⟨e1, ho1⟩ : ∃ e1, (s.heap.update a (Obj.mapSeq fun _ => #[])).get? a = some (seqObj "list" #[] e1) := ⟨_, get?_update_seq ho (fun _ => #[])⟩
  refine wpAny_bind (seqEpoch_at ho1 rfl ?_)
  refine wpAny_bind (wpAny_newTuple ?_ (by show vs.length ≤ _; exact hz))
  refine wpAny_bind (wpAny_newList ?_ (Nat.zero_le _))
  refine wpAny_holding ?_
  have sz : ((s.heap.update a (Obj.mapSeq fun _ => #[])).push (seqObj "tuple" vs.toArray 0)).objs.size = s.heap.objs.size + 1 := by
    rw [size_push', Heap.size_update]
  have z := h e1 (Heap.get?_push_of_some _ (Heap.get?_push_of_some _ ho1)) (by rw [← sz]; exact Heap.get?_push_size _ rfl)
  rw [← sz] at z
  exact z
/-- sorted(l, key=f), to the head of list.sort: p the new list -/
theorem sorted_head {l q : Addr} {Q : Value → Shared → Prop} (hl : s.heap.IsList l vs.toArray) (hz : vs.length ≤ sizeLine)
    (h : ∀ (h1 : Heap) (p : Addr), p = s.heap.objs.size + 1 → h1.objs.size = p + 1 → h1.get? p = some (seqObj "list" vs.toArray 0) → (∀ b o, s.heap.get? b = some o → h1.get? b = some o) →
      wpAny (model prog w) A.in1.in1 (Builtin.«list.sort» ⟨[.ref p], [(Str.ofString "key", .ref q)]⟩) (fun r s' => r = .done (.ret .none) ∧ Q (.ref p) s') (fun _ _ => False) { s with heap := h1 }) :
    wpAny (model prog w) A (call (.builtin "sorted") [.ref l] [(Str.ofString "key", .ref q)]) Q E s := by
  refine call_function_entry_kw kind_sorted plain_sorted entry_sorted (ksk_s1 _ _) ?_
  unfold Builtin.«sorted»
  refine wpAny_bind (m := checkCount "sorted" 1 1 _) (wpAny_pure ?_)
  refine wpAny_bind (collect_list hl ?_ hz)
  refine wpAny_bind (wpAny_newList ?_ hz)
  have sz : ((s.heap.push (seqObj "list" #[] 0)).update s.heap.objs.size (Obj.mapSeq (· ++ vs.toArray))).objs.size = s.heap.objs.size + 1 := by
    rw [Heap.size_update, size_push']
  have g : (((s.heap.push (seqObj "list" #[] 0)).update s.heap.objs.size (Obj.mapSeq (· ++ vs.toArray))).push (seqObj "list" vs.toArray 0)).get? (s.heap.objs.size + 1) = some (seqObj "list" vs.toArray 0) := by
    rw [← sz]; exact Heap.get?_push_size _ rfl
  have z := h _ _ rfl (by rw [size_push', sz]) g fun b o q => by
    have lt : b < s.heap.objs.size := Heap.lt_size q
    refine Heap.get?_push_of_some _ ?_
    rw [Heap.get?_update_ne _ _ _ _ (Nat.ne_of_lt lt)]
    exact Heap.get?_push_of_some _ q
  show wpAny _ _ _ _ _ { s with heap := ((s.heap.push (seqObj "list" #[] 0)).update s.heap.objs.size (Obj.mapSeq (· ++ vs.toArray))).push (seqObj "list" vs.toArray 0) }
  rw [sz]
  refine wpAny_bind (wpAny_holding (wpAny_call_entry_kw slot_list_sort ⟨_, g, rfl⟩ entry_list_sort ?_ (ksk_l1 _ _)))
  refine wpAny_mono z (fun r s' hr => ?_) fun _ _ x => x.elim
  obtain ⟨rfl, hq⟩ := hr
  exact ⟨_, rfl, wpAny_pure ⟨_, rfl, hq⟩⟩
end
end SortK
/-! keys that are a whole number and a tuple of texts: their order -/
namespace SortT
open PySem PySem.Spec PySem.SeqAt PySem.W PyProof.Rows Srt SrtO L2 Ob
abbrev Key := Int × List Str
def ltS (x y : Str) : Bool := decide (x.cps.toList < y.cps.toList)
def lexS : List Str → List Str → Bool
  | [], [] => false
  | [], _ :: _ => true
  | _ :: _, [] => false
  | x :: r, y :: q => if x = y then lexS r q else ltS x y
def ltK (a b : Key) : Bool := if a.1 = b.1 then lexS a.2 b.2 else decide (a.1 < b.1)
theorem ltS_asym {x y : Str} (h : ltS x y = true) : ltS y x = false := by
  have h' := of_decide_eq_true h
  exact decide_eq_false fun z => absurd (List.lt_trans h' z) (List.lt_irrefl _)
theorem ltS_tri {x y : Str} (h1 : ltS x y = false) (h2 : ltS y x = false) : x = y := by
  have a : y.cps.toList ≤ x.cps.toList := List.not_lt.mp (of_decide_eq_false h1)
  have b : x.cps.toList ≤ y.cps.toList := List.not_lt.mp (of_decide_eq_false h2)
  have e := List.le_antisymm b a
  exact Str.ext' (Array.toList_inj.mp e)
theorem ltS_tr {x y z : Str} (h1 : ltS y x = false) (h2 : ltS z y = false) : ltS z x = false := by
  have a : x.cps.toList ≤ y.cps.toList := List.not_lt.mp (of_decide_eq_false h1)
  have b : y.cps.toList ≤ z.cps.toList := List.not_lt.mp (of_decide_eq_false h2)
  exact decide_eq_false fun h => List.not_lt.mpr (List.le_trans a b) h
theorem lexS_self : ∀ l : List Str, lexS l l = false
  | [] => rfl
  | x :: r => by
    unfold lexS
    rw [if_pos rfl]
    exact lexS_self r
theorem lexS_asym : ∀ a b : List Str, lexS a b = true → lexS b a = false
  | [], [], h => by cases h
  | [], _ :: _, _ => rfl
  | _ :: _, [], h => by cases h
  | x :: r, y :: q, h => by
    unfold lexS at h ⊢
    by_cases e : x = y
    · subst e
      rw [if_pos rfl] at h ⊢
      exact lexS_asym r q h
    · rw [if_neg e] at h
      rw [if_neg fun z => e z.symm]
      exact ltS_asym h
theorem lexS_tr : ∀ a b c : List Str, lexS b a = false → lexS c b = false → lexS c a = false
  | [], _, [], _, _ => rfl
  | [], _, _ :: _, _, _ => rfl
  | x :: r, [], c, h1, _ => by cases h1
  | x :: r, y :: q, [], _, h2 => by cases h2
  | x :: r, y :: q, z :: p, h1, h2 => by
    unfold lexS at h1 h2 ⊢
    by_cases e1 : y = x
    · subst e1
      by_cases e2 : z = y
      · subst e2
        rw [if_pos rfl] at h1 h2 ⊢
        exact lexS_tr r q p h1 h2
      · rw [if_neg e2] at h2 ⊢
        exact h2
    · rw [if_neg e1] at h1
      by_cases e2 : z = y
      · subst e2
        rw [if_neg e1]
        exact h1
      · rw [if_neg e2] at h2
        by_cases e3 : z = x
        · subst e3
          exact absurd (ltS_tri h2 h1) e2
        · rw [if_neg e3]
          exact ltS_tr h1 h2
theorem swoK : Swo ltK := by
  refine ⟨fun a b h => ?_, fun a b c h1 h2 => ?_⟩
  · unfold ltK at h ⊢
    by_cases e : a.1 = b.1
    · rw [if_pos e] at h
      rw [if_pos e.symm]
      exact lexS_asym _ _ h
    · rw [if_neg e] at h
      rw [if_neg fun z => e z.symm]
      have := of_decide_eq_true h
      exact decide_eq_false (by omega)
  · unfold ltK at h1 h2 ⊢
    by_cases e1 : b.1 = a.1
    · rw [if_pos e1] at h1
      by_cases e2 : c.1 = b.1
      · rw [if_pos e2] at h2
        rw [if_pos (e2.trans e1)]
        exact lexS_tr _ _ _ h1 h2
      · rw [if_neg e2] at h2
        rw [if_neg (by rw [← e1]; exact e2), ← e1]
        exact h2
    · rw [if_neg e1] at h1
      have l1 := of_decide_eq_false h1
      by_cases e2 : c.1 = b.1
      · rw [if_neg (by rw [e2]; exact e1), e2]
        exact h1
      · rw [if_neg e2] at h2
        have l2 := of_decide_eq_false h2
        rw [if_neg (by omega)]
        exact decide_eq_false (by omega)
theorem arr_inj {α : Type} {a b : List α} (e : a.toArray = b.toArray) : a = b := congrArg Array.toList e
/-! the keys in the heap -/
def IsK (h : Heap) (u : Value) (k : Key) : Prop := ∃ (t m : Addr) (us : List Value) (tk : Tok), u = .ref t ∧ h.IsTuple t #[.int k.1 tk, .ref m] ∧ h.IsTuple m us.toArray ∧ Vals (k.2.map V.str) us
theorem tup_inj {h : Heap} {a : Addr} {i j : Array Value} (x : h.IsTuple a i) (y : h.IsTuple a j) : i = j := by
  obtain ⟨o, e1, _, n, d1⟩ := x
  obtain ⟨o', e2, _, n', d2⟩ := y
  rw [e1] at e2
  cases e2
  rw [d1] at d2
  cases d2
  rfl
theorem txts_inj : ∀ {zs ys : List Str} {us : List Value}, Vals (zs.map V.str) us → Vals (ys.map V.str) us → zs = ys := by
  intro zs
  induction zs with
  | nil =>
    intro ys us a b
    cases a
    cases ys with
    | nil => rfl
    | cons y ys => cases b
  | cons z zs ih =>
    intro ys us a b
    cases a with
    | cons ra a =>
      cases ys with
      | nil => cases b
      | cons y ys =>
        cases b with
        | cons rb b =>
          obtain ⟨t, e⟩ := ra
          obtain ⟨t', e'⟩ := rb
          subst e
          cases e'
          rw [ih a b]
theorem isk_inj {h : Heap} {u : Value} {k k' : Key} (x : IsK h u k) (y : IsK h u k') : k = k' := by
  obtain ⟨t, m, us, tk, rfl, a, b, c⟩ := x
  obtain ⟨t', m', us', tk', e, a', b', c'⟩ := y
  cases e
  have e1 := tup_inj a a'
  have e2 : [Value.int k.1 tk, .ref m] = [Value.int k'.1 tk', .ref m'] := arr_inj e1
  injection e2 with f1 f2
  injection f1 with g1 _
  injection f2 with f3 _
  injection f3 with g2
  subst g2
  have e3 := arr_inj (tup_inj b b')
  subst e3
  exact Prod.ext g1 (txts_inj c c')
open Classical in
noncomputable def dec (h : Heap) (u : Value) : Key := if ex : ∃ k, IsK h u k then ex.choose else (0, [])
theorem dec_eq {h : Heap} {u : Value} {k : Key} (x : IsK h u k) : dec h u = k := by
  unfold dec
  have ex : ∃ k, IsK h u k := ⟨k, x⟩
  rw [dif_pos ex]
  exact isk_inj ex.choose_spec x
noncomputable def ltv (h : Heap) : Value → Value → Bool := fun u v => ltK (dec h u) (dec h v)
theorem swo_v (h : Heap) : Swo (ltv h) := ⟨fun x y => swoK.asym _ _, fun x y z => swoK.tr _ _ _⟩
/-! the comparison of two tuples of texts -/
def eAt (zs ys : List Str) (j : Nat) : Bool := zs.getD j Str.empty == ys.getD j Str.empty
def rAt (zs ys : List Str) (j : Nat) : Bool := ltS (zs.getD j Str.empty) (ys.getD j Str.empty)
theorem lex_at (zs ys : List Str) : ∀ k i : Nat, i ≤ min zs.length ys.length → k = min zs.length ys.length - i → lexAt (eAt zs ys) (rAt zs ys) (decide (zs.length < ys.length)) i k = lexS (zs.drop i) (ys.drop i) := by
  intro k
  induction k with
  | zero =>
    intro i hi hk
    rw [lexAt_zero]
    have e : i = min zs.length ys.length := by omega
    by_cases l1 : zs.length < ys.length
    · have e1 : zs.drop i = [] := List.drop_of_length_le (by omega)
      have e2 : ys.drop i = ys[i]'(by omega) :: ys.drop (i + 1) := List.drop_eq_getElem_cons (by omega)
      rw [e1, e2, decide_eq_true l1]
      rfl
    · have e2 : ys.drop i = [] := List.drop_of_length_le (by omega)
      rw [e2, decide_eq_false l1]
      cases zs.drop i <;> rfl
  | succ k ih =>
    intro i hi hk
    have h1 : i < zs.length := by omega
    have h2 : i < ys.length := by omega
    rw [lexAt_succ, List.drop_eq_getElem_cons h1, List.drop_eq_getElem_cons h2]
    unfold lexS
    have g1 : zs.getD i Str.empty = zs[i] := by rw [List.getD_eq_getElem?_getD, List.getElem?_eq_getElem h1]; rfl
    have g2 : ys.getD i Str.empty = ys[i] := by rw [List.getD_eq_getElem?_getD, List.getElem?_eq_getElem h2]; rfl
    unfold eAt rAt
    rw [g1, g2]
    by_cases e : zs[i] = ys[i]
    · rw [if_pos (by rw [e]; exact beq_self_eq_true _), if_pos e]
      exact ih (i + 1) (by omega) (by omega)
    · rw [if_neg (fun z => e (eq_of_beq z)), if_neg e]
theorem all_at (zs ys : List Str) : ((List.range (min zs.length ys.length)).all (eAt zs ys) && zs.length == ys.length) = decide (zs = ys) := by
  by_cases e : zs = ys
  · subst e
    rw [decide_eq_true rfl, Nat.min_self, beq_self_eq_true, Bool.and_true]
    exact List.all_eq_true.mpr fun j _ => beq_self_eq_true _
  · rw [decide_eq_false e]
    refine Bool.eq_false_iff.mpr fun z => e ?_
    obtain ⟨z1, z2⟩ := Bool.and_eq_true_iff.mp z
    have l : zs.length = ys.length := eq_of_beq z2
    refine List.ext_getElem l fun j h1 h2 => ?_
    have z3 := eq_of_beq (List.all_eq_true.mp z1 j (List.mem_range.mpr (by omega)))
    rw [List.getD_eq_getElem?_getD, List.getD_eq_getElem?_getD, List.getElem?_eq_getElem h1, List.getElem?_eq_getElem h2] at z3
    exact z3
theorem val_at {zs : List Str} {us : List Value} (r : Vals (zs.map V.str) us) : ∀ (j : Nat) (h : j < us.length), ∃ t, us[j] = .str (zs.getD j Str.empty) t := by
  induction zs generalizing us with
  | nil => cases r; intro j h; exact absurd h (Nat.not_lt_zero _)
  | cons z zs ih =>
    cases r with
    | cons ra r =>
      intro j h
      cases j with
      | zero => exact ra
      | succ j => exact ih r j (Nat.lt_of_succ_lt_succ h)
section
variable {prog : Program} {w : World} {A : Around} {s : Shared} {m m' : Addr} {us ws : List Value} {zs ys : List Str}
theorem eq_txts (hm : s.heap.IsTuple m us.toArray) (hn : s.heap.IsTuple m' ws.toArray) (r : Vals (zs.map V.str) us) (q : Vals (ys.map V.str) ws) (hu : A.units < cLine) : EqAt A s (.ref m) (.ref m') (decide (zs = ys)) := by
  by_cases e : m = m'
  · subst e
    have e3 := arr_inj (tup_inj hm hn)
    subst e3
    rw [txts_inj r q, decide_eq_true rfl]
    exact .same _
  · refine .of_refs e ?_
    have l1 := r.length
    have l2 := q.length
    rw [List.length_map] at l1 l2
    have z := RcAt.tuples (A := A) (s := s) (e := eAt zs ys) hm hn hu fun j h1 h2 => by
      rw [List.size_toArray] at h1 h2
      obtain ⟨t, e1⟩ := val_at r j h1
      obtain ⟨t', e2⟩ := val_at q j h2
      rw [List.getElem_toArray, List.getElem_toArray, e1, e2]
      exact .str_str _ _ _ _
    rw [List.size_toArray, List.size_toArray, ← l1, ← l2, all_at] at z
    exact z
theorem lt_txts (hm : s.heap.IsTuple m us.toArray) (hn : s.heap.IsTuple m' ws.toArray) (r : Vals (zs.map V.str) us) (q : Vals (ys.map V.str) ws) (hu : A.units < cLine) : RcOp .Lt A s (.ref m) (.ref m') (lexS zs ys) := by
  have l1 := r.length
  have l2 := q.length
  rw [List.length_map] at l1 l2
  have z := RcOp.tuples_lt (A := A) (s := s) (e := eAt zs ys) (r := rAt zs ys) hm hn hu (fun j h1 h2 => by
      rw [List.size_toArray] at h1 h2
      obtain ⟨t, e1⟩ := val_at r j h1
      obtain ⟨t', e2⟩ := val_at q j h2
      rw [List.getElem_toArray, List.getElem_toArray, e1, e2]
      exact .str_str _ _ _ _) (fun j h1 h2 _ => by
      rw [List.size_toArray] at h1 h2
      obtain ⟨t, e1⟩ := val_at r j h1
      obtain ⟨t', e2⟩ := val_at q j h2
      rw [List.getElem_toArray, List.getElem_toArray, e1, e2]
      exact fun _ _ _ _ h => PySem.P.lt_str h)
  rw [List.size_toArray, List.size_toArray, ← l1, ← l2] at z
  have y := lex_at zs ys (min zs.length ys.length) 0 (Nat.zero_le _) (Nat.sub_zero _).symm
  rw [List.drop_zero, List.drop_zero] at y
  rw [y] at z
  exact z
theorem cmpK {p q : Value} {k1 k2 : Key} (hp : IsK s.heap p k1) (hq : IsK s.heap q k2) (hu : A.units < cLine) : wpAny (model prog w) A (keyLt' (tuples' true) p q) (fun r s' => s' = s ∧ r = ltK k1 k2) (fun _ _ => False) s := by
  obtain ⟨t, m, us, tk, rfl, ht, hm, r⟩ := hp
  obtain ⟨t2, m2, ws, tk2, rfl, ht2, hm2, r2⟩ := hq
  obtain ⟨o, ho, _, n, hd⟩ := ht
  obtain ⟨o2, ho2, _, n2, hd2⟩ := ht2
  refine kat_lt ho hd ho2 hd2 ?_
  show KatLex prog w A true (decide (2 < 2)) _ [(Value.int k1.1 tk, Value.int k2.1 tk2), (Value.ref m, Value.ref m2)] 0 s
  refine kat_cons (EqAt.int_int k1.1 tk k2.1 tk2 prog w (fun _ _ => False) _ ?_)
  by_cases e : k1.1 = k2.1
  · rw [show (k1.1 == k2.1) = true by rw [e]; exact beq_self_eq_true _]
    refine kat_yes (kat_cons (eq_txts hm hm2 r r2 hu prog w (fun _ _ => False) _ ?_))
    have lk : ltK k1 k2 = lexS k1.2 k2.2 := by
      unfold ltK
      exact if_pos e
    by_cases e2 : k1.2 = k2.2
    · rw [decide_eq_true e2]
      refine kat_yes (kat_nil ⟨rfl, ?_⟩)
      rw [lk, e2, lexS_self]
      rfl
    · rw [decide_eq_false e2]
      refine kat_no ?_
      show wpAny (model prog w) A (oneLt' false (.ref m) (.ref m2)) _ _ s
      rw [oneLt'_eq]
      simp only [Bool.false_eq_true, if_false]
      exact wpAny_bind (lt_txts hm hm2 r r2 hu prog w _ _ (wpAny_truthy_bool ⟨rfl, lk.symm⟩))
  · rw [show (k1.1 == k2.1) = false from beq_eq_false_iff_ne.mpr e]
    refine kat_no (oneLt_any_int ⟨rfl, ?_⟩)
    unfold ltK
    exact (if_neg e).symm
theorem firsts {h : Heap} : ∀ {keys : List Value}, (∀ u ∈ keys, ∃ k, IsK h u k) → ∃ fs, KatTups h keys fs ∧ (∀ v ∈ fs, ∃ n t, v = Value.int n t) ∧ fs.length = keys.length := by
  intro keys
  induction keys with
  | nil => exact fun _ => ⟨[], KatTups.nil, (fun _ z => nomatch z), rfl⟩
  | cons u keys ih =>
    intro hk
    obtain ⟨k, t, m, us, tk, rfl, ht, _, _⟩ := hk u List.mem_cons_self
    obtain ⟨fs, a, b, c⟩ := ih fun v hv => hk v (List.mem_cons_of_mem _ hv)
    obtain ⟨o, ho, hc, n, hd⟩ := ht
    refine ⟨.int k.1 tk :: fs, KatTups.cons ho hc hd rfl a, fun v hv => ?_, by rw [List.length_cons, List.length_cons, c]⟩
    rcases List.mem_cons.mp hv with rfl | hv
    · exact ⟨_, _, rfl⟩
    · exact b v hv
theorem kindK {M : Model} {keys : List Value} {Q : SortKind → Shared → Prop} {E : Value → Shared → Prop} (hk : ∀ u ∈ keys, ∃ k, IsK s.heap u k) (ne : 0 < keys.length) (h : Q (tuples' true) s) : wpAny M A (keyKind' keys.toArray) Q E s := by
  obtain ⟨fs, a, b, c⟩ := firsts hk
  refine kat_kind (T := .type "int") a (by rw [c]; exact ne) (fun v hv => ?_) rfl h
  obtain ⟨n, t, rfl⟩ := b v hv
  exact Looks.of_pure rfl
end
end SortT
/-! sorted(xs, key=f): f an own def whose keys are a whole number and a tuple of texts -/
namespace SortH
open PySem PySem.Spec PyProof.Rows SrtO L2 SortK SortT
def IsKey (kv : V) (k : SortT.Key) (H : Hp) : Prop := ∃ t m, kv = .ref t ∧ H t = some (.tup [.int k.1, .ref m]) ∧ H m = some (.tup (k.2.map V.str))
theorem IsKey.keep {kv : V} {k : SortT.Key} {H H' : Hp} (h : IsKey kv k H) (s : ∀ b o, H b = some o → (∃ xs, o = .tup xs) → H' b = some o) : IsKey kv k H' := by
  obtain ⟨t, m, e, h1, h2⟩ := h
  exact ⟨t, m, e, s _ _ h1 ⟨_, rfl⟩, s _ _ h2 ⟨_, rfl⟩⟩
/-- exactly this object stands at a -/
def exact_ (a : Addr) (o : Obj) : HO := .ext fun h => h.get? a = some o
theorem exact_ok {P : Program} {w : World} {H : Hp} {h : Heap} {a : Addr} {o : Obj} (e : h.get? a = some o) : ObjOk P w H h a (exact_ a o) := ⟨e, ⟨_, e⟩, fun _ _ x k => k _ x⟩
section
variable {X : Cx} {pins : List (Addr × Obj)} {σ : L2.St} {H : Hp} {s : Shared}
theorem exact_at (I : Inv X pins σ H s) {a : Addr} {o : Obj} (e : H a = some (exact_ a o)) : s.heap.get? a = some o := (I.hok a _ e).1
theorem isk_of (I : Inv X pins σ H s) {kv : V} {u : Value} {k : SortT.Key} (r : RelV kv u) (h : IsKey kv k H) : IsK s.heap u k := by
  obtain ⟨t, m, rfl, h1, h2⟩ := h
  cases r
  obtain ⟨_, its, r1, p1⟩ := I.hok t _ h1
  obtain ⟨_, us, r2, p2⟩ := I.hok m _ h2
  cases r1 with
  | cons ra r1 =>
    cases r1 with
    | cons rb r1 =>
      cases r1
      obtain ⟨tk, e⟩ := ra
      subst e
      cases rb
      exact ⟨t, m, us, tk, rfl, p1, p2, r2⟩
def rSortK (K : PySem.W.Frag) (sp : Sp) (f : Addr) : List V → List V → Hp → VK → Prop := fun vs zs H Q => ∃ (l : Addr) (xs : List V) (g : V → SortT.Key), vs = [V.ref l] ∧ zs = [V.ref f] ∧ SqL K H l xs ∧
  (∀ x ∈ xs, ∀ H' : Hp, (∀ b o, H b = some o → H' b = some o) → sp [x] H' (fun kv H'' => (∀ b o, H' b = some o → H'' b = some o) ∧ IsKey kv (g x) H'') E0) ∧
  ∀ (ys : List V) (H' : Hp) (p : Addr), ys.Perm xs → ys.Pairwise (fun a b => ltK (g b) (g a) = false) → (∀ b o, H b = some o → H' b = some o) → H p = none → H' p = some (.lst ys) → Q (.ref p) H'
theorem val_of {xs : List V} {us : List Value} (r : Vals xs us) : ∀ {j : Nat} {v : Value}, us[j]? = some v → ∃ x, xs[j]? = some x ∧ RelV x v := by
  induction xs generalizing us with
  | nil => cases r; intro j v h; cases h
  | cons x xs ih =>
    cases r with
    | cons ra r =>
      intro j v h
      cases j with
      | zero => cases h; exact ⟨x, rfl, ra⟩
      | succ j => exact ih r h
/-- the turns: what stands before turn i -/
def J (X : Cx) (pins : List (Addr × Obj)) (σ : L2.St) (H : Hp) (xs : List V) (g : V → SortT.Key) (p kS : Addr) (e1 : Nat) (i : Nat) (ks : List Value) (st : Shared) : Prop :=
  ∃ (H' : Hp) (kvs : List V) (ek : Nat), Inv X pins σ H' st ∧ (∀ b o, H b = some o → H' b = some o) ∧ H' p = some (exact_ p (seqObj "list" #[] e1)) ∧ H' kS = some (exact_ kS (seqObj "list" ks.toArray ek)) ∧ Vals kvs ks ∧ kvs.length = i ∧
    ∀ (j : Nat) (x kv : V), xs[j]? = some x → kvs[j]? = some kv → IsKey kv (g x) H'
/-- what stands at f is called with one value -/
def KF (X : Cx) (pins : List (Addr × Obj)) (σ : L2.St) (f : Addr) (sp : Sp) : Prop := ∀ (st : Shared) (H' : Hp) (v : Value) (x : V) (Q : VK), Inv X pins σ H' st → RelV x v → sp [x] H' Q E0 → codeAny (model X.prog X.w) X.A.in1.in1 (.call (.ref f) ⟨[v], []⟩) (CR CX0 X.stack X.prog X.w H' st Q E0) st
theorem sortK_of {sp : Sp} {f : Addr} {Q : VK} {vs zs : List V} {us ws : List Value} (F : KF X pins σ f sp) (hu : X.A.in1.in1.units < cLine) (I : Inv X pins σ H s) (rv : Vals vs us) (rz : Vals zs ws) (h : rSortK X.K sp f vs zs H Q) :
    wpAny (model X.prog X.w) X.A (call (.builtin "sorted") us ([Str.ofString "key"].zip ws)) (EP X pins σ Q) X.xe s := by
  obtain ⟨l, xs, g, rfl, rfl, hl, key, q⟩ := h
  obtain ⟨u, rfl, ru⟩ := rv.one
  obtain ⟨f', rfl, rf⟩ := rz.one
  cases ru
  cases rf
  obtain ⟨its, r, pl, zl⟩ := I.list hl
  have li := r.length
  have zi : its.length ≤ sizeLine := by rw [← li]; exact zl
  show wpAny _ _ (call (.builtin "sorted") [.ref l] [(Str.ofString "key", .ref f)]) _ _ s
  refine sorted_head (vs := its) pl.isList zi fun h1 p hp hs g1 k1 => ?_
  refine sort_key (s := { s with heap := h1 }) g1 zi fun e1 ga gk => ?_
  have hp' : @Eq Nat p (s.heap.objs.size + 1) := hp
  have hpn : H p = none := I.hok.fresh (by omega)
  obtain ⟨e1', ho1⟩ : ∃ e1', (h1.update p (Obj.mapSeq fun _ => #[])).get? p = some (seqObj "list" #[] e1') := ⟨_, get?_update_seq g1 (fun _ => #[])⟩
  have ee : e1' = e1 := by
    have z := ga.symm.trans (Heap.get?_push_of_some (seqObj "list" #[] 0) (Heap.get?_push_of_some (seqObj "tuple" its.toArray 0) ho1))
    have z2 := Option.some.inj z
    have z3 : (Data.seq #[] e1 : Data) = Data.seq #[] e1' := congrArg Obj.data z2
    injection z3 with _ z4
    exact z4.symm
  subst ee
  have szu : (h1.update p (Obj.mapSeq fun _ => #[])).objs.size = p + 1 := by rw [Heap.size_update, hs]
  have I1 : Inv X pins σ (upd H p (exact_ p (seqObj "list" #[] e1'))) { s with heap := h1.update p (Obj.mapSeq fun _ => #[]) } :=
    I.laid (t' := s.toks) (fun b o e => (Heap.get?_update_ne _ _ _ _ (fun z => by
      have z' : @Eq Nat b p := z
      have y : @LT.lt Nat _ b s.heap.objs.size := Heap.lt_size e
      omega)).trans (k1 b o e)) (by omega) (exact_ok ho1)
  have hkS : h1.objs.size + 1 = p + 2 := by omega
  have gk' : (begun h1 p its).get? (h1.objs.size + 1) = some (seqObj "list" #[] 0) := gk
  have I2 : Inv X pins σ (upd (upd H p (exact_ p (seqObj "list" #[] e1'))) (h1.objs.size + 1) (exact_ (h1.objs.size + 1) (seqObj "list" #[] 0))) { s with heap := begun h1 p its } :=
    I1.laid (t' := s.toks) (fun b o e => Heap.get?_push_of_some _ (Heap.get?_push_of_some _ e)) (by show (h1.update p _).objs.size ≤ _; omega) (exact_ok gk')
  show wpAny _ _ (ksk_rest p (.ref f) false its.toArray e1' (.ref (h1.objs.size + 1))) _ _ { s with heap := begun h1 p its }
  have hk0 : ∃ kS : Addr, kS = h1.objs.size + 1 := ⟨_, rfl⟩
  obtain ⟨kS, hk0⟩ := hk0
  have hk0' : @Eq Nat kS (h1.objs.size + 1) := hk0
  rw [← hk0] at I2 gk' ⊢
  have nkp : kS ≠ p := fun z => by
    have z' : @Eq Nat kS p := z
    omega
  have hkn : H kS = none := I.hok.fresh (by omega)
  refine key_rest (J X pins σ H xs g p kS e1') ⟨_, [], 0, I2, fun b o e => ?_, by rw [upd_ne nkp.symm, upd_same], upd_same, .nil, rfl, fun j x kv _ z => by cases z⟩ ?_ ?_
  · rw [upd_ne (ne_of_none e hkn), upd_ne (ne_of_none e hpn)]
    exact e
  · rintro i ks st v ⟨H', kvs, ek, I', ex, hpx, hk', rk, lk, isk⟩ hv
    obtain ⟨x, hx, rx⟩ := val_of r hv
    have i0 : i < its.length := (List.getElem?_eq_some_iff.mp hv).1
    have sp' := key x (List.mem_of_getElem? hx) H' ex
    refine wpAny_call (codeAny_mono (F st H' v x (fun kv H'' => (∀ b o, H' b = some o → H'' b = some o) ∧ IsKey kv (g x) H'') I' rx sp') ?_)
    rintro (e | fl) st' hq
    · exact hq.elim
    · cases fl with
      | ret k =>
        obtain ⟨kv, H2, I3, rkv, sm, ik⟩ := I'.after hq
        have hk2 := sm _ _ hk'
        have g2 := exact_at I3 hk2
        obtain ⟨e2, g3⟩ : ∃ e2, (st'.heap.update kS (Obj.mapSeq (·.push k))).get? kS = some (seqObj "list" (ks.toArray.push k) e2) := ⟨_, get?_update_seq g2 (·.push k)⟩
        have lks : ks.length = i := by rw [← rk.length]; exact lk
        refine ⟨ek, g2, by omega, upd H2 kS (exact_ kS (seqObj "list" (ks ++ [k]).toArray e2)), kvs ++ [kv], e2, ?_, fun b o e => ?_, ?_, upd_same, rk.append (.cons rkv .nil), by rw [List.length_append, List.length_singleton, lk], fun j y kw hy hkw => ?_⟩
        · have g4 : (st'.heap.update kS (Obj.mapSeq (·.push k))).get? kS = some (seqObj "list" (ks ++ [k]).toArray e2) := by
            rw [g3]
            simp
          exact I3.write (t' := st'.toks) (x := kS) (e := kS) (by rw [hk2]; exact trivial) (.inl rfl) (fun b o hb e => (Heap.get?_update_ne _ _ _ _ hb).trans e) ⟨_, g4⟩ (exact_ok g4)
        · rw [upd_ne (ne_of_none e hkn)]
          exact sm _ _ (ex _ _ e)
        · rw [upd_ne nkp.symm]
          exact sm _ _ hpx
        · have kk : IsKey kw (g y) H2 := by
            by_cases hj : j < kvs.length
            · rw [List.getElem?_append_left hj] at hkw
              exact (isk j y kw hy hkw).keep fun b o e _ => sm _ _ e
            · have ej : j = i := by
                have := (List.getElem?_eq_some_iff.mp hkw).1
                rw [List.length_append, List.length_singleton] at this
                omega
              subst ej
              rw [List.getElem?_append_right (by omega), lk, Nat.sub_self] at hkw
              cases hkw
              rw [hx] at hy
              cases hy
              exact ik
          refine kk.keep fun b o e tt => ?_
          rw [upd_ne (fun z => ?_)]
          · exact e
          · obtain ⟨ts, rfl⟩ := tt
            rw [z, hk2] at e
            cases e
      | next => exact False.elim hq
      | brk => exact False.elim hq
      | cont => exact False.elim hq
  · rintro ks st ⟨H', kvs, ek, I', ex, hpx, hk', rk, lk, isk⟩
    have gk2 := exact_at I' hk'
    have gp2 := exact_at I' hpx
    have lks : ks.length = its.length := by rw [← rk.length]; exact lk
    refine ⟨⟨_, gk2⟩, ?_⟩
    have keyAt : ∀ (j : Nat) (u : Value), ks[j]? = some u → ∃ x, xs[j]? = some x ∧ IsK st.heap u (g x) := fun j u hj => by
      obtain ⟨kv, h1, h2⟩ := val_of rk hj
      have j1 : j < xs.length := by
        have := (List.getElem?_eq_some_iff.mp hj).1
        omega
      exact ⟨xs[j], List.getElem?_eq_getElem j1, isk_of I' h2 (isk j _ kv (List.getElem?_eq_getElem j1) h1)⟩
    have keyIn : ∀ u ∈ ks, ∃ k, IsK st.heap u k := fun u hu => by
      obtain ⟨j, hj, e⟩ := List.getElem_of_mem hu
      obtain ⟨x, _, h⟩ := keyAt j u (by rw [List.getElem?_eq_getElem hj, e])
      exact ⟨_, h⟩
    refine key_end (κ := tuples' true) (swo_v st.heap) gk2 gp2 nkp (by rw [List.size_toArray]; exact lks) zi (fun h2 Q E h => kindK keyIn (by omega) h) ?_ ?_
    · intro a b ha hb
      have ha' : a.1 ∈ ks := by simpa using ha
      have hb' : b.1 ∈ ks := by simpa using hb
      obtain ⟨k1, h1⟩ := keyIn _ ha'
      obtain ⟨k2, h2⟩ := keyIn _ hb'
      refine wpAny_mono (cmpK h1 h2 hu) (fun c s' hc => ?_) fun _ _ x => x
      refine ⟨hc.1, hc.2.trans ?_⟩
      show _ = ltK (dec st.heap a.1) (dec st.heap b.1)
      rw [dec_eq h1, dec_eq h2]
    · intro ps srt stb
      have pz : ps.Perm (ks.zip its) := by
        have := stb.perm
        rw [Array.toList_zip] at this
        exact this
      have lz : (ks.zip its).length = its.length := by rw [List.length_zip]; omega
      obtain ⟨l', pm, el⟩ := perm_lift (fun z : V × Keyed => z.2) pz (xs.zip (ks.zip its)) (List.map_snd_zip (by omega))
      have mem : ∀ z ∈ xs.zip (ks.zip its), RelV z.1 z.2.2 ∧ dec st.heap z.2.1 = g z.1 := fun z hz => by
        obtain ⟨j, hj, e⟩ := List.getElem_of_mem hz
        have j1 : j < xs.length := by rw [List.length_zip] at hj; omega
        have j2 : j < ks.length := by omega
        have j3 : j < its.length := by omega
        rw [List.getElem_zip, List.getElem_zip] at e
        subst e
        obtain ⟨x, hx, rx⟩ := val_of r (List.getElem?_eq_getElem j3)
        obtain ⟨y, hy, ky⟩ := keyAt j _ (List.getElem?_eq_getElem j2)
        rw [List.getElem?_eq_getElem j1] at hx hy
        cases hx
        cases hy
        exact ⟨rx, dec_eq ky⟩
      have mem' : ∀ z ∈ l', RelV z.1 z.2.2 ∧ dec st.heap z.2.1 = g z.1 := fun z hz => mem z (pm.mem_iff.mp hz)
      have vals : Vals (l'.map (·.1)) (ps.map (·.2)) := by
        rw [← el, List.map_map]
        exact vals_maps (fun z : V × Keyed => z.1) (fun z => z.2.2) l' fun z hz => (mem' z hz).1
      have perm : (l'.map (·.1)).Perm xs := by
        have := pm.map (fun z : V × Keyed => z.1)
        rw [List.map_fst_zip (by omega)] at this
        exact this
      have pw : (l'.map (·.1)).Pairwise (fun a b => ltK (g b) (g a) = false) := by
        rw [← el] at srt
        refine List.pairwise_map.mpr (List.Pairwise.imp_of_mem (fun {a b} ha hb h => ?_) (List.pairwise_map.mp srt))
        have h' : ltK (dec st.heap b.2.1) (dec st.heap a.2.1) = false := h
        rw [(mem' a ha).2, (mem' b hb).2] at h'
        exact h'
      obtain ⟨e3, g3⟩ : ∃ e3, (st.heap.update kS (Obj.mapSeq fun _ => (#[] : Array Value))).get? kS = some (seqObj "list" #[] e3) := ⟨_, get?_update_seq gk2 fun _ => #[]⟩
      have I4 : Inv X pins σ (upd H' kS (exact_ kS (seqObj "list" #[] e3))) { st with heap := st.heap.update kS (Obj.mapSeq fun _ => (#[] : Array Value)) } :=
        I'.write (t' := st.toks) (x := kS) (e := kS) (by rw [hk']; exact trivial) (.inl rfl) (fun b o hb e => (Heap.get?_update_ne _ _ _ _ hb).trans e) ⟨_, g3⟩ (exact_ok g3)
      have gp3 : (st.heap.update kS (Obj.mapSeq fun _ => (#[] : Array Value))).get? p = some (seqObj "list" #[] e1') := (Heap.get?_update_ne _ _ _ _ nkp.symm).trans gp2
      obtain ⟨e4, g4⟩ : ∃ e4, (left st.heap kS p ps).get? p = some (seqObj "list" (ps.map (·.2)).toArray e4) := ⟨_, get?_update_seq gp3 (fun _ => (ps.map (fun z : Keyed => z.2)).toArray)⟩
      have len : (l'.map (·.1)).length ≤ sizeLine := by rw [perm.length_eq]; omega
      have I5 : Inv X pins σ (upd (upd H' kS (exact_ kS (seqObj "list" #[] e3))) p (.lst (l'.map (·.1)))) { st with heap := left st.heap kS p ps } :=
        I4.write (t' := st.toks) (x := p) (e := p) (by rw [upd_ne nkp.symm, hpx]; exact trivial) (.inl rfl) (fun b o hb e => (Heap.get?_update_ne _ _ _ _ hb).trans e) ⟨_, g4⟩ ⟨len, _, e4, vals, g4⟩
      refine ⟨rfl, .ref p, _, I5, rfl, q _ _ p perm pw (fun b o e => ?_) hpn upd_same⟩
      rw [upd_ne (ne_of_none e hpn), upd_ne (ne_of_none e hkn)]
      exact ex _ _ e
theorem cr_sortK {sp : Sp} {f : Addr} {n : Nat} (F : FnR X.prog X.w X.K X.mg X.base CX0 n f sp) (hr : Room n X.A.in1.in1) (hu : X.A.in1.in1.units < cLine) : CallRK X (.builtin "sorted") [Str.ofString "key"] (rSortK X.K sp f) :=
  fun pins s σ H vs zs us ws Q I rv rz h => sortK_of (fun st H' v x Q' I' rx h' => F X.A.in1.in1 X.stack st H' [v] [x] Q' E0 hr I'.env0.in1.in1 (.cons rx .nil) h') hu I rv rz h
end
end SortH
/-! sorted(xs, key=lambda x: ..) -/
namespace SortL
open PySem PySem.Spec L2 SortH LamX
open PyProof.Rows hiding St
theorem lam1_at {P : Program} {w : World} {K : PySem.W.Frag} {mg : Str → Option Value} {base : Heap} {A : Around} {outer : List Env} {st : Shared} {H : Hp} {f c' : Addr} {q : Str} {params : Arguments} {body : Expr} {scope : Scope} {pm ctv v : Value} {x : Str} {k : Nat} {xv : V} {tb : TE} {Q : VK}
    (hf : st.heap.get? f = some (PySem.W.kla_obj "<lambda>" q params body scope [] pm c' ctv)) (hc : ∃ (oc : Obj) (vs : Array Value) (t : Tok), st.heap.get? c' = some oc ∧ oc.data = .fields vs ∧ vs[1]? = some (.str q t)) (S : FnScope [x] [x] scope) (hl : scope.names.lookup x = some NameKind.local)
    (hbind : bindArgs (PySem.W.kla_fn "<lambda>" q params body scope [] pm (.ref c') ctv) ⟨[v], []⟩ = pure [(x, v)]) (hr : Room (k + 1) A) (e0 : Env0 P w K mg base A outer st H) (rv : RelV xv v)
    (hbody : Room k (A.deeper (envOfC q scope st.heap.objs.size f (.ref c'))) → PE (cxOf CX0 P w K mg base [x] q scope f (.ref c') A outer st H E0) body tb) (h : tb [some xv] H Q) :
    codeAny (model P w) A (.call (.ref f) ⟨[v], []⟩) (CR CX0 outer P w H st Q E0) st := by
  obtain ⟨oc, vs, t, hoc, hdc, hvc⟩ := hc
  have lim : st.heap.NoLimit := e0.mod.nolimit.keeps fun b o e => (e0.bs b o e).1
  have kinds : ∀ y ∈ [x].zip [v], scope.names.lookup y.1 = some .local ∨ (scope.names.lookup y.1 = some .cell ∧ ((cellsFrom (st.heap.objs.size + 1) scope.names []).lookup y.1).isSome = true) := by
    intro y hy
    have e : y = (x, v) := by simpa using hy
    rw [e]
    exact Or.inl hl
  refine PySem.W.kla_callFunE hr.depth hf rfl S.co S.gen rfl ⟨c', oc, vs, t, rfl, hoc, hdc, hvc⟩ ?_
  rw [hbind]
  refine wpAny_pure ?_
  show wpAny _ _ (newFunctionEnv scope mainGlobals [] ([x].zip [v]) (q ++ ".<locals>.") (some f) (.ref c') none builtinsNs) _ _ st
  refine wpAny_newFunctionEnv_cells S.kind kinds fun env he s1 z => ?_
  subst he
  refine ⟨lim.keeps z.toInCall.keep, ?_⟩
  have I := inv_start (CX := CX0) (E := E0) (vs := [xv]) S hr.hd e0 rfl (.cons rv .nil) z
  refine PySem.W.kla_codeExpr (wpAny_mono ((hbody (hr.deeper _)).run [] s1 _ H Q I h) (fun u s2 y => ?_) fun e s2 y => y)
  obtain ⟨y, H2, J, ry, qy⟩ := y
  exact ⟨y, H2, J.os, J.bare, J.base, J.hok, ry, qy⟩
def tSortLam (K : PySem.W.Frag) (T : List (Addr × Str)) (tb : TE) (t : TA) : TE := fun σ H Q => t σ H fun vs H1 => Tabs T H1 ∧ ∀ H2, ExtN H1 H2 → Tabs T H2 → ∃ (l : Addr) (xs : List V) (g : V → SortT.Key), vs = [.ref l] ∧ SqL K H2 l xs ∧
  (∀ x ∈ xs, ∀ H3 : Hp, (∀ b o, H2 b = some o → H3 b = some o) → tb [some x] H3 fun kv H4 => (∀ b o, H3 b = some o → H4 b = some o) ∧ IsKey kv (g x) H4) ∧
  ∀ (ys : List V) (H3 : Hp) (p : Addr), ys.Perm xs → ys.Pairwise (fun a b => SortT.ltK (g b) (g a) = false) → (∀ b o, H2 b = some o → H3 b = some o) → H2 p = none → H3 p = some (.lst ys) → Q (.ref p) H3
section
variable {X : Cx}
theorem pe_sortLam {T : List (Addr × Str)} {c P : Addr} {k : Nat} {e : Expr} {t : TA} {tb : TE} {x : Str} {params : Arguments} {body : Expr} {scope : Scope} {lpos kpos p pos : Pos} (ha : PA X [e] t) (hg : Gl X "sorted") (zO : X.mg "sorted" = none)
    (TB : TabB X.base X.mg c P) (hcode : X.env.code = .ref c) (hm : (P, X.env.qual ++ "<lambda>") ∈ T) (hu : ∀ p ∈ T, p.1 = P → p.2 = X.env.qual ++ "<lambda>") (hdef : defaultsOf params X.env = ([], [])) (hfree : ∀ y ∈ scope.names, y.2 ≠ .free) (hclo : cloFrom X.env.cells scope.names [] = [])
    (S : FnScope [x] [x] scope) (hl : scope.names.lookup x = some NameKind.local) (hbind : ∀ (q : Str) (pm cv ctv v : Value), bindArgs (PySem.W.kla_fn "<lambda>" q params body scope [] pm cv ctv) ⟨[v], []⟩ = pure [(x, v)])
    (hr : Room (k + 3) X.A) (hst : X.stack = X.env :: X.outer) (hfm : X.env.frame = some X.env.locals)
    (hbody : ∀ (A : Around) (outer : List Env) (s : Shared) (H : Hp) (f c' : Addr), Room k (A.deeper (envOfC (X.env.qual ++ "<lambda>") scope s.heap.objs.size f (.ref c'))) → PE (cxOf CX0 X.prog X.w X.K X.mg X.base [x] (X.env.qual ++ "<lambda>") scope f (.ref c') A outer s H E0) body tb)
    (he : backTo pos (starEach [e] X.env) = (false, eval e X.env) :: backTo pos (starEach [] X.env) := by rfl) (hpl : (backTo pos (starEach [e] X.env)).any (·.1) = false := by rfl) :
    PE X (.Call (.Name "sorted" p) [e] [⟨some "key", .Lambda params body scope lpos, kpos⟩] pos) (tSortLam X.K T tb t) := by
  refine ⟨fun pins s σ H Q I h => ?_⟩
  refine wpAny_Call_Name_kw (ld_blt I hg zO (show bootBuiltins "sorted" = some (.builtin "sorted") by decide +kernel) ?_ (by decide) (by decide))
  refine PyProof.Rows.callWith_kw (thn (ha.run pos pins s σ H _ I h) fun us s1 q1 => ?_) he hpl (by rfl) (by rfl)
  obtain ⟨vs, H1, I1, r1, hT, q1⟩ := q1
  show wpAny _ _ (evalAll [(do let v ← eval (.Lambda params body scope lpos) X.env; standAt pos; pure v)]) _ _ s1
  refine wpAny_evalAll_cons (wpAny_bind (lam_make2 I1 TB hcode hm hu hT hdef (fun y hy z => absurd z (hfree y hy)) fun f c' pm ctv H2 s2 I2 eN T2 hf hfn hfr hco => wpAny_bind (wpAny_standAt (wpAny_pure (wpAny_evalAll_nil ?_)))))
  rw [hclo] at hf
  obtain ⟨l, xs, g, rfl, hq, key, q2⟩ := q1 H2 eN T2
  have nL : f ≠ X.env.locals := fun z => hfr (List.mem_filterMap.mpr ⟨X.env, by rw [hst]; exact List.mem_cons_self, by rw [hfm, z]⟩)
  have nF : f ∉ X.fs := fun z => by
    obtain ⟨en, h1, h2⟩ := List.mem_filterMap.mp z
    exact hfr (List.mem_filterMap.mpr ⟨en, by rw [hst]; exact List.mem_cons_of_mem _ h1, h2⟩)
  have I3 : Inv X ((f, PySem.W.kla_obj "<lambda>" (X.env.qual ++ "<lambda>") params body scope [] pm c' ctv) :: pins) σ H2 s2 := I2.pins_of fun p hp => by
    rcases List.mem_cons.mp hp with z | z
    · rw [z]
      exact ⟨hf, hfn, nL, nF, fun v q => by cases q⟩
    · exact I2.pin p (List.mem_append_right _ z)
  have h2 := hr.in1.in1
  have run := sortK_of (X := X) (zs := [.ref f]) (ws := [.ref f]) (Q := Q) (sp := fun ws H Q _ => H c' = some (CodeO c' (X.env.qual ++ "<lambda>")) ∧ ∃ x, ws = [x] ∧ tb [some x] H Q) (f := f) (fun st H3 v xv Q3 I4 rx ⟨hc4, y, ey, h4⟩ => ?_) h2.units0 I3 r1 (.cons rfl .nil)
    ⟨l, xs, g, rfl, rfl, hq, fun y hy H3 k3 => ⟨k3 _ _ hco, y, rfl, key y hy H3 k3⟩, q2⟩
  · refine wpAny_mono run (fun u s3 z => ?_) fun _ _ z => z
    obtain ⟨y, H3, I4, ry, qy⟩ := z
    exact ⟨y, H3, I4.pins_of fun p hp => I4.pin p (List.mem_append_right _ (List.mem_cons_of_mem _ hp)), ry, qy⟩
  · cases ey
    have pf := (I4.pin (f, _) (List.mem_append_right _ List.mem_cons_self)).1
    obtain ⟨⟨oc, vs, t, hoc, hdc, hvc⟩, _, _⟩ := I4.hok c' _ hc4
    exact lam1_at pf ⟨oc, vs, t, hoc, hdc, hvc⟩ S hl (hbind _ _ _ _ _) h2 I4.env0.in1.in1 rx (fun h5 => hbody _ _ st H3 f c' h5) h4
end
end SortL
/-! a generator def with a for around its yield, whose consumer may do more than fill a list -/
namespace GfX
open PySem PySem.Spec GenW L2
open PyProof.Rows hiding St
/-- from s to s' the generator slept: C are its consumer's own objects, fs the frames below -/
structure Nap (P : Program) (w : World) (fs C : List Addr) (H : Hp) (s s' : Shared) : Prop where
  os : s'.os = s.os
  bare : AllBare s'.gens
  keep : ∀ b o, b ∉ C → b ∉ fs → s.heap.get? b = some o → H b = none → s'.heap.get? b = some o
  slot : ∀ b o, b ∉ C → b ∈ fs → s.heap.get? b = some o → H b = none → ∃ sl, s'.heap.get? b = some { o with slots := sl }
  there : ∀ b o, s.heap.get? b = some o → ∃ o', s'.heap.get? b = some o'
  own : ∀ b ∈ C, ∃ o, s'.heap.get? b = some o ∧ ∀ v, o.data ≠ .cell v
  hok : HOk P w H s'.heap
/-- the consumer's objects are younger than the generator's entry -/
def Away (X : Cx) (C : List Addr) : Prop := ∀ b ∈ C, X.s_0.heap.objs.size ≤ b ∧ ∀ x c, X.env.cells.lookup x = some c → c ≠ b
/-- what is out: each item with the heap as it was then -/
abbrev Out := List (V × Hp)
/-- the generator runs, woken at s₀; T: what its consumer made of the items -/
structure Run (X : Cx) (C : List Addr) (T : Out → Shared → Prop) (ys : Out) (s₀ : Shared) (ip : List (Addr × Obj)) (σ : St) (H : Hp) (s : Shared) : Prop where
  own : ∀ b ∈ C, ∃ o, s₀.heap.get? b = some o
  tie : T ys s₀
  inv : Inv X (pinsAt C s₀.heap ++ ip) σ H s
theorem Run.at {X : Cx} {C : List Addr} {T : Out → Shared → Prop} {ys : Out} {s₀ s : Shared} {ip : List (Addr × Obj)} {σ : St} {H : Hp} (r : Run X C T ys s₀ ip σ H s) {b : Addr} (hb : b ∈ C) : s.heap.get? b = s₀.heap.get? b ∧ H b = none ∧ b ≠ X.env.locals ∧ b ∉ X.fs := by
  obtain ⟨o, e⟩ := r.own b hb
  obtain ⟨h1, h2, h3, h4, _⟩ := r.inv.pin (b, o) (List.mem_append_right _ (List.mem_append_left _ (mem_pinsAt hb e)))
  exact ⟨h1.trans e.symm, h2, h3, h4⟩
theorem Run.bareI {X : Cx} {C : List Addr} {T : Out → Shared → Prop} {ys : Out} {s₀ s : Shared} {ip : List (Addr × Obj)} {σ : St} {H : Hp} (r : Run X C T ys s₀ ip σ H s) : Inv X ip σ H s :=
  r.inv.pins_of fun p hp => r.inv.pin p (List.mem_append_right _ (List.mem_append_right _ hp))
theorem Run.woken {X : Cx} {C : List Addr} {T : Out → Shared → Prop} {ys yn : Out} {s₀ s s' : Shared} {ip : List (Addr × Obj)} {σ : St} {H : Hp} (hpn : ∀ p ∈ X.pn, p.1 ∉ C) (hip : ∀ p ∈ ip, p.1 ∉ C) (hA : Away X C) (r : Run X C T ys s₀ ip σ H s) (z : Nap X.prog X.w X.fs C H s s') (tn : T yn s') :
    Run X C T yn s' ip σ H s' := by
  have I := r.bareI
  have lf : X.env.locals ∉ X.fs := fun h => by
    obtain ⟨_, o, ho, _⟩ := I.ok.funs.mem h
    exact absurd (Nat.lt_of_lt_of_le (Heap.lt_size ho) I.ok.above) (Nat.lt_irrefl _)
  have nL : X.env.locals ∉ C := fun h => (r.at h).2.2.1 rfl
  obtain ⟨os, bare, keep, slot, there, own, hok⟩ := z
  obtain ⟨h', g', d', t', o'⟩ := s'
  have e : o' = s.os := os
  subst e
  have J : Inv X ip σ H { s with heap := h', gens := g', drawn := d', toks := t' } := by
    refine I.step (ch := C) (fun b hb => ⟨.inr (hA b hb).1, (r.at hb).2.2.1, (hA b hb).2, fun p hp q => ?_⟩) (fun b o _ hf hc e n => keep b o hc hf e n) (fun b o _ hf hc e n => slot b o hc hf e n) (fun _ _ _ _ n => n) (fun b o _ e => there b o e)
      (fun _ _ q => q) (fun _ _ _ q => q) (fun b ps q => ⟨#[], by rw [q]; simp⟩) (fun m hm => ?_) hok bare
    · rcases List.mem_append.mp hp with y | y
      · exact hpn p y (by rw [q]; exact hb)
      · exact hip p y (by rw [q]; exact hb)
    · obtain ⟨o, es, ep, ho, rest⟩ := hm
      exact ⟨o, es, ep, keep _ o nL lf ho I.free, rest⟩
  refine ⟨fun b hb => (own b hb).imp fun o q => q.1, tn, J.pins_of fun p hp => ?_⟩
  rcases List.mem_append.mp hp with y | y
  · obtain ⟨hb, e1⟩ := of_pinsAt y
    obtain ⟨_, a2, a3, a4⟩ := r.at hb
    obtain ⟨o, e2, e3⟩ := own p.1 hb
    rw [e1] at e2
    cases e2
    exact ⟨e1, a2, a3, a4, e3⟩
  · exact J.pin p (List.mem_append_right _ y)
structure GE where
  nx : Out → St → Hp → Prop
  rt : Out → VK
  bk : Out → St → Hp → Prop := fun _ _ _ => False
  ct : Out → St → Hp → Prop := fun _ _ _ => False
abbrev TG2 := GE → Out → St → Hp → Prop
def GE.ends (D : GE) (ys : Out) : Ends := { nx := D.nx ys, rt := D.rt ys, bk := D.bk ys, ct := D.ct ys }
def Fl (X : Cx) (C : List Addr) (T : Out → Shared → Prop) (s₀ : Shared) (ip : List (Addr × Obj)) (D : GE) (ys : Out) (f : Flow) (s : Shared) : Prop :=
  match f with
  | .next => ∃ σ H, Run X C T ys s₀ ip σ H s ∧ D.nx ys σ H
  | .brk => ∃ σ H, Run X C T ys s₀ ip σ H s ∧ D.bk ys σ H
  | .cont => ∃ σ H, Run X C T ys s₀ ip σ H s ∧ D.ct ys σ H
  | .ret u => ∃ v σ H, Run X C T ys s₀ ip σ H s ∧ RelV v u ∧ D.rt ys v H
def YP (X : Cx) (C : List Addr) (T : Out → Shared → Prop) (Yl : Out → V → Hp → Prop) : Protocol := fun n s₀ v s kap =>
  ∃ ys x ip σ H, n + 1 + ys.length = sizeLine ∧ RelV x v ∧ Run X C T ys s₀ ip σ H s ∧ Yl ys x H ∧ ∀ s', Nap X.prog X.w X.fs C H s s' → T (ys ++ [(x, H)]) s' → kap (.send .none) s'
def RP (X : Cx) (C : List Addr) (T : Out → Shared → Prop) (Q : Out → VK) (F : Value → Shared → Prop) : GenEnd := fun n s₀ r s => match r with
  | .ok (.ret u) => ∃ ys v ip σ H, n + ys.length = sizeLine ∧ Run X C T ys s₀ ip σ H s ∧ RelV v u ∧ Q ys v H
  | .ok _ => False
  | .error e => F e s
/-- where its code stands -/
structure Pl (X : Cx) (C : List Addr) (ip : List (Addr × Obj)) (A : Around) (c : Code) (fs : List Frame) (gd : Bool → Bool) : Prop where
  pn : ∀ p ∈ X.pn, p.1 ∉ C
  ip : ∀ p ∈ ip, p.1 ∉ C
  away : Away X C
  over : A.over c fs = X.A
  split : splitAtGen fs = none
  guard : fs.any Frame.guarded = false
  gd : gd false = false
/-- what comes behind -/
structure Kn (X : Cx) (C : List Addr) (T : Out → Shared → Prop) (Yl : Out → V → Hp → Prop) (ip : List (Addr × Obj)) (A : Around) (R : GenEnd) (c : Code) (fs : List Frame) (K : Flow → Sem PySem.Fin) (J : Value → Sem PySem.Fin) (D : GE) : Prop where
  ok : ∀ (n : Nat) (ys : Out) (s₀ s : Shared) (f : Flow), n + ys.length = sizeLine → Fl X C T s₀ ip D ys f s → Seg (model X.prog X.w) A R (YP X C T Yl) n s₀ c (K f) fs s
  exc : ∀ (n : Nat) (s₀ : Shared) (e : Value) (s : Shared), X.xe e s → Seg (model X.prog X.w) A R (YP X C T Yl) n s₀ c (J e) fs s
structure G1 (X : Cx) (Yl : Out → V → Hp → Prop) (st : Stmt) (t : TG2) : Prop where
  run : ∀ (A : Around) (C : List Addr) (T : Out → Shared → Prop) (ip : List (Addr × Obj)) (R : GenEnd) (n : Nat) (ys : Out) (s₀ : Shared) (c : Code) (fs : List Frame) (K : Flow → Sem PySem.Fin) (J : Value → Sem PySem.Fin) (gd : Bool → Bool) (lv : List Value → List Value) (s : Shared) (σ : St) (H : Hp) (D : GE),
    Pl X C ip A c fs gd → n + ys.length = sizeLine → Kn X C T Yl ip A R c fs K J D → Run X C T ys s₀ ip σ H s → t D ys σ H → Seg (model X.prog X.w) A R (YP X C T Yl) n s₀ c ((exec st X.env).wrap K J gd lv) fs s
structure Gn (X : Cx) (Yl : Out → V → Hp → Prop) (st : List Stmt) (t : TG2) : Prop where
  run : ∀ (A : Around) (C : List Addr) (T : Out → Shared → Prop) (ip : List (Addr × Obj)) (R : GenEnd) (n : Nat) (ys : Out) (s₀ : Shared) (c : Code) (fs : List Frame) (K : Flow → Sem PySem.Fin) (J : Value → Sem PySem.Fin) (gd : Bool → Bool) (lv : List Value → List Value) (s : Shared) (σ : St) (H : Hp) (D : GE),
    Pl X C ip A c fs gd → n + ys.length = sizeLine → Kn X C T Yl ip A R c fs K J D → Run X C T ys s₀ ip σ H s → t D ys σ H → Seg (model X.prog X.w) A R (YP X C T Yl) n s₀ c ((execs st X.env).wrap K J gd lv) fs s
section
variable {X : Cx} {Yl : Out → V → Hp → Prop} {st : Stmt} {rest : List Stmt}
theorem fl_of {C : List Addr} {T : Out → Shared → Prop} {s₀ s : Shared} {ip : List (Addr × Obj)} {D : GE} {ys : Out} {f : Flow} (h0 : ∀ b ∈ C, ∃ o, s₀.heap.get? b = some o) (ht : T ys s₀) (h : SP X (pinsAt C s₀.heap ++ ip) (D.ends ys) f s) : Fl X C T s₀ ip D ys f s := by
  cases f with
  | next => obtain ⟨σ, H, I, q⟩ := h; exact ⟨σ, H, ⟨h0, ht, I⟩, q⟩
  | brk => obtain ⟨σ, H, I, q⟩ := h; exact ⟨σ, H, ⟨h0, ht, I⟩, q⟩
  | cont => obtain ⟨σ, H, I, q⟩ := h; exact ⟨σ, H, ⟨h0, ht, I⟩, q⟩
  | ret u => obtain ⟨v, σ, H, I, rv, q⟩ := h; exact ⟨v, σ, H, ⟨h0, ht, I⟩, rv, q⟩
def tPl (t : TS) : TG2 := fun D ys σ H => t (D.ends ys) σ H
theorem g1_ps {t : TS} (h : PS X st t) : G1 X Yl st (tPl t) :=
  ⟨fun A C T ip R n ys s₀ c fs K J gd lv s σ H D g hn k r ht => seg_wrap (by
    rw [g.over]
    exact wpAny_mono (h.run _ s σ H (D.ends ys) r.inv ht) (fun f s' q => k.ok n ys s₀ s' f hn (fl_of r.own r.tie q)) (fun x s' q => k.exc n s₀ x s' q))⟩
def tGn0 : TG2 := fun D ys σ H => D.nx ys σ H
theorem gn_nil : Gn X Yl [] tGn0 :=
  ⟨fun A C T ip R n ys s₀ c fs K J gd lv s σ H D g hn k r ht => seg_execs_nil (k.ok n ys s₀ s .next hn ⟨σ, H, r, ht⟩)⟩
def tGnC (t u : TG2) : TG2 := fun D ys σ H => t { D with nx := fun ys' σ' H' => u D ys' σ' H' } ys σ H
theorem gn_cons {t u : TG2} (a : G1 X Yl st t) (b : Gn X Yl rest u) : Gn X Yl (st :: rest) (tGnC t u) := by
  refine ⟨fun A C T ip R n ys s₀ c fs K J gd lv s σ H D g hn k r ht => seg_execs_cons (a.run A C T ip R n ys s₀ c fs _ J gd lv s σ H { D with nx := fun ys' σ' H' => u D ys' σ' H' } g hn ⟨?_, k.exc⟩ r ht)⟩
  intro n2 ys2 z2 s2 f hn2 q
  cases f with
  | next =>
    obtain ⟨σ2, H2, r2, q2⟩ := q
    exact b.run A C T ip R n2 ys2 z2 c fs K J gd lv s2 σ2 H2 D g hn2 k r2 q2
  | brk => exact k.ok n2 ys2 z2 s2 .brk hn2 q
  | cont => exact k.ok n2 ys2 z2 s2 .cont hn2 q
  | ret u => exact k.ok n2 ys2 z2 s2 (.ret u) hn2 q
def tGnY (Yl : Out → V → Hp → Prop) (te : TE) : TG2 := fun D ys σ H => ys.length < sizeLine ∧ te σ H fun x H1 => Yl ys x H1 ∧ D.nx (ys ++ [(x, H1)]) σ H1
theorem g1_yield {e : Expr} {yp pos : Pos} {te : TE} (he : PE X e te) (hco : X.env.scope.isCoroutine = false := by rfl) (hi : interactive X.env = false := by rfl) : G1 X Yl (.Expr (.Yield (some e) yp) pos) (tGnY Yl te) := by
  refine ⟨fun A C T ip R n ys s₀ c fs K J gd lv s σ H D g hn k r ht => ?_⟩
  obtain ⟨hlt, ht⟩ := ht
  cases n with
  | zero => omega
  | succ n =>
    refine seg_Expr_Yield g.split g.gd g.guard ?_ hco hi
    rw [g.over]
    refine wpAny_mono (he.run _ s σ H _ r.inv ht) (fun v s1 q => ?_) (fun x s1 q => k.exc _ s₀ x s1 q)
    obtain ⟨x, H1, I1, rv, hY, hx⟩ := q
    have r1 : Run X C T ys s₀ ip σ H1 s1 := ⟨r.own, r.tie, I1⟩
    intro kap hk
    refine ⟨ys, x, ip, σ, H1, hn, rv, r1, hY, fun s2 z tz => hk .none s2 (k.ok n _ s2 s2 .next ?_ ⟨σ, H1, r1.woken g.pn g.ip g.away z tz, hx⟩)⟩
    rw [List.length_append, List.length_singleton]
    omega
end
end GfX
/-! for in a generator def -/
namespace GfX
open PySem PySem.Spec GenW L2
open PyProof.Rows hiding St
section
variable {X : Cx} {Yl : Out → V → Hp → Prop} {C : List Addr} {T : Out → Shared → Prop} {ip : List (Addr × Obj)} {A : Around} {R : GenEnd} {c : Code} {fs : List Frame} {K : Flow → Sem PySem.Fin} {J : Value → Sem PySem.Fin} {gd : Bool → Bool} {lv : List Value → List Value} {D : GE}
theorem seg_back {n : Nat} {s₀ s : Shared} {e : Value} (g : Pl X C ip A c fs gd) (k : Kn X C T Yl ip A R c fs K J D) (h : cameBackBy (model X.prog X.w) X.A X.env X.xe e s) :
    Seg (model X.prog X.w) A R (YP X C T Yl) n s₀ c (((Sem.raise e : Sem Flow).onRaise (cameBack X.env)).wrap K J gd lv) fs s := by
  have key : ((Sem.raise e : Sem Flow).onRaise (cameBack X.env)).wrap K J gd lv = (cameBack X.env e).wrap (fun _ => J e) J (fun b => gd (id b)) (fun l => lv (id l)) := by
    show ((cameBack X.env e).bind fun _ => (Sem.raise e : Sem Flow)).wrap K J gd lv = _
    rw [Sem.bind_eq_wrap, Sem.wrap_wrap] <;> rfl
  rw [key]
  refine seg_wrap ?_
  rw [g.over]
  exact wpAny_mono h (fun _ s1 q => k.exc n s₀ e s1 q) (fun x s1 q => k.exc n s₀ x s1 q)
theorem Pl.loop {c' : Code} {q : Result → Sem PySem.Fin} {l kp : List Value} {p : Pos} (g : Pl X C ip A c fs gd) (hw : c'.weight = 0) (hu : c'.cUnits = 0) {g2 : Bool → Bool} (h2 : g2 false = false) :
    Pl X C ip A c' (.ret q none (gd false) l c p kp :: fs) g2 := by
  refine ⟨g.pn, g.ip, g.away, (over_loop hw hu).trans g.over, ?_, ?_, h2⟩
  · show Option.map _ (splitAtGen fs) = none
    rw [g.split] <;> rfl
  · show (gd false || List.any fs Frame.guarded) = false
    rw [g.gd, g.guard] <;> rfl
theorem Pl.with {il : List (Addr × Obj)} (g : Pl X C ip A c fs gd) (h : ∀ p ∈ il, p.1 ∉ C) : Pl X C (ip ++ il) A c fs gd :=
  ⟨g.pn, fun p hp => (List.mem_append.mp hp).elim (g.ip p) (h p), g.away, g.over, g.split, g.guard, g.gd⟩
end
section
variable {X : Cx} {Yl : Out → V → Hp → Prop}
/-- W: by the turn, a measure, what is out -/
def tGnF (wi : TI) (gg : TG) (tb : TG2) : TG2 := fun D ys σ H => wi σ H fun J H1 => ∃ W : Nat → Nat → Out → St → Hp → Prop, (∃ m, W 0 m ys σ H1) ∧ ∀ i m ys σ H, W i m ys σ H →
  (J.stop i H ∧ D.nx ys σ H) ∨ (J.go i H ∧ ∃ N : Out → St → Hp → Prop, (∀ y2 σ2 H2, N y2 σ2 H2 → ∃ m2, m2 < m ∧ W (i + 1) m2 y2 σ2 H2) ∧ ∀ x H1, J.yld i H x H1 → gg x σ H1 fun σ2 H2 => tb { D with nx := N, ct := N, bk := D.nx } ys σ2 H2)
theorem g1_for {tg iter : Expr} {body : List Stmt} {pos : Pos} {wi : TI} {gg : TG} {tb : TG2} (hp : PassesOwn (model X.prog X.w) X.A X.env X.xe) (hc : X.calm = true) (hi : PI X tg iter wi) (hg : PG X tg gg) (hb : Gn X Yl body tb)
    (hs : ∀ x, foldedSetIterable iter X.env x = pure x := by intro _; rfl) : G1 X Yl (.For tg iter body [] pos) (tGnF wi gg tb) := by
  refine ⟨fun A C Tt ip R n ys s₀ c fs K J gd lv s σ H D g hn k r ht => ?_⟩
  rw [exec_For]
  refine seg_bind_wrap (wpAny_standAt ?_)
  refine seg_bind_wrap ?_
  rw [g.over]
  refine wpAny_mono (hi.run _ s σ H _ r.inv ht) (fun v s1 h1 => ?_) (fun x s1 q => k.exc n s₀ x s1 q)
  refine seg_bind_wrap (wpAny_of_eq (hs v) ?_)
  refine seg_bind_wrap (wpAny_standAt ?_)
  refine seg_bind_wrap (wpAny_holding ?_)
  rw [g.over]
  refine wpAny_mono h1 (fun itv s2 h2 => ?_) (fun x s2 q => k.exc n s₀ x s2 q)
  obtain ⟨it, fp, tn, Jt, H2, rfl, I2, T, st2, f2, W, ⟨m0, w0⟩, turn⟩ := h2
  have r2 : Run X C Tt ys s₀ ip σ H2 s2 := ⟨r.own, r.tie, I2⟩
  have fC : ∀ b ∈ fp, b ∉ C := fun b hb hC => by
    obtain ⟨o, e⟩ := r.own b hC
    exact (f2 b hb).2.2.2.2.2 (b, o) (List.mem_append_right _ (List.mem_append_left _ (mem_pinsAt hC e))) rfl
  have stat : ∀ {z : Shared} {H' : Hp}, (∀ b ∈ fp, H' b = none) → ∀ b ∈ fp, FpOk X (pinsAt C z.heap ++ ip) H' b := fun {z H'} hn b hb => by
    obtain ⟨_, a2, a3, a4, a5, a6⟩ := f2 b hb
    refine ⟨hn b hb, a2, a3, a4, a5, fun p hp q => ?_⟩
    rcases List.mem_append.mp hp with y | y
    · exact a6 p (List.mem_append_left _ y) q
    · rcases List.mem_append.mp y with y | y
      · exact fC b hb (by rw [← q]; exact (of_pinsAt y).1)
      · exact a6 p (List.mem_append_right _ (List.mem_append_right _ y)) q
  refine seg_call fun p => ?_
  have gl := fun (q : Result → Sem PySem.Fin) => g.loop (q := q) (c' := .forLoop tg (.ref it) body [] X.env) (l := lv []) (kp := []) (p := p) rfl rfl (g2 := id) rfl
  have loop : ∀ (m i n : Nat) (ys : Out) (s₀ s : Shared) (σ : St) (H : Hp), n + ys.length = sizeLine → W i m ys σ H → Run X C Tt ys s₀ ip σ H s → tn i s.heap → (∀ b ∈ fp, H b = none) →
      Seg (model X.prog X.w) A R (YP X C Tt Yl) n s₀ (.forLoop tg (.ref it) body [] X.env) ((model X.prog X.w).den (.forLoop tg (.ref it) body [] X.env))
        (.ret (fun r => ((match r with | .ok f => (.pure f : Sem Flow) | .error e => .raise e).onRaise (cameBack X.env)).wrap K J gd lv) none (gd false) (lv []) c p [] :: fs) s := by
    intro m
    induction m using Nat.strongRecOn with
    | ind m ih =>
      intro i n ys s₀ s σ H hn w hr st fr
      have ee : ∀ (n : Nat) (s₀ : Shared) (x : Value) (z : Shared), X.xe x z → Seg (model X.prog X.w) A R (YP X C Tt Yl) n s₀ (.forLoop tg (.ref it) body [] X.env)
          ((do noteFrame x X.env; theTreesLotGoes x : Sem Unit).bind fun _ => (Sem.raise x : Sem PySem.Fin))
          (.ret (fun r => ((match r with | .ok f => (.pure f : Sem Flow) | .error e => .raise e).onRaise (cameBack X.env)).wrap K J gd lv) none (gd false) (lv []) c p [] :: fs) z := fun n s₀ x z hx => by
        rw [Sem.bind_eq_wrap]
        refine seg_wrap ?_
        rw [(gl _).over]
        refine wpAny_bind (wpAny_mono (hp x z hx) (fun _ z2 q => wpAny_theTreesLotGoes ?_) fun y z2 q => ?_)
        · exact seg_leaf (.error x) (seg_back g k q)
        · exact seg_leaf (.error y) (seg_back g k q)
      show Seg _ A R _ n s₀ _ ((forTurn tg (.ref it) body [] X.env).onRaise (fun x => do noteFrame x X.env; theTreesLotGoes x)) _ s
      rw [Sem.onRaise_eq_wrap]
      unfold forTurn
      refine seg_bind_wrap (wpAny_standAt ?_)
      refine seg_bind_wrap ?_
      rw [(gl _).over]
      rcases turn i m ys σ H w with ⟨stop, qn⟩ | ⟨go, N, hN, step⟩
      · refine wpAny_onRaise (wpAny_mono (T.done X rfl rfl rfl hc i _ s σ H X.xe hr.inv (stat fr) st stop) (fun r4 s4 h4 => ?_) (fun x s4 hx => wpAny_standAt (ee n s₀ x s4 hx)))
        obtain ⟨rfl, I4⟩ := h4
        refine seg_again rfl ?_
        exact seg_leaf (.ok .next) (k.ok n ys s₀ s4 .next hn ⟨σ, H, ⟨hr.own, hr.tie, I4⟩, qn⟩)
      · refine wpAny_onRaise (wpAny_mono (T.item X rfl rfl rfl hc i _ s σ H X.xe hr.inv (stat fr) st go) (fun r4 s4 h4 => ?_) (fun x s4 hx => wpAny_standAt (ee n s₀ x s4 hx)))
        obtain ⟨u, rfl, h4⟩ := h4
        refine seg_bind_wrap ?_
        rw [(gl _).over]
        refine wpAny_mono h4 (fun _ s5 h5 => ?_) (fun x s5 hx => ee n s₀ x s5 hx)
        obtain ⟨x, H5, I5, rv5, y5, st5, fr5⟩ := h5
        have I5p := I5.pinned (stat fr5) (T.obj _ _ st5)
        refine seg_bind_wrap ?_
        rw [(gl _).over]
        refine wpAny_mono (hg.run _ s5 σ H5 x u _ I5p rv5 (step x H5 y5)) (fun _ s6 h6 => ?_) (fun x s6 hx => ee n s₀ x s6 hx)
        obtain ⟨σ6, H6, I6, q6⟩ := h6
        rw [Sem.bind_eq_wrap', Sem.wrap_wrap]
        have pw : ∀ p ∈ pinsAt fp s5.heap, p.1 ∉ C := fun p hp => fC _ (of_pinsAt hp).1
        have r6 : Run X C Tt ys s₀ (ip ++ pinsAt fp s5.heap) σ6 H6 s6 := ⟨hr.own, hr.tie, by rw [← List.append_assoc]; exact I6⟩
        refine hb.run A C Tt (ip ++ pinsAt fp s5.heap) R n ys s₀ _ _ _ _ _ _ s6 σ6 H6 { D with nx := N, ct := N, bk := D.nx } ((gl _).with pw) hn ⟨fun n7 ys7 z7 s7 f hn7 hq => ?_, fun n7 z7 x s7 hx => ee n7 z7 x s7 hx⟩ r6 q6
        have less : ∀ {σ7 : St} {H7 : Hp}, Run X C Tt ys7 z7 (ip ++ pinsAt fp s5.heap) σ7 H7 s7 → Run X C Tt ys7 z7 ip σ7 H7 s7 := fun {σ7 H7} q => ⟨q.own, q.tie, by
          have q2 := q.inv
          rw [← List.append_assoc] at q2
          exact q2.unpinned⟩
        have again : ∀ {σ7 : St} {H7 : Hp}, Run X C Tt ys7 z7 (ip ++ pinsAt fp s5.heap) σ7 H7 s7 → N ys7 σ7 H7 → Seg (model X.prog X.w) A R (YP X C Tt Yl) n7 z7 (.forLoop tg (.ref it) body [] X.env) (.pure (.again (.forLoop tg (.ref it) body [] X.env)))
            (.ret (fun r => ((match r with | .ok f => (.pure f : Sem Flow) | .error e => .raise e).onRaise (cameBack X.env)).wrap K J gd lv) none (gd false) (lv []) c p [] :: fs) s7 := fun {σ7 H7} r7 n7' => by
          obtain ⟨m2, hm, w2⟩ := hN ys7 σ7 H7 n7'
          have pin : ∀ b ∈ fp, ∀ o, s5.heap.get? b = some o → s7.heap.get? b = some o ∧ H7 b = none := fun b hb o e =>
            let z := r7.inv.pin (b, o) (List.mem_append_right _ (List.mem_append_right _ (List.mem_append_right _ (mem_pinsAt hb e))))
            ⟨z.1, z.2.1⟩
          refine seg_again rfl (ih m2 hm (i + 1) n7 ys7 z7 s7 σ7 H7 hn7 w2 (less r7) (T.keep _ _ _ st5 fun b hb o e => (pin b hb o e).1) fun b hb => ?_)
          obtain ⟨o, e, _⟩ := T.obj _ _ st5 b hb
          exact (pin b hb o e).2
        cases f with
        | next =>
          obtain ⟨σ7, H7, r7, q7⟩ := hq
          exact again r7 q7
        | cont =>
          obtain ⟨σ7, H7, r7, q7⟩ := hq
          exact again r7 q7
        | brk =>
          obtain ⟨σ7, H7, r7, q7⟩ := hq
          exact seg_leaf (.ok .next) (k.ok n7 ys7 z7 s7 .next hn7 ⟨σ7, H7, less r7, q7⟩)
        | ret v =>
          obtain ⟨x7, σ7, H7, r7, rv7, q7⟩ := hq
          exact seg_leaf (.ok (.ret v)) (k.ok n7 ys7 z7 s7 (.ret v) hn7 ⟨x7, σ7, H7, less r7, rv7, q7⟩)
  exact loop m0 0 n ys s₀ s2 σ H2 hn w0 r2 st2 fun b hb => (f2 b hb).1
end
end GfX
/-! such a def called -/
namespace GfX
open PySem PySem.Spec GenW L2
open PyProof.Rows hiding St
abbrev SpH := List V → Hp → (Out → V → Hp → Prop) → (Out → Hp → Prop) → Prop
/-- what stands at its end -/
def FO (P : Program) (w : World) (outer : List Env) (H : Hp) (s : Shared) (C : List Addr) (T : Out → Shared → Prop) (Q : Out → Hp → Prop) (n : Nat) (s₀ s1 : Shared) : Prop :=
  ∃ H2 ys, s1.os = s.os ∧ AllBare s1.gens ∧ Un (frs outer) [] H H2 s.heap s1.heap ∧ HOk P w H2 s1.heap ∧ (∀ b ∈ C, s1.heap.get? b = s₀.heap.get? b ∧ H2 b = none) ∧ ys.length ≤ sizeLine ∧ T ys s₀ ∧ Q ys H2
def RO (P : Program) (w : World) (outer : List Env) (H : Hp) (s : Shared) (C : List Addr) (T : Out → Shared → Prop) (Q : Out → Hp → Prop) : GenEnd := fun n s₀ r s1 =>
  ((r = .ok (.ret .none) ∨ r = .ok .next) ∧ FO P w outer H s C T Q n s₀ s1) ∨ ∃ e, r = .error e ∧ (fun (_ : Value) (_ : Shared) => False) e s1
/-- what stands at each item -/
def YO (P : Program) (w : World) (outer : List Env) (H : Hp) (s : Shared) (C : List Addr) (T : Out → Shared → Prop) (a : Addr) (g : Nat) (Yl : Out → V → Hp → Prop) : Protocol := fun n s₀ v s1 kap =>
  ∃ ys x H2, n + 1 + ys.length = sizeLine ∧ RelV x v ∧ s1.os = s.os ∧ AllBare s1.gens ∧ s1.heap.NoLimit ∧ s1.heap.IsGen a g ∧ H2 a = none ∧ Un (frs outer) [] H H2 s.heap s1.heap ∧ HOk P w H2 s1.heap ∧ (∀ b ∈ C, s1.heap.get? b = s₀.heap.get? b ∧ H2 b = none) ∧
    T ys s₀ ∧ Yl ys x H2 ∧ ∀ s', Nap P w (frs outer) C H2 s1 s' → T (ys ++ [(x, H2)]) s' → kap (.send .none) s'
/-- a generator that has not begun -/
def Md (P : Program) (w : World) (k : Nat) (outer : List Env) (H : Hp) (s : Shared) (Yl : Out → V → Hp → Prop) (Q : Out → Hp → Prop) (u : Value) (s' : Shared) : Prop :=
  ∃ (a : Addr) (g : Nat) (c : Code), u = .ref a ∧ s.heap.objs.size ≤ a ∧ a < s'.heap.objs.size ∧ s'.heap.IsGen a g ∧ s'.gens[g]? = some (.fresh c) ∧ s'.os = s.os ∧ AllBare s'.gens ∧ s'.heap.NoLimit ∧ (∀ b o, s.heap.get? b = some o → s'.heap.get? b = some o) ∧
    ∀ (A : Around) (C : List Addr) (T : Out → Shared → Prop) (s2 : Shared), Room k A → A.frames = some outer → (∀ b ∈ C, s'.heap.objs.size ≤ b) → (∀ b o, s'.heap.get? b = some o → s2.heap.get? b = some o) → (∀ b ∈ C, ∃ o, s2.heap.get? b = some o ∧ ∀ v, o.data ≠ .cell v) → s2.os = s.os → AllBare s2.gens → T [] s2 →
      Seg (model P w) A (RO P w outer H s C T Q) (YO P w outer H s C T a g Yl) sizeLine s2 c ((model P w).den c) [] s2
structure GFo (P : Program) (w : World) (K : PySem.W.Frag) (mg : Str → Option Value) (base : Heap) (k : Nat) (f : Addr) (fd : FuncData) (ps : List Str) (sp : SpH) : Prop where
  len : ∀ vs H Yl Q, sp vs H Yl Q → vs.length = ps.length
  run : ∀ (A : Around) (outer : List Env) (s : Shared) (H : Hp) (args : Args) (us : List Value) (vs : List V) (Yl : Out → V → Hp → Prop) (Q : Out → Hp → Prop), Room k A → Env0 P w K mg base A outer s H → BindsTo s fd args (ps.zip us) → Vals vs us → sp vs H Yl Q →
    codeAny (model P w) A (.call (.ref f) args) (fun r s' => match r with | .ok (.ret u) => Md P w k outer H s Yl Q u s' | _ => False) s
theorem noCX {P : Program} {w : World} {outer : List Env} {H : Hp} {s s' : Shared} {e : Value} (h : L2.CX P w outer H s E0 e s') : False := by
  obtain ⟨_, _, _, _, _, _, _, _, _, _, _, _, z⟩ := h
  exact z
theorem gfo_of {P : Program} {w : World} {K : PySem.W.Frag} {mg : Str → Option Value} {base : Heap} {k : Nat} {f : Addr} {name qual : Str} {params : Arguments} {body : List Stmt} {scope : Scope} {dV kV doc pm cdv ct oc : Value} {an od : Option Addr}
    {osl : Array (Option Value)} {N ps : List Str} {sp : SpH} (lk : K.lookup f = some ⟨oc, od, .func (PySem.W.fnOf name qual params body scope dV kV doc pm an cdv ct), osl⟩) (hcd : PySem.W.codeIn K cdv qual = true) (S : GScope N ps scope)
    (len : ∀ vs H Yl Q, sp vs H Yl Q → vs.length = ps.length)
    (hbody : ∀ (A : Around) (outer : List Env) (s : Shared) (H : Hp) (vs : List V) (Yl : Out → V → Hp → Prop) (Q : Out → Hp → Prop) (pn : List (Addr × Obj)), Room k (A.deeper (envOfC qual scope s.heap.objs.size f cdv)) → sp vs H Yl Q →
      ∃ t, Gn (gcxOf P w K mg base N qual scope f cdv A outer s H E0 pn) Yl body t ∧ t { nx := fun ys _ H2 => Q ys H2, rt := fun ys v H2 => v = .non ∧ Q ys H2 } [] (start N vs) H) :
    GFo P w K mg base (k + 1) f (PySem.W.fnOf name qual params body scope dV kV doc pm an cdv ct) ps sp := by
  refine ⟨len, fun A outer s H args us vs Yl Q hr e0 hb rv h => ?_⟩
  have hl := len _ _ _ _ h
  have KX : K.In s.heap := e0.mod.kin.keeps fun b o e => (e0.bs b o e).1
  have lim : s.heap.NoLimit := e0.mod.nolimit.keeps fun b o e => (e0.bs b o e).1
  have kinds : ∀ y ∈ ps.zip us, scope.names.lookup y.1 = some .local ∨ (scope.names.lookup y.1 = some .cell ∧ ((cellsFrom (s.heap.objs.size + 1) scope.names []).lookup y.1).isSome = true) := by
    rintro ⟨n, v⟩ hy
    rcases S.par n (List.of_mem_zip hy).1 with q | q
    · exact Or.inl q
    · exact Or.inr ⟨q, PySem.W.cellsFrom_some _ _ _ (Or.inl q)⟩
  refine codeAny_call_generator hr.depth (KX _ _ lk) rfl S.co S.gen rfl (PySem.W.codeRec_of KX hcd) (hb _ _ _ _ ?_)
  refine wpAny_newFunctionEnv_cells S.kind kinds fun env he s1 x => ?_
  subst he
  have k1 := x.toInCall.keep
  have lim1 : s1.heap.NoLimit := lim.keeps k1
  refine ⟨lim1, ?_⟩
  have lt1 : s.heap.objs.size < s1.heap.objs.size := x.toInCall.ns.lt
  obtain ⟨h1, tk, es1, _⟩ := x.done
  have os1 : s1.os = s.os := by rw [es1]
  have gen1 : s1.gens = s.gens := by rw [es1]
  suffices main : ∀ (go : Obj) (n1 n2 : Value) (tk2 : Nat), go.cls = .type "generator" → go.data = .fields #[.int s1.gens.size 0, n1, n2] → go.slots = #[] → (∀ h : Heap, (h.push go).get? h.objs.size = some go) →
      Md P w (k + 1) outer H s Yl Q (.ref s1.heap.objs.size) { s1 with gens := s1.gens.push (.fresh (.func body (envOfC qual scope s.heap.objs.size f cdv))), toks := tk2, heap := s1.heap.push go } from main _ _ _ _ rfl rfl rfl fun h => Heap.get?_push_size _ rfl
  intro go n1 n2 tk2 g1 g2 g3 gp
  have isg : ∀ h : Heap, h.get? s1.heap.objs.size = some go → h.IsGen s1.heap.objs.size s1.gens.size := fun h e => ⟨go, n1, n2, e, g1, g2, g3⟩
  have at0 : (s1.heap.push go).get? s1.heap.objs.size = some go := gp _
  have szp : (s1.heap.push go).objs.size = s1.heap.objs.size + 1 := Heap.size_push _ _
  refine ⟨s1.heap.objs.size, s1.gens.size, _, rfl, Nat.le_of_lt lt1, by show _ < (s1.heap.push go).objs.size; rw [szp]; exact Nat.lt_succ_self _, isg _ at0, Array.getElem?_push_size .., os1, AllBare.push (by rw [gen1]; exact e0.bare) rfl,
    lim1.keeps fun b o e => Heap.get?_push_of_some _ e, fun b o e => Heap.get?_push_of_some _ (k1 b o e), fun B C T s2 hr2 hf2 hC k2 own2 os2 bare2 tie2 => ?_⟩
  have e0B : Env0 P w K mg base B outer s H := ⟨hf2, e0.mod, e0.bs, e0.bsz, e0.funs, e0.frf, e0.hok, e0.bare⟩
  obtain ⟨t, ht, hq⟩ := hbody B outer s H vs Yl Q [(s1.heap.objs.size, go)] (hr2.deeper _) h
  have I1 := inv_startG (E := E0) S hr2.hd e0B hl rv x
  have k12 : ∀ b o, s1.heap.get? b = some o → s2.heap.get? b = some o := fun b o e => k2 b o (Heap.get?_push_of_some _ e)
  have I2 : Inv (gcxOf P w K mg base N qual scope f cdv B outer s H E0 []) [] (start N vs) H s2 := I1.call' (ch := []) (os2.trans os1.symm) (Un.kept k12) (I1.hok.kept k12) bare2 fun b z => absurd z List.not_mem_nil
  have young : ∀ b, s1.heap.objs.size ≤ b → H b = none ∧ b ≠ s.heap.objs.size ∧ b ∉ frs outer ∧ s.heap.objs.size ≤ b ∧ ∀ y c, (cellsFrom (s.heap.objs.size + 1) scope.names []).lookup y = some c → c ≠ b := fun b hb => by
    refine ⟨I1.hok.fresh hb, Nat.ne_of_gt (Nat.lt_of_lt_of_le lt1 hb), I1.nofs hb, Nat.le_trans (Nat.le_of_lt lt1) hb, ?_⟩
    rintro y c e rfl
    obtain ⟨v, ob, ho, _⟩ := I1.cell y c e
    exact absurd (Nat.lt_of_lt_of_le (Heap.lt_size ho) hb) (Nat.lt_irrefl _)
  have CY : ∀ b ∈ C, s1.heap.objs.size < b := fun b hb => by
    have y : (s1.heap.push go).objs.size ≤ b := hC b hb
    rw [szp] at y
    exact y
  have atg : s2.heap.get? s1.heap.objs.size = some go := k2 _ go at0
  have r2 : Run (gcxOf P w K mg base N qual scope f cdv B outer s H E0 [(s1.heap.objs.size, go)]) C T [] s2 [] (start N vs) H s2 := by
    refine ⟨fun b hb => (own2 b hb).imp fun o q => q.1, tie2, Inv.pinnedG I2 fun p hp => ?_⟩
    rcases List.mem_append.mp hp with z | z
    · rw [List.mem_singleton.mp z]
      obtain ⟨y1, y2, y3, _, _⟩ := young s1.heap.objs.size (Nat.le_refl _)
      exact ⟨atg, y1, y2, y3, fun v q => by rw [g2] at q; cases q⟩
    · rw [List.append_nil] at z
      obtain ⟨hb, e⟩ := of_pinsAt z
      obtain ⟨y1, y2, y3, _, _⟩ := young p.1 (Nat.le_of_lt (CY _ hb))
      obtain ⟨o, e2, e3⟩ := own2 _ hb
      rw [e] at e2
      cases e2
      exact ⟨e, y1, y2, y3, e3⟩
  have off : ∀ p ∈ [(s1.heap.objs.size, go)], p.1 ∉ C := fun p hp z => by
    rw [List.mem_singleton.mp hp] at z
    exact absurd (CY _ z) (Nat.lt_irrefl _)
  have away : Away (gcxOf P w K mg base N qual scope f cdv B outer s H E0 [(s1.heap.objs.size, go)]) C := fun b hb => by
    obtain ⟨_, _, _, y4, y5⟩ := young b (Nat.le_of_lt (CY _ hb))
    exact ⟨y4, y5⟩
  refine seg_func (seg_imp (R := RP (gcxOf P w K mg base N qual scope f cdv B outer s H E0 [(s1.heap.objs.size, go)]) C T (fun ys v H2 => v = .non ∧ Q ys H2) fun _ _ => False)
    (Y := YP (gcxOf P w K mg base N qual scope f cdv B outer s H E0 [(s1.heap.objs.size, go)]) C T Yl) (fun n z r s3 hR => ?_) (fun n z v s3 kap kap2 hkk hY => ?_) sizeLine ?_)
  · cases r with
    | error e => exact (show False from hR).elim
    | ok fl =>
      cases fl with
      | next => exact False.elim hR
      | brk => exact False.elim hR
      | cont => exact False.elim hR
      | ret u =>
        obtain ⟨ys, v, ip, σ3, H3, hn, r3, rv3, rfl, hQ⟩ := hR
        cases (show u = Value.none from rv3)
        exact .inl ⟨.inl rfl, H3, ys, r3.inv.os, r3.inv.bare, r3.inv.base, r3.inv.hok, fun b hb => ⟨(r3.at hb).1, (r3.at hb).2.1⟩, by omega, r3.tie, hQ⟩
  · obtain ⟨ys, xx, ip, σ3, H3, hn, rvx, r3, hYl, hk⟩ := hY
    have pg := r3.inv.pin (s1.heap.objs.size, go) (List.mem_append_left _ (List.mem_singleton.mpr rfl))
    exact ⟨ys, xx, H3, hn, rvx, r3.inv.os, r3.inv.bare, r3.inv.nolimit, isg _ pg.1, pg.2.1, r3.inv.base, r3.inv.hok, fun b hb => ⟨(r3.at hb).1, (r3.at hb).2.1⟩, r3.tie, hYl, fun s4 z4 t4 => hkk _ _ (hk s4 z4 t4)⟩
  · refine ht.run B C T [] _ sizeLine [] s2 _ [] _ _ id id s2 (start N vs) H _ ⟨off, fun p hp => absurd hp List.not_mem_nil, away, over_func, rfl, rfl, rfl⟩ (Nat.add_zero _) ⟨fun n ys z s3 fl hn hs => ?_, fun n z e s3 hx => ?_⟩ r2 hq
    · cases fl with
      | next =>
        obtain ⟨σ3, H3, r3, hQ⟩ := hs
        exact seg_end (.ok (.ret .none)) ⟨ys, .non, [], σ3, H3, hn, r3, rfl, rfl, hQ⟩
      | brk => obtain ⟨_, _, _, q⟩ := hs; exact False.elim q
      | cont => obtain ⟨_, _, _, q⟩ := hs; exact False.elim q
      | ret u =>
        obtain ⟨v, σ3, H3, r3, rv3, ev, hQ⟩ := hs
        exact seg_end (.ok (.ret u)) ⟨ys, v, [], σ3, H3, hn, r3, rv3, ev, hQ⟩
    · refine seg_wrap ?_
      rw [over_func]
      exact wpAny_mono hx (fun _ s4 q => (noCX q.1).elim) fun _ s4 q => q.elim
end GfX
/-! a property read, the state told -/
namespace GfX
open PySem PySem.Spec GenW L2
open PyProof.Rows hiding St
section
variable {P : Program} {w : World} {K : PySem.W.Frag} {mg : Str → Option Value} {base : Heap}
theorem getter_at {x qual : Str} {st : Stmt} {f Cy b dx : Addr} {fd : FuncData} {k : Nat} {fld : Str} {p1 p2 p3 : Pos} {A : Around} {outer : List Env} {s : Shared} {H : Hp} {fs : List (Str × V)} {y : V} {R : Result → Shared → Prop}
    (F : L2.Fun K x qual st f fd) (S : FnScope ["self"] ["self"] (defScope st)) (hl : (defScope st).names.lookup ("self" : Str) = some NameKind.local) (hb : defBody st = [.Return (some (.Attribute (.Name "self" p1) fld p2)) p3]) (bd : Binds K fd ["self"] [])
    (c : Cls K Cy) (n : NoAttr K Cy fld) (hr : Room (k + 1) A) (e0 : Env0 P w K mg base A outer s H) (e : H b = some (.ins Cy dx fs)) (l : fs.lookup fld = some y)
    (h : ∀ u h2 tk, RelV y u → (∀ c o, s.heap.get? c = some o → h2.get? c = some o) → R (.ok (.ret u)) { s with heap := h2, toks := tk }) : codeAny (model P w) A (.call (.ref f) ⟨[.ref b], []⟩) R s := by
  obtain ⟨oc, od, kV, doc, pm, an, cdv, ct, osl, rfl, lk, hcd⟩ := F.ex
  have KX : K.In s.heap := e0.mod.kin.keeps fun b o e => (e0.bs b o e).1
  have lim : s.heap.NoLimit := e0.mod.nolimit.keeps fun b o e => (e0.bs b o e).1
  have kinds : ∀ y ∈ (["self"] : List Str).zip [Value.ref b], (defScope st).names.lookup y.1 = some .local ∨ ((defScope st).names.lookup y.1 = some .cell ∧ ((cellsFrom (s.heap.objs.size + 1) (defScope st).names []).lookup y.1).isSome = true) := by
    intro y hy
    have e : y = (("self" : Str), Value.ref b) := by simpa using hy
    rw [e]
    exact Or.inl hl
  refine codeAny_call_function hr.depth (KX _ _ lk) rfl S.co S.gen rfl (PySem.W.codeRec_of KX hcd) (bd s [.ref b] KX rfl _ _ _ _ ?_)
  refine wpAny_newFunctionEnv_cells S.kind kinds fun env he s1 q => ?_
  subst he
  refine ⟨lim.keeps q.toInCall.keep, codeAny_func ?_⟩
  have I := inv_start (CX := CX0) (E := E0) (vs := [.ref b]) S hr.hd e0 rfl (.cons rfl .nil) q
  obtain ⟨h1, tk, es1, _⟩ := q.done
  have k1 := q.toInCall.keep
  rw [hb]
  refine wpAny_execs_cons (wpAny_Return_some (attr_of rfl ?_))
  obtain ⟨m, hn, hm⟩ := I.loc
  obtain ⟨u, ru, lu⟩ := hm 0 "self" (.ref b) rfl rfl (Or.inl hl)
  obtain rfl : u = Value.ref b := ru
  rcases lu with ⟨hk, hv⟩ | ⟨hk, _⟩
  · refine wpAny_Name (wpAny_loadName_local S.kind hk hn hv ?_)
    obtain ⟨mA, O, r, _, _, _⟩ := ins_get I.hok e
    obtain ⟨v, hv2, rv⟩ := RelO.some_of (v := y) (o := mA fld) (by rw [← l]; exact r fld)
    refine get_map I.kIn O (c.get fld) c.hd n hv2 (handed_of rv) ?_
    rw [es1]
    refine h v h1 _ rv fun c o z => ?_
    have z1 := k1 c o z
    rw [es1] at z1
    exact z1
  · rcases hk with z | z
    · have z2 : (defScope st).names.lookup ("self" : Str) = some NameKind.cell := z
      rw [hl] at z2
      cases z2
    · have z2 : (defScope st).names.lookup ("self" : Str) = some NameKind.free := z
      rw [hl] at z2
      cases z2
theorem prop_at {x qual : Str} {st : Stmt} {f p Cy b dx : Addr} {fd : FuncData} {k : Nat} {nm fld : Str} {p1 p2 p3 : Pos} {A : Around} {outer : List Env} {s : Shared} {H : Hp} {fs : List (Str × V)} {y : V} {bb : Bool} {Q : Value → Shared → Prop} {E : Value → Shared → Prop}
    (F : L2.Fun K x qual st f fd) (S : FnScope ["self"] ["self"] (defScope st)) (hl : (defScope st).names.lookup ("self" : Str) = some NameKind.local) (hb : defBody st = [.Return (some (.Attribute (.Name "self" p1) fld p2)) p3]) (bd : Binds K fd ["self"] [])
    (c : Cls K Cy) (n : NoAttr K Cy fld) (hp : PropOf K Cy nm p f) (hr : Room (k + 2) A) (e0 : Env0 P w K mg base A outer s H) (e : H b = some (.ins Cy dx fs)) (l : fs.lookup fld = some y)
    (h : ∀ u h2 tk, RelV y u → (∀ c o, s.heap.get? c = some o → h2.get? c = some o) → Q u { s with heap := h2, toks := tk }) : wpAny (model P w) A (getAttr (.ref b) nm bb) Q E s := by
  have KX : K.In s.heap := e0.mod.kin.keeps fun b o e => (e0.bs b o e).1
  obtain ⟨mA, O, _, _, _, _⟩ := ins_get e0.hok e
  obtain ⟨od, J, _⟩ := O.look
  obtain ⟨more, hrec⟩ := hp.rec_
  have hc : (PySem.W.clsIn K Cy).isSome = true := by
    obtain ⟨cd, hc, _⟩ := PySem.W.any_some c.hd
    rw [hc] <;> rfl
  have e1 : Env0 P w K mg base A.in1 outer { s with toks := s.toks + 1 } H := ⟨e0.frames, e0.mod, e0.bs, e0.bsz, e0.funs, e0.frf, e0.hok, e0.bare⟩
  refine PySem.W.get_bind KX J (PySem.W.plainGet_of (c.get nm)).1 (PySem.W.findObj_data hc hp.at_ hp.get hp.tak) (PySem.W.plainGet_of (c.get nm)).2 (wpAny_call (PySem.W.prop_get (s := { s with toks := s.toks + 1 }) KX hrec ?_))
  refine getter_at (k := k) F S hl hb bd c n hr.in1 e1 e l fun u h2 tk ru kk => ?_
  show wpAny _ _ (handedOut u) _ _ _
  rw [PySem.W.handedOut_of (handed_of ru)]
  exact wpAny_pure (h u h2 tk ru kk)
end
end GfX
/-! [x.p for x in o.m()], m a generator def -/
namespace GfX
open PySem PySem.Spec GenW L2
open PyProof.Rows hiding St
theorem Un.past {fs C : List Addr} {H H2 : Hp} {h h1 h2 : Heap} (u : Un fs [] H H2 h h1) (k : ∀ b o, b ∉ C → h1.get? b = some o → h2.get? b = some o) (y : ∀ b ∈ C, h.objs.size ≤ b) : Un fs [] H H2 h h2 := by
  have off : ∀ b o, h.get? b = some o → b ∉ C := fun b o e z => absurd (Nat.lt_of_lt_of_le (Heap.lt_size e) (y b z)) (Nat.lt_irrefl _)
  refine ⟨fun b o e n hf hx => k b o (off b o e) (u.keep b o e n hf hx), fun b o e n hf hx => ?_, u.free, fun b o e hx => ?_, u.tups, u.frzs, u.tbls⟩
  · obtain ⟨sl, q⟩ := u.slot b o e n hf hx
    exact ⟨sl, k b _ (off b o e) q⟩
  · obtain ⟨o2, q⟩ := u.there b o e hx
    exact ⟨o2, k b o2 (off b o e) q⟩
theorem HOk.off {P : Program} {w : World} {C : List Addr} {H : Hp} {h h2 : Heap} (x : HOk P w H h) (k : ∀ b o, b ∉ C → h.get? b = some o → h2.get? b = some o) (y : ∀ b ∈ C, H b = none) : HOk P w H h2 := fun b o e => by
  have nt : ∀ c u, H c = some u → c ∉ C := fun c u q z => by
    rw [y c z] at q
    cases q
  refine (x b o e).stay (fun c v hc q => k c v ?_ q) (fun _ q => q) fun _ _ q => q
  rcases hc with z | z
  · rw [z]
    exact nt b o e
  · exact nt c _ z
def Pr (Cy : Addr) (fld : Str) (q : V × Hp) (y : V) : Prop := ∃ b dx fs, q.1 = .ref b ∧ q.2 b = some (.ins Cy dx fs) ∧ fs.lookup fld = some y
/-- item by item -/
def Pars (Cy : Addr) (fld : Str) (ys : Out) (acc : List V) : Prop := ys.length = acc.length ∧ ∀ (i : Nat) (q : V × Hp), ys[i]? = some q → ∃ y, acc[i]? = some y ∧ Pr Cy fld q y
theorem Pars.nil {Cy : Addr} {fld : Str} : Pars Cy fld [] [] := ⟨rfl, fun i q e => by simp at e⟩
theorem Pars.snoc {Cy : Addr} {fld : Str} {ys : Out} {acc : List V} {q : V × Hp} {y : V} (h : Pars Cy fld ys acc) (r : Pr Cy fld q y) : Pars Cy fld (ys ++ [q]) (acc ++ [y]) := by
  refine ⟨by rw [List.length_append, List.length_append, h.1] <;> rfl, fun i z e => ?_⟩
  by_cases hi : i < ys.length
  · rw [List.getElem?_append_left hi] at e
    obtain ⟨u, e2, r2⟩ := h.2 i z e
    exact ⟨u, by rw [List.getElem?_append_left (by rw [← h.1]; exact hi)]; exact e2, r2⟩
  · rw [List.getElem?_append_right (by omega)] at e
    have e3 : i - ys.length = 0 := by
      cases h0 : i - ys.length with
      | zero => rfl
      | succ j => rw [h0] at e; simp at e
    rw [e3] at e
    cases e
    exact ⟨y, by rw [List.getElem?_append_right (by rw [← h.1]; omega), ← h.1, e3]; rfl, r⟩
def tLcGen (Cr Cy : Addr) (m fld : Str) (sp : SpH) (to : TE) : TE := fun σ H Q => to σ H fun v H1 => ∃ a dx fs, v = .ref a ∧ H1 a = some (.ins Cr dx fs) ∧ fs.lookup m = none ∧
  sp [.ref a] H1 (fun _ x H2 => ∃ y, Pr Cy fld (x, H2) y) (fun ys H2 => ∀ D acc, H2 D = none → Pars Cy fld ys acc → Q (.ref D) (upd H2 D (.lst acc)))
section
variable {X : Cx}
theorem pe_lcGen {Cr Cy f g p : Addr} {k : Nat} {fd fdg : FuncData} {sp : SpH} {to : TE} {oe : Expr} {x m nm fld xq qual : Str} {st : Stmt} {scope : Scope} {own : List (Str × Nat)} {px p1 p2 q1 q2 q3 apos cpos pos : Pos} {pl : Sem Bool}
    (hc : X.calm = true) (ho : PE X oe to) (cr : Cls X.K Cr) (hm : Meth X.K Cr m f) (Fg : GFo X.prog X.w X.K X.mg X.base k f fd ["self"] sp) (bf : Binds X.K fd ["self"] []) (hr : Room (k + 2) X.A) (ok : BlkOk X.N X.env.scope scope own) (hx : scope.names.lookup x = some NameKind.local)
    (cy : Cls X.K Cy) (n : NoAttr X.K Cy fld) (hp : PropOf X.K Cy nm p g) (F : L2.Fun X.K xq qual st g fdg) (S : FnScope ["self"] ["self"] (defScope st)) (hl : (defScope st).names.lookup ("self" : Str) = some NameKind.local)
    (hb : defBody st = [.Return (some (.Attribute (.Name "self" q1) fld q2)) q3]) (bd : Binds X.K fdg ["self"] [])
    (ht : eval (.Call (.Attribute oe m apos) [] [] cpos) X.env = (do
      let ov ← eval oe X.env
      standAt apos.atName
      let (f, first) ← holding [ov] (getMethod ov m pl)
      callWith cpos f first (backTo cpos (starEach [] X.env)) (backToKw cpos (keywordEach [] X.env))) := by rfl)
    (hs : ∀ z, foldedSetIterable (.Call (.Attribute oe m apos) [] [] cpos) X.env z = pure z := by intro _; rfl) (hab : ∀ e : Env, attributeBase (.Name x p1) nm e (eval (.Name x p1) e) = eval (.Name x p1) e := by intro _; rfl) (hdb : (x == ("__debug__" : Str)) = false := by decide) :
    PE X (.ListComp (.Attribute (.Name x p1) nm p2) [⟨.Name x px, .Call (.Attribute oe m apos) [] [] cpos, [], 0⟩] scope pos) (tLcGen Cr Cy m fld sp to) := by
  refine ⟨fun pins s σ H Q I h => ?_⟩
  rw [eval_ListComp]
  have hfree : ∀ y ∈ scope.names, y.2 = .free → ∃ c, X.env.cells.lookup y.1 = some c := fun y hy e => (ok.free y hy e).elim (fun z => I.ok.has _ (.inl z)) fun z => I.ok.has _ (.inr z)
  refine wpAny_comprehension_free rfl hs (closure_ok hfree) ok.kind (fun y hy e => by rw [ok.uniq y hy, e]) ?_
  refine PySem.W.methodCall_KW (pl := pl) (thn (ho.run pins s σ H _ I h) fun u s1 q => ?_) ht
  obtain ⟨v, H1, I1, rv, a, dx, fs, rfl, ea, l, q⟩ := q
  obtain rfl : u = Value.ref a := rv
  refine getmeth_ok I1 ea cr hm l ?_
  refine PySem.W.callWith_K0 (first := [.ref a]) I1.kIn hm.kp ?_
  refine wpAny_call (codeAny_mono (Fg.run X.A X.stack s1 H1 ⟨[.ref a], []⟩ [.ref a] [.ref a] _ _ (hr.mono (by omega)) I1.env0 (bf s1 [.ref a] I1.kIn rfl) (.cons rfl .nil) q) fun r s2 hq => ?_)
  cases r with
  | error e => exact False.elim hq
  | ok fl =>
  cases fl with
  | next => exact False.elim hq
  | brk => exact False.elim hq
  | cont => exact False.elim hq
  | ret u =>
  obtain ⟨ga, g0, c, rfl, ha1, ha2, hg2, hgs, hos, hbare, hlim, hkp, wake⟩ := hq
  refine wpAny_pyIter_gen hg2 ?_
  refine wpAny_newObj_type (newEnv_comp ?_) (by show 0 ≤ sizeLine; decide)
  generalize hD : s2.heap.objs.size = D
  generalize hs3 : ({ s2 with heap := s2.heap.push { cls := .type "list", data := .seq #[] } } : Shared) = s3
  have h3 : s3.heap = s2.heap.push { cls := .type "list", data := .seq #[] } := by rw [← hs3]
  have z3 : s3.heap.objs.size = D + 1 := by rw [h3, Heap.size_push, hD]
  show codeAny _ _ (.compStart (.ListComp (.Attribute (.Name x p1) nm p2) [⟨.Name x px, .Call (.Attribute oe m apos) [] [] cpos, [], 0⟩] scope pos) 0 (.ref ga) (.ref D) (compEnvC scope (cellsFrom (s3.heap.objs.size + 1) scope.names (cloFrom X.env.cells scope.names [])) s3.heap.objs.size X.env)) (compPost (model X.prog X.w) X.A X.xe none (EP X pins σ Q) (.ref D) s3.heap.objs.size) { s3 with heap := pushCells (s3.heap.push { cls := .type "dict", data := .dict #[] }) scope.names }
  generalize hL : s3.heap.objs.size = L
  generalize hce : compEnvC scope (cellsFrom (L + 1) scope.names (cloFrom X.env.cells scope.names [])) L X.env = ce
  have ceL : ce.locals = L := by rw [← hce] <;> rfl
  have ceK : ce.scope.kind = .function := by
    rw [← hce]
    exact ok.kind
  have ceX : ce.kindOf x = some .local := by
    rw [← hce]
    exact lookup_relabel_local hx
  generalize hs4 : ({ s3 with heap := pushCells (s3.heap.push { cls := .type "dict", data := .dict #[] }) scope.names } : Shared) = s4
  have k34 : ∀ b o, s3.heap.get? b = some o → s4.heap.get? b = some o := fun b o e => by
    rw [← hs4]
    exact pushCells_keeps _ _ _ _ (Heap.get?_push_of_some _ e)
  have k24 : ∀ b o, s2.heap.get? b = some o → s4.heap.get? b = some o := fun b o e => k34 b o (by rw [h3]; exact Heap.get?_push_of_some _ e)
  have D4 : s4.heap.get? D = some { cls := .type "list", data := .seq #[] } := k34 D _ (by rw [h3, ← hD]; exact Heap.get?_push_size _ rfl)
  have L4 : s4.heap.Ns L fun _ => none := by
    rw [← hs4, ← hL]
    exact Heap.Ns.keeps (Heap.Ns.new ..) fun b o e => pushCells_keeps _ _ _ _ e
  have g4 : s4.gens = s2.gens := by rw [← hs4, ← hs3]
  have o4 : s4.os = s2.os := by rw [← hs4, ← hs3]
  have eL : @Eq Nat L (D + 1) := by rw [← hL, z3]
  have lDL : D ≤ L := by rw [eL]; exact Nat.le_succ _
  have DL : D ≠ L := by rw [eL]; exact Nat.ne_of_lt (Nat.lt_succ_self _)
  have sz12 : s1.heap.objs.size ≤ D := by rw [← hD]; exact Nat.le_trans ha1 (Nat.le_of_lt ha2)
  have gD : ga < D := by rw [← hD]; exact ha2
  have CY : ∀ b ∈ [D, L], s1.heap.objs.size ≤ b ∧ s2.heap.objs.size ≤ b ∧ b ≠ ga := fun b hb => by
    rcases List.mem_cons.mp hb with z | z
    · rw [z]
      exact ⟨sz12, Nat.le_of_eq hD, Nat.ne_of_gt gD⟩
    · rw [List.mem_singleton.mp z]
      exact ⟨Nat.le_trans sz12 lDL, Nat.le_trans (Nat.le_of_eq hD) lDL, Nat.ne_of_gt (Nat.lt_of_lt_of_le gD lDL)⟩
  have mD : D ∈ [D, L] := List.mem_cons_self
  have mL : L ∈ [D, L] := List.mem_cons_of_mem _ (List.mem_singleton.mpr rfl)
  -- what the list holds
  generalize hT : (fun (ys : Out) (z : Shared) => ∃ acc its c0, Pars Cy fld ys acc ∧ Vals acc its ∧ z.heap.get? D = some { cls := .type "list", data := .seq its.toArray c0 }) = T
  have hh : X.A.handled = none := I1.ok.hd hc
  have loop : codeAny (model X.prog X.w) X.A (.compLoop (.ListComp (.Attribute (.Name x p1) nm p2) [⟨.Name x px, .Call (.Attribute oe m apos) [] [] cpos, [], 0⟩] scope pos) 0 (.ref ga) (.ref D) ce) (compPost (model X.prog X.w) X.A X.xe none (EP X pins σ Q) (.ref D) L) s4 := by
    refine compLoop_any (fun n s5 => ∃ gs mm, s5.gens[g0]? = some gs ∧ gs.Goes (model X.prog X.w) X.A.in1 (RO X.prog X.w X.stack H1 s1 [D, L] T fun ys H2 => ∀ D acc, H2 D = none → Pars Cy fld ys acc → Q (.ref D) (upd H2 D (.lst acc))) (YO X.prog X.w X.stack H1 s1 [D, L] T ga g0 fun _ x H2 => ∃ y, Pr Cy fld (x, H2) y) n (.send .none) (s5.setGen g0 .running) ∧ s5.heap.NoLimit ∧ s5.heap.IsGen ga g0 ∧ s5.heap.Ns L mm) ?_ sizeLine ?_
    · rintro n5 s5 ⟨gs, mm, hgs5, hgo, hl5, hg5, hn5⟩
      have hgl : g0 < s5.gens.size := (Array.getElem?_eq_some_iff.mp hgs5).1
      refine wpAny_gsz (n := g0 + 1) hgl (next_genG (F := FO X.prog X.w X.stack H1 s1 [D, L] T fun ys H2 => ∀ D acc, H2 D = none → Pars Cy fld ys acc → Q (.ref D) (upd H2 D (.lst acc))) (Er := fun _ _ => False) hh hl5 hr.depth hg5 hgs5 hgo (fun v z gs2 hb2 hv => ?_) (fun z hz h2 hk => ?_) fun e z hz => hz.elim)
      · intro hsz
        rw [← hT] at hv
        obtain ⟨ys, xv, H2, hn, rvx, os, bare, lim, isg, ha0, un, hok, hC, ⟨acc, its, c0, hpa, hva, hDs⟩, ⟨y, b, dy, fy, exv, eb, ly⟩, hk⟩ := hv
        have exv : xv = .ref b := exv
        subst exv
        obtain rfl : v = Value.ref b := rvx
        obtain ⟨zD, nD⟩ := hC D mD
        obtain ⟨zL, nL⟩ := hC L mL
        have hDz : z.heap.get? D = some { cls := .type "list", data := .seq its.toArray c0 } := zD.trans hDs
        have hNz : z.heap.Ns L mm := hn5.at' fun o e => zL.trans e
        have nC : ∀ c ∈ [D, L], H2 c = none := fun c hc => (hC c hc).2
        have hNce : (z.setGen g0 gs2).heap.Ns ce.locals mm := by rw [ceL]; exact hNz
        refine wpAny_pure ?_
        refine wpAny_assign_Name (wpAny_storeName_local ceX hNce (fun h7 hn7 sb7 => ?_) (by rw [ceK]; rfl))
        rw [ceL] at sb7
        refine wpAny_tests_nil ?_
        rw [if_pos rfl]
        have k7 : ∀ c o, c ≠ L → z.heap.get? c = some o → h7.get? c = some o := fun c o hc e => (sb7.2 c hc).trans e
        have un7 : Un (frs X.stack) [] H1 H2 s1.heap h7 := Un.past (C := [D, L]) un (fun c o hc e => k7 c o (fun q => hc (by rw [q]; exact mL)) e) fun c hc => (CY c hc).1
        have hok7 : HOk X.prog X.w H2 h7 := HOk.off (C := [D, L]) hok (fun c o hc e => k7 c o (fun q => hc (by rw [q]; exact mL)) e) nC
        have I7 : Inv X pins σ H2 { z.setGen g0 gs2 with heap := h7, toks := (z.setGen g0 gs2).toks + 1 } := I1.call' (ch := []) os un7 hok7 (allBare_setGen bare hb2) fun c q => absurd q List.not_mem_nil
        refine attr_of (hab ce) (wpAny_Name (wpAny_loadName_local (v := Value.ref b) ceK ceX hn7 (if_pos rfl) ?_) hdb)
        refine prop_at (k := 0) F S hl hb bd cy n hp (hr.mono (by omega)) I7.env0 eb ly fun u h8 tk ru kk => ?_
        have hD8 : h8.get? D = some { cls := .type "list", data := .seq its.toArray c0 } := kk D _ (k7 D _ DL hDz)
        have lacc : its.length = ys.length := by rw [hpa.1, hva.length]
        refine append_at (its := its.toArray) (s := { z.setGen g0 gs2 with heap := h8, toks := tk }) hD8 (fun h9 sb9 hD9 => ?_) (by rw [List.size_toArray]; omega)
        have k9 : ∀ c o, c ∉ [D, L] → z.heap.get? c = some o → h9.get? c = some o := fun c o hc e => (sb9.2 c (fun q => hc (by rw [q]; exact mD))).trans (kk c o (k7 c o (fun q => hc (by rw [q]; exact mL)) e))
        have hN9 : h9.Ns L (fun q => if q = x then some (Value.ref b) else mm q) := by
          rw [ceL] at hn7
          exact (hn7.keeps kk).at' fun o e => (sb9.2 L (Ne.symm DL)).trans e
        have un9 : Un (frs X.stack) [] H1 H2 s1.heap h9 := Un.past (C := [D, L]) un k9 fun c hc => (CY c hc).1
        have hok9 : HOk X.prog X.w H2 h9 := HOk.off (C := [D, L]) hok k9 nC
        have I9 : Inv X pins σ H2 { z.setGen g0 gs2 with heap := h9, toks := tk } := I1.call' (ch := []) os un9 hok9 (allBare_setGen bare hb2) fun c q => absurd q List.not_mem_nil
        have hD9' : h9.get? D = some { cls := .type "list", data := .seq (its ++ [u]).toArray (c0 + 1) } := by
          rw [hD9]
          simp
        have gaC : ga ∉ [D, L] := fun q => (CY ga q).2.2 rfl
        have nap : Nap X.prog X.w (frs X.stack) [D, L] H2 z (({ z.setGen g0 gs2 with heap := h9, toks := tk } : Shared).setGen g0 .running) := by
          refine ⟨rfl, allBare_setGen (allBare_setGen bare hb2) rfl, fun c o hc _ e _ => k9 c o hc e, fun c o hc _ e _ => ⟨o.slots, k9 c o hc e⟩, fun c o e => ?_, fun c hc => ?_, hok9⟩
          · by_cases hc : c ∈ [D, L]
            · rcases List.mem_cons.mp hc with q | q
              · rw [q]
                exact ⟨_, hD9'⟩
              · rw [List.mem_singleton.mp q]
                obtain ⟨o9, es, ep, ho, _⟩ := hN9
                exact ⟨o9, ho⟩
            · exact ⟨o, k9 c o hc e⟩
          · rcases List.mem_cons.mp hc with q | q
            · rw [q]
              exact ⟨_, hD9', fun v q => by cases q⟩
            · rw [List.mem_singleton.mp q]
              obtain ⟨o9, es, ep, ho, hd, _⟩ := hN9
              exact ⟨o9, ho, fun v q => by rw [hd] at q; cases q⟩
        have go := hk _ nap ⟨acc ++ [y], its ++ [u], c0 + 1, hpa.snoc ⟨b, dy, fy, rfl, eb, ly⟩, hva.append (.cons ru .nil), hD9'⟩
        cases n5 with
        | zero => exact False.elim go
        | succ m5 =>
          have hs9 : g0 < z.gens.size := by
            rw [setGen_size] at hsz
            omega
          exact ⟨m5, Nat.lt_succ_self _, gs2, _, setGen_at hs9, by rw [← hT]; exact go, I9.nolimit, (let ⟨o, n1, n2, ho, rest⟩ := isg; ⟨o, n1, n2, k9 ga o gaC ho, rest⟩), hN9⟩
      · intro hsz
        rw [← hT] at hz
        obtain ⟨H2, ys, os, bare, un, hok, hC, hle, ⟨acc, its, c0, hpa, hva, hDs⟩, hQ⟩ := hz
        obtain ⟨zD, nD⟩ := hC D mD
        obtain ⟨zL, nL⟩ := hC L mL
        have hN6 : h2.Ns L mm := hn5.at' fun o e => hk L o (zL.trans e)
        have I6 : Inv X pins σ (upd H2 D (.lst acc)) { z.setGen g0 .finished with heap := h2 } :=
          I1.drained (S := D) (acc := its.toArray) (c := c0) sz12 (by rw [← hpa.1]; exact hle) (hk D _ (zD.trans hDs)) (by simpa using hva) .nil os (allBare_setGen bare rfl) (un.trans (Un.kept hk)) (hok.kept hk) nD
        obtain ⟨f0, f1, f2, f3, f4, f5⟩ := I1.fpOk (H' := upd H2 D (.lst acc)) (b := L) (Nat.le_trans sz12 lDL) (by rw [upd_ne (Ne.symm DL)]; exact nL)
        refine ⟨mm, hN6, fun h3 sb => ⟨.ref D, upd H2 D (.lst acc), I6.turned (t' := z.toks) (it := L) (fun c o hc e => (sb.2 c hc).trans e) f0 f1 f3 f4 f5, rfl, hQ D acc nD hpa⟩⟩
    · refine ⟨.fresh c, _, by rw [g4]; exact hgs, ⟨rfl, ?_⟩, hlim.keeps k24, hg2.keeps k24, L4⟩
      refine wake X.A.in1 [D, L] T (s4.setGen g0 .running) (Room.in1 (hr.mono (by omega))) I1.ok.frames (fun b hb => (CY b hb).2.1) k24 (fun b hb => ?_) (o4.trans hos) (allBare_setGen (by rw [g4]; exact hbare) rfl) ?_
      · rcases List.mem_cons.mp hb with z | z
        · rw [z]
          exact ⟨_, D4, fun v q => by cases q⟩
        · rw [List.mem_singleton.mp z]
          obtain ⟨o, es, ep, ho, hd, _⟩ := L4
          exact ⟨o, ho, fun v q => by rw [hd] at q; cases q⟩
      · rw [← hT]
        exact ⟨[], [], 0, Pars.nil, .nil, D4⟩
  exact codeAny_compStart_list loop (wpAny_pyIter_gen (hg2.keeps k24) loop)
end
end GfX
/-! try with several clauses 'except C as e', one name for all -/
namespace TAs
open PySem PySem.Spec PyProof.Rows L2
abbrev Clause := Value × (Addr → Value → Option Addr → TS)
def wishes (K : PySem.W.Frag) (i : Nat) (Wout : WX) (D : Ends) : List Clause → WX
  | [] => Wout
  | (c, ts) :: more => wAs K c i ts (wishes K i Wout D more) D
inductive Clauses (X : Cx) (n : Str) : List ExceptHandler → List Clause → Prop
  | nil : Clauses X n [] []
  | cons {x : Str} {c : Value} {ts : Addr → Value → Option Addr → TS} {st : Stmt} {sts : List Stmt} {p1 p2 : Pos} {hs : List ExceptHandler} {cs : List Clause} (nm : Names X x c)
      (run : ∀ (e : Addr) (ob : Obj) (cls : Value) (d : Option Addr) (pn : List (Addr × Obj)), Zc cls d ob → (∃ fv, ob.data = .fields fv) → PSs (X.suite e ((e, ob) :: pn)) (st :: sts) (ts e cls d)) (more : Clauses X n hs cs) :
      Clauses X n (.ExceptHandler (some (.Name x p1)) (some n) (st :: sts) p2 :: hs) ((c, ts) :: cs)
section
variable {X : Cx} {n : Str} {i : Nat} {body : List Stmt} {h1 : ExceptHandler} {hs : List ExceptHandler} {cs : List Clause} {pos : Pos} {tb : WX → TS} {Wout : WX}
theorem ps_try (hst : X.stack = X.env :: X.outer) (hfm : X.env.frame = some X.env.locals) (nd : X.N.Nodup) (at_i : X.N[i]? = some n) (loc : X.env.kindOf n = some .local) (tk : Takes X Wout)
    (hb : ∀ (W : WX) (pn : List (Addr × Obj)) (xe : Value → Shared → Prop), Takes (X.tr pn xe) W → PassesOwn (model X.prog X.w) X.A X.env xe → PSs (X.tr pn xe) body (tb W))
    (all : Clauses X n (h1 :: hs) cs) : PS X (.Try body (h1 :: hs) [] [] pos) (fun D σ H => tb (wishes X.K i Wout D cs) D σ H) := ⟨by
  intro pins s σ H D I start
  have okI := I.ok
  have frames : X.A.frames = some (X.env :: X.outer) := by rw [okI.frames, hst]
  have isLoc : Loc X.env.scope n := .inl loc
  let after : Value → Shared → Prop := fun e s₁ => wpAny (model X.prog X.w) X.A (noteFrame e X.env) (fun _ s₂ => wpAny (model X.prog X.w) X.A (setFlight e none) (fun _ s₃ => wpAny (model X.prog X.w) X.A (handleBy e X.env (h1 :: hs)) (SP X pins D) X.xe s₃) X.xe s₂) X.xe s₁
  refine wpAny_Try_except (wpAny_mono ((hb (wishes X.K i Wout D cs) (X.pn ++ pins) after ?_ PassesOwn.looking).run [] s σ H D (I.toTry _) start) ?_ fun e s1 z => z)
  · rintro u sE ⟨e, B, sI, pins', σ', H', cls, d, rfl, JT, nb, grow, skyT, na, sos, ag, want⟩
    have J : Inv X pins σ' H' sI := JT.ofTry okI
    have sky : Sky B (X.env :: X.outer) e (Zc cls d) X.env.locals sE.heap := by rw [← hst]; exact skyT
    show wpAny _ X.A (noteFrame (.ref e) X.env) _ _ sE
    refine Sky.land Zc.steady frames hfm sky ?_
    intro hA flA upA
    have JA : Inv X pins σ' H' { sE with heap := hA } := J.landed nb flA.1 (grow.trans upA) sos ag
    obtain ⟨obA, fvA, getA, zcA, datA⟩ := flA.there
    have away : e ∉ frs (X.env :: X.outer) := fun mem => by
      obtain ⟨_, o', get', nf⟩ := flA.2.2.1.mem mem
      rw [getA] at get'
      cases get'
      exact nf _ datA
    have nLoc : e ≠ X.env.locals := fun z => away (List.mem_filterMap.mpr ⟨X.env, List.mem_cons_self, by rw [hfm, z]⟩)
    have nFs : e ∉ X.fs := fun mem => by
      obtain ⟨en, hen, q⟩ := List.mem_filterMap.mp mem
      exact away (List.mem_filterMap.mpr ⟨en, List.mem_cons_of_mem _ hen, q⟩)
    have SA := JA.suite getA datA na nLoc nFs
    have typed : PySem.W.Looks (model X.prog X.w) hA (typeOf (.ref e)) cls := fun A Q E s k q => wpAny_typeOf_ref (k _ _ getA) (by rw [zcA.1]; exact q)
    suffices walk : ∀ {ks : List ExceptHandler} {ls : List Clause}, Clauses X n ks ls → wishes X.K i Wout D ls cls d σ' H' → wpAny (model X.prog X.w) X.A (handleBy (.ref e) X.env ks) (SP X pins D) X.xe { sE with heap := hA } from walk all want
    intro ks ls cl
    induction cl with
    | nil =>
      intro w
      refine wpAny_handleBy_nil ?_
      obtain ⟨_, _, _, ob, fv, T, oT, ts', gob, zob, dob, d1, _⟩ := id flA
      unfold PySem.passOn
      refine wpAny_bind (wpAny_field gob dob d1 ?_)
      rw [if_neg (show ¬ ((Value.ref T == Value.none) = true) from by simp)]
      have leave : wpAny (model X.prog X.w) X.A (setFlight (.ref e) X.env.frame) (fun _ sN => wpAny (model X.prog X.w) X.A (throw (.ref e) : Sem Flow) (SP X pins D) X.xe sN) X.xe { sE with heap := hA } := by
        rw [hfm]
        refine HandSPX.setFlight_upZ flA ?_
        intro hB inB upB
        refine wpAny_throw (tk _ _ ⟨e, B, sI, pins, σ', H', cls, d, rfl, J, nb, (grow.trans upA).trans upB, .inr (.inr ?_), na, sos, ag, w⟩)
        rw [hst]
        exact inB
      first | exact wpAny_bind (wpAny_pure (wpAny_bind leave)) | exact wpAny_bind leave
    | @cons x c ts st sts p1 p2 hs2 cs2 nm run more ih =>
      rintro ⟨b, eb, yes, no⟩
      refine wpAny_handleBy_cons (codeAny_handlers_test ?_) (fun q => nomatch q)
      have isC := PySem.W.exm_one (M := model X.prog X.w) JA.kIn typed eb
      have named : ∀ {Q E : Value → Shared → Prop}, Q c { sE with heap := hA } → wpAny (model X.prog X.w) (X.A.mark (some (.ref e))) (eval (.Name x p1) X.env) Q E { sE with heap := hA } := by
        intro Q E q
        obtain ⟨gl, nd, m | ⟨m, bv, nn⟩⟩ := nm
        · exact ld_glob (X := X.suite e ((e, obA) :: (X.pn ++ pins))) SA gl m q nd
        · exact ld_blt (X := X.suite e ((e, obA) :: (X.pn ++ pins))) SA gl m bv q nn nd
      refine named (isC.here ?_)
      cases b with
      | false =>
        show wpAny _ X.A (handleBy (.ref e) X.env hs2) _ _ _
        exact ih (no rfl)
      | true =>
        refine codeAny_handlers_suite_as (HandSPX.lands_againZ flA ?_)
        intro hB flB upB
        have JB : Inv X pins σ' H' { sE with heap := hB } := J.landed nb flB.1 ((grow.trans upA).trans upB) sos ag
        obtain ⟨obB, fvB, getB, zcB, datB⟩ := flB.there
        have SB := JB.suite getB datB na nLoc nFs
        refine store_ok (X := X.suite e ((e, obB) :: (X.pn ++ pins))) (v := .ref e) SB nd at_i isLoc rfl (fun s5 S5 => ?_) (.inr loc)
        refine wpAny_mono ((run e obB cls d (X.pn ++ pins) zcB ⟨_, datB⟩).run [] s5 _ H' _ S5 (yes rfl e na)) (fun f s6 sp => ?_) fun _ _ z => z.elim
        have unbind : ∀ {σ6 : L2.St} {H6 : Hp} {Q : Shared → Prop}, Inv (X.suite e ((e, obB) :: (X.pn ++ pins))) [] σ6 H6 s6 → (∀ s7, Inv X pins (σ6.set i none) H6 s7 → Q s7) →
            wpAny (model X.prog X.w) X.A (do bindName X.env n .none; unbindBehindTheSuite X.env n p2) (fun _ s7 => Q s7) X.xe s6 := fun S6 go => gone_ok (S6.unsuite okI) nd at_i loc go
        rcases f with _ | _ | _ | u
        all_goals first
          | (obtain ⟨v6, σ6, H6, S6, r6, q6⟩ := sp; exact unbind S6 fun s7 J7 => ⟨_, _, _, J7, r6, q6⟩)
          | (obtain ⟨σ6, H6, S6, q6⟩ := sp; exact unbind S6 fun s7 J7 => ⟨_, _, J7, q6⟩)
  · intro f s1 sp
    rcases f with _ | _ | _ | u
    all_goals first
      | (obtain ⟨v, σ', H', J', r, q⟩ := sp; exact ⟨v, σ', H', J'.ofTry okI, r, q⟩)
      | (obtain ⟨σ', H', J', q⟩ := sp; first | exact wpAny_execs_nil ⟨σ', H', J'.ofTry okI, q⟩ | exact ⟨σ', H', J'.ofTry okI, q⟩)⟩
end
end TAs
/-! == and != of an instance that has its own __eq__, with whatever stands on the other side -/
namespace EqO
open PySem PySem.Spec PyProof.Rows L2
/-- a value of the built-in type T that declines == and != with the instance at x -/
structure Decl (s : Shared) (v : Value) (x : Addr) (T : String) : Prop where
  ty : s.TypeIs v T
  eq : ∀ (prog : Program) (w : World) (A : Around) (E : Value → Shared → Prop) (Q : Option Value → Shared → Prop), Q none s → wpAny (model prog w) A (tryCompare v "__eq__" (.ref x)) Q E s
  ne : ∀ (prog : Program) (w : World) (A : Around) (E : Value → Shared → Prop) (Q : Option Value → Shared → Prop), Q none s → wpAny (model prog w) A (tryCompare v "__ne__" (.ref x)) Q E s
theorem none_eq (l : Addr) : Gives (Builtin.«NoneType.__eq__» ⟨[.none, .ref l], []⟩) (.val (Value.notImplemented)) :=
  .of_wp fun M A E s Q h => by obtain ⟨hp, g, d, tk, os⟩ := s; wp_walk; exact ⟨_, rfl, h⟩
theorem none_ne (l : Addr) : Gives (Builtin.«NoneType.__ne__» ⟨[.none, .ref l], []⟩) (.val (Value.notImplemented)) :=
  .of_wp fun M A E s Q h => by obtain ⟨hp, g, d, tk, os⟩ := s; wp_walk; exact ⟨_, rfl, h⟩
theorem decl_none {s : Shared} (x : Addr) : Decl s .none x "NoneType" where
  ty := rfl
  eq := fun prog w A E Q h => wpAny_tryCompare_declines rfl F.slot_NoneType_eq (call_gives F.slot_NoneType_eq rfl F.entry_NoneType_eq (F.args_NoneType_eq_2 _ _) (none_eq x) ⟨rfl, h⟩)
  ne := fun prog w A E Q h => wpAny_tryCompare_declines rfl F.slot_NoneType_ne (call_gives F.slot_NoneType_ne rfl F.entry_NoneType_ne (F.args_NoneType_ne_2 _ _) (none_ne x) ⟨rfl, h⟩)
/-- the object at x is a plain one -/
def Pl (x : Addr) (s : Shared) : Prop := ∃ c dd sl, s.heap.get? x = some ({ cls := c, dict := dd, data := .plain, slots := sl } : Obj)
theorem bool_eq (b : Bool) (x : Addr) : Meets (Builtin.«int.__eq__» ⟨[.bool b, .ref x], []⟩) (fun _ R s => Pl x s ∧ R (.ok (.ret .notImplemented)) s) :=
  .of_wp fun prog w A R s h => by obtain ⟨hp, g, d, tk, os⟩ := s; obtain ⟨⟨c, dd, sl, hl⟩, h⟩ := h; wp_walk using wpAny_loadPart' hl, wpAny_load hl; exact ⟨_, rfl, h⟩
theorem bool_ne (b : Bool) (x : Addr) : Meets (Builtin.«int.__ne__» ⟨[.bool b, .ref x], []⟩) (fun _ R s => Pl x s ∧ R (.ok (.ret .notImplemented)) s) :=
  .of_wp fun prog w A R s h => by obtain ⟨hp, g, d, tk, os⟩ := s; obtain ⟨⟨c, dd, sl, hl⟩, h⟩ := h; wp_walk using wpAny_loadPart' hl, wpAny_load hl; exact ⟨_, rfl, h⟩
theorem int_eq (b : Int) (t : Tok) (x : Addr) : Meets (Builtin.«int.__eq__» ⟨[.int b t, .ref x], []⟩) (fun _ R s => Pl x s ∧ R (.ok (.ret .notImplemented)) s) :=
  .of_wp fun prog w A R s h => by obtain ⟨hp, g, d, tk, os⟩ := s; obtain ⟨⟨c, dd, sl, hl⟩, h⟩ := h; wp_walk using wpAny_loadPart' hl, wpAny_load hl; exact ⟨_, rfl, h⟩
theorem int_ne (b : Int) (t : Tok) (x : Addr) : Meets (Builtin.«int.__ne__» ⟨[.int b t, .ref x], []⟩) (fun _ R s => Pl x s ∧ R (.ok (.ret .notImplemented)) s) :=
  .of_wp fun prog w A R s h => by obtain ⟨hp, g, d, tk, os⟩ := s; obtain ⟨⟨c, dd, sl, hl⟩, h⟩ := h; wp_walk using wpAny_loadPart' hl, wpAny_load hl; exact ⟨_, rfl, h⟩
theorem str_eq (b : Str) (t : Tok) (x : Addr) : Meets (Builtin.«str.__eq__» ⟨[.str b t, .ref x], []⟩) (fun _ R s => Pl x s ∧ R (.ok (.ret .notImplemented)) s) :=
  .of_wp fun prog w A R s h => by obtain ⟨hp, g, d, tk, os⟩ := s; obtain ⟨⟨c, dd, sl, hl⟩, h⟩ := h; wp_walk using wpAny_loadPart' hl, wpAny_load hl; exact ⟨_, rfl, h⟩
theorem str_ne (b : Str) (t : Tok) (x : Addr) : Meets (Builtin.«str.__ne__» ⟨[.str b t, .ref x], []⟩) (fun _ R s => Pl x s ∧ R (.ok (.ret .notImplemented)) s) :=
  .of_wp fun prog w A R s h => by obtain ⟨hp, g, d, tk, os⟩ := s; obtain ⟨⟨c, dd, sl, hl⟩, h⟩ := h; wp_walk using wpAny_loadPart' hl, wpAny_load hl; exact ⟨_, rfl, h⟩
/-- the object at x is none of the built-in type T -/
def Not (x : Addr) (T : String) (M : Model) (s : Shared) : Prop := PySem.W.Looks M s.heap (isInstance (.ref x) (.type T)) false
theorem list_eq (l x : Addr) : Meets (Builtin.«list.__eq__» ⟨[.ref l, .ref x], []⟩) (fun A R s => (∀ M : Model, Not x "list" M s) ∧ R (.ok (.ret .notImplemented)) s) :=
  .of_wp fun prog w A R s h => by
    obtain ⟨n, h⟩ := h
    unfold Builtin.«list.__eq__»
    show wpAny _ _ (slotArgs "__eq__" 1 ⟨[.ref l, .ref x], []⟩ >>= _) _ _ _
    refine wpAny_bind (wpAny_pure (wpAny_bind ((n _).here ?_)))
    first | exact wpAny_pure h | exact wpAny_pure ⟨_, rfl, h⟩ | exact wpAny_pure (wpAny_pure h) | skip
theorem list_ne (l x : Addr) : Meets (Builtin.«list.__ne__» ⟨[.ref l, .ref x], []⟩) (fun A R s => (∀ M : Model, Not x "list" M s) ∧ R (.ok (.ret .notImplemented)) s) :=
  .of_wp fun prog w A R s h => by
    obtain ⟨n, h⟩ := h
    unfold Builtin.«list.__ne__»
    show wpAny _ _ (slotArgs "__ne__" 1 ⟨[.ref l, .ref x], []⟩ >>= _) _ _ _
    refine wpAny_bind (wpAny_pure (wpAny_bind ((n _).here ?_)))
    first | exact wpAny_pure h | exact wpAny_pure ⟨_, rfl, h⟩ | exact wpAny_pure (wpAny_pure h) | skip
theorem tuple_eq (l x : Addr) : Meets (Builtin.«tuple.__eq__» ⟨[.ref l, .ref x], []⟩) (fun A R s => (∀ M : Model, Not x "tuple" M s) ∧ R (.ok (.ret .notImplemented)) s) :=
  .of_wp fun prog w A R s h => by
    obtain ⟨n, h⟩ := h
    unfold Builtin.«tuple.__eq__»
    show wpAny _ _ (slotArgs "__eq__" 1 ⟨[.ref l, .ref x], []⟩ >>= _) _ _ _
    refine wpAny_bind (wpAny_pure (wpAny_bind ((n _).here ?_)))
    first | exact wpAny_pure h | exact wpAny_pure ⟨_, rfl, h⟩ | exact wpAny_pure (wpAny_pure h) | skip
theorem tuple_ne (l x : Addr) : Meets (Builtin.«tuple.__ne__» ⟨[.ref l, .ref x], []⟩) (fun A R s => (∀ M : Model, Not x "tuple" M s) ∧ R (.ok (.ret .notImplemented)) s) :=
  .of_wp fun prog w A R s h => by
    obtain ⟨n, h⟩ := h
    unfold Builtin.«tuple.__ne__»
    show wpAny _ _ (slotArgs "__ne__" 1 ⟨[.ref l, .ref x], []⟩ >>= _) _ _ _
    refine wpAny_bind (wpAny_pure (wpAny_bind ((n _).here ?_)))
    first | exact wpAny_pure h | exact wpAny_pure ⟨_, rfl, h⟩ | exact wpAny_pure (wpAny_pure h) | skip
theorem dict_eq (l x : Addr) : Meets (Builtin.«dict.__eq__» ⟨[.ref l, .ref x], []⟩) (fun A R s => (∀ M : Model, Not x "dict" M s) ∧ R (.ok (.ret .notImplemented)) s) :=
  .of_wp fun prog w A R s h => by
    obtain ⟨n, h⟩ := h
    unfold Builtin.«dict.__eq__»
    have f : Builtin.Dict.dictSlotArgs "__eq__" ⟨[.ref l, .ref x], []⟩ = pure (.ref l, .ref x) := by first | rfl | kernel_rfl
    show wpAny _ _ (Builtin.Dict.dictSlotArgs "__eq__" ⟨[.ref l, .ref x], []⟩ >>= _) _ _ _
    rw [f]
    refine wpAny_bind (wpAny_pure (wpAny_bind ((n _).here ?_)))
    rw [if_pos (show (!false) = true from rfl)]
    exact wpAny_bind (wpAny_rule (wpAny_pure ⟨_, rfl, h⟩))
theorem dict_ne (l x : Addr) : Meets (Builtin.«dict.__ne__» ⟨[.ref l, .ref x], []⟩) (fun A R s => (∀ M : Model, Not x "dict" M s) ∧ R (.ok (.ret .notImplemented)) s) :=
  .of_wp fun prog w A R s h => by
    obtain ⟨n, h⟩ := h
    unfold Builtin.«dict.__ne__»
    have f : Builtin.Dict.dictSlotArgs "__ne__" ⟨[.ref l, .ref x], []⟩ = pure (.ref l, .ref x) := by first | rfl | kernel_rfl
    show wpAny _ _ (Builtin.Dict.dictSlotArgs "__ne__" ⟨[.ref l, .ref x], []⟩ >>= _) _ _ _
    rw [f]
    refine wpAny_bind (wpAny_pure (wpAny_bind ((n _).here ?_)))
    rw [if_pos (show (!false) = true from rfl)]
    exact wpAny_bind (wpAny_rule (wpAny_pure ⟨_, rfl, h⟩))

theorem decl_bool {s : Shared} {x : Addr} (b : Bool) (p : Pl x s) : Decl s (.bool b) x "bool" where
  ty := rfl
  eq := fun prog w A E Q h => wpAny_tryCompare_declines (T := "bool") rfl F.slot_bool_eq (call_meets F.slot_bool_eq rfl F.entry_int_eq (F.args_int_eq_2 _ _) (bool_eq b x) ⟨p, rfl, h⟩)
  ne := fun prog w A E Q h => wpAny_tryCompare_declines (T := "bool") rfl F.slot_bool_ne (call_meets F.slot_bool_ne rfl F.entry_int_ne (F.args_int_ne_2 _ _) (bool_ne b x) ⟨p, rfl, h⟩)
theorem decl_int {s : Shared} {x : Addr} (b : Int) (t : Tok) (p : Pl x s) : Decl s (.int b t) x "int" where
  ty := rfl
  eq := fun prog w A E Q h => wpAny_tryCompare_declines (T := "int") rfl F.slot_int_eq (call_meets F.slot_int_eq rfl F.entry_int_eq (F.args_int_eq_2 _ _) (int_eq b t x) ⟨p, rfl, h⟩)
  ne := fun prog w A E Q h => wpAny_tryCompare_declines (T := "int") rfl F.slot_int_ne (call_meets F.slot_int_ne rfl F.entry_int_ne (F.args_int_ne_2 _ _) (int_ne b t x) ⟨p, rfl, h⟩)
theorem decl_str {s : Shared} {x : Addr} (b : Str) (t : Tok) (p : Pl x s) : Decl s (.str b t) x "str" where
  ty := rfl
  eq := fun prog w A E Q h => wpAny_tryCompare_declines (T := "str") rfl F.slot_str_eq (call_meets F.slot_str_eq rfl F.entry_str_eq (F.args_str_eq_2 _ _) (str_eq b t x) ⟨p, rfl, h⟩)
  ne := fun prog w A E Q h => wpAny_tryCompare_declines (T := "str") rfl F.slot_str_ne (call_meets F.slot_str_ne rfl F.entry_str_ne (F.args_str_ne_2 _ _) (str_ne b t x) ⟨p, rfl, h⟩)
theorem decl_list {s : Shared} {l x : Addr} (ty : s.TypeIs (.ref l) "list") (n : ∀ M : Model, Not x "list" M s) : Decl s (.ref l) x "list" where
  ty := ty
  eq := fun prog w A E Q h => wpAny_tryCompare_declines ty F.slot_list_eq (call_meets F.slot_list_eq ty F.entry_list_eq (F.args_list_eq_2 _ _) (list_eq l x) ⟨n, rfl, h⟩)
  ne := fun prog w A E Q h => wpAny_tryCompare_declines ty F.slot_list_ne (call_meets F.slot_list_ne ty F.entry_list_ne (F.args_list_ne_2 _ _) (list_ne l x) ⟨n, rfl, h⟩)
theorem decl_tuple {s : Shared} {l x : Addr} (ty : s.TypeIs (.ref l) "tuple") (n : ∀ M : Model, Not x "tuple" M s) : Decl s (.ref l) x "tuple" where
  ty := ty
  eq := fun prog w A E Q h => wpAny_tryCompare_declines ty F.slot_tuple_eq (call_meets F.slot_tuple_eq ty F.entry_tuple_eq (F.args_tuple_eq_2 _ _) (tuple_eq l x) ⟨n, rfl, h⟩)
  ne := fun prog w A E Q h => wpAny_tryCompare_declines ty F.slot_tuple_ne (call_meets F.slot_tuple_ne ty F.entry_tuple_ne (F.args_tuple_ne_2 _ _) (tuple_ne l x) ⟨n, rfl, h⟩)
theorem decl_dict {s : Shared} {l x : Addr} (ty : s.TypeIs (.ref l) "dict") (n : ∀ M : Model, Not x "dict" M s) : Decl s (.ref l) x "dict" where
  ty := ty
  eq := fun prog w A E Q h => wpAny_tryCompare_declines ty F.slot_dict_eq (call_meets F.slot_dict_eq ty F.entry_dict_eq (F.args_dict_eq_2 _ _) (dict_eq l x) ⟨n, rfl, h⟩)
  ne := fun prog w A E Q h => wpAny_tryCompare_declines ty F.slot_dict_ne (call_meets F.slot_dict_ne ty F.entry_dict_ne (F.args_dict_ne_2 _ _) (dict_ne l x) ⟨n, rfl, h⟩)

section
variable {prog : Program} {w : World} {A : Around} {E : Value → Shared → Prop} {s : Shared} {K : PySem.W.Frag} {x C g : Addr} {ox : Obj} {od : Option Obj} {v b : Value} {T : String}
theorem bne_of (C : Addr) (T : String) : (Value.type T != Value.ref C) = true := by
  have e : (Value.type T == Value.ref C) = false := Bool.eq_false_iff.mpr fun q => by cases beq_iff_eq.mp q
  simp [bne, e]
theorem try_eq {Q : Option Value → Shared → Prop} (X : K.In s.heap) (I : PySem.W.InstAt s.heap x ox C od) (hs : PySem.W.findIn K (.ref C) "__eq__" = some (some (.ref g))) (hf : PySem.W.isFn K (.ref g) = true)
    (h : wpAny (model prog w) A (call (.ref g) [.ref x, b]) (PySem.W.CmpBack fun v s' => Q (some v) s') E s) : wpAny (model prog w) A (tryCompare (.ref x) "__eq__" b) Q E s := by
  unfold tryCompare
  refine wpAny_bind (PySem.W.ifBound_K X I hs hf (wpAny_mono h (fun v s' hv => ?_) fun _ _ e => e))
  cases v <;> first | exact hv.elim | exact wpAny_pure hv
/-- b == x, b of a built-in type -/
theorem eq_right {Q : Value → Shared → Prop} (hu : A.units < cLine) (X : K.In s.heap) (I : PySem.W.InstAt s.heap x ox C od) (D : Decl s v x T) (sub : PySem.W.subIn K (.ref C) (.type T) = some false)
    (hs : PySem.W.findIn K (.ref C) "__eq__" = some (some (.ref g))) (hf : PySem.W.isFn K (.ref g) = true) (h : wpAny (model prog w) A (call (.ref g) [.ref x, v]) (PySem.W.CmpBack Q) E s) :
    wpAny (model prog w) A (richCompare .Eq v (.ref x)) Q E s := by
  unfold richCompare
  simp only [D.ty.oneThing_none]
  refine wpAny_holding (wpAny_bind (wpAny_cRoomFor hu (wpAny_bind (wpAny_typeOf D.ty (wpAny_bind (I.type.here ?_))))))
  rw [if_pos (bne_of C T)]
  refine wpAny_bind ((PySem.W.looks_subIn X sub).here ?_)
  simp only [Bool.false_eq_true, if_false, Bool.not_false, if_true]
  refine wpAny_bind (D.eq _ _ _ _ _ ?_)
  refine wpAny_bind (try_eq X I hs hf (wpAny_mono h (fun u s' hv => ?_) fun _ _ e => e))
  cases u <;> first | exact hv.elim | exact wpAny_pure hv
theorem obj_ne {Q : Fin → Shared → Prop} (hu : A.units < cLine) (X : K.In s.heap) (I : PySem.W.InstAt s.heap x ox C od) (hs : PySem.W.findIn K (.ref C) "__eq__" = some (some (.ref g))) (hf : PySem.W.isFn K (.ref g) = true)
    (h : wpAny (model prog w) A (call (.ref g) [.ref x, b]) (fun v s' => ∃ r, v = .bool r ∧ Q (.done (.ret (.bool (!r)))) s') E s) : wpAny (model prog w) A (Builtin.«object.__ne__» ⟨[.ref x, b], []⟩) Q E s := by
  unfold Builtin.«object.__ne__»
  show wpAny _ _ (slotArgs "__ne__" 1 ⟨[.ref x, b], []⟩ >>= _) _ _ _
  refine wpAny_bind (wpAny_pure (wpAny_bind (wpAny_cRoomFor hu (wpAny_bind (PySem.W.ifBound_K X I hs hf (wpAny_mono h ?_ fun _ _ e => e))))))
  rintro _ s' ⟨r, rfl, q⟩
  exact wpAny_bind (wpAny_truthy_bool (wpAny_pure q))
theorem try_ne {Q : Option Value → Shared → Prop} (hu : A.units + 1 < cLine) (X : K.In s.heap) (I : PySem.W.InstAt s.heap x ox C od) (hn : PySem.W.findIn K (.ref C) "__ne__" = some (some (.builtin "object.__ne__"))) (ob : PySem.W.subIn K (.ref C) (.type "object") = some true)
    (hs : PySem.W.findIn K (.ref C) "__eq__" = some (some (.ref g))) (hf : PySem.W.isFn K (.ref g) = true)
    (h : wpAny (model prog w) A.in1 (call (.ref g) [.ref x, b]) (fun v s' => ∃ r, v = .bool r ∧ Q (some (.bool (!r))) s') E s) : wpAny (model prog w) A (tryCompare (.ref x) "__ne__" b) Q E s := by
  have S := F.cmp_object.ne
  have isO : PySem.W.Looks (model prog w) s.heap (isInstance (.ref x) (.type "object")) true := I.type.andThen (PySem.W.looks_subIn X ob)
  have run : wpAny (model prog w) A (call (.builtin "object.__ne__") [.ref x, b]) (fun v s' => ∃ r, v = .bool r ∧ Q (some (.bool r)) s') E s := by
    refine wpAny_call (codeAny_call_builtin S.plain F.cmpEntry_ne (PySem.W.check_slot F.cmpKind_ne F.cmpSplit_ne isO (F.cmpArgs_ne _ _) (obj_ne (A := A.in1) hu X I hs hf (wpAny_mono h ?_ fun _ _ e => e))))
    rintro _ s' ⟨r, rfl, q⟩
    exact ⟨r, rfl, _, rfl, q⟩
  unfold tryCompare
  simp only [callSpecialIfBound?, bindSpecialIfBound?]
  have fin : wpAny (model prog w) A (call (.builtin "object.__ne__") ([.ref x] ++ [b]) >>= fun v => pure (some v)) (fun r s' => ∃ q, r = some (.bool q) ∧ Q (some (.bool q)) s') E s := wpAny_bind (wpAny_mono run (fun v s' h' => by
    obtain ⟨r, rfl, q⟩ := h'
    exact wpAny_pure ⟨r, rfl, q⟩) fun _ _ h' => h')
  refine wpAny_bind (wpAny_holding (wpAny_bind (wpAny_bind (wpAny_bind (I.type.here ((PySem.W.looks_findIn X hn).here ?_))))))
  simp only [S.bind]
  refine wpAny_bind (wpAny_askSetting (wpAny_ite ?_))
  split
  · refine wpAny_bind (wpAny_pure (wpAny_pure (wpAny_mono fin (fun r s' h' => ?_) fun _ _ e => e)))
    obtain ⟨q, rfl, z⟩ := h'
    exact wpAny_pure z
  · refine wpAny_tryCatch (wpAny_bind (wpAny_pure (wpAny_pure (wpAny_mono fin (fun r s' h' => ?_) fun _ _ e => e))))
    obtain ⟨q, rfl, z⟩ := h'
    exact wpAny_pure z
/-- b != x, b of a built-in type -/
theorem ne_right {Q : Value → Shared → Prop} (hu : A.units + 1 < cLine) (X : K.In s.heap) (I : PySem.W.InstAt s.heap x ox C od) (D : Decl s v x T) (sub : PySem.W.subIn K (.ref C) (.type T) = some false)
    (hn : PySem.W.findIn K (.ref C) "__ne__" = some (some (.builtin "object.__ne__"))) (ob : PySem.W.subIn K (.ref C) (.type "object") = some true)
    (hs : PySem.W.findIn K (.ref C) "__eq__" = some (some (.ref g))) (hf : PySem.W.isFn K (.ref g) = true) (h : wpAny (model prog w) A.in1 (call (.ref g) [.ref x, v]) (fun u s' => ∃ r, u = .bool r ∧ Q (.bool (!r)) s') E s) :
    wpAny (model prog w) A (richCompare .NotEq v (.ref x)) Q E s := by
  unfold richCompare
  simp only [D.ty.oneThing_none]
  refine wpAny_holding (wpAny_bind (wpAny_cRoomFor (Nat.lt_of_succ_lt hu) (wpAny_bind (wpAny_typeOf D.ty (wpAny_bind (I.type.here ?_))))))
  rw [if_pos (bne_of C T)]
  refine wpAny_bind ((PySem.W.looks_subIn X sub).here ?_)
  simp only [Bool.false_eq_true, if_false, Bool.not_false, if_true]
  refine wpAny_bind (D.ne _ _ _ _ _ ?_)
  refine wpAny_bind (try_ne hu X I hn ob hs hf (wpAny_mono h (fun u s' hv => ?_) fun _ _ e => e))
  obtain ⟨r, rfl, q⟩ := hv
  exact ⟨r, rfl, wpAny_pure q⟩
/-- x != b -/
theorem ne_left {tb : Value} {Q : Value → Shared → Prop} (hu : A.units + 1 < cLine) (X : K.In s.heap) (I : PySem.W.InstAt s.heap x ox C od) (hb : PySem.W.Looks (model prog w) s.heap (typeOf b) tb) (nf : PySem.W.notFirst K C tb = true)
    (hn : PySem.W.findIn K (.ref C) "__ne__" = some (some (.builtin "object.__ne__"))) (ob : PySem.W.subIn K (.ref C) (.type "object") = some true)
    (hs : PySem.W.findIn K (.ref C) "__eq__" = some (some (.ref g))) (hf : PySem.W.isFn K (.ref g) = true) (h : wpAny (model prog w) A.in1 (call (.ref g) [.ref x, b]) (fun u s' => ∃ r, u = .bool r ∧ Q (.bool (!r)) s') E s) :
    wpAny (model prog w) A (richCompare .NotEq (.ref x) b) Q E s := by
  have one := try_ne (Q := fun r s' => ∃ q, r = some (.bool q) ∧ Q (.bool q) s') hu X I hn ob hs hf (wpAny_mono h (fun u s' hv => by
    obtain ⟨r, rfl, q⟩ := hv
    exact ⟨r, rfl, _, rfl, q⟩) fun _ _ e => e)
  unfold richCompare
  simp only [oneThing_ref]
  refine wpAny_holding (wpAny_bind (wpAny_cRoomFor (Nat.lt_of_succ_lt hu) (wpAny_bind (I.type.here (wpAny_bind (hb.here ?_))))))
  have last : wpAny (model prog w) A (do
      if let some v ← tryCompare (.ref x) (cmpInfo .NotEq).2.1 b then return v
      if !false then
        if let some v ← tryCompare b (cmpInfo .NotEq).2.2 (.ref x) then return v
      rule "compare.ne-identity"
      return .bool (!(← isSame (.ref x) b))) Q E s := by
    refine wpAny_bind (wpAny_mono one (fun r s' z => ?_) fun _ _ e => e)
    obtain ⟨q, rfl, z⟩ := z
    exact wpAny_pure z
  split
  · rename_i q
    have e : PySem.W.subIn K tb (.ref C) = some false := by
      rcases Bool.or_eq_true_iff.mp nf with e | e
      · rw [beq_iff_eq.mp e] at q; simp at q
      · exact beq_iff_eq.mp e
    exact wpAny_bind ((PySem.W.looks_subIn X e).here last)
  · exact wpAny_bind (wpAny_pure last)
end
end EqO
namespace EqO
open PySem PySem.Spec PyProof.Rows L2
/-- a tracked value of a built-in type -/
inductive BtV (K : PySem.W.Frag) (H : Hp) : V → String → Prop
  | non : BtV K H .non "NoneType"
  | bl (b : Bool) : BtV K H (.bl b) "bool"
  | int (i : Int) : BtV K H (.int i) "int"
  | str (x : Str) : BtV K H (.str x) "str"
  | lst {a : Addr} {xs : List V} : H a = some (.lst xs) → BtV K H (.ref a) "list"
  | tup {a : Addr} {xs : List V} : H a = some (.tup xs) → BtV K H (.ref a) "tuple"
  | dic {a : Addr} {kvs : List (Key × V)} : H a = some (.dK kvs) → BtV K H (.ref a) "dict"
  | kTup {a : Addr} {o : Obj} : K.lookup a = some o → o.cls = .type "tuple" → BtV K H (.ref a) "tuple"
structure OwnE (K : PySem.W.Frag) (C g : Addr) : Prop where
  eq : PySem.W.findIn K (.ref C) "__eq__" = some (some (.ref g))
  fn : PySem.W.isFn K (.ref g) = true
  ne : PySem.W.findIn K (.ref C) "__ne__" = some (some (.builtin "object.__ne__"))
  ob : PySem.W.subIn K (.ref C) (.type "object") = some true
  sub : ∀ T ∈ ["NoneType", "bool", "int", "str", "list", "tuple", "dict"], PySem.W.subIn K (.ref C) (.type T) = some false ∧ PySem.W.notFirst K C (.type T) = true
theorem BtV.mem {K : PySem.W.Frag} {H : Hp} {v : V} {T : String} (h : BtV K H v T) : T ∈ ["NoneType", "bool", "int", "str", "list", "tuple", "dict"] := by
  cases h <;> decide
section
variable {X : Cx} {CX : CXT} {pins : List (Addr × Obj)} {σ : L2.St} {H : Hp} {s : Shared} {a C g dx : Addr} {fs : List (Str × V)} {n : Nat} {sp : Sp} {E : XK} {v : V} {u : Value} {T : String}
theorem decl_of (I : Inv X pins σ H s) (O : OwnE X.K C g) (J : PySem.W.InstAt s.heap a ox C od) (pl : Pl a s) (b : BtV X.K H v T) (r : RelV v u) : Decl s u a T := by
  have no : ∀ T, PySem.W.subIn X.K (.ref C) (.type T) = some false → ∀ M : Model, Not a T M s := fun T e M => J.type.andThen (PySem.W.looks_subIn I.kIn e)
  cases b with
  | non => cases r; exact decl_none a
  | bl b => cases r; exact decl_bool b pl
  | int i => obtain ⟨t, rfl⟩ := r; exact decl_int i t pl
  | str x => obtain ⟨t, rfl⟩ := r; exact decl_str x t pl
  | @lst l xs e =>
    cases r
    obtain ⟨_, _, n, _, h1⟩ := (show ObjOk X.prog X.w H s.heap l (.lst xs) from I.hok l _ e)
    exact decl_list ⟨_, h1, rfl⟩ (no _ (O.sub _ (by decide)).1)
  | @tup l xs e =>
    cases r
    obtain ⟨_, _, _, o, h1, h2, _⟩ := (show ObjOk X.prog X.w H s.heap l (.tup xs) from I.hok l _ e)
    exact decl_tuple ⟨o, h1, h2⟩ (no _ (O.sub _ (by decide)).1)
  | @dic l kvs e =>
    cases r
    obtain ⟨_, _, vs, _, o, es, ep, h1, h2, _⟩ := (show ObjOk X.prog X.w H s.heap l (.dK kvs) from I.hok l _ e)
    exact decl_dict ⟨o, h1, h2.1⟩ (no _ (O.sub _ (by decide)).1)
  | @kTup l o e c =>
    cases r
    exact decl_tuple ⟨o, I.kIn l o e, c⟩ (no _ (O.sub _ (by decide)).1)
theorem inst_of (I : Inv X pins σ H s) (h : H a = some (.ins C dx fs)) : ∃ ox od, PySem.W.InstAt s.heap a ox C od ∧ Pl a s := by
  obtain ⟨mA, O, _⟩ := ins_get I.hok h
  obtain ⟨od, J, _⟩ := O.look
  exact ⟨_, _, J, _, _, _, O.obj⟩
/-- what stands on the other side -/
def Oth (K : PySem.W.Frag) (C : Addr) (H : Hp) (y : V) : Prop := (∃ T, BtV K H y T) ∨ ∃ b dy gs, y = .ref b ∧ H b = some (.ins C dy gs)
def rEqO (K : PySem.W.Frag) (C : Addr) (sp : Sp) (E : XK) : R2 := fun x y H Q =>
  (∃ a dx fs, x = .ref a ∧ H a = some (.ins C dx fs) ∧ Oth K C H y ∧ sp [x, y] H Q E) ∨ ∃ a dx fs T, y = .ref a ∧ H a = some (.ins C dx fs) ∧ BtV K H x T ∧ sp [y, x] H Q E
def rNeO (K : PySem.W.Frag) (C : Addr) (sp : Sp) (E : XK) : R2 := fun x y H Q => rEqO K C (fun vs H1 Q1 E1 => sp vs H1 (fun v H' => ∃ r, v = .bl r ∧ Q (.bl (!r)) H') E1) E x y H fun _ _ => True
theorem type_of (I : Inv X pins σ H s) (O : OwnE X.K C g) (J : PySem.W.InstAt s.heap a ox C od) (pl : Pl a s) (o : Oth X.K C H v) (r : RelV v u) : ∃ tb, PySem.W.Looks (model X.prog X.w) s.heap (typeOf u) tb ∧ PySem.W.notFirst X.K C tb = true := by
  rcases o with ⟨T, b⟩ | ⟨b, dy, gs, rfl, e⟩
  · have D := decl_of I O J pl b r
    refine ⟨.type T, ?_, (O.sub T b.mem).2⟩
    have ty := D.ty
    intro A Q E s' k q
    cases u with
    | ref l =>
      obtain ⟨o, ho, hc⟩ := ty
      exact wpAny_typeOf (T := T) ⟨o, k _ _ ho, hc⟩ q
    | _ => exact wpAny_typeOf (T := T) ty q
  · cases r
    obtain ⟨ox, od, J2, _⟩ := inst_of I e
    exact ⟨.ref C, J2.type, by unfold PySem.W.notFirst; simp⟩
theorem op_eqO (O : OwnE X.K C g) (F : FnR X.prog X.w X.K X.mg X.base CX n g sp) (hr : Room n X.A) (hx : Passes CX X E) : OpR X (compareOp .Eq) (rEqO X.K C sp E) := by
  intro pins s σ H x y v u Q I rx ry h
  show wpAny _ _ (richCompare .Eq v u) _ _ _
  obtain ⟨m, hF⟩ := I.fr
  rcases h with ⟨a, dx, fs, rfl, e, o, q⟩ | ⟨a, dx, fs, T, rfl, e, b, q⟩
  · cases rx
    obtain ⟨ox, od, J, pl⟩ := inst_of I e
    obtain ⟨tb, L, nf⟩ := type_of I O J pl o ry
    refine PySem.W.cmp_K (op := .Eq) hr.units0 hF I.ok.mod.kin J L nf O.eq O.fn ?_
    refine wpAny_mono (wpAny_call (run_fnR (us := [.ref a, u]) (vs := [.ref a, y]) F hr hx I (.cons rfl (.cons ry .nil)) q)) (fun w s' z => ?_) fun _ _ x => x
    obtain ⟨z', H', I', rz, qz⟩ := z
    exact SlX.cmpback rz ⟨z', H', I', rz, qz⟩
  · cases ry
    obtain ⟨ox, od, J, pl⟩ := inst_of I e
    refine eq_right hr.units0 I.kIn J (decl_of I O J pl b rx) (O.sub T b.mem).1 O.eq O.fn ?_
    refine wpAny_mono (wpAny_call (run_fnR (us := [.ref a, v]) (vs := [.ref a, x]) F hr hx I (.cons rfl (.cons rx .nil)) q)) (fun w s' z => ?_) fun _ _ x => x
    obtain ⟨z', H', I', rz, qz⟩ := z
    exact SlX.cmpback rz ⟨z', H', I', rz, qz⟩
theorem op_neO (O : OwnE X.K C g) (F : FnR X.prog X.w X.K X.mg X.base CX n g sp) (hr : Room (n + 1) X.A) (hx : Passes CX X E) : OpR X (compareOp .NotEq) (rNeO X.K C sp E) := by
  intro pins s σ H x y v u Q I rx ry h
  show wpAny _ _ (richCompare .NotEq v u) _ _ _
  have hr1 : Room n X.A.in1 := hr.in1
  rcases h with ⟨a, dx, fs, rfl, e, o, q⟩ | ⟨a, dx, fs, T, rfl, e, b, q⟩
  · cases rx
    obtain ⟨ox, od, J, pl⟩ := inst_of I e
    obtain ⟨tb, L, nf⟩ := type_of I O J pl o ry
    refine ne_left hr1.units0 I.kIn J L nf O.ne O.ob O.eq O.fn ?_
    refine wpAny_mono (wpAny_call (SlX.run_at (us := [.ref a, u]) (ws := [.ref a, y]) F hr1 I.env0.in1 hx I (.cons rfl (.cons ry .nil)) q)) (fun w s' z => ?_) fun _ _ x => x
    obtain ⟨z', H', I', rz, r, rfl, qz⟩ := z
    cases rz
    exact ⟨r, rfl, .bl (!r), H', I', rfl, qz⟩
  · cases ry
    obtain ⟨ox, od, J, pl⟩ := inst_of I e
    refine ne_right hr1.units0 I.kIn J (decl_of I O J pl b rx) (O.sub T b.mem).1 O.ne O.ob O.eq O.fn ?_
    refine wpAny_mono (wpAny_call (SlX.run_at (us := [.ref a, v]) (ws := [.ref a, x]) F hr1 I.env0.in1 hx I (.cons rfl (.cons rx .nil)) q)) (fun w s' z => ?_) fun _ _ x => x
    obtain ⟨z', H', I', rz, r, rfl, qz⟩ := z
    cases rz
    exact ⟨r, rfl, .bl (!r), H', I', rfl, qz⟩
/-- f(x), f one of len, repr, str, x an instance of the class at C, what C's own method keeps: sp -/
def rLenO (C : Addr) (sp : Sp) (E : XK) : List V → Hp → VK → Prop := fun xs H Q => ∃ a dx fs, xs = [V.ref a] ∧ H a = some (.ins C dx fs) ∧ sp [.ref a] H (fun v H' => ∃ k : Nat, v = .int (k : Int) ∧ k < 2 ^ 60 ∧ Q v H') E
def rTxtO (C : Addr) (sp : Sp) (E : XK) : List V → Hp → VK → Prop := fun xs H Q => ∃ a dx fs, xs = [V.ref a] ∧ H a = some (.ins C dx fs) ∧ sp [.ref a] H (fun v H' => ∃ z : Str, v = .str z ∧ Q v H') E
theorem call_lenO (hs : PySem.W.findIn X.K (.ref C) "__len__" = some (some (.ref g))) (hf : PySem.W.isFn X.K (.ref g) = true) (F : FnR X.prog X.w X.K X.mg X.base CX n g sp) (hr : Room (n + 1) X.A) (hx : Passes CX X E) : CallR X (.builtin "len") (rLenO C sp E) := by
  rintro pins s σ H xs us Q I r ⟨a, dx, fs, rfl, e, q⟩
  obtain ⟨u, rfl, ru⟩ := r.one
  cases ru
  obtain ⟨ox, od, J, pl⟩ := inst_of I e
  obtain ⟨m, hF⟩ := I.fr
  refine PySem.W.len_K hF I.ok.mod.kin J hs hf (wpAny_mono (wpAny_call (SlX.run_at (us := [.ref a]) (ws := [.ref a]) F hr.in1 I.env0.in1 hx I (.cons rfl .nil) q)) (fun w s' z => ?_) fun _ _ x => x)
  obtain ⟨z', H', I', rz, k, rfl, hk, qz⟩ := z
  obtain ⟨t, rfl⟩ := rz
  exact ⟨⟨by omega, by omega⟩, .int (k : Int), H', I'.tok _, ⟨_, rfl⟩, qz⟩
theorem call_reprO (hs : PySem.W.findIn X.K (.ref C) "__repr__" = some (some (.ref g))) (hf : PySem.W.isFn X.K (.ref g) = true) (F : FnR X.prog X.w X.K X.mg X.base CX n g sp) (hr : Room (n + 1) X.A) (hx : Passes CX X E) : CallR X (.builtin "repr") (rTxtO C sp E) := by
  rintro pins s σ H xs us Q I r ⟨a, dx, fs, rfl, e, q⟩
  obtain ⟨u, rfl, ru⟩ := r.one
  cases ru
  obtain ⟨ox, od, J, pl⟩ := inst_of I e
  obtain ⟨m, hF⟩ := I.fr
  refine PySem.W.repr_K hr.in1.units0 hF I.ok.mod.kin J hs hf (wpAny_mono (wpAny_call (SlX.run_at (us := [.ref a]) (ws := [.ref a]) F hr.in1 I.env0.in1 hx I (.cons rfl .nil) q)) (fun w s' z => ?_) fun _ _ x => x)
  obtain ⟨z', H', I', rz, y, rfl, qz⟩ := z
  obtain ⟨t, rfl⟩ := rz
  exact ⟨.str y, H', I', ⟨_, rfl⟩, qz⟩
theorem call_strO (hs : PySem.W.findIn X.K (.ref C) "__str__" = some (some (.ref g))) (hf : PySem.W.isFn X.K (.ref g) = true) (F : FnR X.prog X.w X.K X.mg X.base CX n g sp) (hr : Room (n + 2) X.A) (hx : Passes CX X E) : CallR X (.type "str") (rTxtO C sp E) := by
  rintro pins s σ H xs us Q I r ⟨a, dx, fs, rfl, e, q⟩
  obtain ⟨u, rfl, ru⟩ := r.one
  cases ru
  obtain ⟨ox, od, J, pl⟩ := inst_of I e
  have hr2 : Room n X.A.in1.in1 := (show Room (n + 1) X.A.in1 from hr.in1).in1
  refine PySem.W.kso_call hr2.units0 I.kIn J hs hf (wpAny_mono (wpAny_call (SlX.run_at (us := [.ref a]) (ws := [.ref a]) F hr2 I.env0.in1.in1 hx I (.cons rfl .nil) q)) (fun w s' z => ?_) fun _ _ x => x)
  obtain ⟨z', H', I', rz, y, rfl, qz⟩ := z
  obtain ⟨t, rfl⟩ := rz
  exact ⟨.str y, H', I', ⟨_, rfl⟩, qz⟩
/-- v in x -/
def rInO (C : Addr) (sp : Sp) (E : XK) : R2 := fun y x H Q => ∃ a dx fs, x = V.ref a ∧ H a = some (.ins C dx fs) ∧ sp [.ref a, y] H (fun v H' => ∃ b : Bool, v = .bl b ∧ Q v H') E
theorem op_inO (hs : PySem.W.findIn X.K (.ref C) "__contains__" = some (some (.ref g))) (hf : PySem.W.isFn X.K (.ref g) = true) (F : FnR X.prog X.w X.K X.mg X.base CX n g sp) (hr : Room n X.A) (hx : Passes CX X E) : OpR X (compareOp .In) (rInO C sp E) := by
  rintro pins s σ H y x v u Q I ry rx ⟨a, dx, fs, rfl, e, q⟩
  cases rx
  obtain ⟨ox, od, J, pl⟩ := inst_of I e
  obtain ⟨m, hF⟩ := I.fr
  refine PySem.W.in_K hF I.ok.mod.kin J hs hf (wpAny_mono (wpAny_call (run_fnR (us := [.ref a, v]) (vs := [.ref a, y]) F hr hx I (.cons rfl (.cons ry .nil)) q)) (fun w s' z => ?_) fun _ _ x => x)
  obtain ⟨z', H', I', rz, b, rfl, qz⟩ := z
  cases rz
  exact wpAny_truthy_bool ⟨.bl b, H', I', rfl, qz⟩
end
end EqO
/-! an own binary operator with an instance of its own class, or a built-in value, on the right -/
namespace OpO
open PySem PySem.Spec PyProof.Rows L2 EqO
/-- its def, and what its right operands' classes have -/
structure OwnB (K : PySem.W.Frag) (C g : Addr) (op : Operator) : Prop where
  sf : PySem.W.selfFirst K C = true
  at_ : PySem.W.findIn K (.ref C) (PySem.dunder op.info.2) = some (some (.ref g))
  fn : PySem.W.isFn K (.ref g) = true
  rr : PySem.W.findIn K (.ref C) (PySem.dunderR op.info.2) = some none
  ty : ∀ T ∈ ["NoneType", "bool", "int", "str", "list", "tuple", "dict"], (∃ fo, PySem.W.findIn K (.type T) (PySem.dunder op.info.2) = some fo) ∧ (∃ ro, PySem.W.findIn K (.type T) (PySem.dunderR op.info.2) = some ro) ∧ PySem.W.subIn K (.type T) (.ref C) = some false
section
variable {prog : Program} {w : World} {A : Around} {E : Value → Shared → Prop} {s : Shared} {K : PySem.W.Frag} {x C g : Addr} {ox : Obj} {od : Option Obj} {T : String} {op : Operator} {b : Value} {Q : Value → Shared → Prop}
theorem bin_any (X : K.In s.heap) (I : PySem.W.InstAt s.heap x ox C od) (O : OwnB K C g op) (hT : T ∈ ["NoneType", "bool", "int", "str", "list", "tuple", "dict"]) (hb : PySem.W.Looks (model prog w) s.heap (typeOf b) (.type T))
    (h : wpAny (model prog w) A (call (.ref g) [.ref x, b]) (PySem.W.CmpBack Q) E s) : wpAny (model prog w) A (binaryOp op (.ref x) b) Q E s := by
  obtain ⟨⟨fo, t1⟩, ⟨ro, t2⟩, tC⟩ := O.ty T hT
  have one := PySem.W.ksp_try X I O.at_ O.fn h
  obtain ⟨cd, rest, hcd, hm⟩ := PySem.W.ksp_first O.sf
  have at_ := O.at_
  have rr := O.rr
  rcases hi : op.info with ⟨sg, nm⟩
  rw [hi] at at_ rr t1 t2 one
  dsimp only at at_ rr t1 t2 one
  obtain ⟨hh, gg, dd, tt, os⟩ := s
  have K1 : PySem.W.Looks (model prog w) hh (typeOf (.ref x)) (.ref C) := I.type
  have K2 : PySem.W.Looks (model prog w) hh (typeOf b) (.type T) := hb
  have K3 : PySem.W.Looks (model prog w) hh (fillsNumberSlot (.ref C) nm) true := PySem.W.fills_K X hcd hm at_
  have K4 := PySem.W.ksp_fillsT (M := model prog w) X t1 t2
  have K5 : PySem.W.Looks (model prog w) hh (isSubtype (.type T) (.ref C)) false := PySem.W.looks_subIn X tC
  have K6 : PySem.W.Looks (model prog w) hh (numberSlotInPython (.ref C) nm) true := PySem.W.ksp_inPy X at_ rr (.inl rfl)
  have K7 : PySem.W.Looks (model prog w) hh (numberSlotInPython (.type T) nm) false := PySem.W.Looks.of_pure rfl
  have K8 : PySem.W.Looks (model prog w) hh (typeLookup (.type T) (PySem.dunderR nm)) ro := PySem.W.looks_findIn X t2
  have ne : (Value.ref C == Value.type T) = false := rfl
  generalize ((fo.isSome && !isSeqSlot fo) || (ro.isSome && !isSeqSlot ro)) = z at K4
  simp only [binaryOp, hi]
  refine wpAny_holding (wpAny_bind ?_)
  unfold binaryOp1
  refine wpAny_bind (K1.at (wpAny_bind (K2.at (wpAny_bind (K3.at ?_)))))
  simp only [ne, Bool.false_eq_true, if_false]
  cases z
  all_goals
    repeat ((fail_if_success (with_reducible show wpAny _ _ (tryMethod _ _ _) _ _ _)); lk)
    refine wpAny_mono one (fun r s' q => ?_) fun _ _ e => e
    obtain ⟨v, rfl, hq⟩ := q
    repeat lk
    exact hq
end
def rBinO (K : PySem.W.Frag) (C : Addr) (sp : Sp) (E : XK) : R2 := fun x y H Q => ∃ a dx fs, x = .ref a ∧ H a = some (.ins C dx fs) ∧ Oth K C H y ∧ sp [x, y] H Q E
section
variable {X : Cx} {CX : CXT} {C g : Addr} {n : Nat} {sp : Sp} {E : XK} {op : Operator} {ge : Addr}
theorem op_binO (O : OwnB X.K C g op) (OE : OwnE X.K C ge) (F : FnR X.prog X.w X.K X.mg X.base CX n g sp) (hr : Room n X.A) (hx : Passes CX X E) : OpR X (binaryOp op) (rBinO X.K C sp E) := by
  rintro pins s σ H x y v u Q I rx ry ⟨a, dx, fs, rfl, e, o, q⟩
  cases rx
  obtain ⟨ox, od, J, pl⟩ := inst_of I e
  obtain ⟨m, hF⟩ := I.fr
  have run : wpAny (model X.prog X.w) X.A (call (.ref g) [.ref a, u]) (PySem.W.CmpBack (EP X pins σ Q)) X.xe s := by
    refine wpAny_mono (wpAny_call (run_fnR (us := [.ref a, u]) (vs := [.ref a, y]) F hr hx I (.cons rfl (.cons ry .nil)) q)) (fun w s' z => ?_) fun _ _ x => x
    obtain ⟨z', H', I', rz, qz⟩ := z
    exact SlX.cmpback rz ⟨z', H', I', rz, qz⟩
  rcases o with ⟨T, b⟩ | ⟨b, dy, gs, rfl, eb⟩
  · have ty := (decl_of I OE J pl b ry).ty
    refine bin_any I.kIn J O b.mem ?_ run
    intro A Q E s' k q
    cases u with
    | ref l =>
      obtain ⟨o, ho, hc⟩ := ty
      exact wpAny_typeOf (T := T) ⟨o, k _ _ ho, hc⟩ q
    | _ => exact wpAny_typeOf (T := T) ty q
  · cases ry
    obtain ⟨oy, dd, J2, _⟩ := inst_of I eb
    exact PySem.W.binop_K hF I.ok.mod.kin J J2.type O.sf O.at_ O.fn run
end
end OpO
/-! calls in a try whose wish rests on the locals: of a classmethod; what passes -/
namespace CmS
open PySem PySem.Spec PyProof.Rows L2 ClX
theorem passE {X : Cx} {E : XK} (tk : Takes X (fun cls d _ H => E cls d H)) : Passes (L2.CX X.prog X.w) X E := fun pins σ H s e s' I c => passAt tk σ pins H s e s' I c
section
variable {X : Cx} {CX : CXT} {pins : List (Addr × Obj)} {σ : L2.St} {H : Hp} {s : Shared} {C p g q : Addr} {mc : Value} {k : Nat} {sp : Sp} {E : XK} {Q : VK} {us : List Value} {vs : List V}
theorem run_at (F : FnR X.prog X.w X.K X.mg X.base CX k g sp) (hr : Room k X.A) (hx : PassesAt CX X σ E) (I : Inv X pins σ H s) (r : Vals vs us) (h : sp vs H Q E) :
    codeAny (model X.prog X.w) X.A (.call (.ref g) ⟨us, []⟩) (fun r s' => match r with | .ok (.ret v) => EP X pins σ Q v s' | .ok _ => False | .error e => X.xe e s') s := by
  refine codeAny_mono (F X.A X.stack s H us vs Q E hr I.env0 r h) ?_
  rintro (e | fl) s' hq
  · exact hx pins H s e s' I hq
  · cases fl <;> first | exact I.after hq | exact hq.elim
theorem run_met (F : FnR X.prog X.w X.K X.mg X.base CX k g sp) (hr : Room k X.A) (hx : PassesAt CX X σ E) (I : Inv X ((q, PySem.W.methodObj (.ref g) (.ref C)) :: pins) σ H s) (r : Vals vs us) (h : sp (.ref C :: vs) H Q E) :
    wpAny (model X.prog X.w) X.A (call (.ref q) us) (EP X pins σ Q) X.xe s := by
  have z : wpAny (model X.prog X.w) X.A (call (.ref q) us) (EP X ((q, PySem.W.methodObj (.ref g) (.ref C)) :: pins) σ Q) X.xe s :=
    wpAny_call (PySem.W.method_call (pin_at I) (run_at (us := .ref C :: us) (vs := .ref C :: vs) F hr hx I (.cons rfl r) h))
  exact thn z fun _ _ y => unpinE y
end
def tCm (C : Addr) (sp : Sp) (E : L2.St → XK) (to : TE) (t : TA) : TE := fun σ H Q => to σ H fun x H1 => x = .ref C ∧ t σ H1 fun vs H2 => sp (.ref C :: vs) H2 Q (E σ)
section
variable {X : Cx} {CX : CXT} {k : Nat} {C p g : Addr} {mc : Value} {sp : Sp} {E : L2.St → XK} {o e : Expr} {es : List Expr} {m : Str} {pos apos : Pos} {to : TE} {t : TA} {pl : Sem Bool}
theorem pe_cm (ho : PE X o to) (r : CRead X.K C mc) (c : CMet X.K C mc m p g) (F : FnR X.prog X.w X.K X.mg X.base CX k g sp) (hr : Room k X.A) (hx : ∀ σ, PassesAt CX X σ (E σ)) (ha : PA X (e :: es) t)
    (st : starEach (e :: es) X.env = (false, eval e X.env) :: starEach es X.env := by rfl) (np : (backTo pos (starEach es X.env)).any (·.1) = false := by rfl)
    (ev : eval (.Call (.Attribute o m apos) (e :: es) [] pos) X.env = (do
      let ov ← eval o X.env
      standAt apos.atName
      let (f, first) ← holding [ov] (getMethod ov m pl)
      callWith pos f first (backTo pos (starEach (e :: es) X.env)) (backToKw pos (keywordEach [] X.env))) := by rfl) :
    PE X (.Call (.Attribute o m apos) (e :: es) [] pos) (tCm C sp E to t) := ⟨by
  intro pins s σ H Q I h
  refine PySem.W.methodCall_KW (pl := pl) (thn (ho.run pins s σ H _ I h) ?_) ev
  rintro u s1 ⟨_, H1, I1, rx, rfl, q⟩
  cases rx
  refine getmethcm_ok I1 r c fun s2 I2 => callwith_cm I2 (base_none I1 (Nat.le_refl _)) c.fi (thn (ha.run pos _ s2 σ H1 _ I2 q) ?_) st np
  rintro us s3 ⟨vs, H2, I3, rv, q2⟩
  exact ⟨⟨pin_at I3, I3.kIn⟩, run_met F hr (hx σ) I3 rv q2⟩⟩
end
end CmS
/-! an own binary operator in a try -/
namespace OpS
open PySem PySem.Spec PyProof.Rows L2 EqO OpO
def tBinS (K : PySem.W.Frag) (C : Addr) (sp : Sp) (E : L2.St → XK) (ta tb : TE) : TE := fun σ H Q => ta σ H fun x H1 => tb σ H1 fun y H2 => ∃ a dx fs, x = .ref a ∧ H2 a = some (.ins C dx fs) ∧ Oth K C H2 y ∧ sp [x, y] H2 Q (E σ)
section
variable {X : Cx} {CX : CXT} {C g : Addr} {n : Nat} {sp : Sp} {op : Operator} {ge : Addr} {E : L2.St → XK} {a b : Expr} {ta tb : TE} {pos : Pos}
theorem bin_at {pins : List (Addr × Obj)} {s : Shared} {σ : L2.St} {H : Hp} {x y : V} {v u : Value} {Q : VK} {E : XK} (O : OwnB X.K C g op) (OE : OwnE X.K C ge) (F : FnR X.prog X.w X.K X.mg X.base CX n g sp) (hr : Room n X.A) (hx : PassesAt CX X σ E)
    (I : Inv X pins σ H s) (rx : RelV x v) (ry : RelV y u) (q : ∃ a dx fs, x = .ref a ∧ H a = some (.ins C dx fs) ∧ Oth X.K C H y ∧ sp [x, y] H Q E) : wpAny (model X.prog X.w) X.A (binaryOp op v u) (EP X pins σ Q) X.xe s := by
  obtain ⟨a, dx, fs, rfl, e, o, q⟩ := q
  cases rx
  obtain ⟨ox, od, J, pl⟩ := inst_of I e
  obtain ⟨m, hF⟩ := I.fr
  have run : wpAny (model X.prog X.w) X.A (call (.ref g) [.ref a, u]) (PySem.W.CmpBack (EP X pins σ Q)) X.xe s := by
    refine wpAny_mono (wpAny_call (CmS.run_at (us := [.ref a, u]) (vs := [.ref a, y]) F hr hx I (.cons rfl (.cons ry .nil)) q)) (fun w s' z => ?_) fun _ _ x => x
    obtain ⟨z', H', I', rz, qz⟩ := z
    exact SlX.cmpback rz ⟨z', H', I', rz, qz⟩
  rcases o with ⟨T, b⟩ | ⟨b, dy, gs, rfl, eb⟩
  · have ty := (decl_of I OE J pl b ry).ty
    refine bin_any I.kIn J O b.mem ?_ run
    intro A Q E s' k q
    cases u with
    | ref l =>
      obtain ⟨o, ho, hc⟩ := ty
      exact wpAny_typeOf (T := T) ⟨o, k _ _ ho, hc⟩ q
    | _ => exact wpAny_typeOf (T := T) ty q
  · cases ry
    obtain ⟨oy, dd, J2, _⟩ := inst_of I eb
    exact PySem.W.binop_K hF I.ok.mod.kin J J2.type O.sf O.at_ O.fn run
theorem pe_binS (O : OwnB X.K C g op) (OE : OwnE X.K C ge) (F : FnR X.prog X.w X.K X.mg X.base CX n g sp) (hr : Room n X.A) (hx : ∀ σ, PassesAt CX X σ (E σ)) (ha : PE X a ta) (hb : PE X b tb) : PE X (.BinOp a op b pos) (tBinS X.K C sp E ta tb) := by
  refine ⟨fun pins s σ H Q I h => ?_⟩
  exact wpAny_BinOp (binT ha hb I h fun v u s2 x y H2 I2 rx ry q => bin_at O OE F hr (hx σ) I2 rx ry q)
end
end OpS
/-! what sorted(set(texts)) is: unique, there -/
namespace SR
open PySem PySem.Spec PyProof.Rows
def Srt (xs ys : List Str) : Prop := ys.Nodup ∧ PyProof.Rows.sortedS ys = true ∧ ∀ y, y ∈ ys ↔ y ∈ xs
abbrev Le (a b : Str) : Prop := ltCps b.cps.toList a.cps.toList = false
theorem le_iff (a b : Str) : Le a b ↔ a.cps.toList ≤ b.cps.toList := by
  show ltCps _ _ = false ↔ _
  rw [ltCps_eq, decide_eq_false_iff_not, List.not_lt]
theorem le_trans {a b c : Str} (h1 : Le a b) (h2 : Le b c) : Le a c := (le_iff a c).mpr (List.le_trans ((le_iff a b).mp h1) ((le_iff b c).mp h2))
theorem le_anti {a b : Str} (h1 : Le a b) (h2 : Le b a) : a = b := by
  have e := List.le_antisymm ((le_iff a b).mp h1) ((le_iff b a).mp h2)
  cases a; cases b
  exact congrArg Str.mk (Array.toList_inj.mp e)
theorem le_total (a b : Str) : Le a b ∨ Le b a := (List.le_total a.cps.toList b.cps.toList).imp (le_iff a b).mpr (le_iff b a).mpr
theorem rising_pw : ∀ (p : Str) (l : List Str), risingS p l = true → (p :: l).Pairwise Le
  | p, [], _ => List.pairwise_singleton _ _
  | p, x :: r, h => by
    have h' : (!ltCps x.cps.toList p.cps.toList && risingS x r) = true := h
    obtain ⟨h1, h2⟩ := Bool.and_eq_true_iff.mp h'
    have px : Le p x := by simpa using h1
    have ih := rising_pw x r h2
    refine List.pairwise_cons.mpr ⟨fun y hy => ?_, ih⟩
    rcases List.mem_cons.mp hy with rfl | hy
    · exact px
    · exact le_trans px (List.rel_of_pairwise_cons ih hy)
theorem sorted_pw : ∀ {l : List Str}, sortedS l = true → l.Pairwise Le
  | [], _ => .nil
  | p :: l, h => rising_pw p l h
theorem unique {xs ys zs : List Str} (a : Srt xs ys) (b : Srt xs zs) : ys = zs :=
  List.Perm.eq_of_pairwise (fun _ _ _ _ h1 h2 => le_anti h1 h2) (sorted_pw a.2.1) (sorted_pw b.2.1) ((List.perm_ext_iff_of_nodup a.1 b.1).mpr fun y => (a.2.2 y).trans (b.2.2 y).symm)
theorem there (xs : List Str) : ∃ ys, Srt xs ys := by
  have sort : ∀ l : List Str, l.Nodup → ∃ ys, Srt l ys := fun l nd => by
    have pm := List.mergeSort_perm l (fun a b => !ltCps b.cps.toList a.cps.toList)
    have pw := List.pairwise_mergeSort (le := fun a b : Str => !ltCps b.cps.toList a.cps.toList) (fun a b c h1 h2 => by
      have := le_trans (a := a) (b := b) (c := c) (by simpa using h1) (by simpa using h2)
      simpa using this) (fun a b => by
      rcases le_total a b with h | h
      · simp [show ltCps b.cps.toList a.cps.toList = false from h]
      · simp [show ltCps a.cps.toList b.cps.toList = false from h]) l
    exact ⟨_, pm.nodup_iff.mpr nd, sortedS_of_pairwise _ (pw.imp fun h => by simpa using h), fun y => pm.mem_iff⟩
  have dd : ∀ l : List Str, ∃ m : List Str, m.Nodup ∧ ∀ y, y ∈ m ↔ y ∈ l := fun l => by
    induction l with
    | nil => exact ⟨[], .nil, fun _ => Iff.rfl⟩
    | cons x r ih =>
      obtain ⟨m, nd, mm⟩ := ih
      by_cases h : x ∈ m
      · refine ⟨m, nd, fun y => (mm y).trans ⟨List.mem_cons_of_mem _, fun z => (List.mem_cons.mp z).elim (fun e => by rw [e]; exact (mm x).mp h) id⟩⟩
      · exact ⟨x :: m, List.nodup_cons.mpr ⟨h, nd⟩, fun y => by rw [List.mem_cons, List.mem_cons, mm]⟩
  obtain ⟨m, nd, mm⟩ := dd xs
  obtain ⟨ys, a, b, c⟩ := sort m nd
  exact ⟨ys, a, b, fun y => (c y).trans (mm y)⟩
theorem self {xs ys : List Str} (a : Srt xs ys) : Srt ys ys := ⟨a.1, a.2.1, fun _ => Iff.rfl⟩
theorem congr {xs zs ys : List Str} (a : Srt xs ys) (h : ∀ y, y ∈ xs ↔ y ∈ zs) : Srt zs ys := ⟨a.1, a.2.1, fun y => (a.2.2 y).trans (h y)⟩
theorem tail {ys : List Str} (a : Srt ys ys) : Srt ys.tail ys.tail := by
  refine ⟨a.1.sublist (List.tail_sublist _), ?_, fun _ => Iff.rfl⟩
  exact sortedS_of_pairwise _ ((sorted_pw a.2.1).sublist (List.tail_sublist _))
theorem len_le {xs ys : List Str} (a : Srt xs ys) : ys.length ≤ xs.length := by
  have h : ∀ (l m : List Str), l.Nodup → (∀ y ∈ l, y ∈ m) → l.length ≤ m.length := fun l => by
    induction l with
    | nil => intro m _ _; exact Nat.zero_le _
    | cons x r ih =>
      intro m nd sub
      have nd' := List.nodup_cons.mp nd
      have hx := sub x List.mem_cons_self
      have := ih (m.erase x) nd'.2 fun y hy => (List.mem_erase_of_ne fun e : y = x => nd'.1 (e ▸ hy)).mpr (sub y (List.mem_cons_of_mem _ hy))
      rw [List.length_erase_of_mem hx] at this
      have pos := List.length_pos_of_mem hx
      rw [List.length_cons]
      omega
  exact h ys xs a.1 fun y hy => (a.2.2 y).mp hy
end SR
/-! what split by one sign gives, over codes -/
namespace SP
open PySem Builtin Builtin.Str StrLaws
abbrev Tx := List Nat
def tx (l : Tx) : Str := ⟨l.toArray⟩
def splA (c : Nat) : Tx → Tx → List Tx
  | acc, [] => [acc]
  | acc, a :: r => if a = c then acc :: splA c [] r else splA c (acc ++ [a]) r
def spots (c : Nat) : Tx → Nat → List Nat
  | [], _ => []
  | a :: r, k => if a = c then k :: spots c r (k + 1) else spots c r (k + 1)
theorem sub_at (l : Tx) (c k : Nat) : subAt (tx l) ⟨#[c]⟩ k = true ↔ l[k]? = some c := by
  rw [subAt_eq]
  show (((l.toArray.toList.drop k).take 1 == [c]) = true) ↔ _
  rw [beq_iff_eq, List.toList_toArray]
  cases h : l.drop k with
  | nil =>
    have e : l[k]? = none := by
      have := List.drop_eq_nil_iff.mp h
      exact List.getElem?_eq_none this
    simp [e]
  | cons a r =>
    have e : l[k]? = some a := by
      have := congrArg List.head? h
      rw [List.head?_drop] at this
      simpa using this
    simp [e]
theorem drop_at {l : Tx} {k : Nat} (h : k < l.length) : l.drop k = l[k] :: l.drop (k + 1) := List.drop_eq_getElem_cons h
theorem occ_from (l : Tx) (c limit : Nat) : ∀ (m k : Nat) (st : Array Nat × Nat), k + m = l.length + 1 → st.snd ≤ k → st.fst.size + m ≤ limit →
    (forIn (List.range' k m) st (occBody (tx l) ⟨#[c]⟩ l.length limit)).run.fst.toList = st.fst.toList ++ spots c (l.drop k) k
  | 0, k, st, hk, _, _ => by
    rw [List.drop_of_length_le (by omega)]
    simp [spots]
  | m + 1, k, st, hk, hs, hl => by
    rw [List.range'_succ, List.forIn_cons]
    unfold occBody
    have one : (⟨#[c]⟩ : Str).length = 1 := rfl
    rw [one]
    by_cases h : k < l.length
    · rw [drop_at h]
      by_cases e : l[k] = c
      · have yes : ((st.fst.size < limit ∧ st.snd ≤ k) ∧ k + 1 ≤ l.length) ∧ subAt (tx l) ⟨#[c]⟩ k = true := ⟨⟨⟨by omega, hs⟩, h⟩, (sub_at l c k).mpr (by rw [List.getElem?_eq_getElem h, e])⟩
        rw [if_pos yes]
        have ih := occ_from l c limit m (k + 1) (st.fst.push k, k + 1) (by omega) (Nat.le_refl _) (by show (st.fst.push k).size + m ≤ limit; rw [Array.size_push]; omega)
        show (forIn (List.range' (k + 1) m) (st.fst.push k, k + 1) (occBody (tx l) ⟨#[c]⟩ l.length limit)).run.fst.toList = _
        rw [ih]
        show (st.fst.push k).toList ++ _ = _
        rw [Array.toList_push]
        have un : spots c (l[k] :: l.drop (k + 1)) k = k :: spots c (l.drop (k + 1)) (k + 1) := if_pos e
        rw [un, List.append_assoc]
        rfl
      · have no : ¬ (((st.fst.size < limit ∧ st.snd ≤ k) ∧ k + 1 ≤ l.length) ∧ subAt (tx l) ⟨#[c]⟩ k = true) := fun z => by
          have q := (sub_at l c k).mp z.2
          rw [List.getElem?_eq_getElem h] at q
          exact e (Option.some.inj q)
        rw [if_neg no]
        have ih := occ_from l c limit m (k + 1) st (by omega) (by omega) (by omega)
        show (forIn (List.range' (k + 1) m) st (occBody (tx l) ⟨#[c]⟩ l.length limit)).run.fst.toList = _
        rw [ih]
        conv => rhs; unfold spots
        rw [if_neg e]
    · have no : ¬ (((st.fst.size < limit ∧ st.snd ≤ k) ∧ k + 1 ≤ l.length) ∧ subAt (tx l) ⟨#[c]⟩ k = true) := fun z => by omega
      rw [if_neg no]
      have ih := occ_from l c limit m (k + 1) st (by omega) (by omega) (by omega)
      show (forIn (List.range' (k + 1) m) st (occBody (tx l) ⟨#[c]⟩ l.length limit)).run.fst.toList = _
      rw [ih, List.drop_of_length_le (show l.length ≤ k by omega), List.drop_of_length_le (show l.length ≤ k + 1 by omega)]
      rfl
theorem occ_is (l : Tx) (c : Nat) : occurrences (tx l) ⟨#[c]⟩ 0 (tx l).length ((tx l).length + 1) = spots c l 0 := by
  rw [occ_eq]
  have e : (tx l).length = l.length := List.size_toArray
  rw [e]
  have h := occ_from l c (l.length + 1) (l.length + 1) 0 (#[], 0) (by omega) (Nat.le_refl _) (by show 0 + _ ≤ _; omega)
  rw [Nat.sub_zero, h]
  simp
theorem sub_is (l : Tx) (a b : Nat) : strSub (tx l) a b = tx ((l.drop a).take (b - a)) := by
  apply Str.ext'
  apply Array.toList_inj.mp
  rw [strSub_toList]
  show _ = ((l.drop a).take (b - a)).toArray.toList
  rw [List.toList_toArray]
  rfl
theorem parts_is (l : Tx) (c : Nat) : ∀ (n a b : Nat), b + n = l.length → a ≤ b → partsFrom (tx l) 1 a (spots c (l.drop b) b) = (splA c ((l.drop a).take (b - a)) (l.drop b)).map tx
  | 0, a, b, hb, hab => by
    rw [List.drop_of_length_le (by omega)]
    show [strSub (tx l) a (tx l).length] = [tx _]
    rw [sub_is]
    have e : (tx l).length = b := by show l.toArray.size = b; rw [List.size_toArray]; omega
    rw [e]
  | n + 1, a, b, hb, hab => by
    have h : b < l.length := by omega
    rw [drop_at h]
    by_cases e : l[b] = c
    · unfold spots splA
      rw [if_pos e, if_pos e]
      show strSub (tx l) a b :: partsFrom (tx l) 1 (b + 1) (spots c (l.drop (b + 1)) (b + 1)) = tx _ :: _
      rw [sub_is, parts_is l c n (b + 1) (b + 1) (by omega) (Nat.le_refl _), Nat.sub_self, List.take_zero]
    · unfold spots splA
      rw [if_neg e, if_neg e]
      rw [parts_is l c n a (b + 1) (by omega) (by omega)]
      congr 2
      rw [show b + 1 - a = (b - a) + 1 by omega, List.take_add_one]
      congr 1
      rw [List.getElem?_drop, show a + (b - a) = b by omega, List.getElem?_eq_getElem h]
      rfl
theorem kind_ge (x : Str) : 1 ≤ PySem.Builtin.Str.strKind x := by
  unfold PySem.Builtin.Str.strKind
  split
  · exact Nat.le_refl _
  · split <;> decide
theorem split_is (l : Tx) {c : Nat} (hc : c < 256) : Txt.split (tx l) ⟨#[c]⟩ = (splA c [] l).map tx := by
  unfold Txt.split
  have k1 : PySem.Builtin.Str.strKind (⟨#[c]⟩ : Str) = 1 := by unfold PySem.Builtin.Str.strKind; simp [hc]
  have one : (⟨#[c]⟩ : Str).length = 1 := rfl
  rw [k1, one, occ_is]
  have kg := kind_ge (tx l)
  rw [decide_eq_false (show ¬ PySem.Builtin.Str.strKind (tx l) < 1 by omega), Bool.or_false]
  have e : (tx l).length = l.length := List.size_toArray
  rw [e]
  cases l with
  | nil => rfl
  | cons a r =>
    rw [if_neg (by simp)]
    have p := parts_is (a :: r) c (a :: r).length 0 0 (by omega) (Nat.le_refl _)
    rw [List.drop_zero, Nat.sub_self, List.take_zero] at p
    split
    · rename_i q
      rw [List.isEmpty_iff.mp q] at p
      rw [← p]
      show [tx (a :: r)] = [strSub (tx (a :: r)) 0 (tx (a :: r)).length]
      rw [sub_is, e]
      simp
    · rw [partsBetween_eq]
      exact p
theorem splA_app (c : Nat) : ∀ (p acc rest : Tx), c ∉ p → splA c acc (p ++ rest) = splA c (acc ++ p) rest
  | [], acc, rest, _ => by rw [List.nil_append, List.append_nil]
  | a :: p, acc, rest, h => by
    have ha : a ≠ c := fun e => h (by rw [e]; exact List.mem_cons_self ..)
    rw [List.cons_append]
    conv => lhs; unfold splA
    rw [if_neg ha, splA_app c p (acc ++ [a]) rest fun z => h (List.mem_cons_of_mem _ z), List.append_assoc]
    rfl
def joinC (c : Nat) : List Tx → Tx
  | [] => []
  | [p] => p
  | p :: q :: r => p ++ c :: joinC c (q :: r)
theorem split_join (c : Nat) : ∀ (ps : List Tx), ps ≠ [] → (∀ p ∈ ps, c ∉ p) → splA c [] (joinC c ps) = ps
  | [], h, _ => absurd rfl h
  | [p], _, h => by
    have e := splA_app c p [] [] (h p (List.mem_cons_self ..))
    rw [List.append_nil, List.nil_append] at e
    exact e
  | p :: q :: r, _, h => by
    show splA c [] (p ++ c :: joinC c (q :: r)) = _
    rw [splA_app c p [] _ (h p (List.mem_cons_self ..)), List.nil_append]
    unfold splA
    rw [if_pos rfl, split_join c (q :: r) (by simp) fun z hz => h z (List.mem_cons_of_mem _ hz)]
theorem splA_mem (c : Nat) : ∀ (l acc : Tx), ∀ p ∈ splA c acc l, (∀ x ∈ p, x ∈ acc ∨ x ∈ l) ∧ p.length ≤ acc.length + l.length
  | [], acc, p, h => by
    rw [List.mem_singleton.mp h]
    exact ⟨fun x hx => .inl hx, Nat.le_add_right _ _⟩
  | a :: l, acc, p, h => by
    unfold splA at h
    by_cases e : a = c
    · rw [if_pos e] at h
      rcases List.mem_cons.mp h with rfl | h
      · exact ⟨fun x hx => .inl hx, Nat.le_add_right _ _⟩
      · obtain ⟨m, n⟩ := splA_mem c l [] p h
        refine ⟨fun x hx => (m x hx).elim (fun z => by cases z) fun z => .inr (List.mem_cons_of_mem _ z), ?_⟩
        rw [List.length_cons]
        rw [List.length_nil] at n
        omega
    · rw [if_neg e] at h
      obtain ⟨m, n⟩ := splA_mem c l (acc ++ [a]) p h
      refine ⟨fun x hx => (m x hx).elim (fun z => (List.mem_append.mp z).elim .inl fun z => .inr (by rw [List.mem_singleton.mp z]; exact List.mem_cons_self ..)) fun z => .inr (List.mem_cons_of_mem _ z), ?_⟩
      rw [List.length_append, List.length_singleton] at n
      rw [List.length_cons]
      omega
theorem splA_len (c : Nat) : ∀ (l acc : Tx), (splA c acc l).length ≤ l.length + 1 ∧ splA c acc l ≠ []
  | [], acc => ⟨Nat.le_refl _, by simp [splA]⟩
  | a :: l, acc => by
    unfold splA
    by_cases e : a = c
    · rw [if_pos e]
      have := (splA_len c l []).1
      rw [List.length_cons, List.length_cons]
      exact ⟨by omega, by simp⟩
    · rw [if_neg e]
      have := splA_len c l (acc ++ [a])
      rw [List.length_cons]
      exact ⟨by omega, this.2⟩
end SP
namespace K13
open PySem L2
abbrev Tx := List Nat
def top (i : Nat) : Stmt := PySem.Challenge.pw_aboveless_k13_whole_below_joined_and_met.main.body.getD i (.Pass ⟨0, 0, 0, 0⟩)
def tot (ts : List Tx) : Nat := (ts.map List.length).sum
def asc (l : Tx) : Prop := ∀ c ∈ l, c < 128
abbrev sIsName : Stmt := top 10
abbrev sCheck : Stmt := top 12
abbrev sRank : Stmt := top 13
abbrev sRng : Stmt := top 16
abbrev sDraw : Stmt := top 17
abbrev sChoice : Stmt := top 18
abbrev sWord : Stmt := top 19
abbrev sWords : Stmt := top 20
abbrev sSome : Stmt := top 21
abbrev sMade : Stmt := top 22
abbrev sAllBelow : Stmt := top 23
abbrev sJoined : Stmt := top 24
abbrev sRefused : Stmt := top 25
abbrev sPair : Stmt := top 26
abbrev sAlone : Stmt := top 27
abbrev sOdd : Stmt := top 28
abbrev sRight : Stmt := top 29
abbrev sLaw : Stmt := top 30
/-- a text by its codes -/
def txt (l : Tx) : Str := ⟨l.toArray⟩
abbrev tv (l : Tx) : V := .str (txt l)
theorem txt_len (l : Tx) : (txt l).length = l.length := List.size_toArray
theorem txt_list (l : Tx) : (txt l).cps.toList = l := rfl
theorem txt_of (z : Str) : z = txt z.cps.toList := by cases z with | mk a => cases a; rfl
theorem txt_inj {a b : Tx} (h : txt a = txt b) : a = b := by
  have h2 : (txt a).cps.toList = (txt b).cps.toList := by rw [h]
  exact h2
theorem txt_app (a b : Tx) : txt a ++ txt b = txt (a ++ b) := by
  show (⟨a.toArray ++ b.toArray⟩ : Str) = ⟨(a ++ b).toArray⟩
  simp
/-- the most signs of a text here -/
def big : Nat := 1000000
theorem big_line : big ≤ sizeLine := by decide
theorem same_upd {H : Hp} {p : Addr} {o : HO} (h : H p = none) : Same H (upd H p o) := fun b u e => by
  rw [upd_ne (ne_of_none e h)]
  exact e
/-! ### a text times an int -/
def rep (n : Nat) (l : Tx) : Tx := (List.replicate n l).flatten
theorem rep_len (n : Nat) (l : Tx) : (rep n l).length = n * l.length := by unfold rep; simp
theorem fold_rep (l : Tx) : ∀ (k : Nat) (acc : Tx), List.foldl (fun a b : Array Nat => a ++ b) acc.toArray (List.replicate k l.toArray) = (acc ++ rep k l).toArray
  | 0, acc => by simp [rep]
  | k + 1, acc => by
    have e : acc.toArray ++ l.toArray = (acc ++ l).toArray := by simp
    rw [List.replicate_succ, List.foldl_cons, e, fold_rep l k (acc ++ l)]
    unfold rep
    rw [List.replicate_succ, List.flatten_cons, List.append_assoc]
theorem op_mulS {X : Cx} : OpR X (binaryOp .Mult) (fun x y H Q => ∃ (l : Tx) (n : Nat), x = tv l ∧ y = .int (n : Int) ∧ n ≤ big ∧ l.length * n ≤ big ∧ Q (tv (rep n l)) H) := by
  rintro pins s σ H x y v u Q I rx ry ⟨l, n, rfl, rfl, hn, hl, q⟩
  obtain ⟨t, rfl⟩ := rx
  obtain ⟨t', rfl⟩ := ry
  have hb : big = 1000000 := rfl
  have hsl : sizeLine = 16777216 := sizeLine_eq
  refine PySem.P.mul_str (by rw [decide_eq_false (by omega), decide_eq_false (by omega)]; rfl) (fun h1 _ => ?_) (fun h1 _ => ?_) ?_
  · rw [txt_len]
    have hdiv : (l.length : Int) ≤ (2 ^ 63 - 1) / (n : Int) := by
      rw [Int.le_ediv_iff_mul_le (by omega)]
      have : ((l.length * n : Nat) : Int) ≤ 1000000 := by omega
      rw [Int.natCast_mul] at this
      omega
    omega
  · rw [txt_len, Int.toNat_natCast]
    unfold PySem.Builtin.Str.tooLong
    exact decide_eq_false (by rw [hsl]; omega)
  · have fin : ∀ tk' k, EP X pins σ Q (.str (txt (rep n l)) tk') { s with toks := k } := fun tk' k => ⟨tv (rep n l), H, I.tok k, ⟨tk', rfl⟩, q⟩
    by_cases h1 : (n : Int) < 1
    · rw [if_pos h1]
      have e0 : n = 0 := by omega
      subst e0
      exact ⟨by decide, fin _ _⟩
    · rw [if_neg h1]
      by_cases h2 : (((n : Int) == 1 || (txt l).length == 0) = true)
      · rw [if_pos h2]
        have e : rep n l = l := by
          rcases Bool.or_eq_true_iff.mp h2 with h | h
          · have : n = 1 := by have := beq_iff_eq.mp h; omega
            subst this
            simp [rep]
          · rw [txt_len] at h
            have h0 : l = [] := List.eq_nil_of_length_eq_zero (beq_iff_eq.mp h)
            subst h0
            simp [rep]
        have f := fin t s.toks
        rw [e] at f
        exact f
      · rw [if_neg h2]
        have e : (⟨List.foldl (fun x1 x2 => x1 ++ x2) #[] (List.replicate (n : Int).toNat (txt l).cps)⟩ : Str) = txt (rep n l) := by
          rw [Int.toNat_natCast]
          have q := fold_rep l n []
          rw [List.nil_append] at q
          exact congrArg Str.mk q
        rw [e]
        refine ⟨?_, fin _ _⟩
        rw [txt_len, rep_len, Nat.mul_comm]
        omega
theorem txt_eq (a b : Tx) : (txt a == txt b) = decide (a = b) := by
  by_cases h : a = b
  · subst h; simp
  · rw [decide_eq_false h]
    exact beq_eq_false_iff_ne.mpr fun e => h (txt_inj e)
structure At (K : PySem.W.Frag) (mg : Str → Option Value) (x : Str) (st : Stmt) (ps : List Str) (f : Addr) (fd : FuncData) : Prop where
  F : Fun K x x st f fd
  b : Binds K fd ps []
  m : mg x = some (.ref f)
theorem map_at {ts : List Tx} {i : Nat} {x : V} (h : (ts.map tv)[i]? = some x) : ∃ t, ts[i]? = some t ∧ x = tv t := by
  rw [List.getElem?_map] at h
  cases e : ts[i]? with
  | none => rw [e] at h; cases h
  | some t => rw [e] at h; exact ⟨t, rfl, (Option.some.inj h).symm⟩
theorem asc_app {a b : Tx} (ha : asc a) (hb : asc b) : asc (a ++ b) := fun c hc => (List.mem_append.mp hc).elim (ha c) (hb c)
theorem asc_of {l : Tx} (h : (l.all fun c => decide (c < 128)) = true) : asc l := fun c hc => of_decide_eq_true (List.all_eq_true.mp h c hc)
theorem asc_nil : asc [] := fun _ z => by cases z
theorem asc_rep {l : Tx} (h : asc l) (n : Nat) : asc (rep n l) := fun c hc => by
  obtain ⟨x, hx, hc⟩ := List.mem_flatten.mp hc
  rw [List.eq_of_mem_replicate hx] at hc
  exact h c hc
theorem cutS_any (l : Tx) (lo hi : Option Int) : ∃ l', cutS (txt l) lo hi = txt l' ∧ (asc l → asc l') ∧ l'.length ≤ l.length := by
  refine ⟨(l.drop (HT.sIx (txt l).length 0 lo)).take (HT.sIx (txt l).length (txt l).length hi - HT.sIx (txt l).length 0 lo), rfl, fun h c hc => h c (List.mem_of_mem_drop (List.mem_of_mem_take hc)), ?_⟩
  rw [List.length_take, List.length_drop]
  omega
/-! ### the draws -/
/-- at r: a stock of draws -/
def Rg (H : Hp) (r : Addr) : Prop := ∃ x y : Int, H r = some (.lst [.int x, .int y]) ∧ 0 ≤ x ∧ 0 ≤ y ∧ y ≤ 2147483629
/-- what was tracked stands, but r, which is a stock as before -/
def Kp (r : Addr) (H H' : Hp) : Prop := (∀ b o, b ≠ r → H b = some o → H' b = some o) ∧ (Rg H r → Rg H' r)
theorem Kp.refl (r : Addr) (H : Hp) : Kp r H H := ⟨fun _ _ _ h => h, fun h => h⟩
theorem Kp.trans {r : Addr} {H H1 H2 : Hp} (a : Kp r H H1) (b : Kp r H1 H2) : Kp r H H2 := ⟨fun c o h e => b.1 c o h (a.1 c o h e), fun h => b.2 (a.2 h)⟩
theorem Kp.of_same {r : Addr} {H H' : Hp} (s : Same H H') : Kp r H H' := ⟨fun b o _ e => s b o e, fun ⟨x, y, h, p⟩ => ⟨x, y, s _ _ h, p⟩⟩
theorem Kp.free {r : Addr} {H H' : Hp} (k : Kp r H H') (g : Rg H r) {b : Addr} (h : H' b = none) : H b = none := by
  by_cases e : b = r
  · subst e
    obtain ⟨x, y, q, _⟩ := k.2 g
    rw [q] at h
    cases h
  · cases q : H b with
    | none => rfl
    | some o =>
      rw [k.1 b o e q] at h
      cases h
section
variable {P : Program} {w : World} {K : PySem.W.Frag} {mg : Str → Option Value} {base : Heap}
def spRng (K : PySem.W.Frag) : Sp := fun vs H Q _ => ∃ (a : Addr) (ns : List Int) (k : Nat), vs = [.ref a, .int (k : Int)] ∧ SqL K H a (ns.map V.int) ∧ k ≤ 1000 ∧ ∀ H' p, Same H H' → H p = none → Rg H' p → Q (.ref p) H'
theorem scRn : FnScope ["_law_script", "_law_k", "_law_cell"] ["_law_script", "_law_k"] (defScope sRng) := ⟨rfl, rfl, rfl, by decide +kernel, rfl, by decide +kernel, by decide +kernel⟩
/-- the built-in names that the law leans on -/
structure BEnv (mg : Str → Option Value) : Prop where
  zLen : mg "len" = none
  zAbs : mg "abs" = none
  zMax : mg "max" = none
  zMin : mg "min" = none
  zInt : mg "int" = none
  zDm : mg "divmod" = none
  zRange : mg "range" = none
  zAll : mg "all" = none
theorem ok_rng {f : Addr} {fd : FuncData} (F : Fun K "_law_rng" "_law_rng" sRng f fd) (B : BEnv mg) : FnOk P w K mg base CX0 1 f fd ["_law_script", "_law_k"] (spRng K) := by
  refine F.ok scRn (fun vs H Q E h => ?_) (fun cdv A outer_ s H vs Q E hr h => ?_)
  · obtain ⟨a, ns, k, rfl, _⟩ := h
    rfl
  · obtain ⟨a, ns, k, rfl, hS, hk, kk⟩ := h
    refine ⟨_, pss_cons (ps_set (i := 2) scRn.nd rfl (Or.inl rfl) (pe_ifExp (pt_cmpR op_lt (pv 1) (pe_callB call_len_seq (by rfl) B.zLen PySem.boot_len (pa_cons (pv 0) pa_nil)) (nomark _)) (pe_callB call_abs (by rfl) B.zAbs (by decide +kernel) (pa_cons (pe_ix ix_list (pv 0) (pv 1) (fun _ _ => rfl)) pa_nil)) pe_int))
      (pss_one (ps_ret (pe_lst (pa_cons (pe_callB (call_max2 rfl) (by rfl) B.zMax (by decide +kernel) (pa_cons pe_int (pa_cons (pe_op op_sub (pv 2) (pe_op op_pow pe_int pe_int)) pa_nil)))
        (pa_cons (pe_op op_add (pe_op op_mod (pe_callTy call_int1 (by rfl) B.zInt (by decide +kernel) (pa_cons (pe_op op_pow (pe_op op_add (pe_op op_add (pe_op op_mod (pe_callTy call_int1 (by rfl) B.zInt (by decide +kernel) (pa_cons (pv 2) pa_nil)) pe_int) (pe_op op_mul pe_int (pv 1))) pe_int) pe_int) pa_nil)) pe_int) pe_int) pa_nil))))), ?_⟩
    have rest : ∀ c : Int, 0 ≤ c → 0 ≤ (if c - 10 ^ (18 : Int).toNat > 0 then c - 10 ^ (18 : Int).toNat else 0) ∧ (c % 2147483549 + 4127 * (k : Int) + 29).natAbs < 2 ^ 64 := fun c hc => by
      have h1 := Int.emod_nonneg c (show (2147483549 : Int) ≠ 0 by decide)
      have h2 := Int.emod_lt_of_pos c (show (0 : Int) < 2147483549 by decide)
      refine ⟨by split <;> omega, by omega⟩
    have last : ∀ z : Int, 0 ≤ z % 2147483477 + 1 ∧ z % 2147483477 + 1 ≤ 2147483629 := fun z => by
      have h1 := Int.emod_nonneg z (show (2147483477 : Int) ≠ 0 by decide)
      have h2 := Int.emod_lt_of_pos z (show (0 : Int) < 2147483477 by decide)
      omega
    have cell : ∀ c : Int, 0 ≤ c → (∀ (H' : Hp) (p : Addr), Same H H' → H p = none → Rg H' p → Q (.ref p) H') → True := fun _ _ _ => trivial
    refine ⟨_, rfl, _, rfl, a, _, rfl, .inl hS, _, _, rfl, rfl, _, rfl, ?_⟩
    refine ite2 (fun h1 => ?_) (fun h1 => ?_)
    · have hlt : k < ns.length := by
        have := of_decide_eq_true h1
        rw [List.length_map] at this
        omega
      have hv : (ns.map V.int)[k]? = some (V.int ns[k]) := by rw [List.getElem?_map, List.getElem?_eq_getElem hlt]; rfl
      refine ⟨_, rfl, _, rfl, a, _, _, _, rfl, rfl, hS, atI_nat hv, _, rfl, ?_⟩
      have hc : 0 ≤ (if ns[k] < 0 then -ns[k] else ns[k]) := by split <;> omega
      generalize (if ns[k] < 0 then -ns[k] else ns[k]) = c at hc
      obtain ⟨r1, r2⟩ := rest c hc
      refine ⟨_, rfl, _, _, rfl, rfl, ⟨by decide, by decide, by decide⟩, _, _, rfl, rfl, _, _, rfl, ?_⟩
      refine ⟨_, rfl, .inl ⟨_, rfl, _, _, rfl, rfl, (by show (0 : Int) < 2147483549; decide), _, rfl, _, _, rfl, rfl, .inl ⟨by decide, by decide⟩, _, _, rfl, rfl, _, _, rfl, rfl, _, _, rfl, rfl, ⟨by decide, by decide, r2⟩,
        .inl ⟨_, rfl, _, _, rfl, rfl, (by show (0 : Int) < 2147483477; decide), _, _, rfl, rfl, (by show 2 ≤ sizeLine; decide), fun p hp => kk _ p (same_upd hp) hp ⟨_, _, upd_same, r1, (last _).1, (last _).2⟩⟩⟩⟩
    · have hc : (0 : Int) ≤ 0 := Int.le_refl 0
      obtain ⟨r1, r2⟩ := rest 0 hc
      refine ⟨_, rfl, _, _, rfl, rfl, ⟨by decide, by decide, by decide⟩, _, _, rfl, rfl, _, _, rfl, ?_⟩
      refine ⟨_, rfl, .inl ⟨_, rfl, _, _, rfl, rfl, (by show (0 : Int) < 2147483549; decide), _, rfl, _, _, rfl, rfl, .inl ⟨by decide, by decide⟩, _, _, rfl, rfl, _, _, rfl, rfl, _, _, rfl, rfl, ⟨by decide, by decide, r2⟩,
        .inl ⟨_, rfl, _, _, rfl, rfl, (by show (0 : Int) < 2147483477; decide), _, _, rfl, rfl, (by show 2 ≤ sizeLine; decide), fun p hp => kk _ p (same_upd hp) hp ⟨_, _, upd_same, r1, (last _).1, (last _).2⟩⟩⟩⟩
/-! ### _law_draw -/
def spDraw : Sp := fun vs H Q _ => ∃ (r : Addr) (m : Nat), vs = [.ref r, .int (m : Int)] ∧ Rg H r ∧ 0 < m ∧ m ≤ big ∧ ∀ H' (n : Nat), Kp r H H' → n < m → Q (.int (n : Int)) H'
theorem scDr : FnScope ["_law_rng_here", "_law_many", "_law_digit"] ["_law_rng_here", "_law_many"] (defScope sDraw) := ⟨rfl, rfl, rfl, by decide +kernel, rfl, by decide +kernel, by decide +kernel⟩
theorem mod_nat (z : Int) {m : Nat} (h : 0 < m) : ∃ n : Nat, z % (m : Int) = (n : Int) ∧ n < m := by
  have h1 := Int.emod_nonneg z (show (m : Int) ≠ 0 by omega)
  have h2 := Int.emod_lt_of_pos z (show (0 : Int) < m by omega)
  exact ⟨(z % (m : Int)).toNat, by omega, by omega⟩
theorem ixN_0 (n : Nat) : ixN (n + 1) 0 = some 0 := by
  unfold ixN
  rw [if_pos (by decide)]
  simp
theorem ixN_1 (n : Nat) : ixN (n + 2) 1 = some 1 := by
  unfold ixN
  rw [if_pos (by decide)]
  simp
  omega
theorem ok_draw {f : Addr} {fd : FuncData} (F : Fun K "_law_draw" "_law_draw" sDraw f fd) (B : BEnv mg) : FnOk P w K mg base CX0 1 f fd ["_law_rng_here", "_law_many"] spDraw := by
  refine F.ok scDr (fun vs H Q E h => ?_) (fun cdv A outer_ s H vs Q E hr h => ?_)
  · obtain ⟨r, m, rfl, _⟩ := h
    rfl
  · obtain ⟨r, m, rfl, ⟨x, y, hL, hx, hy, hy2⟩, hm, hm2, k⟩ := h
    refine ⟨_, pss_cons (ps_if (pt_cmpR op_gt (pe_ix ix_list (pv 0) pe_int (fun _ _ => rfl)) pe_int (nomark _))
        (pss_cons (ps_asg (pe_callB call_divmod (by rfl) B.zDm (by decide +kernel) (pa_cons (pe_ix ix_list (pv 0) pe_int (fun _ _ => rfl)) (pa_cons (pv 1) pa_nil))) (pg_tup rfl (pgs_cons (pg_sub (pv 0) pe_int set_list) (pgs_cons (pg_name (i := 2) scDr.nd rfl (Or.inl rfl)) pgs_nil))))
        (pss_one (ps_ret (pv 2)))) pss_nil)
      (pss_cons (ps_asg (pe_op op_mod (pe_callTy call_int1 (by rfl) B.zInt (by decide +kernel) (pa_cons (pe_op op_add (pe_op op_mul (pe_ix ix_list (pv 0) pe_int (fun _ _ => rfl)) pe_int) pe_int) pa_nil)) pe_int) (pg_sub (pv 0) pe_int set_list))
      (pss_one (ps_ret (pe_op op_mod (pe_callTy call_int1 (by rfl) B.zInt (by decide +kernel) (pa_cons (pe_op op_fdiv (pe_op op_mod (pe_callTy call_int1 (by rfl) B.zInt (by decide +kernel) (pa_cons (pe_op op_mul (pe_ix ix_list (pv 0) pe_int (fun _ _ => rfl)) (pe_ix ix_list (pv 0) pe_int (fun _ _ => rfl))) pa_nil)) pe_int) pe_int) pa_nil)) (pv 1))))), ?_⟩
    have hb : big = 1000000 := rfl
    refine ⟨_, rfl, r, _, _, _, rfl, rfl, SqL.of hL, atI_nat (j := 0) rfl, _, _, rfl, rfl, _, rfl, ?_⟩
    refine ite2 (fun h1 => ?_) (fun h1 => ?_)
    · obtain ⟨n, en, hn⟩ := mod_nat x hm
      refine ⟨_, rfl, r, _, _, _, rfl, rfl, SqL.of hL, atI_nat (j := 0) rfl, _, rfl, _, _, rfl, ⟨by omega, by omega⟩, fun t ht => ?_⟩
      have nt : r ≠ t := ne_of_none hL ht
      refine ⟨t, _, rfl, SqT.of upd_same, rfl, _, _, rfl, _, rfl, r, [.int x, .int y], _, 0, rfl, rfl, by rw [upd_ne nt]; exact hL, ixN_0 1, ?_⟩
      refine ⟨_, _, rfl, rfl, ?_⟩
      refine ⟨_, rfl, ?_⟩
      rw [en]
      refine k _ n ⟨fun b o hb e => ?_, fun _ => ⟨x / (m : Int), y, upd_same, Int.ediv_nonneg hx (by omega), hy, hy2⟩⟩ hn
      rw [upd_ne hb, upd_ne (ne_of_none e ht)]
      exact e
    · refine ⟨_, rfl, r, _, _, _, rfl, rfl, SqL.of hL, atI_nat (j := 1) rfl, _, _, rfl, rfl, .inr ⟨by decide, by decide⟩, _, _, rfl, rfl, .inl ⟨_, rfl, _, _, rfl, rfl, (by show (0 : Int) < 2147483629; decide), _, rfl, r, [.int x, .int y], _, 1, rfl, rfl, hL, ixN_1 0, ?_⟩⟩
      have e1 := Int.emod_nonneg (y * 39373 + 9973) (show (2147483629 : Int) ≠ 0 by decide)
      have e2 := Int.emod_lt_of_pos (y * 39373 + 9973) (show (0 : Int) < 2147483629 by decide)
      obtain ⟨z, ez⟩ : ∃ z, z = (y * 39373 + 9973) % 2147483629 := ⟨_, rfl⟩
      rw [← ez] at e1 e2
      rw [show ([V.int x, V.int y].set 1 ((fun i j : Int => V.int (i % j)) (y * 39373 + 9973) 2147483629)) = [.int x, .int z] by rw [ez]; rfl]
      have hL2 : (upd H r (.lst [.int x, .int z])) r = some (.lst [.int x, .int z]) := upd_same
      have cm : CMul z z := .inl ⟨by omega, by omega⟩
      obtain ⟨n, en, hn⟩ := mod_nat (z * z % 2147483563 / 13) hm
      refine ⟨_, rfl, r, _, _, _, rfl, rfl, SqL.of hL2, atI_nat (j := 1) rfl, _, rfl, r, _, _, _, rfl, rfl, SqL.of hL2, atI_nat (j := 1) rfl, _, _, rfl, rfl, cm, .inl ⟨_, rfl, _, _, rfl, rfl, (by show (0 : Int) < 2147483563; decide), _, _, rfl, rfl, ⟨by decide, by decide⟩,
        .inl ⟨_, rfl, _, rfl, _, _, rfl, rfl, (by show (0 : Int) < (m : Int); omega), ?_⟩⟩⟩
      show Q (.int (z * z % 2147483563 / 13 % (m : Int))) _
      rw [en]
      refine k _ n ⟨fun b o hb e => ?_, fun _ => ⟨x, z, upd_same, hx, e1, by omega⟩⟩ hn
      rw [upd_ne hb]
      exact e
/-! ### _law_choice -/
def spChoice (K : PySem.W.Frag) : Sp := fun vs H Q _ => ∃ (r : Addr) (o : V), vs = [.ref r, o] ∧ Rg H r ∧
  ((∃ (a : Addr) (xs : List V), o = .ref a ∧ H a = some (.lst xs) ∧ a ≠ r ∧ xs ≠ [] ∧ xs.length ≤ big ∧ ∀ H' x, Kp r H H' → x ∈ xs → Q x H') ∨
   ∃ l : Tx, o = tv l ∧ l ≠ [] ∧ l.length ≤ big ∧ ∀ H' c, Kp r H H' → c ∈ l → Q (tv [c]) H')
theorem scCh : FnScope ["_law_rng_here", "_law_options"] ["_law_rng_here", "_law_options"] (defScope sChoice) := ⟨rfl, rfl, rfl, by decide +kernel, rfl, by decide +kernel, by decide +kernel⟩
theorem ok_choice {f fD : Addr} {fd dD : FuncData} (F : Fun K "_law_choice" "_law_choice" sChoice f fd) (B : BEnv mg) (AD : At K mg "_law_draw" sDraw ["_law_rng_here", "_law_many"] fD dD) : FnOk P w K mg base CX0 2 f fd ["_law_rng_here", "_law_options"] (spChoice K) := by
  have GD : FnOk P w K mg base CX0 1 fD dD ["_law_rng_here", "_law_many"] spDraw := ok_draw AD.F B
  refine F.ok scCh (fun vs H Q E h => ?_) (fun cdv A outer_ s H vs Q E hr h => ?_)
  · obtain ⟨r, o, rfl, _⟩ := h
    rfl
  · obtain ⟨r, o, rfl, g, h⟩ := h
    refine ⟨_, pss_one (ps_ret (pe_ix ix_seq (pv 1) (pe_call GD hr (by rfl) AD.m AD.F.kp AD.b .nil pass0 (pa_cons (pv 0) (pa_cons (pe_callB call_len (by rfl) B.zLen PySem.boot_len (pa_cons (pv 1) pa_nil)) pa_nil))) (fun _ _ => rfl))), ?_⟩
    rcases h with ⟨a, xs, rfl, hL, hne, hx, hlen, k⟩ | ⟨l, rfl, hl0, hlen, k⟩
    · have hpos : 0 < xs.length := List.length_pos_iff.mpr hx
      refine ⟨_, rfl, _, rfl, _, rfl, _, xs.length, rfl, .inl ⟨_, SqL.of hL, rfl⟩, r, xs.length, rfl, g, hpos, hlen, fun H' n kp hn => ?_⟩
      have hv : xs[n]? = some xs[n] := List.getElem?_eq_getElem hn
      exact .inl ⟨a, _, _, _, rfl, rfl, SqL.of (kp.1 a _ hne hL), atI_nat hv, k H' _ kp (List.getElem_mem hn)⟩
    · have hpos : 0 < l.length := List.length_pos_iff.mpr hl0
      have hline : (txt l).length ≤ sizeLine := by rw [txt_len]; exact Nat.le_trans hlen big_line
      refine ⟨_, rfl, _, rfl, _, rfl, _, l.length, rfl, ⟨hline, (txt_len l).symm⟩, r, l.length, rfl, g, hpos, hlen, fun H' n kp hn => ?_⟩
      have hv : l[n]? = some l[n] := List.getElem?_eq_getElem hn
      exact .inr (.inr ⟨_, _, _, rfl, rfl, hline, atI_nat hv, k H' _ kp (List.getElem_mem hn)⟩)
end
theorem strOk_asc {l : Tx} (h : asc l) : PyData.strOk (txt l) = true := by
  unfold PyData.strOk txt
  rw [List.all_toArray]
  exact List.all_eq_true.mpr fun c hc => decide_eq_true (Nat.lt_trans (h c hc) (by decide))
section
variable {K : PySem.W.Frag} {H : Hp}
theorem dpS : ∀ ts : List Tx, DpAll K H (ts.map tv) (ts.map fun t => PyData.str (txt t))
  | [] => .nil
  | t :: r => .cons (.str _) (dpS r)
end
theorem canS : ∀ ts : List Tx, (∀ t ∈ ts, asc t) → PyData.canLayAll0 (ts.map fun t => PyData.str (txt t)) = true ∧ PyData.depthAll (ts.map fun t => PyData.str (txt t)) = 0
  | [], _ => ⟨rfl, rfl⟩
  | t :: r, h => by
    obtain ⟨h1, h2⟩ := canS r fun u hu => h u (List.mem_cons_of_mem _ hu)
    refine ⟨?_, ?_⟩
    · show (PyData.canLay0 (.str (txt t)) && PyData.canLayAll0 (r.map fun t => PyData.str (txt t))) = true
      rw [h1]
      simp [PyData.canLay0, strOk_asc (h t List.mem_cons_self)]
    · show max (PyData.depth (.str (txt t))) (PyData.depthAll (r.map fun t => PyData.str (txt t))) = 0
      rw [h2]
      simp [PyData.depth]
theorem shS (ts : List Tx) (h : ∀ t ∈ ts, asc t) : SeqAt.shaped (.list (ts.map fun t => PyData.str (txt t))) = true := by
  obtain ⟨h1, h2⟩ := canS ts h
  unfold SeqAt.shaped
  have e1 : PyData.canLay0 (.list (ts.map fun t => PyData.str (txt t))) = true := by rw [PyData.canLay0]; exact h1
  have e2 : PyData.depth (.list (ts.map fun t => PyData.str (txt t))) = 1 := by rw [PyData.depth, h2]
  rw [e1, e2]
  rfl
theorem eqvS : ∀ ts us : List Tx, PyData.eqvAll (ts.map fun t => PyData.str (txt t)) (us.map fun t => PyData.str (txt t)) = decide (ts = us)
  | [], [] => by simp [PyData.eqvAll]
  | [], m :: ms => by simp [PyData.eqvAll]
  | n :: ns, [] => by simp [PyData.eqvAll]
  | n :: ns, m :: ms => by
    have ih := eqvS ns ms
    show PyData.eqvAll (PyData.str (txt n) :: ns.map fun t => PyData.str (txt t)) (PyData.str (txt m) :: ms.map fun t => PyData.str (txt t)) = _
    rw [PyData.eqvAll, ih, PyData.eqv, txt_eq]
    by_cases h : n = m
    · subst h; simp
    · simp [h]
theorem eqvLS (ts us : List Tx) : PyData.eqv (.list (ts.map fun t => PyData.str (txt t))) (.list (us.map fun t => PyData.str (txt t))) = decide (ts = us) := by rw [PyData.eqv]; exact eqvS ts us
end K13
namespace K13
open PySem L2
/-! ### functions that are run where nothing is being shown -/
structure FnG (P : Program) (w : World) (K : PySem.W.Frag) (mg : Str → Option Value) (base : Heap) (k : Nat) (f : Addr) (fd : FuncData) (ps : List Str) (sp : Sp) : Prop where
  len : ∀ vs H Q E, sp vs H Q E → vs.length = ps.length
  run : ∀ (A : Around) (o_ : List Env) (s : Shared) (H : Hp) (gs : Args) (us : List Value) (vs : List V) (Q : VK) (E : XK), A.guards = some [] → Room k A → Env0 P w K mg base A o_ s H → BindsTo s fd gs (ps.zip us) → Vals vs us → sp vs H Q E →
    codeAny (model P w) A (.call (.ref f) gs) (CR CX0 o_ P w H s Q E) s
section
variable {X : Cx} {k : Nat} {f : Addr} {fd : FuncData} {ps : List Str} {sp : Sp} {x : Str} {p pos : Pos} {e : Expr} {es : List Expr} {t : TA}
theorem pe_callG (F : FnG X.prog X.w X.K X.mg X.base k f fd ps sp) (gd : X.A.guards = some []) (hr : Room k X.A) (hg : Gl X x) (hm : X.mg x = some (.ref f)) (hk : PySem.W.keepIn X.K (.ref f) = true) (hb : Binds X.K fd ps []) (ha : PA X (e :: es) t)
    (hdb : (x == ("__debug__" : Str)) = false := by decide) (he : starEach (e :: es) X.env = (false, eval e X.env) :: starEach es X.env := by rfl) (hpl : (backTo pos (starEach es X.env)).any (·.1) = false := by rfl) :
    PE X (.Call (.Name x p) (e :: es) [] pos) (tCall sp [] E0 t) := ⟨by
  intro pins s σ H Q I h
  apply wpAny_Call_Name_kw (ld_glob I hg hm ?_ hdb)
  apply PySem.W.callWith_K (h₀ := X.base) I.ok.mod.kin hk (thn (ha.run pos pins s σ H _ I h) ?_) he hpl
  rintro us s1 ⟨vs, H1, I1, r, q⟩
  refine ⟨I1.kIn, ?_⟩
  have q' : sp vs H1 Q E0 := by
    have z : sp (vs ++ []) H1 Q E0 := q
    rw [List.append_nil] at z
    exact z
  have hl : (us ++ []).length = ps.length := by
    rw [List.append_nil, ← r.length]
    exact F.len _ _ _ _ q'
  have b1 := hb s1 us I1.kIn hl
  rw [List.append_nil] at b1
  apply wpAny_call (codeAny_mono (F.run X.A X.stack s1 H1 ⟨us, []⟩ us vs Q E0 gd hr I1.env0 b1 r q') ?_)
  rintro (e | fl) s2 hq
  · exact hq.elim
  · cases fl <;> first | exact I1.after hq | exact False.elim hq⟩
end
section
variable {P : Program} {w : World} {K : PySem.W.Frag} {mg : Str → Option Value} {base : Heap}
theorem okG {x qual : Str} {st : Stmt} {f : Addr} {fd : FuncData} {N ps : List Str} {k : Nat} {sp : Sp} (F : Fun K x qual st f fd) (S : FnScope N ps (defScope st)) (len : ∀ vs H Q E, sp vs H Q E → vs.length = ps.length)
    (body : ∀ (cdv : Value) (A : Around) (o_ : List Env) (s : Shared) (H : Hp) (vs : List V) (Q : VK) (E : XK), A.guards = some [] → Room k (A.deeper (PyProof.Rows.envOfC qual (defScope st) s.heap.objs.size f cdv)) → sp vs H Q E →
      ∃ t, PSs (cxOf CX0 P w K mg base N qual (defScope st) f cdv A o_ s H E).nox (defBody st) t ∧ t { nx := fun _ H' => Q .non H', rt := Q } (start N vs) H) : FnG P w K mg base (k + 1) f fd ps sp := by
  obtain ⟨oc, od, kV, doc, pm, an, cdv, ct, osl, rfl, lk, cok⟩ := F.ex
  refine ⟨len, fun A o_ s H gs us vs Q E gd hr e0 hb r hsp => ?_⟩
  have up : ∀ b o, base.get? b = some o → s.heap.get? b = some o := fun b o q => (e0.bs b o q).1
  have KX : K.In s.heap := e0.mod.kin.keeps up
  have lm : s.heap.NoLimit := e0.mod.nolimit.keeps up
  have kinds : ∀ y ∈ ps.zip us, (defScope st).names.lookup y.1 = some .local ∨ ((defScope st).names.lookup y.1 = some .cell ∧ ((cellsFrom (s.heap.objs.size + 1) (defScope st).names []).lookup y.1).isSome = true) := by
    rintro ⟨n, v⟩ hy
    cases S.par n (List.of_mem_zip hy).1 with
    | inl q => exact .inl q
    | inr q => exact .inr ⟨q, PySem.W.cellsFrom_some _ _ _ (.inl q)⟩
  apply codeAny_call_function hr.depth (KX _ _ lk) rfl S.co S.gen rfl (PySem.W.codeRec_of KX cok) (hb _ _ _ _ ?_)
  apply wpAny_newFunctionEnv_cells S.kind kinds
  rintro env rfl s1 x
  refine ⟨lm.keeps x.toInCall.keep, codeAny_func ?_⟩
  obtain ⟨t, ht, hq⟩ := body cdv A o_ s H vs Q E gd (hr.deeper _) hsp
  have I : Inv (cxOf CX0 P w K mg base N qual (defScope st) f cdv A o_ s H E) [] (start N vs) H s1 := inv_start S hr.hd e0 (len _ _ _ _ hsp) r x
  apply wpAny_mono (ht.nox.run [] s1 (start N vs) H _ I hq)
  · rintro fl s2 hs
    cases fl with
    | ret u =>
      obtain ⟨v, σ2, H2, J, rv, q⟩ := hs
      exact ⟨v, H2, J.os, J.bare, J.base, J.hok, rv, q⟩
    | next =>
      obtain ⟨σ2, H2, J, q⟩ := hs
      exact ⟨V.non, H2, J.os, J.bare, J.base, J.hok, rfl, q⟩
    | brk =>
      obtain ⟨_, _, _, q⟩ := hs
      exact q.elim
    | cont =>
      obtain ⟨_, _, _, q⟩ := hs
      exact q.elim
  · exact fun e s2 z => z
end
/-! ### what a thing is, and how it is shown -/
/-- a thing of the law: its data -/
inductive Th (K : PySem.W.Frag) (H : Hp) : V → PyData → Prop
  | non : Th K H .non .none
  | bl (b : Bool) : Th K H (.bl b) (.bool b)
  | int (i : Int) : Th K H (.int i) (.int i)
  | str (x : Str) : Th K H (.str x) (.str x)
  | lst {a : Addr} {xs : List V} {ds : List PyData} : H a = some (.lst xs) → (∀ H1, DpAll K H1 xs ds) → PyData.hasDictAll ds = false → Th K H (.ref a) (.list ds)
  | tup {a : Addr} {xs : List V} {ds : List PyData} : H a = some (.tup xs) → (∀ H1, DpAll K H1 xs ds) → PyData.hasDictAll ds = false → Th K H (.ref a) (.tuple ds)
  | d0 {a : Addr} : H a = some (.dK []) → Th K H (.ref a) (.dict [])
  | d1 {a : Addr} {x : Str} {i : Int} : H a = some (.dK [(.inr x, .int i)]) → Th K H (.ref a) (.dict [(.str x, .int i)])
theorem Th.keep {K : PySem.W.Frag} {H H' : Hp} {v : V} {d : PyData} (h : Th K H v d) (k : ∀ a o, v = .ref a → H a = some o → H' a = some o) : Th K H' v d := by
  cases h with
  | non => exact .non
  | bl b => exact .bl b
  | int i => exact .int i
  | str x => exact .str x
  | lst e a n => exact .lst (k _ _ rfl e) a n
  | tup e a n => exact .tup (k _ _ rfl e) a n
  | d0 e => exact .d0 (k _ _ rfl e)
  | d1 e => exact .d1 (k _ _ rfl e)
/-- shown in little room -/
def Sho (d : PyData) : Prop := d.showable = true ∧ d.shown.length ≤ 2000 ∧ d.depth ≤ 5
theorem Sho.fits {d : PyData} (h : Sho d) : d.shown.length ≤ sizeLine := Nat.le_trans h.2.1 (by decide)
section
variable {X : Cx} {pins : List (Addr × Obj)} {σ : St} {H : Hp} {s : Shared}
theorem Th.reads (I : Inv X pins σ H s) {v : V} {d : PyData} {u : Value} (h : Th X.K H v d) (r : RelV v u) : ∃ as, Reads s.heap u d as ∧ (d.hasDict = true → sysModules ∉ as) := by
  cases h with
  | non => exact (Dp.reads I _ _ _ .non r).elim fun as q => ⟨as, q, fun z => by cases z⟩
  | bl b => exact (Dp.reads I _ _ _ (.bl b) r).elim fun as q => ⟨as, q, fun z => by cases z⟩
  | int i => exact (Dp.reads I _ _ _ (.int i) r).elim fun as q => ⟨as, q, fun z => by cases z⟩
  | str x => exact (Dp.reads I _ _ _ (.str x) r).elim fun as q => ⟨as, q, fun z => by cases z⟩
  | lst e a n => exact (Dp.reads I _ _ _ (.lst (SqL.of e) (a _)) r).elim fun as q => ⟨as, q, fun z => by rw [PyData.hasDict, n] at z; cases z⟩
  | tup e a n => exact (Dp.reads I _ _ _ (.tup (SqT.of e) (a _)) r).elim fun as q => ⟨as, q, fun z => by rw [PyData.hasDict, n] at z; cases z⟩
  | d0 e =>
    cases r
    obtain ⟨_, low, vs, kv, o, es, ep, ho, ex, hd, _, hp, _⟩ := I.hok _ _ e
    cases kv
    have hz : es.toList = [] := by
      generalize es.toList = l at hp
      cases hp
      rfl
    refine ⟨_, Reads.dict (as := []) (bs := []) ho ex.1 hd (by rw [hz]; exact .nil) (by rw [hz]; exact .nil), fun _ m => ?_⟩
    have := List.mem_singleton.mp m
    rw [this] at low
    simp at low
  | @d1 a0 x0 i0 e =>
    cases r
    obtain ⟨_, low, vs, kv, o, es, ep, ho, ex, hd, _, hp, _⟩ := I.hok _ _ e
    cases kv with
    | cons q1 q2 =>
      cases q2
      obtain ⟨k1, t, k2⟩ := q1
      obtain ⟨e1, z1, z2, hz⟩ : ∃ e1 : DictEntry, keyIs (.inr x0) e1.key = true ∧ e1.val = .int i0 t ∧ es.toList = [e1] := by
        generalize es.toList = l at hp
        cases hp with
        | cons a b c =>
          cases c
          refine ⟨_, ?_, b.trans k2, rfl⟩
          rw [← k1] at a
          exact a
      obtain ⟨x2, t2, y1, y2⟩ : ∃ x2 t2, (Sum.inr x0 : Key) = Sum.inr x2 ∧ e1.key = Value.str x2 t2 := by
        rcases keyIs_shape z1 with ⟨i, t, a, b⟩ | ⟨x, t, a, b⟩
        · cases a
        · exact ⟨x, t, a, b⟩
      cases y1
      refine ⟨_, Reads.dict (as := []) (bs := []) ho ex.1 hd (by rw [hz]; show ReadsAll _ [e1.key] _ _; rw [y2]; exact .cons (.str _ _) .nil) (by rw [hz]; show ReadsAll _ [e1.val] _ _; rw [z2]; exact .cons (.int _ _) .nil), fun _ m => ?_⟩
      have := List.mem_singleton.mp m
      rw [this] at low
      simp at low
/-- repr(x), where nothing is being shown -/
theorem call_reprD (gd : X.A.guards = some []) (un : X.A.units + 200 < cLine) : CallR X (.builtin "repr") (fun xs H Q => ∃ v d, xs = [v] ∧ Th X.K H v d ∧ Sho d ∧ Q (.str d.shown) H) := by
  rintro pins s σ H xs us Q I r ⟨v, d, rfl, th, sh, q⟩
  have s1 := sh.1
  have s2 := sh.fits
  have s3 := sh.2.2
  obtain ⟨u, rfl, ru⟩ := vals1 r
  obtain ⟨as, rd, hm⟩ := Th.reads I th ru
  cases rd with
  | none => exact PySem.P.repr_of_none ⟨.str _, H, I.tok _, ⟨_, rfl⟩, by simpa only [PyData.shown] using q⟩
  | bool b =>
    refine PySem.P.repr_of_bool ⟨.str _, H, I.tok _, ⟨_, rfl⟩, ?_⟩
    simp only [PyData.shown] at q
    cases b <;> exact q
  | int i t =>
    simp only [PyData.shown] at q
    exact PySem.P.repr_of_int (by simpa [PyData.showable] using s1) ⟨.str _, H, I.tok _, ⟨_, rfl⟩, q⟩
  | str x t =>
    simp only [PyData.shown] at q s2
    exact PySem.P.repr_of_str ⟨.str _, H, I.tok _, ⟨_, rfl⟩, q⟩ s2
  | list a b c e => exact repr_of_reads' (Reads.list a b c e) s1 hm gd (by omega) (fun _ _ z => z) (fun h' u tk k => ⟨.str _, H, I.kept k, ⟨_, rfl⟩, q⟩) s2
  | tuple a b c e => exact repr_of_reads' (Reads.tuple a b c e) s1 hm gd (by omega) (fun _ _ z => z) (fun h' u tk k => ⟨.str _, H, I.kept k, ⟨_, rfl⟩, q⟩) s2
  | dict a b c e g => exact repr_of_reads' (Reads.dict a b c e g) s1 hm gd (by omega) (fun _ _ z => z) (fun h' u tk k => ⟨.str _, H, I.kept k, ⟨_, rfl⟩, q⟩) s2
end
end K13
namespace K13
open PySem L2
/-! ### what a thing is to isinstance -/
def vB : V → Bool
  | .bl _ => true
  | _ => false
def vI : V → Bool
  | .bl _ => true
  | .int _ => true
  | _ => false
def vS : V → Bool
  | .str _ => true
  | _ => false
inductive Cl (K : PySem.W.Frag) (H : Hp) : V → Prop
  | non : Cl K H .non
  | bl (b : Bool) : Cl K H (.bl b)
  | int (i : Int) : Cl K H (.int i)
  | str (l : Tx) : l.length ≤ 4000 → Cl K H (tv l)
  | oth {a : Addr} {t : Value} : TyX K H (.ref a) t → PySem.W.kitOne K t (.type "bool") = some false → PySem.W.kitOne K t (.type "int") = some false → PySem.W.kitOne K t (.type "str") = some false → Cl K H (.ref a)
theorem Cl.kit {K : PySem.W.Frag} {H : Hp} {v : V} (h : Cl K H v) : ∃ t, TyX K H v t ∧ PySem.W.kitOne K t (.type "bool") = some (vB v) ∧ PySem.W.kitOne K t (.type "int") = some (vI v) ∧ PySem.W.kitOne K t (.type "str") = some (vS v) := by
  cases h with
  | non => exact ⟨_, .base .non, kit_ty (a := "NoneType") (b := "bool") (r := false) (by decide +kernel), kit_ty (a := "NoneType") (b := "int") (r := false) (by decide +kernel), kit_ty (a := "NoneType") (b := "str") (r := false) (by decide +kernel)⟩
  | bl b => exact ⟨_, .base (.bl b), kit_ty (a := "bool") (b := "bool") (r := true) (by decide +kernel), kit_ty (a := "bool") (b := "int") (r := true) (by decide +kernel), kit_ty (a := "bool") (b := "str") (r := false) (by decide +kernel)⟩
  | int i => exact ⟨_, .base (.int i), kit_ty (a := "int") (b := "bool") (r := false) (by decide +kernel), kit_ty (a := "int") (b := "int") (r := true) (by decide +kernel), kit_ty (a := "int") (b := "str") (r := false) (by decide +kernel)⟩
  | str l _ => exact ⟨_, .base (.str _), kit_ty (a := "str") (b := "bool") (r := false) (by decide +kernel), kit_ty (a := "str") (b := "int") (r := false) (by decide +kernel), kit_ty (a := "str") (b := "str") (r := true) (by decide +kernel)⟩
  | oth t b i s => exact ⟨_, t, b, i, s⟩
theorem Cl.text {K : PySem.W.Frag} {H : Hp} {v : V} (h : Cl K H v) (s : vS v = true) : ∃ l : Tx, v = tv l ∧ l.length ≤ 4000 := by
  cases h with
  | str l e => exact ⟨l, rfl, e⟩
  | _ => cases s
/-! ### names -/
def low (c : Nat) : Bool := decide (97 ≤ c) && decide (c ≤ 122)
def nmC (l : Tx) : Bool := decide (l.length ≤ 8) && (!decide (l = []) && l.all low)
def nameV : V → Bool
  | .str x => nmC x.cps.toList
  | _ => false
def abc : Tx := (Str.ofString "abcdefghijklmnopqrstuvwxyz").cps.toList
theorem abc_is : abc = (List.range 26).map (97 + ·) := by decide +kernel
theorem mem_abc (c : Nat) : decide (c ∈ (Str.ofString "abcdefghijklmnopqrstuvwxyz").cps.toList) = low c := by
  show decide (c ∈ abc) = _
  rw [abc_is]
  unfold low
  by_cases h : 97 ≤ c ∧ c ≤ 122
  · rw [decide_eq_true h.1, decide_eq_true h.2]
    refine decide_eq_true (List.mem_map.mpr ⟨c - 97, List.mem_range.mpr (by omega), by omega⟩)
  · have e : (decide (97 ≤ c) && decide (c ≤ 122)) = false := by
      by_cases a : 97 ≤ c
      · rw [decide_eq_false (show ¬ c ≤ 122 by omega)]; simp
      · rw [decide_eq_false a]; rfl
    rw [e]
    refine decide_eq_false fun z => h ?_
    obtain ⟨k, hk, rfl⟩ := List.mem_map.mp z
    have := List.mem_range.mp hk
    omega
theorem abc_all : abc.all low = true ∧ abc.length = 26 := by decide +kernel
theorem lit_nil : Str.ofString "" = txt [] := by decide +kernel
theorem lit_q : Str.ofString "'" = txt [39] := by decide +kernel
theorem tv_eq (a b : Tx) : decide ((tv a : V) = tv b) = decide (a = b) := by
  by_cases h : a = b
  · subst h; simp
  · rw [decide_eq_false h]
    exact decide_eq_false fun e => h (txt_inj (V.str.inj e))
theorem take_snoc {α : Type} {l : List α} {i : Nat} {x : α} (h : l[i]? = some x) : l.take (i + 1) = l.take i ++ [x] := by
  rw [List.take_succ, h, Option.toList_some]
/-- the built-in names -/
structure Zn (mg : Str → Option Value) : Prop where
  zIs : mg "isinstance" = none
  zBool : mg "bool" = none
  zInt : mg "int" = none
  zStr : mg "str" = none
  zAbs : mg "abs" = none
  zLen : mg "len" = none
  zAll : mg "all" = none
  zRepr : mg "repr" = none
section
variable {P : Program} {w : World} {K : PySem.W.Frag} {mg : Str → Option Value} {base : Heap}
/-- all([.. for a sign in a text]) of low signs -/
theorem all_low (l : Tx) : ((l.map low).take l.length).all id = l.all low := by
  rw [List.take_of_length_le (by rw [List.length_map]; exact Nat.le_refl _), List.all_map]
  rfl
/-! ### is_name -/
def spName (K : PySem.W.Frag) : Sp := fun vs H Q _ => ∃ v : V, vs = [v] ∧ Cl K H v ∧ ∀ H', Same H H' → Q (.bl (nameV v)) H'
theorem scNm : FnScope ["value", "letter"] ["value"] (defScope sIsName) := ⟨rfl, rfl, rfl, by decide +kernel, rfl, by decide +kernel, by decide +kernel⟩
theorem ok_name {f : Addr} {fd : FuncData} {tk t2 : Tok} (F : Fun K "is_name" "is_name" sIsName f fd) (Z : Zn mg) (mM : mg "MOST_LETTERS" = some (.int 8 tk)) (mL : mg "LETTERS" = some (.str "abcdefghijklmnopqrstuvwxyz" t2)) : FnOk P w K mg base CX0 1 f fd ["value"] (spName K) := by
  refine F.ok scNm (fun vs H Q E h => ?_) (fun cdv A outer_ s H vs Q E hr h => ?_)
  · obtain ⟨v, rfl, _⟩ := h
    rfl
  · obtain ⟨v, rfl, cl, k⟩ := h
    refine ⟨_, pss_cons (ps_if (PW.pt (pw_or (pt_not (pt_val (pe_callB call_isi (by rfl) Z.zIs (by decide +kernel) (pa_cons (pv 0) (pa_cons (pe_bltn (v := .ty "str") (u := .type "str") (by rfl) Z.zStr (by decide +kernel) rfl) pa_nil)))))
          (pw_or1 (pt_cmpR op_gt (pe_callB call_len_str (by rfl) Z.zLen PySem.boot_len (pa_cons (pv 0) pa_nil)) (pe_glob (v := .int 8) rfl mM ⟨_, rfl⟩) (nomark _))))) (pss_one (ps_ret pe_bl)) pss_nil)
      (pss_one (ps_ret (pe_and (pe_cmpR op_ne (pv 0) pe_str (nomark _)) (pe_one (pe_callB (cr_all rfl) (by rfl) Z.zAll (by decide +kernel) (pa_cons (pe_lc (own := [("letter", 1)]) (g := gName 1) (tt := tYes) rfl scNm.nd (pi_str (pv 0))
        (blkOk_by (N := ["value", "letter"]) (sc := defScope sIsName) (by decide +kernel)) (fun _ _ _ _ _ => pg_name (i := 1) scNm.nd rfl (Or.inl rfl)) (fun _ _ _ _ _ => pts_nil)
        (fun _ _ _ _ _ => pe_cmpR op_in_sign (pv 1) (pe_glob (v := .str "abcdefghijklmnopqrstuvwxyz") rfl mL ⟨_, rfl⟩) (by rfl))) pa_nil)))))), ?_⟩
    obtain ⟨t, ty, kb, ki, ks⟩ := cl.kit
    refine ⟨_, rfl, v, .ty "str", t, .type "str", vS v, rfl, .ty _, ty, ks, _, rfl, ?_⟩
    by_cases hs : vS v = true
    · obtain ⟨l, rfl, hl⟩ := cl.text hs
      have hline : (txt l).length ≤ sizeLine := by rw [txt_len, sizeLine_eq]; omega
      rw [hs]
      refine ⟨_, rfl, _, rfl, hline, _, _, rfl, rfl, _, rfl, ?_⟩
      rw [txt_len]
      have nm : nameV (tv l) = nmC l := rfl
      refine ite2 (fun h1 => ?_) (fun h1 => ?_)
      · have e : nmC l = false := by
          unfold nmC
          rw [decide_eq_false (show ¬ l.length ≤ 8 by have := of_decide_eq_true h1; omega)]
          rfl
        have z := k H (Same.refl H)
        rw [nm, e] at z
        exact z
      have l8 : l.length ≤ 8 := by
        have : ¬ ((l.length : Int) > 8) := fun z => h1 (decide_eq_true z)
        omega
      rw [lit_nil]
      refine ⟨_, rfl, rfl, _, rfl, ?_⟩
      rw [tv_eq]
      by_cases h2 : l = []
      · subst h2
        exact k H (Same.refl H)
      rw [decide_eq_false h2]
      refine ⟨_, rfl, _, rfl, fun D hD => ?_⟩
      refine lc_it (walk_str (z := txt l)) (fun i H' => Same H H' ∧ H' D = some (.lst (((l.map low).take i).map V.bl))) ⟨same_upd hD, upd_same⟩ (fun _ _ _ _ => trivial) ?_ ?_
      · rintro i x H1 H2 hi ⟨sm, hL⟩ ⟨rfl, c, hc, rfl⟩
        have hc' : l[i]? = some c := by
          have z : l.toArray[i]? = some c := hc
          simpa using z
        refine ⟨rfl, _, rfl, c, _, rfl, rfl, _, hL, ?_, fun b o q => ?_, ?_⟩
        · rw [List.length_map, List.length_take, List.length_map, sizeLine_eq]
          omega
        · rw [upd_ne (ne_of_none q hD)]
          exact sm b o q
        · rw [upd_same, take_snoc (x := low c) (by rw [List.getElem?_map, hc']; rfl), List.map_append, mem_abc]
          rfl
      · rintro H1 ⟨sm, hL⟩
        refine ⟨D, _, rfl, SqL.of hL, ?_⟩
        have e : ((l.map low).take (txt l).cps.size).all id = nmC l := by
          rw [show (txt l).cps.size = l.length from txt_len l, all_low]
          unfold nmC
          rw [decide_eq_true l8, decide_eq_false h2]
          rfl
        rw [e]
        exact k H1 sm
    · have hs' : vS v = false := by simpa using hs
      rw [hs']
      have e : nameV v = false := by cases v <;> first | rfl | cases hs'
      have z := k H (Same.refl H)
      rw [e] at z
      exact z
end
end K13
/-! own exceptions below ArithmeticError, with a walked __init__ -/
namespace AEx
open PySem PySem.Spec PyProof.Rows L2
def aeMro : List Value := ["ArithmeticError", "Exception", "BaseException", "object"].map Value.type
structure AeC (K : PySem.W.Frag) (C : Addr) : Prop where
  made : PySem.W.excInitIn K C aeMro "ArithmeticError.__new__" = true
  over : PySem.W.excOver K C aeMro = true
  dct : PySem.W.hasDictIn K C = true
  setA : PySem.W.findIn K (.ref C) "__setattr__" = some (some (.builtin "object.__setattr__"))
  exc : PySem.W.subIn K (.ref C) (.type "BaseException") = some true
  typ : PySem.W.typeIn K (.ref C) = some (.type "type")
  keep : PySem.W.keepIn K (.ref C) = true
theorem upd_swap {H : Hp} {a b : Addr} {o u v : HO} (h : a ≠ b) : upd (upd (upd H b o) a u) b v = upd (upd H b v) a u := by
  funext c
  by_cases hb : c = b
  · subst hb
    rw [upd_same, upd_ne (Ne.symm h), upd_same]
  · rw [upd_ne hb]
    by_cases ha : c = a
    · subst ha
      rw [upd_same, upd_same]
    · rw [upd_ne ha, upd_ne ha, upd_ne hb, upd_ne hb]
section
variable {X : Cx} {pins : List (Addr × Obj)} {σ : L2.St} {H : Hp} {s : Shared} {a C dx : Addr} {f : Str} {y : V} {u : Value} {fs : List (Str × V)} {Q : Unit → Shared → Prop} {E : Value → Shared → Prop} {A : Around}
theorem put_first (T : AeC X.K C) (I : Inv X pins σ H s) (e : H a = some (exo a C none)) (ht : PySem.W.takerIn X.K C f = some none) (ry : RelV y u)
    (h : ∀ dx s', H dx = none → dx ≠ a → Inv X pins σ (upd (upd H dx (exd dx [(f, y)])) a (exo a C (some dx))) s' → Q () s') : wpAny (model X.prog X.w) A (setAttr (.ref a) f u) Q E s := by
  obtain ⟨t1, ho⟩ := exo_at I.hok e
  obtain ⟨hp, g, dr, t, os⟩ := s
  have inst : PySem.W.InstAt hp a { cls := .ref C, dict := none, data := .fields #[.ref t1, .none, .none, .none, .bool false, .none] } C none := ⟨ho, rfl, rfl, trivial⟩
  refine PySem.W.set_plain I.kIn inst T.setA (PySem.W.osa_openX (s := ⟨hp, g, dr, t + 1, os⟩) F.store_ArithmeticError I.kIn inst T.over ht fun b => ?_)
  obtain ⟨cd, hc, hd'⟩ := PySem.W.any_some T.dct
  have J : Inv X pins σ H ⟨hp, g, dr, t + 1, os⟩ := I.tok (t + 1)
  refine wpAny_bind (wpAny_pure (wpAny_bind (PySem.W.instanceDict_exc (s := ⟨hp, g, dr, t + 1, os⟩) (C := C) ho (PySem.W.looks_clsIn J.kIn hc) hd' ?_)))
  have lt : a < hp.objs.size := Heap.lt_size ho
  have free : H hp.objs.size = none := I.hok.fresh (Nat.le_refl _)
  have ne : hp.objs.size ≠ a := Nat.ne_of_gt lt
  have get0 : (hp.push (PySem.W.dictOf [] 0)).get? hp.objs.size = some (PySem.W.dictOf [] 0) := Heap.get?_push_at rfl rfl
  have get1 : ((hp.push (PySem.W.dictOf [] 0)).update a fun o => { o with dict := some hp.objs.size }).get? hp.objs.size = some (PySem.W.dictOf [] 0) := (Heap.get?_update_ne _ _ _ _ ne).trans get0
  have nil0 : ∀ G : Heap, G.get? hp.objs.size = some (PySem.W.dictOf [] 0) → G.Ns hp.objs.size (fun _ => none) := fun G e => ⟨_, #[], 0, e, rfl, fun e he => absurd he (by simp), fun _ => rfl⟩
  refine PySem.HandSPX.store_in_new (nil0 _ get1) fun h' tk' hn' sb => ?_
  have J1 : Inv X pins σ (upd H hp.objs.size (exd hp.objs.size [])) ⟨hp.push (PySem.W.dictOf [] 0), g, dr, t + 1, os⟩ :=
    J.laid (t' := t + 1) (a := hp.objs.size) (o := exd hp.objs.size []) (h' := hp.push (PySem.W.dictOf [] 0)) (fun b o q => Heap.get?_push_of_some _ q) (Nat.le_refl _) (exd_ok (Heap.Ns1.of_empty (nil0 _ get0)) fun g => True.intro)
  have geta : (hp.push (PySem.W.dictOf [] 0)).get? a = some ({ cls := .ref C, dict := none, data := .fields #[.ref t1, .none, .none, .none, .bool false, .none] } : Obj) := Heap.get?_push_of_some _ ho
  have getb : ((hp.push (PySem.W.dictOf [] 0)).update a fun o => { o with dict := some hp.objs.size }).get? a = some ({ cls := .ref C, dict := some hp.objs.size, data := .fields #[.ref t1, .none, .none, .none, .bool false, .none] } : Obj) := Heap.get?_update_self _ geta rfl
  have J2 := J1.write (t' := t + 1) (h' := (hp.push (PySem.W.dictOf [] 0)).update a fun o => { o with dict := some hp.objs.size }) (x := a) (e := a) (o := exo a C (some hp.objs.size)) (by rw [upd_ne (Ne.symm ne), e]; exact True.intro) (.inl rfl)
    (fun b o nb q => (Heap.get?_update_ne _ _ _ _ nb).trans q) ⟨_, getb⟩ (exo_ok getb)
  have J3 := J2.write (t' := tk') (h' := h') (x := hp.objs.size) (e := hp.objs.size) (o := exd hp.objs.size [(f, y)]) (by rw [upd_ne ne, upd_same]; exact True.intro) (.inl rfl)
    (fun b o nb q => (sb.2 b nb).trans q) (by obtain ⟨o, _, _, e', _⟩ := hn'; exact ⟨o, e'⟩) (exd_ok hn' (relO_put (fs := []) ry fun g => True.intro))
  rw [upd_swap (Ne.symm ne)] at J3
  exact h _ _ free ne J3
theorem put_next (T : AeC X.K C) (I : Inv X pins σ H s) (e : H a = some (exo a C (some dx))) (ed : H dx = some (exd dx fs)) (hl : fs.length ≤ 900) (ht : PySem.W.takerIn X.K C f = some none) (ry : RelV y u)
    (h : ∀ s', Inv X pins σ (upd H dx (exd dx ((f, y) :: fs))) s' → Q () s') : wpAny (model X.prog X.w) A (setAttr (.ref a) f u) Q E s := by
  obtain ⟨t1, ho⟩ := exo_at I.hok e
  obtain ⟨mA, hns, rel⟩ := exd_at I.hok ed
  have win := within_of rel
  obtain ⟨hp, g, dr, t, os⟩ := s
  obtain ⟨oD, _, _, hoD, _, _⟩ := hns.count win
  have inst : PySem.W.InstAt hp a { cls := .ref C, dict := some dx, data := .fields #[.ref t1, .none, .none, .none, .bool false, .none] } C (some oD) := ⟨ho, rfl, rfl, hoD⟩
  refine PySem.W.set_plain I.kIn inst T.setA (PySem.W.osa_openX (s := ⟨hp, g, dr, t + 1, os⟩) F.store_ArithmeticError I.kIn inst T.over ht fun b => ?_)
  obtain ⟨cd, hc, hd'⟩ := PySem.W.any_some T.dct
  have J : Inv X pins σ H ⟨hp, g, dr, t + 1, os⟩ := I.tok (t + 1)
  refine wpAny_bind (wpAny_pure (wpAny_bind (wpAny_bind (wpAny_loadPart ho (wpAny_bind (PySem.W.Looks.here (s := ⟨hp, g, dr, t + 1, os⟩) (PySem.W.looks_clsIn J.kIn hc) ?_))))))
  rw [hd']
  refine wpAny_pure (a := some dx) ?_
  refine PySem.OEX.store_in_old hns win (by rw [List.length_map]; omega) fun h' tk' hn' sb => ?_
  refine h _ (I.write (t' := tk') (h' := h') (x := dx) (e := dx) (o := exd dx ((f, y) :: fs)) (by rw [ed]; exact True.intro) (.inl rfl) (fun b o nb q => (sb.2 b nb).trans q) ?_ (exd_ok hn' (relO_put ry rel)))
  obtain ⟨o, _, _, e', _⟩ := hn'
  exact ⟨o, e'⟩
end
/-- self.f = e in the __init__ of such a class -/
def tPut (K : PySem.W.Frag) (f : Str) (to te : TE) : TS := fun D σ H => te σ H fun y H1 => to σ H1 fun x H2 => ∃ a C : Addr, x = .ref a ∧ AeC K C ∧ PySem.W.takerIn K C f = some none ∧
  ((H2 a = some (exo a C none) ∧ ∀ dx, H2 dx = none → dx ≠ a → D.nx σ (upd (upd H2 dx (exd dx [(f, y)])) a (exo a C (some dx)))) ∨
   ∃ (dx : Addr) (fs : List (Str × V)), fs.length ≤ 900 ∧ H2 a = some (exo a C (some dx)) ∧ H2 dx = some (exd dx fs) ∧ D.nx σ (upd H2 dx (exd dx ((f, y) :: fs))))
section
variable {X : Cx} {o e : Expr} {es : List Expr} {to te : TE} {ta : TA} {f : Str} {p p' pos : Pos}
theorem ps_put (ho : PE X o to) (he : PE X e te) (hs : swapsWith e (some (.Attribute o f p')) pos.line X.env = pure false := by rfl) : PS X (.Assign [.Attribute o f p'] e pos) (tPut X.K f to te) := ⟨by
  intro pins s σ H D I h
  refine plainObj_wpAny_Assign_Attribute (thn (he.run pins s σ H _ I h) ?_) hs
  rintro v s1 ⟨y, H1, I1, r1, q1⟩
  refine thn (ho.run pins s1 σ H1 _ I1 q1) ?_
  rintro _ s2 ⟨_, H2, I2, r2, a, C, rfl, T, ht, q⟩
  cases r2
  rcases q with ⟨ea, q⟩ | ⟨dx, fs, hl, ea, ed, q⟩
  · exact put_first T I2 ea ht r1 fun dx s' n ne J => ⟨σ, _, J, q dx n ne⟩
  · exact put_next T I2 ea ed hl ht r1 fun s' J => ⟨σ, _, J, q⟩⟩
/-- C(e, ..) of such a class -/
theorem pmk_ae {CX : CXT} {x : Str} {C fI : Addr} {k : Nat} {fd : FuncData} {ps : List Str} {sp : Sp} (T : AeC X.K C) (iC : PySem.W.findIn X.K (.ref C) "__init__" = some (some (.ref fI))) (tI : PySem.W.typeIn X.K (.ref fI) = some (.type "function"))
    (F1 : FnOk X.prog X.w X.K X.mg X.base CX k fI fd ps sp) (hr : Room (k + 1) X.A) (hb : Binds X.K fd ps []) (hx : Passes CX X (fun _ _ _ => False)) (hg : Gl X x) (hm : X.mg x = some (.ref C)) (ha : PA X (e :: es) ta)
    (hdb : (x == ("__debug__" : Str)) = false := by decide) (he : starEach (e :: es) X.env = (false, eval e X.env) :: starEach es X.env := by rfl) (hpl : (backTo pos (starEach es X.env)).any (·.1) = false := by rfl) :
    PMk X (.Call (.Name x p) (e :: es) [] pos) (tMkO C sp [] ta) := by
  intro pins s σ H Q I h
  refine wpAny_Call_Name_kw (ld_glob I hg hm ?_ hdb)
  refine PySem.W.callWith_K (h₀ := X.base) I.ok.mod.kin T.keep (thn (ha.run pos pins s σ H _ I h) ?_) he hpl
  rintro us ⟨hp, g, dr, tk, os⟩ ⟨vs, H1, I1, r1, hz, q1⟩
  refine ⟨I1.kIn, ?_⟩
  show wpAny _ _ (call (.ref C) us) _ _ _
  obtain ⟨nm, N, qn, bs, bm, hdct, sn, sub, ab, col, dd, k0, k1, k2, k3, k5, hC, hT⟩ := PySem.W.excInit_of I1.kIn T.made
  have lay : ∀ b o, hp.get? b = some o → ((hp.push (PySem.W.kdv_tup us)).push (PySem.HandSPX.excO C hp.objs.size)).get? b = some o := fun b o e => Heap.get?_push_of_some _ (Heap.get?_push_of_some _ e)
  have here : ((hp.push (PySem.W.kdv_tup us)).push (PySem.HandSPX.excO C hp.objs.size)).get? (hp.objs.size + 1) = some (PySem.HandSPX.excO C hp.objs.size) := by heap_get
  have new : hp.objs.size ≤ hp.objs.size + 1 := Nat.le_succ _
  have hq := q1 _ (I1.hok.fresh new)
  have I2 := I1.laid (t' := tk) (a := hp.objs.size + 1) (o := exo (hp.objs.size + 1) C none) lay new (exo_ok here)
  have r2 : Vals (V.ref (hp.objs.size + 1) :: (vs ++ [])) (Value.ref (hp.objs.size + 1) :: (us ++ [])) := .cons rfl (r1.append .nil)
  have len : (Value.ref (hp.objs.size + 1) :: us ++ []).length = ps.length := (F1.len _ _ _ _ hq).symm.trans r2.length |>.symm
  have few : us.length ≤ sizeLine := by have := Paired.length r1; rw [sizeLine_eq]; omega
  refine wpAny_call (PySem.HandSPX.call_own F.excBase_ArithmeticError hT hC (PySem.W.looks_findIn I1.kIn iC) (fun self => PySem.W.bind_fn I1.kIn self tI) few ?_)
  refine codeAny_mono (F1.run _ X.stack _ _ ⟨Value.ref (hp.objs.size + 1) :: us, []⟩ ((Value.ref (hp.objs.size + 1) :: us) ++ []) _ _ (fun _ _ _ => False) (hr.make C us []) (I2.env0.make C us []) (hb _ (Value.ref (hp.objs.size + 1) :: us) I2.kIn len) r2 hq) ?_
  rintro (er | fl) s' back
  · exact hx pins σ _ _ er s' I2 back
  · cases fl with
    | ret rv =>
      obtain ⟨_, H2, os2, bare2, un2, hok2, rv', rfl, d, fs, ea, ed, hd1, q2⟩ := back
      obtain ⟨h2, g2, d2, t2, os'⟩ := s'
      exact ⟨rv', mk_end (raises_own T.exc T.typ) I1 new lay un2 hok2 os2 bare2 ea ed hd1 q2⟩
    | next => exact back.elim
    | brk => exact back.elim
    | cont => exact back.elim
end
end AEx
/-! isinstance of a caught error that has its own dict -/
namespace PySem.W
open PySem PySem.Spec PySem.Calls PyProof.Rows
section
variable {prog : Program} {w : World} {A : Around} {E : Value → Shared → Prop} {s : Shared} {K : Frag} {x D : Addr} {ox : Obj} {od : Option Obj}
theorem k14_find {C : Addr} {name : Str} {a g : Value} (hc : (clsIn K C).isSome = true) (ha : findIn K (.ref C) name = some (some a)) (hg : specialIn K a "__get__" = some (some g)) (ht : takesIn K a = some true) : findObj K C od name = some (.bind g a) := by
  cases hq : clsIn K C with
  | none => rw [hq] at hc; cases hc
  | some cd => unfold findObj; rw [hq, Option.bind_some, ha, Option.bind_some]; simp [hg, ht]
theorem k14_class {Q : Option Value → Shared → Prop} (C : L2.ExcC K D) (X : K.In s.heap) (I : InstAt s.heap x ox D od) (h : Q (some (.ref D)) { s with toks := s.toks + 1 }) : wpAny (model prog w) A (getAttr? (.ref x) "__class__") Q E s := by
  obtain ⟨hga, hgt, hsub, hdct, ha, hn, htk, hm⟩ := C
  have hf : findObj K D od "__class__" = some (.bind (.builtin "getset_descriptor.__get__") (.builtin "object.__class__")) := k14_find (by obtain ⟨cd, hc, _⟩ := any_some hdct; rw [hc]; rfl) ha hn htk
  obtain ⟨hp, g, d, t, os⟩ := s
  have J0 := I.type (M := model prog w)
  have J1 := looks_findIn (M := model prog w) X hga
  have J2 := looks_findIn (M := model prog w) X hgt
  have J3 := looks_find (M := model prog w) X I hf
  have sb : Looks (model prog w) hp (isInstance (.ref x) (.type "BaseException")) true := J0.andThen (looks_subIn X hsub)
  have z0 : (false && onTheHeap (Value.builtin "BaseException.__getattribute__")) = false := rfl
  have z2 : (Value.builtin "BaseException.__getattribute__" == Value.builtin "object.__getattribute__") = false := by decide +kernel
  have z1 : (onTheHeap (Value.ref D) && Value.builtin "BaseException.__getattribute__" == Value.builtin "object.__getattribute__") = false := by rw [z2]; rfl
  unfold getAttr? getAttrBy? getAttrBy
  apply wpAny_bind; apply wpAny_mkText; apply wpAny_bind; apply wpAny_attempt; apply wpAny_holding; apply wpAny_bind; apply J0.at; apply wpAny_bind; apply J1.at
  show wpAny _ _ (if (onTheHeap (Value.ref D) && Value.builtin "BaseException.__getattribute__" == Value.builtin "object.__getattribute__") = true then _ else _) _ _ _
  rw [z1, if_neg Bool.false_ne_true]
  unfold getAttrByItsOwn hookBefore
  apply wpAny_bind
  rw [if_pos (show onTheHeap (Value.ref D) = true from rfl)]
  apply J2.at; apply wpAny_bind; apply wpAny_attempt; apply wpAny_holding
  unfold callGetattribute
  rw [z0, if_neg Bool.false_ne_true]
  unfold boundAndCalled
  rw [PySem.F.excAttr_ValueError.ga.bind (.ref x)]
  apply wpAny_bind; apply wpAny_pure
  show wpAny _ _ (call (.builtin "BaseException.__getattribute__") [.ref x, .str "__class__" t]) _ _ _
  apply wpAny_call; apply codeAny_call_builtin PySem.F.excAttr_ValueError.ga.plain PySem.F.entry_bexc_ga
  apply @check_slot (model prog w) _ _ ⟨hp, g, d, t + 1, os⟩ "BaseException.__getattribute__" "BaseException" "__getattribute__" (.ref x) [.str "__class__" t] [] _ (by decide +kernel) (by decide +kernel) sb (PySem.F.args_bexc_ga (.ref x) (.str "__class__" t))
  unfold Builtin.«object.__getattribute__»
  apply wpAny_bind; apply wpAny_of_eq (a := ((Value.ref x : Value), [Value.str "__class__" t])) (by first | rfl | (simp only [slotArgs]; rfl))
  apply wpAny_bind; apply wpAny_pure; apply wpAny_bind; apply J0.at; apply wpAny_bind; apply J3.at
  show wpAny _ _ (holding [Value.builtin "object.__class__"] (call (.builtin "getset_descriptor.__get__") [.builtin "object.__class__", .ref x, .ref D]) >>= ret) _ _ _
  apply wpAny_bind; apply wpAny_holding; apply wpAny_call; apply class_get (s := ⟨hp, g, d, t + 1, os⟩) (ox := ox) (od := od) X I hm
  apply wpAny_pure
  show wpAny _ _ (handedOut (.ref D)) _ _ _
  rw [handedOut_of (v := .ref D) rfl]
  first
    | exact wpAny_pure (wpAny_pure h)
    | exact wpAny_pure h
    | exact wpAny_pure (wpAny_bind (wpAny_pure (wpAny_pure h)))
theorem k14_cls {C : Addr} (h : (clsIn K C).isSome = true) : ∃ cc dd dt sl, K.lookup C = some ⟨cc, dd, .cls dt, sl⟩ := by
  unfold clsIn at h
  split at h
  · rename_i e; exact ⟨_, _, _, _, e⟩
  · cases h
theorem k14_kit (C : L2.ExcC K D) : KitX K (.ref x) (.ref D) (fun h => ∃ (ox : Obj) (od : Option Obj), InstAt h x ox D od) where
  ty := fun _ _ _ ⟨_, _, I⟩ => I.type
  it := fun _ _ X _ => by
    obtain ⟨cd, hcd, _⟩ := any_some C.hd
    obtain ⟨cc, dd, dt, sl, ho⟩ := k14_cls (K := K) (C := D) (by rw [hcd]; rfl)
    intro A' Q' E' s' k q
    unfold isType loadHead
    exact wpAny_bind (wpAny_loadPart (k _ _ (X _ _ ho)) (wpAny_pure q))
  ne := fun h tp dd its n sl X htp => by
    obtain ⟨cd, hcd, _⟩ := any_some C.hd
    obtain ⟨cc, dd', dt, sl', ho⟩ := k14_cls (K := K) (C := D) (by rw [hcd]; rfl)
    by_cases e : D = tp
    · subst e
      have z := (X _ _ ho).symm.trans htp
      cases z
    · exact beq_eq_false_iff_ne.mpr fun q => e (Value.ref.inj q)
  ca := fun X ⟨_, _, I⟩ k => k14_class C X I k
end
end PySem.W
namespace L2
open PySem PySem.Spec PyProof.Rows
/-! ### f(k = v) in a try -/
section
variable {X : Cx} {CX : CXT} {k : Nat} {f : Addr} {fd : FuncData} {kn : Str} {sp : Sp} {E : St → XK} {x : Str} {p pos kpos : Pos} {e : Expr} {te : TE}
def tKw1 (sp : Sp) (E : St → XK) (te : TE) : TE := fun σ H Q => tCons te tNil σ H fun vs H1 => vs.length = 1 ∧ sp vs H1 Q (E σ)
theorem pe_callKw1 (F : FnOk X.prog X.w X.K X.mg X.base CX k f fd [kn] sp) (hr : Room k X.A) (hg : Gl X x) (hm : X.mg x = some (.ref f)) (hk : PySem.W.keepIn X.K (.ref f) = true)
    (hb : ∀ (s : Shared) (u : Value), BindsTo s fd ⟨[], [(kn, u)]⟩ [(kn, u)]) (hx : ∀ σ, PassesAt CX X σ (E σ)) (he : PE X e te)
    (hall : (backToKw pos (keywordEach [⟨some kn, e, kpos⟩] X.env)).all (·.1.isSome) = true := by rfl) (hks : (backToKw pos (keywordEach [⟨some kn, e, kpos⟩] X.env)).filterMap (·.1) = [kn] := by rfl)
    (hdb : (x == ("__debug__" : Str)) = false := by decide) (hpl : ((backTo pos (starEach [] X.env)).any (·.1) || (backToKw pos (keywordEach [⟨some kn, e, kpos⟩] X.env)).any (·.1.isNone)) = false := by rfl) :
    PE X (.Call (.Name x p) [] [⟨some kn, e, kpos⟩] pos) (tKw1 sp E te) := ⟨by
  intro pins s σ H Q I h
  have pk : PK X [⟨some kn, e, kpos⟩] (tCons te tNil) := pk_cons he pk_nil
  apply wpAny_Call_Name_kw
  apply ld_glob I hg hm _ hdb
  apply PySem.W.callWith_KW0 (h₀ := X.base) I.ok.mod.kin hk hall _ hpl
  apply thn (pk.run pos pins s σ H _ I h)
  rintro ws s2 ⟨zs, H2, I2, rz, hl, q2⟩
  refine ⟨I2.kIn, ?_⟩
  rw [hks]
  obtain ⟨v, rfl⟩ : ∃ v, zs = [v] := List.length_eq_one_iff.mp hl
  obtain ⟨u, rfl, ru⟩ := vals1 rz
  apply wpAny_call
  apply codeAny_mono (F.run X.A X.stack s2 H2 ⟨[], [(kn, u)]⟩ [u] [v] Q (E σ) hr I2.env0 (hb s2 u) rz q2)
  intro r s' hq
  match r, hq with
  | .error er, hq => exact hx σ pins H2 s2 er s' I2 hq
  | .ok (.ret _), hq => exact I2.after hq
  | .ok .next, hq => exact hq.elim
  | .ok .brk, hq => exact hq.elim
  | .ok .cont, hq => exact hq.elim⟩
end
/-! ### isinstance(e, c), isinstance(e, (c, ..)), e the error that the suite holds -/
def rIsX (K : PySem.W.Frag) (a : Addr) (cls : Value) (d : Option Addr) : List V → Hp → VK → Prop := fun xs H Q => ∃ (D dd : Addr) (fs : List (Str × V)) (c : V) (cv : Value) (b : Bool),
  cls = .ref D ∧ d = some dd ∧ ExcC K D ∧ H dd = some (.xd fs) ∧ xs = [.ref a, c] ∧ ClsV c cv ∧ PySem.W.kitOne K (.ref D) cv = some b ∧ Q (.bl b) H
def rIsXT (K : PySem.W.Frag) (a : Addr) (cls : Value) (d : Option Addr) : List V → Hp → VK → Prop := fun xs H Q => ∃ (D dd tp : Addr) (fs : List (Str × V)) (cs : List V) (us : List Value) (b : Bool),
  cls = .ref D ∧ d = some dd ∧ ExcC K D ∧ H dd = some (.xd fs) ∧ xs = [.ref a, .ref tp] ∧ H tp = some (.tup cs) ∧ Paired ClsV cs us ∧ PySem.W.kitAny K (.ref D) us = some b ∧ Q (.bl b) H
section
variable {X : Cx} {a : Addr} {oe : Obj} {cls : Value} {d : Option Addr} {pn : List (Addr × Obj)}
theorem suite_inst {pins : List (Addr × Obj)} {σ : St} {H : Hp} {s : Shared} {D dd : Addr} {fs : List (Str × V)} (hz : Zc (.ref D) (some dd) oe) (hf : ∃ vs, oe.data = .fields vs) (I : Inv (X.suite a ((a, oe) :: pn)) pins σ H s) (hd : H dd = some (.xd fs)) :
    ∃ od, PySem.W.InstAt s.heap a oe D (some od) := by
  obtain ⟨hget, _⟩ := I.pin (a, oe) (List.mem_append_left _ List.mem_cons_self)
  obtain ⟨vs, hv⟩ := hf
  obtain ⟨mA, hns, _⟩ := (show ObjOk X.prog X.w H s.heap dd (.xd fs) from I.hok dd _ hd)
  obtain ⟨od, ho, _⟩ := lookIn_ns hns
  exact ⟨od, hget, hz.1, by unfold PySem.W.notCls; rw [hv] <;> rfl, by rw [hz.2]; exact ho⟩
theorem call_isX (hz : Zc cls d oe) (hf : ∃ vs, oe.data = .fields vs) : CallR (X.suite a ((a, oe) :: pn)) (.builtin "isinstance") (rIsX X.K a cls d) := by
  rintro pins s σ H xs us Q I r ⟨D, dd, fs, c, cv, b, rfl, rfl, C, hd, rfl, k, e, q⟩
  obtain ⟨u1, u2, rfl, r1, r2⟩ := vals2 r
  obtain rfl : u1 = Value.ref a := r1
  have ec := k.eq r2
  subst ec
  obtain ⟨od, J⟩ := suite_inst hz hf I hd
  exact PySem.W.kia_one (PySem.W.k14_kit C) I.kIn ⟨oe, some od, J⟩ e (fun z => nomatch z) fun tk => ⟨.bl b, H, I.tok tk, rfl, q⟩
theorem call_isXT (hz : Zc cls d oe) (hf : ∃ vs, oe.data = .fields vs) : CallR (X.suite a ((a, oe) :: pn)) (.builtin "isinstance") (rIsXT X.K a cls d) := by
  rintro pins s σ H xs us Q I r ⟨D, dd, tp, fs, cs, ws, b, rfl, rfl, C, hd, rfl, hT, k, e, q⟩
  obtain ⟨u1, u2, rfl, r1, r2⟩ := vals2 r
  obtain rfl : u1 = Value.ref a := r1
  obtain rfl : u2 = Value.ref tp := r2
  obtain ⟨od, J⟩ := suite_inst hz hf I hd
  obtain ⟨_, its, rv, o, h1, h2, n, h3⟩ := (show ObjOk X.prog X.w H s.heap tp (.tup cs) from I.hok tp _ hT)
  have e3 := ClsV.all k rv
  subst e3
  obtain ⟨oc, od', dt, sl⟩ := o
  dsimp only at h2 h3
  subst h2 h3
  exact PySem.W.kia_tup (PySem.W.k14_kit C) I.kIn ⟨oe, some od, J⟩ h1 e (fun z => nomatch z) fun tk => ⟨.bl b, H, I.tok tk, rfl, q⟩
end
end L2
namespace K13
open PySem L2
section
variable {P : Program} {w : World} {K : PySem.W.Frag} {mg : Str → Option Value} {base : Heap}
abbrev sInitT : Stmt := inClass (top 4) 0
structure IT (K : PySem.W.Frag) (mg : Str → Option Value) (C fI : Addr) (fd : FuncData) : Prop where
  o : OexC K C
  iC : PySem.W.findIn K (.ref C) "__init__" = some (some (.ref fI))
  tI : PySem.W.typeIn K (.ref fI) = some (.type "function")
  n1 : PySem.W.findIn K (.ref C) "value" = some none
  n2 : PySem.W.findIn K (.ref C) "_told" = some none
  m : mg "InvalidLabel" = some (.ref C)
  F : Fun K "__init__" "InvalidLabel.__init__" sInitT fI fd
  b : Binds K fd ["self", "value"] []
def spInitT (C : Addr) : Sp := fun vs H Q _ => ∃ (a : Addr) (v : V), vs = [.ref a, v] ∧ H a = some (exo a C none) ∧
  ∀ (H' : Hp) (d t : Addr), H d = none → d ≠ a → H' a = some (exo a C (some d)) → H' d = some (exd d [("_told", .ref t), ("value", v)]) → (∀ b o, b ≠ a → H b = some o → H' b = some o) → Q .non H'
theorem scInT : FnScope ["self", "value"] ["self", "value"] (defScope sInitT) := ⟨rfl, rfl, rfl, by decide +kernel, rfl, by decide +kernel, by decide +kernel⟩
theorem ok_initT {C f : Addr} {fd : FuncData} (T : IT K mg C f fd) : FnOk P w K mg base CX0 1 f fd ["self", "value"] (spInitT C) := by
  refine T.F.ok scInT (fun vs H Q E h => ?_) (fun cdv A outer_ s H vs Q E hr h => ?_)
  · obtain ⟨a, v, rfl, _⟩ := h
    rfl
  · obtain ⟨a, v, rfl, he, k⟩ := h
    refine ⟨_, pss_cons (ps_ost (pv 0) (pv 1)) (pss_one (ps_ost (pv 0) (pe_tup (pa_cons (pv 1) pa_nil)))), ?_⟩
    refine ⟨_, rfl, _, rfl, a, C, rfl, T.o, T.n1, .inl ⟨he, fun d hd hne => ?_⟩⟩
    refine ⟨_, rfl, (by show 1 ≤ sizeLine; decide), fun t ht => ?_⟩
    have nt : t ≠ a := fun e => by rw [e, upd_same] at ht; cases ht
    have nd : t ≠ d := fun e => by rw [e, upd_ne hne, upd_same] at ht; cases ht
    refine ⟨_, rfl, a, C, rfl, T.o, T.n2, .inr ⟨d, [("value", v)], ?_, ?_, (show 1 ≤ 900 by decide), ?_⟩⟩
    · rw [upd_ne (Ne.symm nt), upd_same]
    · rw [upd_ne (Ne.symm nd), upd_ne hne, upd_same]
    · refine k _ d t hd hne ?_ upd_same fun b o hb e => ?_
      · rw [upd_ne (Ne.symm hne), upd_ne (Ne.symm nt), upd_same]
      · have n1 : b ≠ d := ne_of_none e hd
        have n2 : b ≠ t := fun z => by
          rw [upd_ne nt, upd_ne nd] at ht
          rw [z, ht] at e
          cases e
        rw [upd_ne n1, upd_ne n2, upd_ne hb, upd_ne n1]
        exact e
abbrev sInitK : Stmt := inClass (top 3) 0
structure IK (K : PySem.W.Frag) (mg : Str → Option Value) (C fI : Addr) (fd : FuncData) : Prop where
  o : OexC K C
  iC : PySem.W.findIn K (.ref C) "__init__" = some (some (.ref fI))
  tI : PySem.W.typeIn K (.ref fI) = some (.type "function")
  n1 : PySem.W.findIn K (.ref C) "value" = some none
  n2 : PySem.W.findIn K (.ref C) "_told" = some none
  m : mg "InvalidName" = some (.ref C)
  F : Fun K "__init__" "InvalidName.__init__" sInitK fI fd
  b : Binds K fd ["self", "value"] []
def spInitK (C : Addr) : Sp := fun vs H Q _ => ∃ (a : Addr) (v : V), vs = [.ref a, v] ∧ H a = some (exo a C none) ∧
  ∀ (H' : Hp) (d t : Addr), H d = none → d ≠ a → H' a = some (exo a C (some d)) → H' d = some (exd d [("_told", .ref t), ("value", v)]) → (∀ b o, b ≠ a → H b = some o → H' b = some o) → Q .non H'
theorem scInK : FnScope ["self", "value"] ["self", "value"] (defScope sInitK) := ⟨rfl, rfl, rfl, by decide +kernel, rfl, by decide +kernel, by decide +kernel⟩
theorem ok_initK {C f : Addr} {fd : FuncData} (T : IK K mg C f fd) : FnOk P w K mg base CX0 1 f fd ["self", "value"] (spInitK C) := by
  refine T.F.ok scInK (fun vs H Q E h => ?_) (fun cdv A outer_ s H vs Q E hr h => ?_)
  · obtain ⟨a, v, rfl, _⟩ := h
    rfl
  · obtain ⟨a, v, rfl, he, k⟩ := h
    refine ⟨_, pss_cons (ps_ost (pv 0) (pv 1)) (pss_one (ps_ost (pv 0) (pe_tup (pa_cons (pv 1) pa_nil)))), ?_⟩
    refine ⟨_, rfl, _, rfl, a, C, rfl, T.o, T.n1, .inl ⟨he, fun d hd hne => ?_⟩⟩
    refine ⟨_, rfl, (by show 1 ≤ sizeLine; decide), fun t ht => ?_⟩
    have nt : t ≠ a := fun e => by rw [e, upd_same] at ht; cases ht
    have nd : t ≠ d := fun e => by rw [e, upd_ne hne, upd_same] at ht; cases ht
    refine ⟨_, rfl, a, C, rfl, T.o, T.n2, .inr ⟨d, [("value", v)], ?_, ?_, (show 1 ≤ 900 by decide), ?_⟩⟩
    · rw [upd_ne (Ne.symm nt), upd_same]
    · rw [upd_ne (Ne.symm nd), upd_ne hne, upd_same]
    · refine k _ d t hd hne ?_ upd_same fun b o hb e => ?_
      · rw [upd_ne (Ne.symm hne), upd_ne (Ne.symm nt), upd_same]
      · have n1 : b ≠ d := ne_of_none e hd
        have n2 : b ≠ t := fun z => by
          rw [upd_ne nt, upd_ne nd] at ht
          rw [z, ht] at e
          cases e
        rw [upd_ne n1, upd_ne n2, upd_ne hb, upd_ne n1]
        exact e
/-- the error leaves, with this one in its field -/
def Bad (fld : Str) (C : Addr) (H : Hp) (v : V) (E : XK) : Prop := ∀ (H' : Hp) (d : Addr) (fs : List (Str × V)), Same H H' → H d = none → H' d = some (.xd fs) → List.lookup fld fs = some v → E (.ref C) (some d) H'
theorem bad_of {fld : Str} {C : Addr} {H H0 : Hp} {v : V} {E : XK} (s : Same H H0) (b : Bad fld C H v E) : Bad fld C H0 v E := fun H' d fs s' hd e1 e2 => b H' d fs (s.trans s') (s.free hd) e1 e2
theorem mkK {C : Addr} {E : XK} (H0 : Hp) (v : V) (hb : Bad "value" C H0 v E) : 1 ≤ 1000 ∧ ∀ a, H0 a = none → spInitK C (.ref a :: ([v] ++ [])) (upd H0 a (exo a C none))
    (fun u H2 => u = .non ∧ ∃ (d : Addr) (fs : List (Str × V)), H2 a = some (exo a C (some d)) ∧ H2 d = some (exd d fs) ∧ H0 d = none ∧ E (.ref C) (some d) (upd (del H2 a) d (.xd fs))) (fun _ _ _ => False) := by
  refine ⟨by decide, fun a ha => ⟨a, v, rfl, upd_same, fun H2 d t hd hne he1 he2 hs => ⟨rfl, d, _, he1, he2, ?_, ?_⟩⟩⟩
  · rw [upd_ne hne] at hd
    exact hd
  · refine hb _ d [("_told", .ref t), ("value", v)] (fun b o e => ?_) (by rw [upd_ne hne] at hd; exact hd) upd_same (by rfl)
    have nb : b ≠ a := ne_of_none e ha
    have nd : b ≠ d := fun z => by
      rw [z] at e
      rw [upd_ne hne, e] at hd
      cases hd
    rw [upd_ne nd, del_ne nb]
    exact hs b o nb (by rw [upd_ne nb]; exact e)
theorem mkT {C : Addr} {E : XK} (H0 : Hp) (v : V) (hb : Bad "value" C H0 v E) : 1 ≤ 1000 ∧ ∀ a, H0 a = none → spInitT C (.ref a :: ([v] ++ [])) (upd H0 a (exo a C none))
    (fun u H2 => u = .non ∧ ∃ (d : Addr) (fs : List (Str × V)), H2 a = some (exo a C (some d)) ∧ H2 d = some (exd d fs) ∧ H0 d = none ∧ E (.ref C) (some d) (upd (del H2 a) d (.xd fs))) (fun _ _ _ => False) := by
  refine ⟨by decide, fun a ha => ⟨a, v, rfl, upd_same, fun H2 d t hd hne he1 he2 hs => ⟨rfl, d, _, he1, he2, ?_, ?_⟩⟩⟩
  · rw [upd_ne hne] at hd
    exact hd
  · refine hb _ d [("_told", .ref t), ("value", v)] (fun b o e => ?_) (by rw [upd_ne hne] at hd; exact hd) upd_same (by rfl)
    have nb : b ≠ a := ne_of_none e ha
    have nd : b ≠ d := fun z => by
      rw [z] at e
      rw [upd_ne hne, e] at hd
      cases hd
    rw [upd_ne nd, del_ne nb]
    exact hs b o nb (by rw [upd_ne nb]; exact e)
end
end K13
namespace K13
open PySem L2
section
variable {P : Program} {w : World} {K : PySem.W.Frag} {mg : Str → Option Value} {base : Heap}
/-! ### TooMany -/
abbrev sInitM : Stmt := inClass (top 6) 0
structure IM (K : PySem.W.Frag) (mg : Str → Option Value) (C fI : Addr) (fd : FuncData) : Prop where
  o : AEx.AeC K C
  iC : PySem.W.findIn K (.ref C) "__init__" = some (some (.ref fI))
  tI : PySem.W.typeIn K (.ref fI) = some (.type "function")
  t1 : PySem.W.takerIn K C "kind" = some none
  t2 : PySem.W.takerIn K C "limit" = some none
  t3 : PySem.W.takerIn K C "_told" = some none
  m : mg "TooMany" = some (.ref C)
  F : Fun K "__init__" "TooMany.__init__" sInitM fI fd
  b : Binds K fd ["self", "kind", "limit"] []
def spInitM (C : Addr) : Sp := fun vs H Q _ => ∃ (a : Addr) (u v : V), vs = [.ref a, u, v] ∧ H a = some (exo a C none) ∧
  ∀ (H' : Hp) (d t : Addr), H d = none → d ≠ a → H' a = some (exo a C (some d)) → H' d = some (exd d [("_told", .ref t), ("limit", v), ("kind", u)]) → (∀ b o, b ≠ a → H b = some o → H' b = some o) → Q .non H'
theorem scInM : FnScope ["self", "kind", "limit"] ["self", "kind", "limit"] (defScope sInitM) := ⟨rfl, rfl, rfl, by decide +kernel, rfl, by decide +kernel, by decide +kernel⟩
theorem ok_initM {C f : Addr} {fd : FuncData} (T : IM K mg C f fd) : FnOk P w K mg base CX0 1 f fd ["self", "kind", "limit"] (spInitM C) := by
  refine T.F.ok scInM (fun vs H Q E h => ?_) (fun cdv A outer_ s H vs Q E hr h => ?_)
  · obtain ⟨a, u, v, rfl, _⟩ := h
    rfl
  · obtain ⟨a, u, v, rfl, he, k⟩ := h
    refine ⟨_, pss_cons (AEx.ps_put (pv 0) (pv 1)) (pss_cons (AEx.ps_put (pv 0) (pv 2)) (pss_one (AEx.ps_put (pv 0) (pe_tup (pa_cons (pv 1) (pa_cons (pv 2) pa_nil)))))), ?_⟩
    refine ⟨_, rfl, _, rfl, a, C, rfl, T.o, T.t1, .inl ⟨he, fun d hd hne => ?_⟩⟩
    have ea : (upd (upd H d (exd d [("kind", u)])) a (exo a C (some d))) a = some (exo a C (some d)) := upd_same
    have ed : (upd (upd H d (exd d [("kind", u)])) a (exo a C (some d))) d = some (exd d [("kind", u)]) := by rw [upd_ne hne, upd_same]
    have kp : ∀ b o, b ≠ a → H b = some o → (upd (upd H d (exd d [("kind", u)])) a (exo a C (some d))) b = some o := fun b o nb e => by rw [upd_ne nb, upd_ne (ne_of_none e hd)]; exact e
    revert ea ed kp
    generalize upd (upd H d (exd d [("kind", u)])) a (exo a C (some d)) = H1
    intro ea ed kp
    refine ⟨_, rfl, _, rfl, a, C, rfl, T.o, T.t2, .inr ⟨d, [("kind", u)], (show 1 ≤ 900 by decide), ea, ed, ?_⟩⟩
    refine ⟨_, rfl, _, rfl, (by show 2 ≤ sizeLine; decide), fun t ht => ?_⟩
    have na : t ≠ a := fun e => by rw [e, upd_ne (Ne.symm hne), ea] at ht; cases ht
    have nt : t ≠ d := fun e => by rw [e, upd_same] at ht; cases ht
    refine ⟨_, rfl, a, C, rfl, T.o, T.t3, .inr ⟨d, [("limit", v), ("kind", u)], (show 2 ≤ 900 by decide), ?_, ?_, ?_⟩⟩
    · rw [upd_ne (Ne.symm na), upd_ne (Ne.symm hne)]
      exact ea
    · rw [upd_ne (Ne.symm nt), upd_same]
    · refine k _ d t hd hne ?_ upd_same fun b o nb e => ?_
      · rw [upd_ne (Ne.symm hne), upd_ne (Ne.symm na), upd_ne (Ne.symm hne)]
        exact ea
      · have n1 : b ≠ d := ne_of_none e hd
        have n2 : b ≠ t := fun z => by
          rw [upd_ne nt] at ht
          rw [z] at e
          rw [kp _ _ (z ▸ nb) e] at ht
          cases ht
        rw [upd_ne n1, upd_ne n2, upd_ne n1]
        exact kp b o nb e
/-- the error leaves, with these two in its fields -/
def BadM (C : Addr) (H : Hp) (u v : V) (E : XK) : Prop := ∀ (H' : Hp) (d : Addr) (fs : List (Str × V)), Same H H' → H d = none → H' d = some (.xd fs) → List.lookup ("kind" : Str) fs = some u → List.lookup ("limit" : Str) fs = some v → E (.ref C) (some d) H'
theorem badM_of {C : Addr} {H H0 : Hp} {u v : V} {E : XK} (s : Same H H0) (b : BadM C H u v E) : BadM C H0 u v E := fun H' d fs s' hd e1 e2 e3 => b H' d fs (s.trans s') (s.free hd) e1 e2 e3
theorem mkM {C : Addr} {E : XK} (H0 : Hp) (u v : V) (hb : BadM C H0 u v E) : 2 ≤ 1000 ∧ ∀ a, H0 a = none → spInitM C (.ref a :: ([u, v] ++ [])) (upd H0 a (exo a C none))
    (fun r H2 => r = .non ∧ ∃ (d : Addr) (fs : List (Str × V)), H2 a = some (exo a C (some d)) ∧ H2 d = some (exd d fs) ∧ H0 d = none ∧ E (.ref C) (some d) (upd (del H2 a) d (.xd fs))) (fun _ _ _ => False) := by
  refine ⟨by decide, fun a ha => ⟨a, u, v, rfl, upd_same, fun H2 d t hd hne he1 he2 hs => ⟨rfl, d, _, he1, he2, ?_, ?_⟩⟩⟩
  · rw [upd_ne hne] at hd
    exact hd
  · refine hb _ d [("_told", .ref t), ("limit", v), ("kind", u)] (fun b o e => ?_) (by rw [upd_ne hne] at hd; exact hd) upd_same (by rfl) (by rfl)
    have nb : b ≠ a := ne_of_none e ha
    have nd : b ≠ d := fun z => by
      rw [z] at e
      rw [upd_ne hne, e] at hd
      cases hd
    rw [upd_ne nd, del_ne nb]
    exact hs b o nb (by rw [upd_ne nb]; exact e)
end
end K13
namespace K13
open PySem L2 SR
/-! ### Label -/
abbrev sInit : Stmt := inClass (top 14) 1
theorem scInit : FnScope ["self", "marks", "mark", "different"] ((["self"] : List Str) ++ [("marks" : Str)]) (defScope sInit) := ⟨rfl, rfl, rfl, by decide +kernel, rfl, by decide +kernel, by decide +kernel⟩
def plus : Str := "+"
def ltext (ys : List Str) : Str := if (Txt.join plus ys).length = 0 then "-" else Txt.join plus ys
def isNm (x : Str) : Bool := nmC x.cps.toList
theorem putF2 (u v : V) : putF "_text" v (putF "_marks" u []) = ([(("_marks" : Str), u), (("_text" : Str), v)] : List (Str × V)) := if_neg (by decide +kernel)
theorem join_is (sep : Str) (ts : List Str) : Txt.join sep ts = Str.join sep ts := StrLaws.glued_eq_join _ _
theorem isNm_len {x : Str} (h : isNm x = true) : x.cps.toList.length ≤ 8 := of_decide_eq_true (Bool.and_eq_true_iff.mp h).1
theorem isNm_str {x : Str} (h : isNm x = true) : x.length ≤ 8 := by
  rw [txt_of x, txt_len]
  exact isNm_len h
theorem lens_of {ys : List Str} (h : ∀ y ∈ ys, isNm y = true) : (ys.map (·.length)).sum ≤ 8 * ys.length := by
  induction ys with
  | nil => exact Nat.le_refl _
  | cons y r ih =>
    have a := isNm_str (h y List.mem_cons_self)
    have b := ih fun z hz => h z (List.mem_cons_of_mem _ hz)
    rw [List.map_cons, List.sum_cons, List.length_cons]
    omega
theorem plus_len : plus.length = 1 := by decide +kernel
theorem jlen {ys : List Str} (h : ∀ y ∈ ys, isNm y = true) : (Txt.join plus ys).length ≤ 9 * ys.length := by
  rw [join_is]
  have a := StrLaws.join_length_le plus ys
  rw [plus_len] at a
  have b := lens_of h
  omega
abbrev bad (v : V) : Bool := !nameV v
theorem find_first {xs : List V} {i : Nat} {v : V} (h : xs[i]? = some v) (good : (xs.take i).all nameV = true) (b : nameV v = false) : xs.find? bad = some v := by
  have hi : i < xs.length := (List.getElem?_eq_some_iff.mp h).1
  have hv : xs[i] = v := (List.getElem?_eq_some_iff.mp h).2
  have e : xs = xs.take i ++ v :: xs.drop (i + 1) := by
    rw [← hv, ← List.drop_eq_getElem_cons hi, List.take_append_drop]
  rw [e, List.find?_append, List.find?_eq_none.mpr fun u hu => by simp [bad, List.all_eq_true.mp good u hu]]
  simp [bad, b]
theorem all_names : ∀ {xs : List V}, xs.all nameV = true → ∃ ts : List Str, xs = ts.map V.str ∧ ts.all isNm = true
  | [], _ => ⟨[], rfl, rfl⟩
  | v :: r, h => by
    rw [List.all_cons, Bool.and_eq_true] at h
    obtain ⟨ts, e, q⟩ := all_names h.2
    cases v with
    | str x => exact ⟨x :: ts, by rw [e]; rfl, by rw [List.all_cons, q, Bool.and_true]; exact h.1⟩
    | _ => cases h.1
/-- the class Label at C; InvalidName at CN, TooMany at CM -/
structure LabC (K : PySem.W.Frag) (mg : Str → Option Value) (C f CN fN CM fM : Addr) (fd dN dM : FuncData) : Prop where
  mkr : Mk K C f
  cl : Cls K C
  m : mg "Label" = some (.ref C)
  rd : ∃ mc tk, ClX.CRead K C mc ∧ ClX.CVal K C mc "MOST" (.int 4) (.int 4 tk)
  n1 : NoAttr K C "_marks"
  n2 : NoAttr K C "_text"
  F : Fun K "__init__" "Label.__init__" sInit f fd
  N : IK K mg CN fN dN
  M : IM K mg CM fM dM
section
variable {P : Program} {w : World} {K : PySem.W.Frag} {mg : Str → Option Value} {base : Heap}
def spInit (K : PySem.W.Frag) (C CN CM : Addr) : Sp := fun vs H Q E => ∃ (x dx p : Addr) (xs : List V), vs = [.ref x, .ref p] ∧ H x = some (.ins C dx []) ∧ H p = some (.tup xs) ∧ xs.length < 60 ∧ (∀ v ∈ xs, Cl K H v) ∧
  (∀ v, xs.find? bad = some v → Bad "value" CN H v E) ∧ ∀ ts ys, xs = ts.map V.str → ts.all isNm = true → Srt ts ys → (4 < ys.length → BadM CM H (.str "marks") (.int 4) E) ∧
  (ys.length ≤ 4 → ∀ H' t, (∀ b o, b ≠ x → H b = some o → H' b = some o) → H' x = some (.ins C dx [("_marks", .ref t), ("_text", .str (ltext ys))]) → H' t = some (.tup (ys.map V.str)) → Q .non H')
theorem Cl.same {H H' : Hp} {v : V} (h : Cl K H v) (s : ∀ a t, v = .ref a → TyX K H (.ref a) t → TyX K H' (.ref a) t) : Cl K H' v := by
  cases h with
  | non => exact .non
  | bl b => exact .bl b
  | int i => exact .int i
  | str l q => exact .str l q
  | oth t a b c => exact .oth (s _ _ rfl t) a b c
theorem tyx_same {H H' : Hp} {v : V} {t : Value} (h : TyX K H v t) (s : Same H H') : TyX K H' v t := by
  cases h with
  | base h =>
    cases h with
    | lst e => exact .base (.lst (s _ _ e))
    | tup e => exact .base (.tup (s _ _ e))
    | dK e => exact .base (.dK (s _ _ e))
    | dT e => exact .base (.dT (s _ _ e))
    | frz e => exact .base (.frz (s _ _ e))
    | ins e c a n tk m => exact .base (.ins (s _ _ e) c a n tk m)
    | non => exact .base .non
    | bl b => exact .base (.bl b)
    | int i => exact .base (.int i)
    | str x => exact .base (.str x)
    | flt x => exact .base (.flt x)
  | byt b => exact .byt b
  | set e => exact .set (s _ _ e)
  | kList e c => exact .kList e c
  | kTuple e c => exact .kTuple e c
  | kDict e c => exact .kDict e c
  | fTuple e => exact .fTuple (s _ _ e)
  | fDict e => exact .fDict (s _ _ e)
theorem ok_init {C f CN fN CM fM fI : Addr} {fd dN dM dI : FuncData} {tk t2 : Tok} (L : LabC K mg C f CN fN CM fM fd dN dM) (Z : Zn mg) (zT : mg "tuple" = none) (zS : mg "set" = none) (zO : mg "sorted" = none) (mM : mg "MOST_LETTERS" = some (.int 8 tk)) (mL : mg "LETTERS" = some (.str "abcdefghijklmnopqrstuvwxyz" t2))
    (AN : At K mg "is_name" sIsName ["value"] fI dI) : FnR P w K mg base (L2.CX P w) 3 f (fun vs H Q E => ∃ ws rest, vs = ws ++ rest ∧ ws.length = ([("self" : Str)]).length ∧ rest.length ≤ sizeLine ∧ ∀ p, H p = Option.none → spInit K C CN CM (ws ++ [V.ref p]) (upd H p (.tup rest)) Q E) := by
  have GN : FnOk P w K mg base CX0 1 fI dI ["value"] (spName K) := ok_name AN.F Z mM mL
  have GK : FnOk P w K mg base CX0 1 fN dN ["self", "value"] (spInitK CN) := ok_initK L.N
  have GM : FnOk P w K mg base CX0 1 fM dM ["self", "kind", "limit"] (spInitM CM) := ok_initM L.M
  obtain ⟨oc, od, kV, doc, pm, an, cdv, ct, osl, rfl, lk, hcd⟩ := L.F.ex
  obtain ⟨mc, tc, rd, cv⟩ := L.rd
  refine StX.fn_star lk hcd scInit StX.cxUp (StX.bind_star1 (B := fun us => bindArgs (PySem.W.fnOf "__init__" "Label.__init__" (defArgs sInit) (defBody sInit) (defScope sInit) .none kV doc pm an cdv ct) ⟨us, []⟩) (fun _ => rfl) (fun _ _ _ => rfl)) fun A outer_ s H vs Q E hr h => ?_
  obtain ⟨x, dx, p, xs, rfl, hx, hp, few, cls, kb, kt⟩ := h
  refine ⟨_, pss_cons (ps_for (passes_of rfl) rfl (pi_tup (pv 1)) (pg_name (i := 2) scInit.nd rfl (Or.inl rfl)) (pss_one (ps_if (pt_not (pt_val (pe_call GN (hr.mono (by decide)) (by rfl) AN.m AN.F.kp AN.b .nil pass0 (pa_cons (pv 2) pa_nil))))
      (pss_one (ps_raise rfl (takes_of rfl rfl rfl rfl) (pmk_oex L.N.o L.N.iC L.N.tI GK hr L.N.b .nil pass0 (by rfl) L.N.m (by exact (pa_cons (pv 2) pa_nil))))) pss_nil)))
    (pss_cons (ps_set (i := 3) scInit.nd rfl (Or.inl rfl) (pe_callB (LB.cr_sortBag rfl) (by rfl) zO (by decide +kernel) (pa_cons (pe_callTy (LB.cr_bag rfl) (by rfl) zS (by decide +kernel) (pa_cons (pv 1) pa_nil)) pa_nil)))
    (pss_cons (ps_if (pt_cmpR op_gt (pe_callB call_len_seq (by rfl) Z.zLen PySem.boot_len (pa_cons (pv 3) pa_nil)) (ClX.pe_cval (pe_glob (v := .ref C) rfl L.m rfl)) (nomark _))
      (pss_one (ps_raise rfl (takes_of rfl rfl rfl rfl) (AEx.pmk_ae L.M.o L.M.iC L.M.tI GM hr L.M.b pass0 (by rfl) L.M.m (by exact (pa_cons pe_str (pa_cons (ClX.pe_cval (pe_glob (v := .ref C) rfl L.m rfl)) pa_nil)))))) pss_nil)
    (pss_cons (ps_fld (pv 0) (pe_callTy call_tuple_of (by rfl) zT (by decide +kernel) (pa_cons (pv 3) pa_nil)) rfl)
    (pss_one (ps_fld (pv 0) (pe_orT (pe_join pe_str (pv 3)) (pe_one pe_str)) rfl))))), ?_⟩
  have hsl : sizeLine = 16777216 := sizeLine_eq
  refine ⟨_, rfl, p, rfl, ⟨_, SqT.of hp⟩, ?_⟩
  refine for_tup (xs := xs) (fun i σ H' => Same H H' ∧ (xs.take i).all nameV = true ∧ ∃ m, σ = [some (.ref x), some (.ref p), m, none]) ⟨Same.refl H, rfl, none, rfl⟩ (fun i σ H' _ q => SqT.of (q.1 _ _ hp)) ?_ ?_
  · rintro i v σ H' hi ⟨sm, good, m, rfl⟩
    have cl : Cl K H' v := Cl.same (cls v (List.mem_of_getElem? hi)) fun a t _ ty => tyx_same ty sm
    refine ⟨_, rfl, v, rfl, cl, fun H2 s2 => ⟨_, rfl, ?_⟩⟩
    have sm2 : Same H H2 := fun b o q => s2 _ _ (sm _ _ q)
    by_cases nm : nameV v = true
    · rw [nm]
      exact ⟨sm2, by rw [take_snoc hi, List.all_append, good, List.all_cons, nm]; rfl, some v, rfl⟩
    · have nm' : nameV v = false := by simpa using nm
      rw [nm']
      exact ⟨_, rfl, mkK H2 v (bad_of sm2 (kb v (find_first hi good nm')))⟩
  · rintro σ H1 ⟨sm, good, m, rfl⟩
    rw [List.take_of_length_le (Nat.le_refl _)] at good
    obtain ⟨ts, rfl, nms⟩ := all_names good
    have nmAt : ∀ y ∈ ts, isNm y = true := fun y hy => List.all_eq_true.mp nms y hy
    rw [List.length_map] at few
    refine ⟨_, rfl, p, ts, rfl, .inl (SqT.of (sm _ _ hp)), by omega, fun b ks hb mem nd le => ?_⟩
    refine ⟨b, ks, rfl, upd_same, by omega, fun ys d pm srt hd => ?_⟩
    have srtd : Srt ts ys := ⟨pm.nodup_iff.mpr nd, srt, fun y => pm.mem_iff.trans (mem y)⟩
    obtain ⟨k5, k4⟩ := kt ts ys rfl nms srtd
    obtain ⟨H2, eH⟩ : ∃ H2, H2 = upd (upd H1 b (LB.BagO w b ks)) d (.lst (ys.map V.str)) := ⟨_, rfl⟩
    have sm2 : Same H H2 := fun c o q => by
      rw [eH, upd_ne (ne_of_none (by rw [upd_ne (ne_of_none (sm _ _ q) hb)]; exact sm _ _ q) hd), upd_ne (ne_of_none (sm _ _ q) hb)]
      exact sm _ _ q
    have hL : H2 d = some (.lst (ys.map V.str)) := by rw [eH, upd_same]
    suffices z : ∀ F : Hp → Prop, F H2 → F (upd (upd H1 b (LB.BagO w b ks)) d (.lst (ys.map V.str))) by
      refine z _ ?_
      clear z
      clear eH
      dsimp only
      refine ⟨_, rfl, d, _, rfl, .inl (SqL.of hL), C, mc, _, _, rfl, rd, cv, _, _, rfl, rfl, _, rfl, ?_⟩
      rw [List.length_map]
      show if decide ((4 : Int) < (ys.length : Int)) = true then _ else _
      refine ite2 (fun h5 => ?_) (fun h5 => ?_)
      · have l5 : 4 < ys.length := by have := of_decide_eq_true h5; omega
        refine ⟨C, mc, _, _, rfl, rd, cv, ?_⟩
        exact mkM H2 _ _ (badM_of sm2 (k5 l5))
      have l4 : ys.length ≤ 4 := by
        have : ¬ ((4 : Int) < (ys.length : Int)) := fun z => h5 (decide_eq_true z)
        omega
      refine ⟨_, rfl, d, _, rfl, .inl ⟨SqL.of hL, fun t ht => ?_⟩⟩
      have hx2 := sm2 _ _ hx
      have nx : x ≠ t := ne_of_none hx2 ht
      have nd2 : d ≠ t := ne_of_none hL ht
      have xd : d ≠ x := ne_of hL hx2 (by intro z; cases z)
      refine ⟨_, rfl, x, C, dx, [], rfl, by rw [upd_ne nx]; exact hx2, L.cl, L.n1, by decide, ?_⟩
      have hL3 : (upd (upd H2 t (.tup (ys.map V.str))) x (.ins C dx (putF "_marks" (.ref t) []))) d = some (.lst (ys.map V.str)) := by
        rw [upd_ne xd, upd_ne nd2]
        exact hL
      have nmY : ∀ y ∈ ys, isNm y = true := fun y hy => nmAt y ((srtd.2.2 y).mp hy)
      have lens : (ys.map (·.length)).sum + ys.length * plus.length ≤ 16777216 := by
        have a := lens_of nmY
        rw [plus_len]
        omega
      have jl : (Txt.join plus ys).length ≤ 16777216 := by
        have := jlen nmY
        omega
      refine ⟨⟨_, rfl⟩, _, rfl, plus, d, ys, rfl, rfl, .inl (SqL.of hL3), lens, ?_⟩
      refine ⟨_, ⟨by rw [hsl]; exact jl, rfl⟩, ?_⟩
      have fin : ∀ z : Str, z = ltext ys → Q .non (upd (upd (upd H2 t (.tup (ys.map V.str))) x (.ins C dx (putF "_marks" (.ref t) []))) x (.ins C dx (putF "_text" (.str z) (putF "_marks" (.ref t) [])))) := fun z hz => by
        subst hz
        refine k4 l4 _ t (fun c o nc q => ?_) ?_ ?_
        · rw [upd_ne nc, upd_ne nc, upd_ne (ne_of_none (sm2 _ _ q) ht)]
          exact sm2 _ _ q
        · rw [upd_same, putF2]
        · rw [upd_ne (Ne.symm nx), upd_ne (Ne.symm nx), upd_same]
      refine ite2 (fun h => ?_) (fun h => ?_)
      · refine ⟨_, rfl, x, C, dx, _, rfl, upd_same, L.cl, L.n2, (by show 1 < 1000; decide), fin _ (if_neg fun z => ?_).symm⟩
        rw [z] at h
        cases h
      · refine ⟨_, rfl, x, C, dx, _, rfl, upd_same, L.cl, L.n2, (by show 1 < 1000; decide), fin _ (if_pos ?_).symm⟩
        have h2 : ((Txt.join plus ys).length : Int) = 0 := by simpa using h
        omega
    intro F h; rw [← eH]; exact h
end
end K13
namespace K13
open PySem L2 SR
/-! ### what a label is, and its methods -/
theorem low_lt {c : Nat} (h : low c = true) : c < 128 := by
  unfold low at h
  have := of_decide_eq_true (Bool.and_eq_true_iff.mp h).2
  omega
theorem nm_asc {l : Tx} (h : nmC l = true) : asc l := fun c hc => by
  unfold nmC at h
  have h2 := (Bool.and_eq_true_iff.mp (Bool.and_eq_true_iff.mp h).2).2
  exact low_lt (List.all_eq_true.mp h2 c hc)
theorem nms_is (ts : List Tx) : (ts.map txt).all isNm = ts.all nmC := by
  rw [List.all_map]
  rfl
theorem tx_of (xs : List Str) : ∃ ts : List Tx, xs = ts.map txt := ⟨xs.map fun x => x.cps.toList, by
  rw [List.map_map]
  have : (txt ∘ fun x : Str => x.cps.toList) = id := by funext x; exact (txt_of x).symm
  rw [this, List.map_id]⟩
abbrev sGetM : Stmt := inClass (top 14) 3
abbrev sHas : Stmt := inClass (top 14) 8
abbrev sEq : Stmt := inClass (top 14) 9
abbrev sLen : Stmt := inClass (top 14) 10
abbrev sStr : Stmt := inClass (top 14) 11
abbrev sRepr : Stmt := inClass (top 14) 12
def Lb (C : Addr) (H : Hp) (a : Addr) (ys : List Str) : Prop := ys.all isNm = true ∧ ys.length ≤ 4 ∧ Srt ys ys ∧ ∃ dx t, H a = some (.ins C dx [(("_marks" : Str), .ref t), (("_text" : Str), .str (ltext ys))]) ∧ H t = some (.tup (ys.map V.str))
theorem Lb.keep {C : Addr} {H H' : Hp} {a : Addr} {ys : List Str} (h : Lb C H a ys) (s : ∀ b o, H b = some o → (∃ xs, o = .tup xs) ∨ (∃ D dx fs, o = .ins D dx fs) → H' b = some o) : Lb C H' a ys := by
  obtain ⟨n, l, z, dx, t, h1, h2⟩ := h
  exact ⟨n, l, z, dx, t, s _ _ h1 (.inr ⟨_, _, _, rfl⟩), s _ _ h2 (.inl ⟨_, rfl⟩)⟩
theorem Lb.same {C : Addr} {H H' : Hp} {a : Addr} {ys : List Str} (h : Lb C H a ys) (s : Same H H') : Lb C H' a ys := h.keep fun b o e _ => s b o e
theorem Lb.ins {C : Addr} {H : Hp} {a : Addr} {ys : List Str} (h : Lb C H a ys) : ∃ dx fs, H a = some (.ins C dx fs) := by
  obtain ⟨_, _, _, dx, t, h1, _⟩ := h
  exact ⟨_, _, h1⟩
section
variable {X : Cx} {CX : CXT} {k : Nat} {f C : Addr} {sp : Sp} {E : XK} {x : Str} {e : Expr} {te : TE} {p p2 pos : Pos}
theorem pe_make0 (M : Mk X.K C f) (F : FnR X.prog X.w X.K X.mg X.base CX k f sp) (hr : Room (k + 1) X.A) (hg : Gl X x) (hm : X.mg x = some (.ref C)) (hx : Passes CX X E) (hd : (x == ("__debug__" : Str)) = false := by decide) :
    PE X (.Call (.Name x p) [] [] pos) (StX.tMakeR C sp E tNil) := ⟨by
  intro pins s σ H Q I h
  apply wpAny_Call_Name_kw (ld_glob I hg hm ?_ hd)
  exact PySem.W.callWith_K0 I.kIn M.kp (StX.run_makeR (us := []) (vs := []) M F hr hx I .nil h)⟩
/-- C(*y) -/
def tMakeS (K : PySem.W.Frag) (C : Addr) (sp : Sp) (E : XK) (te : TE) : TE := fun σ H Q => te σ H fun y H1 => ∃ p xs, y = V.ref p ∧ (SqT K H1 p xs ∨ SqL K H1 p xs) ∧ ∀ z dz, H1 z = Option.none → H1 dz = Option.none → dz ≠ z →
  sp (V.ref z :: xs) (upd (upd H1 dz (.own z)) z (.ins C dz [])) (fun v H2 => v = .non ∧ Q (.ref z) H2) E
theorem pe_makeS (M : Mk X.K C f) (F : FnR X.prog X.w X.K X.mg X.base CX k f sp) (hr : Room (k + 1) X.A) (hg : Gl X x) (hm : X.mg x = some (.ref C)) (hx : Passes CX X E) (he : PE X e te) (hd : (x == ("__debug__" : Str)) = false := by decide)
    (one : starEach [.Starred e p2] X.env = [(true, eval e X.env)] := by rfl) : PE X (.Call (.Name x p) [.Starred e p2] [] pos) (tMakeS X.K C sp E te) := ⟨by
  intro pins s σ H Q I h
  apply wpAny_Call_Name_kw (ld_glob I hg hm ?_ hd)
  refine PySem.W.callWith_S (h₀ := X.base) I.ok.mod.kin M.kp (thn (he.run pins s σ H _ I h) ?_) one
  rintro v s1 ⟨_, H1, I1, ry, a, xs, rfl, hxs, q⟩
  cases ry
  exact StX.star_any I1 hxs fun us s2 I2 rv => ⟨I2.kIn, StX.run_makeR M F hr hx I2 rv q⟩⟩
theorem call_reprS : CallR X (.builtin "repr") (fun xs H Q => ∃ y : Str, xs = [.str y] ∧ (reprText y).length ≤ sizeLine ∧ Q (.str (reprText y)) H) := by
  rintro pins s σ H xs us Q I r ⟨y, rfl, hz, q⟩
  obtain ⟨u, rfl, t, rfl⟩ := vals1 r
  exact PySem.P.repr_of_str ⟨.str _, H, I.tok _, ⟨_, rfl⟩, q⟩ hz
end
/-- the methods of Label, at the class at C -/
structure LabM (K : PySem.W.Frag) (mg : Str → Option Value) (C gE gL gS gR gH pM gM : Addr) (dE dL dS dR dH dM : FuncData) : Prop where
  cl : Cls K C
  n1 : NoAttr K C "_marks"
  n2 : NoAttr K C "_text"
  m : mg "Label" = some (.ref C)
  E : Fun K "__eq__" "Label.__eq__" sEq gE dE
  O : EqO.OwnE K C gE
  L : Fun K "__len__" "Label.__len__" sLen gL dL
  fL : PySem.W.findIn K (.ref C) "__len__" = some (some (.ref gL))
  iL : PySem.W.isFn K (.ref gL) = true
  S : Fun K "__str__" "Label.__str__" sStr gS dS
  fS : PySem.W.findIn K (.ref C) "__str__" = some (some (.ref gS))
  iS : PySem.W.isFn K (.ref gS) = true
  R : Fun K "__repr__" "Label.__repr__" sRepr gR dR
  fR : PySem.W.findIn K (.ref C) "__repr__" = some (some (.ref gR))
  iR : PySem.W.isFn K (.ref gR) = true
  H : Fun K "__contains__" "Label.__contains__" sHas gH dH
  fH : PySem.W.findIn K (.ref C) "__contains__" = some (some (.ref gH))
  iH : PySem.W.isFn K (.ref gH) = true
  M : Fun K "marks" "Label.marks" sGetM gM dM
  pr : PropOf K C "marks" pM gM
  bE : Binds K dE ["self", "other"] []
  bL : Binds K dL ["self"] []
  bS : Binds K dS ["self"] []
  bR : Binds K dR ["self"] []
  bH : Binds K dH ["self", "mark"] []
  bM : Binds K dM ["self"] []
  kt : ∀ T ∈ ["NoneType", "bool", "int", "str", "list", "tuple", "dict"], PySem.W.kitOne K (.type T) (.ref C) = some false
  kc : PySem.W.kitOne K (.ref C) (.ref C) = some true
  ca : PySem.W.findIn K (.ref C) "__class__" = some (some (.builtin "object.__class__"))
  cn : PySem.W.specialIn K (.builtin "object.__class__") "__get__" = some (some (.builtin "getset_descriptor.__get__"))
  ct : PySem.W.takesIn K (.builtin "object.__class__") = some true
  cm : PySem.W.mroIn K C (.type "object") = some true
theorem bt_ty {K : PySem.W.Frag} {H : Hp} {v : V} {T : String} (h : EqO.BtV K H v T) : TyX K H v (.type T) := by
  cases h with
  | non => exact .base .non
  | bl b => exact .base (.bl b)
  | int i => exact .base (.int i)
  | str x => exact .base (.str x)
  | lst e => exact .base (.lst e)
  | tup e => exact .base (.tup e)
  | dic e => exact .base (.dK e)
  | kTup e c => exact .kTuple e c
theorem canT : ∀ ds : List Str, (∀ x ∈ ds, PyData.strOk x = true) → PyData.canLayAll0 (ds.map PyData.str) = true ∧ PyData.depthAll (ds.map PyData.str) = 0
  | [], _ => ⟨rfl, rfl⟩
  | x :: r, h => by
    obtain ⟨h1, h2⟩ := canT r fun u hu => h u (List.mem_cons_of_mem _ hu)
    refine ⟨?_, ?_⟩
    · show (PyData.canLay0 (.str x) && PyData.canLayAll0 (r.map PyData.str)) = true
      rw [h1]
      simp [PyData.canLay0, h x List.mem_cons_self]
    · show max (PyData.depth (.str x)) (PyData.depthAll (r.map PyData.str)) = 0
      rw [h2]
      simp [PyData.depth]
theorem shT (ds : List Str) (h : ∀ x ∈ ds, PyData.strOk x = true) : SeqAt.shaped (.tuple (ds.map PyData.str)) = true := by
  obtain ⟨h1, h2⟩ := canT ds h
  unfold SeqAt.shaped
  have e1 : PyData.canLay0 (.tuple (ds.map PyData.str)) = true := by rw [PyData.canLay0]; exact h1
  have e2 : PyData.depth (.tuple (ds.map PyData.str)) = 1 := by rw [PyData.depth, h2]
  rw [e1, e2]
  rfl
theorem eqvTS : ∀ ds es : List Str, PyData.eqvAll (ds.map PyData.str) (es.map PyData.str) = decide (ds = es)
  | [], [] => by simp [PyData.eqvAll]
  | [], m :: ms => by simp [PyData.eqvAll]
  | n :: ns, [] => by simp [PyData.eqvAll]
  | n :: ns, m :: ms => by
    have ih := eqvTS ns ms
    show PyData.eqvAll (PyData.str n :: ns.map PyData.str) (PyData.str m :: ms.map PyData.str) = _
    rw [PyData.eqvAll, ih, PyData.eqv]
    by_cases h : n = m
    · subst h; simp
    · simp [h]
theorem eqvT (ds es : List Str) : PyData.eqv (.tuple (ds.map PyData.str)) (.tuple (es.map PyData.str)) = decide (ds = es) := by rw [PyData.eqv]; exact eqvTS ds es
theorem dpT {K : PySem.W.Frag} {H : Hp} : ∀ ds : List Str, DpAll K H (ds.map V.str) (ds.map PyData.str)
  | [] => .nil
  | x :: r => .cons (.str x) (dpT r)
theorem nm_ok {x : Str} (h : isNm x = true) : PyData.strOk x = true := by
  rw [txt_of x]
  exact strOk_asc (nm_asc h)
section
variable {P : Program} {w : World} {K : PySem.W.Frag} {mg : Str → Option Value} {base : Heap}
variable {C gE gL gS gR gH pM gM : Addr} {dE dL dS dR dH dM : FuncData}
/-! .marks -/
theorem ok_get (L : LabM K mg C gE gL gS gR gH pM gM dE dL dS dR dH dM) : FnOk P w K mg base CX0 1 gM dM ["self"] (getSp C "_marks") := by
  obtain ⟨oc, od, kV, doc, pm, an, cdv, ct, osl, rfl, lk, hcd⟩ := L.M.ex
  exact fn_getter (N := ["self"]) lk hcd ⟨rfl, rfl, rfl, by decide +kernel, rfl, by decide +kernel, by decide +kernel⟩ rfl rfl L.cl L.n1
/-! len -/
def spLen (C : Addr) : Sp := fun vs H Q _ => ∃ (a : Addr) (ys : List Str), vs = [.ref a] ∧ Lb C H a ys ∧ Q (.int (ys.length : Int)) H
theorem sc1 {st : Stmt} (h : FnScope ["self"] ["self"] (defScope st)) : FnScope ["self"] ["self"] (defScope st) := h
theorem ok_len (L : LabM K mg C gE gL gS gR gH pM gM dE dL dS dR dH dM) (Z : Zn mg) : FnOk P w K mg base CX0 1 gL dL ["self"] (spLen C) := by
  refine L.L.ok (N := ["self"]) ⟨rfl, rfl, rfl, by decide +kernel, rfl, by decide +kernel, by decide +kernel⟩ (fun vs H Q E h => ?_) (fun cdv A outer_ s H vs Q E hr h => ?_)
  · obtain ⟨a, ys, rfl, _⟩ := h
    rfl
  · obtain ⟨a, ys, rfl, ⟨nms, l4, sy, dx, t, ha, ht⟩, k⟩ := h
    refine ⟨_, pss_one (ps_ret (pe_callB call_len_seq (by rfl) Z.zLen PySem.boot_len (pa_cons (pe_fld (pv 0) rfl) pa_nil))), ?_⟩
    refine ⟨_, rfl, a, C, dx, _, .ref t, rfl, ha, L.cl, L.n1, rfl, t, _, rfl, .inr (SqT.of ht), ?_⟩
    rw [List.length_map]
    exact k
/-! str -/
def spStr (C : Addr) : Sp := fun vs H Q _ => ∃ (a : Addr) (ys : List Str), vs = [.ref a] ∧ Lb C H a ys ∧ Q (.str (ltext ys)) H
theorem ok_str (L : LabM K mg C gE gL gS gR gH pM gM dE dL dS dR dH dM) (Z : Zn mg) : FnOk P w K mg base CX0 1 gS dS ["self"] (spStr C) := by
  refine L.S.ok (N := ["self"]) ⟨rfl, rfl, rfl, by decide +kernel, rfl, by decide +kernel, by decide +kernel⟩ (fun vs H Q E h => ?_) (fun cdv A outer_ s H vs Q E hr h => ?_)
  · obtain ⟨a, ys, rfl, _⟩ := h
    rfl
  · obtain ⟨a, ys, rfl, ⟨nms, l4, sy, dx, t, ha, ht⟩, k⟩ := h
    refine ⟨_, pss_one (ps_ret (pe_callTy SkE.call_str_str (by rfl) Z.zStr (by decide +kernel) (pa_cons (pe_fld (pv 0) rfl) pa_nil))), ?_⟩
    exact ⟨_, rfl, a, C, dx, _, .str (ltext ys), rfl, ha, L.cl, L.n2, rfl, _, rfl, k⟩
/-! in -/
def hasV (v : V) (ys : List Str) : Bool := match v with
  | .str x => decide (x ∈ ys)
  | _ => false
theorem inV_str (x : Str) : ∀ ys : List Str, inV (.str x) (ys.map V.str) = decide (x ∈ ys)
  | [] => by simp [inV]
  | y :: r => by
    have ih := inV_str x r
    unfold inV at ih ⊢
    rw [List.map_cons, List.any_cons, ih]
    show ((y == x) || _) = _
    by_cases h : y = x
    · subst h; simp
    · have h' : ¬ x = y := fun e => h e.symm
      simp [h, h', List.mem_cons]
def spHas (K : PySem.W.Frag) (C : Addr) : Sp := fun vs H Q _ => ∃ (a : Addr) (v : V) (ys : List Str), vs = [.ref a, v] ∧ Lb C H a ys ∧ Cl K H v ∧ Q (.bl (hasV v ys)) H
theorem flat_all (ys : List Str) : (ys.map V.str).all flatV = true := by
  rw [List.all_map]
  exact List.all_eq_true.mpr fun _ _ => rfl
theorem ok_has (L : LabM K mg C gE gL gS gR gH pM gM dE dL dS dR dH dM) (Z : Zn mg) : FnOk P w K mg base CX0 1 gH dH ["self", "mark"] (spHas K C) := by
  refine L.H.ok (N := ["self", "mark"]) ⟨rfl, rfl, rfl, by decide +kernel, rfl, by decide +kernel, by decide +kernel⟩ (fun vs H Q E h => ?_) (fun cdv A outer_ s H vs Q E hr h => ?_)
  · obtain ⟨a, v, ys, rfl, _⟩ := h
    rfl
  · obtain ⟨a, v, ys, rfl, ⟨nms, l4, sy, dx, t, ha, ht⟩, cl, k⟩ := h
    refine ⟨_, pss_one (ps_ret (pe_and (pe_callB call_isi (by rfl) Z.zIs (by decide +kernel) (pa_cons (pv 1) (pa_cons (pe_bltn (v := .ty "str") (u := .type "str") (by rfl) Z.zStr (by decide +kernel) rfl) pa_nil))) (pe_one (pe_cmpR op_in_seq (pv 1) (pe_fld (pv 0) rfl) (by rfl))))), ?_⟩
    obtain ⟨ty, tx, kb, ki, ks⟩ := cl.kit
    refine ⟨_, rfl, v, .ty "str", ty, .type "str", vS v, rfl, .ty _, tx, ks, _, rfl, ?_⟩
    by_cases hs : vS v = true
    · obtain ⟨l, rfl, hl⟩ := cl.text hs
      rw [hs]
      refine ⟨_, rfl, _, rfl, a, C, dx, _, .ref t, rfl, ha, L.cl, L.n1, rfl, t, _, rfl, .inr (SqT.of ht), rfl, flat_all ys, ?_⟩
      rw [if_neg Bool.false_ne_true, inV_str]
      exact k
    · have hs' : vS v = false := by simpa using hs
      rw [hs']
      have e : hasV v ys = false := by cases v <;> first | rfl | cases hs'
      rw [e] at k
      exact k
/-! == -/
def spEqL (K : PySem.W.Frag) (C : Addr) : Sp := fun vs H Q _ => ∃ (a : Addr) (y : V) (xs : List Str), vs = [.ref a, y] ∧ Lb C H a xs ∧
  ((∃ T, EqO.BtV K H y T ∧ Q (.bl false) H) ∨ ∃ b ys, y = .ref b ∧ Lb C H b ys ∧ Q (.bl (decide (xs = ys))) H)
theorem ok_eq (L : LabM K mg C gE gL gS gR gH pM gM dE dL dS dR dH dM) (Z : Zn mg) : FnOk P w K mg base CX0 1 gE dE ["self", "other"] (spEqL K C) := by
  refine L.E.ok (N := ["self", "other"]) ⟨rfl, rfl, rfl, by decide +kernel, rfl, by decide +kernel, by decide +kernel⟩ (fun vs H Q E h => ?_) (fun cdv A outer_ s H vs Q E hr h => ?_)
  · obtain ⟨a, y, xs, rfl, _⟩ := h
    rfl
  · obtain ⟨a, y, xs, rfl, ⟨nms, l4, sy, dx, t, ha, ht⟩, h⟩ := h
    have un : (A.deeper (PyProof.Rows.envOfC "Label.__eq__" (defScope sEq) s.heap.objs.size gE cdv)).units + 64 < cLine := by have := hr.units; omega
    refine ⟨_, pss_one (ps_ret (pe_and (pe_callB call_isi (by rfl) Z.zIs (by decide +kernel) (pa_cons (pv 1) (pa_cons (pe_glob (v := .ref C) rfl L.m rfl) pa_nil))) (pe_one (pe_cmpR (op_eqD un) (pe_fld (pv 0) rfl) (pe_fld (pv 1) rfl) (nomark _))))), ?_⟩
    rcases h with ⟨T, bt, k⟩ | ⟨b, ys, rfl, ⟨nmy, l4y, syy, dy, ty, hb, hty⟩, k⟩
    · exact ⟨_, rfl, y, .ref C, .type T, .ref C, false, rfl, .own _, bt_ty bt, L.kt T bt.mem, _, rfl, k⟩
    · refine ⟨_, rfl, .ref b, .ref C, .ref C, .ref C, true, rfl, .own _, .base (.ins hb L.cl L.ca L.cn L.ct L.cm), L.kc, _, rfl, ?_⟩
      refine ⟨_, rfl, a, C, dx, _, .ref t, rfl, ha, L.cl, L.n1, rfl, _, rfl, b, C, dy, _, .ref ty, rfl, hb, L.cl, L.n1, rfl, ?_⟩
      refine ⟨_, _, .tup (SqT.of ht) (dpT xs), .tup (SqT.of hty) (dpT ys), shT _ fun z hz => nm_ok (List.all_eq_true.mp nms z hz), shT _ fun z hz => nm_ok (List.all_eq_true.mp nmy z hz), ?_⟩
      rw [eqvT]
      exact k
end
end K13
namespace K13
open PySem L2 SR
section
variable {P : Program} {w : World} {K : PySem.W.Frag} {mg : Str → Option Value} {base : Heap}
variable {C gE gL gS gR gH pM gM : Addr} {dE dL dS dR dH dM : FuncData}
/-! repr -/
def comma : Str := ", "
def lshow (ys : List Str) : Str := Str.empty ++ "Label(" ++ Txt.join comma (ys.map reprText) ++ ")"
theorem repr_len8 {y : Str} (h : isNm y = true) : (reprText y).length ≤ 82 := by
  have l8 := isNm_len h
  have lo : y.cps.toList.all low = true := (Bool.and_eq_true_iff.mp (Bool.and_eq_true_iff.mp h).2).2
  have e := StrLaws.reprText_len (txt y.cps.toList) (fun c hc => by
    have z := Bool.and_eq_true_iff.mp (List.all_eq_true.mp lo c hc)
    have := of_decide_eq_true z.2
    omega)
  rw [← txt_of y] at e
  have e2 : y.length = y.cps.toList.length := by rw [txt_of y, txt_len]; rfl
  omega
def spRepr (C : Addr) : Sp := fun vs H Q _ => ∃ (a : Addr) (ys : List Str), vs = [.ref a] ∧ Lb C H a ys ∧ ∀ H', Same H H' → Q (.str (lshow ys)) H'
theorem scRe : FnScope ["self", "mark"] ["self"] (defScope sRepr) := ⟨rfl, rfl, rfl, by decide +kernel, rfl, by decide +kernel, by decide +kernel⟩
theorem ok_repr (L : LabM K mg C gE gL gS gR gH pM gM dE dL dS dR dH dM) (Z : Zn mg) : FnOk P w K mg base CX0 1 gR dR ["self"] (spRepr C) := by
  refine L.R.ok scRe (fun vs H Q E h => ?_) (fun cdv A outer_ s H vs Q E hr h => ?_)
  · obtain ⟨a, ys, rfl, _⟩ := h
    rfl
  · obtain ⟨a, ys, rfl, ⟨nms, l4, sy, dx, t, ha, ht⟩, k⟩ := h
    refine ⟨_, pss_one (ps_ret (pe_joined (PJ.cons pe_str (PJ.cons (pe_fmt (pe_join pe_str (pe_lc (own := [("mark", 1)]) (g := gName 1) (tt := tYes) rfl scRe.nd (pi_tup (pe_fld (pv 0) rfl))
      (blkOk_by (N := ["self", "mark"]) (sc := defScope sRepr) (by decide +kernel)) (fun _ _ _ _ _ => pg_name (i := 1) scRe.nd rfl (Or.inl rfl)) (fun _ _ _ _ _ => pts_nil)
      (fun _ _ _ _ _ => pe_callB call_reprS (by rfl) Z.zRepr (by decide +kernel) (pa_cons (pv 1) pa_nil))))) (PJ.cons pe_str PJ.nil))))), ?_⟩
    have hsl : sizeLine = 16777216 := sizeLine_eq
    have nmAt : ∀ y ∈ ys, isNm y = true := fun y hy => List.all_eq_true.mp nms y hy
    refine ⟨_, rfl, by decide +kernel, ?_⟩
    refine ⟨⟨_, rfl⟩, _, rfl, a, C, dx, _, .ref t, rfl, ha, L.cl, L.n1, rfl, t, rfl, ⟨_, SqT.of ht⟩, fun D hD => ?_⟩
    refine lc_tup (xs := ys.map V.str) (fun i H' => Same H H' ∧ H' D = some (.lst (((ys.map reprText).take i).map V.str))) ⟨same_upd hD, upd_same⟩ (fun i H' _ q => SqT.of (q.1 _ _ ht)) ?_ ?_
    · rintro i v H1 hv ⟨sm, hL⟩
      rw [List.getElem?_map] at hv
      obtain ⟨y, hy, rfl⟩ := Option.map_eq_some_iff.mp hv
      have l82 := repr_len8 (nmAt y (List.mem_of_getElem? hy))
      refine ⟨rfl, _, rfl, y, rfl, by omega, _, hL, ?_, fun b o q => ?_, ?_⟩
      · rw [List.length_map, List.length_take, List.length_map]
        omega
      · rw [upd_ne (ne_of_none q hD)]
        exact sm b o q
      · rw [upd_same, take_snoc (x := reprText y) (by rw [List.getElem?_map, hy]; rfl), List.map_append]
        rfl
    · rintro H1 ⟨sm, hL⟩
      rw [List.length_map, List.take_of_length_le (by rw [List.length_map]; exact Nat.le_refl _)] at hL
      have lens : ((ys.map reprText).map (·.length)).sum + (ys.map reprText).length * comma.length ≤ 1000 := by
        have each : ∀ zs : List Str, (∀ y ∈ zs, isNm y = true) → ((zs.map reprText).map (·.length)).sum ≤ 82 * zs.length := fun zs => by
          induction zs with
          | nil => intro _; decide
          | cons z zs ih =>
            intro hz
            have a := repr_len8 (hz z List.mem_cons_self)
            have b := ih fun y hy => hz y (List.mem_cons_of_mem _ hy)
            rw [List.map_cons, List.map_cons, List.sum_cons, List.length_cons]
            omega
        have a := each ys nmAt
        have b : comma.length = 2 := by decide +kernel
        rw [b, List.length_map]
        omega
      have jl : (Txt.join comma (ys.map reprText)).length ≤ 1000 := by
        rw [join_is]
        exact Nat.le_trans (StrLaws.join_length_le comma _) lens
      have jl' : (Txt.join (", " : Str) (ys.map reprText)).length ≤ 1000 := jl
      have e7 : ("Label(" : Str).length = 6 := by decide +kernel
      have e8 : (")" : Str).length = 1 := by decide +kernel
      refine ⟨_, D, ys.map reprText, rfl, rfl, .inl (SqL.of hL), by exact Nat.le_trans lens (by decide), .inl ⟨_, rfl, by omega, _, rfl, ?_, _, rfl, ?_, k _ sm⟩⟩
      · rw [strLen_append, strLen_append, e7]
        show 0 + 6 + _ ≤ _
        omega
      · rw [strLen_append, strLen_append, strLen_append, e7, e8]
        show 0 + 6 + _ + 1 ≤ _
        omega

theorem find_none {ts : List Str} (h : ts.all isNm = true) : (ts.map V.str).find? bad = none := by
  rw [List.find?_map, Option.map_eq_none_iff]
  exact List.find?_eq_none.mpr fun u hu => by
    have := List.all_eq_true.mp h u hu
    show ¬ (!isNm u) = true
    rw [this]
    decide
theorem cl_names {H : Hp} {ts : List Str} (h : ts.all isNm = true) : ∀ v ∈ ts.map V.str, Cl K H v := fun v hv => by
  obtain ⟨y, hy, rfl⟩ := List.mem_map.mp hv
  have := isNm_len (List.all_eq_true.mp h y hy)
  rw [txt_of y]
  exact .str _ (Nat.le_trans this (by decide))
theorem str_inj : ∀ {a b : List Str}, a.map V.str = b.map V.str → a = b
  | [], [], _ => rfl
  | [], _ :: _, e => by cases e
  | _ :: _, [], e => by cases e
  | x :: r, y :: q, e => by
    rw [List.map_cons, List.map_cons] at e
    rw [V.str.inj (List.cons.inj e).1, str_inj (List.cons.inj e).2]
/-- a call of Label with names, at most four different ones -/
theorem mk_lab {H1 : Hp} {C CN CM z dz : Addr} {ts ys : List Str} {Q : VK} {E : XK} (hz : H1 z = none) (hd : H1 dz = none) (ne : dz ≠ z) (nms : ts.all isNm = true) (few : ts.length < 60) (s : Srt ts ys) (l4 : ys.length ≤ 4)
    (k : ∀ H', Same H1 H' → Lb C H' z ys → Q (.ref z) H') : ∃ ws rest, V.ref z :: ts.map V.str = ws ++ rest ∧ ws.length = ([("self" : Str)]).length ∧ rest.length ≤ sizeLine ∧
      ∀ p, (upd (upd H1 dz (.own z)) z (.ins C dz [])) p = Option.none → spInit K C CN CM (ws ++ [V.ref p]) (upd (upd (upd H1 dz (.own z)) z (.ins C dz [])) p (.tup rest)) (fun v H2 => v = .non ∧ Q (.ref z) H2) E := by
  refine ⟨[.ref z], ts.map V.str, rfl, rfl, by rw [List.length_map, sizeLine_eq]; omega, fun p hp => ?_⟩
  have np : p ≠ z := fun e => by rw [e, upd_same] at hp; cases hp
  refine ⟨z, dz, p, ts.map V.str, rfl, by rw [upd_ne (Ne.symm np), upd_same], upd_same, by rw [List.length_map]; exact few, cl_names nms, (fun v e => by rw [find_none nms] at e; cases e), fun ts' ys' e nms' s' => ?_⟩
  obtain rfl := str_inj e
  obtain rfl := SR.unique s s'
  refine ⟨fun l5 => absurd l4 (by omega), fun _ H' t kp hz' ht => ⟨rfl, k H' (fun b o q => ?_) ⟨?_, l4, SR.self s, dz, t, hz', ht⟩⟩⟩
  · have nb : b ≠ z := ne_of_none q hz
    have nd : b ≠ dz := ne_of_none q hd
    refine kp b o nb ?_
    have q2 : (upd (upd H1 dz (.own z)) z (.ins C dz [])) b = some o := by rw [upd_ne nb, upd_ne nd]; exact q
    rw [upd_ne (ne_of_none q2 hp)]
    exact q2
  · exact List.all_eq_true.mpr fun y hy => List.all_eq_true.mp nms y ((s.2.2 y).mp hy)
end
/-- what a call of Label with these wishes -/
def Asks (K : PySem.W.Frag) (C CN CM : Addr) (H : Hp) (xs : List V) (Q : VK) (E : XK) : Prop := (∀ v ∈ xs, Cl K H v) ∧ (∀ v, xs.find? bad = some v → Bad "value" CN H v E) ∧ ∀ ts ys, xs = ts.map V.str → ts.all isNm = true → Srt ts ys →
  (4 < ys.length → BadM CM H (.str "marks") (.int 4) E) ∧ (ys.length ≤ 4 → ∀ H' z, Same H H' → H z = none → Lb C H' z ys → Q (.ref z) H')
theorem mk_any {K : PySem.W.Frag} {H1 : Hp} {C CN CM z dz : Addr} {xs : List V} {Q : VK} {E : XK} (a : Asks K C CN CM H1 xs Q E) (few : xs.length < 60) (hz : H1 z = none) (hd : H1 dz = none) (ne : dz ≠ z) :
    ∃ ws rest, V.ref z :: xs = ws ++ rest ∧ ws.length = ([("self" : Str)]).length ∧ rest.length ≤ sizeLine ∧
      ∀ p, (upd (upd H1 dz (.own z)) z (.ins C dz [])) p = Option.none → spInit K C CN CM (ws ++ [V.ref p]) (upd (upd (upd H1 dz (.own z)) z (.ins C dz [])) p (.tup rest)) (fun v H2 => v = .non ∧ Q (.ref z) H2) E := by
  obtain ⟨cl, kb, kt⟩ := a
  refine ⟨[.ref z], xs, rfl, rfl, by rw [sizeLine_eq]; omega, fun p hp => ?_⟩
  have np : p ≠ z := fun e => by rw [e, upd_same] at hp; cases hp
  have sm : Same H1 (upd (upd (upd H1 dz (.own z)) z (.ins C dz [])) p (.tup xs)) := fun b o q => by
    have q2 : (upd (upd H1 dz (.own z)) z (.ins C dz [])) b = some o := by rw [upd_ne (ne_of_none q hz), upd_ne (ne_of_none q hd)]; exact q
    rw [upd_ne (ne_of_none q2 hp)]
    exact q2
  refine ⟨z, dz, p, xs, rfl, by rw [upd_ne (Ne.symm np), upd_same], upd_same, few, fun v hv => Cl.same (cl v hv) fun a t _ ty => tyx_same ty sm, fun v e => bad_of sm (kb v e), fun ts ys e nms s => ?_⟩
  obtain ⟨k5, k4⟩ := kt ts ys e nms s
  refine ⟨fun l5 => badM_of sm (k5 l5), fun l4 H' t kp hz' ht => ⟨rfl, k4 l4 H' z (fun b o q => ?_) hz ⟨?_, l4, SR.self s, dz, t, hz', ht⟩⟩⟩
  · exact kp b o (ne_of_none q hz) (sm b o q)
  · exact List.all_eq_true.mpr fun y hy => List.all_eq_true.mp nms y ((s.2.2 y).mp hy)
/-- a call of Label with names, at most four different ones -/
theorem asks0 {K : PySem.W.Frag} {C CN CM : Addr} {H : Hp} {ts ys : List Str} {Q : VK} {E : XK} (nms : ts.all isNm = true) (s : Srt ts ys) (l4 : ys.length ≤ 4) (k : ∀ H' z, Same H H' → H z = none → Lb C H' z ys → Q (.ref z) H') : Asks K C CN CM H (ts.map V.str) Q E := by
  refine ⟨cl_names nms, (fun v e => by rw [find_none nms] at e; cases e), fun ts' ys' e nms' s' => ?_⟩
  obtain rfl := str_inj e
  obtain rfl := SR.unique s s'
  exact ⟨fun l5 => absurd l4 (by omega), fun _ => k⟩
end K13
namespace K13
open PySem L2 SR
/-! ### check_label, is_below, the joined and the common label -/
theorem srt_sub {xs ys : List Str} (a : Srt xs xs) (s : ys.Sublist xs) : Srt ys ys :=
  ⟨a.1.sublist s, PyProof.Rows.sortedS_of_pairwise _ ((sorted_pw a.2.1).sublist s), fun _ => Iff.rfl⟩
section
variable {P : Program} {w : World} {K : PySem.W.Frag} {mg : Str → Option Value} {base : Heap}
variable {C fL CN fN CM fM CE fE fC fI gE gL gS gR gH pM gM g : Addr} {dL0 dN dM dE0 dC dI dE dL dS dR dH dG fd : FuncData}
def Odd (K : PySem.W.Frag) (CE : Addr) (H : Hp) (y : V) (E : XK) : Prop := (∃ T, EqO.BtV K H y T) ∧ Bad "value" CE H y E
def spCheck (K : PySem.W.Frag) (C CE : Addr) : Sp := fun vs H Q E => ∃ y : V, vs = [y] ∧ (Odd K CE H y E ∨ ∃ b ys, y = .ref b ∧ Lb C H b ys ∧ Q .non H)
theorem lab_ty (M : LabM K mg C gE gL gS gR gH pM gM dE dL dS dR dH dG) {H : Hp} {b : Addr} {ys : List Str} (h : Lb C H b ys) : TyX K H (.ref b) (.ref C) := by
  obtain ⟨_, _, _, dx, t, ha, _⟩ := h
  exact .base (.ins ha M.cl M.ca M.cn M.ct M.cm)
theorem ok_check (F : Fun K "check_label" "check_label" sCheck fC dC) (T : IT K mg CE fE dE0) (M : LabM K mg C gE gL gS gR gH pM gM dE dL dS dR dH dG) (Z : Zn mg) : FnOk P w K mg base (L2.CX P w) 3 fC dC ["value"] (spCheck K C CE) := by
  have GT : FnOk P w K mg base CX0 1 fE dE0 ["self", "value"] (spInitT CE) := ok_initT T
  refine F.okX (N := ["value"]) ⟨rfl, rfl, rfl, by decide +kernel, rfl, by decide +kernel, by decide +kernel⟩ (fun vs H Q E h => ?_) (fun cdv A outer_ s H vs Q E hr h => ?_)
  · obtain ⟨y, rfl, _⟩ := h
    rfl
  · obtain ⟨y, rfl, h⟩ := h
    refine ⟨_, pss_one (ps_if (pt_not (pt_val (pe_callB call_isi (by rfl) Z.zIs (by decide +kernel) (pa_cons (pv 0) (pa_cons (pe_glob (v := .ref C) rfl M.m rfl) pa_nil)))))
        (pss_one (ps_raise rfl (takes_of rfl rfl rfl rfl) (pmk_oex T.o T.iC T.tI GT hr T.b .nil pass0 (by rfl) T.m (by exact (pa_cons (pv 0) pa_nil))))) pss_nil), ?_⟩
    rcases h with ⟨⟨ty, bt⟩, hb⟩ | ⟨b, ys, rfl, lb, k⟩
    · exact ⟨_, rfl, y, .ref C, .type ty, .ref C, false, rfl, .own _, bt_ty bt, M.kt ty bt.mem, _, rfl, _, rfl, mkT H _ hb⟩
    · exact ⟨_, rfl, .ref b, .ref C, .ref C, .ref C, true, rfl, .own _, lab_ty M lb, M.kc, _, rfl, k⟩
abbrev sBelow : Stmt := inClass (top 14) 4
abbrev sOrM : Stmt := inClass (top 14) 6
abbrev sAndM : Stmt := inClass (top 14) 7
def spBelow (K : PySem.W.Frag) (C CE : Addr) : Sp := fun vs H Q E => ∃ (a : Addr) (y : V) (xs : List Str), vs = [.ref a, y] ∧ Lb C H a xs ∧ (Odd K CE H y E ∨ ∃ b ys, y = .ref b ∧ Lb C H b ys ∧ ∀ H', Same H H' → Q (.bl (xs.all fun x => decide (x ∈ ys))) H')
theorem scBe : FnScope ["self", "other", "mark"] ["self", "other"] (defScope sBelow) := ⟨rfl, rfl, rfl, by decide +kernel, rfl, by decide +kernel, by decide +kernel⟩
theorem ok_below (F : Fun K "is_below" "Label.is_below" sBelow g fd) (AC : At K mg "check_label" sCheck ["value"] fC dC) (T : IT K mg CE fE dE0) (M : LabM K mg C gE gL gS gR gH pM gM dE dL dS dR dH dG) (Z : Zn mg) : FnOk P w K mg base (L2.CX P w) 4 g fd ["self", "other"] (spBelow K C CE) := by
  have GC : FnOk P w K mg base (L2.CX P w) 3 fC dC ["value"] (spCheck K C CE) := ok_check AC.F T M Z
  have GG : FnOk P w K mg base CX0 1 gM dG ["self"] (getSp C "_marks") := ok_get M
  refine F.okX scBe (fun vs H Q E h => ?_) (fun cdv A outer_ s H vs Q E hr h => ?_)
  · obtain ⟨a, y, xs, rfl, _⟩ := h
    rfl
  · obtain ⟨a, y, xs, rfl, la, h⟩ := h
    have h2 := hr.mono (j := 2) (by decide)
    refine ⟨_, pss_cons (ps_expr (pe_call (E := E) GC hr (by rfl) AC.m AC.F.kp AC.b .nil (CmS.passE (takes_of rfl rfl rfl rfl)) (pa_cons (pv 1) pa_nil)))
      (pss_one (ps_ret (pe_callB (cr_all rfl) (by rfl) Z.zAll (by decide +kernel) (pa_cons (pe_lc (own := [("mark", 2)]) (g := gName 2) (tt := tYes) rfl scBe.nd (pi_tup (pe_fld (pv 0) rfl)) (blkOk_by (N := ["self", "other", "mark"]) (sc := defScope sBelow) (by decide +kernel)) (fun _ _ _ _ _ => pg_name (i := 2) scBe.nd rfl (Or.inl rfl)) (fun _ _ _ _ _ => pts_nil)
        (fun _ _ _ _ _ => pe_cmpR (show OpR _ (compareOp .In) (rIn K false) from op_in_seq) (pv 2) (pe_prop (E := E0) (pv 1) M.cl M.pr GG h2 M.bM .nil pass0 rfl) (by rfl))) pa_nil)))), ?_⟩
    rcases h with od | ⟨b, ys, rfl, lb, k⟩
    · exact ⟨_, rfl, y, rfl, .inl od⟩
    · refine ⟨_, rfl, .ref b, rfl, .inr ⟨b, ys, rfl, lb, ?_⟩⟩
      obtain ⟨nx, l4, sx, dx, t, ha, ht⟩ := id la
      refine ⟨_, rfl, a, C, dx, _, .ref t, rfl, ha, M.cl, M.n1, rfl, t, rfl, ⟨_, SqT.of ht⟩, fun D hD => ?_⟩
      refine lc_tup (xs := xs.map V.str) (fun i H' => Same H H' ∧ H' D = some (.lst (((xs.map fun x => decide (x ∈ ys)).take i).map V.bl))) ⟨same_upd hD, upd_same⟩ (fun i H' _ q => SqT.of (q.1 _ _ ht)) ?_ ?_
      · rintro i v H1 hv ⟨sm, hL⟩
        rw [List.getElem?_map] at hv
        obtain ⟨x, hx, rfl⟩ := Option.map_eq_some_iff.mp hv
        obtain ⟨ny, m4, sy, dy, u, hb, hu⟩ := id (lb.same sm)
        refine ⟨rfl, _, rfl, _, rfl, b, dy, _, rfl, hb, b, dy, _, .ref u, rfl, hb, rfl, u, _, rfl, .inr (SqT.of hu), rfl, flat_all ys, ?_⟩
        rw [if_neg Bool.false_ne_true, inV_str]
        refine ⟨_, hL, ?_, fun b o q => ?_, ?_⟩
        · rw [List.length_map, List.length_take, List.length_map, sizeLine_eq]
          omega
        · rw [upd_ne (ne_of_none q hD)]
          exact sm b o q
        · rw [upd_same, take_snoc (x := decide (x ∈ ys)) (by rw [List.getElem?_map, hx]; rfl), List.map_append]
          rfl
      · rintro H1 ⟨sm, hL⟩
        rw [List.length_map, List.take_of_length_le (by rw [List.length_map]; exact Nat.le_refl _)] at hL
        refine ⟨D, _, rfl, SqL.of hL, ?_⟩
        rw [List.all_map]
        exact k H1 sm
theorem asksM {H : Hp} {ts zs : List Str} {Q : VK} {E : XK} (nms : ts.all isNm = true) (s : Srt ts zs) (b : 4 < zs.length → BadM CM H (.str "marks") (.int 4) E) (k : zs.length ≤ 4 → ∀ H' z, Same H H' → H z = none → Lb C H' z zs → Q (.ref z) H') : Asks K C CN CM H (ts.map V.str) Q E := by
  refine ⟨cl_names nms, (fun v e => by rw [find_none nms] at e; cases e), fun ts' ys' e nms' s' => ?_⟩
  obtain rfl := str_inj e
  obtain rfl := SR.unique s s'
  exact ⟨b, k⟩
theorem catAny {H : Hp} {a b : Addr} {xs ys : List V} {Q : VK} (h1 : SqT K H a xs) (h2 : SqT K H b ys) (l : xs.length + ys.length ≤ sizeLine) (k : ∀ H' p, Same H H' → SqT K H' p (xs ++ ys) → Q (.ref p) H') : rCatA K (.ref a) (.ref b) H Q := by
  refine ⟨a, b, xs, ys, rfl, rfl, h1, h2, l, fun e => ?_, fun _ e => ?_, fun _ _ p hp => k _ p (same_upd hp) (SqT.of upd_same)⟩
  · exact k H b (Same.refl H) (by rw [e]; exact h2)
  · exact k H a (Same.refl H) (by rw [e, List.append_nil]; exact h1)
/-- the label of these marks, of two labels -/
def spTwo (f : List Str → List Str → List Str) (K : PySem.W.Frag) (C CE CM : Addr) : Sp := fun vs H Q E => ∃ (a : Addr) (y : V) (xs : List Str), vs = [.ref a, y] ∧ Lb C H a xs ∧ (Odd K CE H y E ∨ ∃ b ys zs, y = .ref b ∧ Lb C H b ys ∧ Srt (f xs ys) zs ∧
  (4 < zs.length → BadM CM H (.str "marks") (.int 4) E) ∧ (zs.length ≤ 4 → ∀ H' z, Same H H' → H z = none → Lb C H' z zs → Q (.ref z) H'))
theorem scOr : FnScope ["self", "other", "marks"] ["self", "other"] (defScope sOrM) := ⟨rfl, rfl, rfl, by decide +kernel, rfl, by decide +kernel, by decide +kernel⟩
theorem ok_or (F : Fun K "__or__" "Label.__or__" sOrM g fd) (AC : At K mg "check_label" sCheck ["value"] fC dC) (T : IT K mg CE fE dE0) (M : LabM K mg C gE gL gS gR gH pM gM dE dL dS dR dH dG) (Z : Zn mg)
    (L : LabC K mg C fL CN fN CM fM dL0 dN dM) (GI : FnR P w K mg base (L2.CX P w) 3 fL (fun vs H Q E => ∃ ws rest, vs = ws ++ rest ∧ ws.length = ([("self" : Str)]).length ∧ rest.length ≤ sizeLine ∧ ∀ p, H p = Option.none → spInit K C CN CM (ws ++ [V.ref p]) (upd H p (.tup rest)) Q E)) :
    FnOk P w K mg base (L2.CX P w) 5 g fd ["self", "other"] (spTwo (· ++ ·) K C CE CM) := by
  have GC : FnOk P w K mg base (L2.CX P w) 3 fC dC ["value"] (spCheck K C CE) := ok_check AC.F T M Z
  have GG : FnOk P w K mg base CX0 1 gM dG ["self"] (getSp C "_marks") := ok_get M
  refine F.okX scOr (fun vs H Q E h => ?_) (fun cdv A outer_ s H vs Q E hr h => ?_)
  · obtain ⟨a, y, xs, rfl, _⟩ := h
    rfl
  · obtain ⟨a, y, xs, rfl, la, h⟩ := h
    have h3 := hr.mono (j := 3) (by decide)
    have h2 := hr.mono (j := 2) (by decide)
    refine ⟨_, pss_cons (ps_expr (pe_call (E := E) GC h3 (by rfl) AC.m AC.F.kp AC.b .nil (CmS.passE (takes_of rfl rfl rfl rfl)) (pa_cons (pv 1) pa_nil)))
      (pss_cons (ps_set (i := 2) scOr.nd rfl (Or.inl rfl) (pe_op op_catA (pe_fld (pv 0) rfl) (pe_prop (E := E0) (pv 1) M.cl M.pr GG h2 M.bM .nil pass0 rfl)))
      (pss_one (ps_ret (pe_makeS (E := E) L.mkr GI hr (by rfl) L.m (CmS.passE (takes_of rfl rfl rfl rfl)) (pv 2))))), ?_⟩
    rcases h with od | ⟨b, ys, zs, rfl, lb, sz, kb, k⟩
    · exact ⟨_, rfl, y, rfl, .inl od⟩
    · obtain ⟨nx, l4, sx, dx, t, ha, ht⟩ := id la
      obtain ⟨ny, m4, sy, dy, u, hb, hu⟩ := id lb
      refine ⟨_, rfl, .ref b, rfl, .inr ⟨b, ys, rfl, lb, ?_⟩⟩
      refine ⟨_, rfl, a, C, dx, _, .ref t, rfl, ha, M.cl, M.n1, rfl, _, rfl, b, dy, _, rfl, hb, b, dy, _, .ref u, rfl, hb, rfl, ?_⟩
      refine catAny (SqT.of ht) (SqT.of hu) (by rw [List.length_map, List.length_map, sizeLine_eq]; omega) fun H1 p s1 hp => ?_
      rw [← List.map_append] at hp
      refine ⟨_, rfl, p, _, rfl, .inl hp, fun z dz hz hd ne => ?_⟩
      exact mk_any (asksM (by rw [List.all_append, nx, ny]; rfl) sz (fun l => badM_of s1 (kb l)) fun l H' z s2 hz lz => k l H' z (s1.trans s2) (s1.free hz) lz) (by rw [List.length_map, List.length_append]; omega) hz hd ne
theorem scAn : FnScope ["self", "other", "marks", "mark"] ["self", "other"] (defScope sAndM) := ⟨rfl, rfl, rfl, by decide +kernel, rfl, by decide +kernel, by decide +kernel⟩
theorem ok_and (F : Fun K "__and__" "Label.__and__" sAndM g fd) (AC : At K mg "check_label" sCheck ["value"] fC dC) (T : IT K mg CE fE dE0) (M : LabM K mg C gE gL gS gR gH pM gM dE dL dS dR dH dG) (Z : Zn mg)
    (L : LabC K mg C fL CN fN CM fM dL0 dN dM) (GI : FnR P w K mg base (L2.CX P w) 3 fL (fun vs H Q E => ∃ ws rest, vs = ws ++ rest ∧ ws.length = ([("self" : Str)]).length ∧ rest.length ≤ sizeLine ∧ ∀ p, H p = Option.none → spInit K C CN CM (ws ++ [V.ref p]) (upd H p (.tup rest)) Q E)) :
    FnOk P w K mg base (L2.CX P w) 5 g fd ["self", "other"] (spTwo (fun xs ys => xs.filter fun x => decide (x ∈ ys)) K C CE CM) := by
  have GC : FnOk P w K mg base (L2.CX P w) 3 fC dC ["value"] (spCheck K C CE) := ok_check AC.F T M Z
  have GG : FnOk P w K mg base CX0 1 gM dG ["self"] (getSp C "_marks") := ok_get M
  refine F.okX scAn (fun vs H Q E h => ?_) (fun cdv A outer_ s H vs Q E hr h => ?_)
  · obtain ⟨a, y, xs, rfl, _⟩ := h
    rfl
  · obtain ⟨a, y, xs, rfl, la, h⟩ := h
    have h3 := hr.mono (j := 3) (by decide)
    have h2 := hr.mono (j := 2) (by decide)
    refine ⟨_, pss_cons (ps_expr (pe_call (E := E) GC h3 (by rfl) AC.m AC.F.kp AC.b .nil (CmS.passE (takes_of rfl rfl rfl rfl)) (pa_cons (pv 1) pa_nil)))
      (pss_cons (ps_setLc (i := 2) (own := [("mark", 3)]) (g := gName 3) (tt := tTest (tOp (rIn K false) (tVar 3) (tProp C (getSp C "_marks") [] E0 (tVar 1)))) rfl scAn.nd rfl rfl (sw_true rfl rfl rfl rfl) (pi_tup (pe_fld (pv 0) rfl)) (blkOk_by (N := ["self", "other", "marks", "mark"]) (sc := defScope sAndM) (by decide +kernel)) (fun _ _ _ _ _ => pg_name (i := 3) scAn.nd rfl (Or.inl rfl))
        (fun _ _ _ _ _ => pts_one (pt_cmpR (show OpR _ (compareOp .In) (rIn K false) from op_in_seq) (pv 3) (pe_prop (E := E0) (pv 1) M.cl M.pr GG h2 M.bM .nil pass0 rfl) (by rfl))) (fun _ _ _ _ _ => pv 3))
      (pss_one (ps_ret (pe_makeS (E := E) L.mkr GI hr (by rfl) L.m (CmS.passE (takes_of rfl rfl rfl rfl)) (pv 2))))), ?_⟩
    rcases h with od | ⟨b, ys, zs, rfl, lb, sz, kb, k⟩
    · exact ⟨_, rfl, y, rfl, .inl od⟩
    · obtain ⟨nx, l4, sx, dx, t, ha, ht⟩ := id la
      refine ⟨_, rfl, .ref b, rfl, .inr ⟨b, ys, rfl, lb, ?_⟩⟩
      refine ⟨_, rfl, a, C, dx, _, .ref t, rfl, ha, M.cl, M.n1, rfl, t, rfl, ⟨_, SqT.of ht⟩, fun D hD => ?_⟩
      refine lc_tup (xs := xs.map V.str) (fun i H' => Same H H' ∧ H' D = some (.lst (((xs.take i).filter fun x => decide (x ∈ ys)).map V.str))) ⟨same_upd hD, upd_same⟩ (fun i H' _ q => SqT.of (q.1 _ _ ht)) ?_ ?_
      · rintro i v H1 hv ⟨sm, hL⟩
        rw [List.getElem?_map] at hv
        obtain ⟨x, hx, rfl⟩ := Option.map_eq_some_iff.mp hv
        obtain ⟨ny, m4, sy, dy, u, hb, hu⟩ := id (lb.same sm)
        have i4 : i < xs.length := (List.getElem?_eq_some_iff.mp hx).1
        refine ⟨rfl, _, rfl, _, rfl, b, dy, _, rfl, hb, b, dy, _, .ref u, rfl, hb, rfl, u, _, rfl, .inr (SqT.of hu), rfl, flat_all ys, decide (x ∈ ys), ?_, ?_⟩
        · rw [if_neg Bool.false_ne_true, inV_str]
        show (if decide (x ∈ ys) = true then _ else _)
        by_cases m : x ∈ ys
        · rw [decide_eq_true m, if_pos rfl]
          refine ⟨_, rfl, _, hL, ?_, fun b o q => ?_, ?_⟩
          · rw [List.length_map]
            have := List.length_filter_le (fun x => decide (x ∈ ys)) (xs.take i)
            rw [List.length_take] at this
            rw [sizeLine_eq]
            omega
          · rw [upd_ne (ne_of_none q hD)]
            exact sm b o q
          · rw [upd_same, take_snoc hx, List.filter_append, List.filter_cons_of_pos (by exact decide_eq_true m), List.filter_nil, List.map_append]
            rfl
        · rw [decide_eq_false m, if_neg Bool.false_ne_true]
          refine ⟨sm, ?_⟩
          rw [take_snoc hx, List.filter_append, List.filter_cons_of_neg (by simpa using m), List.filter_nil, List.append_nil]
          exact hL
      · rintro H1 ⟨s1, hL⟩
        rw [List.length_map, List.take_of_length_le (Nat.le_refl _)] at hL
        refine ⟨_, rfl, D, _, rfl, .inr (SqL.of hL), fun z dz hz hd ne => ?_⟩
        have nf : (xs.filter fun x => decide (x ∈ ys)).all isNm = true := List.all_eq_true.mpr fun x hx => List.all_eq_true.mp nx x (List.mem_filter.mp hx |>.1)
        refine mk_any (asksM nf sz (fun l => badM_of s1 (kb l)) fun l H' z s2 hz lz => k l H' z (s1.trans s2) (s1.free hz) lz) ?_ hz hd ne
        rw [List.length_map]
        have := List.length_filter_le (fun x => decide (x ∈ ys)) xs
        omega
end
end K13
namespace K13
open PySem L2 SR
theorem ix_of {K : PySem.W.Frag} {H : Hp} {p : Addr} {xs : List V} {i : Int} {v : V} {Q : VK} (h : SqL K H p xs ∨ SqT K H p xs) (e : atI xs i = some v) (q : Q v H) : rIx K (.ref p) (.int i) H Q :=
  h.elim (fun s => .inl ⟨p, xs, i, v, rfl, rfl, s, e, q⟩) fun s => .inr (.inl ⟨p, xs, i, v, rfl, rfl, s, e, q⟩)
theorem shL (ds : List Str) (h : ∀ x ∈ ds, PyData.strOk x = true) : SeqAt.shaped (.list (ds.map PyData.str)) = true := by
  obtain ⟨h1, h2⟩ := canT ds h
  unfold SeqAt.shaped
  have e1 : PyData.canLay0 (.list (ds.map PyData.str)) = true := by rw [PyData.canLay0]; exact h1
  have e2 : PyData.depth (.list (ds.map PyData.str)) = 1 := by rw [PyData.depth, h2]
  rw [e1, e2]
  rfl
theorem eqvL (ds es : List Str) : PyData.eqv (.list (ds.map PyData.str)) (.list (es.map PyData.str)) = decide (ds = es) := by rw [PyData.eqv]; exact eqvTS ds es
section
variable {P : Program} {w : World} {K : PySem.W.Frag} {mg : Str → Option Value} {base : Heap}
/-! ### _law_made -/
def spMade (C : Addr) : Sp := fun vs H Q _ => ∃ (p : Addr) (ts ys : List Str), vs = [.ref p] ∧ H p = some (.lst (ts.map V.str)) ∧ ts.length ≤ 5 ∧ ts.all isNm = true ∧ Srt ts ys ∧ ys.length ≤ 4 ∧ ∀ H' z, Same H H' → H z = none → Lb C H' z ys → Q (.ref z) H'
theorem scMd : FnScope ["_law_marks"] ["_law_marks"] (defScope sMade) := ⟨rfl, rfl, rfl, by decide +kernel, rfl, by decide +kernel, by decide +kernel⟩
theorem ok_made {C f CN fN CM fM f1 : Addr} {fd dN dM d1 : FuncData} (F : Fun K "_law_made" "_law_made" sMade f1 d1) (L : LabC K mg C f CN fN CM fM fd dN dM) (Z : Zn mg)
    (GI : FnR P w K mg base (L2.CX P w) 3 f (fun vs H Q E => ∃ ws rest, vs = ws ++ rest ∧ ws.length = ([("self" : Str)]).length ∧ rest.length ≤ sizeLine ∧ ∀ p, H p = Option.none → spInit K C CN CM (ws ++ [V.ref p]) (upd H p (.tup rest)) Q E)) : FnOk P w K mg base (L2.CX P w) 5 f1 d1 ["_law_marks"] (spMade C) := by
  refine F.okX scMd (fun vs H Q E h => ?_) (fun cdv A outer_ s H vs Q E hr h => ?_)
  · obtain ⟨p, ts, ys, rfl, _⟩ := h
    rfl
  · obtain ⟨p, ts, ys, rfl, hL, l5, nms, sr, l4, k⟩ := h
    have un : (A.deeper (PyProof.Rows.envOfC "_law_made" (defScope sMade) s.heap.objs.size f1 cdv)).units + 64 < cLine := by have := hr.units; omega
    refine ⟨_, pss_cons (ps_if (pt_cmpR (op_eqD un) (pv 0) (pe_lst pa_nil) (nomark _)) (pss_one (ps_ret (pe_make0 (E := E) L.mkr GI hr (by rfl) L.m (CmS.passE (takes_of rfl rfl rfl rfl))))) pss_nil)
      (pss_cons (ps_if (pt_cmpR op_eq (pe_callB call_len_seq (by rfl) Z.zLen PySem.boot_len (pa_cons (pv 0) pa_nil)) pe_int (nomark _)) (pss_one (ps_ret (StX.pe_makeR (E := E) L.mkr GI hr (by rfl) L.m (CmS.passE (takes_of rfl rfl rfl rfl)) (pa_cons (pe_ix ix_seq (pv 0) pe_int (fun _ _ => rfl)) pa_nil)))) pss_nil)
      (pss_cons (ps_if (pt_cmpR op_eq (pe_callB call_len_seq (by rfl) Z.zLen PySem.boot_len (pa_cons (pv 0) pa_nil)) pe_int (nomark _)) (pss_one (ps_ret (StX.pe_makeR (E := E) L.mkr GI hr (by rfl) L.m (CmS.passE (takes_of rfl rfl rfl rfl)) (pa_cons (pe_ix ix_seq (pv 0) pe_int (fun _ _ => rfl)) (pa_cons (pe_ix ix_seq (pv 0) pe_int (fun _ _ => rfl)) pa_nil))))) pss_nil)
      (pss_cons (ps_if (pt_cmpR op_eq (pe_callB call_len_seq (by rfl) Z.zLen PySem.boot_len (pa_cons (pv 0) pa_nil)) pe_int (nomark _)) (pss_one (ps_ret (StX.pe_makeR (E := E) L.mkr GI hr (by rfl) L.m (CmS.passE (takes_of rfl rfl rfl rfl)) (pa_cons (pe_ix ix_seq (pv 0) pe_int (fun _ _ => rfl)) (pa_cons (pe_ix ix_seq (pv 0) pe_int (fun _ _ => rfl)) (pa_cons (pe_ix ix_seq (pv 0) pe_int (fun _ _ => rfl)) pa_nil)))))) pss_nil)
      (pss_cons (ps_if (pt_cmpR op_eq (pe_callB call_len_seq (by rfl) Z.zLen PySem.boot_len (pa_cons (pv 0) pa_nil)) pe_int (nomark _)) (pss_one (ps_ret (StX.pe_makeR (E := E) L.mkr GI hr (by rfl) L.m (CmS.passE (takes_of rfl rfl rfl rfl)) (pa_cons (pe_ix ix_seq (pv 0) pe_int (fun _ _ => rfl)) (pa_cons (pe_ix ix_seq (pv 0) pe_int (fun _ _ => rfl)) (pa_cons (pe_ix ix_seq (pv 0) pe_int (fun _ _ => rfl)) (pa_cons (pe_ix ix_seq (pv 0) pe_int (fun _ _ => rfl)) pa_nil))))))) pss_nil)
      (pss_one (ps_ret (StX.pe_makeR (E := E) L.mkr GI hr (by rfl) L.m (CmS.passE (takes_of rfl rfl rfl rfl)) (pa_cons (pe_ix ix_seq (pv 0) pe_int (fun _ _ => rfl)) (pa_cons (pe_ix ix_seq (pv 0) pe_int (fun _ _ => rfl)) (pa_cons (pe_ix ix_seq (pv 0) pe_int (fun _ _ => rfl)) (pa_cons (pe_ix ix_seq (pv 0) pe_int (fun _ _ => rfl)) (pa_cons (pe_ix ix_seq (pv 0) pe_int (fun _ _ => rfl)) pa_nil)))))))))))), ?_⟩
    refine ⟨_, rfl, by show 0 ≤ sizeLine; decide, fun p0 hp0 => ?_⟩
    have s1 := same_upd (o := .lst []) hp0
    have f0 : (upd H p0 (.lst [])) p0 = some (.lst []) := upd_same
    revert s1 f0
    generalize upd H p0 _ = H1
    intro s1 f0
    have nok : ∀ z ∈ ts, PyData.strOk z = true := fun z hz => nm_ok (List.all_eq_true.mp nms z hz)
    refine ⟨_, _, .lst (SqL.of (s1 _ _ hL)) (dpT ts), .lst (SqL.of f0) (dpT []), shL _ nok, shL _ (fun z hz => nomatch hz), decide (ts = []), by rw [← eqvL], ?_⟩
    have go : ∀ z dz, H1 z = none → H1 dz = none → dz ≠ z → _ := fun z dz hz hd ne => mk_any (K := K) (E := E) (CN := CN) (CM := CM) (asks0 nms sr l4 fun H' z s hz lz => k H' z (s1.trans s) (s1.free hz) lz) (by rw [List.length_map]; omega) hz hd ne
    have hS : SqL K H1 p (ts.map V.str) ∨ SqT K H1 p (ts.map V.str) := .inl (SqL.of (s1 _ _ hL))
    clear hL sr k nms nok
    match ts, l5, hS, go with
    | [], l5, hS, go =>
      refine ite2 (fun _ => ?_) (fun z => absurd (by decide) z)
      exact go
    | [x0], l5, hS, go =>
      refine ite2 (fun z => absurd z (by simp)) (fun _ => ?_)
      refine ⟨_, rfl, p, _, rfl, hS, ?_⟩
      refine ⟨rfl, _, rfl, ?_⟩
      refine ite2 (fun _ => ?_) (fun z => absurd (by simp) z)
      refine ⟨_, rfl, ix_of hS rfl ?_⟩
      exact go
    | [x0, x1], l5, hS, go =>
      refine ite2 (fun z => absurd z (by simp)) (fun _ => ?_)
      refine ⟨_, rfl, p, _, rfl, hS, ?_⟩
      refine ⟨rfl, _, rfl, ?_⟩
      refine ite2 (fun z => absurd z (by simp)) (fun _ => ?_)
      refine ⟨_, rfl, p, _, rfl, hS, ?_⟩
      refine ⟨rfl, _, rfl, ?_⟩
      refine ite2 (fun _ => ?_) (fun z => absurd (by simp) z)
      refine ⟨_, rfl, ix_of hS rfl ?_⟩
      refine ⟨_, rfl, ix_of hS rfl ?_⟩
      exact go
    | [x0, x1, x2], l5, hS, go =>
      refine ite2 (fun z => absurd z (by simp)) (fun _ => ?_)
      refine ⟨_, rfl, p, _, rfl, hS, ?_⟩
      refine ⟨rfl, _, rfl, ?_⟩
      refine ite2 (fun z => absurd z (by simp)) (fun _ => ?_)
      refine ⟨_, rfl, p, _, rfl, hS, ?_⟩
      refine ⟨rfl, _, rfl, ?_⟩
      refine ite2 (fun z => absurd z (by simp)) (fun _ => ?_)
      refine ⟨_, rfl, p, _, rfl, hS, ?_⟩
      refine ⟨rfl, _, rfl, ?_⟩
      refine ite2 (fun _ => ?_) (fun z => absurd (by simp) z)
      refine ⟨_, rfl, ix_of hS rfl ?_⟩
      refine ⟨_, rfl, ix_of hS rfl ?_⟩
      refine ⟨_, rfl, ix_of hS rfl ?_⟩
      exact go
    | [x0, x1, x2, x3], l5, hS, go =>
      refine ite2 (fun z => absurd z (by simp)) (fun _ => ?_)
      refine ⟨_, rfl, p, _, rfl, hS, ?_⟩
      refine ⟨rfl, _, rfl, ?_⟩
      refine ite2 (fun z => absurd z (by simp)) (fun _ => ?_)
      refine ⟨_, rfl, p, _, rfl, hS, ?_⟩
      refine ⟨rfl, _, rfl, ?_⟩
      refine ite2 (fun z => absurd z (by simp)) (fun _ => ?_)
      refine ⟨_, rfl, p, _, rfl, hS, ?_⟩
      refine ⟨rfl, _, rfl, ?_⟩
      refine ite2 (fun z => absurd z (by simp)) (fun _ => ?_)
      refine ⟨_, rfl, p, _, rfl, hS, ?_⟩
      refine ⟨rfl, _, rfl, ?_⟩
      refine ite2 (fun _ => ?_) (fun z => absurd (by simp) z)
      refine ⟨_, rfl, ix_of hS rfl ?_⟩
      refine ⟨_, rfl, ix_of hS rfl ?_⟩
      refine ⟨_, rfl, ix_of hS rfl ?_⟩
      refine ⟨_, rfl, ix_of hS rfl ?_⟩
      exact go
    | [x0, x1, x2, x3, x4], l5, hS, go =>
      refine ite2 (fun z => absurd z (by simp)) (fun _ => ?_)
      refine ⟨_, rfl, p, _, rfl, hS, ?_⟩
      refine ⟨rfl, _, rfl, ?_⟩
      refine ite2 (fun z => absurd z (by simp)) (fun _ => ?_)
      refine ⟨_, rfl, p, _, rfl, hS, ?_⟩
      refine ⟨rfl, _, rfl, ?_⟩
      refine ite2 (fun z => absurd z (by simp)) (fun _ => ?_)
      refine ⟨_, rfl, p, _, rfl, hS, ?_⟩
      refine ⟨rfl, _, rfl, ?_⟩
      refine ite2 (fun z => absurd z (by simp)) (fun _ => ?_)
      refine ⟨_, rfl, p, _, rfl, hS, ?_⟩
      refine ⟨rfl, _, rfl, ?_⟩
      refine ite2 (fun z => absurd z (by simp)) (fun _ => ?_)
      refine ⟨_, rfl, ix_of hS rfl ?_⟩
      refine ⟨_, rfl, ix_of hS rfl ?_⟩
      refine ⟨_, rfl, ix_of hS rfl ?_⟩
      refine ⟨_, rfl, ix_of hS rfl ?_⟩
      refine ⟨_, rfl, ix_of hS rfl ?_⟩
      exact go
    | _ :: _ :: _ :: _ :: _ :: _ :: _, l5, _, _ => simp at l5
end
end K13
namespace K13
open PySem L2 SR
/-! ### drawing -/
theorem lit_letters : Str.ofString "abcdefghijklmnopqrstuvwxyz" = txt abc := by decide +kernel
theorem join_signs : ∀ ts : Tx, Str.join (txt []) (ts.map fun c => txt [c]) = txt ts
  | [] => rfl
  | [c] => rfl
  | c :: u :: r => by
    have ih := join_signs (u :: r)
    show txt [c] ++ txt [] ++ Str.join (txt []) ((u :: r).map fun c => txt [c]) = _
    rw [ih, txt_app, txt_app]
    rfl
theorem join_of (ts : Tx) : Txt.join (txt []) (ts.map fun c => txt [c]) = txt ts := (join_is _ _).trans (join_signs ts)
theorem sum_signs (ts : Tx) : ((ts.map fun c => txt [c]).map (·.length)).sum = ts.length := by
  induction ts with
  | nil => rfl
  | cons t r ih =>
    show (txt [t]).length + ((r.map fun c => txt [c]).map (·.length)).sum = r.length + 1
    rw [ih, txt_len]
    show 1 + r.length = _
    omega
theorem Kp.put {r D : Addr} {H H2 : Hp} {o : HO} (k : Kp r H H2) (hD : H D = none) (n : D ≠ r) : Kp r H (upd H2 D o) :=
  ⟨fun b u hb e => by rw [upd_ne (ne_of_none e hD)]; exact k.1 b u hb e, fun g => by
    obtain ⟨x, y, h, q⟩ := k.2 g
    exact ⟨x, y, by rw [upd_ne (Ne.symm n)]; exact h, q⟩⟩
theorem Rg.ne {H : Hp} {r D : Addr} (g : Rg H r) (h : H D = none) : D ≠ r := by
  obtain ⟨x, y, e, _⟩ := g
  exact (ne_of_none e h).symm
def Acc (p : Nat → Bool) (D : Addr) (H : Hp) (i : Nat) : Prop := ∃ acc : Tx, H D = some (.lst (acc.map fun c => tv [c])) ∧ acc.all p = true ∧ acc.length = i
theorem Acc.nil (p : Nat → Bool) (D : Addr) (H : Hp) : Acc p D (upd H D (.lst [])) 0 := ⟨[], upd_same, rfl, rfl⟩
theorem Acc.more {p : Nat → Bool} {D : Addr} {H2 : Hp} {i c : Nat} {acc : Tx} (h2 : acc.all p = true) (h4 : acc.length = i) (hc : p c = true) : Acc p D (upd H2 D (.lst (acc.map (fun c => tv [c]) ++ [tv [c]]))) (i + 1) :=
  ⟨acc ++ [c], by rw [upd_same, List.map_append]; rfl, by rw [List.all_append, h2]; show (true && (p c && true)) = true; rw [hc]; rfl, by rw [List.length_append, h4]; rfl⟩
theorem strs_of (acc : Tx) : acc.map (fun c => tv [c]) = (acc.map fun c => txt [c]).map V.str := by rw [List.map_map]; rfl
theorem nm_of {l : Tx} (h1 : l.length ≤ 8) (h2 : l ≠ []) (h3 : l.all low = true) : nmC l = true := by
  unfold nmC
  rw [decide_eq_true h1, decide_eq_false h2, h3]
  rfl
theorem cut_to (u : Tx) (a : Nat) : cutS (txt u) none (some (a : Int)) = txt (u.take a) := by
  unfold cutS
  rw [HT.sIx_none, HT.sIx_nat, txt_len, List.drop_zero, Nat.sub_zero]
  show (⟨(u.take (min a u.length)).toArray⟩ : Str) = ⟨(u.take a).toArray⟩
  congr 2
  by_cases h : a ≤ u.length
  · rw [Nat.min_eq_left h]
  · rw [Nat.min_eq_right (by omega), List.take_of_length_le (Nat.le_refl _), List.take_of_length_le (by omega)]

theorem sub_le {α : Type} [BEq α] [LawfulBEq α] : ∀ (l m : List α), l.Nodup → (∀ y ∈ l, y ∈ m) → l.length ≤ m.length := fun l => by
  induction l with
  | nil => intro m _ _; exact Nat.zero_le _
  | cons x r ih =>
    intro m nd sub
    have nd' := List.nodup_cons.mp nd
    have hx := sub x List.mem_cons_self
    have := ih (m.erase x) nd'.2 fun y hy => (List.mem_erase_of_ne fun e : y = x => nd'.1 (e ▸ hy)).mpr (sub y (List.mem_cons_of_mem _ hy))
    rw [List.length_erase_of_mem hx] at this
    have pos := List.length_pos_of_mem hx
    rw [List.length_cons]
    omega
/-- not among these -/
def sel (us : List Tx) (x : Tx) : Bool := !decide (txt x ∈ us.map txt)
theorem sel_not {us : List Tx} {x : Tx} (h : sel us x = true) : x ∉ us := fun m => by
  unfold sel at h
  rw [decide_eq_true (List.mem_map.mpr ⟨x, m, rfl⟩)] at h
  cases h
theorem tvs_eq (us : List Tx) : us.map tv = (us.map txt).map V.str := by rw [List.map_map]; rfl
def near (w : Tx) : List Tx := w :: abc.map fun c => w.take 7 ++ [c]
theorem abc_nd : abc.Nodup := by decide +kernel
theorem near_free (w : Tx) {us : List Tx} (l : us.length ≤ 20) : (near w).filter (sel us) ≠ [] := fun e => by
  have all : ∀ x ∈ near w, x ∈ us := fun x hx => by
    have := List.filter_eq_nil_iff.mp e x hx
    have m : txt x ∈ us.map txt := by
      unfold sel at this
      simpa using this
    obtain ⟨y, hy, ey⟩ := List.mem_map.mp m
    rw [← txt_inj ey]
    exact hy
  have nd : (abc.map fun c => w.take 7 ++ [c]).Nodup := by
    refine List.Pairwise.map _ (fun a b n e => n ?_) abc_nd
    exact List.singleton_inj.mp (List.append_cancel_left e)
  have := sub_le (abc.map fun c => w.take 7 ++ [c]) us nd fun y hy => all y (List.mem_cons_of_mem _ hy)
  rw [List.length_map, abc_all.2] at this
  omega
theorem near_nm {w : Tx} (h1 : w.length ≤ 8) (h2 : w ≠ []) (h3 : w.all low = true) : ∀ x ∈ near w, nmC x = true := fun x hx => by
  rcases List.mem_cons.mp hx with rfl | hx
  · exact nm_of h1 h2 h3
  · obtain ⟨c, hc, rfl⟩ := List.mem_map.mp hx
    refine nm_of (by rw [List.length_append, List.length_take, List.length_singleton]; omega) (by simp) ?_
    rw [List.all_append, List.all_cons, List.all_nil, List.all_eq_true.mp abc_all.1 c hc]
    rw [show (w.take 7).all low = true from List.all_eq_true.mpr fun y hy => List.all_eq_true.mp h3 y (List.mem_of_mem_take hy)]
    rfl
section
variable {P : Program} {w : World} {K : PySem.W.Frag} {mg : Str → Option Value} {base : Heap}
/-! ### _law_word -/
abbrev nWo : List Str := ["_law_rng_here", "_law_used", "_law_letters", "_law_word_here", "_law_near", "_law_k", "_law_sign", "_law_one"]
theorem scWo : FnScope nWo ["_law_rng_here", "_law_used"] (defScope sWord) := ⟨rfl, rfl, rfl, by decide +kernel, rfl, by decide +kernel, by decide +kernel⟩
def spWord : Sp := fun vs H Q _ => ∃ (r p : Addr) (us : List Tx), vs = [.ref r, .ref p] ∧ Rg H r ∧ H p = some (.lst (us.map tv)) ∧ p ≠ r ∧ us.length ≤ 20 ∧ ∀ H' x, Kp r H H' → nmC x = true → x ∉ us → Q (tv x) H'
theorem ok_word {f fD fC : Addr} {fd dD dC : FuncData} (F : Fun K "_law_word" "_law_word" sWord f fd) (B : BEnv mg) (AD : At K mg "_law_draw" sDraw ["_law_rng_here", "_law_many"] fD dD) (AC : At K mg "_law_choice" sChoice ["_law_rng_here", "_law_options"] fC dC) :
    FnOk P w K mg base CX0 3 f fd ["_law_rng_here", "_law_used"] spWord := by
  have GD : FnOk P w K mg base CX0 1 fD dD ["_law_rng_here", "_law_many"] spDraw := ok_draw AD.F B
  have GC : FnOk P w K mg base CX0 2 fC dC ["_law_rng_here", "_law_options"] (spChoice K) := ok_choice AC.F B AD
  refine F.ok scWo (fun vs H Q E h => ?_) (fun cdv A outer_ s H vs Q E hr h => ?_)
  · obtain ⟨r, p, us, rfl, _⟩ := h
    rfl
  · obtain ⟨r, p, us, rfl, g, hp, npr, ul, k⟩ := h
    have hr1 := hr.mono (j := 1) (by decide)
    refine ⟨_, pss_cons (ps_set (i := 2) scWo.nd rfl (Or.inr rfl) pe_str)
      (pss_cons (ps_set (i := 3) scWo.nd rfl (Or.inr rfl) (pe_join pe_str (pe_lc (own := [("_law_k", 5)]) (g := gName 5) (tt := tYes) rfl scWo.nd (pi_range1 rfl B.zRange (pa_cons (pe_call GC hr (by rfl) AC.m AC.F.kp AC.b .nil pass0 (pa_cons (pv 0) (pa_cons (pe_lst (pa_cons pe_int (pa_cons pe_int (pa_cons pe_int (pa_cons pe_int pa_nil))))) pa_nil))) pa_nil))
          (blkOk_by (N := nWo) (sc := defScope sWord) (by decide +kernel)) (fun _ _ _ _ _ => pg_name (i := 5) scWo.nd rfl (Or.inl rfl)) (fun _ _ _ _ _ => pts_nil) (fun _ _ _ _ _ => pe_ix ix_str (pv 2) (pe_call GD hr1 (by rfl) AD.m AD.F.kp AD.b .nil pass0 (pa_cons (pv 0) (pa_cons pe_int pa_nil))) (fun _ _ => rfl)))))
      (pss_cons (ps_set (i := 4) scWo.nd rfl (Or.inl rfl) (pe_op op_cat (pe_lst (pa_cons (pv 3) pa_nil)) (pe_lc (own := [("_law_sign", 6)]) (g := gName 6) (tt := tYes) rfl scWo.nd (pi_str (pv 2)) (blkOk_by (N := nWo) (sc := defScope sWord) (by decide +kernel)) (fun _ _ _ _ _ => pg_name (i := 6) scWo.nd rfl (Or.inl rfl)) (fun _ _ _ _ _ => pts_nil)
          (fun _ _ _ _ _ => pe_op op_add_str (pe_slice sl_str (pv 3) po_none (po_some pe_int)) (pv 6)))))
      (pss_one (ps_ret (pe_ix ix_seq (pe_lc (own := [("_law_one", 7)]) (g := gName 7) (tt := tTest (tOp (rIn K true) (tVar 7) (tVar 1))) rfl scWo.nd (pi_list (pv 4)) (blkOk_by (N := nWo) (sc := defScope sWord) (by decide +kernel)) (fun _ _ _ _ _ => pg_name (i := 7) scWo.nd rfl (Or.inl rfl))
          (fun _ _ _ _ _ => pts_one (pt_cmpR (show OpR _ (compareOp .NotIn) (rIn K true) from op_notIn_seq) (pv 7) (pv 1) (by rfl))) (fun _ _ _ _ _ => pv 7)) pe_int (fun _ _ => rfl)))))), ?_⟩
    rw [lit_letters, lit_nil]
    have hsl : sizeLine = 16777216 := sizeLine_eq
    refine ⟨⟨_, rfl⟩, _, rfl, by show 4 ≤ sizeLine; omega, fun o ho => ?_⟩
    have s1 := same_upd (o := .lst [V.int 1, V.int 1, V.int 2, V.int 8]) ho
    have f1 : (upd H o (.lst [V.int 1, V.int 1, V.int 2, V.int 8])) o = some (.lst [V.int 1, V.int 1, V.int 2, V.int 8]) := upd_same
    have no : o ≠ r := g.ne ho
    revert s1 f1
    generalize upd H o _ = H1
    intro s1 f1
    have k1 : Kp r H H1 := Kp.of_same s1
    have g1 := k1.2 g
    refine ⟨r, .ref o, rfl, g1, .inl ⟨o, _, rfl, f1, no, by simp, by show 4 ≤ big; decide, fun H2 x k2 hx => ?_⟩⟩
    have hm : ∃ m : Nat, x = .int (m : Int) ∧ 1 ≤ m ∧ m ≤ 8 := by
      revert hx
      simp only [List.mem_cons, List.not_mem_nil, or_false]
      rintro (rfl | rfl | rfl | rfl)
      · exact ⟨1, rfl, by decide, by decide⟩
      · exact ⟨1, rfl, by decide, by decide⟩
      · exact ⟨2, rfl, by decide, by decide⟩
      · exact ⟨8, rfl, by decide, by decide⟩
    obtain ⟨m, rfl, m1, m8⟩ := hm
    have k12 := k1.trans k2
    have g2 := k12.2 g
    refine ⟨(m : Int), rfl, by omega, by omega, fun D hD => ?_⟩
    have hDr := g2.ne hD
    show ∃ W, _
    rw [Int.toNat_natCast]
    refine lc_range (lo := 0) (n := m) (fun i H' => Kp r H2 H' ∧ Acc low D H' i) ⟨Kp.of_same (same_upd hD), Acc.nil low D H2⟩ ?_ ?_
    · rintro i H' hi ⟨ki, acc, hL, h2, h4⟩
      refine ⟨rfl, _, rfl, _, rfl, r, 26, rfl, ki.2 g2, by decide, by decide, fun H4 n k4 hn => ?_⟩
      have hv : abc[n]? = some (abc[n]'(by rw [abc_all.2]; exact hn)) := List.getElem?_eq_getElem _
      refine ⟨_, _, _, rfl, rfl, by rw [txt_len, abc_all.2]; omega, atI_nat hv, ?_⟩
      exact ⟨_, k4.1 D _ hDr hL, (by rw [List.length_map, h4]; omega), (ki.trans k4).put hD hDr, Acc.more h2 h4 (List.all_eq_true.mp abc_all.1 _ (List.getElem_mem _))⟩
    rintro H3 ⟨k3, acc, hL, h2, h4⟩
    rw [strs_of] at hL
    refine ⟨_, D, acc.map (fun c => txt [c]), rfl, rfl, .inl (SqL.of hL), ?_, ?_⟩
    · rw [sum_signs, List.length_map, txt_len]
      show acc.length + acc.length * 0 ≤ 16777216
      omega
    rw [join_of]
    have a0 : acc ≠ [] := fun e => by rw [e] at h4; exact absurd h4.symm (by show m ≠ 0; omega)
    have a8 : acc.length ≤ 8 := by omega
    have k13 := k12.trans k3
    clear hL k3 hD g2 k2 hDr hx s1 f1 ho g1 k1 k12
    have g3 := k13.2 g
    -- near
    refine ⟨_, rfl, by show 1 ≤ sizeLine; omega, fun l1 hl1 => ?_⟩
    have s4 := same_upd (o := .lst [tv acc]) hl1
    have f4 : (upd H3 l1 (.lst [tv acc])) l1 = some (.lst [tv acc]) := upd_same
    revert s4 f4
    generalize upd H3 l1 _ = H4
    intro s4 f4
    refine ⟨_, rfl, _, rfl, fun D2 hD2 => ?_⟩
    refine lc_it (walk_str (z := txt abc)) (fun i H' => Same H4 H' ∧ H' D2 = some (.lst (((abc.map fun c => acc.take 7 ++ [c]).take i).map tv))) ⟨same_upd hD2, upd_same⟩ (fun _ _ _ _ => trivial) ?_ ?_
    · rintro i x H5 H6 hi ⟨sm, hM⟩ ⟨rfl, c, hc, rfl⟩
      have hc' : abc[i]? = some c := by
        have z : abc.toArray[i]? = some c := hc
        simpa using z
      have e7 : cutS (txt acc) none (some 7) = txt (acc.take 7) := cut_to acc 7
      have l7 : (acc.take 7).length ≤ 7 := by rw [List.length_take]; omega
      refine ⟨rfl, _, rfl, 7, rfl, _, rfl, by rw [txt_len]; omega, _, rfl, _, _, rfl, rfl, ?_, _, hM, ?_, fun b o q => ?_, ?_⟩
      · rw [e7, txt_len]
        show _ + 1 ≤ _
        omega
      · rw [List.length_map, List.length_take, List.length_map, abc_all.2]
        omega
      · rw [upd_ne (ne_of_none q hD2)]
        exact sm b o q
      · rw [upd_same, take_snoc (x := acc.take 7 ++ [c]) (by rw [List.getElem?_map, hc']; rfl), List.map_append, e7]
        show some (HO.lst (_ ++ [V.str (txt (acc.take 7) ++ txt [c])])) = _
        rw [txt_app]
        rfl
    rintro H5 ⟨s5, hM⟩
    rw [List.take_of_length_le (by rw [List.length_map, abc_all.2]; exact Nat.le_refl _)] at hM
    have f5 := s5 _ _ f4
    refine ⟨l1, D2, _, _, rfl, rfl, f5, hM, by rw [List.length_map, List.length_map, abc_all.2]; show 1 + 26 ≤ _; omega, fun c1 hc1 => ?_⟩
    have en : [tv acc] ++ (abc.map fun c => acc.take 7 ++ [c]).map tv = (near acc).map tv := rfl
    rw [en]
    have s6 := same_upd (o := .lst ((near acc).map tv)) hc1
    have f6 : (upd H5 c1 (.lst ((near acc).map tv))) c1 = some (.lst ((near acc).map tv)) := upd_same
    revert s6 f6
    generalize upd H5 c1 _ = H6
    intro s6 f6
    have k6 : Kp r H H6 := k13.trans (Kp.of_same ((s4.trans s5).trans s6))
    have hp6 := k6.1 p _ npr hp
    have ln : (near acc).length = 27 := by
      unfold near
      rw [List.length_cons, List.length_map, abc_all.2]
    clear s4 f4 s5 hM f5 hc1 s6 hD2 hl1 k13 g3
    refine ⟨_, rfl, c1, rfl, ⟨_, SqL.of f6⟩, fun D3 hD3 => ?_⟩
    refine lc_list (xs := (near acc).map tv) (fun i H' => Same H6 H' ∧ H' D3 = some (.lst ((((near acc).take i).filter (sel us)).map tv))) ⟨same_upd hD3, upd_same⟩ (fun i H' _ q => SqL.of (q.1 _ _ f6)) ?_ ?_
    · rintro i v H' hv ⟨sm, hL⟩
      rw [List.getElem?_map] at hv
      obtain ⟨x, hx, rfl⟩ := Option.map_eq_some_iff.mp hv
      have i27 : i < 27 := by rw [← ln]; exact (List.getElem?_eq_some_iff.mp hx).1
      have hp' := sm _ _ hp6
      rw [tvs_eq] at hp'
      refine ⟨rfl, _, rfl, _, rfl, p, _, rfl, .inl (SqL.of hp'), rfl, flat_all _, sel us x, ?_, ?_⟩
      · rw [if_pos rfl]
        show V.bl (!inV (.str (txt x)) _) = _
        rw [inV_str]
        rfl
      show (if sel us x = true then _ else _)
      by_cases m : sel us x = true
      · rw [if_pos m]
        refine ⟨_, rfl, _, hL, ?_, fun b o q => ?_, ?_⟩
        · rw [List.length_map]
          have := List.length_filter_le (sel us) ((near acc).take i)
          rw [List.length_take] at this
          omega
        · rw [upd_ne (ne_of_none q hD3)]
          exact sm b o q
        · rw [upd_same, take_snoc hx, List.filter_append, List.filter_cons_of_pos m, List.filter_nil, List.map_append]
          rfl
      · rw [if_neg m]
        refine ⟨sm, ?_⟩
        rw [take_snoc hx, List.filter_append, List.filter_cons_of_neg m, List.filter_nil, List.append_nil]
        exact hL
    rintro H7 ⟨s7, hL⟩
    rw [List.length_map, List.take_of_length_le (Nat.le_refl _)] at hL
    have fr := near_free acc ul
    cases e : (near acc).filter (sel us) with
    | nil => exact absurd e fr
    | cons x rest =>
      rw [e] at hL
      have hx : x ∈ (near acc).filter (sel us) := by rw [e]; exact List.mem_cons_self
      obtain ⟨hx1, hx2⟩ := List.mem_filter.mp hx
      refine ix_of (.inl (SqL.of hL)) (show atI (tv x :: rest.map tv) ((0 : Nat) : Int) = some (tv x) from atI_nat rfl) ?_
      exact k H7 x (k6.trans (Kp.of_same s7)) (near_nm a8 a0 h2 x hx1) (sel_not hx2)
end
end K13
namespace K13
open PySem L2 SR
section
variable {P : Program} {w : World} {K : PySem.W.Frag} {mg : Str → Option Value} {base : Heap}
/-! ### _law_words -/
def spWords : Sp := fun vs H Q _ => ∃ (r : Addr) (m : Nat), vs = [.ref r, .int (m : Int)] ∧ Rg H r ∧ m ≤ 20 ∧ ∀ H' p (ws : List Tx), Kp r H H' → H p = none → p ≠ r → H' p = some (.lst (ws.map tv)) → ws.length = m → ws.Nodup → (∀ x ∈ ws, nmC x = true) → Q (.ref p) H'
abbrev nWs : List Str := ["_law_rng_here", "_law_many", "_law_found", "_law_k"]
theorem scWs : FnScope nWs ["_law_rng_here", "_law_many"] (defScope sWords) := ⟨rfl, rfl, rfl, by decide +kernel, rfl, by decide +kernel, by decide +kernel⟩
theorem ok_words {f fW fD fC : Addr} {fd dW dD dC : FuncData} (F : Fun K "_law_words" "_law_words" sWords f fd) (B : BEnv mg) (AD : At K mg "_law_draw" sDraw ["_law_rng_here", "_law_many"] fD dD) (AC : At K mg "_law_choice" sChoice ["_law_rng_here", "_law_options"] fC dC) (AW : At K mg "_law_word" sWord ["_law_rng_here", "_law_used"] fW dW) :
    FnOk P w K mg base CX0 4 f fd ["_law_rng_here", "_law_many"] spWords := by
  have GW : FnOk P w K mg base CX0 3 fW dW ["_law_rng_here", "_law_used"] spWord := ok_word AW.F B AD AC
  refine F.ok scWs (fun vs H Q E h => ?_) (fun cdv A outer_ s H vs Q E hr h => ?_)
  · obtain ⟨r, m, rfl, _⟩ := h
    rfl
  · obtain ⟨r, m, rfl, g, m20, k⟩ := h
    refine ⟨_, pss_cons (ps_set (i := 2) scWs.nd rfl (Or.inl rfl) (pe_lst pa_nil))
      (pss_cons (ps_for PassesOwn.never rfl (pi_range1 (by rfl) B.zRange (pa_cons (pv 1) pa_nil)) (pg_name (i := 3) scWs.nd rfl (Or.inl rfl))
        (pss_one (ps_expr (pe_bm PySem.F.plainAttrs_list PySem.F.slot_list_append PySem.F.type_list_append mt_append (pv 2) (pa_cons (pe_call GW hr (by rfl) AW.m AW.F.kp AW.b .nil pass0 (pa_cons (pv 0) (pa_cons (pv 2) pa_nil))) pa_nil)))))
      (pss_one (ps_ret (pv 2)))), ?_⟩
    have hsl : sizeLine = 16777216 := sizeLine_eq
    refine ⟨by show 0 ≤ sizeLine; decide, fun q hq => ?_⟩
    have nq : q ≠ r := g.ne hq
    refine ⟨_, rfl, _, rfl, by omega, by omega, ?_⟩
    show ∃ W, _
    rw [Int.toNat_natCast]
    refine for_range (lo := 0) (n := m) (fun i σ H' => ∃ (t : Option V) (ws : List Tx), σ = [some (.ref r), some (.int (m : Int)), some (.ref q), t] ∧ Kp r H H' ∧ H' q = some (.lst (ws.map tv)) ∧ ws.length = i ∧ ws.Nodup ∧ ∀ x ∈ ws, nmC x = true)
      ⟨none, [], rfl, (Kp.refl r H).put hq nq, upd_same, rfl, .nil, fun _ h => nomatch h⟩ ?_ ?_
    · rintro i σ H' hi ⟨t, ws, rfl, kp, fq, lw, nd, nm⟩
      have g' := kp.2 g
      refine ⟨_, rfl, (.inl ⟨rfl, _, SqL.of fq⟩), _, rfl, _, rfl, r, q, ws, rfl, g', fq, nq, by omega, fun H3 x k3 nx ni => ?_⟩
      have fq3 := k3.1 q _ nq fq
      refine ⟨q, _, _, rfl, rfl, fq3, (by rw [List.length_map]; omega), ?_⟩
      refine ⟨_, ws ++ [x], rfl, (kp.trans k3).put hq nq, by rw [upd_same, List.map_append]; rfl, by rw [List.length_append, List.length_singleton, lw], ?_, fun y hy => ?_⟩
      · refine List.nodup_append.mpr ⟨nd, List.nodup_cons.mpr ⟨List.not_mem_nil, .nil⟩, fun a ha b hb e => ?_⟩
        rw [List.mem_singleton.mp hb] at e
        exact ni (e ▸ ha)
      · rcases List.mem_append.mp hy with hy | hy
        · exact nm y hy
        · rw [List.mem_singleton.mp hy]
          exact nx
    · rintro σ H' ⟨t, ws, rfl, kp, fq, lw, nd, nm⟩
      exact ⟨_, rfl, k H' q ws kp hq nq fq lw nd nm⟩
/-! ### _law_some -/
def spSome (K : PySem.W.Frag) : Sp := fun vs H Q _ => ∃ (r p : Addr) (ws : List Tx) (m : Nat), vs = [.ref r, .ref p, .int (m : Int)] ∧ Rg H r ∧ H p = some (.lst (ws.map tv)) ∧ p ≠ r ∧ ws.length ≤ 20 ∧ m ≤ ws.length ∧
  ∀ H' q (fs : List Tx), Kp r H H' → H q = none → q ≠ r → H' q = some (.lst (fs.map tv)) → fs.length = m → (ws.Nodup → fs.Nodup) → (∀ x ∈ fs, x ∈ ws) → Q (.ref q) H'
abbrev nSo : List Str := ["_law_rng_here", "_law_words_here", "_law_many", "_law_left", "_law_found", "_law_k"]
theorem scSo : FnScope nSo ["_law_rng_here", "_law_words_here", "_law_many"] (defScope sSome) := ⟨rfl, rfl, rfl, by decide +kernel, rfl, by decide +kernel, by decide +kernel⟩
theorem seq_ix {n m : Nat} (h : n < m) : seqIndex? (n : Int) m = some n := by
  unfold seqIndex?
  simp only [show ¬ ((n : Int) < 0) by omega, if_false]
  rw [if_pos]
  · simp
  · simp
    omega
theorem perm_at {α : Type} (l : List α) : ∀ (n : Nat) (h : n < l.length), (l[n] :: l.eraseIdx n).Perm l := by
  induction l with
  | nil => intro n h; exact absurd h (Nat.not_lt_zero _)
  | cons a l ih =>
    intro n h
    cases n with
    | zero => exact List.Perm.refl _
    | succ n =>
      have h' := Nat.lt_of_succ_lt_succ h
      exact (List.Perm.swap a (l[n]'h') _).trans ((ih n h').cons a)
theorem erase_at {α β : Type} (f : α → β) (l : List α) : ∀ n : Nat, (l.map f).eraseIdx n = (l.eraseIdx n).map f := by
  induction l with
  | nil => intro n; rfl
  | cons a l ih =>
    intro n
    cases n with
    | zero => rfl
    | succ n => exact congrArg (f a :: ·) (ih n)
theorem ok_some {f fD : Addr} {fd dD : FuncData} (F : Fun K "_law_some" "_law_some" sSome f fd) (B : BEnv mg) (zL : mg "list" = none) (AD : At K mg "_law_draw" sDraw ["_law_rng_here", "_law_many"] fD dD) : FnOk P w K mg base CX0 2 f fd ["_law_rng_here", "_law_words_here", "_law_many"] (spSome K) := by
  have GD : FnOk P w K mg base CX0 1 fD dD ["_law_rng_here", "_law_many"] spDraw := ok_draw AD.F B
  refine F.ok scSo (fun vs H Q E h => ?_) (fun cdv A outer_ s H vs Q E hr h => ?_)
  · obtain ⟨r, p, ws, m, rfl, _⟩ := h
    rfl
  · obtain ⟨r, p, ws, m, rfl, g, hp, npr, wl, ml, k⟩ := h
    refine ⟨_, pss_cons (ps_par (i := 3) (j := 4) rfl scSo.nd rfl rfl (by decide) rfl rfl (pa_cons (pe_callTy call_list_of (by rfl) zL (by decide +kernel) (pa_cons (pv 1) pa_nil)) (pa_cons (pe_lst pa_nil) pa_nil)) rfl)
      (pss_cons (ps_for PassesOwn.never rfl (pi_range1 (by rfl) B.zRange (pa_cons (pv 2) pa_nil)) (pg_name (i := 5) scSo.nd rfl (Or.inl rfl))
        (pss_one (ps_expr (pe_bm PySem.F.plainAttrs_list PySem.F.slot_list_append PySem.F.type_list_append mt_append (pv 4) (pa_cons (pe_bm PySem.F.plainAttrs_list PySem.F.slot_list_pop PySem.F.type_list_pop mt_popAt (pv 3) (pa_cons (pe_call GD hr (by rfl) AD.m AD.F.kp AD.b .nil pass0 (pa_cons (pv 0) (pa_cons (pe_callB call_len_seq (by rfl) B.zLen PySem.boot_len (pa_cons (pv 3) pa_nil)) pa_nil))) pa_nil)) pa_nil)))))
      (pss_one (ps_ret (pv 4)))), ?_⟩
    have hsl : sizeLine = 16777216 := sizeLine_eq
    have hb : big = 1000000 := rfl
    refine ⟨_, rfl, p, _, rfl, .inl (SqL.of hp), fun l hl => ?_⟩
    have s1 := same_upd (o := .lst (ws.map tv)) hl
    have f1 : (upd H l (.lst (ws.map tv))) l = some (.lst (ws.map tv)) := upd_same
    have nl : l ≠ r := g.ne hl
    revert s1 f1
    generalize upd H l _ = H1
    intro s1 f1
    have k1 : Kp r H H1 := Kp.of_same s1
    have g1 := k1.2 g
    refine ⟨by show 0 ≤ sizeLine; omega, fun q hq => ?_⟩
    have nq : q ≠ r := g1.ne hq
    have hq0 : H q = none := s1.free hq
    have lq : l ≠ q := ne_of_none f1 hq
    have s2 := same_upd (o := .lst []) hq
    have f2 : (upd H1 q (.lst [])) q = some (.lst []) := upd_same
    revert s2 f2
    generalize upd H1 q _ = H2
    intro s2 f2
    refine ⟨_, _, rfl, ?_⟩
    have f31 := s2 _ _ f1
    have k3 : Kp r H H2 := k1.trans (Kp.of_same s2)
    refine ⟨_, rfl, _, rfl, by omega, by omega, ?_⟩
    show ∃ W, _
    rw [Int.toNat_natCast]
    refine for_range (lo := 0) (n := m) (fun i σ H' => ∃ (t : Option V) (ps fs : List Tx), σ = [some (.ref r), some (.ref p), some (.int (m : Int)), some (.ref l), some (.ref q), t] ∧ Kp r H H' ∧ H' l = some (.lst (ps.map tv)) ∧ H' q = some (.lst (fs.map tv)) ∧ fs.length = i ∧ (fs ++ ps).Perm ws)
      ⟨none, ws, [], rfl, k3, f31, f2, rfl, List.Perm.refl _⟩ ?_ ?_
    · rintro i σ H' hi ⟨t, ps, fs, rfl, kp, fl, fq, lf, pm⟩
      have g' := kp.2 g
      have lp : ps.length = ws.length - i := by
        have := pm.length_eq
        rw [List.length_append] at this
        omega
      refine ⟨_, rfl, (.inl ⟨rfl, _, SqL.of fq⟩), _, rfl, (.inl ⟨rfl, _, SqL.of fl⟩), _, rfl, _, rfl, l, _, rfl, .inl (SqL.of fl), r, ps.length, ?_, g', by omega, by omega, fun H4 n k4 hn => ?_⟩
      · rw [List.length_map]
        rfl
      have fl4 := k4.1 l _ nl fl
      have fq4 := k4.1 q _ nq fq
      have hv : (ps.map tv)[n]? = some (tv ps[n]) := by rw [List.getElem?_map, List.getElem?_eq_getElem hn]; rfl
      refine ⟨l, _, _, n, _, rfl, rfl, fl4, by omega, by omega, seq_ix (by rw [List.length_map]; exact hn), hv, ?_⟩
      rw [erase_at]
      have fq5 : (upd H4 l (.lst ((ps.eraseIdx n).map tv))) q = some (.lst (fs.map tv)) := by rw [upd_ne (Ne.symm lq)]; exact fq4
      have fl5 : (upd H4 l (.lst ((ps.eraseIdx n).map tv))) l = some (.lst ((ps.eraseIdx n).map tv)) := upd_same
      have k5 : Kp r H (upd H4 l (.lst ((ps.eraseIdx n).map tv))) := (kp.trans k4).put hl nl
      revert fq5 fl5 k5
      generalize upd H4 l _ = H5
      intro fq5 fl5 k5
      refine ⟨q, _, _, rfl, rfl, fq5, (by rw [List.length_map]; omega), ?_⟩
      refine ⟨_, ps.eraseIdx n, fs ++ [ps[n]], rfl, k5.put hq0 nq, by rw [upd_ne lq]; exact fl5, by rw [upd_same, List.map_append]; rfl, by rw [List.length_append, List.length_singleton, lf], ?_⟩
      rw [List.append_assoc]
      exact ((List.Perm.append_left fs (perm_at ps n hn))).trans pm
    · rintro σ H' ⟨t, ps, fs, rfl, kp, fl, fq, lf, pm⟩
      refine ⟨_, rfl, k H' q fs kp hq0 nq fq lf (fun nd => ?_) fun x hx => ?_⟩
      · exact (List.nodup_append.mp (pm.nodup_iff.mpr nd)).1
      · exact pm.mem_iff.mp (List.mem_append_left _ hx)
end
end K13
namespace K13
open PySem L2 SR TAs
section
variable {P : Program} {w : World} {K : PySem.W.Frag} {mg : Str → Option Value} {base : Heap}
variable {C fL CN fN CM fM CE fE fC gE gL gS gR gH pM gM g f : Addr} {dL0 dN dM dE0 dC dE dL dS dR dH dG dO fd : FuncData}
/-! ### _law_joined -/
def JoinD (zs : List Str) (H : Hp) (q : Addr) : Prop := (4 < zs.length ∧ H q = some (.lst [.str "many", .str "marks", .int 4])) ∨ (zs.length ≤ 4 ∧ ∃ t, H q = some (.lst [.str "label", .ref t]) ∧ H t = some (.tup (zs.map V.str)))
def spJoined (C : Addr) : Sp := fun vs H Q _ => ∃ (a b : Addr) (xs ys zs : List Str), vs = [.ref a, .ref b] ∧ Lb C H a xs ∧ Lb C H b ys ∧ Srt (xs ++ ys) zs ∧ ∀ H' q, Same H H' → H q = none → JoinD zs H' q → Q (.ref q) H'
theorem scJo : FnScope ["_law_one", "_law_mate", "_law_told", "e"] ["_law_one", "_law_mate"] (defScope sJoined) := ⟨rfl, rfl, rfl, by decide +kernel, rfl, by decide +kernel, by decide +kernel⟩
theorem ok_joined (F : Fun K "_law_joined" "_law_joined" sJoined f fd) (FO : Fun K "__or__" "Label.__or__" sOrM g dO) (bO : Binds K dO ["self", "other"] []) (OB : OpO.OwnB K C g .BitOr) (AC : At K mg "check_label" sCheck ["value"] fC dC) (T : IT K mg CE fE dE0) (M : LabM K mg C gE gL gS gR gH pM gM dE dL dS dR dH dG) (Z : Zn mg)
    (L : LabC K mg C fL CN fN CM fM dL0 dN dM) (GI : FnR P w K mg base (L2.CX P w) 3 fL (fun vs H Q E => ∃ ws rest, vs = ws ++ rest ∧ ws.length = ([("self" : Str)]).length ∧ rest.length ≤ sizeLine ∧ ∀ p, H p = Option.none → spInit K C CN CM (ws ++ [V.ref p]) (upd H p (.tup rest)) Q E))
    (xf : XfC K CM) (te : PySem.W.exmOne K (.ref CM) (.ref CM) = some true) (n1 : PySem.W.findIn K (.ref CM) "kind" = some none) (n2 : PySem.W.findIn K (.ref CM) "limit" = some none) : FnOk P w K mg base CX0 6 f fd ["_law_one", "_law_mate"] (spJoined C) := by
  have GO : FnR P w K mg base (L2.CX P w) 5 g (fun vs H Q E => spTwo (· ++ ·) K C CE CM (vs ++ []) H Q E) := (ok_or FO AC T M Z L GI).raw bO .nil
  have GG : FnOk P w K mg base CX0 1 gM dG ["self"] (getSp C "_marks") := ok_get M
  refine F.ok scJo (fun vs H Q E h => ?_) (fun cdv A outer_ s H vs Q E hr h => ?_)
  · obtain ⟨a, b, xs, ys, zs, rfl, _⟩ := h
    rfl
  · obtain ⟨a, b, xs, ys, zs, rfl, la, lb, sz, k⟩ := h
    refine ⟨_, pss_cons (ps_set (i := 2) scJo.nd rfl (Or.inl rfl) (pe_lst (pa_cons pe_str pa_nil)))
      (pss_cons (TAs.ps_try (i := 3) (tb := fun W => tAsg (tLst (tCons (tC (.str "label")) (tCons (tProp C (getSp C "_marks") [] E0 (OpS.tBinS K C (fun vs H Q E => spTwo (· ++ ·) K C CE CM (vs ++ []) H Q E) (WE W) (tVar 0) (tVar 1))) tNil))) (gName 2)) (Wout := fun _ _ _ _ => False) rfl rfl scJo.nd rfl rfl takes0
        (fun W pn xe tk _ => pss_one (ps_set (i := 2) scJo.nd rfl (Or.inl rfl) (by exact (pe_lst (pa_cons pe_str (pa_cons (pe_prop (OpS.pe_binS OB M.O GO hr (fun σ => passAt tk σ) (pv 0) (pv 1)) M.cl M.pr GG (hr.mono (by decide)) M.bM .nil pass0 rfl) pa_nil))))))
        (.cons ⟨rfl, by decide, .inl L.M.m⟩ (fun a oe cls d pn hz hf => pss_one (ps_set (i := 2) scJo.nd rfl (Or.inl rfl) (pe_lst (pa_cons pe_str (pa_cons (pe_xf xf n1 hz hf (pv 3)) (pa_cons (pe_xf xf n2 hz hf (pv 3)) pa_nil)))))) .nil))
      (pss_one (ps_ret (pv 2)))), ?_⟩
    refine ⟨by show 1 ≤ sizeLine; decide, fun t0 ht0 => ?_⟩
    have sm0 : Same H (upd H t0 (.lst [.str "other"])) := same_upd ht0
    revert sm0
    generalize upd H t0 (.lst [.str "other"]) = H0
    intro sm0
    obtain ⟨da, fa, ha⟩ := (la.same sm0).ins
    obtain ⟨db, fb, hb⟩ := (lb.same sm0).ins
    refine ⟨_, rfl, _, rfl, a, da, fa, rfl, ha, .inr ⟨b, db, fb, rfl, hb⟩, a, .ref b, xs, rfl, la.same sm0, .inr ⟨b, ys, zs, rfl, lb.same sm0, sz, fun l5 H1 d fs s1 hd hx h1 h2 => ?_, fun l4 H1 z s1 hz lz => ?_⟩⟩
    · refine ⟨true, te, fun _ a0 _ => ?_, fun q => Bool.noConfusion q⟩
      refine ⟨_, rfl, rfl, rfl, d, fs, _, rfl, hx, h1, ?_⟩
      refine ⟨_, rfl, rfl, rfl, d, fs, _, rfl, hx, h2, ?_⟩
      refine ⟨by show 3 ≤ sizeLine; decide, fun q hq => ?_⟩
      exact ⟨_, rfl, k _ q ((sm0.trans s1).trans (same_upd hq)) ((sm0.trans s1).free hq) (.inl ⟨l5, upd_same⟩)⟩
    · obtain ⟨m1, m2, m3, dx, t, hi, ht⟩ := lz
      refine ⟨z, dx, _, rfl, hi, z, dx, _, .ref t, rfl, hi, rfl, ?_⟩
      refine ⟨by show 2 ≤ sizeLine; decide, fun q hq => ?_⟩
      exact ⟨_, rfl, k _ q ((sm0.trans s1).trans (same_upd hq)) ((sm0.trans s1).free hq) (.inr ⟨l4, t, upd_same, by rw [upd_ne (ne_of_none ht hq)]; exact ht⟩)⟩
end
end K13
namespace K13
open PySem L2 SR
theorem sho_str {x : Str} (h : (reprText x).length ≤ 2000) : Sho (.str x) := ⟨by simp [PyData.showable], by simpa [PyData.shown] using h, by simp [PyData.depth]⟩
theorem repr_le {l : Tx} (ha : asc l) : (reprText (txt l)).length ≤ 10 * l.length + 2 := by
  have e := StrLaws.reprText_len (txt l) (fun c hc => Nat.lt_trans (ha c hc) (by decide))
  rw [txt_len] at e
  omega
theorem sho_lit {x : Str} (h1 : (x.cps.toList.all fun c => decide (c < 128)) = true) (h2 : x.cps.toList.length ≤ 20) : Sho (.str x) := by
  rw [txt_of x]
  exact sho_str (by have := repr_le (asc_of h1); omega)
theorem shownAll_str : ∀ ys : List Str, PyData.shownAll (ys.map PyData.str) = ys.map reprText
  | [] => rfl
  | y :: r => by
    rw [List.map_cons]
    simp only [PyData.shownAll, PyData.shown, List.map_cons, shownAll_str r]
theorem showable_str : ∀ ys : List Str, PyData.showableAll (ys.map PyData.str) = true
  | [] => rfl
  | y :: r => by
    rw [List.map_cons]
    simp only [PyData.showableAll, PyData.showable, showable_str r, Bool.and_self]
theorem depth_str : ∀ ys : List Str, PyData.depthAll (ys.map PyData.str) = 0
  | [] => by simp [PyData.depthAll]
  | y :: r => by
    rw [List.map_cons]
    simp only [PyData.depthAll, PyData.depth, depth_str r]
    rfl
theorem nodict_str : ∀ ys : List Str, PyData.hasDictAll (ys.map PyData.str) = false
  | [] => rfl
  | y :: r => by
    rw [List.map_cons]
    simp only [PyData.hasDictAll, PyData.hasDict, nodict_str r, Bool.or_self]
theorem sho_names {ys : List Str} (nms : ys.all isNm = true) (l : ys.length ≤ 8) : Sho (.tuple (ys.map PyData.str)) := by
  refine ⟨by simpa only [PyData.showable] using showable_str ys, ?_, by simp only [PyData.depth, depth_str]; decide⟩
  have each : ∀ zs : List Str, (∀ y ∈ zs, isNm y = true) → ((zs.map reprText).map (·.length)).sum ≤ 82 * zs.length := fun zs => by
    induction zs with
    | nil => intro _; decide
    | cons z zs ih =>
      intro hz
      have a := repr_len8 (hz z List.mem_cons_self)
      have b := ih fun y hy => hz y (List.mem_cons_of_mem _ hy)
      rw [List.map_cons, List.map_cons, List.sum_cons, List.length_cons]
      omega
  have a := each ys fun y hy => List.all_eq_true.mp nms y hy
  have b := StrLaws.join_length_le ", " (ys.map reprText)
  have c : (", " : Str).length = 2 := by decide +kernel
  rw [c, List.length_map] at b
  simp only [PyData.shown, shownAll_str]
  unfold tupleText
  rw [strLen_append, strLen_append]
  have e1 : ("(" : Str).length = 1 := by decide +kernel
  have e2 : (Str.ofString (if (ys.map reprText).length == 1 then ",)" else ")")).length ≤ 2 := by split <;> decide +kernel
  rw [e1]
  omega
theorem th_names {K : PySem.W.Frag} {H : Hp} {t : Addr} {ys : List Str} (h : H t = some (.tup (ys.map V.str))) : Th K H (.ref t) (.tuple (ys.map PyData.str)) := .tup h (fun _ => dpT ys) (nodict_str ys)
theorem srt_nm {ts ys : List Str} (h : ts.all isNm = true) (s : Srt ts ys) : ys.all isNm = true := List.all_eq_true.mpr fun y hy => List.all_eq_true.mp h y ((s.2.2 y).mp hy)

theorem plus_txt : plus = txt [43] := by decide +kernel
theorem join_joinC : ∀ ts : List Tx, Str.join plus (ts.map txt) = txt (SP.joinC 43 ts)
  | [] => by decide +kernel
  | [p] => rfl
  | p :: q :: r => by
    have ih := join_joinC (q :: r)
    show txt p ++ plus ++ Str.join plus ((q :: r).map txt) = txt (p ++ 43 :: SP.joinC 43 (q :: r))
    rw [ih, plus_txt, txt_app, txt_app, List.append_assoc]
    rfl
theorem nm_no {t : Tx} (h : nmC t = true) : 43 ∉ t := fun z => by
  have := List.all_eq_true.mp (Bool.and_eq_true_iff.mp (Bool.and_eq_true_iff.mp h).2).2 43 z
  exact absurd this (by decide)
theorem joinC_len : ∀ ts : List Tx, (SP.joinC 43 ts).length ≤ tot ts + ts.length
  | [] => Nat.zero_le _
  | [p] => by
    show p.length ≤ _
    unfold tot
    rw [List.map_cons, List.sum_cons]
    omega
  | p :: q :: r => by
    have ih := joinC_len (q :: r)
    show (p ++ 43 :: SP.joinC 43 (q :: r)).length ≤ _
    unfold tot at ih ⊢
    rw [List.length_append, List.length_cons]
    rw [List.map_cons, List.sum_cons, List.length_cons]
    omega
theorem asc_joinC (ts : List Tx) : (∀ t ∈ ts, asc t) → asc (SP.joinC 43 ts) := by
  induction ts with
  | nil => intro _ c hc; cases hc
  | cons p r ih =>
    intro h
    cases r with
    | nil => exact h p List.mem_cons_self
    | cons q r =>
      intro c hc
      have hc' : c ∈ p ++ 43 :: SP.joinC 43 (q :: r) := hc
      rcases List.mem_append.mp hc' with hc' | hc'
      · exact h p List.mem_cons_self c hc'
      · rcases List.mem_cons.mp hc' with rfl | hc'
        · decide
        · exact ih (fun t ht => h t (List.mem_cons_of_mem _ ht)) c hc'
theorem tot_le {ts : List Tx} : (∀ t ∈ ts, nmC t = true) → tot ts ≤ 8 * ts.length := by
  induction ts with
  | nil => intro _; exact Nat.le_refl _
  | cons a s ih =>
    intro h
    have h1 : a.length ≤ 8 := of_decide_eq_true (Bool.and_eq_true_iff.mp (h a List.mem_cons_self)).1
    have h2 := ih fun t ht => h t (List.mem_cons_of_mem _ ht)
    unfold tot at h2 ⊢
    rw [List.map_cons, List.sum_cons, List.length_cons]
    omega
theorem sho_join {ys : List Str} (nms : ys.all isNm = true) (l : ys.length ≤ 8) : Sho (.str (Txt.join ("+" : Str) ys)) := by
  obtain ⟨ts, rfl⟩ := tx_of ys
  rw [nms_is] at nms
  rw [List.length_map] at l
  have nm : ∀ t ∈ ts, nmC t = true := fun t ht => List.all_eq_true.mp nms t ht
  have e : Txt.join ("+" : Str) (ts.map txt) = txt (SP.joinC 43 ts) := by
    rw [join_is]
    exact join_joinC ts
  rw [e]
  refine sho_str ?_
  have a := repr_le (asc_joinC ts fun t ht => nm_asc (nm t ht))
  have b := joinC_len ts
  have c := tot_le nm
  omega
theorem sho_namesL {ys : List Str} (nms : ys.all isNm = true) (l : ys.length ≤ 8) : Sho (.list (ys.map PyData.str)) := by
  refine ⟨by simpa only [PyData.showable] using showable_str ys, ?_, by simp only [PyData.depth, depth_str]; decide⟩
  have each : ∀ zs : List Str, (∀ y ∈ zs, isNm y = true) → ((zs.map reprText).map (·.length)).sum ≤ 82 * zs.length := fun zs => by
    induction zs with
    | nil => intro _; decide
    | cons z zs ih =>
      intro hz
      have a := repr_len8 (hz z List.mem_cons_self)
      have b := ih fun y hy => hz y (List.mem_cons_of_mem _ hy)
      rw [List.map_cons, List.map_cons, List.sum_cons, List.length_cons]
      omega
  have a := each ys fun y hy => List.all_eq_true.mp nms y hy
  simp only [PyData.shown, shownAll_str]
  unfold listText
  rw [strLen_append]
  have b := textFrom_len_le (ys.map reprText) 0 (Str.ofString "[")
  have e1 : (Str.ofString "[").length = 1 := by decide +kernel
  have e2 : (Str.ofString "]").length = 1 := by decide +kernel
  rw [e1, List.length_map] at b
  rw [e2]
  omega
theorem th_namesL {K : PySem.W.Frag} {H : Hp} {t : Addr} {ys : List Str} (h : H t = some (.lst (ys.map V.str))) : Th K H (.ref t) (.list (ys.map PyData.str)) := .lst h (fun _ => dpT ys) (nodict_str ys)
/-- a thing that is no label, as it is shown -/
def OddOk (K : PySem.W.Frag) (H : Hp) (v : V) (d : PyData) : Prop := (∃ T, EqO.BtV K H v T) ∧ Th K H v d ∧ Sho d
section
variable {P : Program} {w : World} {K : PySem.W.Frag} {mg : Str → Option Value} {base : Heap}
/-! ### _law_odd -/
abbrev nOd : List Str := ["_law_rng_here", "_law_low", "_law_text", "_law_some_here"]
theorem scOd : FnScope nOd ["_law_rng_here", "_law_low"] (defScope sOdd) := ⟨rfl, rfl, rfl, by decide +kernel, rfl, by decide +kernel, by decide +kernel⟩
def spOdd (K : PySem.W.Frag) : Sp := fun vs H Q _ => ∃ (r p : Addr) (fs : List Tx), vs = [.ref r, .ref p] ∧ Rg H r ∧ H p = some (.lst (fs.map tv)) ∧ p ≠ r ∧ fs.length ≤ 4 ∧ fs.Nodup ∧ (∀ x ∈ fs, nmC x = true) ∧
  ∀ H' v d, Kp r H H' → (∀ a, v = .ref a → a ≠ r ∧ H a = none) → OddOk K H' v d → Q v H'
theorem ok_odd {f fD fC : Addr} {fd dD dC : FuncData} (F : Fun K "_law_odd" "_law_odd" sOdd f fd) (B : BEnv mg) (zO : mg "sorted" = none) (zT : mg "tuple" = none) (zL : mg "list" = none) (AD : At K mg "_law_draw" sDraw ["_law_rng_here", "_law_many"] fD dD) (AC : At K mg "_law_choice" sChoice ["_law_rng_here", "_law_options"] fC dC) :
    FnOk P w K mg base CX0 3 f fd ["_law_rng_here", "_law_low"] (spOdd K) := by
  have GC : FnOk P w K mg base CX0 2 fC dC ["_law_rng_here", "_law_options"] (spChoice K) := ok_choice AC.F B AD
  refine F.ok scOd (fun vs H Q E h => ?_) (fun cdv A outer_ s H vs Q E hr h => ?_)
  · obtain ⟨r, p, fs, rfl, _⟩ := h
    rfl
  · obtain ⟨r, p, fs, rfl, g, hp, npr, l4, nd, nms, k⟩ := h
    refine ⟨_, pss_cons (ps_set (i := 2) scOd.nd rfl (Or.inl rfl) (pe_join pe_str (pe_callB cr_sortedS (by rfl) zO (by decide +kernel) (pa_cons (pv 1) pa_nil))))
      (pss_cons (ps_set (i := 3) scOd.nd rfl (Or.inl rfl) (pe_lst (pa_cons pe_non (pa_cons pe_int (pa_cons pe_bl (pa_cons pe_str (pa_cons pe_str (pa_cons (pv 2) (pa_cons (pe_callTy call_tuple_of (by rfl) zT (by decide +kernel) (pa_cons (pe_callB cr_sortedS (by rfl) zO (by decide +kernel) (pa_cons (pv 1) pa_nil)) pa_nil))
          (pa_cons (pe_callTy call_list_of (by rfl) zL (by decide +kernel) (pa_cons (pv 1) pa_nil)) (pa_cons (pe_lst pa_nil) (pa_cons pe_dnewK (pa_cons (pe_tup pa_nil) (pa_cons (pe_op op_pow pe_int pe_int) pa_nil))))))))))))))
      (pss_one (ps_ret (pe_call GC hr (by rfl) AC.m AC.F.kp AC.b .nil pass0 (pa_cons (pv 0) (pa_cons (pv 3) pa_nil)))))), ?_⟩
    have hsl : sizeLine = 16777216 := sizeLine_eq
    have hb : big = 1000000 := rfl
    have hz : fs.map tv = (fs.map txt).map V.str := tvs_eq fs
    rw [hz] at hp
    have zn : (fs.map txt).all isNm = true := by rw [nms_is]; exact List.all_eq_true.mpr nms
    have znd : (fs.map txt).Nodup := List.Pairwise.map _ (fun a b n e => n (txt_inj e)) nd
    refine ⟨⟨_, rfl⟩, _, rfl, p, fs.map txt, rfl, SqL.of hp, by rw [List.length_map]; omega, fun ys a1 pm srt x1 => ?_⟩
    have yl : ys.length ≤ 4 := by rw [pm.length_eq, List.length_map]; exact l4
    have yn : ys.all isNm = true := List.all_eq_true.mpr fun y hy => List.all_eq_true.mp zn y (pm.mem_iff.mp hy)
    have s1 := same_upd (o := .lst (ys.map V.str)) x1
    have f1 : (upd H a1 (.lst (ys.map V.str))) a1 = some (.lst (ys.map V.str)) := upd_same
    revert s1 f1
    generalize upd H a1 _ = G1
    intro s1 f1
    have jl : ((ys.map (·.length)).sum + ys.length * ("+" : Str).length) ≤ 100 := by
      have each : ∀ zs : List Str, (∀ y ∈ zs, isNm y = true) → (zs.map (·.length)).sum ≤ 8 * zs.length := fun zs => by
        induction zs with
        | nil => intro _; decide
        | cons z zs ih =>
          intro hz
          have a := isNm_str (hz z List.mem_cons_self)
          have b := ih fun y hy => hz y (List.mem_cons_of_mem _ hy)
          rw [List.map_cons, List.sum_cons, List.length_cons]
          omega
      have a := each ys fun y hy => List.all_eq_true.mp yn y hy
      have c : ("+" : Str).length = 1 := by decide +kernel
      rw [c]
      omega
    refine ⟨_, a1, ys, rfl, rfl, .inl (SqL.of f1), by omega, ?_⟩
    have hp1 := s1 _ _ hp
    refine ⟨_, rfl, _, rfl, p, fs.map txt, rfl, SqL.of hp1, by rw [List.length_map]; omega, fun zs a0 pz sz x0 => ?_⟩
    have zl : zs.length ≤ 4 := by rw [pz.length_eq, List.length_map]; exact l4
    have zsn : zs.all isNm = true := List.all_eq_true.mpr fun y hy => List.all_eq_true.mp zn y (pz.mem_iff.mp hy)
    have s0 := same_upd (o := .lst (zs.map V.str)) x0
    have f0 : (upd G1 a0 (.lst (zs.map V.str))) a0 = some (.lst (zs.map V.str)) := upd_same
    revert s0 f0
    generalize upd G1 a0 _ = G0
    intro s0 f0
    refine ⟨a0, _, rfl, .inl ⟨SqL.of f0, fun a2 x2 => ?_⟩⟩
    have s2 := same_upd (o := .tup (zs.map V.str)) x2
    have f2 : (upd G0 a2 (.tup (zs.map V.str))) a2 = some (.tup (zs.map V.str)) := upd_same
    revert s2 f2
    generalize upd G0 a2 _ = G2
    intro s2 f2
    have hp2 := s2 _ _ (s0 _ _ hp1)
    refine ⟨_, rfl, p, _, rfl, .inl (SqL.of hp2), fun a3 x3 => ?_⟩
    have s3 := same_upd (o := .lst ((fs.map txt).map V.str)) x3
    have f3 : (upd G2 a3 (.lst ((fs.map txt).map V.str))) a3 = some (.lst ((fs.map txt).map V.str)) := upd_same
    revert s3 f3
    generalize upd G2 a3 _ = G3
    intro s3 f3
    refine ⟨by show 0 ≤ sizeLine; omega, fun a4 x4 => ?_⟩
    have s4 := same_upd (o := .lst []) x4
    have f4 : (upd G3 a4 (.lst [])) a4 = some (.lst []) := upd_same
    revert s4 f4
    generalize upd G3 a4 _ = G4
    intro s4 f4
    intro a5 x5
    have s5 := same_upd (o := .dK []) x5
    have f5 : (upd G4 a5 (.dK [])) a5 = some (.dK []) := upd_same
    revert s5 f5
    generalize upd G4 a5 _ = G5
    intro s5 f5
    refine ⟨by show 0 ≤ sizeLine; omega, fun a6 x6 => ?_⟩
    have s6 := same_upd (o := .tup []) x6
    have f6 : (upd G5 a6 (.tup [])) a6 = some (.tup []) := upd_same
    revert s6 f6
    generalize upd G5 a6 _ = G6
    intro s6 f6
    refine ⟨_, _, rfl, rfl, ⟨by decide, by decide, by decide⟩, ?_⟩
    have all12 : ∀ x ∈ [V.non, V.int 0, V.bl true, V.str "", V.str "-", V.str (Txt.join ("+" : Str) ys), V.ref a2, V.ref a3, V.ref a4, V.ref a5, V.ref a6, V.int (10 ^ (20 : Int).toNat)], (∀ a, x = .ref a → a ≠ r ∧ H a = none) ∧ ∃ d, ∀ H'', Kp r G6 H'' → OddOk K H'' x d := by
      have t1 := s1
      have t0 := t1.trans s0
      have t2 := t0.trans s2
      have t3 := t2.trans s3
      have t4 := t3.trans s4
      have t5 := t4.trans s5
      have at_ : ∀ {G : Hp} {a : Addr}, Same H G → G a = none → a ≠ r ∧ H a = none := fun {G a} s h => ⟨((Kp.of_same (r := r) s).2 g).ne h, s.free h⟩
      have n2 := at_ t0 x2
      have n3 := at_ t2 x3
      have n4 := at_ t3 x4
      have n5 := at_ t4 x5
      have n6 := at_ t5 x6
      have lit : ∀ {x : Str} {H'' : Hp}, (x.cps.toList.all fun c => decide (c < 128)) = true → x.cps.toList.length ≤ 20 → OddOk K H'' (.str x) (.str x) := fun h1 h2 => ⟨⟨_, .str _⟩, .str _, sho_lit h1 h2⟩
      simp only [List.forall_mem_cons]
      refine ⟨⟨(fun _ e => nomatch e), .none, fun _ _ => ⟨⟨_, .non⟩, .non, ⟨by decide +kernel, by decide +kernel, by decide +kernel⟩⟩⟩, ⟨(fun _ e => nomatch e), .int 0, fun _ _ => ⟨⟨_, .int _⟩, .int _, ⟨by decide +kernel, by decide +kernel, by decide +kernel⟩⟩⟩, ⟨(fun _ e => nomatch e), .bool true, fun _ _ => ⟨⟨_, .bl _⟩, .bl _, ⟨by decide +kernel, by decide +kernel, by decide +kernel⟩⟩⟩,
        ⟨(fun _ e => nomatch e), _, fun _ _ => lit (by decide +kernel) (by decide +kernel)⟩, ⟨(fun _ e => nomatch e), _, fun _ _ => lit (by decide +kernel) (by decide +kernel)⟩, ⟨(fun _ e => nomatch e), _, fun _ _ => ⟨⟨_, .str _⟩, .str _, sho_join yn (by omega)⟩⟩,
        ⟨(fun a e => by cases e; exact n2), .tuple (zs.map PyData.str), fun H'' kk => ?_⟩, ⟨(fun a e => by cases e; exact n3), .list ((fs.map txt).map PyData.str), fun H'' kk => ?_⟩, ⟨(fun a e => by cases e; exact n4), .list [], fun H'' kk => ?_⟩, ⟨(fun a e => by cases e; exact n5), .dict [], fun H'' kk => ?_⟩, ⟨(fun a e => by cases e; exact n6), .tuple [], fun H'' kk => ?_⟩,
        ⟨(fun _ e => nomatch e), .int (10 ^ (20 : Int).toNat), fun _ _ => ⟨⟨_, .int _⟩, .int _, ⟨by decide +kernel, by decide +kernel, by decide +kernel⟩⟩⟩, fun _ h => nomatch h⟩
      · have h := kk.1 _ _ n2.1 (s6 _ _ (s5 _ _ (s4 _ _ (s3 _ _ f2))))
        exact ⟨⟨_, .tup h⟩, th_names h, sho_names zsn (by omega)⟩
      · have h := kk.1 _ _ n3.1 (s6 _ _ (s5 _ _ (s4 _ _ f3)))
        exact ⟨⟨_, .lst h⟩, th_namesL h, sho_namesL zn (by rw [List.length_map]; omega)⟩
      · have h := kk.1 _ _ n4.1 (s6 _ _ (s5 _ _ f4))
        exact ⟨⟨_, .lst h⟩, .lst h (fun _ => .nil) rfl, ⟨by decide +kernel, by decide +kernel, by decide +kernel⟩⟩
      · have h := kk.1 _ _ n5.1 (s6 _ _ f5)
        exact ⟨⟨_, .dic h⟩, .d0 h, ⟨by decide +kernel, by decide +kernel, by decide +kernel⟩⟩
      · have h := kk.1 _ _ n6.1 f6
        exact ⟨⟨_, .tup h⟩, .tup h (fun _ => .nil) rfl, ⟨by decide +kernel, by decide +kernel, by decide +kernel⟩⟩
    refine ⟨by show 12 ≤ sizeLine; omega, fun o xo => ?_⟩
    have so := same_upd (o := .lst [V.non, V.int 0, V.bl true, V.str "", V.str "-", V.str (Txt.join ("+" : Str) ys), V.ref a2, V.ref a3, V.ref a4, V.ref a5, V.ref a6, V.int (10 ^ (20 : Int).toNat)]) xo
    have fo : (upd G6 o (.lst [V.non, V.int 0, V.bl true, V.str "", V.str "-", V.str (Txt.join ("+" : Str) ys), V.ref a2, V.ref a3, V.ref a4, V.ref a5, V.ref a6, V.int (10 ^ (20 : Int).toNat)])) o = some (.lst [V.non, V.int 0, V.bl true, V.str "", V.str "-", V.str (Txt.join ("+" : Str) ys), V.ref a2, V.ref a3, V.ref a4, V.ref a5, V.ref a6, V.int (10 ^ (20 : Int).toNat)]) := upd_same
    revert so fo
    generalize upd G6 o _ = G7
    intro so fo
    have t6 := (((((s1.trans s0).trans s2).trans s3).trans s4).trans s5).trans s6
    have k7 : Kp r H G7 := Kp.of_same (t6.trans so)
    have g7 := k7.2 g
    have no : o ≠ r := ((Kp.of_same (r := r) t6).2 g).ne xo
    refine ⟨_, rfl, _, rfl, r, .ref o, rfl, g7, .inl ⟨o, _, rfl, fo, no, by simp, by show 12 ≤ big; omega, fun H8 x k8 hx => ?_⟩⟩
    obtain ⟨fr, d, ok⟩ := all12 x hx
    exact k H8 x d (k7.trans k8) fr (ok H8 ((Kp.of_same so).trans k8))
end
end K13
namespace K13
open PySem L2 SR
section
variable {P : Program} {w : World} {K : PySem.W.Frag} {mg : Str → Option Value} {base : Heap}
/-! ### marks_rank -/
def spRank : Sp := fun vs H Q _ => ∃ (p : Addr) (zs : List Str), vs = [.ref p] ∧ H p = some (.tup (zs.map V.str)) ∧ ∀ kv H', (∀ b o, H b = some o → H' b = some o) → SortH.IsKey kv ((zs.length : Int), zs) H' → Q kv H'
theorem ok_rank {f : Addr} {fd : FuncData} (F : Fun K "marks_rank" "marks_rank" sRank f fd) (Z : Zn mg) (zT : mg "tuple" = none) : FnOk P w K mg base CX0 1 f fd ["marks"] spRank := by
  refine F.ok (N := ["marks"]) ⟨rfl, rfl, rfl, by decide +kernel, rfl, by decide +kernel, by decide +kernel⟩ (fun vs H Q E h => ?_) (fun cdv A outer_ s H vs Q E hr h => ?_)
  · obtain ⟨p, zs, rfl, _⟩ := h
    rfl
  · obtain ⟨p, zs, rfl, hp, k⟩ := h
    refine ⟨_, pss_one (ps_ret (pe_tup (pa_cons (pe_callB call_len_seq (by rfl) Z.zLen PySem.boot_len (pa_cons (pv 0) pa_nil)) (pa_cons (pe_callTy call_tuple_of (by rfl) zT (by decide +kernel) (pa_cons (pv 0) pa_nil)) pa_nil)))), ?_⟩
    refine ⟨_, rfl, p, zs.map V.str, rfl, .inr (SqT.of hp), _, rfl, p, zs.map V.str, rfl, .inr ⟨SqT.of hp, by show 2 ≤ sizeLine; decide, fun t ht => ?_⟩⟩
    rw [List.length_map]
    refine k _ _ (fun b o e => ?_) ⟨t, p, rfl, upd_same, ?_⟩
    · rw [upd_ne (ne_of_none e ht)]
      exact e
    · rw [upd_ne (ne_of_none hp ht)]
      exact hp
end
end K13
namespace K13
open PySem L2 SR GfX
/-! ### all labels below one -/
def grow (S : List (List Str)) (m : Str) : List (List Str) := S ++ S.map fun t => t ++ [m]
def subsOf (xs : List Str) : List (List Str) := xs.foldl grow [[]]
theorem subs_nil : subsOf [] = [[]] := rfl
theorem subs_take {xs : List Str} {i : Nat} {x : Str} (h : xs[i]? = some x) : subsOf (xs.take (i + 1)) = grow (subsOf (xs.take i)) x := by
  unfold subsOf
  rw [List.take_add_one, h, List.foldl_append] <;> rfl
theorem grow_len (S : List (List Str)) (m : Str) : (grow S m).length = 2 * S.length := by
  unfold grow
  rw [List.length_append, List.length_map]
  omega
theorem fold_len : ∀ (xs : List Str) (S : List (List Str)), (xs.foldl grow S).length = 2 ^ xs.length * S.length
  | [], S => by simp
  | x :: xs, S => by
    rw [List.foldl_cons, fold_len xs, grow_len, List.length_cons, Nat.pow_succ, Nat.mul_assoc]
theorem subs_len (xs : List Str) : (subsOf xs).length = 2 ^ xs.length := by
  unfold subsOf
  rw [fold_len]
  simp
theorem fold_sub : ∀ (xs ys : List Str) (S : List (List Str)), (∀ t ∈ S, t.Sublist ys) → ∀ t ∈ xs.foldl grow S, t.Sublist (ys ++ xs)
  | [], ys, S, h, t, ht => by
    rw [List.append_nil]
    exact h t ht
  | x :: xs, ys, S, h, t, ht => by
    have e : ys ++ x :: xs = (ys ++ [x]) ++ xs := by simp
    rw [e]
    refine fold_sub xs (ys ++ [x]) (grow S x) (fun u hu => ?_) t ht
    rcases List.mem_append.mp hu with z | z
    · exact (h u z).trans (List.sublist_append_left _ _)
    · obtain ⟨v, hv, rfl⟩ := List.mem_map.mp z
      exact (h v hv).append (List.Sublist.refl _)
theorem subs_sub {xs t : List Str} (h : t ∈ subsOf xs) : t.Sublist xs := by
  have := fold_sub xs [] [[]] (fun t ht => by rw [List.mem_singleton.mp ht]; exact List.Sublist.refl _) t h
  simpa using this
/-- the key of some marks -/
def keyOf (t : List Str) : SortT.Key := ((t.length : Int), t)
def InOrd (S : List (List Str)) : Prop := S.Pairwise fun a b => SortT.ltK (keyOf b) (keyOf a) = false
theorem lex_tri : ∀ a b : List Str, SortT.lexS a b = false → SortT.lexS b a = false → a = b := by
  intro a
  induction a with
  | nil =>
    intro b h1 h2
    cases b with
    | nil => rfl
    | cons y b => simp [SortT.lexS] at h1
  | cons x a ih =>
    intro b h1 h2
    cases b with
    | nil => simp [SortT.lexS] at h2
    | cons y b =>
      unfold SortT.lexS at h1 h2
      by_cases e : x = y
      · subst e
        rw [if_pos rfl] at h1 h2
        rw [ih b h1 h2]
      · rw [if_neg e] at h1
        rw [if_neg (Ne.symm e)] at h2
        exact absurd (SortT.ltS_tri h1 h2) e
theorem ord_eq {S T : List (List Str)} (p : S.Perm T) (hs : InOrd S) (ht : InOrd T) : S = T := by
  refine p.eq_of_pairwise (le := fun a b => SortT.ltK (keyOf b) (keyOf a) = false) (fun a b _ _ h1 h2 => ?_) hs ht
  unfold SortT.ltK keyOf at h1 h2
  by_cases e : (a.length : Int) = (b.length : Int)
  · rw [if_pos e.symm] at h1
    rw [if_pos e] at h2
    exact lex_tri a b h2 h1
  · rw [if_neg (Ne.symm e)] at h1
    rw [if_neg e] at h2
    have h1 := of_decide_eq_false h1
    have h2 := of_decide_eq_false h2
    exact absurd (Int.le_antisymm (Int.not_lt.mp h1) (Int.not_lt.mp h2)) (by first | exact e | exact Ne.symm e)
/-- these stand for these texts, as tuples -/
def Tups (H : Hp) (vs : List V) (S : List (List Str)) : Prop := vs.length = S.length ∧ ∀ (j : Nat) (zs : List Str), S[j]? = some zs → ∃ p, vs[j]? = some (.ref p) ∧ H p = some (.tup (zs.map V.str))
theorem Tups.same {H H' : Hp} {vs : List V} {S : List (List Str)} (h : Tups H vs S) (s : Same H H') : Tups H' vs S := ⟨h.1, fun j zs e => let ⟨p, a, b⟩ := h.2 j zs e; ⟨p, a, s _ _ b⟩⟩
theorem Tups.app {H : Hp} {vs us : List V} {S T : List (List Str)} (h : Tups H vs S) (k : Tups H us T) : Tups H (vs ++ us) (S ++ T) := by
  refine ⟨by rw [List.length_append, List.length_append, h.1, k.1], fun j zs e => ?_⟩
  by_cases hj : j < S.length
  · rw [List.getElem?_append_left hj] at e
    obtain ⟨p, a, b⟩ := h.2 j zs e
    exact ⟨p, by rw [List.getElem?_append_left (by rw [h.1]; exact hj)]; exact a, b⟩
  · rw [List.getElem?_append_right (by omega)] at e
    obtain ⟨p, a, b⟩ := k.2 _ zs e
    exact ⟨p, by rw [List.getElem?_append_right (by rw [h.1]; omega), h.1]; exact a, b⟩
theorem Tups.one {H : Hp} {p : Addr} {zs : List Str} (h : H p = some (.tup (zs.map V.str))) : Tups H [.ref p] [zs] := ⟨rfl, fun j us e => by
  cases j with
  | zero =>
    cases e
    exact ⟨p, rfl, h⟩
  | succ j => simp at e⟩
/-- the texts that a tuple holds -/
def strOf (u : V) : Option Str := match u with
  | .str z => some z
  | _ => none
def txsOf (o : Option HO) : List Str := match o with
  | some (.tup xs) => xs.filterMap strOf
  | _ => []
def zsOf (H : Hp) (v : V) : List Str := match v with
  | .ref p => txsOf (H p)
  | _ => []
theorem zs_at {H : Hp} {p : Addr} {zs : List Str} (h : H p = some (.tup (zs.map V.str))) : zsOf H (.ref p) = zs := by
  show txsOf (H p) = zs
  rw [h]
  show List.filterMap strOf (zs.map V.str) = zs
  rw [List.filterMap_map]
  exact List.filterMap_some
theorem Tups.map {H : Hp} {vs : List V} {S : List (List Str)} (h : Tups H vs S) : vs.map (zsOf H) = S := by
  refine List.ext_getElem? fun j => ?_
  rw [List.getElem?_map]
  cases e : S[j]? with
  | none =>
    have : vs[j]? = none := by
      rw [List.getElem?_eq_none_iff] at e ⊢
      rw [h.1]
      exact e
    rw [this] <;> rfl
  | some zs =>
    obtain ⟨p, a, b⟩ := h.2 j zs e
    rw [a]
    show some (zsOf H (.ref p)) = some zs
    rw [zs_at b]
theorem Tups.at {H : Hp} {vs : List V} {S : List (List Str)} (h : Tups H vs S) {v : V} (hv : v ∈ vs) : ∃ p, v = .ref p ∧ H p = some (.tup ((zsOf H v).map V.str)) := by
  obtain ⟨j, hj, e⟩ := List.getElem_of_mem hv
  have hs : j < S.length := by rw [← h.1]; exact hj
  obtain ⟨p, a, b⟩ := h.2 j S[j] (List.getElem?_eq_getElem hs)
  rw [List.getElem?_eq_getElem hj, e] at a
  cases a
  exact ⟨p, rfl, by rw [zs_at b]; exact b⟩
end K13
namespace K13
open PySem L2 SR GfX
section
variable {P : Program} {w : World} {K : PySem.W.Frag} {mg : Str → Option Value} {base : Heap}
variable {C fL CN fN CM fM CE fE fC gE gL gS gR gH pM gM g f fK : Addr} {dL0 dN dM dE0 dC dE dL dS dR dH dG dO dK fd : FuncData}
abbrev sBelowG : Stmt := inClass (top 14) 5
theorem catT2 {H : Hp} {a b : Addr} {xs ys : List V} {Q : VK} (h1 : H a = some (.tup xs)) (h2 : H b = some (.tup ys)) (l : xs.length + ys.length ≤ sizeLine) (k : ∀ H' p, Same H H' → H' p = some (.tup (xs ++ ys)) → Q (.ref p) H') : rCatA K (.ref a) (.ref b) H Q := by
  refine ⟨a, b, xs, ys, rfl, rfl, SqT.of h1, SqT.of h2, l, fun e => ?_, fun _ e => ?_, fun _ _ p hp => k _ p (same_upd hp) upd_same⟩
  · exact k H b (Same.refl H) (by rw [e]; exact h2)
  · exact k H a (Same.refl H) (by rw [e, List.append_nil]; exact h1)
theorem Tups.upd {H : Hp} {D : Addr} {o : HO} {l vs : List V} {S : List (List Str)} (h : Tups H vs S) (hD : H D = some (.lst l)) : Tups (upd H D o) vs S := ⟨h.1, fun j zs e => by
  obtain ⟨p, a, b⟩ := h.2 j zs e
  refine ⟨p, a, ?_⟩
  rw [upd_ne (fun z => by rw [z, hD] at b; cases b)]
  exact b⟩
theorem gfor_list {a : Addr} {xs : List V} {gg : TG} {tb : TG2} {D : GE} {ys : Out} {σ : St} {H : Hp} (Pv : Nat → Out → St → Hp → Prop) (h0 : Pv 0 ys σ H) (hl : ∀ i ys σ H, i ≤ xs.length → Pv i ys σ H → SqL K H a xs)
    (hs : ∀ i x ys σ H, xs[i]? = some x → Pv i ys σ H → gg x σ H fun σ2 H2 => tb { D with nx := Pv (i + 1), ct := Pv (i + 1), bk := D.nx } ys σ2 H2) (hd : ∀ ys σ H, Pv xs.length ys σ H → D.nx ys σ H) :
    ∃ W : Nat → Nat → Out → St → Hp → Prop, (∃ m, W 0 m ys σ H) ∧ ∀ i m ys σ H, W i m ys σ H →
      ((Itl K a).stop i H ∧ D.nx ys σ H) ∨ ((Itl K a).go i H ∧ ∃ N : Out → St → Hp → Prop, (∀ y2 σ2 H2, N y2 σ2 H2 → ∃ m2, m2 < m ∧ W (i + 1) m2 y2 σ2 H2) ∧ ∀ x H1, (Itl K a).yld i H x H1 → gg x σ H1 fun σ2 H2 => tb { D with nx := N, ct := N, bk := D.nx } ys σ2 H2) := by
  refine ⟨fun i m ys σ H => m = xs.length - i ∧ i ≤ xs.length ∧ Pv i ys σ H, ⟨xs.length, by simp, Nat.zero_le _, h0⟩, ?_⟩
  rintro i m ys σ H ⟨rfl, hi, p⟩
  have q := hl i ys σ H hi p
  by_cases hlt : i < xs.length
  · refine .inr ⟨⟨xs, xs[i], q, List.getElem?_eq_getElem hlt⟩, Pv (i + 1), fun y2 σ2 H2 p2 => ⟨xs.length - (i + 1), by omega, rfl, hlt, p2⟩, ?_⟩
    rintro x H1 ⟨rfl, y⟩
    exact hs i x ys σ _ (y xs q) p
  · have e : i = xs.length := by omega
    subst e
    exact .inl ⟨⟨xs, q, Nat.le_refl _⟩, hd ys σ H p⟩
/-- what is out of it -/
def Good (C : Addr) (S : List (List Str)) (H : Hp) (ys : Out) (H' : Hp) : Prop := Same H H' ∧ ys.length ≤ S.length ∧ ∀ (j : Nat) (q : V × Hp), ys[j]? = some q → Same q.2 H' ∧ ∃ b zs, q.1 = .ref b ∧ S[j]? = some zs ∧ Lb C q.2 b zs
theorem Good.same {C : Addr} {S : List (List Str)} {H H1 H2 : Hp} {ys : Out} (g : Good C S H ys H1) (s : Same H1 H2) : Good C S H ys H2 := ⟨g.1.trans s, g.2.1, fun j q e => let ⟨a, r⟩ := g.2.2 j q e; ⟨a.trans s, r⟩⟩
theorem Good.snoc {C : Addr} {S : List (List Str)} {H H1 : Hp} {ys : Out} {b : Addr} {zs : List Str} (g : Good C S H ys H1) (e : S[ys.length]? = some zs) (l : Lb C H1 b zs) : Good C S H (ys ++ [(.ref b, H1)]) H1 := by
  have hl : ys.length < S.length := (List.getElem?_eq_some_iff.mp e).1
  refine ⟨g.1, by rw [List.length_append]; exact hl, fun j q h => ?_⟩
  by_cases hj : j < ys.length
  · rw [List.getElem?_append_left hj] at h
    exact g.2.2 j q h
  · rw [List.getElem?_append_right (by omega)] at h
    have e3 : j - ys.length = 0 := by
      cases h0 : j - ys.length with
      | zero => rfl
      | succ n => rw [h0] at h; simp at h
    rw [e3] at h
    cases h
    exact ⟨Same.refl H1, b, zs, rfl, by rw [show j = ys.length by omega]; exact e, l⟩
def spBelowG (C : Addr) : SpH := fun vs H Yl Q => ∃ (a : Addr) (xs : List Str), vs = [.ref a] ∧ Lb C H a xs ∧ ∀ S, S.Perm (subsOf xs) → InOrd S →
  (∀ ys b zs H', Good C S H ys H' → S[ys.length]? = some zs → Lb C H' b zs → Yl ys (.ref b) H') ∧ ∀ ys H', Good C S H ys H' → ys.length = S.length → Q ys H'
theorem scBG : GScope ["self", "subsets", "mark", "subset", "marks"] ["self"] (defScope sBelowG) := ⟨rfl, rfl, rfl, by decide +kernel, rfl, by decide +kernel, by decide +kernel⟩
theorem ok_belowG (F : Fun K "below" "Label.below" sBelowG g fd) (AK : At K mg "marks_rank" sRank ["marks"] fK dK) (M : LabM K mg C gE gL gS gR gH pM gM dE dL dS dR dH dG) (Z : Zn mg) (zT : mg "tuple" = none) (zO : mg "sorted" = none)
    (L : LabC K mg C fL CN fN CM fM dL0 dN dM) (GI : FnR P w K mg base (L2.CX P w) 3 fL (fun vs H Q E => ∃ ws rest, vs = ws ++ rest ∧ ws.length = ([("self" : Str)]).length ∧ rest.length ≤ sizeLine ∧ ∀ p, H p = Option.none → spInit K C CN CM (ws ++ [V.ref p]) (upd H p (.tup rest)) Q E)) :
    GFo P w K mg base 6 g fd ["self"] (spBelowG C) := by
  have GK : FnR P w K mg base CX0 1 fK (fun vs H Q E => spRank (vs ++ []) H Q E) := (ok_rank AK.F Z zT).raw AK.b .nil
  obtain ⟨oc, od, kV, doc, pm, an, cdv, ct, osl, rfl, lk, hcd⟩ := F.ex
  refine gfo_of lk hcd scBG (fun vs H Yl Q h => ?_) (fun A outer s H vs Yl Q pn hr h => ?_)
  · obtain ⟨a, xs, rfl, _⟩ := h
    rfl
  · obtain ⟨a, xs, rfl, la, k⟩ := h
    refine ⟨_, gn_cons (g1_ps (ps_set (i := 1) scBG.nd rfl (Or.inl rfl) (pe_lst (pa_cons (pe_tup pa_nil) pa_nil))))
      (gn_cons (g1_ps (ps_for owns_gcx rfl (pi_tup (pe_fld (pv 0) rfl)) (pg_name (i := 2) scBG.nd rfl (Or.inr rfl))
        (pss_one (ps_set (i := 1) scBG.nd rfl (Or.inl rfl) (pe_op op_cat (pv 1) (pe_lc (own := [("subset", 3)]) (g := gName 3) (tt := tYes) rfl scBG.nd (pi_list (pv 1)) (blkOk_by (N := ["self", "subsets", "mark", "subset", "marks"]) (sc := defScope sBelowG) (by decide +kernel)) (fun _ _ _ _ _ => pg_name (i := 3) scBG.nd rfl (Or.inl rfl)) (fun _ _ _ _ _ => pts_nil)
          (fun _ _ _ _ _ => pe_op (show OpR _ (binaryOp .Add) (rCatA K) from op_catA) (pv 3) (pe_tup (pa_cons (pv 2) pa_nil)))))))))
      (gn_cons (g1_for owns_gcx rfl (pi_list (pe_callBK (SortH.cr_sortK GK ((hr.mono (j := 3) (by decide)).in1.in1) (hr.mono (j := 3) (by decide)).in1.in1.units0) (by rfl) zO (by decide +kernel) (pa_cons (pv 1) pa_nil) (pk_cons (pe_glob (v := .ref fK) (by rfl) AK.m rfl) pk_nil))) (pg_name (i := 4) scBG.nd rfl (Or.inl rfl))
        (gn_cons (g1_yield (pe_makeS (E := E0) L.mkr GI (hr.mono (by decide)) (by rfl) L.m (CmS.passE takes_gcx) (pv 4))) gn_nil)) gn_nil)), ?_⟩
    obtain ⟨nx, l4, sx, dx, t, ha, ht⟩ := id la
    refine ⟨by show 0 ≤ sizeLine; decide, fun t0 ht0 => ⟨by show 1 ≤ sizeLine; decide, fun q0 hq0 => ?_⟩⟩
    have s1 : Same H (upd (upd H t0 (.tup [])) q0 (.lst [.ref t0])) := (same_upd ht0).trans (same_upd hq0)
    refine ⟨.ref a, rfl, a, C, dx, _, .ref t, rfl, s1 _ _ ha, M.cl, M.n1, rfl, t, rfl, ⟨_, SqT.of (s1 _ _ ht)⟩, ?_⟩
    refine for_tup (xs := xs.map V.str) (fun i σ' H' => Same H H' ∧ ∃ q vs m sub ms, σ' = [some (.ref a), some (.ref q), m, sub, ms] ∧ H' q = some (.lst vs) ∧ Tups H' vs (subsOf (xs.take i))) ⟨s1, q0, [.ref t0], none, none, none, rfl, upd_same, ?_⟩ (fun i σ' H' _ q => SqT.of (q.1 _ _ ht)) ?_ ?_
    · exact Tups.one (zs := []) (by rw [upd_ne (ne_of_none upd_same hq0 : t0 ≠ q0)]; exact upd_same)
    · rintro i v σ' H' hv ⟨sm, q, vs, m, sub, ms, rfl, hq, tv⟩
      rw [List.getElem?_map] at hv
      obtain ⟨x, hx, rfl⟩ := Option.map_eq_some_iff.mp hv
      have hi : i < xs.length := (List.getElem?_eq_some_iff.mp hx).1
      have lv : vs.length = 2 ^ i := by
        rw [tv.1, subs_len, List.length_take, Nat.min_eq_left (Nat.le_of_lt hi)]
      have lv8 : vs.length ≤ 8 := by
        rw [lv]
        calc 2 ^ i ≤ 2 ^ 3 := Nat.pow_le_pow_right (by decide) (by omega)
          _ = 8 := rfl
      have l16 : sizeLine = 16777216 := sizeLine_eq
      refine ⟨_, rfl, _, rfl, q, rfl, ⟨vs, SqL.of hq⟩, fun D hD => ?_⟩
      refine lc_list (xs := vs) (fun j H2 => Same H' H2 ∧ ∃ us, H2 D = some (.lst us) ∧ us.length = j ∧ Tups H2 us (((subsOf (xs.take i)).take j).map fun t => t ++ [x])) ⟨same_upd hD, [], upd_same, rfl, rfl, fun j zs e => by simp at e⟩ (fun j H2 _ z => SqL.of (z.1 _ _ hq)) ?_ ?_
      · rintro j u H2 hu ⟨s2, us, hL, lu, tu⟩
        have hj : j < vs.length := (List.getElem?_eq_some_iff.mp hu).1
        obtain ⟨zs, hzs⟩ : ∃ zs, (subsOf (xs.take i))[j]? = some zs := ⟨_, List.getElem?_eq_getElem (by rw [← tv.1]; exact hj)⟩
        obtain ⟨p, hp, hpt⟩ := tv.2 j zs hzs
        rw [hu] at hp
        cases hp
        have hz4 : zs.length ≤ 4 := by
          have := (subs_sub (List.mem_of_getElem? hzs)).length_le
          rw [List.length_take] at this
          omega
        refine ⟨rfl, _, rfl, _, rfl, by show 1 ≤ sizeLine; decide, fun r hr0 => ?_⟩
        refine catT2 (xs := zs.map V.str) (ys := [V.str x]) (same_upd hr0 _ _ (s2 _ _ hpt)) upd_same (by rw [List.length_map, l16]; show zs.length + 1 ≤ 16777216; omega) fun H3 p3 s3 hp3 => ?_
        have s23 : Same H2 H3 := (same_upd hr0).trans s3
        refine ⟨us, s23 _ _ hL, by rw [lu]; omega, fun b o e => ?_, us ++ [.ref p3], upd_same, by rw [List.length_append, lu] <;> rfl, ?_⟩
        · rw [upd_ne (ne_of_none e hD)]
          exact s23 _ _ (s2 _ _ e)
        · rw [List.take_add_one, hzs, List.map_append]
          refine Tups.upd ((tu.same s23).app (Tups.one ?_)) (s23 _ _ hL)
          rw [List.map_append]
          exact hp3
      · rintro H2 ⟨s2, us, hL, lu, tu⟩
        refine ⟨q, D, vs, us, rfl, rfl, s2 _ _ hq, hL, by rw [lu, l16]; omega, fun p hp => ?_⟩
        have s3 := same_upd (o := HO.lst (vs ++ us)) hp
        refine ⟨(sm.trans s2).trans s3, p, vs ++ us, some (.str x), sub, ms, rfl, upd_same, ?_⟩
        rw [subs_take hx]
        unfold grow
        rw [tv.1, List.take_length] at tu
        exact ((tv.same s2).app tu).same s3
    · rintro σ' H' ⟨sm, q, vs, m, sub, ms, rfl, hq, tv⟩
      rw [List.length_map, List.take_length] at tv
      have l16 : sizeLine = 16777216 := sizeLine_eq
      refine ⟨_, rfl, q, vs, fun v => keyOf (zsOf H' v), rfl, rfl, SqL.of hq, fun u hu H2 s2 => ?_, fun os H2 p perm pw s2 hpn hpl => ?_⟩
      · obtain ⟨r, rfl, hr0⟩ := tv.at hu
        exact ⟨r, zsOf H' (.ref r), rfl, s2 _ _ hr0, fun kv H3 s3 h3 => ⟨s3, h3⟩⟩
      · have pS : (os.map (zsOf H')).Perm (subsOf xs) := by
          rw [← tv.map]
          exact perm.map _
        have oS : InOrd (os.map (zsOf H')) := List.pairwise_map.mpr pw
        obtain ⟨kY, kQ⟩ := k _ pS oS
        have lS : (os.map (zsOf H')).length ≤ 16 := by
          rw [pS.length_eq, subs_len]
          calc 2 ^ xs.length ≤ 2 ^ 4 := Nat.pow_le_pow_right (by decide) l4
            _ = 16 := rfl
        refine ⟨p, rfl, ⟨os, SqL.of hpl⟩, ?_⟩
        refine gfor_list (xs := os) (fun i ys σ2 H3 => Good C (os.map (zsOf H')) H ys H3 ∧ ys.length = i ∧ Same H2 H3 ∧ ∃ mz, σ2 = [some (.ref a), some (.ref q), m, sub, mz]) ?_ ?_ ?_ ?_
        · exact ⟨⟨sm.trans s2, Nat.zero_le _, fun j q e => by simp at e⟩, rfl, Same.refl H2, ms, rfl⟩
        · rintro i ys σ2 H3 _ ⟨_, _, s3, _⟩
          exact SqL.of (s3 _ _ hpl)
        · rintro i v ys σ2 H3 hv ⟨g3, ly, s3, mz, rfl⟩
          obtain ⟨r, rfl, hr0⟩ := tv.at (perm.mem_iff.mp (List.mem_of_getElem? hv))
          have hS : (os.map (zsOf H'))[ys.length]? = some (zsOf H' (.ref r)) := by rw [ly, List.getElem?_map, hv] <;> rfl
          have sub2 := subs_sub (pS.mem_iff.mp (List.mem_of_getElem? hS))
          have l42 : (zsOf H' (.ref r)).length ≤ 4 := Nat.le_trans sub2.length_le l4
          have nms : (zsOf H' (.ref r)).all isNm = true := List.all_eq_true.mpr fun x hx => List.all_eq_true.mp nx x (sub2.subset hx)
          have ly16 : ys.length < 16 := Nat.lt_of_lt_of_le (List.getElem?_eq_some_iff.mp hS).1 lS
          refine ⟨by rw [l16]; omega, _, rfl, r, _, rfl, .inl (SqT.of (s3 _ _ (s2 _ _ hr0))), fun z dz hz hd ne => ?_⟩
          exact mk_any (Q := fun x H1 => Yl ys x H1 ∧ (Good C (os.map (zsOf H')) H (ys ++ [(x, H1)]) H1 ∧ (ys ++ [(x, H1)]).length = i + 1 ∧ Same H2 H1 ∧ ∃ mz, [some (.ref a), some (.ref q), m, sub, some (.ref r)] = [some (.ref a), some (.ref q), m, sub, mz])) (asksM nms (srt_sub sx sub2) (fun l => absurd l (by omega)) fun l H4 z s4 hz lz => ⟨kY ys z _ H4 (g3.same s4) hS lz, (g3.same s4).snoc hS lz, by rw [List.length_append, ly] <;> rfl, s3.trans s4, _, rfl⟩) (by rw [List.length_map]; omega) hz hd ne
        · rintro ys σ2 H3 ⟨g3, ly, s3, _⟩
          exact kQ ys H3 g3 (by rw [ly, List.length_map])
end
end K13
namespace K13
open PySem L2 SR GfX LamX
section
variable {P : Program} {w : World} {K : PySem.W.Frag} {mg : Str → Option Value} {base : Heap}
/-- a def whose code object stands at c -/
theorem okC {x qual : Str} {st : Stmt} {f c : Addr} {fd : FuncData} {N ps : List Str} {k : Nat} {sp : Sp} (F : L2.Fun K x qual st f fd) (hc : fd.code = .ref c) (S : FnScope N ps (defScope st)) (len : ∀ vs H Q E, sp vs H Q E → vs.length = ps.length)
    (body : ∀ (A : Around) (o_ : List Env) (s : Shared) (H : Hp) (vs : List V) (Q : VK) (E : XK), Room k (A.deeper (PyProof.Rows.envOfC qual (defScope st) s.heap.objs.size f (.ref c))) → sp vs H Q E →
      ∃ t, PSs (cxOf CX0 P w K mg base N qual (defScope st) f (.ref c) A o_ s H E).nox (defBody st) t ∧ t { nx := fun _ H' => Q .non H', rt := Q } (start N vs) H) : FnOk P w K mg base CX0 (k + 1) f fd ps sp := by
  obtain ⟨oc, od, kV, doc, pm, an, cdv, ct, osl, rfl, lk, cok⟩ := F.ex
  obtain rfl : cdv = Value.ref c := hc
  refine fn_of lk cok S len fun A o_ s H vs Q E hr h => ?_
  obtain ⟨t, ht, q⟩ := body A o_ s H vs Q E hr h
  exact ⟨t, ht.nox, q⟩
/-! ### _law_all_below -/
abbrev nAB : List Str := ["_law_marks", "_law_found", "_law_mark", "_law_one"]
theorem scAB : FnScope nAB ["_law_marks"] (defScope sAllBelow) := ⟨rfl, rfl, rfl, by decide +kernel, rfl, by decide +kernel, by decide +kernel⟩
def spAllB (T : List (Addr × Str)) : Sp := fun vs H Q _ => ∃ (a : Addr) (ts : List Str), vs = [.ref a] ∧ H a = some (.lst (ts.map V.str)) ∧ ts.length ≤ 4 ∧ Tabs T H ∧ ∀ zs, zs.Perm ts → PyProof.Rows.sortedS zs = true → ∀ S, S.Perm (subsOf zs) → InOrd S →
  ∀ H' p vs, ExtN H H' → Tabs T H' → H' p = some (.lst vs) → Tups H' vs S → Q (.ref p) H'
theorem ok_allb {T : List (Addr × Str)} {f c Pt : Addr} {fd : FuncData} (F : L2.Fun K "_law_all_below" "_law_all_below" sAllBelow f fd) (hc : fd.code = .ref c) (TB : TabB base mg c Pt) (hm : (Pt, ("_law_all_below.<locals>.<lambda>" : Str)) ∈ T) (hu : ∀ p ∈ T, p.1 = Pt → p.2 = "_law_all_below.<locals>.<lambda>")
    (zO : mg "sorted" = none) (zL : mg "len" = none) : FnOk P w K mg base CX0 6 f fd ["_law_marks"] (spAllB T) := by
  refine okC F hc scAB (fun vs H Q E h => ?_) (fun A outer s H vs Q E hr h => ?_)
  · obtain ⟨a, ts, rfl, _⟩ := h
    rfl
  · obtain ⟨a, ts, rfl, ha, l4, hT, k⟩ := h
    refine ⟨_, pss_cons (ps_set (i := 1) scAB.nd rfl (Or.inl rfl) (pe_lst (pa_cons (pe_tup pa_nil) pa_nil)))
      (pss_cons (ps_for PassesOwn.never rfl (pi_list (pe_callB cr_sortedS (by rfl) zO (by decide +kernel) (pa_cons (pv 0) pa_nil))) (pg_name (i := 2) scAB.nd rfl (Or.inr rfl))
        (pss_one (ps_set (i := 1) scAB.nd rfl (Or.inl rfl) (pe_op op_cat (pv 1) (pe_lc (own := [("_law_one", 3)]) (g := gName 3) (tt := tYes) rfl scAB.nd (pi_list (pv 1)) (blkOk_by (N := nAB) (sc := defScope sAllBelow) (by decide +kernel)) (fun _ _ _ _ _ => pg_name (i := 3) scAB.nd rfl (Or.inl rfl)) (fun _ _ _ _ _ => pts_nil)
          (fun _ _ _ _ _ => pe_op (show OpR _ (binaryOp .Add) (rCatA K) from op_catA) (pv 3) (pe_tup (pa_cons (pv 2) pa_nil))))))))
      (pss_one (ps_ret (SortL.pe_sortLam (k := 2) (T := T) (pa_cons (pv 1) pa_nil) (by rfl) zO TB rfl hm hu rfl (by decide +kernel) rfl ⟨rfl, rfl, rfl, by decide +kernel, rfl, by decide +kernel, by decide +kernel⟩ rfl (fun _ _ _ _ _ => rfl) hr rfl rfl
        (fun A2 o2 s2 H2 f2 c2 hr2 => pe_tup (pa_cons (pe_callB (show CallR _ (.builtin "len") (fun xs H Q => ∃ p ys, xs = [V.ref p] ∧ (SqL K H p ys ∨ SqT K H p ys) ∧ Q (V.int (ys.length : Int)) H) from call_len_seq) (by rfl) zL PySem.boot_len (pa_cons (pv 0) pa_nil)) (pa_cons (pv 0) pa_nil))))))), ?_⟩
    have l16 : sizeLine = 16777216 := sizeLine_eq
    refine ⟨by show 0 ≤ sizeLine; decide, fun t0 ht0 => ⟨by show 1 ≤ sizeLine; decide, fun q0 hq0 => ?_⟩⟩
    have s1 : Same H (upd (upd H t0 (.tup [])) q0 (.lst [.ref t0])) := (same_upd ht0).trans (same_upd hq0)
    have f1 : Tups (upd (upd H t0 (.tup [])) q0 (.lst [.ref t0])) [.ref t0] (subsOf []) := Tups.one (zs := []) (by rw [upd_ne (ne_of_none upd_same hq0 : t0 ≠ q0)]; exact upd_same)
    have f2 : (upd (upd H t0 (.tup [])) q0 (.lst [.ref t0])) q0 = some (.lst [.ref t0]) := upd_same
    revert s1 f1 f2
    generalize upd (upd H t0 (.tup [])) q0 (.lst [.ref t0]) = H1
    intro s1 f1 f2
    refine ⟨_, rfl, a, ts, rfl, SqL.of (s1 _ _ ha), by omega, fun xs a1 pm srt x1 => ?_⟩
    have l4x : xs.length ≤ 4 := by rw [pm.length_eq]; exact l4
    have s2 := s1.trans (same_upd (o := HO.lst (xs.map V.str)) x1)
    have f3 : (upd H1 a1 (.lst (xs.map V.str))) a1 = some (.lst (xs.map V.str)) := upd_same
    have f4 : (upd H1 a1 (.lst (xs.map V.str))) q0 = some (.lst [.ref t0]) := same_upd x1 _ _ f2
    have f5 := f1.same (same_upd (o := HO.lst (xs.map V.str)) x1)
    revert s2 f3 f4 f5
    generalize upd H1 a1 (.lst (xs.map V.str)) = H2
    intro s2 f3 f4 f5
    refine ⟨a1, rfl, ⟨_, SqL.of f3⟩, ?_⟩
    refine for_list (xs := xs.map V.str) (fun i σ' H' => Same H2 H' ∧ ∃ q vs m one, σ' = [some (.ref a), some (.ref q), m, one] ∧ H' q = some (.lst vs) ∧ Tups H' vs (subsOf (xs.take i))) ⟨Same.refl H2, q0, [.ref t0], none, none, rfl, f4, f5⟩ (fun i σ' H' _ q => SqL.of (q.1 _ _ f3)) ?_ ?_
    · rintro i v σ' H' hv ⟨sm, q, vs, m, one, rfl, hq, tv⟩
      rw [List.getElem?_map] at hv
      obtain ⟨x, hx, rfl⟩ := Option.map_eq_some_iff.mp hv
      have hi : i < xs.length := (List.getElem?_eq_some_iff.mp hx).1
      have lv : vs.length = 2 ^ i := by
        rw [tv.1, subs_len, List.length_take, Nat.min_eq_left (Nat.le_of_lt hi)]
      have lv8 : vs.length ≤ 8 := by
        rw [lv]
        calc 2 ^ i ≤ 2 ^ 3 := Nat.pow_le_pow_right (by decide) (by omega)
          _ = 8 := rfl
      refine ⟨_, rfl, _, rfl, q, rfl, ⟨vs, SqL.of hq⟩, fun D hD => ?_⟩
      refine lc_list (xs := vs) (fun j H2 => Same H' H2 ∧ ∃ us, H2 D = some (.lst us) ∧ us.length = j ∧ Tups H2 us (((subsOf (xs.take i)).take j).map fun t => t ++ [x])) ⟨same_upd hD, [], upd_same, rfl, rfl, fun j zs e => by simp at e⟩ (fun j H2 _ z => SqL.of (z.1 _ _ hq)) ?_ ?_
      · rintro j u H2 hu ⟨s2, us, hL, lu, tu⟩
        have hj : j < vs.length := (List.getElem?_eq_some_iff.mp hu).1
        obtain ⟨zs, hzs⟩ : ∃ zs, (subsOf (xs.take i))[j]? = some zs := ⟨_, List.getElem?_eq_getElem (by rw [← tv.1]; exact hj)⟩
        obtain ⟨p, hp, hpt⟩ := tv.2 j zs hzs
        rw [hu] at hp
        cases hp
        have hz4 : zs.length ≤ 4 := by
          have := (subs_sub (List.mem_of_getElem? hzs)).length_le
          rw [List.length_take] at this
          omega
        refine ⟨rfl, _, rfl, _, rfl, by show 1 ≤ sizeLine; decide, fun r hr0 => ?_⟩
        refine catT2 (xs := zs.map V.str) (ys := [V.str x]) (same_upd hr0 _ _ (s2 _ _ hpt)) upd_same (by rw [List.length_map, l16]; show zs.length + 1 ≤ 16777216; omega) fun H3 p3 s3 hp3 => ?_
        have s23 : Same H2 H3 := (same_upd hr0).trans s3
        refine ⟨us, s23 _ _ hL, by rw [lu]; omega, fun b o e => ?_, us ++ [.ref p3], upd_same, by rw [List.length_append, lu] <;> rfl, ?_⟩
        · rw [upd_ne (ne_of_none e hD)]
          exact s23 _ _ (s2 _ _ e)
        · rw [List.take_add_one, hzs, List.map_append]
          refine Tups.upd ((tu.same s23).app (Tups.one ?_)) (s23 _ _ hL)
          rw [List.map_append]
          exact hp3
      · rintro H2 ⟨s2, us, hL, lu, tu⟩
        refine ⟨q, D, vs, us, rfl, rfl, s2 _ _ hq, hL, by rw [lu, l16]; omega, fun p hp => ?_⟩
        have s3 := same_upd (o := HO.lst (vs ++ us)) hp
        refine ⟨(sm.trans s2).trans s3, p, vs ++ us, some (.str x), one, rfl, upd_same, ?_⟩
        rw [subs_take hx]
        unfold grow
        rw [tv.1, List.take_length] at tu
        exact ((tv.same s2).app tu).same s3
    · rintro σ' H' ⟨sm, q, vs, m, one, rfl, hq, tv⟩
      rw [List.length_map, List.take_length] at tv
      have sH : Same H H' := s2.trans sm
      refine ⟨_, rfl, hT.ext sH, fun H3 eN T3 => ?_⟩
      have kT : ∀ p zs, H' p = some (.tup (zs : List V)) → H3 p = some (.tup zs) := fun p zs e => eN _ _ e fun ps z => by cases z
      have kL : H3 q = some (.lst vs) := eN _ _ hq fun ps z => by cases z
      have tv3 : Tups H3 vs (subsOf xs) := ⟨tv.1, fun j zs e => let ⟨p, a, b⟩ := tv.2 j zs e; ⟨p, a, kT _ _ b⟩⟩
      refine ⟨q, vs, fun v => keyOf (zsOf H3 v), rfl, SqL.of kL, fun u hu H4 s4 => ?_, fun os H4 p perm pw s4 hpn hpl => ?_⟩
      · obtain ⟨r, rfl, hr0⟩ := tv3.at hu
        refine ⟨_, rfl, r, _, rfl, .inr (SqT.of (s4 _ _ hr0)), _, rfl, by show 2 ≤ sizeLine; decide, fun t ht => ⟨same_upd ht, t, r, rfl, by rw [upd_same, List.length_map] <;> rfl, same_upd ht _ _ (s4 _ _ hr0)⟩⟩
      · have pS : (os.map (zsOf H3)).Perm (subsOf xs) := by
          rw [← tv3.map]
          exact perm.map _
        have oS : InOrd (os.map (zsOf H3)) := List.pairwise_map.mpr pw
        refine k xs pm srt _ pS oS H4 p os ((ExtN.of sH).trans (eN.trans (ExtN.of s4))) (T3.ext s4) hpl ⟨by rw [List.length_map], fun j zs e => ?_⟩
        rw [List.getElem?_map] at e
        obtain ⟨v, hv, rfl⟩ := Option.map_eq_some_iff.mp e
        obtain ⟨r, rfl, hr0⟩ := tv3.at (perm.mem_iff.mp (List.mem_of_getElem? hv))
        exact ⟨r, hv, s4 _ _ hr0⟩
end
end K13
namespace K13
open PySem L2 SR TAs LamX
theorem takes_len {X : Cx} {W : WX} (t : Takes X W) : Takes X fun c d σ H => σ.length = X.N.length → W c d σ H := fun u s' x => by
  obtain ⟨a, B, sI, pins, σ, H, cls, d, e, I, nb, up, sky, na, os, ag, w⟩ := x
  exact t u s' ⟨a, B, sI, pins, σ, H, cls, d, e, I, nb, up, sky, na, os, ag, w I.len⟩
/-! ### _law_refused -/
abbrev nRf : List Str := ["_law_call", "_law_told", "e"]
theorem scRf : FnScope nRf ["_law_call"] (defScope sRefused) := ⟨rfl, rfl, rfl, by decide +kernel, rfl, by decide +kernel, by decide +kernel⟩
/-- what is called leaves with this error; what is told of it -/
def TRef (K : PySem.W.Frag) (CE : Addr) : (XK → Hp → VK → Prop) → Hp → VK → Prop := fun tl H Q => ∀ t0, H t0 = none →
  tl (fun cls d H2 => cls = .ref CE ∧ ∃ dd fs v dt, d = some dd ∧ H2 dd = some (.xd fs) ∧ List.lookup ("value" : Str) fs = some v ∧ Th K H2 v dt ∧ Sho dt ∧ ∀ H3 q, Same H2 H3 → H2 q = none → H3 q = some (.lst [.str "no label", .str dt.shown]) → Q (.ref q) H3)
    (upd H t0 (.lst [.str "other"])) fun _ H2 => ∃ v, (some (some (V.ref t0)) : Option (Option V)) = some (some v) ∧ Q v H2
section
variable {X : Cx}
theorem ref_gives {g CE : Addr} {cdg : Value} {q : Str} (gd : X.A.guards = some []) (un2 : (X.A.deeper (PyProof.Rows.envOfC "_law_refused" (defScope sRefused) 0 g cdg)).units + 200 < cLine) (zR : X.mg "repr" = none) (mE : X.mg "InvalidLabel" = some (.ref CE)) (xf : XfC X.K CE) (te : PySem.W.exmOne X.K (.ref CE) (.ref CE) = some true) (nV : PySem.W.findIn X.K (.ref CE) "value" = some none) :
    GivesTo X nRf "_law_refused" (defScope sRefused) g cdg (defBody sRefused) "_law_call" q (TRef X.K CE) := by
  intro f c' s H Q tl act hc h
  refine ⟨_, pss_cons (ps_set (i := 1) scRf.nd rfl (Or.inl rfl) (pe_lst (pa_cons pe_str pa_nil)))
    (pss_cons (TAs.ps_try (i := 2) (tb := fun W D σ H => ∃ Ech : XK, (∀ cls d H2, Ech cls d H2 → ∀ σ2 : L2.St, σ2.length = 3 → W cls d σ2 H2) ∧ σ[0]? = some (some (.ref f)) ∧ H c' = some (CodeO c' q) ∧ tl Ech H fun _ H2 => D.nx σ H2) (Wout := fun _ _ _ _ => False) rfl rfl scRf.nd rfl rfl L2.takes0
      (fun W pn xe tk _ => ?_)
      (.cons ⟨rfl, by decide, .inl mE⟩ (fun a oe cls d pn hz hf => pss_one (ps_set (i := 1) scRf.nd rfl (Or.inl rfl) (pe_lst (pa_cons pe_str (pa_cons (pe_callB (show CallR ((cxOf C8.CX0 X.prog X.w X.K X.mg X.base nRf "_law_refused" (defScope sRefused) g cdg X.A X.stack s H C8.E0).nox.suite a ((a, oe) :: pn)) (.builtin "repr") (fun xs H Q => ∃ v d, xs = [v] ∧ Th X.K H v d ∧ Sho d ∧ Q (.str d.shown) H) from call_reprD (by exact gd) (by exact un2)) (by rfl) zR (by decide +kernel) (pa_cons (pe_xf xf nV hz hf (pv 2)) pa_nil)) pa_nil))))) .nil))
    (pss_one (ps_ret (pv 1)))), ?_⟩
  · refine ⟨fun pins s2 σ H2 D I z => ?_⟩
    obtain ⟨Ech, hW, h1, h2, h3⟩ := z
    have hp := act (fun c d σ H => σ.length = 3 → W c d σ H) pn xe Ech ⟨148, 8, 148, 17⟩ ⟨148, 8, 148, 19⟩ (takes_len tk) fun cls d σ2 H2 he hl => hW cls d H2 he σ2 hl
    have hq := pss_one (ps_expr (pos := ⟨148, 8, 148, 19⟩) hp)
    exact hq.run pins s2 σ H2 D I ⟨h1, h2, h3⟩
  · refine ⟨by show 1 ≤ sizeLine; decide, fun t0 ht0 => ⟨_, fun cls d H2 he σ2 hl => ?_, rfl, ?_, h t0 ht0⟩⟩
    · obtain ⟨rfl, dd, fs, v, dt, rfl, hx, hv, th, sh, k⟩ := he
      match σ2, hl with
      | [x0, x1, x2], _ =>
        refine ⟨true, te, fun _ a0 _ => ?_, fun q => Bool.noConfusion q⟩
        refine ⟨_, rfl, rfl, rfl, dd, fs, _, rfl, hx, hv, ?_⟩
        refine ⟨v, dt, rfl, th, sh, by show 2 ≤ sizeLine; decide, fun q hq => ?_⟩
        exact ⟨_, rfl, k _ q (same_upd hq) hq upd_same⟩
    · exact same_upd ht0 _ _ hc
end
end K13
namespace K13
open PySem L2 SR TAs LamX GfX
section
variable {X : Cx}
/-- repr of lists in lists -/
theorem call_reprN (gd : X.A.guards = some []) (un : X.A.units + 200 < cLine) : CallR X (.builtin "repr") (fun xs H Q => ∃ v d, xs = [v] ∧ Dp X.K H v d ∧ PyData.hasDict d = false ∧ Sho d ∧ Q (.str d.shown) H) := by
  rintro pins s σ H xs us Q I r ⟨v, d, rfl, th, nd, sh, q⟩
  have s1 := sh.1
  have s2 := sh.fits
  have s3 := sh.2.2
  obtain ⟨u, rfl, ru⟩ := vals1 r
  obtain ⟨as, rd⟩ := Dp.reads I _ _ _ th ru
  have hm : d.hasDict = true → sysModules ∉ as := fun z => by rw [nd] at z; cases z
  cases rd with
  | none => exact PySem.P.repr_of_none ⟨.str _, H, I.tok _, ⟨_, rfl⟩, by simpa only [PyData.shown] using q⟩
  | bool b =>
    refine PySem.P.repr_of_bool ⟨.str _, H, I.tok _, ⟨_, rfl⟩, ?_⟩
    simp only [PyData.shown] at q
    cases b <;> exact q
  | int i t =>
    simp only [PyData.shown] at q
    exact PySem.P.repr_of_int (by simpa [PyData.showable] using s1) ⟨.str _, H, I.tok _, ⟨_, rfl⟩, q⟩
  | str x t =>
    simp only [PyData.shown] at q s2
    exact PySem.P.repr_of_str ⟨.str _, H, I.tok _, ⟨_, rfl⟩, q⟩ s2
  | list a b c e => exact repr_of_reads' (Reads.list a b c e) s1 hm gd (by omega) (fun _ _ z => z) (fun h' u tk k => ⟨.str _, H, I.kept k, ⟨_, rfl⟩, q⟩) s2
  | tuple a b c e => exact repr_of_reads' (Reads.tuple a b c e) s1 hm gd (by omega) (fun _ _ z => z) (fun h' u tk k => ⟨.str _, H, I.kept k, ⟨_, rfl⟩, q⟩) s2
  | dict a b c e g => cases nd
end
section
variable {P : Program} {w : World} {K : PySem.W.Frag} {mg : Str → Option Value} {base : Heap}
theorem okGC {x qual : Str} {st : Stmt} {f c : Addr} {fd : FuncData} {N ps : List Str} {k : Nat} {sp : Sp} (F : L2.Fun K x qual st f fd) (hc : fd.code = .ref c) (S : FnScope N ps (defScope st)) (len : ∀ vs H Q E, sp vs H Q E → vs.length = ps.length)
    (body : ∀ (A : Around) (o_ : List Env) (s : Shared) (H : Hp) (vs : List V) (Q : VK) (E : XK), A.guards = some [] → Room k (A.deeper (PyProof.Rows.envOfC qual (defScope st) s.heap.objs.size f (.ref c))) → sp vs H Q E →
      ∃ t, PSs (cxOf CX0 P w K mg base N qual (defScope st) f (.ref c) A o_ s H E).nox (defBody st) t ∧ t { nx := fun _ H' => Q .non H', rt := Q } (start N vs) H) : FnG P w K mg base (k + 1) f fd ps sp := by
  obtain ⟨oc, od, kV, doc, pm, an, cdv, ct, osl, rfl, lk, cok⟩ := F.ex
  obtain rfl : cdv = Value.ref c := hc
  refine ⟨len, fun A o_ s H gs us vs Q E gd hr e0 hb r hsp => ?_⟩
  have up : ∀ b o, base.get? b = some o → s.heap.get? b = some o := fun b o q => (e0.bs b o q).1
  have KX : K.In s.heap := e0.mod.kin.keeps up
  have lm : s.heap.NoLimit := e0.mod.nolimit.keeps up
  have kinds : ∀ y ∈ ps.zip us, (defScope st).names.lookup y.1 = some .local ∨ ((defScope st).names.lookup y.1 = some .cell ∧ ((cellsFrom (s.heap.objs.size + 1) (defScope st).names []).lookup y.1).isSome = true) := by
    rintro ⟨n, v⟩ hy
    cases S.par n (List.of_mem_zip hy).1 with
    | inl q => exact .inl q
    | inr q => exact .inr ⟨q, PySem.W.cellsFrom_some _ _ _ (.inl q)⟩
  apply codeAny_call_function hr.depth (KX _ _ lk) rfl S.co S.gen rfl (PySem.W.codeRec_of KX cok) (hb _ _ _ _ ?_)
  apply wpAny_newFunctionEnv_cells S.kind kinds
  rintro env rfl s1 x
  refine ⟨lm.keeps x.toInCall.keep, codeAny_func ?_⟩
  obtain ⟨t, ht, hq⟩ := body A o_ s H vs Q E gd (hr.deeper _) hsp
  have I : Inv (cxOf CX0 P w K mg base N qual (defScope st) f (.ref c) A o_ s H E) [] (start N vs) H s1 := inv_start S hr.hd e0 (len _ _ _ _ hsp) r x
  apply wpAny_mono (ht.nox.run [] s1 (start N vs) H _ I hq)
  · rintro fl s2 hs
    cases fl with
    | ret u =>
      obtain ⟨v, σ2, H2, J, rv, q⟩ := hs
      exact ⟨v, H2, J.os, J.bare, J.base, J.hok, rv, q⟩
    | next =>
      obtain ⟨σ2, H2, J, q⟩ := hs
      exact ⟨V.non, H2, J.os, J.bare, J.base, J.hok, rfl, q⟩
    | brk =>
      obtain ⟨_, _, _, q⟩ := hs
      exact q.elim
    | cont =>
      obtain ⟨_, _, _, q⟩ := hs
      exact q.elim
  · exact fun e s2 z => z
/-! ### _law_alone_right -/
abbrev nAl : List Str := ["_law_one", "_law_low", "_law_odd_here", "_law_strange", "_law_label", "_law_thing", "_law_told"]
theorem scAl : FnScope nAl ["_law_one", "_law_low", "_law_odd_here", "_law_strange"] (defScope sAlone) := ⟨rfl, rfl, rfl, by decide +kernel, rfl, by decide +kernel, by decide +kernel⟩
end
end K13
namespace K13
open PySem L2 SR
/-! ### what is shown and compared -/
def tupD (t : List Str) : PyData := .tuple (t.map PyData.str)
theorem names_len {ys : List Str} (nms : ys.all isNm = true) : (tupD ys).shown.length ≤ 84 * ys.length + 3 := by
  have each : ∀ zs : List Str, (∀ y ∈ zs, isNm y = true) → ((zs.map reprText).map (·.length)).sum ≤ 82 * zs.length := fun zs => by
    induction zs with
    | nil => intro _; decide
    | cons z zs ih =>
      intro hz
      have a := repr_len8 (hz z List.mem_cons_self)
      have b := ih fun y hy => hz y (List.mem_cons_of_mem _ hy)
      rw [List.map_cons, List.map_cons, List.sum_cons, List.length_cons]
      omega
  have a := each ys fun y hy => List.all_eq_true.mp nms y hy
  have b := StrLaws.join_length_le ", " (ys.map reprText)
  have c : (", " : Str).length = 2 := by decide +kernel
  rw [c, List.length_map] at b
  simp only [tupD, PyData.shown, shownAll_str]
  unfold tupleText
  rw [strLen_append, strLen_append]
  have e1 : ("(" : Str).length = 1 := by decide +kernel
  have e2 : (Str.ofString (if (ys.map reprText).length == 1 then ",)" else ")")).length ≤ 2 := by split <;> decide +kernel
  rw [e1]
  omega
theorem list_len (ds : List PyData) : (PyData.list ds).shown.length ≤ 2 + ((PyData.shownAll ds).map (·.length)).sum + 2 * (PyData.shownAll ds).length := by
  simp only [PyData.shown]
  unfold listText
  rw [strLen_append]
  have b := textFrom_len_le (PyData.shownAll ds) 0 (Str.ofString "[")
  have e1 : (Str.ofString "[").length = 1 := by decide +kernel
  have e2 : (Str.ofString "]").length = 1 := by decide +kernel
  rw [e1] at b
  rw [e2]
  omega
theorem int4 : ∀ n : Nat, n ≤ 4 → (PyData.int (n : Int)).shown.length = 1 ∧ PyData.showable (.int (n : Int)) = true := by
  intro n hn
  match n, hn with
  | 0, _ => exact ⟨by decide +kernel, by decide +kernel⟩
  | 1, _ => exact ⟨by decide +kernel, by decide +kernel⟩
  | 2, _ => exact ⟨by decide +kernel, by decide +kernel⟩
  | 3, _ => exact ⟨by decide +kernel, by decide +kernel⟩
  | 4, _ => exact ⟨by decide +kernel, by decide +kernel⟩
theorem sho_pair {ys : List Str} {n : Nat} (nms : ys.all isNm = true) (l : ys.length ≤ 4) (hn : n ≤ 4) : Sho (.list [tupD ys, .int (n : Int)]) := by
  obtain ⟨a, b⟩ := int4 n hn
  have t : PyData.showable (tupD ys) = true := by simpa only [tupD, PyData.showable] using showable_str ys
  refine ⟨?_, ?_, ?_⟩
  · simp only [PyData.showable, PyData.showableAll, t] at b ⊢
    simpa using b
  · have := list_len [tupD ys, .int (n : Int)]
    have c := names_len nms
    have e : PyData.shownAll [tupD ys, .int (n : Int)] = [(tupD ys).shown, (PyData.int (n : Int)).shown] := by simp only [PyData.shownAll]
    rw [e] at this
    simp only [List.map_cons, List.map_nil, List.sum_cons, List.sum_nil, List.length_cons, List.length_nil, a] at this
    omega
  · simp only [PyData.depth, PyData.depthAll, tupD, depth_str]
    decide
theorem shown_bl : ∀ bs : List Bool, ((PyData.shownAll (bs.map PyData.bool)).map (·.length)).sum ≤ 5 * bs.length ∧ (PyData.shownAll (bs.map PyData.bool)).length = bs.length
  | [] => ⟨by decide, rfl⟩
  | b :: bs => by
    obtain ⟨h1, h2⟩ := shown_bl bs
    have e : PyData.shownAll ((b :: bs).map PyData.bool) = (PyData.bool b).shown :: PyData.shownAll (bs.map PyData.bool) := by rw [List.map_cons, PyData.shownAll]
    have l : (PyData.bool b).shown.length ≤ 5 := by cases b <;> decide +kernel
    rw [e, List.map_cons, List.sum_cons, List.length_cons, List.length_cons]
    exact ⟨by omega, by omega⟩
theorem sho_bls (bs : List Bool) (l : bs.length ≤ 100) : Sho (.list (bs.map PyData.bool)) := by
  have sh : ∀ bs : List Bool, PyData.showableAll (bs.map PyData.bool) = true := fun bs => by
    induction bs with
    | nil => rfl
    | cons b bs ih =>
      rw [List.map_cons, PyData.showableAll, ih]
      simp [PyData.showable]
  have dp : ∀ bs : List Bool, PyData.depthAll (bs.map PyData.bool) = 0 := fun bs => by
    induction bs with
    | nil => rfl
    | cons b bs ih =>
      rw [List.map_cons, PyData.depthAll, ih]
      simp [PyData.depth]
  refine ⟨by simpa only [PyData.showable] using sh bs, ?_, by simp only [PyData.depth, dp]; decide⟩
  have := list_len (bs.map PyData.bool)
  obtain ⟨h1, h2⟩ := shown_bl bs
  omega
theorem nodict_bl : ∀ bs : List Bool, PyData.hasDictAll (bs.map PyData.bool) = false
  | [] => rfl
  | b :: bs => by
    rw [List.map_cons, PyData.hasDictAll, nodict_bl bs]
    simp [PyData.hasDict]
theorem dp_bl {K : PySem.W.Frag} {H : Hp} : ∀ bs : List Bool, DpAll K H (bs.map V.bl) (bs.map PyData.bool)
  | [] => .nil
  | b :: bs => .cons (.bl b) (dp_bl bs)
theorem can_tups : ∀ S : List (List Str), (∀ t ∈ S, t.all isNm = true) → PyData.canLayAll0 (S.map tupD) = true ∧ PyData.depthAll (S.map tupD) ≤ 1
  | [], _ => ⟨rfl, by decide⟩
  | t :: S, h => by
    obtain ⟨h1, h2⟩ := can_tups S fun u hu => h u (List.mem_cons_of_mem _ hu)
    have nt := h t List.mem_cons_self
    obtain ⟨c1, c2⟩ := canT t fun x hx => nm_ok (List.all_eq_true.mp nt x hx)
    have e1 : PyData.canLay0 (tupD t) = true := by rw [tupD, PyData.canLay0]; exact c1
    have e2 : PyData.depth (tupD t) = 1 := by rw [tupD, PyData.depth, c2]
    refine ⟨?_, ?_⟩
    · rw [List.map_cons, PyData.canLayAll0, e1, h1] <;> rfl
    · rw [List.map_cons, PyData.depthAll, e2]
      omega
theorem sh_tups {S : List (List Str)} (h : ∀ t ∈ S, t.all isNm = true) : SeqAt.shaped (.list (S.map tupD)) = true ∧ PyData.eqv (.list (S.map tupD)) (.list (S.map tupD)) = true := by
  obtain ⟨h1, h2⟩ := can_tups S h
  have e1 : PyData.canLay0 (.list (S.map tupD)) = true := by rw [PyData.canLay0]; exact h1
  have e2 : PyData.depth (.list (S.map tupD)) ≤ 2 := by rw [PyData.depth]; omega
  refine ⟨?_, PySem.SeqAt.eqv_refl _ e1⟩
  unfold SeqAt.shaped
  rw [e1, decide_eq_true (by omega)] <;> rfl
theorem dp_tups {K : PySem.W.Frag} {H : Hp} : ∀ {vs : List V} {S : List (List Str)}, (∀ (j : Nat) (zs : List Str), S[j]? = some zs → ∃ p, vs[j]? = some (.ref p) ∧ H p = some (.tup (zs.map V.str))) → vs.length = S.length → DpAll K H vs (S.map tupD)
  | [], [], _, _ => .nil
  | [], _ :: _, _, l => by cases l
  | _ :: _, [], _, l => by cases l
  | v :: vs, t :: S, h, l => by
    obtain ⟨p, e, hp⟩ := h 0 t rfl
    cases e
    exact .cons (.tup (SqT.of hp) (dpT t)) (dp_tups (fun j zs e => h (j + 1) zs e) (Nat.succ.inj l))
end K13
namespace K13
open PySem L2 SR TAs LamX GfX
section
theorem Lb.ext {C : Addr} {H H' : Hp} {a : Addr} {ys : List Str} (h : Lb C H a ys) (s : ExtN H H') : Lb C H' a ys := h.keep fun b o e c => s b o e fun ps z => by
  rcases c with ⟨xs, q⟩ | ⟨D, dx, fs, q⟩ <;> rw [q] at z <;> cases z
theorem bt_ext {K : PySem.W.Frag} {H H' : Hp} {v : V} {T : String} (h : EqO.BtV K H v T) (s : ExtN H H') : EqO.BtV K H' v T := by
  cases h with
  | non => exact .non
  | bl b => exact .bl b
  | int i => exact .int i
  | str x => exact .str x
  | lst e => exact .lst (s _ _ e fun ps z => by cases z)
  | tup e => exact .tup (s _ _ e fun ps z => by cases z)
  | dic e => exact .dic (s _ _ e fun ps z => by cases z)
  | kTup e c => exact .kTup e c
theorem th_ext {K : PySem.W.Frag} {H H' : Hp} {v : V} {d : PyData} (h : Th K H v d) (s : ExtN H H') : Th K H' v d := by
  cases h with
  | non => exact .non
  | bl b => exact .bl b
  | int i => exact .int i
  | str x => exact .str x
  | lst e a n => exact .lst (s _ _ e fun ps z => by cases z) a n
  | tup e a n => exact .tup (s _ _ e fun ps z => by cases z) a n
  | d0 e => exact .d0 (s _ _ e fun ps z => by cases z)
  | d1 e => exact .d1 (s _ _ e fun ps z => by cases z)
theorem OddOk.ext {K : PySem.W.Frag} {H H' : Hp} {v : V} {d : PyData} (h : OddOk K H v d) (s : ExtN H H') : OddOk K H' v d := by
  obtain ⟨⟨T, b⟩, t, sh⟩ := h
  exact ⟨⟨T, bt_ext b s⟩, th_ext t s, sh⟩
theorem odd_E {K : PySem.W.Frag} {CE : Addr} {H : Hp} {t0 : Addr} {o : V} {d : PyData} {R : Addr → Hp → Prop} (ok : OddOk K H o d) (ht0 : H t0 = none) (k : ∀ H3 q, Same H H3 → H q = none → H3 q = some (.lst [.str "no label", .str d.shown]) → R q H3) :
    Odd K CE (upd H t0 (.lst [.str "other"])) o (fun cls d' H2 => cls = .ref CE ∧ ∃ dd fs v dt, d' = some dd ∧ H2 dd = some (.xd fs) ∧ List.lookup ("value" : Str) fs = some v ∧ Th K H2 v dt ∧ Sho dt ∧ ∀ H3 q, Same H2 H3 → H2 q = none → H3 q = some (.lst [.str "no label", .str dt.shown]) → R q H3) := by
  obtain ⟨⟨T, b⟩, t, sh⟩ := ok
  have s0 := same_upd (o := HO.lst [V.str "other"]) ht0
  exact ⟨⟨T, bt_ext b (ExtN.of s0)⟩, fun H' dd fs s hd hx hv => ⟨rfl, dd, fs, o, d, rfl, hx, hv, th_ext t (ExtN.of (s0.trans s)), sh, fun H3 q s3 hq h3 => k H3 q ((s0.trans s).trans s3) ((s0.trans s).free hq) h3⟩⟩
theorem tabs_upd {T : List (Addr × Str)} {H : Hp} {q : Addr} {l : List V} {o : HO} (h : Tabs T H) (e : H q = some (.lst l)) : Tabs T (upd H q o) := fun p hp => by
  obtain ⟨ps, h1, h2, h3⟩ := h p hp
  refine ⟨ps, by rw [upd_ne (fun z => by rw [z, e] at h1; cases h1)]; exact h1, h2, fun pos cv hc => ?_⟩
  obtain ⟨c, e1, e2⟩ := h3 pos cv hc
  exact ⟨c, e1, by rw [upd_ne (fun z => by rw [z, e] at e2; unfold CodeO at e2; cases e2)]; exact e2⟩
theorem ext_upd {H H' : Hp} {q : Addr} {o : HO} (s : ExtN H H') (n : ∀ u, H q = some u → ∃ ps, u = .tbl ps) : ExtN H (upd H' q o) := fun b u e m => by
  rw [upd_ne (fun z => by
    rw [z] at e
    obtain ⟨ps, y⟩ := n u e
    exact m ps y)]
  exact s b u e m
def spAlone (K : PySem.W.Frag) (C : Addr) (T : List (Addr × Str)) : Sp := fun vs H Q _ => ∃ (a p st : Addr) (o : V) (d : PyData) (zs ts : List Str) (ss : List V), vs = [.ref a, .ref p, o, .ref st] ∧ Lb C H a zs ∧ H p = some (.lst (ts.map V.str)) ∧ Srt ts zs ∧ ts.Nodup ∧ OddOk K H o d ∧
  H st = some (.lst ss) ∧ ss.length ≤ 40 ∧ (∀ v ∈ ss, hasV v zs = false ∧ ∀ H', ExtN H H' → Cl K H' v) ∧ Tabs T H ∧ ∀ H', ExtN H H' → Tabs T H' → Q (.bl true) H'
end
section
variable {P : Program} {w : World} {K : PySem.W.Frag} {mg : Str → Option Value} {base : Heap}
variable {C CM CE gE gL gS gR gH pM gM gB gI gO gA fAB fRf f c Pt : Addr} {dE dL dS dR dH dG dB dI dAB dRf fd : FuncData}
theorem ok_alone {T : List (Addr × Str)} (F : L2.Fun K "_law_alone_right" "_law_alone_right" sAlone f fd) (hc : fd.code = .ref c) (TB : TabB base mg c Pt) (hm : (Pt, ("_law_alone_right.<locals>.<lambda>" : Str)) ∈ T) (hu : ∀ p ∈ T, p.1 = Pt → p.2 = "_law_alone_right.<locals>.<lambda>")
    (M : LabM K mg C gE gL gS gR gH pM gM dE dL dS dR dH dG) (Z : Zn mg) (zT : mg "tuple" = none) (zO : mg "sorted" = none) (GB : GFo P w K mg base 6 gB dB ["self"] (spBelowG C)) (mB : Meth K C "below" gB) (bB : Binds K dB ["self"] [])
    (GI : FnOk P w K mg base (L2.CX P w) 4 gI dI ["self", "other"] (spBelow K C CE)) (mI : Meth K C "is_below" gI) (bI : Binds K dI ["self", "other"] [])
    (GO : FnR P w K mg base (L2.CX P w) 5 gO (fun vs H Q E => spTwo (· ++ ·) K C CE CM (vs ++ []) H Q E)) (OB : OpO.OwnB K C gO .BitOr) (GA : FnR P w K mg base (L2.CX P w) 5 gA (fun vs H Q E => spTwo (fun xs ys => xs.filter fun x => decide (x ∈ ys)) K C CE CM (vs ++ []) H Q E)) (OA : OpO.OwnB K C gA .BitAnd)
    (GAB : FnOk P w K mg base CX0 6 fAB dAB ["_law_marks"] (spAllB T)) (AB : At K mg "_law_all_below" sAllBelow ["_law_marks"] fAB dAB) (AR : At K mg "_law_refused" sRefused ["_law_call"] fRf dRf) (xf : XfC K CE) (te : PySem.W.exmOne K (.ref CE) (.ref CE) = some true) (nV : PySem.W.findIn K (.ref CE) "value" = some none) (mE : mg "InvalidLabel" = some (.ref CE)) :
    FnG P w K mg base 9 f fd ["_law_one", "_law_low", "_law_odd_here", "_law_strange"] (spAlone K C T) := by
  have GG : FnOk P w K mg base CX0 1 gM dG ["self"] (getSp C "_marks") := ok_get M
  have GLe : FnR P w K mg base CX0 1 gL (fun vs H Q E => spLen C (vs ++ []) H Q E) := (ok_len M Z).raw M.bL .nil
  have GHs : FnR P w K mg base CX0 1 gH (fun vs H Q E => spHas K C (vs ++ []) H Q E) := (ok_has M Z).raw M.bH .nil
  have GEq : FnR P w K mg base CX0 1 gE (fun vs H Q E => spEqL K C (vs ++ []) H Q E) := (ok_eq M Z).raw M.bE .nil
  obtain ⟨⟨⟨oc, od, kV, doc, pm, an, cdv, ct, osl, rfl, lk, hcd⟩, kp⟩, bR, mR⟩ := AR
  refine okGC F hc scAl (fun vs H Q E h => ?_) (fun A outer s H vs Q E gd hr h => ?_)
  · obtain ⟨a, p, st, o, d, zs, ts, ss, rfl, _⟩ := h
    rfl
  · have un : (A.deeper (PyProof.Rows.envOfC "_law_alone_right" (defScope sAlone) s.heap.objs.size f (.ref c))).units + 200 < cLine := by have := hr.un; omega
    have un64 : (A.deeper (PyProof.Rows.envOfC "_law_alone_right" (defScope sAlone) s.heap.objs.size f (.ref c))).units + 64 < cLine := by omega
    have un9 : ((A.deeper (PyProof.Rows.envOfC "_law_alone_right" (defScope sAlone) s.heap.objs.size f (.ref c))).deeper (PyProof.Rows.envOfC "_law_refused" (defScope sRefused) 0 fRf cdv)).units + 200 < cLine := by
      have := hr.un
      show (A.deeper (PyProof.Rows.envOfC "_law_alone_right" (defScope sAlone) s.heap.objs.size f (.ref c))).units + 3 + 200 < cLine
      omega
    have h1 := hr.mono (j := 1) (by decide)
    have h2 := hr.mono (j := 2) (by decide)
    have h3 := hr.mono (j := 3) (by decide)
    have h6 := hr.mono (j := 6) (by decide)
    have h7 := hr.mono (j := 7) (by decide)
    obtain ⟨a, p, st, o, d, zs, ts, ss, rfl, la, hp, srt, nd, od2, hst, l40, strange, hT, k⟩ := h
    refine ⟨_, pss_cons (ps_if (pt_cmpR op_ne
        (pe_callB (call_reprN gd un) (by rfl) Z.zRepr (by decide +kernel) (pa_cons (pe_lst (pa_cons (pe_prop (E := E0) (pv 0) M.cl M.pr GG h2 M.bM .nil pass0 rfl) (pa_cons (pe_callB (EqO.call_lenO M.fL M.iL GLe (E := E0) h2 pass0) (by rfl) Z.zLen PySem.boot_len (pa_cons (pv 0) pa_nil)) pa_nil))) pa_nil))
        (pe_callB (call_reprN gd un) (by rfl) Z.zRepr (by decide +kernel) (pa_cons (pe_lst (pa_cons (pe_callTy call_tuple_of (by rfl) zT (by decide +kernel) (pa_cons (pe_callB cr_sortedS (by rfl) zO (by decide +kernel) (pa_cons (pv 1) pa_nil)) pa_nil)) (pa_cons (pe_callB call_len_seq (by rfl) Z.zLen PySem.boot_len (pa_cons (pv 1) pa_nil)) pa_nil))) pa_nil)) (nomark _)) (pss_one (ps_ret pe_bl)) pss_nil)
      (pss_cons (ps_if (pt_cmpR (op_neD un64) (pe_lcGen (k := 6) (own := [("_law_label", 4)]) rfl (pv 0) M.cl mB GB bB hr (blkOk_by (N := nAl) (sc := defScope sAlone) (by decide +kernel)) rfl M.cl M.n1 M.pr M.M ⟨rfl, rfl, rfl, by decide +kernel, rfl, by decide +kernel, by decide +kernel⟩ rfl rfl M.bM)
        (pe_call GAB h6 (by rfl) AB.m AB.F.kp AB.b .nil pass0 (pa_cons (pv 1) pa_nil)) (nomark _)) (pss_one (ps_ret pe_bl)) pss_nil)
      (pss_cons (ps_if (pt_cmpR op_ne
        (pe_callB (call_reprN gd un) (by rfl) Z.zRepr (by decide +kernel) (pa_cons (pe_lc (own := [("_law_thing", 5)]) (g := gName 5) (tt := tYes) rfl scAl.nd (pi_list (pe_op op_cat (pv 1) (pv 3))) (blkOk_by (N := nAl) (sc := defScope sAlone) (by decide +kernel)) (fun _ _ _ _ _ => pg_name (i := 5) scAl.nd rfl (Or.inl rfl)) (fun _ _ _ _ _ => pts_nil)
          (fun _ _ _ _ _ => pe_cmpR (EqO.op_inO M.fH M.iH GHs (E := E0) h1 pass0) (pv 5) (pv 0) (by rfl))) pa_nil))
        (pe_callB (call_reprN gd un) (by rfl) Z.zRepr (by decide +kernel) (pa_cons (pe_op op_cat (pe_op op_rep (pe_lst (pa_cons pe_bl pa_nil)) (pe_callB call_len_seq (by rfl) Z.zLen PySem.boot_len (pa_cons (pv 1) pa_nil))) (pe_op op_rep (pe_lst (pa_cons pe_bl pa_nil)) (pe_callB call_len_seq (by rfl) Z.zLen PySem.boot_len (pa_cons (pv 3) pa_nil)))) pa_nil)) (nomark _)) (pss_one (ps_ret pe_bl)) pss_nil)
      (pss_cons (ps_set (i := 6) scAl.nd rfl (Or.inl rfl) (pe_lst (pa_cons (pe_lamcall (T := T) (k := 5) (Ng := nRf) (TT := TRef K CE) (by rfl) mR kp lk hcd bR scRf rfl (Or.inl rfl) (ref_gives gd un9 Z.zRepr mE xf te nV) TB rfl hm hu h7 (by apply lamS_by; show lamSB (defScope sAlone) _ = true; decide +kernel) rfl (fun _ _ _ _ _ => rfl)
        (t := fun E => tMeth C "is_below" (spBelow K C CE) [] E (tVar 0) (tCons (tVar 2) tNil)) (fun A2 o2 s2 H2 E2 f2 c2 hr2 => pe_meth (pv 0) M.cl mI GI (hr2.mono (by decide)) bI .nil (CmS.passE (takes_of rfl rfl rfl rfl)) (pa_cons (pv 2) pa_nil))) pa_nil)))
      (pss_cons (ps_expr (pe_bm PySem.F.plainAttrs_list PySem.F.slot_list_append PySem.F.type_list_append mt_append (pv 6) (pa_cons (pe_lamcall (T := T) (k := 5) (Ng := nRf) (TT := TRef K CE) (by rfl) mR kp lk hcd bR scRf rfl (Or.inl rfl) (ref_gives gd un9 Z.zRepr mE xf te nV) TB rfl hm hu h7 (by apply lamS_by; show lamSB (defScope sAlone) _ = true; decide +kernel) rfl (fun _ _ _ _ _ => rfl)
        (t := fun E => OpS.tBinS K C (fun vs H Q E => spTwo (· ++ ·) K C CE CM (vs ++ []) H Q E) (fun _ => E) (tVar 0) (tVar 2)) (fun A2 o2 s2 H2 E2 f2 c2 hr2 => OpS.pe_binS (E := fun _ => E2) OB M.O GO hr2 (fun σ => passAt (takes_of rfl rfl rfl rfl) σ) (pv 0) (pv 2))) pa_nil)))
      (pss_cons (ps_expr (pe_bm PySem.F.plainAttrs_list PySem.F.slot_list_append PySem.F.type_list_append mt_append (pv 6) (pa_cons (pe_lamcall (T := T) (k := 5) (Ng := nRf) (TT := TRef K CE) (by rfl) mR kp lk hcd bR scRf rfl (Or.inl rfl) (ref_gives gd un9 Z.zRepr mE xf te nV) TB rfl hm hu h7 (by apply lamS_by; show lamSB (defScope sAlone) _ = true; decide +kernel) rfl (fun _ _ _ _ _ => rfl)
        (t := fun E => OpS.tBinS K C (fun vs H Q E => spTwo (fun xs ys => xs.filter fun x => decide (x ∈ ys)) K C CE CM (vs ++ []) H Q E) (fun _ => E) (tVar 0) (tVar 2)) (fun A2 o2 s2 H2 E2 f2 c2 hr2 => OpS.pe_binS (E := fun _ => E2) OA M.O GA hr2 (fun σ => passAt (takes_of rfl rfl rfl rfl) σ) (pv 0) (pv 2))) pa_nil)))
      (pss_one (ps_ret (pe_and (pe_cmpR (StN.op_eqLL un64) (pv 6) (pe_op op_rep (pe_lst (pa_cons (pe_lst (pa_cons pe_str (pa_cons (pe_callB (call_reprD gd un) (by rfl) Z.zRepr (by decide +kernel) (pa_cons (pv 2) pa_nil)) pa_nil))) pa_nil)) pe_int) (nomark _))
        (pe_one (pe_cmpR op_eq (pe_callB (call_reprN gd un) (by rfl) Z.zRepr (by decide +kernel) (pa_cons (pe_lst (pa_cons (pe_cmpR (EqO.op_eqO M.O GEq (E := E0) h1 pass0) (pv 0) (pv 2) (nomark _)) (pa_cons (pe_cmpR (EqO.op_neO M.O GEq (E := E0) h2 pass0) (pv 0) (pv 2) (nomark _)) pa_nil))) pa_nil))
          (pe_callB (call_reprN gd un) (by rfl) Z.zRepr (by decide +kernel) (pa_cons (pe_lst (pa_cons pe_bl (pa_cons pe_bl pa_nil))) pa_nil)) (nomark _))))))))))), ?_⟩
    obtain ⟨nz, l4, sz, dx, tm, ha, htm⟩ := id la
    have hsl : sizeLine = 16777216 := sizeLine_eq
    have pz : zs.Perm ts := (List.perm_ext_iff_of_nodup srt.1 nd).mpr srt.2.2
    have lts : ts.length = zs.length := pz.length_eq.symm
    refine ⟨.ref a, rfl, a, dx, _, rfl, ha, a, dx, _, .ref tm, rfl, ha, rfl, ?_⟩
    refine ⟨_, rfl, a, dx, _, rfl, ha, a, zs, rfl, la, zs.length, rfl, by omega, ?_⟩
    refine ⟨by show 2 ≤ sizeLine; omega, fun l1 hl1 => ⟨_, .list [tupD zs, .int (zs.length : Int)], rfl, .lst (SqL.of upd_same) (.cons (.tup (SqT.of (same_upd hl1 _ _ htm)) (dpT zs)) (.cons (.int _) .nil)), by simp [PyData.hasDict, PyData.hasDictAll, tupD, nodict_str], sho_pair nz l4 l4, ?_⟩⟩
    have s1 := same_upd (o := HO.lst [V.ref tm, V.int (zs.length : Int)]) hl1
    revert s1
    generalize upd H l1 (.lst [V.ref tm, V.int (zs.length : Int)]) = H1
    intro s1
    refine ⟨_, rfl, p, ts, rfl, SqL.of (s1 _ _ hp), by omega, fun ys a1 pm srt1 x1 => ?_⟩
    have ez : ys = zs := SR.unique (xs := ts) ⟨pm.nodup_iff.mpr nd, srt1, fun y => pm.mem_iff⟩ srt
    subst ez
    refine ⟨a1, _, rfl, .inl ⟨SqL.of upd_same, fun l hl => ?_⟩⟩
    have s2 := s1.trans ((same_upd (o := HO.lst (ys.map V.str)) x1).trans (same_upd (o := HO.tup (ys.map V.str)) hl))
    have f2 : (upd (upd H1 a1 (.lst (ys.map V.str))) l (.tup (ys.map V.str))) l = some (.tup (ys.map V.str)) := upd_same
    revert s2 f2
    generalize upd (upd H1 a1 (.lst (ys.map V.str))) l (.tup (ys.map V.str)) = H2
    intro s2 f2
    refine ⟨_, rfl, p, _, rfl, .inl (SqL.of (s2 _ _ hp)), ?_⟩
    refine ⟨by show 2 ≤ sizeLine; omega, fun l2 hl2 => ⟨_, .list [tupD ys, .int (ys.length : Int)], rfl, .lst (SqL.of upd_same) (.cons (.tup (SqT.of (same_upd hl2 _ _ f2)) (dpT ys)) (.cons (by rw [List.length_map, lts]; exact .int _) .nil)), by simp [PyData.hasDict, PyData.hasDictAll, tupD, nodict_str], sho_pair nz l4 l4, rfl, _, rfl, ?_⟩⟩
    rw [decide_eq_true rfl]
    show (if false = true then _ else _)
    rw [if_neg Bool.false_ne_true]
    have s3 := s2.trans (same_upd (o := HO.lst [V.ref l, V.int ((ts.map V.str).length : Int)]) hl2)
    revert s3
    generalize upd H2 l2 (.lst [V.ref l, V.int ((ts.map V.str).length : Int)]) = H3
    intro s3
    clear s1 s2 f2 x1 hl1 hl2 hl
    refine ⟨.ref a, rfl, a, dx, _, rfl, s3 _ _ ha, rfl, a, ys, rfl, la.same s3, fun S pS oS => ⟨fun out b zb H4 g e lb => ?_, fun out H4 g el D acc hD pr => ?_⟩⟩
    · obtain ⟨_, _, _, dz, tz, hb, _⟩ := lb
      exact ⟨.ref tz, b, dz, _, rfl, hb, rfl⟩
    have s4 := s3.trans g.1
    have sD := same_upd (o := HO.lst acc) hD
    have s5 := s4.trans sD
    have nS : ∀ t ∈ S, t.all isNm = true := fun t ht => List.all_eq_true.mpr fun x hx => List.all_eq_true.mp nz x ((subs_sub (pS.mem_iff.mp ht)).subset hx)
    have tA : Tups (upd H4 D (.lst acc)) acc S := by
      refine ⟨pr.1.symm.trans el, fun j zj ej => ?_⟩
      have jl : j < out.length := by rw [el]; exact (List.getElem?_eq_some_iff.mp ej).1
      obtain ⟨sq, b, zb, e1, e2, lb⟩ := g.2.2 j out[j] (List.getElem?_eq_getElem jl)
      obtain ⟨y, ey, b2, dy, fy, f1, f2, f3⟩ := pr.2 j out[j] (List.getElem?_eq_getElem jl)
      rw [ej] at e2
      cases e2
      rw [e1] at f1
      cases f1
      obtain ⟨_, _, _, dz, tz, hb, htz⟩ := lb
      rw [hb] at f2
      cases f2
      cases f3
      exact ⟨tz, ey, sD _ _ (sq _ _ htz)⟩
    have fD : (upd H4 D (.lst acc)) D = some (.lst acc) := upd_same
    revert s5 tA fD
    clear sD
    generalize upd H4 D (.lst acc) = H5
    intro s5 tA fD
    refine ⟨_, rfl, p, ts, rfl, s5 _ _ hp, by omega, hT.ext s5, fun xs pm2 srt2 S2 pS2 oS2 H6 q vs eN T6 hq tv => ?_⟩
    have ex : xs = ys := SR.unique (xs := ts) ⟨pm2.nodup_iff.mpr nd, srt2, fun y => pm2.mem_iff⟩ srt
    subst ex
    have eS : S2 = S := ord_eq (pS2.trans pS.symm) oS2 oS
    subst eS
    have kT : ∀ {r : Addr} {us : List V}, H5 r = some (.tup us) → H6 r = some (.tup us) := fun {r us} e => eN _ _ e fun ps z => by cases z
    have kL : ∀ {r : Addr} {us : List V}, H5 r = some (.lst us) → H6 r = some (.lst us) := fun {r us} e => eN _ _ e fun ps z => by cases z
    obtain ⟨shS, eqS⟩ := sh_tups nS
    refine ⟨_, _, .lst (SqL.of (kL fD)) (dp_tups (fun j zj e => let ⟨r, a1, b1⟩ := tA.2 j zj e; ⟨r, a1, kT b1⟩) tA.1), .lst (SqL.of hq) (dp_tups tv.2 tv.1), shS, shS, _, rfl, ?_⟩
    rw [eqS]
    show (if false = true then _ else _)
    rw [if_neg Bool.false_ne_true]
    have sE : ExtN H H6 := (ExtN.of s5).trans eN
    clear tA fD tv hq kT kL pr g s5 s4 s3 hD eN
    have hp6 : H6 p = some (.lst (ts.map V.str)) := sE _ _ hp fun ps z => by cases z
    have hst6 : H6 st = some (.lst ss) := sE _ _ hst fun ps z => by cases z
    have la6 := la.ext sE
    have cl6 : ∀ v ∈ ts.map V.str ++ ss, ∀ H', Same H6 H' → Cl K H' v := fun v hv H' s' => by
      rcases List.mem_append.mp hv with z | z
      · obtain ⟨x, hx, rfl⟩ := List.mem_map.mp z
        have nx : isNm x = true := List.all_eq_true.mp nz x ((srt.2.2 x).mpr hx)
        have e := isNm_str nx
        rw [txt_of x]
        refine .str _ ?_
        have e2 : x.cps.toList.length = x.length := by rw [Array.length_toList] <;> rfl
        omega
      · exact (strange v z).2 H' (sE.trans (ExtN.of s'))
    have want : (ts.map V.str ++ ss).map (fun v => hasV v xs) = List.replicate ts.length true ++ List.replicate ss.length false := by
      rw [List.map_append, List.map_map]
      congr 1
      · refine List.eq_replicate_iff.mpr ⟨by rw [List.length_map], fun b hb => ?_⟩
        obtain ⟨x, hx, rfl⟩ := List.mem_map.mp hb
        show hasV (.str x) xs = true
        unfold hasV
        exact decide_eq_true ((srt.2.2 x).mpr hx)
      · refine List.eq_replicate_iff.mpr ⟨by rw [List.length_map], fun b hb => ?_⟩
        obtain ⟨v, hv, rfl⟩ := List.mem_map.mp hb
        exact (strange v hv).1
    have lall : (ts.map V.str ++ ss).length ≤ 44 := by
      rw [List.length_append, List.length_map]
      omega
    refine ⟨_, rfl, _, rfl, p, st, _, _, rfl, rfl, hp6, hst6, by rw [List.length_append] at lall; omega, fun b hb => ?_⟩
    have s7 := same_upd (o := HO.lst (ts.map V.str ++ ss)) hb
    have f7 : (upd H6 b (.lst (ts.map V.str ++ ss))) b = some (.lst (ts.map V.str ++ ss)) := upd_same
    revert s7 f7
    generalize upd H6 b (.lst (ts.map V.str ++ ss)) = H7
    intro s7 f7
    generalize hW : (ts.map V.str ++ ss).map (fun v => hasV v xs) = W at want
    have lW : W.length = (ts.map V.str ++ ss).length := by rw [← hW, List.length_map]
    refine ⟨b, rfl, ⟨_, SqL.of f7⟩, fun D2 hD2 => ?_⟩
    refine lc_list (xs := ts.map V.str ++ ss) (fun i H' => Same H7 H' ∧ H' D2 = some (.lst ((W.take i).map V.bl))) ⟨same_upd hD2, upd_same⟩ (fun i H' _ z => SqL.of (z.1 _ _ f7)) ?_ ?_
    · rintro i v H' hv ⟨sm, hL⟩
      obtain ⟨_, _, _, dy, ty, hay, _⟩ := (la6.same s7).same sm
      refine ⟨rfl, _, rfl, _, rfl, a, dy, _, rfl, hay, a, v, xs, rfl, (la6.same s7).same sm, cl6 v (List.mem_of_getElem? hv) _ (s7.trans sm), _, rfl, _, hL, ?_, fun b o e => ?_, ?_⟩
      · rw [List.length_map, List.length_take]
        omega
      · rw [upd_ne (ne_of_none e hD2)]
        exact sm b o e
      · rw [upd_same, take_snoc (x := hasV v xs) (by rw [← hW, List.getElem?_map, hv]; rfl), List.map_append]
        rfl
    rintro H8 ⟨s8, hD8⟩
    rw [← lW, List.take_length, want] at hD8
    have lw : (List.replicate ts.length true ++ List.replicate ss.length false).length ≤ 100 := by
      rw [List.length_append, List.length_replicate, List.length_replicate]
      rw [List.length_append, List.length_map] at lall
      omega
    refine ⟨_, .list ((List.replicate ts.length true ++ List.replicate ss.length false).map PyData.bool), rfl, .lst (SqL.of hD8) (dp_bl _), by rw [PyData.hasDict]; exact nodict_bl _, sho_bls _ lw, ?_⟩
    have s78 := s7.trans s8
    have rp : ∀ {n : Nat} {b : Bool}, (List.replicate (((n : Nat) : Int).toNat) [V.bl b]).flatten = (List.replicate n b).map V.bl := fun {n b} => by
      rw [Int.toNat_natCast, List.map_replicate]
      induction n with
      | zero => rfl
      | succ n ih => rw [List.replicate_succ, List.flatten_cons, ih, List.replicate_succ] <;> rfl
    refine ⟨by show 1 ≤ sizeLine; omega, fun l3 hl3 => ?_⟩
    refine ⟨_, rfl, p, _, rfl, .inl (SqL.of (same_upd hl3 _ _ (s78 _ _ hp6))), l3, _, [.bl true], rfl, rfl, upd_same, by omega, ?_, ?_, fun l4' hl4 => ?_⟩
    · rw [List.length_map]
      omega
    · rw [Int.toNat_natCast, List.length_map, hsl]
      show 1 * ts.length ≤ _
      omega
    rw [List.length_map, rp]
    have s9 := (same_upd (o := HO.lst [V.bl true]) hl3).trans (same_upd (o := HO.lst ((List.replicate ts.length true).map V.bl)) hl4)
    have f9 : (upd (upd H8 l3 (.lst [V.bl true])) l4' (.lst ((List.replicate ts.length true).map V.bl))) l4' = some (.lst ((List.replicate ts.length true).map V.bl)) := upd_same
    revert s9 f9
    generalize upd (upd H8 l3 (.lst [V.bl true])) l4' (.lst ((List.replicate ts.length true).map V.bl)) = H9
    intro s9 f9
    refine ⟨by show 1 ≤ sizeLine; omega, fun l5 hl5 => ?_⟩
    refine ⟨_, rfl, st, _, rfl, .inl (SqL.of (same_upd hl5 _ _ (s9 _ _ (s78 _ _ hst6)))), l5, _, [.bl false], rfl, rfl, upd_same, by omega, by omega, ?_, fun l6 hl6 => ?_⟩
    · rw [Int.toNat_natCast, hsl]
      show 1 * ss.length ≤ _
      omega
    rw [rp]
    have s10 := (same_upd (o := HO.lst [V.bl false]) hl5).trans (same_upd (o := HO.lst ((List.replicate ss.length false).map V.bl)) hl6)
    have f10 : (upd (upd H9 l5 (.lst [V.bl false])) l6 (.lst ((List.replicate ss.length false).map V.bl))) l6 = some (.lst ((List.replicate ss.length false).map V.bl)) := upd_same
    revert s10 f10
    generalize upd (upd H9 l5 (.lst [V.bl false])) l6 (.lst ((List.replicate ss.length false).map V.bl)) = H10
    intro s10 f10
    refine ⟨l4', l6, _, _, rfl, rfl, s10 _ _ f9, f10, ?_, fun l7 hl7 => ?_⟩
    · rw [List.length_map, List.length_map, List.length_replicate, List.length_replicate, hsl]
      rw [List.length_append, List.length_map] at lall
      omega
    rw [← List.map_append]
    refine ⟨_, .list ((List.replicate ts.length true ++ List.replicate ss.length false).map PyData.bool), rfl, .lst (SqL.of upd_same) (dp_bl _), by rw [PyData.hasDict]; exact nodict_bl _, sho_bls _ lw, rfl, _, rfl, ?_⟩
    rw [decide_eq_true rfl]
    show (if false = true then _ else _)
    rw [if_neg Bool.false_ne_true]
    have s11 := ((s78.trans s9).trans s10).trans (same_upd (o := HO.lst ((List.replicate ts.length true ++ List.replicate ss.length false).map V.bl)) hl7)
    revert s11
    generalize upd H10 l7 (.lst ((List.replicate ts.length true ++ List.replicate ss.length false).map V.bl)) = H11
    intro s11
    have sF : ExtN H H11 := sE.trans (ExtN.of s11)
    have T11 := T6.ext s11
    clear f9 f10 s9 s10 hl3 hl4 hl5 hl6 hl7 hD8 s8 s78 f7 s7 hb hD2 cl6 want
    obtain ⟨_, _, _, dy, ty, hay, _⟩ := id (la.ext sF)
    refine ⟨T11, fun H12 e12 T12 t0 ht0 => ?_⟩
    have sG := sF.trans e12
    refine ⟨.ref a, rfl, a, dy, _, rfl, same_upd ht0 _ _ (e12 _ _ hay fun ps z => by cases z), rfl, o, rfl, a, o, xs, rfl, (la.ext sG).same (same_upd ht0), .inl (odd_E (od2.ext sG) ht0 fun H13 q1 s13 hq1 fq1 => ?_)⟩
    have sH := sG.trans (ExtN.of s13)
    have T13 := T12.ext s13
    refine ⟨by show 1 ≤ sizeLine; omega, fun q2 hq2 => ?_⟩
    have s14 := same_upd (o := HO.lst [V.ref q1]) hq2
    have f14 : (upd H13 q2 (.lst [V.ref q1])) q2 = some (.lst [V.ref q1]) := upd_same
    revert s14 f14
    generalize upd H13 q2 (.lst [V.ref q1]) = H14
    intro s14 f14
    have sI := sH.trans (ExtN.of s14)
    have T14 := T13.ext s14
    have fq14 := s14 _ _ fq1
    have new2 : ∀ u, H q2 = some u → ∃ ps, u = .tbl ps := fun u e => by
      cases u with
      | tbl ps => exact ⟨ps, rfl⟩
      | _ =>
        have := sH _ _ e fun ps z => by cases z
        rw [hq2] at this
        cases this
    have n12 : q1 ≠ q2 := fun z => by
      rw [z, hq2] at fq1
      cases fq1
    clear s14 s13 hq2 hq1 e12 T12 T13 sG sH ht0
    refine ⟨_, rfl, (.inl ⟨rfl, _, SqL.of f14⟩), T14, fun H15 e15 T15 t0 ht0 => ?_⟩
    have sJ := sI.trans e15
    obtain ⟨_, _, _, dy2, ty2, hay2, _⟩ := id (la.ext sJ)
    refine ⟨_, rfl, _, rfl, a, dy2, _, rfl, same_upd ht0 _ _ hay2, .inl (((od2.ext sJ).ext (ExtN.of (same_upd ht0))).1), a, o, xs, rfl, (la.ext sJ).same (same_upd ht0), .inl (odd_E (od2.ext sJ) ht0 fun H16 q3 s16 hq3 fq3 => ?_)⟩
    have g16 : ∀ {b : Addr} {us : List V}, H14 b = some (.lst us) → H16 b = some (.lst us) := fun {b us} e => s16 _ _ (e15 _ _ e fun ps z => by cases z)
    refine ⟨q2, _, _, rfl, rfl, g16 f14, by show 1 < sizeLine; omega, ?_⟩
    have n32 : q3 ≠ q2 := fun z => by
      rw [z, g16 f14] at fq3
      cases fq3
    have sK := ext_upd (o := HO.lst ([V.ref q1] ++ [V.ref q3])) (sJ.trans (ExtN.of s16)) new2
    have TK := tabs_upd (o := HO.lst ([V.ref q1] ++ [V.ref q3])) (T15.ext s16) (g16 f14)
    have f17 : (upd H16 q2 (.lst ([V.ref q1] ++ [V.ref q3]))) q2 = some (.lst ([V.ref q1] ++ [V.ref q3])) := upd_same
    have f1 : (upd H16 q2 (.lst ([V.ref q1] ++ [V.ref q3]))) q1 = _ := (upd_ne n12).trans (g16 fq14)
    have f3 : (upd H16 q2 (.lst ([V.ref q1] ++ [V.ref q3]))) q3 = _ := (upd_ne n32).trans fq3
    revert sK TK f17 f1 f3
    generalize upd H16 q2 (.lst ([V.ref q1] ++ [V.ref q3])) = H17
    intro sK TK f17 f1 f3
    clear hay2 sJ sI e15 T15 ht0 s16 hq3 fq3 g16
    refine ⟨_, rfl, (.inl ⟨rfl, _, SqL.of f17⟩), TK, fun H18 e18 T18 t0 ht0 => ?_⟩
    have sL := sK.trans e18
    obtain ⟨_, _, _, dy3, ty3, hay3, _⟩ := id (la.ext sL)
    refine ⟨_, rfl, _, rfl, a, dy3, _, rfl, same_upd ht0 _ _ hay3, .inl (((od2.ext sL).ext (ExtN.of (same_upd ht0))).1), a, o, xs, rfl, (la.ext sL).same (same_upd ht0), .inl (odd_E (od2.ext sL) ht0 fun H19 q4 s19 hq4 fq4 => ?_)⟩
    have g19 : ∀ {b : Addr} {us : List V}, H17 b = some (.lst us) → H19 b = some (.lst us) := fun {b us} e => s19 _ _ (e18 _ _ e fun ps z => by cases z)
    refine ⟨q2, _, _, rfl, rfl, g19 f17, by show 2 < sizeLine; omega, ?_⟩
    have n42 : q4 ≠ q2 := fun z => by
      rw [z, g19 f17] at fq4
      cases fq4
    have sM := ext_upd (o := HO.lst (([V.ref q1] ++ [V.ref q3]) ++ [V.ref q4])) (sL.trans (ExtN.of s19)) new2
    have TM := tabs_upd (o := HO.lst (([V.ref q1] ++ [V.ref q3]) ++ [V.ref q4])) (T18.ext s19) (g19 f17)
    have h2' : (upd H19 q2 (.lst (([V.ref q1] ++ [V.ref q3]) ++ [V.ref q4]))) q2 = some (.lst (([V.ref q1] ++ [V.ref q3]) ++ [V.ref q4])) := upd_same
    have h1' : (upd H19 q2 (.lst (([V.ref q1] ++ [V.ref q3]) ++ [V.ref q4]))) q1 = _ := (upd_ne n12).trans (g19 f1)
    have h3' : (upd H19 q2 (.lst (([V.ref q1] ++ [V.ref q3]) ++ [V.ref q4]))) q3 = _ := (upd_ne n32).trans (g19 f3)
    have h4' : (upd H19 q2 (.lst (([V.ref q1] ++ [V.ref q3]) ++ [V.ref q4]))) q4 = _ := (upd_ne n42).trans fq4
    revert sM TM h1' h2' h3' h4'
    generalize upd H19 q2 (.lst (([V.ref q1] ++ [V.ref q3]) ++ [V.ref q4])) = H20
    intro sM TM h2' h1' h3' h4'
    clear hay3 sL sK e18 T18 ht0 s19 hq4 fq4 g19 f1 f3 f17 TK
    obtain ⟨⟨To, bo⟩, tho, sho⟩ := od2.ext sM
    refine ⟨_, rfl, _, rfl, o, d, rfl, tho, sho, by show 2 ≤ sizeLine; omega, fun q5 hq5 => ⟨by show 1 ≤ sizeLine; omega, fun q6 hq6 => ?_⟩⟩
    have s5 := same_upd (o := HO.lst [V.str "no label", V.str d.shown]) hq5
    have s6 := same_upd (o := HO.lst [V.ref q5]) hq6
    refine ⟨q6, 3, [.ref q5], rfl, rfl, upd_same, by omega, by omega, by show 1 * 3 ≤ sizeLine; omega, fun q7 hq7 => ?_⟩
    have s7 := same_upd (o := HO.lst (List.replicate (3 : Int).toNat [V.ref q5]).flatten) hq7
    have sN := (s5.trans s6).trans s7
    have f5 := (s6.trans s7) _ _ (upd_same (H := H20) (a := q5) (o := HO.lst [V.str "no label", V.str d.shown]))
    have f7 : (upd (upd (upd H20 q5 (.lst [V.str "no label", V.str d.shown])) q6 (.lst [V.ref q5])) q7 (.lst (List.replicate (3 : Int).toNat [V.ref q5]).flatten)) q7 = some (.lst [V.ref q5, V.ref q5, V.ref q5]) := upd_same
    revert sN f5 f7
    clear s5 s6 s7 hq7
    generalize upd (upd (upd H20 q5 (.lst [V.str "no label", V.str d.shown])) q6 (.lst [V.ref q5])) q7 (.lst (List.replicate (3 : Int).toNat [V.ref q5]).flatten) = H21
    intro sN f5 f7
    refine ⟨q2, q7, [q1, q3, q4], [q5, q5, q5], ["no label", d.shown], rfl, rfl, SqL.of (sN _ _ h2'), SqL.of f7, rfl, fun p hp => ?_, fun p hp => ?_, true, rfl, ?_⟩
    · rcases List.mem_cons.mp hp with z | hp
      · rw [z]
        exact SqL.of (sN _ _ h1')
      · rcases List.mem_cons.mp hp with z | hp
        · rw [z]
          exact SqL.of (sN _ _ h3')
        · rw [List.mem_singleton.mp hp]
          exact SqL.of (sN _ _ h4')
    · have e : p = q5 := by
        simp only [List.mem_cons, List.not_mem_nil, or_false, or_self] at hp
        exact hp
      rw [e]
      exact SqL.of f5
    show (if true = true then _ else _)
    rw [if_pos rfl]
    have sO := sM.trans (ExtN.of sN)
    obtain ⟨_, _, _, dy4, ty4, hay4, _⟩ := id (la.ext sO)
    have bo4 := bt_ext bo (ExtN.of sN)
    refine ⟨_, rfl, _, rfl, .inl ⟨a, dy4, _, rfl, hay4, .inl ⟨To, bo4⟩, a, o, xs, rfl, la.ext sO, .inl ⟨To, bo4, ?_⟩⟩⟩
    refine ⟨_, rfl, _, rfl, .inl ⟨a, dy4, _, rfl, hay4, .inl ⟨To, bo4⟩, a, o, xs, rfl, la.ext sO, .inl ⟨To, bo4, false, rfl, ?_⟩⟩⟩
    refine ⟨by show 2 ≤ sizeLine; omega, fun q8 hq8 => ⟨_, .list ([false, true].map PyData.bool), rfl, .lst (SqL.of upd_same) (dp_bl [false, true]), by rw [PyData.hasDict]; exact nodict_bl _, sho_bls _ (by decide), ?_⟩⟩
    refine ⟨by show 2 ≤ sizeLine; omega, fun q9 hq9 => ⟨_, .list ([false, true].map PyData.bool), rfl, .lst (SqL.of upd_same) (dp_bl [false, true]), by rw [PyData.hasDict]; exact nodict_bl _, sho_bls _ (by decide), rfl, ?_⟩⟩
    rw [decide_eq_true rfl]
    exact k _ ((sO.trans (ExtN.of (same_upd hq8))).trans (ExtN.of (same_upd hq9))) (((TM.ext sN).ext (same_upd hq8)).ext (same_upd hq9))
end
end K13
namespace K13
open PySem L2 SR
/-! ### _law_pair_right -/
section
variable {P : Program} {w : World} {K : PySem.W.Frag} {mg : Str → Option Value} {base : Heap}
variable {C CM CE gE gL gS gR gH pM gM gI gA fJ f : Addr} {dE dL dS dR dH dG dI dJ fd : FuncData}
abbrev nPr : List Str := ["_law_one", "_law_mate", "_law_low", "_law_high", "_law_every", "_law_common", "_law_mark", "_law_due", "_law_told"]
theorem scPr : FnScope nPr ["_law_one", "_law_mate", "_law_low", "_law_high"] (defScope sPair) := ⟨rfl, rfl, rfl, by decide +kernel, rfl, by decide +kernel, by decide +kernel⟩
def spPair (K : PySem.W.Frag) (C : Addr) : Sp := fun vs H Q _ => ∃ (a b p q : Addr) (xs ys ts us : List Str), vs = [.ref a, .ref b, .ref p, .ref q] ∧ Lb C H a xs ∧ Lb C H b ys ∧ H p = some (.lst (ts.map V.str)) ∧ H q = some (.lst (us.map V.str)) ∧ Srt ts xs ∧ Srt us ys ∧ ts.Nodup ∧ us.Nodup ∧
  ∀ H', Same H H' → Q (.bl true) H'
theorem fl_strs (ys : List Str) : (ys.map V.str).all flatV = true := by
  rw [List.all_map]
  exact List.all_eq_true.mpr fun _ _ => rfl
theorem ok_pair (F : L2.Fun K "_law_pair_right" "_law_pair_right" sPair f fd) (M : LabM K mg C gE gL gS gR gH pM gM dE dL dS dR dH dG) (Z : Zn mg) (zT : mg "tuple" = none) (zO : mg "sorted" = none) (zS : mg "set" = none)
    (GI : FnOk P w K mg base (L2.CX P w) 4 gI dI ["self", "other"] (spBelow K C CE)) (mI : Meth K C "is_below" gI) (bI : Binds K dI ["self", "other"] []) (bIk : ∀ (s : Shared) (u v : Value), PySem.BindsTo s dI ⟨[u], [("other", v)]⟩ ([("self" : Str), "other"].zip [u, v]))
    (GA : FnR P w K mg base (L2.CX P w) 5 gA (fun vs H Q E => spTwo (fun xs ys => xs.filter fun x => decide (x ∈ ys)) K C CE CM (vs ++ []) H Q E)) (OA : OpO.OwnB K C gA .BitAnd)
    (GJ : FnOk P w K mg base CX0 6 fJ dJ ["_law_one", "_law_mate"] (spJoined C)) (AJ : At K mg "_law_joined" sJoined ["_law_one", "_law_mate"] fJ dJ) :
    FnG P w K mg base 7 f fd ["_law_one", "_law_mate", "_law_low", "_law_high"] (spPair K C) := by
  have GG : FnOk P w K mg base CX0 1 gM dG ["self"] (getSp C "_marks") := ok_get M
  have GEq : FnR P w K mg base CX0 1 gE (fun vs H Q E => spEqL K C (vs ++ []) H Q E) := (ok_eq M Z).raw M.bE .nil
  refine okG F scPr (fun vs H Q E h => ?_) (fun cdv A outer s H vs Q E gd hr h => ?_)
  · obtain ⟨a, b, p, q, xs, ys, ts, us, rfl, _⟩ := h
    rfl
  · have un : (A.deeper (PyProof.Rows.envOfC "_law_pair_right" (defScope sPair) s.heap.objs.size f cdv)).units + 200 < cLine := by have := hr.un; omega
    have un64 : (A.deeper (PyProof.Rows.envOfC "_law_pair_right" (defScope sPair) s.heap.objs.size f cdv)).units + 64 < cLine := by omega
    have h1 := hr.mono (j := 1) (by decide)
    have h2 := hr.mono (j := 2) (by decide)
    have h4 := hr.mono (j := 4) (by decide)
    have h5 := hr.mono (j := 5) (by decide)
    obtain ⟨a, b, p, q, xs, ys, ts, us, rfl, la, lb, hp, hq, sa, sb, nda, ndb, k⟩ := h
    refine ⟨_, pss_cons (ps_set (i := 4) scPr.nd rfl (Or.inl rfl) (pe_callTy call_tuple_of (by rfl) zT (by decide +kernel) (pa_cons (pe_callB (show CallR _ (.builtin "sorted") (LB.rSortBag w) from LB.cr_sortBag rfl) (by rfl) zO (by decide +kernel) (pa_cons (pe_callTy (show CallR _ (.type "set") (LB.rBag K w) from LB.cr_bag rfl) (by rfl) zS (by decide +kernel) (pa_cons (pe_op op_cat (pv 2) (pv 3)) pa_nil)) pa_nil)) pa_nil)))
      (pss_cons (ps_set (i := 5) scPr.nd rfl (Or.inl rfl) (pe_callTy call_tuple_of (by rfl) zT (by decide +kernel) (pa_cons (pe_callB cr_sortedS (by rfl) zO (by decide +kernel) (pa_cons (pe_lc (own := [("_law_mark", 6)]) (g := gName 6) (tt := tTest (tOp (rIn K false) (tVar 6) (tVar 3))) rfl scPr.nd (pi_list (pv 2)) (blkOk_by (N := nPr) (sc := defScope sPair) (by decide +kernel)) (fun _ _ _ _ _ => pg_name (i := 6) scPr.nd rfl (Or.inl rfl))
          (fun _ _ _ _ _ => pts_one (pt_cmpR (show OpR _ (compareOp .In) (rIn K false) from op_in_seq) (pv 6) (pv 3) (by rfl))) (fun _ _ _ _ _ => pv 6)) pa_nil)) pa_nil)))
      (pss_cons (ps_set (i := 7) scPr.nd rfl (Or.inl rfl) (pe_lst (pa_cons (pe_callB (cr_all rfl) (by rfl) Z.zAll (by decide +kernel) (pa_cons (pe_lc (own := [("_law_mark", 6)]) (g := gName 6) (tt := tYes) rfl scPr.nd (pi_list (pv 2)) (blkOk_by (N := nPr) (sc := defScope sPair) (by decide +kernel)) (fun _ _ _ _ _ => pg_name (i := 6) scPr.nd rfl (Or.inl rfl)) (fun _ _ _ _ _ => pts_nil)
            (fun _ _ _ _ _ => pe_cmpR (show OpR _ (compareOp .In) (rIn K false) from op_in_seq) (pv 6) (pv 3) (by rfl))) pa_nil))
          (pa_cons (pe_callB (cr_all rfl) (by rfl) Z.zAll (by decide +kernel) (pa_cons (pe_lc (own := [("_law_mark", 6)]) (g := gName 6) (tt := tYes) rfl scPr.nd (pi_list (pv 3)) (blkOk_by (N := nPr) (sc := defScope sPair) (by decide +kernel)) (fun _ _ _ _ _ => pg_name (i := 6) scPr.nd rfl (Or.inl rfl)) (fun _ _ _ _ _ => pts_nil)
            (fun _ _ _ _ _ => pe_cmpR (show OpR _ (compareOp .In) (rIn K false) from op_in_seq) (pv 6) (pv 2) (by rfl))) pa_nil))
          (pa_cons (pe_cmpR (op_eqD un64) (pe_callB cr_sortedS (by rfl) zO (by decide +kernel) (pa_cons (pv 2) pa_nil)) (pe_callB cr_sortedS (by rfl) zO (by decide +kernel) (pa_cons (pv 3) pa_nil)) (nomark _)) pa_nil)))))
      (pss_cons (ps_set (i := 8) scPr.nd rfl (Or.inl rfl) (pe_lst (pa_cons (pe_meth (E := E0) (pv 0) M.cl mI GI h4 bI .nil (CmS.passE L2.takes0) (pa_cons (pv 1) pa_nil)) (pa_cons (MkX.pe_methKw (E := E0) (pv 1) M.cl mI GI h4 bIk (CmS.passE L2.takes0) (pv 0)) (pa_cons (pe_cmpR (EqO.op_eqO M.O GEq (E := E0) h1 pass0) (pv 0) (pv 1) (nomark _)) pa_nil)))))
      (pss_cons (ps_if (PW.pt (pw_or (pt_cmpR op_ne (pe_callB (call_reprN gd un) (by rfl) Z.zRepr (by decide +kernel) (pa_cons (pv 8) pa_nil)) (pe_callB (call_reprN gd un) (by rfl) Z.zRepr (by decide +kernel) (pa_cons (pv 7) pa_nil)) (nomark _))
          (pw_or1 (pt_cmpR op_ne (pe_callB (call_reprN gd un) (by rfl) Z.zRepr (by decide +kernel) (pa_cons (pe_lst (pa_cons (pe_cmpR (EqO.op_eqO M.O GEq (E := E0) h1 pass0) (pv 1) (pv 0) (nomark _)) (pa_cons (pe_not (pe_cmpR (EqO.op_neO M.O GEq (E := E0) h2 pass0) (pv 0) (pv 1) (nomark _))) pa_nil))) pa_nil)) (pe_callB (call_reprN gd un) (by rfl) Z.zRepr (by decide +kernel) (pa_cons (pe_op op_rep (pe_lst (pa_cons (pe_ix ix_seq (pv 7) pe_int (fun _ _ => rfl)) pa_nil)) pe_int) pa_nil)) (nomark _))))) (pss_one (ps_ret pe_bl)) pss_nil)
      (pss_cons (ps_set (i := 7) scPr.nd rfl (Or.inl rfl) (pe_ifExp (pt_cmpR op_lt (pe_callB call_len_seq (by rfl) Z.zLen PySem.boot_len (pa_cons (pv 4) pa_nil)) pe_int (nomark _)) (pe_lst (pa_cons pe_str (pa_cons (pv 4) pa_nil))) (pe_lst (pa_cons pe_str (pa_cons pe_str (pa_cons pe_int pa_nil))))))
      (pss_cons (ps_if (PW.pt (pw_or (pt_cmpR (op_neD un64) (pe_call GJ hr (by rfl) AJ.m AJ.F.kp AJ.b .nil pass0 (pa_cons (pv 0) (pa_cons (pv 1) pa_nil))) (pv 7) (nomark _))
          (pw_or1 (pt_cmpR (op_neD un64) (pe_call GJ hr (by rfl) AJ.m AJ.F.kp AJ.b .nil pass0 (pa_cons (pv 1) (pa_cons (pv 0) pa_nil))) (pv 7) (nomark _))))) (pss_one (ps_ret pe_bl)) pss_nil)
      (pss_one (ps_ret (pe_cmpR (op_eqD un64) (pe_lst (pa_cons (pe_prop (E := E0) (pe_op (OpO.op_binO OA M.O GA (E := E0) h5 (CmS.passE L2.takes0)) (pv 0) (pv 1)) M.cl M.pr GG h2 M.bM .nil pass0 rfl) (pa_cons (pe_prop (E := E0) (pe_op (OpO.op_binO OA M.O GA (E := E0) h5 (CmS.passE L2.takes0)) (pv 1) (pv 0)) M.cl M.pr GG h2 M.bM .nil pass0 rfl) pa_nil)))
          (pe_op op_rep (pe_lst (pa_cons (pv 5) pa_nil)) pe_int) (nomark _)))))))))), ?_⟩
    have hsl : sizeLine = 16777216 := sizeLine_eq
    obtain ⟨nx, lx, sx, dx, tm, ha, htm⟩ := id la
    obtain ⟨ny, ly, sy, dy, un_, hb, hun⟩ := id lb
    have lts : ts.length = xs.length := ((List.perm_ext_iff_of_nodup sa.1 nda).mpr sa.2.2).length_eq.symm
    have lus : us.length = ys.length := ((List.perm_ext_iff_of_nodup sb.1 ndb).mpr sb.2.2).length_eq.symm
    have mt : ∀ y, y ∈ ts ↔ y ∈ xs := fun y => (sa.2.2 y).symm
    have mu : ∀ y, y ∈ us ↔ y ∈ ys := fun y => (sb.2.2 y).symm
    obtain ⟨es, se⟩ := SR.there (xs ++ ys)
    obtain ⟨cs, sc⟩ := SR.there (xs.filter fun x => decide (x ∈ ys))
    have nes : es.all isNm = true := List.all_eq_true.mpr fun x hx => by
      rcases List.mem_append.mp ((se.2.2 x).mp hx) with z | z
      · exact List.all_eq_true.mp nx x z
      · exact List.all_eq_true.mp ny x z
    have ncs : cs.all isNm = true := List.all_eq_true.mpr fun x hx => List.all_eq_true.mp nx x (List.mem_filter.mp ((sc.2.2 x).mp hx)).1
    have lcs : cs.length ≤ 4 := by
      have e := ((List.perm_ext_iff_of_nodup sc.1 (sx.1.filter _)).mpr sc.2.2).length_eq
      have := List.length_filter_le (fun x => decide (x ∈ ys)) xs
      omega
    -- every
    refine ⟨_, rfl, _, rfl, p, q, _, _, rfl, rfl, hp, hq, by rw [List.length_map, List.length_map]; omega, fun l0 hl0 => ?_⟩
    refine ⟨l0, ts ++ us, rfl, .inr (SqL.of (upd_same.trans (by rw [List.map_append]))), by rw [List.length_append]; omega, fun l1 ks hl1 mem ndk lek => ?_⟩
    refine ⟨l1, ks, rfl, upd_same, by rw [List.length_append] at lek; omega, fun zs l2 pm srt hl2 => ?_⟩
    obtain rfl : zs = es := SR.unique (xs := xs ++ ys) ⟨pm.nodup_iff.mpr ndk, srt, fun y => by rw [pm.mem_iff, mem, List.mem_append, List.mem_append, mt, mu]⟩ se
    refine ⟨l2, _, rfl, .inl ⟨SqL.of upd_same, fun l3 hl3 => ?_⟩⟩
    have s1 := (((same_upd (o := HO.lst (ts.map V.str ++ us.map V.str)) hl0).trans (same_upd (o := LB.BagO w l1 ks) hl1)).trans (same_upd (o := HO.lst (zs.map V.str)) hl2)).trans (same_upd (o := HO.tup (zs.map V.str)) hl3)
    have f1 : (upd (upd (upd (upd H l0 (.lst (ts.map V.str ++ us.map V.str))) l1 (LB.BagO w l1 ks)) l2 (.lst (zs.map V.str))) l3 (.tup (zs.map V.str))) l3 = some (.tup (zs.map V.str)) := upd_same
    revert s1 f1
    clear hl0 hl1 hl2 hl3
    generalize upd (upd (upd (upd H l0 (.lst (ts.map V.str ++ us.map V.str))) l1 (LB.BagO w l1 ks)) l2 (.lst (zs.map V.str))) l3 (.tup (zs.map V.str)) = H1
    intro s1 f1
    -- common
    refine ⟨_, rfl, p, rfl, ⟨_, SqL.of (s1 _ _ hp)⟩, fun D hD => ?_⟩
    refine lc_list (xs := ts.map V.str) (fun i H' => Same H1 H' ∧ H' D = some (.lst (((ts.take i).filter fun x => decide (x ∈ us)).map V.str))) ⟨same_upd hD, upd_same⟩ (fun i H' _ z => SqL.of (z.1 _ _ (s1 _ _ hp))) ?_ ?_
    · rintro i v H' hv ⟨sm, hL⟩
      rw [List.getElem?_map] at hv
      obtain ⟨x, ex, rfl⟩ := Option.map_eq_some_iff.mp hv
      have tk : ts.take (i + 1) = ts.take i ++ [x] := take_snoc ex
      refine ⟨rfl, _, rfl, _, rfl, q, _, rfl, .inl (SqL.of (sm _ _ (s1 _ _ hq))), rfl, (fl_strs us), _, rfl, ?_⟩
      rw [if_neg Bool.false_ne_true, inV_str]
      by_cases hm : x ∈ us
      · show (if decide (x ∈ us) = true then _ else _)
        rw [if_pos (decide_eq_true hm)]
        refine ⟨_, rfl, _, hL, ?_, fun b o e => ?_, ?_⟩
        · rw [List.length_map]
          have := List.length_filter_le (fun x => decide (x ∈ us)) (ts.take i)
          rw [List.length_take] at this
          omega
        · rw [upd_ne (ne_of_none e hD)]
          exact sm b o e
        · rw [upd_same, tk, List.filter_append, List.filter_cons, if_pos (decide_eq_true hm), List.map_append]
          rfl
      · show (if decide (x ∈ us) = true then _ else _)
        rw [if_neg (fun z => hm (of_decide_eq_true z))]
        refine ⟨sm, ?_⟩
        rw [tk, List.filter_append, List.filter_cons, if_neg (fun z => hm (of_decide_eq_true z)), List.filter_nil, List.append_nil]
        exact hL
    rintro H2 ⟨s2, hD2⟩
    rw [List.length_map, List.take_length] at hD2
    refine ⟨D, _, rfl, SqL.of hD2, ?_, fun zs2 l2 pm2 srt2 hl2 => ?_⟩
    · have := List.length_filter_le (fun x => decide (x ∈ us)) ts
      omega
    obtain rfl : zs2 = cs := SR.unique (xs := xs.filter fun x => decide (x ∈ ys)) ⟨pm2.nodup_iff.mpr (nda.filter _), srt2, fun y => by rw [pm2.mem_iff, List.mem_filter, List.mem_filter, mt, decide_eq_true_eq, decide_eq_true_eq, mu]⟩ sc
    refine ⟨l2, _, rfl, .inl ⟨SqL.of upd_same, fun l4 hl4 => ?_⟩⟩
    have s3 := (s1.trans s2).trans ((same_upd (o := HO.lst (zs2.map V.str)) hl2).trans (same_upd (o := HO.tup (zs2.map V.str)) hl4))
    have g1 := ((same_upd (o := HO.lst (zs2.map V.str)) hl2).trans (same_upd (o := HO.tup (zs2.map V.str)) hl4)) _ _ (s2 _ _ f1)
    have f2 : (upd (upd H2 l2 (.lst (zs2.map V.str))) l4 (.tup (zs2.map V.str))) l4 = some (.tup (zs2.map V.str)) := upd_same
    revert s3 f2 g1
    clear hl2 hl4 hD2 s2 hD f1 s1
    generalize upd (upd H2 l2 (.lst (zs2.map V.str))) l4 (.tup (zs2.map V.str)) = H3
    intro s3 f2 g1
    -- due
    refine ⟨_, rfl, p, rfl, ⟨_, SqL.of (s3 _ _ hp)⟩, fun D hD => ?_⟩
    refine lc_list (xs := ts.map V.str) (fun i H' => Same H3 H' ∧ H' D = some (.lst (((ts.take i).map fun x => decide (x ∈ us)).map V.bl))) ⟨same_upd hD, upd_same⟩ (fun i H' _ z => SqL.of (z.1 _ _ (s3 _ _ hp))) ?_ ?_
    · rintro i v H' hv ⟨sm, hL⟩
      rw [List.getElem?_map] at hv
      obtain ⟨x, ex, rfl⟩ := Option.map_eq_some_iff.mp hv
      have tk : ts.take (i + 1) = ts.take i ++ [x] := take_snoc ex
      refine ⟨rfl, _, rfl, _, rfl, q, _, rfl, .inl (SqL.of (sm _ _ (s3 _ _ hq))), rfl, (fl_strs us), ?_⟩
      rw [if_neg Bool.false_ne_true, inV_str]
      refine ⟨_, hL, ?_, fun b o e => ?_, ?_⟩
      · rw [List.length_map, List.length_map, List.length_take]
        omega
      · rw [upd_ne (ne_of_none e hD)]
        exact sm b o e
      · rw [upd_same, tk, List.map_append, List.map_append]
        rfl
    rintro H4 ⟨s4, hD4⟩
    rw [List.length_map, List.take_length] at hD4
    refine ⟨D, _, rfl, SqL.of hD4, ?_⟩
    have s34 := s3.trans s4
    refine ⟨_, rfl, q, rfl, ⟨_, SqL.of (s34 _ _ hq)⟩, fun D2 hD2 => ?_⟩
    refine lc_list (xs := us.map V.str) (fun i H' => Same H4 H' ∧ H' D2 = some (.lst (((us.take i).map fun x => decide (x ∈ ts)).map V.bl))) ⟨same_upd hD2, upd_same⟩ (fun i H' _ z => SqL.of (z.1 _ _ (s34 _ _ hq))) ?_ ?_
    · rintro i v H' hv ⟨sm, hL⟩
      rw [List.getElem?_map] at hv
      obtain ⟨x, ex, rfl⟩ := Option.map_eq_some_iff.mp hv
      have tk : us.take (i + 1) = us.take i ++ [x] := take_snoc ex
      refine ⟨rfl, _, rfl, _, rfl, p, _, rfl, .inl (SqL.of (sm _ _ (s34 _ _ hp))), rfl, (fl_strs ts), ?_⟩
      rw [if_neg Bool.false_ne_true, inV_str]
      refine ⟨_, hL, ?_, fun b o e => ?_, ?_⟩
      · rw [List.length_map, List.length_map, List.length_take]
        omega
      · rw [upd_ne (ne_of_none e hD2)]
        exact sm b o e
      · rw [upd_same, tk, List.map_append, List.map_append]
        rfl
    rintro H5 ⟨s5, hD5⟩
    rw [List.length_map, List.take_length] at hD5
    refine ⟨D2, _, rfl, SqL.of hD5, ?_⟩
    have s35 := s34.trans s5
    refine ⟨_, rfl, p, ts, rfl, SqL.of (s35 _ _ hp), by omega, fun zs3 l5 pm3 srt3 hl5 => ?_⟩
    obtain rfl : zs3 = xs := SR.unique (xs := ts) ⟨pm3.nodup_iff.mpr nda, srt3, fun y => pm3.mem_iff⟩ sa
    have s6 := same_upd (o := HO.lst (zs3.map V.str)) hl5
    refine ⟨_, rfl, q, us, rfl, SqL.of (s6 _ _ (s35 _ _ hq)), by omega, fun zs4 l6 pm4 srt4 hl6 => ?_⟩
    obtain rfl : zs4 = ys := SR.unique (xs := us) ⟨pm4.nodup_iff.mpr ndb, srt4, fun y => pm4.mem_iff⟩ sb
    have s7 := same_upd (o := HO.lst (zs4.map V.str)) hl6
    refine ⟨_, _, .lst (SqL.of (s7 _ _ upd_same)) (dpT zs3), .lst (SqL.of upd_same) (dpT zs4), shL _ (fun x hx => nm_ok (List.all_eq_true.mp nx x hx)), shL _ (fun x hx => nm_ok (List.all_eq_true.mp ny x hx)), ?_⟩
    rw [eqvL]
    refine ⟨by show 3 ≤ sizeLine; omega, fun l7 hl7 => ?_⟩
    have b1 : ((ts.map fun x => decide (x ∈ us)).all id) = zs3.all fun x => decide (x ∈ zs4) := by
      rw [Bool.eq_iff_iff, List.all_map, List.all_eq_true, List.all_eq_true]
      exact ⟨fun h x hx => decide_eq_true ((mu x).mp (of_decide_eq_true (h x ((mt x).mpr hx)))), fun h x hx => decide_eq_true ((mu x).mpr (of_decide_eq_true (h x ((mt x).mp hx))))⟩
    have b2 : ((us.map fun x => decide (x ∈ ts)).all id) = zs4.all fun x => decide (x ∈ zs3) := by
      rw [Bool.eq_iff_iff, List.all_map, List.all_eq_true, List.all_eq_true]
      exact ⟨fun h x hx => decide_eq_true ((mt x).mp (of_decide_eq_true (h x ((mu x).mpr hx)))), fun h x hx => decide_eq_true ((mt x).mpr (of_decide_eq_true (h x ((mu x).mp hx))))⟩
    rw [b1, b2]
    generalize hB1 : (zs3.all fun x => decide (x ∈ zs4)) = B1
    generalize hB2 : (zs4.all fun x => decide (x ∈ zs3)) = B2
    have hB3 : decide (zs4 = zs3) = decide (zs3 = zs4) := by
      rw [Bool.eq_iff_iff, decide_eq_true_eq, decide_eq_true_eq]
      exact ⟨Eq.symm, Eq.symm⟩
    have s8 := ((s35.trans s6).trans s7).trans (same_upd (o := HO.lst [V.bl B1, V.bl B2, V.bl (decide (zs3 = zs4))]) hl7)
    have f8 := (s4.trans s5 |>.trans s6 |>.trans s7).trans (same_upd (o := HO.lst [V.bl B1, V.bl B2, V.bl (decide (zs3 = zs4))]) hl7) _ _ f2
    have g8 := (s4.trans s5 |>.trans s6 |>.trans s7).trans (same_upd (o := HO.lst [V.bl B1, V.bl B2, V.bl (decide (zs3 = zs4))]) hl7) _ _ g1
    have d8 : (upd (upd (upd H5 l5 (.lst (zs3.map V.str))) l6 (.lst (zs4.map V.str))) l7 (.lst [V.bl B1, V.bl B2, V.bl (decide (zs3 = zs4))])) l7 = some (.lst [V.bl B1, V.bl B2, V.bl (decide (zs3 = zs4))]) := upd_same
    revert s8 f8 g8 d8
    clear hl5 hl6 hl7 s6 s7 hD5 s5 hD2 s34 s35 hD4 s4 hD s3 f2 g1
    generalize upd (upd (upd H5 l5 (.lst (zs3.map V.str))) l6 (.lst (zs4.map V.str))) l7 (.lst [V.bl B1, V.bl B2, V.bl (decide (zs3 = zs4))]) = H8
    intro s8 f8 g8 d8
    -- told
    refine ⟨_, rfl, a, dx, _, rfl, s8 _ _ ha, rfl, _, rfl, a, .ref b, zs3, rfl, la.same s8, .inr ⟨b, zs4, rfl, lb.same s8, fun H9 s9 => ?_⟩⟩
    rw [hB1]
    have s89 := s8.trans s9
    refine ⟨_, rfl, b, dy, _, rfl, s89 _ _ hb, rfl, _, rfl, b, .ref a, zs4, rfl, lb.same s89, .inr ⟨a, zs3, rfl, la.same s89, fun H10 s10 => ?_⟩⟩
    rw [hB2]
    have s8a := s89.trans s10
    refine ⟨_, rfl, _, rfl, .inl ⟨a, dx, _, rfl, s8a _ _ ha, .inr ⟨b, dy, _, rfl, s8a _ _ hb⟩, a, .ref b, zs3, rfl, la.same s8a, .inr ⟨b, zs4, rfl, lb.same s8a, ?_⟩⟩⟩
    refine ⟨by show 3 ≤ sizeLine; omega, fun l9 hl9 => ?_⟩
    have s11 := (s9.trans s10).trans (same_upd (o := HO.lst [V.bl B1, V.bl B2, V.bl (decide (zs3 = zs4))]) hl9)
    have e11 : (upd H10 l9 (.lst [V.bl B1, V.bl B2, V.bl (decide (zs3 = zs4))])) l9 = some (.lst [V.bl B1, V.bl B2, V.bl (decide (zs3 = zs4))]) := upd_same
    revert s11 e11
    clear hl9 s10 s89 s8a s9
    generalize upd H10 l9 (.lst [V.bl B1, V.bl B2, V.bl (decide (zs3 = zs4))]) = H11
    intro s11 e11
    have sA := s8.trans s11
    refine ⟨_, rfl, _, .list ([B1, B2, decide (zs3 = zs4)].map PyData.bool), rfl, .lst (SqL.of e11) (dp_bl [B1, B2, decide (zs3 = zs4)]), by rw [PyData.hasDict]; exact nodict_bl _, sho_bls _ (by show 3 ≤ 100; decide), ?_⟩
    refine ⟨_, rfl, _, .list ([B1, B2, decide (zs3 = zs4)].map PyData.bool), rfl, .lst (SqL.of (s11 _ _ d8)) (dp_bl [B1, B2, decide (zs3 = zs4)]), by rw [PyData.hasDict]; exact nodict_bl _, sho_bls _ (by show 3 ≤ 100; decide), rfl, _, rfl, ?_⟩
    rw [decide_eq_true rfl]
    show (if false = true then _ else _)
    rw [if_neg Bool.false_ne_true]
    -- the second test
    refine ⟨_, rfl, _, rfl, .inl ⟨b, dy, _, rfl, sA _ _ hb, .inr ⟨a, dx, _, rfl, sA _ _ ha⟩, b, .ref a, zs4, rfl, lb.same sA, .inr ⟨a, zs3, rfl, la.same sA, ?_⟩⟩⟩
    refine ⟨_, rfl, _, rfl, .inl ⟨a, dx, _, rfl, sA _ _ ha, .inr ⟨b, dy, _, rfl, sA _ _ hb⟩, a, .ref b, zs3, rfl, la.same sA, .inr ⟨b, zs4, rfl, lb.same sA, _, rfl, _, rfl, ?_⟩⟩⟩
    rw [hB3, Bool.not_not]
    refine ⟨by show 2 ≤ sizeLine; omega, fun l10 hl10 => ⟨_, .list ([decide (zs3 = zs4), decide (zs3 = zs4)].map PyData.bool), rfl, .lst (SqL.of upd_same) (dp_bl [decide (zs3 = zs4), decide (zs3 = zs4)]), by rw [PyData.hasDict]; exact nodict_bl _, sho_bls _ (by show 2 ≤ 100; decide), ?_⟩⟩
    have s12 := sA.trans (same_upd (o := HO.lst [V.bl (decide (zs3 = zs4)), V.bl (decide (zs3 = zs4))]) hl10)
    have k12 := same_upd (o := HO.lst [V.bl (decide (zs3 = zs4)), V.bl (decide (zs3 = zs4))]) hl10
    revert s12 k12
    generalize upd H11 l10 (.lst [V.bl (decide (zs3 = zs4)), V.bl (decide (zs3 = zs4))]) = H12
    intro s12 k12
    refine ⟨_, rfl, .inl ⟨_, _, 2, _, rfl, rfl, SqL.of (k12 _ _ (s11 _ _ d8)), rfl, ?_⟩⟩
    refine ⟨by show 1 ≤ sizeLine; omega, fun l11 hl11 => ?_⟩
    refine ⟨l11, 2, _, rfl, rfl, upd_same, by omega, by omega, by show 1 * 2 ≤ sizeLine; omega, fun l12 hl12 => ?_⟩
    refine ⟨_, .list ([decide (zs3 = zs4), decide (zs3 = zs4)].map PyData.bool), rfl, .lst (SqL.of upd_same) (dp_bl [decide (zs3 = zs4), decide (zs3 = zs4)]), by rw [PyData.hasDict]; exact nodict_bl _, sho_bls _ (by show 2 ≤ 100; decide), rfl, _, rfl, ?_⟩
    rw [decide_eq_true rfl]
    show (if false = true then _ else _)
    rw [if_neg Bool.false_ne_true]
    have s13 := s12.trans ((same_upd (o := HO.lst [V.bl (decide (zs3 = zs4))]) hl11).trans (same_upd (o := HO.lst (List.replicate (2 : Int).toNat [V.bl (decide (zs3 = zs4))]).flatten) hl12))
    have k13 := (s11.trans k12).trans ((same_upd (o := HO.lst [V.bl (decide (zs3 = zs4))]) hl11).trans (same_upd (o := HO.lst (List.replicate (2 : Int).toNat [V.bl (decide (zs3 = zs4))]).flatten) hl12))
    have f13 := k13 _ _ f8
    have g13 := k13 _ _ g8
    revert s13 f13 g13
    clear hl11 hl12 k13 s12 k12 hl10 s11 e11 sA f8 g8 d8 s8
    generalize upd (upd H12 l11 (.lst [V.bl (decide (zs3 = zs4))])) l12 (.lst (List.replicate (2 : Int).toNat [V.bl (decide (zs3 = zs4))]).flatten) = H13
    intro s13 f13 g13
    have shEq : SeqAt.shaped (.list [.str "label", tupD zs]) = true ∧ PyData.eqv (.list [.str "label", tupD zs]) (.list [.str "label", tupD zs]) = true := by
      obtain ⟨h1, h2⟩ := can_tups [zs] fun t ht => by rw [List.mem_singleton.mp ht]; exact nes
      have e1 : PyData.canLay0 (.list [.str "label", tupD zs]) = true := by
        rw [PyData.canLay0, PyData.canLayAll0]
        rw [List.map_cons, List.map_nil] at h1
        rw [h1]
        decide +kernel
      have e2 : PyData.depth (.list [.str "label", tupD zs]) ≤ 2 := by
        rw [List.map_cons, List.map_nil] at h2
        rw [PyData.depth, PyData.depthAll]
        have : PyData.depth (.str "label") = 0 := rfl
        omega
      refine ⟨?_, PySem.SeqAt.eqv_refl _ e1⟩
      unfold SeqAt.shaped
      rw [e1, decide_eq_true (by omega)] <;> rfl
    have g7 : ∀ {H' : Hp} {q' : Addr} {t : Addr}, H' q' = some (.lst [.str "label", .ref t]) → H' t = some (.tup (zs.map V.str)) → Dp K H' (.ref q') (.list [.str "label", tupD zs]) := fun h1 h2 => .lst (SqL.of h1) (.cons (.str _) (.cons (.tup (SqT.of h2) (dpT zs)) .nil))
    have g8 : ∀ {H' : Hp} {q' : Addr}, H' q' = some (.lst [.str "many", .str "marks", .int 4]) → Dp K H' (.ref q') (.list [.str "many", .str "marks", .int 4]) := fun h1 => .lst (SqL.of h1) (.cons (.str _) (.cons (.str _) (.cons (.int _) .nil)))
    refine ⟨_, rfl, l3, _, rfl, .inr (SqT.of f13), _, _, rfl, rfl, _, rfl, ?_⟩
    by_cases h5 : (((zs.map V.str).length : Nat) : Int) < 5
    rw [decide_eq_true h5]
    show (if true = true then _ else _)
    rw [if_pos rfl]
    refine ⟨_, rfl, by show 2 ≤ sizeLine; omega, fun l14 hl14 => ?_⟩
    obtain ⟨dat, hD14, hS, hE, hJ⟩ : ∃ dat : PyData, (∀ H', Same (upd H13 l14 (.lst [.str "label", .ref l3])) H' → Dp K H' (.ref l14) dat) ∧ SeqAt.shaped dat = true ∧ PyData.eqv dat dat = true ∧ ∀ H' q', JoinD zs H' q' → Dp K H' (.ref q') dat :=
      ⟨_, fun H' s' => g7 (s' _ _ upd_same) (s' _ _ (same_upd hl14 _ _ f13)), shEq.1, shEq.2, fun H' q' jd => by
        rcases jd with ⟨z, _⟩ | ⟨_, t, h1, h2⟩
        · rw [List.length_map] at h5
          omega
        · exact g7 h1 h2⟩
    have s14 := s13.trans (same_upd (o := HO.lst [.str "label", .ref l3]) hl14)
    have g14 := same_upd (o := HO.lst [.str "label", .ref l3]) hl14 _ _ g13
    revert s14 g14 hD14
    generalize upd H13 l14 (.lst [.str "label", .ref l3]) = H14
    intro hD14 s14 g14
    rotate_left
    rw [decide_eq_false h5]
    show (if false = true then _ else _)
    rw [if_neg Bool.false_ne_true]
    refine ⟨by show 3 ≤ sizeLine; omega, fun l14 hl14 => ?_⟩
    obtain ⟨dat, hD14, hS, hE, hJ⟩ : ∃ dat : PyData, (∀ H', Same (upd H13 l14 (.lst [.str "many", .str "marks", .int 4])) H' → Dp K H' (.ref l14) dat) ∧ SeqAt.shaped dat = true ∧ PyData.eqv dat dat = true ∧ ∀ H' q', JoinD zs H' q' → Dp K H' (.ref q') dat :=
      ⟨_, fun H' s' => g8 (s' _ _ upd_same), by decide +kernel, by decide +kernel, fun H' q' jd => by
        rcases jd with ⟨_, h1⟩ | ⟨z, _⟩
        · exact g8 h1
        · rw [List.length_map] at h5
          omega⟩
    have s14 := s13.trans (same_upd (o := HO.lst [.str "many", .str "marks", .int 4]) hl14)
    have g14 := same_upd (o := HO.lst [.str "many", .str "marks", .int 4]) hl14 _ _ g13
    revert s14 g14 hD14
    generalize upd H13 l14 (.lst [.str "many", .str "marks", .int 4]) = H14
    intro hD14 s14 g14
    all_goals
      clear hl14 g7 g8 shEq f13 g13 s13
      refine ⟨_, rfl, _, rfl, a, b, zs3, zs4, zs, rfl, la.same s14, lb.same s14, se, fun H15 q15 s15 hq15 jd => ?_⟩
      refine ⟨_, rfl, dat, dat, hJ H15 q15 jd, hD14 H15 s15, hS, hS, _, rfl, ?_⟩
      rw [hE]
      show (if false = true then _ else _)
      rw [if_neg Bool.false_ne_true]
      have s145 := s14.trans s15
      refine ⟨_, rfl, _, rfl, b, a, zs4, zs3, zs, rfl, lb.same s145, la.same s145, ⟨se.1, se.2.1, fun y => by rw [se.2.2, List.mem_append, List.mem_append, or_comm]⟩, fun H16 q16 s16 hq16 jd2 => ?_⟩
      refine ⟨_, rfl, dat, dat, hJ H16 q16 jd2, hD14 H16 (s15.trans s16), hS, hS, _, rfl, ?_⟩
      rw [hE]
      show (if false = true then _ else _)
      rw [if_neg Bool.false_ne_true]
      have s17 := s145.trans s16
      have g17 := (s15.trans s16) _ _ g14
      refine ⟨_, rfl, _, rfl, a, dx, _, rfl, s17 _ _ ha, .inr ⟨b, dy, _, rfl, s17 _ _ hb⟩, a, .ref b, zs3, rfl, la.same s17, .inr ⟨b, zs4, zs2, rfl, lb.same s17, sc, fun z => absurd z (by omega), fun _ H18 z18 s18 hz18 lz => ?_⟩⟩
      obtain ⟨_, _, _, dz, tz, hz1, hz2⟩ := id lz
      refine ⟨z18, dz, _, rfl, hz1, z18, dz, _, .ref tz, rfl, hz1, rfl, ?_⟩
      have s178 := s17.trans s18
      refine ⟨_, rfl, _, rfl, b, dy, _, rfl, s178 _ _ hb, .inr ⟨a, dx, _, rfl, s178 _ _ ha⟩, b, .ref a, zs4, rfl, lb.same s178, .inr ⟨a, zs3, zs2, rfl, la.same s178, ⟨sc.1, sc.2.1, fun y => by rw [sc.2.2, List.mem_filter, List.mem_filter, decide_eq_true_eq, decide_eq_true_eq, and_comm]⟩, fun z => absurd z (by omega), fun _ H19 z19 s19 hz19 lz2 => ?_⟩⟩
      obtain ⟨_, _, _, dz2, tz2, hy1, hy2⟩ := id lz2
      refine ⟨z19, dz2, _, rfl, hy1, z19, dz2, _, .ref tz2, rfl, hy1, rfl, ?_⟩
      have s20 := s178.trans s19
      refine ⟨by show 2 ≤ sizeLine; omega, fun l20 hl20 => ?_⟩
      refine ⟨_, rfl, by show 1 ≤ sizeLine; omega, fun l21 hl21 => ?_⟩
      refine ⟨l21, 2, _, rfl, rfl, upd_same, by omega, by omega, by show 1 * 2 ≤ sizeLine; omega, fun l22 hl22 => ?_⟩
      have k20 := same_upd (o := HO.lst [V.ref tz, V.ref tz2]) hl20
      have k21 := same_upd (o := HO.lst [V.ref l4]) hl21
      have k22 := same_upd (o := HO.lst (List.replicate (2 : Int).toNat [V.ref l4]).flatten) hl22
      have k3 := (k20.trans k21).trans k22
      obtain ⟨hh1, hh2⟩ := sh_tups (S := [zs2, zs2]) fun t ht => by
        simp only [List.mem_cons, List.not_mem_nil, or_false, or_self] at ht
        rw [ht]
        exact ncs
      refine ⟨.list ([zs2, zs2].map tupD), .list ([zs2, zs2].map tupD), .lst (SqL.of ((k21.trans k22) _ _ upd_same)) (.cons (.tup (SqT.of (k3 _ _ (s19 _ _ hz2))) (dpT zs2)) (.cons (.tup (SqT.of (k3 _ _ hy2)) (dpT zs2)) .nil)), .lst (SqL.of upd_same) (.cons (.tup (SqT.of (k3 _ _ ((s18.trans s19) _ _ g17))) (dpT zs2)) (.cons (.tup (SqT.of (k3 _ _ ((s18.trans s19) _ _ g17))) (dpT zs2)) .nil)), hh1, hh1, ?_⟩
      rw [hh2]
      exact k _ (s20.trans k3)
end
end K13
namespace K13
open PySem L2 SR TAs LamX GfX
/-! ### what stays while the tables of code objects grow -/
/-- what was tracked stands, but r, which is a stock as before, and the tables -/
def KN (r : Addr) (H H' : Hp) : Prop := (∀ b o, b ≠ r → H b = some o → (∀ ps, o ≠ .tbl ps) → H' b = some o) ∧ (Rg H r → Rg H' r)
theorem tabs_kp {T : List (Addr × Str)} {r : Addr} {H H' : Hp} (h : Tabs T H) (g : Rg H r) (k : Kp r H H') : Tabs T H' := fun p hp => by
  obtain ⟨ps, h1, h2, h3⟩ := h p hp
  obtain ⟨x, y, q, _⟩ := g
  refine ⟨ps, k.1 _ _ (fun z => by rw [z, q] at h1; cases h1) h1, h2, fun pos cv hc => ?_⟩
  obtain ⟨c, e1, e2⟩ := h3 pos cv hc
  exact ⟨c, e1, k.1 _ _ (fun z => by rw [z, q] at e2; unfold CodeO at e2; cases e2) e2⟩
theorem rg_ext {r : Addr} {H H' : Hp} (g : Rg H r) (s : ExtN H H') : Rg H' r := by
  obtain ⟨x, y, q, p⟩ := g
  exact ⟨x, y, s _ _ q (fun ps z => by cases z), p⟩
/-- the heap without the stock -/
def wo (r : Addr) (H : Hp) : Hp := fun b => if b = r then none else H b
theorem wo_at {r b : Addr} {H : Hp} {o : HO} (e : H b = some o) (n : b ≠ r) : wo r H b = some o := by
  unfold wo
  rw [if_neg n]
  exact e
theorem wo_ext {r : Addr} (H : Hp) : ExtN (wo r H) H := fun b o e _ => by
  unfold wo at e
  split at e
  · cases e
  · exact e
theorem wo_kn {r : Addr} {H H0 H' : Hp} (k : Kp r H0 H) (g : Rg H' r) (s : ExtN (wo r H) H') : KN r H0 H' :=
  ⟨fun b o n e t => s _ _ (wo_at (k.1 b o n e) n) t, fun _ => g⟩
theorem kp_ext {r : Addr} {H H1 H2 : Hp} (s : ExtN (wo r H) H1) (k : Kp r H1 H2) : ExtN (wo r H) H2 := fun b o e t => by
  have e' := e
  unfold wo at e
  split at e
  · cases e
  · next n => exact k.1 b o n (s b o e' t)
theorem Lb.wo {C : Addr} {r : Addr} {H : Hp} {a : Addr} {ys : List Str} (h : Lb C H a ys) (g : Rg H r) : Lb C (wo r H) a ys := h.keep fun b o e c => wo_at e fun z => by
  obtain ⟨x, y, q, _⟩ := g
  rw [z, q] at e
  rcases c with ⟨xs, w⟩ | ⟨D, dx, fs, w⟩ <;> rw [← Option.some.inj e] at w <;> cases w
theorem bt_at {K : PySem.W.Frag} {H H' : Hp} {v : V} {T : String} (h : EqO.BtV K H v T) (s : ∀ a o, v = .ref a → H a = some o → H' a = some o) : EqO.BtV K H' v T := by
  cases h with
  | non => exact .non
  | bl b => exact .bl b
  | int i => exact .int i
  | str x => exact .str x
  | lst e => exact .lst (s _ _ rfl e)
  | tup e => exact .tup (s _ _ rfl e)
  | dic e => exact .dic (s _ _ rfl e)
  | kTup e c => exact .kTup e c
theorem OddOk.at {K : PySem.W.Frag} {H H' : Hp} {v : V} {d : PyData} (h : OddOk K H v d) (s : ∀ a o, v = .ref a → H a = some o → H' a = some o) : OddOk K H' v d := by
  obtain ⟨⟨T, b⟩, t, sh⟩ := h
  exact ⟨⟨T, bt_at b s⟩, t.keep s, sh⟩
theorem cl_tup {K : PySem.W.Frag} {H : Hp} {a : Addr} {xs : List V} (e : H a = some (.tup xs)) : Cl K H (.ref a) :=
  .oth (.base (.tup e)) (kit_ty (a := "tuple") (b := "bool") (r := false) (by decide +kernel)) (kit_ty (a := "tuple") (b := "int") (r := false) (by decide +kernel)) (kit_ty (a := "tuple") (b := "str") (r := false) (by decide +kernel))
theorem cl_lst {K : PySem.W.Frag} {H : Hp} {a : Addr} {xs : List V} (e : H a = some (.lst xs)) : Cl K H (.ref a) :=
  .oth (.base (.lst e)) (kit_ty (a := "list") (b := "bool") (r := false) (by decide +kernel)) (kit_ty (a := "list") (b := "int") (r := false) (by decide +kernel)) (kit_ty (a := "list") (b := "str") (r := false) (by decide +kernel))
theorem cl_dic {K : PySem.W.Frag} {H : Hp} {a : Addr} {kvs : List (Key × V)} (e : H a = some (.dK kvs)) : Cl K H (.ref a) :=
  .oth (.base (.dK e)) (kit_ty (a := "dict") (b := "bool") (r := false) (by decide +kernel)) (kit_ty (a := "dict") (b := "int") (r := false) (by decide +kernel)) (kit_ty (a := "dict") (b := "str") (r := false) (by decide +kernel))
theorem cl_lab {K : PySem.W.Frag} {mg : Str → Option Value} {C gE gL gS gR gH pM gM : Addr} {dE dL dS dR dH dM : FuncData} {H : Hp} {z : Addr} {ys : List Str} (M : LabM K mg C gE gL gS gR gH pM gM dE dL dS dR dH dM)
    (kI : ∀ T ∈ ["bool", "int", "str"], PySem.W.kitOne K (.ref C) (.type T) = some false) (h : Lb C H z ys) : Cl K H (.ref z) := by
  obtain ⟨_, _, _, dx, t, ha, _⟩ := h
  exact .oth (.base (.ins ha M.cl M.ca M.cn M.ct M.cm)) (kI _ (by decide)) (kI _ (by decide)) (kI _ (by decide))
theorem cl_str {K : PySem.W.Frag} {H : Hp} {y : Str} (h : y.cps.toList.length ≤ 4000) : Cl K H (.str y) := by
  rw [txt_of y]
  exact .str _ h
theorem cl_nm {K : PySem.W.Frag} {H : Hp} {y : Str} (h : isNm y = true) : Cl K H (.str y) := cl_str (Nat.le_trans (isNm_len h) (by decide))
theorem has_nm {x : Str} {ys : List Str} (nms : ys.all isNm = true) (h : isNm x = false) : hasV (.str x) ys = false := by
  show decide (x ∈ ys) = false
  refine decide_eq_false fun z => ?_
  have : isNm x = true := List.all_eq_true.mp nms x z
  rw [this] at h
  cases h
theorem cut_one (xs : List V) : cutV xs none (some 1) = xs.take 1 := by
  unfold cutV
  rw [HT.sIx_none, List.drop_zero, Nat.sub_zero, show (some (1 : Int)) = some ((1 : Nat) : Int) from rfl, HT.sIx_nat]
  cases xs <;> simp
end K13
namespace K13
open PySem L2 SR TAs LamX GfX
/-! ### _law_right -/
/-- the defs that _law_right calls -/
structure SEnv (K : PySem.W.Frag) (mg : Str → Option Value) (fD fC fW fWs fSo fMd fOd fAl fPr : Addr) (dD dC dW dWs dSo dMd dOd dAl dPr : FuncData) : Prop where
  B : BEnv mg
  D : At K mg "_law_draw" sDraw ["_law_rng_here", "_law_many"] fD dD
  Ch : At K mg "_law_choice" sChoice ["_law_rng_here", "_law_options"] fC dC
  W : At K mg "_law_word" sWord ["_law_rng_here", "_law_used"] fW dW
  Ws : At K mg "_law_words" sWords ["_law_rng_here", "_law_many"] fWs dWs
  So : At K mg "_law_some" sSome ["_law_rng_here", "_law_words_here", "_law_many"] fSo dSo
  Md : At K mg "_law_made" sMade ["_law_marks"] fMd dMd
  Od : At K mg "_law_odd" sOdd ["_law_rng_here", "_law_low"] fOd dOd
  Al : At K mg "_law_alone_right" sAlone ["_law_one", "_law_low", "_law_odd_here", "_law_strange"] fAl dAl
  Pr : At K mg "_law_pair_right" sPair ["_law_one", "_law_mate", "_law_low", "_law_high"] fPr dPr
abbrev nRt : List Str := ["_law_rng_here", "_law_words_here", "_law_lows", "_law_k", "_law_labels", "_law_low", "_law_odds", "_law_turn", "_law_others", "_law_word_here", "_law_strange", "_law_j"]
theorem scRt : FnScope nRt ["_law_rng_here"] (defScope sRight) := ⟨rfl, rfl, rfl, by decide +kernel, rfl, by decide +kernel, by decide +kernel⟩
def spRt (T : List (Addr × Str)) : Sp := fun vs H Q _ => ∃ r : Addr, vs = [.ref r] ∧ Rg H r ∧ Tabs T H ∧ ∀ H', KN r H H' → Tabs T H' → Q (.bl true) H'
section
variable {P : Program} {w : World} {K : PySem.W.Frag} {mg : Str → Option Value} {base : Heap}
variable {C gE gL gS gR gH pM gM : Addr} {dE dL dS dR dH dG : FuncData}
variable {fD fC fW fWs fSo fMd fOd fAl fPr ft : Addr} {dD dC dW dWs dSo dMd dOd dAl dPr dt : FuncData}
theorem ok_right {T : List (Addr × Str)} (F : L2.Fun K "_law_right" "_law_right" sRight ft dt) (S : SEnv K mg fD fC fW fWs fSo fMd fOd fAl fPr dD dC dW dWs dSo dMd dOd dAl dPr) (M : LabM K mg C gE gL gS gR gH pM gM dE dL dS dR dH dG) (zL : mg "list" = none) (zT : mg "tuple" = none) (zO : mg "sorted" = none)
    (kI : ∀ T ∈ ["bool", "int", "str"], PySem.W.kitOne K (.ref C) (.type T) = some false)
    (GMd : FnOk P w K mg base (L2.CX P w) 5 fMd dMd ["_law_marks"] (spMade C)) (GAl : FnG P w K mg base 9 fAl dAl ["_law_one", "_law_low", "_law_odd_here", "_law_strange"] (spAlone K C T)) (GPr : FnG P w K mg base 7 fPr dPr ["_law_one", "_law_mate", "_law_low", "_law_high"] (spPair K C)) :
    FnG P w K mg base 10 ft dt ["_law_rng_here"] (spRt T) := by
  have GD : FnOk P w K mg base CX0 1 fD dD ["_law_rng_here", "_law_many"] spDraw := ok_draw S.D.F S.B
  have GW : FnOk P w K mg base CX0 3 fW dW ["_law_rng_here", "_law_used"] spWord := ok_word S.W.F S.B S.D S.Ch
  have GWs : FnOk P w K mg base CX0 4 fWs dWs ["_law_rng_here", "_law_many"] spWords := ok_words S.Ws.F S.B S.D S.Ch S.W
  have GSo : FnOk P w K mg base CX0 2 fSo dSo ["_law_rng_here", "_law_words_here", "_law_many"] (spSome K) := ok_some S.So.F S.B zL S.D
  have GOd : FnOk P w K mg base CX0 3 fOd dOd ["_law_rng_here", "_law_low"] (spOdd K) := ok_odd S.Od.F S.B zO zT zL S.D S.Ch
  refine okG F scRt (fun vs H Q E h => ?_) (fun cdv A outer s H vs Q E gd hr h => ?_)
  · obtain ⟨r, rfl, _⟩ := h
    rfl
  · have h1 := hr.mono (j := 1) (by decide)
    have h2 := hr.mono (j := 2) (by decide)
    have h3 := hr.mono (j := 3) (by decide)
    have h4 := hr.mono (j := 4) (by decide)
    have h5 := hr.mono (j := 5) (by decide)
    have h7 := hr.mono (j := 7) (by decide)
    obtain ⟨r, rfl, g, hT, k⟩ := h
    refine ⟨_, pss_cons (ps_set (i := 1) scRt.nd rfl (Or.inr rfl) (pe_call GWs h4 (by rfl) S.Ws.m S.Ws.F.kp S.Ws.b .nil pass0 (pa_cons (pv 0) (pa_cons (pe_op op_add pe_int (pe_call GD h1 (by rfl) S.D.m S.D.F.kp S.D.b .nil pass0 (pa_cons (pv 0) (pa_cons pe_int pa_nil)))) pa_nil))))
      (pss_cons (ps_set (i := 2) scRt.nd rfl (Or.inr rfl) (pe_lc (own := [("_law_k", 3)]) (g := gName 3) (tt := tYes) rfl scRt.nd (pi_range1 (by rfl) S.B.zRange (pa_cons pe_int pa_nil)) (blkOk_by (N := nRt) (sc := defScope sRight) (by decide +kernel)) (fun _ _ _ _ _ => pg_name (i := 3) scRt.nd rfl (Or.inl rfl)) (fun _ _ _ _ _ => pts_nil)
          (fun _ _ _ _ _ => pe_call GSo h2 (by rfl) S.So.m S.So.F.kp S.So.b .nil pass0 (pa_cons (pv 0) (pa_cons (pv 1) (pa_cons (pe_call GD h1 (by rfl) S.D.m S.D.F.kp S.D.b .nil pass0 (pa_cons (pv 0) (pa_cons (pe_op op_add (pe_callB (call_min2 rfl) (by rfl) S.B.zMin (by decide +kernel) (pa_cons (pe_callB (show CallR _ (.builtin "len") (fun xs H Q => ∃ p ys, xs = [V.ref p] ∧ (SqL K H p ys ∨ SqT K H p ys) ∧ Q (V.int (ys.length : Int)) H) from call_len_seq) (by rfl) S.B.zLen PySem.boot_len (pa_cons (pv 1) pa_nil)) (pa_cons pe_int pa_nil))) pe_int) pa_nil))) pa_nil))))))
      (pss_cons (ps_setLc (i := 4) (own := [("_law_low", 5)]) (g := gName 5) (tt := tYes) rfl scRt.nd rfl rfl (sw_true rfl rfl rfl rfl) (pi_list (pv 2)) (blkOk_by (N := nRt) (sc := defScope sRight) (by decide +kernel)) (fun _ _ _ _ _ => pg_name (i := 5) scRt.nd rfl (Or.inl rfl)) (fun _ _ _ _ _ => pts_nil)
          (fun _ _ _ _ _ => pe_call GMd h5 (by rfl) S.Md.m S.Md.F.kp S.Md.b .nil (CmS.passE L2.takes0) (pa_cons (pe_op op_cat (pv 5) (pe_slice (show SlR _ (rSlL K) from sl_list) (pv 5) po_none (po_some pe_int))) pa_nil)))
      (pss_cons (ps_setLc (i := 6) (own := [("_law_low", 5)]) (g := gName 5) (tt := tYes) rfl scRt.nd rfl rfl (sw_true rfl rfl rfl rfl) (pi_list (pv 2)) (blkOk_by (N := nRt) (sc := defScope sRight) (by decide +kernel)) (fun _ _ _ _ _ => pg_name (i := 5) scRt.nd rfl (Or.inl rfl)) (fun _ _ _ _ _ => pts_nil)
          (fun _ _ _ _ _ => pe_call GOd h3 (by rfl) S.Od.m S.Od.F.kp S.Od.b .nil pass0 (pa_cons (pv 0) (pa_cons (pv 5) pa_nil))))
      (pss_cons (ps_for PassesOwn.never rfl (pi_range1 (by rfl) S.B.zRange (pa_cons pe_int pa_nil)) (pg_name (i := 7) scRt.nd rfl (Or.inl rfl))
        (pss_one (ps_for PassesOwn.never rfl (pi_range1 (by rfl) S.B.zRange (pa_cons pe_int pa_nil)) (pg_name (i := 3) scRt.nd rfl (Or.inr rfl))
          (pss_cons (ps_setLc (i := 8) (own := [("_law_word_here", 9)]) (g := gName 9) (tt := tTest (tOp (rIn K true) (tVar 9) (tOp (rIx K) (tVar 2) (tVar 3)))) rfl scRt.nd rfl rfl (sw_true rfl rfl rfl rfl) (pi_list (pv 1)) (blkOk_by (N := nRt) (sc := defScope sRight) (by decide +kernel)) (fun _ _ _ _ _ => pg_name (i := 9) scRt.nd rfl (Or.inl rfl))
              (fun _ _ _ _ _ => pts_one (pt_cmpR (show OpR _ (compareOp .NotIn) (rIn K true) from op_notIn_seq) (pv 9) (pe_ix (show IxR _ (rIx K) from ix_seq) (pv 2) (pv 3) (fun _ _ => rfl)) (by rfl))) (fun _ _ _ _ _ => pv 9))
          (pss_cons (ps_set (i := 10) scRt.nd rfl (Or.inl rfl) (pe_op op_cat (pv 8) (pe_lst (pa_cons pe_non (pa_cons pe_int (pa_cons pe_bl (pa_cons pe_str (pa_cons (pe_lst pa_nil) (pa_cons (pe_tup pa_nil) (pa_cons pe_dnewK (pa_cons (pv 1) (pa_cons pe_str
              (pa_cons (pe_call GW h3 (by rfl) S.W.m S.W.F.kp S.W.b .nil pass0 (pa_cons (pv 0) (pa_cons (pv 1) pa_nil))) (pa_cons (pe_ix ix_seq (pv 4) (pv 3) (fun _ _ => rfl)) pa_nil))))))))))))))
          (pss_cons (ps_if (pt_not (pt_val (pe_callG GAl gd (hr.mono (by decide)) (by rfl) S.Al.m S.Al.F.kp S.Al.b (pa_cons (pe_ix ix_seq (pv 4) (pv 3) (fun _ _ => rfl)) (pa_cons (pe_ix ix_seq (pv 2) (pv 3) (fun _ _ => rfl)) (pa_cons (pe_ix ix_seq (pv 6) (pv 3) (fun _ _ => rfl)) (pa_cons (pv 10) pa_nil))))))) (pss_one (ps_ret pe_bl)) pss_nil)
          (pss_one (ps_for PassesOwn.never rfl (pi_range1 (by rfl) S.B.zRange (pa_cons pe_int pa_nil)) (pg_name (i := 11) scRt.nd rfl (Or.inl rfl))
            (pss_one (ps_if (pt_not (pt_val (pe_callG GPr gd h7 (by rfl) S.Pr.m S.Pr.F.kp S.Pr.b (pa_cons (pe_ix ix_seq (pv 4) (pv 3) (fun _ _ => rfl)) (pa_cons (pe_ix ix_seq (pv 4) (pv 11) (fun _ _ => rfl)) (pa_cons (pe_ix ix_seq (pv 2) (pv 3) (fun _ _ => rfl)) (pa_cons (pe_ix ix_seq (pv 2) (pv 11) (fun _ _ => rfl)) pa_nil))))))) (pss_one (ps_ret pe_bl)) pss_nil))))))))))
      (pss_one (ps_ret pe_bl)))))), ?_⟩
    have hsl : sizeLine = 16777216 := sizeLine_eq
    have hb : big = 1000000 := rfl
    refine ⟨_, rfl, _, rfl, r, 7, rfl, g, by decide, by decide, fun H0 n k0 hn => ⟨_, _, rfl, rfl, ?_⟩⟩
    have g0 := k0.2 g
    have hN : V.int (1 + (n : Int)) = V.int ((n + 1 : Nat) : Int) := congrArg V.int (by omega)
    refine ⟨r, n + 1, by show [V.ref r, V.int (1 + (n : Int))] = _; rw [hN], g0, by omega, fun H1 p ws k1 hp np fp lw nd nm => ?_⟩
    have kk1 := k0.trans k1
    have g1 := k1.2 g0
    clear k0 k1 g0 hN hp
    have wl : 1 ≤ ws.length ∧ ws.length ≤ 8 := by omega
    -- the lows
    refine ⟨_, rfl, by omega, by omega, fun D hD => ?_⟩
    have nD : D ≠ r := g1.ne hD
    refine lc_range (lo := 0) (n := 3) (fun i H' => Kp r H1 H' ∧ ∃ L : List (Addr × List Tx), H' D = some (.lst (L.map fun e => .ref e.1)) ∧ L.length = i ∧ ∀ e ∈ L, e.1 ≠ r ∧ e.1 ≠ D ∧ H' e.1 = some (.lst (e.2.map tv)) ∧ e.2.Nodup ∧ e.2.length ≤ 4 ∧ ∀ x ∈ e.2, x ∈ ws)
      ⟨(Kp.refl r H1).put hD nD, [], upd_same, rfl, fun _ h => nomatch h⟩ ?_ ?_
    · rintro i H' hi ⟨kp, L, hL, lL, each⟩
      have g' := kp.2 g1
      have fp' := kp.1 p _ np fp
      refine ⟨rfl, _, rfl, _, rfl, _, rfl, _, rfl, p, _, rfl, .inl (SqL.of fp'), _, _, rfl, _, _, rfl, rfl, ?_⟩
      rw [List.length_map]
      obtain ⟨m, em, hm0, hm4, hmw⟩ : ∃ m : Nat, (if (4 : Int) < (ws.length : Int) then (4 : Int) else (ws.length : Int)) + 1 = (m : Int) ∧ 0 < m ∧ m ≤ 5 ∧ m ≤ ws.length + 1 := by
        by_cases c : (4 : Int) < (ws.length : Int)
        · rw [if_pos c]; exact ⟨5, rfl, by omega, by omega, by omega⟩
        · rw [if_neg c]; exact ⟨ws.length + 1, by omega, by omega, by omega, by omega⟩
      refine ⟨r, m, by rw [← em]; rfl, g', hm0, by omega, fun H2 j k2 hj => ?_⟩
      refine ⟨r, p, ws, j, rfl, k2.2 g', k2.1 p _ np fp', np, by omega, by omega, fun H3 q fs k3 hq nq fq lf ndf sub => ?_⟩
      have k23 := k2.trans k3
      have hL3 := k23.1 D _ nD hL
      have qD : q ≠ D := fun z => by
        rw [z, k2.1 D _ nD hL] at hq
        cases hq
      refine ⟨_, hL3, by rw [List.length_map]; omega, (kp.trans k23).put hD nD, L ++ [(q, fs)], by rw [upd_same, List.map_append]; rfl, by rw [List.length_append, List.length_singleton, lL], fun e he => ?_⟩
      rcases List.mem_append.mp he with he | he
      · obtain ⟨e1, e2, e3, e4⟩ := each e he
        exact ⟨e1, e2, by rw [upd_ne e2]; exact k23.1 _ _ e1 e3, e4⟩
      · rw [List.mem_singleton.mp he]
        exact ⟨nq, qD, by rw [upd_ne qD]; exact fq, ndf nd, by show fs.length ≤ 4; omega, sub⟩
    rintro H3 ⟨k13, L, hL, lL, each⟩
    have g3 := k13.2 g1
    have fp3 := k13.1 p _ np fp
    have kk3 := kk1.trans k13
    clear fp g1 k13 kk1 hD
    -- the labels
    refine ⟨_, rfl, D, rfl, ⟨_, SqL.of hL⟩, fun D2 hD2 => ?_⟩
    have nD2 : D2 ≠ r := g3.ne hD2
    refine lc_list (xs := L.map fun e => V.ref e.1) (fun i H' => Same H3 H' ∧ ∃ zl : List Addr, H' D2 = some (.lst (zl.map V.ref)) ∧ zl.length = i ∧ ∀ j z, zl[j]? = some z → ∃ (e : Addr × List Tx) (ys : List Str), L[j]? = some e ∧ Lb C H' z ys ∧ Srt (e.2.map txt) ys)
      ⟨same_upd hD2, [], upd_same, rfl, (fun j z h => absurd ((List.getElem?_nil (α := Addr) (i := j)).symm.trans h) (fun q => nomatch q))⟩ (fun i H' _ q => SqL.of (q.1 _ _ hL)) ?_ ?_
    · rintro i v H' hv ⟨sm, zl, hz, lz, lbs⟩
      rw [List.getElem?_map] at hv
      obtain ⟨e, he, rfl⟩ := Option.map_eq_some_iff.mp hv
      obtain ⟨e1, e2, e3, e4, e5, e6⟩ := each e (List.mem_of_getElem? he)
      have hf := sm _ _ e3
      refine ⟨rfl, _, rfl, _, rfl, _, rfl, e.1, _, rfl, SqL.of hf, fun q hq => ?_⟩
      rw [cut_one]
      refine ⟨e.1, q, _, _, rfl, rfl, same_upd hq _ _ hf, upd_same, ?_, fun c hc => ?_⟩
      · rw [List.length_take, List.length_map]
        omega
      rw [← List.map_take] at hc ⊢
      rw [← List.map_append]
      have s1 := (same_upd (o := HO.lst ((e.2.take 1).map tv)) hq).trans (same_upd (o := HO.lst ((e.2 ++ e.2.take 1).map tv)) hc)
      have f1 : (upd (upd H' q (.lst ((e.2.take 1).map tv))) c (.lst ((e.2 ++ e.2.take 1).map tv))) c = some (.lst ((e.2 ++ e.2.take 1).map tv)) := upd_same
      revert s1 f1
      generalize upd (upd H' q (.lst ((e.2.take 1).map tv))) c (.lst ((e.2 ++ e.2.take 1).map tv)) = H5
      intro s1 f1
      obtain ⟨ys, hys⟩ := SR.there (e.2.map txt)
      have sr : Srt ((e.2 ++ e.2.take 1).map txt) ys := SR.congr hys fun y => by
        rw [List.map_append, List.mem_append]
        refine ⟨.inl, fun z => z.elim id fun z => ?_⟩
        obtain ⟨x, hx, rfl⟩ := List.mem_map.mp z
        exact List.mem_map.mpr ⟨x, List.mem_of_mem_take hx, rfl⟩
      have l4 : ys.length ≤ 4 := Nat.le_trans (SR.len_le hys) (by rw [List.length_map]; exact e5)
      refine ⟨c, (e.2 ++ e.2.take 1).map txt, ys, rfl, by rw [f1, tvs_eq], ?_, ?_, sr, l4, fun H6 z s6 hz6 lb => ?_⟩
      · rw [List.length_map, List.length_append, List.length_take]
        omega
      · rw [nms_is]
        refine List.all_eq_true.mpr fun x hx => ?_
        rcases List.mem_append.mp hx with hx | hx
        · exact nm x (e6 x hx)
        · exact nm x (e6 x (List.mem_of_mem_take hx))
      have s16 := s1.trans s6
      have keep : ∀ {a : Addr} {us : List Str}, Lb C H6 a us → Lb C (upd H6 D2 (.lst (zl.map V.ref ++ [.ref z]))) a us := fun {a us} h => h.keep fun b o q w => by
        rw [upd_ne (fun n => by
          rw [n, s16 _ _ hz] at q
          rcases w with ⟨xs, w⟩ | ⟨D', dx, fs, w⟩ <;> rw [← Option.some.inj q] at w <;> cases w)]
        exact q
      refine ⟨_, s16 _ _ hz, ?_, fun b o q => ?_, zl ++ [z], ?_, ?_, fun j u hu => ?_⟩
      · rw [List.length_map]
        have := (List.getElem?_eq_some_iff.mp he).1
        omega
      · rw [upd_ne (ne_of_none q hD2)]
        exact s16 _ _ (sm b o q)
      · rw [upd_same, List.map_append]
        rfl
      · rw [List.length_append, List.length_singleton, lz]
      · by_cases hj : j < zl.length
        · rw [List.getElem?_append_left hj] at hu
          obtain ⟨e', us, g1, g2, g3⟩ := lbs j u hu
          exact ⟨e', us, g1, keep (g2.same s16), g3⟩
        · have hj2 : j < (zl ++ [z]).length := (List.getElem?_eq_some_iff.mp hu).1
          rw [List.length_append, List.length_singleton] at hj2
          obtain rfl : j = zl.length := by omega
          rw [List.getElem?_append_right (Nat.le_refl _), Nat.sub_self] at hu
          cases hu
          rw [lz]
          exact ⟨e, ys, he, keep lb, hys⟩
    rintro H4 ⟨s4, zl, hz4, lz, lbs⟩
    rw [List.length_map, lL] at lz
    have k34 : Kp r H3 H4 := Kp.of_same s4
    have g4 := k34.2 g3
    have fp4 := s4 _ _ fp3
    have hL4 := s4 _ _ hL
    have each4 : ∀ e ∈ L, e.1 ≠ r ∧ H4 e.1 = some (.lst (e.2.map tv)) ∧ e.2.Nodup ∧ e.2.length ≤ 4 ∧ ∀ x ∈ e.2, x ∈ ws := fun e he => by
      obtain ⟨e1, e2, e3, e4, e5, e6⟩ := each e he
      exact ⟨e1, s4 _ _ e3, e4, e5, e6⟩
    have kk4 := kk3.trans k34
    clear each hL fp3 g3 k34 kk3 s4 hD2
    -- the odd things
    refine ⟨_, rfl, D, rfl, ⟨_, SqL.of hL4⟩, fun D3 hD3 => ?_⟩
    have nD3 : D3 ≠ r := g4.ne hD3
    refine lc_list (xs := L.map fun e => V.ref e.1) (fun i H' => Kp r H4 H' ∧ ∃ ol : List V, H' D3 = some (.lst ol) ∧ ol.length = i ∧ ∀ v ∈ ol, v ≠ .ref r ∧ v ≠ .ref D3 ∧ ∃ d, OddOk K H' v d)
      ⟨(Kp.refl r H4).put hD3 nD3, [], upd_same, rfl, fun _ h => nomatch h⟩ (fun i H' _ q => SqL.of (q.1.1 D _ nD hL4)) ?_ ?_
    · rintro i v H' hv ⟨kp, ol, ho, lo, ods⟩
      rw [List.getElem?_map] at hv
      obtain ⟨e, he, rfl⟩ := Option.map_eq_some_iff.mp hv
      obtain ⟨e1, e3, e4, e5, e6⟩ := each4 e (List.mem_of_getElem? he)
      refine ⟨rfl, _, rfl, _, rfl, r, e.1, e.2, rfl, kp.2 g4, kp.1 _ _ e1 e3, e1, e5, e4, fun x hx => nm x (e6 x hx), fun H6 v d k6 fr ok => ?_⟩
      have ho6 := k6.1 D3 _ nD3 ho
      have vr : v ≠ .ref r := fun z => (fr r z).1 rfl
      have vD : v ≠ .ref D3 := fun z => by
        rw [(fr D3 z).2] at ho
        cases ho
      refine ⟨_, ho6, ?_, (kp.trans k6).put hD3 nD3, ol ++ [v], upd_same, by rw [List.length_append, List.length_singleton, lo], fun u hu => ?_⟩
      · have := (List.getElem?_eq_some_iff.mp he).1
        omega
      rcases List.mem_append.mp hu with hu | hu
      · obtain ⟨u1, u2, d', od⟩ := ods u hu
        refine ⟨u1, u2, d', od.at fun a o z q => ?_⟩
        rw [upd_ne (fun n => u2 (by rw [z, n]))]
        exact k6.1 a o (fun n => u1 (by rw [z, n])) q
      · rw [List.mem_singleton.mp hu]
        refine ⟨vr, vD, d, ok.at fun a o z q => ?_⟩
        rw [upd_ne (fun n => vD (by rw [z, n]))]
        exact q
    rintro H5 ⟨k45, ol, ho, lo, ods⟩
    rw [List.length_map, lL] at lo
    have g5 := k45.2 g4
    have kk5 := kk4.trans k45
    -- what stands
    have sH5 : ExtN (wo r H5) H5 := wo_ext H5
    have T5 : Tabs T H5 := tabs_kp hT g kk5
    have xp := wo_at (k45.1 p _ np fp4) np
    have xL := wo_at (k45.1 D _ nD hL4) nD
    have xZ := wo_at (k45.1 D2 _ nD2 hz4) nD2
    have xO := wo_at ho nD3
    have items : ∀ j, j < 3 → ∃ (e : Addr × List Tx) (z : Addr) (v : V) (ys : List Str) (d : PyData), L[j]? = some e ∧ zl[j]? = some z ∧ ol[j]? = some v ∧ wo r H5 e.1 = some (.lst (e.2.map tv)) ∧ e.2.Nodup ∧ e.2.length ≤ 4 ∧ (∀ x ∈ e.2, x ∈ ws) ∧ Lb C (wo r H5) z ys ∧ Srt (e.2.map txt) ys ∧ OddOk K (wo r H5) v d := fun j hj => by
      have a1 : L[j]? = some L[j] := List.getElem?_eq_getElem (by omega)
      have a2 : zl[j]? = some zl[j] := List.getElem?_eq_getElem (by omega)
      have a3 : ol[j]? = some ol[j] := List.getElem?_eq_getElem (by omega)
      obtain ⟨e1, e3, e4, e5, e6⟩ := each4 _ (List.mem_of_getElem? a1)
      obtain ⟨e', ys, b1, b2, b3⟩ := lbs j _ a2
      rw [a1] at b1
      cases b1
      obtain ⟨u1, u2, d, od⟩ := ods _ (List.mem_of_getElem? a3)
      have lb5 : Lb C H5 zl[j] ys := b2.keep fun b o q w => k45.1 b o (fun n => by
        obtain ⟨x, y, q', _⟩ := g4
        rw [n, q'] at q
        rcases w with ⟨xs, w⟩ | ⟨D', dx, fs, w⟩ <;> rw [← Option.some.inj q] at w <;> cases w) q
      exact ⟨_, _, _, ys, d, a1, a2, a3, wo_at (k45.1 _ _ e1 e3) e1, e4, e5, e6, lb5.wo g5, b3, od.at fun a o z q => wo_at q fun n => u1 (by rw [z, n])⟩
    have fin : ∀ H', ExtN (wo r H5) H' → Rg H' r → Tabs T H' → Q (.bl true) H' := fun H' s g' t => k H' (wo_kn kk5 g' s) t
    clear each4 lbs ods k45 g4 kk4 ho hL4 hz4 fp4 hD3 k hT g kk5
    have xr : wo r H5 r = none := if_pos rfl
    revert xr xp xL xZ xO items fin sH5
    generalize wo r H5 = Hx
    intro sH5 xp xL xZ xO items fin xr
    have kL : ∀ {H' : Hp} {a : Addr} {us : List V}, ExtN Hx H' → Hx a = some (.lst us) → H' a = some (.lst us) := fun s q => s _ _ q fun ps z => by cases z
    have h0 : ∀ {xs : List V} {j : Nat} {v : V}, xs[j]? = some v → atI xs (0 + (j : Int)) = some v := fun q => by
      rw [Int.zero_add]
      exact atI_nat q
    have ndt : ∀ {l : List Tx}, l.Nodup → (l.map txt).Nodup := fun n => List.Pairwise.map _ (fun a b n e => n (txt_inj e)) n
    refine ⟨_, rfl, by omega, by omega, ?_⟩
    show ∃ W, _
    refine for_range (lo := 0) (n := 2) (fun i σ H' => ∃ t3 t5 t7 t8 t9 t10 t11 : Option V, σ = [some (.ref r), some (.ref p), some (.ref D), t3, some (.ref D2), t5, some (.ref D3), t7, t8, t9, t10, t11] ∧ ExtN Hx H' ∧ Rg H' r ∧ Tabs T H')
      ⟨_, _, _, _, _, _, _, rfl, sH5, g5, T5⟩ ?_ ?_
    · rintro i1 σ H1' hi1 ⟨t3, t5, t7, t8, t9, t10, t11, rfl, s1, g1, T1⟩
      refine ⟨_, rfl, by omega, by omega, ?_⟩
      show ∃ W, _
      refine for_range (lo := 0) (n := 3) (fun i σ H' => ∃ t3 t5 t7 t8 t9 t10 t11 : Option V, σ = [some (.ref r), some (.ref p), some (.ref D), t3, some (.ref D2), t5, some (.ref D3), t7, t8, t9, t10, t11] ∧ ExtN Hx H' ∧ Rg H' r ∧ Tabs T H')
        ⟨_, _, _, _, _, _, _, rfl, s1, g1, T1⟩ ?_ ?_
      · clear s1 g1 T1
        rintro k1 σ H2 hk1 ⟨t3, t5, t7, t8, t9, t10, t11, rfl, s2, g2, T2⟩
        obtain ⟨e, z, v, ys, d, eL, eZ, eO, fe, nde, l4, sub, lb, sr, od⟩ := items k1 hk1
        rw [tvs_eq] at fe
        have hvL : (L.map fun e => V.ref e.1)[k1]? = some (.ref e.1) := by rw [List.getElem?_map, eL]; rfl
        have hvZ : (zl.map V.ref)[k1]? = some (.ref z) := by rw [List.getElem?_map, eZ]; rfl
        refine ⟨_, rfl, p, rfl, ⟨_, SqL.of (kL s2 xp)⟩, fun B hB => ?_⟩
        refine lc_list (xs := ws.map tv) (fun i H' => Same H2 H' ∧ ∃ us : List Str, H' B = some (.lst (us.map V.str)) ∧ us.length ≤ i ∧ ∀ x ∈ us, isNm x = true ∧ x ∉ ys)
          ⟨same_upd hB, [], upd_same, Nat.le_refl _, (fun _ h => nomatch h)⟩ (fun i H' _ q => SqL.of (q.1 _ _ (kL s2 xp))) ?_ ?_
        · rintro i u H' hu ⟨sm, us, hus, lus, each⟩
          rw [List.getElem?_map] at hu
          obtain ⟨x, ex, rfl⟩ := Option.map_eq_some_iff.mp hu
          have iw := (List.getElem?_eq_some_iff.mp ex).1
          have s2' := s2.trans (ExtN.of sm)
          refine ⟨rfl, _, rfl, _, rfl, _, rfl, ix_of (.inl (SqL.of (kL s2' xL))) (h0 hvL) ?_⟩
          refine ⟨e.1, _, rfl, .inl (SqL.of (kL s2' fe)), rfl, fl_strs _, _, rfl, ?_⟩
          rw [if_pos rfl, inV_str]
          by_cases hm : txt x ∈ e.2.map txt
          · rw [decide_eq_true hm]
            show (if false = true then _ else _)
            rw [if_neg Bool.false_ne_true]
            exact ⟨sm, us, hus, by omega, each⟩
          · rw [decide_eq_false hm]
            show (if true = true then _ else _)
            rw [if_pos rfl]
            refine ⟨_, rfl, _, hus, by rw [List.length_map]; omega, fun b o q => ?_, us ++ [txt x], by rw [upd_same, List.map_append]; rfl, by rw [List.length_append, List.length_singleton]; omega, fun y hy => ?_⟩
            · rw [upd_ne (ne_of_none q hB)]
              exact sm b o q
            · rcases List.mem_append.mp hy with hy | hy
              · exact each y hy
              · rw [List.mem_singleton.mp hy]
                exact ⟨nm x (List.mem_of_getElem? ex), fun q => hm ((sr.2.2 _).mp q)⟩
        rintro H3 ⟨s23, us, hus, lus, each⟩
        rw [List.length_map] at lus
        have s3 := s2.trans (ExtN.of s23)
        have g3 := rg_ext g2 (ExtN.of s23)
        have T3 := T2.ext s23
        clear s23 T2 g2 s2 hB
        -- what is strange
        refine ⟨_, rfl, by show 0 ≤ sizeLine; omega, fun a1 x1 => ?_⟩
        have b1 := same_upd (o := HO.lst []) x1
        have y1 : (upd H3 a1 (.lst [])) a1 = some (.lst []) := upd_same
        revert b1 y1
        generalize upd H3 a1 (.lst []) = G1
        intro b1 y1
        refine ⟨by show 0 ≤ sizeLine; omega, fun a2 x2 => ?_⟩
        have b2 := same_upd (o := HO.tup []) x2
        have y2 : (upd G1 a2 (.tup [])) a2 = some (.tup []) := upd_same
        revert b2 y2
        generalize upd G1 a2 (.tup []) = G2
        intro b2 y2 a3 x3
        have b3 := same_upd (o := HO.dK []) x3
        have y3 : (upd G2 a3 (.dK [])) a3 = some (.dK []) := upd_same
        revert b3 y3
        generalize upd G2 a3 (.dK []) = G3
        intro b3 y3
        have b23 := b2.trans b3
        have b13 := b1.trans b23
        have gG := rg_ext g3 (ExtN.of b13)
        have n1 : a1 ≠ r := g3.ne x1
        have n2 : a2 ≠ r := (rg_ext g3 (ExtN.of b1)).ne x2
        have n3 : a3 ≠ r := (rg_ext g3 (ExtN.of (b1.trans b2))).ne x3
        have sG := s3.trans (ExtN.of b13)
        refine ⟨_, rfl, _, rfl, _, rfl, r, p, ws, rfl, gG, kL sG xp, np, by omega, fun H4 x k4 nx ni => ?_⟩
        have T4 := tabs_kp (T3.ext b13) gG k4
        have g4 := k4.2 gG
        have w1 := k4.1 _ _ n1 (b23 _ _ y1)
        have w2 := k4.1 _ _ n2 (b3 _ _ y2)
        have w3 := k4.1 _ _ n3 y3
        have nB : B ≠ r := fun q => by
          obtain ⟨x', y', q', _⟩ := g3
          rw [q, q'] at hus
          cases us <;> cases hus
        have hus4 := k4.1 _ _ nB (b13 _ _ hus)
        have s4 : ExtN Hx H4 := fun b o q n => k4.1 b o (ne_of_none q xr) (sG b o q n)
        clear k4 gG sG b13 b23 y1 y2 y3 b1 b2 b3 x1 x2 x3 g3 T3 hus s3
        refine ⟨_, rfl, _, rfl, ix_of (.inl (SqL.of (kL s4 xZ))) (h0 hvZ) ?_⟩
        refine ⟨by show 11 ≤ sizeLine; omega, fun a5 x5 => ?_⟩
        obtain ⟨ss, ess⟩ : ∃ ss, [V.non, V.int 0, V.bl true, V.str "", V.ref a1, V.ref a2, V.ref a3, V.ref p, V.str "A", tv x, V.ref z] = ss := ⟨_, rfl⟩
        have ls : ss.length = 11 := by rw [← ess]; rfl
        rw [ess]
        refine ⟨B, a5, _, _, rfl, rfl, same_upd x5 _ _ hus4, upd_same, by rw [List.length_map, ls]; omega, fun st hst => ?_⟩
        have b5 := (same_upd (o := HO.lst ss) x5).trans (same_upd (o := HO.lst (us.map V.str ++ ss)) hst)
        have f5 : (upd (upd H4 a5 (.lst ss)) st (.lst (us.map V.str ++ ss))) st = some (.lst (us.map V.str ++ ss)) := upd_same
        revert b5 f5
        generalize upd (upd H4 a5 (.lst ss)) st (.lst (us.map V.str ++ ss)) = H6
        intro b5 f5
        have s6 := s4.trans (ExtN.of b5)
        have g6 := rg_ext g4 (ExtN.of b5)
        have T6 := T4.ext b5
        have nmy : ys.all isNm = true := lb.1
        have fair : ∀ u ∈ us.map V.str ++ ss, hasV u ys = false ∧ ∀ H', ExtN H6 H' → Cl K H' u := by
          have at6 : ∀ {a : Addr} {o : HO} {H' : Hp}, H4 a = some o → (∀ ps, o ≠ .tbl ps) → ExtN H6 H' → H' a = some o := fun q n m => m _ _ (b5 _ _ q) n
          have tail : ∀ u ∈ ss, hasV u ys = false ∧ ∀ H', ExtN H6 H' → Cl K H' u := by
            rw [← ess]
            simp only [List.forall_mem_cons]
            refine ⟨⟨rfl, fun _ _ => .non⟩, ⟨rfl, fun _ _ => .int 0⟩, ⟨rfl, fun _ _ => .bl true⟩, ⟨has_nm nmy (by decide +kernel), fun _ _ => cl_str (by decide +kernel)⟩,
              ⟨rfl, fun H' m => cl_lst (at6 w1 (fun ps q => by cases q) m)⟩, ⟨rfl, fun H' m => cl_tup (at6 w2 (fun ps q => by cases q) m)⟩, ⟨rfl, fun H' m => cl_dic (at6 w3 (fun ps q => by cases q) m)⟩, ⟨rfl, fun H' m => cl_lst (kL (s6.trans m) xp)⟩,
              ⟨has_nm nmy (by decide +kernel), fun _ _ => cl_str (by decide +kernel)⟩, ⟨?_, fun _ _ => cl_nm nx⟩, ⟨rfl, fun H' m => cl_lab M kI (lb.ext (s6.trans m))⟩, fun _ q => nomatch q⟩
            show decide (txt x ∈ ys) = false
            refine decide_eq_false fun q => ?_
            obtain ⟨x', hx', e'⟩ := List.mem_map.mp ((sr.2.2 _).mp q)
            rw [txt_inj e'] at hx'
            exact ni (sub x hx')
          intro u hu
          rcases List.mem_append.mp hu with hu | hu
          · obtain ⟨y, hy, rfl⟩ := List.mem_map.mp hu
            obtain ⟨q1, q2⟩ := each y hy
            exact ⟨decide_eq_false q2, fun _ _ => cl_nm q1⟩
          · exact tail u hu
        clear b5 T4 g4 s4 hus4 w1 w2 w3 x5 hst ess
        refine ⟨_, rfl, _, rfl, ix_of (.inl (SqL.of (kL s6 xZ))) (h0 hvZ) ?_⟩
        refine ⟨_, rfl, _, rfl, ix_of (.inl (SqL.of (kL s6 xL))) (h0 hvL) ?_⟩
        refine ⟨_, rfl, _, rfl, ix_of (.inl (SqL.of (kL s6 xO))) (h0 eO) ?_⟩
        refine ⟨_, rfl, z, e.1, st, v, d, ys, e.2.map txt, us.map V.str ++ ss, rfl, lb.ext s6, kL s6 fe, sr, ndt nde, od.ext s6, f5, by rw [List.length_append, List.length_map, ls]; omega, fair, T6, fun H7 s67 T7 => ⟨true, rfl, ?_⟩⟩
        show (if false = true then _ else _)
        rw [if_neg Bool.false_ne_true]
        have s7 := s6.trans s67
        have g7 := rg_ext g6 s67
        clear s67 T6 g6 s6 f5 fair
        refine ⟨_, rfl, by omega, by omega, ?_⟩
        show ∃ W, _
        refine for_range (lo := 0) (n := 3) (fun i σ H' => ∃ t5 t7 t8 t9 t10 t11 : Option V, σ = [some (.ref r), some (.ref p), some (.ref D), some (.int (0 + (k1 : Int))), some (.ref D2), t5, some (.ref D3), t7, t8, t9, t10, t11] ∧ ExtN Hx H' ∧ Rg H' r ∧ Tabs T H')
          ⟨_, _, _, _, _, _, rfl, s7, g7, T7⟩ ?_ ?_
        · clear s7 g7 T7
          rintro j1 σ H8 hj1 ⟨t5, t7, t8, t9, t10, t11, rfl, s8, g8, T8⟩
          obtain ⟨e', z', v', ys', d', eL', eZ', eO', fe', nde', l4', sub', lb', sr', od'⟩ := items j1 hj1
          rw [tvs_eq] at fe'
          have hvL' : (L.map fun e => V.ref e.1)[j1]? = some (.ref e'.1) := by rw [List.getElem?_map, eL']; rfl
          have hvZ' : (zl.map V.ref)[j1]? = some (.ref z') := by rw [List.getElem?_map, eZ']; rfl
          refine ⟨_, rfl, _, rfl, ix_of (.inl (SqL.of (kL s8 xZ))) (h0 hvZ) ?_⟩
          refine ⟨_, rfl, _, rfl, ix_of (.inl (SqL.of (kL s8 xZ))) (h0 hvZ') ?_⟩
          refine ⟨_, rfl, _, rfl, ix_of (.inl (SqL.of (kL s8 xL))) (h0 hvL) ?_⟩
          refine ⟨_, rfl, _, rfl, ix_of (.inl (SqL.of (kL s8 xL))) (h0 hvL') ?_⟩
          refine ⟨z, z', e.1, e'.1, ys, ys', e.2.map txt, e'.2.map txt, rfl, lb.ext s8, lb'.ext s8, kL s8 fe, kL s8 fe', sr, sr', ndt nde, ndt nde', fun H9 s89 => ⟨true, rfl, ?_⟩⟩
          show (if false = true then _ else _)
          rw [if_neg Bool.false_ne_true]
          exact ⟨_, _, _, _, _, _, rfl, s8.trans (ExtN.of s89), rg_ext g8 (ExtN.of s89), T8.ext s89⟩
        · rintro σ H' ⟨t5, t7, t8, t9, t10, t11, rfl, s, g', t⟩
          exact ⟨_, _, _, _, _, _, _, rfl, s, g', t⟩
      · rintro σ H' ⟨t3, t5, t7, t8, t9, t10, t11, rfl, s, g', t⟩
        exact ⟨_, _, _, _, _, _, _, rfl, s, g', t⟩
    · rintro σ H' ⟨t3, t5, t7, t8, t9, t10, t11, rfl, s, g', t⟩
      exact fin H' s g' t
end
end K13
namespace K13
open PySem L2 PySem.Spec PyProof.Rows LamX
open L2 (St)
theorem sq_ext {K : PySem.W.Frag} {H H' : Hp} {a : Addr} {xs : List V} (h : SqL K H a xs) (s : ExtN H H') : SqL K H' a xs := by
  rcases h with (h | ⟨o, h⟩) | h
  · exact .inl (.inl (s _ _ h fun ps z => by cases z))
  · exact .inl (.inr ⟨o, s _ _ h fun ps z => by cases z⟩)
  · exact .inr h
theorem ext_new {r : Addr} {H H1 H2 : Hp} (s : ExtN H H1) (n : H r = none) (k : KN r H1 H2) : ExtN H H2 := fun b o e t => k.1 b o (ne_of_none e n) (s b o e t) t
section
variable {P : Program} {w : World} {K : PySem.W.Frag} {mg : Str → Option Value} {base : Heap}
/-! ### law -/
def spLaw (K : PySem.W.Frag) (T : List (Addr × Str)) : Sp := fun vs H Q _ => ∃ (a : Addr) (ns : List Int), vs = [.ref a] ∧ SqL K H a (ns.map V.int) ∧ ns.length ≤ 63 ∧ Tabs T H ∧ ∀ H', Q (.bl true) H'
theorem scLw : FnScope ["_law_script", "_law_k"] ["_law_script"] (defScope sLaw) := ⟨rfl, rfl, rfl, by decide +kernel, rfl, by decide +kernel, by decide +kernel⟩
theorem ok_law {T : List (Addr × Str)} {f fR fT : Addr} {fd dR dT : FuncData} (F : L2.Fun K "law" "law" sLaw f fd) (B : BEnv mg) (AR : At K mg "_law_rng" sRng ["_law_script", "_law_k"] fR dR) (AT : At K mg "_law_right" sRight ["_law_rng_here"] fT dT) (GT : FnG P w K mg base 10 fT dT ["_law_rng_here"] (spRt T)) :
    FnG P w K mg base 11 f fd ["_law_script"] (spLaw K T) := by
  have GR : FnOk P w K mg base CX0 1 fR dR ["_law_script", "_law_k"] (spRng K) := ok_rng AR.F B
  refine okG F scLw (fun vs H Q E h => ?_) (fun cdv A outer_ s H vs Q E gd hr h => ?_)
  · obtain ⟨a, ns, rfl, _⟩ := h
    rfl
  · obtain ⟨a, ns, rfl, hS, hlen, hT, k⟩ := h
    have hr1 := hr.mono (j := 1) (by decide)
    refine ⟨_, pss_one (ps_ret (pe_callB (cr_all rfl) (by rfl) B.zAll (by decide +kernel) (pa_cons (pe_lc (own := [("_law_k", 1)]) (g := gName 1) (tt := tYes) rfl scLw.nd
        (pi_range1 (by rfl) B.zRange (pa_cons (pe_callB (call_max2 rfl) (by rfl) B.zMax (by decide +kernel) (pa_cons pe_int (pa_cons (pe_callB (call_min2 rfl) (by rfl) B.zMin (by decide +kernel) (pa_cons (pe_callB call_len_seq (by rfl) B.zLen PySem.boot_len (pa_cons (pv 0) pa_nil)) (pa_cons pe_int pa_nil))) pa_nil))) pa_nil))
        (blkOk_by (N := ["_law_script", "_law_k"]) (sc := defScope sLaw) (by decide +kernel)) (fun _ _ _ _ _ => pg_name (i := 1) scLw.nd rfl (Or.inl rfl)) (fun _ _ _ _ _ => pts_nil)
        (fun _ _ _ _ _ => pe_callG GT gd hr (by rfl) AT.m AT.F.kp AT.b (pa_cons (pe_call GR hr1 (by rfl) AR.m AR.F.kp AR.b .nil pass0 (pa_cons (pv 0) (pa_cons (pv 1) pa_nil))) pa_nil))) pa_nil))), ?_⟩
    have hsl : sizeLine = 16777216 := sizeLine_eq
    refine ⟨_, rfl, a, _, rfl, .inl hS, _, _, rfl, _, _, rfl, _, rfl, ?_⟩
    rw [List.length_map]
    have hj : 1 ≤ (if (if (5 : Int) < (ns.length : Int) then (5 : Int) else (ns.length : Int)) > 1 then (if (5 : Int) < (ns.length : Int) then (5 : Int) else (ns.length : Int)) else 1) ∧ (if (if (5 : Int) < (ns.length : Int) then (5 : Int) else (ns.length : Int)) > 1 then (if (5 : Int) < (ns.length : Int) then (5 : Int) else (ns.length : Int)) else 1) ≤ 8 := by
      constructor <;> split <;> split <;> omega
    generalize (if (if (5 : Int) < (ns.length : Int) then (5 : Int) else (ns.length : Int)) > 1 then (if (5 : Int) < (ns.length : Int) then (5 : Int) else (ns.length : Int)) else 1) = j at hj
    refine ⟨by omega, by omega, fun D hD => ?_⟩
    refine lc_range (lo := 0) (n := j.toNat) (fun i H' => (ExtN H H' ∧ Tabs T H') ∧ H' D = some (.lst ((List.replicate i true).map V.bl))) ⟨⟨ExtN.of (same_upd hD), hT.ext (same_upd hD)⟩, upd_same⟩ ?_ ?_
    · rintro i H' hi ⟨⟨sm, hT'⟩, hL⟩
      refine ⟨rfl, _, rfl, _, rfl, a, ns, i, ?_, sq_ext hS sm, by omega, fun H1 r s1 hr0 g1 => ?_⟩
      · show [V.ref a, V.int (0 + (i : Int))] = [V.ref a, V.int (i : Int)]
        rw [Int.zero_add]
      have nD : D ≠ r := ne_of_none hL hr0
      refine ⟨r, rfl, g1, hT'.ext s1, fun H2 k2 T2 => ?_⟩
      have sE : ExtN H' H2 := ext_new (ExtN.of s1) hr0 k2
      have hL2 := sE _ _ hL fun ps z => by cases z
      refine ⟨_, hL2, ?_, ⟨fun b o e t => ?_, tabs_upd T2 hL2⟩, ?_⟩
      · rw [List.length_map, List.length_replicate]
        omega
      · rw [upd_ne (ne_of_none e hD)]
        exact sE _ _ (sm b o e t) t
      · rw [upd_same, List.replicate_succ', List.map_append]
        rfl
    · rintro H1 ⟨_, hLD⟩
      refine ⟨D, _, rfl, SqL.of hLD, ?_⟩
      have e3 : (List.replicate j.toNat true).all id = true := by simp
      rw [e3]
      exact k _
end
/-! ### the law's call, where nothing is being shown -/
abbrev boxed (us : List Value) : Obj := { cls := .type "list", data := .seq us.toArray }
abbrev tab0 : Obj := { cls := .none, data := .fields #[] }
section
variable {P : Program} {w : World} {K : PySem.W.Frag} {mg mb : Str → Option Value} {k : Nat} {fa a : Addr} {fd : FuncData} {x : Str} {sp : Sp} {t : Shared} {us : List Value} {zs : List Int} {cs : List (Addr × Addr)}
/-- the module __builtins__ as a name of the main module -/
def BM (mg : Str → Option Value) (h : Heap) : Prop := ∃ (bm : Addr) (ob : Obj), mg "__builtins__" = some (.ref bm) ∧ bm ≠ builtinsNs ∧ h.get? bm = some ob ∧ ob.cls = .type "module" ∧ ob.dict = some builtinsNs ∧ ob.data = .plain
structure TabsOk (K : PySem.W.Frag) (cs : List (Addr × Addr)) (h : Heap) : Prop where
  g : ∀ p ∈ cs, h.get? p.2 = some tab0
  k : ∀ p ∈ cs, K.lookup p.2 = none
  c : ∀ p ∈ cs, PySem.W.CodeHd h p.1 p.2
theorem TabsOk.at {h : Heap} (T : TabsOk K cs h) {b : Addr} (m : b ∈ cs.map (·.2)) : h.get? b = some tab0 ∧ K.lookup b = none := by
  obtain ⟨p, hp, rfl⟩ := List.mem_map.mp m
  exact ⟨T.g p hp, T.k p hp⟩
theorem run_at {H : Hp} (one : ∀ b, H b = none ∨ (b = a ∧ H b = some (.frz (boxed us) (.lst (zs.map V.int)))) ∨ (b ∈ cs.map (·.2) ∧ H b = some (.tbl #[])))
    (tbs : ∀ p ∈ cs, H p.2 = some (.tbl #[])) (TO : TabsOk K cs t.heap) (hbm : BM mg t.heap) (own : H a ≠ none → K.lookup a = none) (seq : SqL K H a (zs.map V.int)) (hok : HOk P w H t.heap)
    (KX : K.In t.heap) (g1 : t.heap.Ns mainGlobals mg) (g2 : t.heap.Ns builtinsNs mb) (g3 : ∀ y : Str, y ≠ "__name__" → mb y = bootBuiltins y) (lim : t.heap.NoLimit) (hg : t.gens = #[]) (ha : t.heap.get? a = some (boxed us)) (hr : Room k callerA)
    (F : ∀ base : Heap, K.In base → base.Ns mainGlobals mg → (∀ p ∈ cs, TabB base mg p.1 p.2) → FnG P w K mg base k fa fd [x] sp) (bd : ∀ (s : Shared) (u : Value), BindsTo s fd ⟨[u], []⟩ [(x, u)])
    (hsp : ∀ H' : Hp, (∀ p ∈ cs, H' p.2 = some (.tbl #[])) → SqL K H' a (zs.map V.int) → sp [.ref a] H' (fun v _ => v = .bl true) E0) :
    codeAny (model P w) callerA (.call (.ref fa) ⟨[.ref a], []⟩) (fun r s' => r = .ok (.ret (.bool true)) ∧ OldK t.heap s'.heap ∧ s'.os = t.os ∧ AllBare s'.gens) t := by
  -- an object that is neither a sequence nor an empty table stands in the hidden heap, too
  have stay : ∀ {b : Addr} {o : Obj}, t.heap.get? b = some o → o ≠ boxed us → o ≠ tab0 → (hidT t.heap H).get? b = some o := by
    intro b o e n1 n2
    refine hidT_get e ?_
    rcases one b with z | ⟨rfl, _⟩ | ⟨m, _⟩
    · exact z
    · rw [ha] at e
      exact absurd (Option.some.inj e).symm n1
    · rw [(TO.at m).1] at e
      exact absurd (Option.some.inj e).symm n2
  have still : ∀ {b : Addr} {m : Str → Option Value}, t.heap.Ns b m → (hidT t.heap H).Ns b m := by
    rintro b m ⟨o, es, ep, e, d, rest⟩
    refine ⟨o, es, ep, stay e (fun z => ?_) (fun z => ?_), d, rest⟩
    · rw [z] at d
      cases d
    · rw [z] at d
      cases d
  have kin : K.In (hidT t.heap H) := fun b o e => hidT_get (KX b o e) (by
    rcases one b with z | ⟨rfl, z⟩ | ⟨m, _⟩
    · exact z
    · have := own (by rw [z]; exact fun q => nomatch q)
      rw [this] at e
      cases e
    · rw [(TO.at m).2] at e
      cases e)
  have TB : ∀ p ∈ cs, TabB (hidT t.heap H) mg p.1 p.2 := by
    intro p hp
    refine ⟨?_, ?_, fun z => ?_⟩
    · obtain ⟨o, vs, file, tf, flags, tg, inF, text, tt, e1, r1, r2, r3, rest⟩ := TO.c p hp
      refine ⟨o, vs, file, tf, flags, tg, inF, text, tt, stay e1 (fun z => ?_) (fun z => ?_), r1, r2, r3, rest⟩
      · rw [z] at r2
        cases r2
      · rw [z] at r2
        cases r2
        simp at r3
    · obtain ⟨bm, ob, b1, b2, b3, b4, b5, b6⟩ := hbm
      have no : ∀ {o : Obj} {es : Array DictEntry} {ep : Nat}, t.heap.get? mainGlobals = some o → o.data = .dict es ep → bm ≠ mainGlobals := fun e d q => by
        rw [q, e] at b3
        rw [Option.some.inj b3, b6] at d
        cases d
      obtain ⟨og, eg, pg, e, hd, _⟩ := id g1
      refine ⟨bm, ob, b1, b2, no e hd, (fun q => ?_), stay b3 (fun z => ?_) (fun z => ?_), b4, b5, b6⟩
      · rw [q, TO.g p hp] at b3
        rw [← Option.some.inj b3] at b6
        cases b6
      · rw [z] at b6
        cases b6
      · rw [z] at b6
        cases b6
    · obtain ⟨og, eg, pg, e, hd, _⟩ := id g1
      rw [z, TO.g p hp] at e
      rw [← Option.some.inj e] at hd
      cases hd
  obtain ⟨mc, l1, l2⟩ := lim
  have env : Env0 P w K mg (hidT t.heap H) callerA [] t H :=
    { frames := rfl, mod := ⟨kin, still g1, ⟨mb, still g2, g3⟩, ⟨mc, still l1, l2⟩⟩, bs := fun b o e => of_hidT e, bsz := Nat.le_of_eq (hidT_size _ _), funs := trivial, frf := fun b hb => absurd (show b ∈ ([] : List Addr) from hb) List.not_mem_nil, hok := hok, bare := .of_eq hg }
  apply codeAny_mono ((F _ kin (still g1) TB).run callerA [] t H ⟨[.ref a], []⟩ [.ref a] [.ref a] (fun v _ => v = .bl true) E0 rfl hr env (bd t (.ref a)) (.cons rfl .nil) (hsp H tbs seq))
  rintro (e | fl) s2 h
  · exact h.elim
  cases fl with
  | ret u =>
    obtain ⟨v, H2, os, bare, un, hok2, rv, rfl⟩ := h
    cases (show u = Value.bool true from rv)
    have more : ∀ b, b ∈ cs.map (·.2) → ∃ ps : Array Value, s2.heap.get? b = some { cls := .none, data := .fields ps } := fun b m => by
      obtain ⟨p, hp, rfl⟩ := List.mem_map.mp m
      obtain ⟨ps, z⟩ := un.tbls p.2 #[] (tbs p hp)
      exact ⟨_, hok2 p.2 _ z⟩
    have rest : ∀ b o, b ∉ cs.map (·.2) → t.heap.get? b = some o → s2.heap.get? b = some o := fun b o n e => by
      rcases one b with z | ⟨rfl, z⟩ | ⟨m, _⟩
      · exact un.keep b o e z (fun y => absurd (show b ∈ ([] : List Addr) from y) List.not_mem_nil) (by simp)
      · have y1 := (hok _ _ z).1
        have y2 := (hok2 _ _ (un.frzs _ _ _ z)).1
        rw [e] at y1
        cases y1
        exact y2
      · exact absurd m n
    refine ⟨rfl, ⟨fun b o e => ?_, fun b o e => ?_⟩, os, bare⟩
    · by_cases m : b ∈ cs.map (·.2)
      · obtain ⟨ps, z⟩ := more b m
        obtain ⟨p, hp, rfl⟩ := List.mem_map.mp m
        rw [TO.g p hp] at e
        cases e
        exact .inr (.inl ⟨((TO.c p hp).tab (TO.g p hp)).isCodeTable, rfl, #[], ps, rfl, by rw [Array.empty_append]; exact z⟩)
      · exact .inl (rest b o m e)
    · by_cases m : b ∈ cs.map (·.2)
      · exact (more b m).elim fun ps z => ⟨_, z⟩
      · exact ⟨o, rest b o m e⟩
  | next => exact False.elim h
  | brk => exact False.elim h
  | cont => exact False.elim h
/-- what is tracked when the law begins: the script, where it isn't of the head, and the tables -/
def begun (K : PySem.W.Frag) (cs : List (Addr × Addr)) (a : Addr) (us : List Value) (zs : List Int) : Hp := fun b =>
  if b ∈ cs.map (·.2) then some (.tbl #[]) else if b = a ∧ K.lookup a = none then some (.frz (boxed us) (.lst (zs.map V.int))) else none
theorem run_law (TO : TabsOk K cs t.heap) (hbm : BM mg t.heap) (KX : K.In t.heap) (g1 : t.heap.Ns mainGlobals mg) (g2 : t.heap.Ns builtinsNs mb) (g3 : ∀ y : Str, y ≠ "__name__" → mb y = bootBuiltins y) (lim : t.heap.NoLimit) (hg : t.gens = #[]) (ha : t.heap.get? a = some (boxed us)) (hi : IntsAre us zs) (hl : zs.length ≤ sizeLine) (hr : Room k callerA)
    (F : ∀ base : Heap, K.In base → base.Ns mainGlobals mg → (∀ p ∈ cs, TabB base mg p.1 p.2) → FnG P w K mg base k fa fd [x] sp) (bd : ∀ (s : Shared) (u : Value), BindsTo s fd ⟨[u], []⟩ [(x, u)])
    (hsp : ∀ H' : Hp, (∀ p ∈ cs, H' p.2 = some (.tbl #[])) → SqL K H' a (zs.map V.int) → sp [.ref a] H' (fun v _ => v = .bl true) E0) :
    codeAny (model P w) callerA (.call (.ref fa) ⟨[.ref a], []⟩) (fun r s' => r = .ok (.ret (.bool true)) ∧ OldK t.heap s'.heap ∧ s'.os = t.os ∧ AllBare s'.gens) t := by
  have rv : Vals (zs.map V.int) us := vals_ints hi
  have na : a ∉ cs.map (·.2) := fun m => by
    have e := (TO.at m).1
    rw [ha] at e
    have d : Data.seq us.toArray _ = Data.fields #[] := congrArg Obj.data (Option.some.inj e)
    cases d
  have one : ∀ b, begun K cs a us zs b = none ∨ (b = a ∧ begun K cs a us zs b = some (.frz (boxed us) (.lst (zs.map V.int)))) ∨ (b ∈ cs.map (·.2) ∧ begun K cs a us zs b = some (.tbl #[])) := fun b => by
    unfold begun
    by_cases m : b ∈ cs.map (·.2)
    · exact .inr (.inr ⟨m, if_pos m⟩)
    · rw [if_neg m]
      by_cases e : b = a ∧ K.lookup a = none
      · exact .inr (.inl ⟨e.1, if_pos e⟩)
      · exact .inl (if_neg e)
  refine run_at (H := begun K cs a us zs) (us := us) (zs := zs) one (fun p hp => ?_) TO hbm (fun z => ?_) ?_ (fun b u z => ?_) KX g1 g2 g3 lim hg ha hr F bd hsp
  · unfold begun
    exact if_pos (List.mem_map.mpr ⟨p, hp, rfl⟩)
  · unfold begun at z
    rw [if_neg na] at z
    by_cases e : a = a ∧ K.lookup a = none
    · exact e.2
    · rw [if_neg e] at z
      exact absurd rfl z
  · cases hk : K.lookup a with
    | none =>
      refine .inl (.inr ⟨boxed us, ?_⟩)
      unfold begun
      rw [if_neg na, if_pos ⟨rfl, hk⟩]
    | some o =>
      have e := KX a o hk
      rw [ha] at e
      cases e
      exact .inr ⟨_, us.toArray, _, hk, rfl, rfl, rfl, by rw [List.size_toArray, hi.length]; exact hl, by simpa using rv⟩
  · rcases one b with e | ⟨rfl, e⟩ | ⟨m, e⟩
    · rw [e] at z
      cases z
    · rw [e] at z
      cases z
      exact ⟨ha, by rw [List.length_map]; exact hl, us, _, rv, ha⟩
    · rw [e] at z
      cases z
      exact (TO.at m).1
end
theorem walk {l : PySem.W.OpenLaw} {q : Program} {loose : List Str} {XP : (Str → Option Value) → Heap → Prop} {YP : World → Heap → Prop} {d : DefRec} {K : Params → PySem.W.Frag} (hn : l.most = some 63) (hdf : d.params.defaults = [])
    (hY : ∀ (w : World) (h : Heap), YP w h → (K w.params).In h)
    (F : ∀ (w : World) (mg : Str → Option Value) (fa : Addr) (h : Heap), YP w h → (K w.params).In h → h.Ns mainGlobals mg → mg d.name = some (.ref fa) → BM mg h →
      ∃ (fd : FuncData) (cs : List (Addr × Addr)) (T : List (Addr × Str)), TabsOk (K w.params) cs h ∧ (∀ p ∈ T, p.1 ∈ cs.map (·.2)) ∧ (∀ (s : Shared) (u : Value), BindsTo s fd ⟨[u], []⟩ [("_law_script", u)]) ∧
        ∀ base : Heap, (K w.params).In base → base.Ns mainGlobals mg → (∀ p ∈ cs, TabB base mg p.1 p.2) → FnG l.prog w (K w.params) mg base 11 fa fd ["_law_script"] (spLaw (K w.params) T)) :
    PySem.W.WalkO q loose XP YP l.row.toRowW d [] (fun f vs => PySem.call f vs) := by
  apply Att.attach_call hn hdf
  intro w s0 s1 mg mb fa o pm cd doc a vs ns G Y ho hd hcd hmg hobj hints hlen hg
  have KX := hY w _ Y
  obtain ⟨fd, cs, T, TO, hT, hb, hF⟩ := F w mg fa _ Y KX G.T.g hmg G.T.bmain
  refine run_law TO G.T.bmain KX G.T.g G.T.b G.T.builtins G.T.nolimit hg hobj hints (Nat.le_trans hlen (by decide)) ⟨rfl, by decide, by decide⟩ hF hb fun H tb hS => ⟨a, ns, rfl, hS, hlen, fun p hp => ?_, fun _ => rfl⟩
  obtain ⟨c, hc, e⟩ := List.mem_map.mp (hT p hp)
  exact TabS.nil (by rw [← e]; exact tb c hc)
end K13
namespace K13
open PySem L2 LamX
/-! ### the end: what the top has left -/
theorem exm_to {K : PySem.W.Frag} {C D : Addr} {b : Bool} (x : PySem.W.subIn K (.ref D) (.type "BaseException") = some true) (i : PySem.W.isClsIn K D = true) (t : PySem.W.typeIn K (.ref D) = some (.type "type")) (s : PySem.W.subIn K (.ref C) (.ref D) = some b) : PySem.W.exmOne K (.ref C) (.ref D) = some b := by
  have i' : (PySem.W.clsIn K D).isSome = true := i
  have g : ((PySem.W.clsIn K D).isSome && PySem.W.typeIn K (.ref D) == some (.type "type")) = true := by rw [i', t] <;> rfl
  unfold PySem.W.exmOne
  rw [if_pos (by rw [x] <;> rfl)]
  show (if ((PySem.W.clsIn K D).isSome && PySem.W.typeIn K (.ref D) == some (.type "type")) = true then PySem.W.subIn K (.ref C) (.ref D) else none) = some b
  rw [if_pos g]
  exact s
theorem kit_tyref {K : PySem.W.Frag} {T : String} {D : Addr} {b : Bool} (i : PySem.W.isClsIn K D = true) (t : PySem.W.typeIn K (.ref D) = some (.type "type")) (s : PySem.W.subIn K (.type T) (.ref D) = some b) : PySem.W.kitOne K (.type T) (.ref D) = some b := by
  have i' : (PySem.W.clsIn K D).isSome = true := i
  have g : ((PySem.W.clsIn K D).isSome && PySem.W.typeIn K (.ref D) == some (.type "type")) = true := by rw [i', t] <;> rfl
  unfold PySem.W.kitOne
  rw [if_neg (fun z => by cases z)]
  show (if ((PySem.W.clsIn K D).isSome && PySem.W.typeIn K (.ref D) == some (.type "type")) = true then PySem.W.subIn K (.type T) (.ref D) else none) = some b
  rw [if_pos g]
  exact s
theorem kit_self {K : PySem.W.Frag} {D : Addr} : PySem.W.kitOne K (.ref D) (.ref D) = some true := by
  unfold PySem.W.kitOne
  exact if_pos (beq_self_eq_true _)
theorem nf_of {K : PySem.W.Frag} {T : String} {D : Addr} (s : PySem.W.subIn K (.type T) (.ref D) = some false) : PySem.W.notFirst K D (.type T) = true := by
  unfold PySem.W.notFirst
  rw [s]
  exact Bool.or_true _
theorem kit_ref {K : PySem.W.Frag} {C D : Addr} {b : Bool} (n : (Value.ref C == Value.ref D) = false) (i : PySem.W.isClsIn K D = true) (t : PySem.W.typeIn K (.ref D) = some (.type "type")) (s : PySem.W.subIn K (.ref C) (.ref D) = some b) : PySem.W.kitOne K (.ref C) (.ref D) = some b := by
  have i' : (PySem.W.clsIn K D).isSome = true := i
  have g : ((PySem.W.clsIn K D).isSome && PySem.W.typeIn K (.ref D) == some (.type "type")) = true := by rw [i', t] <;> rfl
  unfold PySem.W.kitOne
  rw [if_neg (by rw [n]; decide)]
  show (if ((PySem.W.clsIn K D).isSome && PySem.W.typeIn K (.ref D) == some (.type "type")) = true then PySem.W.subIn K (.ref C) (.ref D) else none) = some b
  rw [if_pos g]
  exact s
theorem kit_blt {K : PySem.W.Frag} {C : Addr} {T : String} {b : Bool} (m : PySem.W.kitMeta T = true) (s : PySem.W.subIn K (.ref C) (.type T) = some b) : PySem.W.kitOne K (.ref C) (.type T) = some b := by
  unfold PySem.W.kitOne
  rw [if_neg (fun z => by cases z)]
  show (if PySem.W.kitMeta T = true then PySem.W.subIn K (.ref C) (.type T) else none) = some b
  rw [if_pos m]
  exact s
theorem at_mk {K : PySem.W.Frag} {h : Heap} {mg : Str → Option Value} {x : Str} {st : Stmt} {ps : List Str} {f : Addr} {fd : FuncData} (X : K.In h) (G : h.Ns mainGlobals mg) (a : PySem.W.nsIn K mainGlobals x = some (some (.ref f))) (F : Fun K x x st f fd)
    (b : ∀ (kV doc pm : Value) (an : Option Addr) (cdv ct : Value) (us : List Value), us.length = ps.length → bindArgs (PySem.W.fnOf x x (defArgs st) (defBody st) (defScope st) .none kV doc pm an cdv ct) ⟨us, []⟩ = pure (ps.zip us)) : At K mg x st ps f fd := ⟨F, F.binds b, PySem.W.mg_of X G a⟩

theorem all_mk {P : Program} {w : World} {K : PySem.W.Frag} {h : Heap} {mg : Str → Option Value} {fa : Addr} (X : K.In h) (G : h.Ns mainGlobals mg) (hfa : mg "law" = some (.ref fa)) (hbm : BM mg h)
    {f0 f1 f2 f3 f4 f5 f6 f7 f8 f9 f10 f11 f12 f13 f14 f15 f16 f17 : Addr} {d0 d1 d2 d3 d4 d5 d6 d7 d8 d9 d10 d11 d12 d13 d14 d15 d16 d17 : FuncData} {C fL CN fN CM fM CE fE gE gL gS gR gH pM gM gB gI gO gA cA cB PA PB : Addr} {dL0 dN dM dE0 dE dLn dS dR dH dG dB dI dO dA : FuncData} {tM tL tk : Tok} {rm : List Value}
    {nm q nmb q2 : Str} {N N2 : Addr} {bs bm bs2 bm2 : List Value} {sn sn2 : List Str} {sub sub2 : List Value} {ab ab2 : Bool} {col col2 : Option Bool} {dd dd2 : Option Addr} {k0 k1 k2 k3 k5 j0 j1 j2 j3 j5 : Option Value}
    {foONoneType foObool foOint foOstr foOlist foOtuple foOdict roONoneType roObool roOint roOstr roOlist roOtuple roOdict foANoneType foAbool foAint foAstr foAlist foAtuple foAdict roANoneType roAbool roAint roAstr roAlist roAtuple roAdict : Option Value} {eA eB : Value} {oA oB : Option Addr} {vA vB : Array Value} {sA sB : Array (Option Value)}
    (a0 : PySem.W.nsIn K mainGlobals "is_name" = some (some (.ref f0)))
    (F0 : L2.Fun K "is_name" "is_name" sIsName f0 d0)
    (a1 : PySem.W.nsIn K mainGlobals "check_label" = some (some (.ref f1)))
    (F1 : L2.Fun K "check_label" "check_label" sCheck f1 d1)
    (a2 : PySem.W.nsIn K mainGlobals "marks_rank" = some (some (.ref f2)))
    (F2 : L2.Fun K "marks_rank" "marks_rank" sRank f2 d2)
    (a3 : PySem.W.nsIn K mainGlobals "_law_rng" = some (some (.ref f3)))
    (F3 : L2.Fun K "_law_rng" "_law_rng" sRng f3 d3)
    (a4 : PySem.W.nsIn K mainGlobals "_law_draw" = some (some (.ref f4)))
    (F4 : L2.Fun K "_law_draw" "_law_draw" sDraw f4 d4)
    (a5 : PySem.W.nsIn K mainGlobals "_law_choice" = some (some (.ref f5)))
    (F5 : L2.Fun K "_law_choice" "_law_choice" sChoice f5 d5)
    (a6 : PySem.W.nsIn K mainGlobals "_law_word" = some (some (.ref f6)))
    (F6 : L2.Fun K "_law_word" "_law_word" sWord f6 d6)
    (a7 : PySem.W.nsIn K mainGlobals "_law_words" = some (some (.ref f7)))
    (F7 : L2.Fun K "_law_words" "_law_words" sWords f7 d7)
    (a8 : PySem.W.nsIn K mainGlobals "_law_some" = some (some (.ref f8)))
    (F8 : L2.Fun K "_law_some" "_law_some" sSome f8 d8)
    (a9 : PySem.W.nsIn K mainGlobals "_law_made" = some (some (.ref f9)))
    (F9 : L2.Fun K "_law_made" "_law_made" sMade f9 d9)
    (a10 : PySem.W.nsIn K mainGlobals "_law_all_below" = some (some (.ref f10)))
    (F10 : L2.Fun K "_law_all_below" "_law_all_below" sAllBelow f10 d10)
    (a11 : PySem.W.nsIn K mainGlobals "_law_joined" = some (some (.ref f11)))
    (F11 : L2.Fun K "_law_joined" "_law_joined" sJoined f11 d11)
    (a12 : PySem.W.nsIn K mainGlobals "_law_refused" = some (some (.ref f12)))
    (F12 : L2.Fun K "_law_refused" "_law_refused" sRefused f12 d12)
    (a13 : PySem.W.nsIn K mainGlobals "_law_pair_right" = some (some (.ref f13)))
    (F13 : L2.Fun K "_law_pair_right" "_law_pair_right" sPair f13 d13)
    (a14 : PySem.W.nsIn K mainGlobals "_law_alone_right" = some (some (.ref f14)))
    (F14 : L2.Fun K "_law_alone_right" "_law_alone_right" sAlone f14 d14)
    (a15 : PySem.W.nsIn K mainGlobals "_law_odd" = some (some (.ref f15)))
    (F15 : L2.Fun K "_law_odd" "_law_odd" sOdd f15 d15)
    (a16 : PySem.W.nsIn K mainGlobals "_law_right" = some (some (.ref f16)))
    (F16 : L2.Fun K "_law_right" "_law_right" sRight f16 d16)
    (a17 : PySem.W.nsIn K mainGlobals "law" = some (some (.ref f17)))
    (F17 : L2.Fun K "law" "law" sLaw f17 d17)
    (zlen : PySem.W.nsIn K mainGlobals "len" = some none)
    (zabs : PySem.W.nsIn K mainGlobals "abs" = some none)
    (zmax : PySem.W.nsIn K mainGlobals "max" = some none)
    (zmin : PySem.W.nsIn K mainGlobals "min" = some none)
    (zint : PySem.W.nsIn K mainGlobals "int" = some none)
    (zdivmod : PySem.W.nsIn K mainGlobals "divmod" = some none)
    (zrange : PySem.W.nsIn K mainGlobals "range" = some none)
    (zall : PySem.W.nsIn K mainGlobals "all" = some none)
    (zisinstance : PySem.W.nsIn K mainGlobals "isinstance" = some none)
    (zstr : PySem.W.nsIn K mainGlobals "str" = some none)
    (zbool : PySem.W.nsIn K mainGlobals "bool" = some none)
    (zrepr : PySem.W.nsIn K mainGlobals "repr" = some none)
    (ztuple : PySem.W.nsIn K mainGlobals "tuple" = some none)
    (zset : PySem.W.nsIn K mainGlobals "set" = some none)
    (zsorted : PySem.W.nsIn K mainGlobals "sorted" = some none)
    (zlist : PySem.W.nsIn K mainGlobals "list" = some none)
    (mM : PySem.W.nsIn K mainGlobals "MOST_LETTERS" = some (some (.int 8 tM)))
    (mL : PySem.W.nsIn K mainGlobals "LETTERS" = some (some (.str "abcdefghijklmnopqrstuvwxyz" tL)))
    (cC : PySem.W.nsIn K mainGlobals "Label" = some (some (.ref C)))
    (cmk : PySem.W.makesIn K C = true)
    (cin : PySem.W.findIn K (.ref C) "__init__" = some (some (.ref fL)))
    (cfn : PySem.W.isFn K (.ref fL) = true)
    (ckp : PySem.W.keepIn K (.ref C) = true)
    (cpg : PySem.W.plainGet K C Str.empty = true)
    (chd : PySem.W.hasDictIn K C = true)
    (cpo : PySem.W.plainOver K C = true)
    (csa : PySem.W.findIn K (.ref C) "__setattr__" = some (some (.builtin "object.__setattr__")))
    (crd : PySem.W.readsIn K C (.type "type") = true)
    (cga : PySem.W.specialIn K (.ref C) "__getattribute__" = some (some (.builtin "type.__getattribute__")))
    (cmo : PySem.W.findCls K (.ref C) (.type "type") "MOST" = some (.val (.int 4 tk)))
    (cn1 : PySem.W.findIn K (.ref C) "_marks" = some none)
    (cn2 : PySem.W.findIn K (.ref C) "_text" = some none)
    (cic : PySem.W.isClsIn K C = true)
    (cty : PySem.W.typeIn K (.ref C) = some (.type "type"))
    (FL : L2.Fun K "__init__" "Label.__init__" sInit fL dL0)
    (cgE : PySem.W.findIn K (.ref C) "__eq__" = some (some (.ref gE)))
    (igE : PySem.W.isFn K (.ref gE) = true)
    (FgE : L2.Fun K "__eq__" "Label.__eq__" sEq gE dE)
    (cgL : PySem.W.findIn K (.ref C) "__len__" = some (some (.ref gL)))
    (igL : PySem.W.isFn K (.ref gL) = true)
    (FgL : L2.Fun K "__len__" "Label.__len__" sLen gL dLn)
    (cgS : PySem.W.findIn K (.ref C) "__str__" = some (some (.ref gS)))
    (igS : PySem.W.isFn K (.ref gS) = true)
    (FgS : L2.Fun K "__str__" "Label.__str__" sStr gS dS)
    (cgR : PySem.W.findIn K (.ref C) "__repr__" = some (some (.ref gR)))
    (igR : PySem.W.isFn K (.ref gR) = true)
    (FgR : L2.Fun K "__repr__" "Label.__repr__" sRepr gR dR)
    (cgH : PySem.W.findIn K (.ref C) "__contains__" = some (some (.ref gH)))
    (igH : PySem.W.isFn K (.ref gH) = true)
    (FgH : L2.Fun K "__contains__" "Label.__contains__" sHas gH dH)
    (cgB : PySem.W.findIn K (.ref C) "below" = some (some (.ref gB)))
    (igB : PySem.W.isFn K (.ref gB) = true)
    (FgB : L2.Fun K "below" "Label.below" sBelowG gB dB)
    (kgB : PySem.W.keepIn K (.ref gB) = true)
    (cgI : PySem.W.findIn K (.ref C) "is_below" = some (some (.ref gI)))
    (igI : PySem.W.isFn K (.ref gI) = true)
    (FgI : L2.Fun K "is_below" "Label.is_below" sBelow gI dI)
    (kgI : PySem.W.keepIn K (.ref gI) = true)
    (cgO : PySem.W.findIn K (.ref C) "__or__" = some (some (.ref gO)))
    (igO : PySem.W.isFn K (.ref gO) = true)
    (FgO : L2.Fun K "__or__" "Label.__or__" sOrM gO dO)
    (cgA : PySem.W.findIn K (.ref C) "__and__" = some (some (.ref gA)))
    (igA : PySem.W.isFn K (.ref gA) = true)
    (FgA : L2.Fun K "__and__" "Label.__and__" sAndM gA dA)
    (sfC : PySem.W.selfFirst K C = true)
    (rrO : PySem.W.findIn K (.ref C) "__ror__" = some none)
    (rrA : PySem.W.findIn K (.ref C) "__rand__" = some none)
    (hfoONoneType : PySem.W.findIn K (.type "NoneType") "__or__" = some foONoneType)
    (hfoObool : PySem.W.findIn K (.type "bool") "__or__" = some foObool)
    (hfoOint : PySem.W.findIn K (.type "int") "__or__" = some foOint)
    (hfoOstr : PySem.W.findIn K (.type "str") "__or__" = some foOstr)
    (hfoOlist : PySem.W.findIn K (.type "list") "__or__" = some foOlist)
    (hfoOtuple : PySem.W.findIn K (.type "tuple") "__or__" = some foOtuple)
    (hfoOdict : PySem.W.findIn K (.type "dict") "__or__" = some foOdict)
    (hroONoneType : PySem.W.findIn K (.type "NoneType") "__ror__" = some roONoneType)
    (hroObool : PySem.W.findIn K (.type "bool") "__ror__" = some roObool)
    (hroOint : PySem.W.findIn K (.type "int") "__ror__" = some roOint)
    (hroOstr : PySem.W.findIn K (.type "str") "__ror__" = some roOstr)
    (hroOlist : PySem.W.findIn K (.type "list") "__ror__" = some roOlist)
    (hroOtuple : PySem.W.findIn K (.type "tuple") "__ror__" = some roOtuple)
    (hroOdict : PySem.W.findIn K (.type "dict") "__ror__" = some roOdict)
    (hfoANoneType : PySem.W.findIn K (.type "NoneType") "__and__" = some foANoneType)
    (hfoAbool : PySem.W.findIn K (.type "bool") "__and__" = some foAbool)
    (hfoAint : PySem.W.findIn K (.type "int") "__and__" = some foAint)
    (hfoAstr : PySem.W.findIn K (.type "str") "__and__" = some foAstr)
    (hfoAlist : PySem.W.findIn K (.type "list") "__and__" = some foAlist)
    (hfoAtuple : PySem.W.findIn K (.type "tuple") "__and__" = some foAtuple)
    (hfoAdict : PySem.W.findIn K (.type "dict") "__and__" = some foAdict)
    (hroANoneType : PySem.W.findIn K (.type "NoneType") "__rand__" = some roANoneType)
    (hroAbool : PySem.W.findIn K (.type "bool") "__rand__" = some roAbool)
    (hroAint : PySem.W.findIn K (.type "int") "__rand__" = some roAint)
    (hroAstr : PySem.W.findIn K (.type "str") "__rand__" = some roAstr)
    (hroAlist : PySem.W.findIn K (.type "list") "__rand__" = some roAlist)
    (hroAtuple : PySem.W.findIn K (.type "tuple") "__rand__" = some roAtuple)
    (hroAdict : PySem.W.findIn K (.type "dict") "__rand__" = some roAdict)
    (cne : PySem.W.findIn K (.ref C) "__ne__" = some (some (.builtin "object.__ne__")))
    (cob : PySem.W.subIn K (.ref C) (.type "object") = some true)
    (sNoneType : PySem.W.subIn K (.ref C) (.type "NoneType") = some false)
    (uNoneType : PySem.W.subIn K (.type "NoneType") (.ref C) = some false)
    (sbool : PySem.W.subIn K (.ref C) (.type "bool") = some false)
    (ubool : PySem.W.subIn K (.type "bool") (.ref C) = some false)
    (sint : PySem.W.subIn K (.ref C) (.type "int") = some false)
    (uint : PySem.W.subIn K (.type "int") (.ref C) = some false)
    (sstr : PySem.W.subIn K (.ref C) (.type "str") = some false)
    (ustr : PySem.W.subIn K (.type "str") (.ref C) = some false)
    (slist : PySem.W.subIn K (.ref C) (.type "list") = some false)
    (ulist : PySem.W.subIn K (.type "list") (.ref C) = some false)
    (stuple : PySem.W.subIn K (.ref C) (.type "tuple") = some false)
    (utuple : PySem.W.subIn K (.type "tuple") (.ref C) = some false)
    (sdict : PySem.W.subIn K (.ref C) (.type "dict") = some false)
    (udict : PySem.W.subIn K (.type "dict") (.ref C) = some false)
    (cpM : PySem.W.findIn K (.ref C) "marks" = some (some (.ref pM)))
    (pg : PySem.W.specialIn K (.ref pM) "__get__" = some (some (.builtin "property.__get__")))
    (pt : PySem.W.takesIn K (.ref pM) = some true)
    (pr : PySem.W.recIn K pM "property" = some (.ref gM :: rm))
    (cha : PySem.W.findIn K (.ref C) "__class__" = some (some (.builtin "object.__class__")))
    (hn : PySem.W.specialIn K (.builtin "object.__class__") "__get__" = some (some (.builtin "getset_descriptor.__get__")))
    (ht : PySem.W.takesIn K (.builtin "object.__class__") = some true)
    (chm : PySem.W.mroIn K C (.type "object") = some true)
    (FgM : L2.Fun K "marks" "Label.marks" sGetM gM dG)
    (naC : PySem.W.nsIn K mainGlobals "InvalidName" = some (some (.ref CN)))
    (nlC : K.lookup CN = some (PySem.excClassObj nm q CN N bs bm true sn sub ab col dd k0 k1 k2 k3 k5 "ValueError.__new__"))
    (nbC : PySem.HandSPX.refsVE bm = true)
    (nsa : PySem.W.findIn K (.ref CN) "__setattr__" = some (some (.builtin "object.__setattr__")))
    (nxC : PySem.W.subIn K (.ref CN) (.type "BaseException") = some true)
    (ntC : PySem.W.typeIn K (.ref CN) = some (.type "type"))
    (nkC : PySem.W.keepIn K (.ref CN) = true)
    (nhg : PySem.W.findIn K (.ref CN) "__getattribute__" = some (some (.builtin "BaseException.__getattribute__")))
    (nhk : PySem.W.findIn K (.ref CN) "__getattr__" = some none)
    (nhd : PySem.W.hasDictIn K CN = true)
    (niC : PySem.W.isClsIn K CN = true)
    (nsC : PySem.W.subIn K (.ref CN) (.ref CN) = some true)
    (ninC : PySem.W.findIn K (.ref CN) "__init__" = some (some (.ref fN)))
    (ntI : PySem.W.typeIn K (.ref fN) = some (.type "function"))
    (nm1 : PySem.W.findIn K (.ref CN) "value" = some none)
    (nm2 : PySem.W.findIn K (.ref CN) "_told" = some none)
    (nFI : L2.Fun K "__init__" "InvalidName.__init__" sInitK fN dN)
    (eaC : PySem.W.nsIn K mainGlobals "InvalidLabel" = some (some (.ref CE)))
    (elC : K.lookup CE = some (PySem.excClassObj nmb q2 CE N2 bs2 bm2 true sn2 sub2 ab2 col2 dd2 j0 j1 j2 j3 j5 "ValueError.__new__"))
    (ebC : PySem.HandSPX.refsVE bm2 = true)
    (esa : PySem.W.findIn K (.ref CE) "__setattr__" = some (some (.builtin "object.__setattr__")))
    (exC : PySem.W.subIn K (.ref CE) (.type "BaseException") = some true)
    (etC : PySem.W.typeIn K (.ref CE) = some (.type "type"))
    (ekC : PySem.W.keepIn K (.ref CE) = true)
    (ehg : PySem.W.findIn K (.ref CE) "__getattribute__" = some (some (.builtin "BaseException.__getattribute__")))
    (ehk : PySem.W.findIn K (.ref CE) "__getattr__" = some none)
    (ehd : PySem.W.hasDictIn K CE = true)
    (eiC : PySem.W.isClsIn K CE = true)
    (esC : PySem.W.subIn K (.ref CE) (.ref CE) = some true)
    (einC : PySem.W.findIn K (.ref CE) "__init__" = some (some (.ref fE)))
    (etI : PySem.W.typeIn K (.ref fE) = some (.type "function"))
    (em1 : PySem.W.findIn K (.ref CE) "value" = some none)
    (em2 : PySem.W.findIn K (.ref CE) "_told" = some none)
    (eFI : L2.Fun K "__init__" "InvalidLabel.__init__" sInitT fE dE0)
    (maC : PySem.W.nsIn K mainGlobals "TooMany" = some (some (.ref CM)))
    (mei : PySem.W.excInitIn K CM [.type "ArithmeticError", .type "Exception", .type "BaseException", .type "object"] "ArithmeticError.__new__" = true)
    (meo : PySem.W.excOver K CM [.type "ArithmeticError", .type "Exception", .type "BaseException", .type "object"] = true)
    (msa : PySem.W.findIn K (.ref CM) "__setattr__" = some (some (.builtin "object.__setattr__")))
    (mxC : PySem.W.subIn K (.ref CM) (.type "BaseException") = some true)
    (mtC : PySem.W.typeIn K (.ref CM) = some (.type "type"))
    (mkC : PySem.W.keepIn K (.ref CM) = true)
    (mhg : PySem.W.findIn K (.ref CM) "__getattribute__" = some (some (.builtin "BaseException.__getattribute__")))
    (mhk : PySem.W.findIn K (.ref CM) "__getattr__" = some none)
    (mhd : PySem.W.hasDictIn K CM = true)
    (miC : PySem.W.isClsIn K CM = true)
    (msC : PySem.W.subIn K (.ref CM) (.ref CM) = some true)
    (minC : PySem.W.findIn K (.ref CM) "__init__" = some (some (.ref fM)))
    (mtI : PySem.W.typeIn K (.ref fM) = some (.type "function"))
    (mm1 : PySem.W.findIn K (.ref CM) "kind" = some none)
    (mm2 : PySem.W.findIn K (.ref CM) "limit" = some none)
    (mm3 : PySem.W.findIn K (.ref CM) "_told" = some none)
    (mFI : L2.Fun K "__init__" "TooMany.__init__" sInitM fM dM)
    (hcA : d14.code = .ref cA)
    (lkA : K.lookup cA = some ⟨eA, oA, .fields vA, sA⟩)
    (tvA : vA[11]? = some (.ref PA))
    (tbA : PySem.W.codeHdIn K cA PA = true)
    (tnA : K.lookup PA = none)
    (tgA : h.get? PA = some tab0)
    (hcB : d10.code = .ref cB)
    (lkB : K.lookup cB = some ⟨eB, oB, .fields vB, sB⟩)
    (tvB : vB[11]? = some (.ref PB))
    (tbB : PySem.W.codeHdIn K cB PB = true)
    (tnB : K.lookup PB = none)
    (tgB : h.get? PB = some tab0)
    (nAB : PA ≠ PB) :
    ∃ (fd : FuncData) (cs : List (Addr × Addr)) (T : List (Addr × Str)), TabsOk K cs h ∧ (∀ p ∈ T, p.1 ∈ cs.map (·.2)) ∧ (∀ (s : Shared) (u : Value), BindsTo s fd ⟨[u], []⟩ [("_law_script", u)]) ∧
      ∀ base : Heap, K.In base → base.Ns mainGlobals mg → (∀ p ∈ cs, TabB base mg p.1 p.2) → FnG P w K mg base 11 fa fd ["_law_script"] (spLaw K T) := by
  have e := hfa.symm.trans (PySem.W.mg_of X G a17)
  cases e
  have A0 : At K mg "is_name" sIsName ["value"] f0 d0 := at_mk X G a0 F0 fun _ _ _ _ _ _ us hl => match us, hl with | [_], _ => rfl
  have A1 : At K mg "check_label" sCheck ["value"] f1 d1 := at_mk X G a1 F1 fun _ _ _ _ _ _ us hl => match us, hl with | [_], _ => rfl
  have A2 : At K mg "marks_rank" sRank ["marks"] f2 d2 := at_mk X G a2 F2 fun _ _ _ _ _ _ us hl => match us, hl with | [_], _ => rfl
  have A3 : At K mg "_law_rng" sRng ["_law_script", "_law_k"] f3 d3 := at_mk X G a3 F3 fun _ _ _ _ _ _ us hl => match us, hl with | [_, _], _ => rfl
  have A4 : At K mg "_law_draw" sDraw ["_law_rng_here", "_law_many"] f4 d4 := at_mk X G a4 F4 fun _ _ _ _ _ _ us hl => match us, hl with | [_, _], _ => rfl
  have A5 : At K mg "_law_choice" sChoice ["_law_rng_here", "_law_options"] f5 d5 := at_mk X G a5 F5 fun _ _ _ _ _ _ us hl => match us, hl with | [_, _], _ => rfl
  have A6 : At K mg "_law_word" sWord ["_law_rng_here", "_law_used"] f6 d6 := at_mk X G a6 F6 fun _ _ _ _ _ _ us hl => match us, hl with | [_, _], _ => rfl
  have A7 : At K mg "_law_words" sWords ["_law_rng_here", "_law_many"] f7 d7 := at_mk X G a7 F7 fun _ _ _ _ _ _ us hl => match us, hl with | [_, _], _ => rfl
  have A8 : At K mg "_law_some" sSome ["_law_rng_here", "_law_words_here", "_law_many"] f8 d8 := at_mk X G a8 F8 fun _ _ _ _ _ _ us hl => match us, hl with | [_, _, _], _ => rfl
  have A9 : At K mg "_law_made" sMade ["_law_marks"] f9 d9 := at_mk X G a9 F9 fun _ _ _ _ _ _ us hl => match us, hl with | [_], _ => rfl
  have A10 : At K mg "_law_all_below" sAllBelow ["_law_marks"] f10 d10 := at_mk X G a10 F10 fun _ _ _ _ _ _ us hl => match us, hl with | [_], _ => rfl
  have A11 : At K mg "_law_joined" sJoined ["_law_one", "_law_mate"] f11 d11 := at_mk X G a11 F11 fun _ _ _ _ _ _ us hl => match us, hl with | [_, _], _ => rfl
  have A12 : At K mg "_law_refused" sRefused ["_law_call"] f12 d12 := at_mk X G a12 F12 fun _ _ _ _ _ _ us hl => match us, hl with | [_], _ => rfl
  have A13 : At K mg "_law_pair_right" sPair ["_law_one", "_law_mate", "_law_low", "_law_high"] f13 d13 := at_mk X G a13 F13 fun _ _ _ _ _ _ us hl => match us, hl with | [_, _, _, _], _ => rfl
  have A14 : At K mg "_law_alone_right" sAlone ["_law_one", "_law_low", "_law_odd_here", "_law_strange"] f14 d14 := at_mk X G a14 F14 fun _ _ _ _ _ _ us hl => match us, hl with | [_, _, _, _], _ => rfl
  have A15 : At K mg "_law_odd" sOdd ["_law_rng_here", "_law_low"] f15 d15 := at_mk X G a15 F15 fun _ _ _ _ _ _ us hl => match us, hl with | [_, _], _ => rfl
  have A16 : At K mg "_law_right" sRight ["_law_rng_here"] f16 d16 := at_mk X G a16 F16 fun _ _ _ _ _ _ us hl => match us, hl with | [_], _ => rfl
  have B : BEnv mg := ⟨(PySem.W.mg_none_of X G zlen), (PySem.W.mg_none_of X G zabs), (PySem.W.mg_none_of X G zmax), (PySem.W.mg_none_of X G zmin), (PySem.W.mg_none_of X G zint), (PySem.W.mg_none_of X G zdivmod), (PySem.W.mg_none_of X G zrange), (PySem.W.mg_none_of X G zall)⟩
  have Z : Zn mg := ⟨(PySem.W.mg_none_of X G zisinstance), (PySem.W.mg_none_of X G zbool), (PySem.W.mg_none_of X G zint), (PySem.W.mg_none_of X G zstr), (PySem.W.mg_none_of X G zabs), (PySem.W.mg_none_of X G zlen), (PySem.W.mg_none_of X G zall), (PySem.W.mg_none_of X G zrepr)⟩
  have IN : IK K mg CN fN dN := { o := ⟨⟨nm, q, N, bs, bm, sn, sub, ab, col, dd, k0, k1, k2, k3, k5, nlC, nbC⟩, nsa, nxC, ntC, nkC⟩, iC := ninC, tI := ntI, n1 := nm1, n2 := nm2, m := (PySem.W.mg_of X G naC), F := nFI, b := (nFI.binds fun _ _ _ _ _ _ us hl => match us, hl with | [_, _], _ => rfl) }
  have ITt : IT K mg CE fE dE0 := { o := ⟨⟨nmb, q2, N2, bs2, bm2, sn2, sub2, ab2, col2, dd2, j0, j1, j2, j3, j5, elC, ebC⟩, esa, exC, etC, ekC⟩, iC := einC, tI := etI, n1 := em1, n2 := em2, m := (PySem.W.mg_of X G eaC), F := eFI, b := (eFI.binds fun _ _ _ _ _ _ us hl => match us, hl with | [_, _], _ => rfl) }
  have IMm : IM K mg CM fM dM := { o := ⟨mei, meo, mhd, msa, mxC, mtC, mkC⟩, iC := minC, tI := mtI, t1 := NoAttr.taker mm1, t2 := NoAttr.taker mm2, t3 := NoAttr.taker mm3, m := (PySem.W.mg_of X G maC), F := mFI, b := (mFI.binds fun _ _ _ _ _ _ us hl => match us, hl with | [_, _, _], _ => rfl) }
  have CL : Cls K C := ⟨cpg, chd, cpo, csa⟩
  have CR : ClX.CRead K C (.type "type") := ⟨crd, cga⟩
  have LC : LabC K mg C fL CN fN CM fM dL0 dN dM := { mkr := ⟨cmk, cin, cfn, ckp⟩, cl := CL, m := (PySem.W.mg_of X G cC), rd := ⟨_, tk, CR, ⟨cmo, ⟨_, rfl⟩⟩⟩, n1 := cn1, n2 := cn2, F := FL, N := IN, M := IMm }
  have kt : ∀ T ∈ ["NoneType", "bool", "int", "str", "list", "tuple", "dict"], PySem.W.kitOne K (.type T) (.ref C) = some false := by
    simp only [List.forall_mem_cons]
    exact ⟨kit_tyref cic cty uNoneType, kit_tyref cic cty ubool, kit_tyref cic cty uint, kit_tyref cic cty ustr, kit_tyref cic cty ulist, kit_tyref cic cty utuple, kit_tyref cic cty udict, fun _ z => nomatch z⟩
  have sb : ∀ T ∈ ["NoneType", "bool", "int", "str", "list", "tuple", "dict"], PySem.W.subIn K (.ref C) (.type T) = some false ∧ PySem.W.notFirst K C (.type T) = true := by
    simp only [List.forall_mem_cons]
    exact ⟨⟨sNoneType, nf_of uNoneType⟩, ⟨sbool, nf_of ubool⟩, ⟨sint, nf_of uint⟩, ⟨sstr, nf_of ustr⟩, ⟨slist, nf_of ulist⟩, ⟨stuple, nf_of utuple⟩, ⟨sdict, nf_of udict⟩, fun _ z => nomatch z⟩
  have LM : LabM K mg C gE gL gS gR gH pM gM dE dLn dS dR dH dG := { cl := CL, n1 := cn1, n2 := cn2, m := (PySem.W.mg_of X G cC), E := FgE, O := ⟨cgE, igE, cne, cob, sb⟩, L := FgL, fL := cgL, iL := igL, S := FgS, fS := cgS, iS := igS, R := FgR, fR := cgR, iR := igR, H := FgH, fH := cgH, iH := igH, M := FgM, pr := ⟨cpM, pg, pt, ⟨rm, pr⟩⟩, bE := (FgE.binds fun _ _ _ _ _ _ us hl => match us, hl with | [_, _], _ => rfl), bL := (FgL.binds fun _ _ _ _ _ _ us hl => match us, hl with | [_], _ => rfl), bS := (FgS.binds fun _ _ _ _ _ _ us hl => match us, hl with | [_], _ => rfl), bR := (FgR.binds fun _ _ _ _ _ _ us hl => match us, hl with | [_], _ => rfl), bH := (FgH.binds fun _ _ _ _ _ _ us hl => match us, hl with | [_, _], _ => rfl), bM := (FgM.binds fun _ _ _ _ _ _ us hl => match us, hl with | [_], _ => rfl), kt := kt, kc := kit_self, ca := cha, cn := hn, ct := ht, cm := chm }
  have kI : ∀ T ∈ ["bool", "int", "str"], PySem.W.kitOne K (.ref C) (.type T) = some false := by
    simp only [List.forall_mem_cons]
    exact ⟨kit_blt (by decide +kernel) sbool, kit_blt (by decide +kernel) sint, kit_blt (by decide +kernel) sstr, fun _ z => nomatch z⟩
  have OB : OpO.OwnB K C gO .BitOr := by
    have e1 : PySem.dunder (Operator.BitOr).info.2 = "__or__" := by decide +kernel
    have e2 : PySem.dunderR (Operator.BitOr).info.2 = "__ror__" := by decide +kernel
    refine ⟨sfC, by rw [e1]; exact cgO, igO, by rw [e2]; exact rrO, ?_⟩
    rw [e1, e2]
    simp only [List.forall_mem_cons]
    exact ⟨⟨⟨_, hfoONoneType⟩, ⟨_, hroONoneType⟩, uNoneType⟩, ⟨⟨_, hfoObool⟩, ⟨_, hroObool⟩, ubool⟩, ⟨⟨_, hfoOint⟩, ⟨_, hroOint⟩, uint⟩, ⟨⟨_, hfoOstr⟩, ⟨_, hroOstr⟩, ustr⟩, ⟨⟨_, hfoOlist⟩, ⟨_, hroOlist⟩, ulist⟩, ⟨⟨_, hfoOtuple⟩, ⟨_, hroOtuple⟩, utuple⟩, ⟨⟨_, hfoOdict⟩, ⟨_, hroOdict⟩, udict⟩, fun _ z => nomatch z⟩
  have OA : OpO.OwnB K C gA .BitAnd := by
    have e1 : PySem.dunder (Operator.BitAnd).info.2 = "__and__" := by decide +kernel
    have e2 : PySem.dunderR (Operator.BitAnd).info.2 = "__rand__" := by decide +kernel
    refine ⟨sfC, by rw [e1]; exact cgA, igA, by rw [e2]; exact rrA, ?_⟩
    rw [e1, e2]
    simp only [List.forall_mem_cons]
    exact ⟨⟨⟨_, hfoANoneType⟩, ⟨_, hroANoneType⟩, uNoneType⟩, ⟨⟨_, hfoAbool⟩, ⟨_, hroAbool⟩, ubool⟩, ⟨⟨_, hfoAint⟩, ⟨_, hroAint⟩, uint⟩, ⟨⟨_, hfoAstr⟩, ⟨_, hroAstr⟩, ustr⟩, ⟨⟨_, hfoAlist⟩, ⟨_, hroAlist⟩, ulist⟩, ⟨⟨_, hfoAtuple⟩, ⟨_, hroAtuple⟩, utuple⟩, ⟨⟨_, hfoAdict⟩, ⟨_, hroAdict⟩, udict⟩, fun _ z => nomatch z⟩
  have bL : ∀ (s : Shared) (u : Value), BindsTo s d17 ⟨[u], []⟩ [("_law_script", u)] := by
    obtain ⟨oc, od, kV, doc, pm, an, cdv, ct, osl, rfl, lk, hcd⟩ := F17.ex
    exact fun s u => .of_eq rfl
  have bIk : ∀ (s : Shared) (u v : Value), PySem.BindsTo s dI ⟨[u], [("other", v)]⟩ ([("self" : Str), "other"].zip [u, v]) := by
    obtain ⟨oc, od, kV, doc, pm, an, cdv, ct, osl, rfl, lk, hcd⟩ := FgI.ex
    exact fun s u v => .of_eq rfl
  have bB : Binds K dB ["self"] [] := (FgB.binds fun _ _ _ _ _ _ us hl => match us, hl with | [_], _ => rfl)
  have bI : Binds K dI ["self", "other"] [] := (FgI.binds fun _ _ _ _ _ _ us hl => match us, hl with | [_, _], _ => rfl)
  have bO : Binds K dO ["self", "other"] [] := (FgO.binds fun _ _ _ _ _ _ us hl => match us, hl with | [_, _], _ => rfl)
  have bA : Binds K dA ["self", "other"] [] := (FgA.binds fun _ _ _ _ _ _ us hl => match us, hl with | [_, _], _ => rfl)
  have S : SEnv K mg f4 f5 f6 f7 f8 f9 f15 f14 f13 d4 d5 d6 d7 d8 d9 d15 d14 d13 := ⟨B, A4, A5, A6, A7, A8, A9, A15, A14, A13⟩
  refine ⟨d17, [(cA, PA), (cB, PB)], [(PA, "_law_alone_right.<locals>.<lambda>"), (PB, "_law_all_below.<locals>.<lambda>")], ⟨?_, ?_, ?_⟩, ?_, bL, fun base XB GB TB => ?_⟩
  · simp only [List.forall_mem_cons]
    exact ⟨tgA, tgB, fun _ z => nomatch z⟩
  · simp only [List.forall_mem_cons]
    exact ⟨tnA, tnB, fun _ z => nomatch z⟩
  · simp only [List.forall_mem_cons]
    exact ⟨PySem.W.codeHd_of_K X tbA, PySem.W.codeHd_of_K X tbB, fun _ z => nomatch z⟩
  · simp only [List.forall_mem_cons]
    exact ⟨List.mem_cons_self, List.mem_cons_of_mem _ List.mem_cons_self, fun _ z => nomatch z⟩
  have TA : TabB base mg cA PA := TB _ List.mem_cons_self
  have TBB : TabB base mg cB PB := TB _ (List.mem_cons_of_mem _ List.mem_cons_self)
  have huA : ∀ p ∈ [(PA, ("_law_alone_right.<locals>.<lambda>" : Str)), (PB, "_law_all_below.<locals>.<lambda>")], p.1 = PA → p.2 = "_law_alone_right.<locals>.<lambda>" := by
    intro p hp e
    rcases List.mem_cons.mp hp with rfl | hp
    · rfl
    · rw [List.mem_singleton.mp hp] at e
      exact absurd e.symm nAB
  have huB : ∀ p ∈ [(PA, ("_law_alone_right.<locals>.<lambda>" : Str)), (PB, "_law_all_below.<locals>.<lambda>")], p.1 = PB → p.2 = "_law_all_below.<locals>.<lambda>" := by
    intro p hp e
    rcases List.mem_cons.mp hp with rfl | hp
    · exact absurd e nAB
    · rw [List.mem_singleton.mp hp]
  have GIn := ok_init (P := P) (w := w) (base := base) LC Z (PySem.W.mg_none_of X G ztuple) (PySem.W.mg_none_of X G zset) (PySem.W.mg_none_of X G zsorted) (PySem.W.mg_of X G mM) (PySem.W.mg_of X G mL) A0
  have GBe : FnOk P w K mg base (L2.CX P w) 4 gI dI ["self", "other"] (spBelow K C CE) := ok_below FgI A1 ITt LM Z
  have GOr : FnR P w K mg base (L2.CX P w) 5 gO (fun vs H Q E => spTwo (· ++ ·) K C CE CM (vs ++ []) H Q E) := (ok_or FgO A1 ITt LM Z LC GIn).raw bO .nil
  have GAn : FnR P w K mg base (L2.CX P w) 5 gA (fun vs H Q E => spTwo (fun xs ys => xs.filter fun x => decide (x ∈ ys)) K C CE CM (vs ++ []) H Q E) := (ok_and FgA A1 ITt LM Z LC GIn).raw bA .nil
  have GGen : GfX.GFo P w K mg base 6 gB dB ["self"] (spBelowG C) := ok_belowG FgB A2 LM Z (PySem.W.mg_none_of X G ztuple) (PySem.W.mg_none_of X G zsorted) LC GIn
  have GAB := ok_allb (P := P) (w := w) (base := base) F10 hcB TBB (List.mem_cons_of_mem _ List.mem_cons_self) huB (PySem.W.mg_none_of X G zsorted) (PySem.W.mg_none_of X G zlen)
  have GJ : FnOk P w K mg base CX0 6 f11 d11 ["_law_one", "_law_mate"] (spJoined C) := ok_joined F11 FgO bO OB A1 ITt LM Z LC GIn ⟨mhg, mhk, mxC, mhd⟩ (exm_to mxC miC mtC msC) mm1 mm2
  have GMd : FnOk P w K mg base (L2.CX P w) 5 f9 d9 ["_law_marks"] (spMade C) := ok_made F9 LC Z GIn
  have GPr := ok_pair F13 LM Z (PySem.W.mg_none_of X G ztuple) (PySem.W.mg_none_of X G zsorted) (PySem.W.mg_none_of X G zset) GBe ⟨cgI, igI, kgI⟩ bI bIk GAn OA GJ A11
  have GAl := ok_alone F14 hcA TA List.mem_cons_self huA LM Z (PySem.W.mg_none_of X G ztuple) (PySem.W.mg_none_of X G zsorted) GGen ⟨cgB, igB, kgB⟩ bB GBe ⟨cgI, igI, kgI⟩ bI GOr OB GAn OA GAB A10 A12 ⟨ehg, ehk, exC, ehd⟩ (exm_to exC eiC etC esC) em1 (PySem.W.mg_of X G eaC)
  have GRt := ok_right F16 S LM (PySem.W.mg_none_of X G zlist) (PySem.W.mg_none_of X G ztuple) (PySem.W.mg_none_of X G zsorted) kI GMd GAl GPr
  exact ok_law F17 B A3 A16 GRt
end K13
open PySem PySem.W PyProof.Rows in
set_option maxRecDepth 100000 in
set_option maxHeartbeats 0 in
theorem PySem.Challenge.cw_aboveless_k13_whole_below_joined_and_met_holds : PySem.Challenge.rw_aboveless_k13_whole_below_joined_and_met.Holds := by
  w_on; o_law; k_head; (case hw => w_witness2)
  k_fill
  refine K13.walk (l := PySem.Challenge.rw_aboveless_k13_whole_below_joined_and_met) rfl rfl (fun w h Y => PySem.W.km_in_of Y) ?F
  case F =>
    intro w mg fa h Y KX G hmg hbm
    have hT := PySem.W.km_tabs_of Y
    refine' K13.all_mk KX G hmg hbm ?a0 ?F0 ?a1 ?F1 ?a2 ?F2 ?a3 ?F3 ?a4 ?F4 ?a5 ?F5 ?a6 ?F6 ?a7 ?F7 ?a8 ?F8 ?a9 ?F9 ?a10 ?F10 ?a11 ?F11 ?a12 ?F12 ?a13 ?F13 ?a14 ?F14 ?a15 ?F15 ?a16 ?F16 ?a17 ?F17 ?zlen ?zabs ?zmax ?zmin ?zint ?zdivmod ?zrange ?zall ?zisinstance ?zstr ?zbool ?zrepr ?ztuple ?zset ?zsorted ?zlist ?mM ?mL ?cC ?cmk ?cin ?cfn ?ckp ?cpg ?chd ?cpo ?csa ?crd ?cga ?cmo ?cn1 ?cn2 ?cic ?cty ?FL ?cgE ?igE ?FgE ?cgL ?igL ?FgL ?cgS ?igS ?FgS ?cgR ?igR ?FgR ?cgH ?igH ?FgH ?cgB ?igB ?FgB ?kgB ?cgI ?igI ?FgI ?kgI ?cgO ?igO ?FgO ?cgA ?igA ?FgA ?sfC ?rrO ?rrA ?hfoONoneType ?hfoObool ?hfoOint ?hfoOstr ?hfoOlist ?hfoOtuple ?hfoOdict ?hroONoneType ?hroObool ?hroOint ?hroOstr ?hroOlist ?hroOtuple ?hroOdict ?hfoANoneType ?hfoAbool ?hfoAint ?hfoAstr ?hfoAlist ?hfoAtuple ?hfoAdict ?hroANoneType ?hroAbool ?hroAint ?hroAstr ?hroAlist ?hroAtuple ?hroAdict ?cne ?cob ?sNoneType ?uNoneType ?sbool ?ubool ?sint ?uint ?sstr ?ustr ?slist ?ulist ?stuple ?utuple ?sdict ?udict ?cpM ?pg ?pt ?pr ?cha ?hn ?ht ?chm ?FgM ?naC ?nlC ?nbC ?nsa ?nxC ?ntC ?nkC ?nhg ?nhk ?nhd ?niC ?nsC ?ninC ?ntI ?nm1 ?nm2 ?nFI ?eaC ?elC ?ebC ?esa ?exC ?etC ?ekC ?ehg ?ehk ?ehd ?eiC ?esC ?einC ?etI ?em1 ?em2 ?eFI ?maC ?mei ?meo ?msa ?mxC ?mtC ?mkC ?mhg ?mhk ?mhd ?miC ?msC ?minC ?mtI ?mm1 ?mm2 ?mm3 ?mFI ?hcA ?lkA ?tvA ?tbA ?tnA ?tgA ?hcB ?lkB ?tvB ?tbB ?tnB ?tgB ?nAB
    (case a0 => k_is)
    (case F0 => refine' L2.fun_mk ?l ?c ?k; (case l => k_is); (case c => k_is); (case k => k_is))
    (case a1 => k_is)
    (case F1 => refine' L2.fun_mk ?l ?c ?k; (case l => k_is); (case c => k_is); (case k => k_is))
    (case a2 => k_is)
    (case F2 => refine' L2.fun_mk ?l ?c ?k; (case l => k_is); (case c => k_is); (case k => k_is))
    (case a3 => k_is)
    (case F3 => refine' L2.fun_mk ?l ?c ?k; (case l => k_is); (case c => k_is); (case k => k_is))
    (case a4 => k_is)
    (case F4 => refine' L2.fun_mk ?l ?c ?k; (case l => k_is); (case c => k_is); (case k => k_is))
    (case a5 => k_is)
    (case F5 => refine' L2.fun_mk ?l ?c ?k; (case l => k_is); (case c => k_is); (case k => k_is))
    (case a6 => k_is)
    (case F6 => refine' L2.fun_mk ?l ?c ?k; (case l => k_is); (case c => k_is); (case k => k_is))
    (case a7 => k_is)
    (case F7 => refine' L2.fun_mk ?l ?c ?k; (case l => k_is); (case c => k_is); (case k => k_is))
    (case a8 => k_is)
    (case F8 => refine' L2.fun_mk ?l ?c ?k; (case l => k_is); (case c => k_is); (case k => k_is))
    (case a9 => k_is)
    (case F9 => refine' L2.fun_mk ?l ?c ?k; (case l => k_is); (case c => k_is); (case k => k_is))
    (case a10 => k_is)
    (case F10 => refine' L2.fun_mk ?l ?c ?k; (case l => k_is); (case c => k_is); (case k => k_is))
    (case a11 => k_is)
    (case F11 => refine' L2.fun_mk ?l ?c ?k; (case l => k_is); (case c => k_is); (case k => k_is))
    (case a12 => k_is)
    (case F12 => refine' L2.fun_mk ?l ?c ?k; (case l => k_is); (case c => k_is); (case k => k_is))
    (case a13 => k_is)
    (case F13 => refine' L2.fun_mk ?l ?c ?k; (case l => k_is); (case c => k_is); (case k => k_is))
    (case a14 => k_is)
    (case F14 => refine' L2.fun_mk ?l ?c ?k; (case l => k_is); (case c => k_is); (case k => k_is))
    (case a15 => k_is)
    (case F15 => refine' L2.fun_mk ?l ?c ?k; (case l => k_is); (case c => k_is); (case k => k_is))
    (case a16 => k_is)
    (case F16 => refine' L2.fun_mk ?l ?c ?k; (case l => k_is); (case c => k_is); (case k => k_is))
    (case a17 => k_is)
    (case F17 => refine' L2.fun_mk ?l ?c ?k; (case l => k_is); (case c => k_is); (case k => k_is))
    (case zlen => k_is)
    (case zabs => k_is)
    (case zmax => k_is)
    (case zmin => k_is)
    (case zint => k_is)
    (case zdivmod => k_is)
    (case zrange => k_is)
    (case zall => k_is)
    (case zisinstance => k_is)
    (case zstr => k_is)
    (case zbool => k_is)
    (case zrepr => k_is)
    (case ztuple => k_is)
    (case zset => k_is)
    (case zsorted => k_is)
    (case zlist => k_is)
    (case mM => k_is)
    (case mL => k_is)
    (case cC => k_is)
    (case cmk => k_is)
    (case cin => k_is)
    (case cfn => k_is)
    (case ckp => k_is)
    (case cpg => k_is)
    (case chd => k_is)
    (case cpo => k_is)
    (case csa => k_is)
    (case crd => k_is)
    (case cga => k_is)
    (case cmo => k_is)
    (case cn1 => k_is)
    (case cn2 => k_is)
    (case cic => k_is)
    (case cty => k_is)
    (case FL => refine' L2.fun_mk ?l ?c ?k; (case l => k_is); (case c => k_is); (case k => k_is))
    (case cgE => k_is)
    (case igE => k_is)
    (case FgE => refine' L2.fun_mk ?l ?c ?k; (case l => k_is); (case c => k_is); (case k => k_is))
    (case cgL => k_is)
    (case igL => k_is)
    (case FgL => refine' L2.fun_mk ?l ?c ?k; (case l => k_is); (case c => k_is); (case k => k_is))
    (case cgS => k_is)
    (case igS => k_is)
    (case FgS => refine' L2.fun_mk ?l ?c ?k; (case l => k_is); (case c => k_is); (case k => k_is))
    (case cgR => k_is)
    (case igR => k_is)
    (case FgR => refine' L2.fun_mk ?l ?c ?k; (case l => k_is); (case c => k_is); (case k => k_is))
    (case cgH => k_is)
    (case igH => k_is)
    (case FgH => refine' L2.fun_mk ?l ?c ?k; (case l => k_is); (case c => k_is); (case k => k_is))
    (case cgB => k_is)
    (case igB => k_is)
    (case FgB => refine' L2.fun_mk ?l ?c ?k; (case l => k_is); (case c => k_is); (case k => k_is))
    (case kgB => k_is)
    (case cgI => k_is)
    (case igI => k_is)
    (case FgI => refine' L2.fun_mk ?l ?c ?k; (case l => k_is); (case c => k_is); (case k => k_is))
    (case kgI => k_is)
    (case cgO => k_is)
    (case igO => k_is)
    (case FgO => refine' L2.fun_mk ?l ?c ?k; (case l => k_is); (case c => k_is); (case k => k_is))
    (case cgA => k_is)
    (case igA => k_is)
    (case FgA => refine' L2.fun_mk ?l ?c ?k; (case l => k_is); (case c => k_is); (case k => k_is))
    (case sfC => k_is)
    (case rrO => k_is)
    (case rrA => k_is)
    (case hfoONoneType => k_is)
    (case hfoObool => k_is)
    (case hfoOint => k_is)
    (case hfoOstr => k_is)
    (case hfoOlist => k_is)
    (case hfoOtuple => k_is)
    (case hfoOdict => k_is)
    (case hroONoneType => k_is)
    (case hroObool => k_is)
    (case hroOint => k_is)
    (case hroOstr => k_is)
    (case hroOlist => k_is)
    (case hroOtuple => k_is)
    (case hroOdict => k_is)
    (case hfoANoneType => k_is)
    (case hfoAbool => k_is)
    (case hfoAint => k_is)
    (case hfoAstr => k_is)
    (case hfoAlist => k_is)
    (case hfoAtuple => k_is)
    (case hfoAdict => k_is)
    (case hroANoneType => k_is)
    (case hroAbool => k_is)
    (case hroAint => k_is)
    (case hroAstr => k_is)
    (case hroAlist => k_is)
    (case hroAtuple => k_is)
    (case hroAdict => k_is)
    (case cne => k_is)
    (case cob => k_is)
    (case sNoneType => k_is)
    (case uNoneType => k_is)
    (case sbool => k_is)
    (case ubool => k_is)
    (case sint => k_is)
    (case uint => k_is)
    (case sstr => k_is)
    (case ustr => k_is)
    (case slist => k_is)
    (case ulist => k_is)
    (case stuple => k_is)
    (case utuple => k_is)
    (case sdict => k_is)
    (case udict => k_is)
    (case cpM => k_is)
    (case pg => k_is)
    (case pt => k_is)
    (case pr => k_is)
    (case cha => k_is)
    (case hn => k_is)
    (case ht => k_is)
    (case chm => k_is)
    (case FgM => refine' L2.fun_mk ?l ?c ?k; (case l => k_is); (case c => k_is); (case k => k_is))
    (case naC => k_is)
    (case nlC => k_is)
    (case nbC => decide +kernel)
    (case nsa => k_is)
    (case nxC => k_is)
    (case ntC => k_is)
    (case nkC => k_is)
    (case nhg => k_is)
    (case nhk => k_is)
    (case nhd => k_is)
    (case niC => k_is)
    (case nsC => first | k_is | rfl)
    (case ninC => k_is)
    (case ntI => k_is)
    (case nm1 => k_is)
    (case nm2 => k_is)
    (case nFI => refine' L2.fun_mk ?l ?c ?k; (case l => k_is); (case c => k_is); (case k => k_is))
    (case eaC => k_is)
    (case elC => k_is)
    (case ebC => decide +kernel)
    (case esa => k_is)
    (case exC => k_is)
    (case etC => k_is)
    (case ekC => k_is)
    (case ehg => k_is)
    (case ehk => k_is)
    (case ehd => k_is)
    (case eiC => k_is)
    (case esC => first | k_is | rfl)
    (case einC => k_is)
    (case etI => k_is)
    (case em1 => k_is)
    (case em2 => k_is)
    (case eFI => refine' L2.fun_mk ?l ?c ?k; (case l => k_is); (case c => k_is); (case k => k_is))
    (case maC => k_is)
    (case mei => kx_is)
    (case meo => kx_is)
    (case msa => k_is)
    (case mxC => k_is)
    (case mtC => k_is)
    (case mkC => k_is)
    (case mhg => k_is)
    (case mhk => k_is)
    (case mhd => k_is)
    (case miC => k_is)
    (case msC => first | k_is | rfl)
    (case minC => k_is)
    (case mtI => k_is)
    (case mm1 => k_is)
    (case mm2 => k_is)
    (case mm3 => k_is)
    (case mFI => refine' L2.fun_mk ?l ?c ?k; (case l => k_is); (case c => k_is); (case k => k_is))
    (case hcA => rfl)
    (case lkA => k_is)
    (case tvA => rfl)
    (case tbA => kernel_rfl)
    (case tnA => kernel_rfl)
    (case tgA => exact hT _ (by simp))
    (case hcB => rfl)
    (case lkB => k_is)
    (case tvB => rfl)
    (case tbB => kernel_rfl)
    (case tnB => kernel_rfl)
    (case tgB => exact hT _ (by simp))
    (case nAB => decide)
