import PyProof.Rows.All
import Wide.All
import OpenK.AllK
import Wide.FinOn
import HandS.Base
import HandS.Call
import HandS.Exc
import HandS.Words
import HandS.Defaults
import HandS.HeadHook1
import HandS.Head0
import HandS.Head1
import HandS.Head2
import KE.KSuper
import HandS.WordsExc
import KE.KExcInit
import PyProof.NeKinds
import PyProof.EqKinds
import PyProof.InstNe
import HandS.IsInst
import HandS.SlotsOwn
import HandS.Star
import KE.KCallOwn
import KE.KOpsOwn
import HandS.ClsMeth
import HandS.ExcOwn
import PyProof.Rows.ReprOcc
import PyProof.ReprRoads
import HandS.Dict
import HandS.List
import HandS.Conv
import KE.KTypeName
import HandS.ExcField
import HandS.ExcIs
import HandS.ExcValue
import HandS.ExcInit
import HandS.Codes
import HandS.HotCalls
import HandS.ForMost
import HandS.ForExc
import HandS.StrMore
import HandS.WideBits
import HandS.Zip
import HandS.Style
import HandS.Flow
import HandS.WrittenGet
import HandS.Steps
import HandS.Walk
import HandS.Text
import HandS.FStr
import HandS.RaiseMore
import KE.KxStill
import KE.KStrOpen
import HandS.TupAny
import HandS.TryMany
import KE.KTryMore
import KE.KSortKey
import KE.KSortKeySt
import HandS.SortKw
import KE.KSortTup
import KE.KSortTupAny
import PyProof.EqAt
import HandS.TupLe
import HandS.Keys
import KE.KItemsList
import KE.KDictList
import HandS.Iter
import HandS.Set
import HandS.SetFor
import PyProof.Rows.StrMeet
import PyProof.Rows.SortStr
import PyProof.StrLawsChain
import HandS.Property
import HandS.Lambda
import HandS.EndTab
import HandS.HeadEnd
import PySem.Challenge.RW_aboveless_k18_errors_and_sequences
set_option Elab.async false
set_option linter.all false
set_option maxRecDepth 100000
set_option maxHeartbeats 4000000
/-! The head's facts as tests of a part of the heap (HandS.Head2's run gives them), for ends as large as one likes. -/
namespace Hx
open PySem PySem.Spec PyProof.Rows L2
abbrev Fr : Type := PySem.W.Frag
def tokOf : Value → Tok
  | .int _ t => t
  | .str _ t => t
  | .float _ t => t
  | .bytes _ t => t
  | _ => default
def rf : Value → Addr
  | .ref a => a
  | _ => 0
/-- a name's value, a class's value -/
def gv (K : Fr) (x : Str) : Value := match PySem.W.nsIn K mainGlobals x with
  | some (some v) => v
  | _ => .none
def cv (K : Fr) (C : Addr) (x : Str) : Value := match PySem.W.findCls K (.ref C) (.type "type") x with
  | some (.val v) => v
  | _ => .none
def cvB (K : Fr) (C : Addr) (x : Str) (v : Value) : Bool := match PySem.W.findCls K (.ref C) (.type "type") x with
  | some (.val u) => decide (u = v)
  | _ => false
theorem cvB_ok {K : Fr} {C : Addr} {x : Str} {v : Value} (h : cvB K C x v = true) : PySem.W.findCls K (.ref C) (.type "type") x = some (.val v) := by
  unfold cvB at h
  split at h
  · rename_i u e
    rw [e, of_decide_eq_true h]
  · cases h
/-! ### tuples -/
def tupW (K : Fr) (a : Addr) : Option (List Value) := match K.lookup a with
  | some ⟨.type c, _, .seq its _, _⟩ => (match decide (c = "tuple") with
    | true => some its.toList
    | false => none)
  | _ => none
theorem tupW_ok {K : Fr} {a : Addr} {vs : List Value} (h : tupW K a = some vs) : ∃ o n s, K.lookup a = some ⟨.type "tuple", o, .seq vs.toArray n, s⟩ := by
  unfold tupW at h
  split at h
  · rename_i c o its n s e
    cases z : decide (c = "tuple") with
    | false =>
      rw [z] at h
      cases h
    | true =>
      rw [z] at h
      obtain rfl := Option.some.inj h
      obtain rfl := of_decide_eq_true z
      exact ⟨o, n, s, by rw [e]⟩
  · cases h
def sv (K : Fr) (a : Addr) (i : Nat) : Value := match tupW K a with
  | some vs => vs.getD i .none
  | none => .none
/-! ### dicts -/
def dicV (K : Fr) (a : Addr) : Option (List DictEntry) := match K.lookup a with
  | some ⟨.type c, none, .dict es _, sl⟩ => (match decide (c = "dict") && sl.isEmpty with
    | true => some es.toList
    | false => none)
  | _ => none
def dicW (K : Fr) (a : Addr) : Option (List (Value × Value)) := (dicV K a).map fun es => es.map fun e => (e.key, e.val)
def dicH (K : Fr) (a : Addr) : Option (List Int) := (dicV K a).map fun es => es.map (·.hash)
def ent : List Int → List (Value × Value) → List DictEntry
  | g :: gs, q :: qs => ⟨g, q.1, q.2⟩ :: ent gs qs
  | _, _ => []
theorem ent_ok : ∀ es : List DictEntry, ent (es.map (·.hash)) (es.map fun e => (e.key, e.val)) = es
  | [] => rfl
  | e :: r => by
    show (⟨e.hash, e.key, e.val⟩ : DictEntry) :: ent (r.map (·.hash)) (r.map fun e => (e.key, e.val)) = e :: r
    rw [ent_ok r]
theorem dicW_ok {K : Fr} {a : Addr} {kvs : List (Value × Value)} {hs : List Int} (h : dicW K a = some kvs) (hh : dicH K a = some hs) : ∃ n, K.lookup a = some ⟨.type "dict", none, .dict (ent hs kvs).toArray n, #[]⟩ := by
  unfold dicW at h
  unfold dicH at hh
  cases z : dicV K a with
  | none =>
    rw [z] at h
    cases h
  | some es =>
    rw [z] at h hh
    obtain rfl := Option.some.inj h
    obtain rfl := Option.some.inj hh
    rw [ent_ok]
    unfold dicV at z
    split at z
    · rename_i c es' n sl e
      cases y : decide (c = "dict") && sl.isEmpty with
      | false =>
        rw [y] at z
        cases z
      | true =>
        rw [y] at z
        obtain rfl := Option.some.inj z
        obtain ⟨y1, y2⟩ := He.ba y
        obtain rfl := of_decide_eq_true y1
        obtain rfl : sl = #[] := Array.isEmpty_iff.mp y2
        exact ⟨n, by rw [e]⟩
    · cases z
def dk (K : Fr) (a : Addr) (i : Nat) : Value := match dicW K a with
  | some kvs => (kvs.getD i (.none, .none)).1
  | none => .none
def dv (K : Fr) (a : Addr) (i : Nat) : Value := match dicW K a with
  | some kvs => (kvs.getD i (.none, .none)).2
  | none => .none
/-! ### an exception's class -/
def exW (K : Fr) (a : Addr) : Bool := match K.lookup a with
  | some ⟨.type c, _, .cls ⟨_, _, .ref b :: bm, _, _, hd, _, _, _, _, dl⟩, ⟨[_, _, _, _, some (.builtin n), _]⟩⟩ =>
    decide (c = "type") && (decide (b = a) && (hd && (!dl && (decide (n = "ValueError.__new__") && PySem.HandSPX.refsVE bm))))
  | _ => false
theorem exW_ok {K : Fr} {a : Addr} (h : exW K a = true) : ∃ nm q N bs bm sn sub ab col dd k0 k1 k2 k3 k5, K.lookup a = some (PySem.excClassObj nm q a N bs bm true sn sub ab col dd k0 k1 k2 k3 k5 "ValueError.__new__") ∧ PySem.HandSPX.refsVE bm = true := by
  unfold exW at h
  split at h
  · rename_i c dd nm bs b bm N q hd sn sub ab col dl k0 k1 k2 k3 n k5 e
    obtain ⟨h1, h⟩ := He.ba h
    obtain ⟨h2, h⟩ := He.ba h
    obtain ⟨h3, h⟩ := He.ba h
    obtain ⟨h4, h⟩ := He.ba h
    obtain ⟨h5, h6⟩ := He.ba h
    obtain rfl := of_decide_eq_true h1
    obtain rfl := of_decide_eq_true h2
    obtain rfl := of_decide_eq_true h5
    cases hd with
    | false => cases h3
    | true =>
      cases dl with
      | true => cases h4
      | false => exact ⟨_, _, _, _, _, _, _, _, _, _, _, _, _, _, _, e, h6⟩
  · cases h
/-! ### a property's getter -/
def pg (K : Fr) (p : Addr) : Addr := match PySem.W.recIn K p "property" with
  | some (.ref a :: _) => a
  | _ => 0
def pgB (K : Fr) (p : Addr) : Bool := match PySem.W.recIn K p "property" with
  | some (.ref _ :: _) => true
  | _ => false
theorem pgB_ok {K : Fr} {p : Addr} (h : pgB K p = true) : ∃ rest, PySem.W.recIn K p "property" = some (.ref (pg K p) :: rest) := by
  unfold pgB at h
  split at h
  · rename_i a r e
    refine ⟨r, ?_⟩
    unfold pg
    rw [e]
  · cases h
/-! ### functions -/
def fnO (K : Fr) (a : Addr) : He.FnV := match K.lookup a with
  | some ⟨_, _, .func fd, _⟩ => some (fd.name, fd.qualname, fd.params, fd.body, fd.scope, fd.globals, fd.closure, fd.defaults, fd.builtins)
  | _ => none
def codeB (K : Fr) (a : Addr) (q : Str) : Bool := match K.lookup a with
  | some ⟨_, _, .func fd, _⟩ => PySem.W.codeIn K fd.code q
  | _ => false
theorem fun_of {K : Fr} {a : Addr} {x q : Str} {st : Stmt} (e : fnO K a = some (x, q, defArgs st, .stmts (defBody st), defScope st, mainGlobals, [], .none, builtinsNs)) (c : codeB K a q = true) (k : PySem.W.keepIn K (.ref a) = true) :
    ∃ fd : FuncData, L2.Fun K x q st a fd := by
  unfold codeB at c
  unfold fnO at e
  cases z : K.lookup a with
  | none =>
    rw [z] at c
    cases c
  | some o =>
    obtain ⟨oc, od, dt, osl⟩ := o
    rw [z] at c e
    cases dt with
    | func fd =>
      obtain ⟨n1, n2, n3, n4, n5, n6, n7, n8, n9, n10, n11, n12, n13, n14, n15⟩ := fd
      have e2 : (some (n1, n2, n3, n4, n5, n6, n7, n8, n15) : He.FnV) = some (x, q, defArgs st, .stmts (defBody st), defScope st, mainGlobals, [], .none, builtinsNs) := e
      simp only [Option.some.injEq, Prod.mk.injEq] at e2
      obtain ⟨h1, h2, h3, h4, h5, h6, h7, h8, h9⟩ := e2
      subst h1 h2 h3 h4 h5 h6 h7 h8 h9
      exact ⟨_, L2.fun_mk z c k⟩
    | _ => cases c
/-! ### the Hook -/
/-- one def: where it stands, its names, its row -/
structure Fd where
  at_ : Fr → Addr
  name : Str
  qual : Str
  st : Stmt
def Fd.val (d : Fd) : He.FnV := some (d.name, d.qual, defArgs d.st, .stmts (defBody d.st), defScope d.st, mainGlobals, [], .none, builtinsNs)
def Fd.ok (K : Fr) (d : Fd) : Bool := codeB K (d.at_ K) d.qual && PySem.W.keepIn K (.ref (d.at_ K))
abbrev Tab : Type := (Fr → Addr) × List Str
abbrev Al : Type := Bool × List He.FnV × List (Option (List Int))
def obsX (ck : List (List (Fr → Bool))) (fn : List Fd) (ts : List Tab) (K : Fr) : Al :=
  ((ck.all fun l => l.all fun c => c K) && fn.all fun d => d.ok K, fn.map fun d => fnO K (d.at_ K), ts.map fun t => dicH K (t.1 K))
def valX (fn : List Fd) (ts : List Tab) (w : World) : Al := (true, fn.map Fd.val, ts.map fun t => some (t.2.map (PyData.keyHash w.params)))
def Says (ck : List (List (Fr → Bool))) (fn : List Fd) (ts : List Tab) (w : World) (K : Fr) : Prop := obsX ck fn ts K = valX fn ts w
def fragG (as : List Addr) (g : Addr → Option Obj) : Fr := He.frG g as
def obsG (as : List Addr) (ck : List (List (Fr → Bool))) (fn : List Fd) (ts : List Tab) (g : Addr → Option Obj) : Al := obsX ck fn ts (fragG as g)
def hook (as : List Addr) (ck : List (List (Fr → Bool))) (fn : List Fd) (ts : List Tab) : PySem.W.Hook where
  α := Al
  obs := fun s => obsG as ck fn ts s.heap.get?
  val := fun w => valX fn ts w
  says := fun w h => ∃ K : Fr, K.In h ∧ Says ck fn ts w K
  of := fun _ _ e => ⟨_, He.frG_in, e⟩
  keeps := fun _ _ _ ⟨K, hK, c⟩ k => ⟨K, PySem.W.Frag.In.keeps hK k, c⟩
theorem obsG_eq {as : List Addr} {ck : List (List (Fr → Bool))} {fn : List Fd} {ts : List Tab} {g : Addr → Option Obj} {s : Shared} (h : ∀ a, g a = s.heap.get? a) : obsG as ck fn ts g = (hook as ck fn ts).obs s := by
  have e : g = s.heap.get? := funext h
  rw [e] <;> rfl
section
variable {ck : List (List (Fr → Bool))} {fn : List Fd} {ts : List Tab} {w : World} {K : Fr}
theorem Says.test (c : Says ck fn ts w K) (j i : Nat) {l : List (Fr → Bool)} {b : Fr → Bool} (h : ck[j]? = some l) (hi : l[i]? = some b) : b K = true := by
  have c1 := (He.ba (show ((ck.all fun l => l.all fun c => c K) && fn.all fun d => d.ok K) = true from congrArg (fun z : Al => z.1) c)).1
  exact List.all_eq_true.mp (List.all_eq_true.mp c1 l (List.mem_of_getElem? h)) b (List.mem_of_getElem? hi)
theorem Says.defn (c : Says ck fn ts w K) (i : Nat) {d : Fd} (h : fn[i]? = some d) : ∃ fd : FuncData, L2.Fun K d.name d.qual d.st (d.at_ K) fd := by
  have c2 := (He.ba (show ((ck.all fun l => l.all fun c => c K) && fn.all fun d => d.ok K) = true from congrArg (fun z : Al => z.1) c)).2
  have e : fn.map (fun d => fnO K (d.at_ K)) = fn.map Fd.val := congrArg (fun z : Al => z.2.1) c
  have e2 : (fn.map fun d => fnO K (d.at_ K))[i]? = (fn.map Fd.val)[i]? := by rw [e]
  rw [List.getElem?_map, List.getElem?_map, h] at e2
  obtain ⟨k1, k2⟩ := He.ba (List.all_eq_true.mp c2 d (List.mem_of_getElem? h))
  exact fun_of (Option.some.inj e2) k1 k2
theorem Says.tab (c : Says ck fn ts w K) (i : Nat) {t : Tab} (h : ts[i]? = some t) : dicH K (t.1 K) = some (t.2.map (PyData.keyHash w.params)) := by
  have e : ts.map (fun t => dicH K (t.1 K)) = ts.map fun t => some (t.2.map (PyData.keyHash w.params)) := congrArg (fun z : Al => z.2.2) c
  have e2 : (ts.map fun t => dicH K (t.1 K))[i]? = (ts.map fun t => some (t.2.map (PyData.keyHash w.params)))[i]? := by rw [e]
  rw [List.getElem?_map, List.getElem?_map, h] at e2
  exact Option.some.inj e2
end
/-! ### the run in parts -/
open HandSHeadRun in
theorem run_parts {r : PySem.W.OpenRow} {q : Program} {as : List Addr} {ckA ckB ckC : List (List (Fr → Bool))} {fn : List Fd} {ts : List Tab} {M : Nat} {loose : List Str} {w : World}
    (h0 : ∀ os : OsState, (endF (stepQ (denQ tabQ) r.prog w) M r.prog w os).map (fun s => (looksF r.prog (PySem.W.boot_heap w.params) s.abs, seenQ q loose (importedModules r.prog.main.body) (fun s => PySem.W.xlAt q [] s && PySem.W.recOk r.toRowW.records s) s.abs)) = some (true, PySem.W.openGood q loose))
    (h1 : ∀ os : OsState, (endF (stepQ (denQ tabQ) r.prog w) M r.prog w os).map (fun s => ckA.all fun l => l.all fun c => c (fragG as (getT s))) = some true)
    (h2 : ∀ os : OsState, (endF (stepQ (denQ tabQ) r.prog w) M r.prog w os).map (fun s => ckB.all fun l => l.all fun c => c (fragG as (getT s))) = some true)
    (h3 : ∀ os : OsState, (endF (stepQ (denQ tabQ) r.prog w) M r.prog w os).map (fun s => obsX ckC fn ts (fragG as (getT s))) = some (valX fn ts w)) :
    RunEq r q (hook as (ckA ++ ckB ++ ckC) fn ts) (fun s => obsG as (ckA ++ ckB ++ ckC) fn ts (getT s)) M loose w := by
  intro os
  have e0 := h0 os
  have e1 := h1 os
  have e2 := h2 os
  have e3 := h3 os
  obtain ⟨s, es, v0⟩ := Option.map_eq_some_iff.mp e0
  rw [es] at e1 e2 e3 ⊢
  have v1 : (ckA.all fun l => l.all fun c => c (fragG as (getT s))) = true := Option.some.inj e1
  have v2 : (ckB.all fun l => l.all fun c => c (fragG as (getT s))) = true := Option.some.inj e2
  have v3 : obsX ckC fn ts (fragG as (getT s)) = valX fn ts w := Option.some.inj e3
  obtain ⟨va, vb⟩ := Prod.mk.inj v0
  have w3 : obsX (ckA ++ ckB ++ ckC) fn ts (fragG as (getT s)) = valX fn ts w := by
    rw [← v3]
    unfold obsX
    rw [List.all_append, List.all_append]
    refine Prod.ext ?_ rfl
    show (((ckA.all fun l => l.all fun c => c (fragG as (getT s))) && (ckB.all fun l => l.all fun c => c (fragG as (getT s)))) && _ && _) = _
    rw [v1, v2]
    rfl
  show some (_, _, obsX (ckA ++ ckB ++ ckC) fn ts (fragG as (getT s))) = some (true, PySem.W.openGood q loose, valX fn ts w)
  rw [va, vb, w3]
end Hx
/-! a method whose first row is super().m(e, ..), the class's cell its only closure -/
namespace SupX
open PySem PySem.Spec PyProof.Rows PySem.W
open L2 hiding St
structure SupS (N P : List Str) (sc : Scope) : Prop where
  kind : sc.kind = .function
  co : sc.isCoroutine = false
  gen : sc.isGenerator = false
  nd : N.Nodup
  pre : N.take P.length = P
  par : ∀ x ∈ P, sc.names.lookup x = some .local
  nocell : ∀ y ∈ sc.names, y.2 ≠ .cell
  free : ∀ y ∈ sc.names, y.2 = .free → y.1 = ("__class__" : Str)
  cls : sc.names.lookup ("__class__" : Str) = some .free
  sup : sc.names.lookup ("super" : Str) = some .globalImplicit
def supCx (CX : CXT) (P : Program) (w : World) (K : Frag) (mg : Str → Option Value) (base : Heap) (N : List Str) (qual : Str) (scope : Scope) (f : Addr) (cd : Value) (cc : Addr) (A : Around) (outer : List Env) (s : Shared) (H : Hp) (E : XK) : Cx where
  prog := P
  w := w
  K := K
  mg := mg
  base := base
  A := A.deeper (ksEnv qual scope s.heap.objs.size f cd cc)
  N := N
  s_0 := s
  H_0 := H
  env := ksEnv qual scope s.heap.objs.size f cd cc
  outer := outer
  stack := ksEnv qual scope s.heap.objs.size f cd cc :: outer
  ex := []
  calm := true
  fn := fun x => !decide (x = ("__class__" : Str))
  pn := []
  xe := fun e s' => wpAny (model P w) (A.deeper (ksEnv qual scope s.heap.objs.size f cd cc)) (leaving (ksEnv qual scope s.heap.objs.size f cd cc) e) (fun _ s'' => CX outer H s E e s'') (fun e' s'' => CX outer H s E e' s'') s'
theorem zip_sub : ∀ (ps : List Str) (us : List Value), ((ps.zip us).map (·.1)).Sublist ps
  | [], _ => List.Sublist.refl _
  | p :: ps, [] => List.nil_sublist _
  | p :: ps, u :: us => (zip_sub ps us).cons₂ p
theorem zip_rev {y : Str} {u : Value} : ∀ {ps : List Str} {us : List Value} {i : Nat}, ps.Nodup → ps[i]? = some y → us[i]? = some u → (ps.zip us).reverse.lookup y = some u := by
  intro ps us i nd h1 h2
  have mem : (y, u) ∈ (ps.zip us).reverse := List.mem_reverse.mpr (List.mem_of_getElem? (i := i) (by rw [List.getElem?_zip_eq_some]; exact ⟨h1, h2⟩))
  have nd2 : ((ps.zip us).reverse.map (·.1)).Nodup := by
    rw [List.map_reverse, (List.reverse_perm _).nodup_iff]
    exact nd.sublist (zip_sub ps us)
  revert mem nd2
  generalize (ps.zip us).reverse = l
  intro mem nd2
  induction l with
  | nil => cases mem
  | cons a r ih =>
    obtain ⟨k, v⟩ := a
    obtain ⟨n1, n2⟩ := List.nodup_cons.mp nd2
    rw [List.lookup_cons]
    rcases List.mem_cons.mp mem with e | m
    · cases e
      simp
    · have ne : (y == k) = false := by
        have : y ≠ k := fun z => n1 (z ▸ List.mem_map_of_mem (f := (·.1)) m)
        simpa using this
      rw [ne]
      exact ih m n2
theorem cls_only {qual : Str} {scope : Scope} {L f c cc : Addr} {cd : Value} {y : Str} (h : (ksEnv qual scope L f cd cc).cells.lookup y = some c) : y = ("__class__" : Str) ∧ c = cc := by
  have h : (match y == ("__class__" : Str) with | true => some cc | false => none) = some c := h
  cases e : (y == ("__class__" : Str)) with
  | true =>
    rw [e] at h
    exact ⟨eq_of_beq e, (Option.some.inj h).symm⟩
  | false =>
    rw [e] at h
    cases h
theorem inv_sup {CX : CXT} {P : Program} {w : World} {K : Frag} {mg : Str → Option Value} {base : Heap} {N ps : List Str} {qual : Str} {scope : Scope} {f cc : Addr} {cd cl : Value} {cld : Option Addr} {cv : Option Value} {csl : Array (Option Value)} {A : Around} {outer : List Env} {s : Shared} {H : Hp} {E : XK} {us : List Value} {vs : List V} {h₁ : Heap} {tk : Nat}
    (S : SupS N ps scope) (hcell : K.lookup cc = some ⟨cl, cld, .cell cv, csl⟩) (hd : A.handled = none) (e0 : Env0 P w K mg base A outer s H) (hl : vs.length = ps.length) (r : Vals vs us)
    (hns : h₁.Ns s.heap.objs.size fun y => (ps.zip us).reverse.lookup y) (kp : ∀ b o, s.heap.get? b = some o → h₁.get? b = some o) :
    Inv (supCx CX P w K mg base N qual scope f cd cc A outer s H E) [] (L2.start N vs) H { s with heap := h₁, toks := tk } := by
  have hpl : ps.length ≤ N.length := by have := congrArg List.length S.pre; rw [List.length_take] at this; omega
  have noA : ∀ b : Addr, b ∉ (supCx CX P w K mg base N qual scope f cd cc A outer s H E).ex := fun b z => absurd (show b ∈ ([] : List Addr) from z) (by simp)
  have bc : base.get? cc = some ⟨cl, cld, .cell cv, csl⟩ := e0.mod.kin _ _ hcell
  refine ⟨⟨e0.mod, S.kind, rfl, rfl, Nat.le_refl _, fun y z c h1 h2 => (cls_only h1).1.trans (cls_only h2).1.symm, fun y hy => ?_, fun y c h1 h2 => ?_, fun _ => hd, Around.frames_deeper e0.frames, .inr ⟨rfl, rfl⟩, fun b z => absurd z (noA b), e0.bs, e0.bsz, fun b _ _ => noA b, fun b z => absurd z (noA b), e0.funs, e0.frf⟩,
    rfl, e0.bare, Un.kept kp, ⟨_, hns, fun i y v h1 h2 h3 => ?_⟩, fun y c h => ?_, e0.hok.fresh (Nat.le_refl _), fun y c h => ?_, fun p hp => absurd (show p ∈ ([] : List (Addr × Obj)) from hp) (by simp), e0.hok.kept kp, ?_⟩
  · have hy : scope.names.lookup y = some .cell ∨ scope.names.lookup y = some .free := hy
    rcases hy with hy | hy
    · exact absurd rfl (S.nocell _ (PySem.mem_of_lookup hy))
    · have e := S.free _ (PySem.mem_of_lookup hy) rfl
      have e : y = ("__class__" : Str) := e
      subst e
      exact ⟨cc, rfl⟩
  · have e := (cls_only h2).1
    subst e
    have h1 : (!decide (("__class__" : Str) = ("__class__" : Str))) = true := h1
    rw [decide_eq_true rfl] at h1
    cases h1
  · have hi : i < vs.length := by
      unfold L2.start at h2
      by_cases hi : i < vs.length
      · exact hi
      · rw [List.getElem?_append_right (by simpa using hi)] at h2
        rw [List.getElem?_replicate] at h2
        split at h2 <;> cases h2
    have ha : vs[i]? = some v := by
      unfold L2.start at h2
      rw [List.getElem?_append_left (by simpa using hi), List.getElem?_map] at h2
      cases e : vs[i]? with
      | none => rw [e] at h2; cases h2
      | some a => rw [e] at h2; cases h2; rfl
    obtain ⟨u, hu, rv⟩ := r.get ha
    have hp : ps[i]? = some y := by
      rw [← S.pre, List.getElem?_take_of_lt (by omega)]; exact h1
    have ndP : ps.Nodup := by rw [← S.pre]; exact S.nd.sublist (List.take_sublist _ _)
    exact ⟨u, rv, .inl ⟨S.par y (List.mem_of_getElem? hp), zip_rev ndP hp hu⟩⟩
  · obtain ⟨_, rfl⟩ := cls_only h
    exact ⟨cv, _, kp _ _ (e0.bs _ _ bc).1, rfl⟩
  · obtain ⟨_, rfl⟩ := cls_only h
    exact (e0.bs _ _ bc).2
  · show (L2.start N vs).length = N.length
    unfold L2.start
    rw [List.length_append, List.length_map, List.length_replicate]
    omega
def plO (o : Expr) (env : Env) : Sem Bool := do return (← importBound o env).getD true
/-- THE RULE: super().m(e, ..), then the rest -/
theorem fn_sup {CX : CXT} {P : Program} {w : World} {K : Frag} {mg : Str → Option Value} {base : Heap} {k j : Nat} {f cc cda C D f2 : Addr} {name qual m : Str} {params : Arguments} {scope : Scope} {rest : List Stmt} {e : Expr} {es : List Expr} {p0 p1 apos pos epos : Pos}
    {dV kV doc pm ct oc ccl cl : Value} {an od cdd cld : Option Addr} {osl ccs csl : Array (Option Value)} {vs' : Array Value} {file : Str} {tf : Tok} {cdD : ClassData} {ar : Arg} {N ps ps2 : List Str} {sp sp2 : Sp} {fd2 : FuncData} {t : TA}
    (lk : K.lookup f = some ⟨oc, od, .func (ksFn name qual params (.Expr (.Call (.Attribute (.Call (.Name "super" p0) [] [] p1) m apos) (e :: es) [] pos) epos :: rest) scope dV kV doc pm an (.ref cda) ct cc), osl⟩)
    (hcd : codeIn K (.ref cda) qual = true) (S : SupS N ps scope) (len : ∀ vs H Q E, sp vs H Q E → vs.length = ps.length)
    (hcode : K.lookup cda = some ⟨ccl, cdd, .fields vs', ccs⟩) (hvs : vs'[2]? = some (.str file tf)) (hfile : ((P.main.file : Str) == file) = true)
    (hcell : K.lookup cc = some ⟨cl, cld, .cell (some (.ref D)), csl⟩) (hD : clsIn K D = some cdD) (hp : (params.posonlyargs ++ params.args).head? = some ar) (hps : ps.head? = some ar.arg)
    (hsuper : mg "super" = none) (htop : (P.main.scope.names.lookup ("super" : Str)).isSome = false) (hat : (m == ("__class__" : Str)) = false) (ho : nsIn K cStatics "thirdparty.any" = some none)
    (hC : mroIn K C (.ref D) = some true) (hm : ks_superIn K C D m = some (some (.ref f2))) (ht : typeIn K (.ref f2) = some (.type "function")) (hf2 : fnIn K f2 = true)
    (G : FnOk P w K mg base CX j f2 fd2 ps2 sp2) (hjk : j ≤ k) (b2 : Binds K fd2 ps2 [])
    (hargs : ∀ A outer s H E, PA (supCx CX P w K mg base N qual scope f (.ref cda) cc A outer s H E) (e :: es) t)
    (hpass : ∀ A outer s H E, Passes CX (supCx CX P w K mg base N qual scope f (.ref cda) cc A outer s H E) E)
    (hev : ∀ L, eval (.Call (.Attribute (.Call (.Name "super" p0) [] [] p1) m apos) (e :: es) [] pos) (ksEnv qual scope L f (.ref cda) cc) = (do
      let ov ← attributeBase (.Call (.Name "super" p0) [] [] p1) m (ksEnv qual scope L f (.ref cda) cc) (eval (.Call (.Name "super" p0) [] [] p1) (ksEnv qual scope L f (.ref cda) cc))
      standAt apos.atName
      let (fv, first) ← holding [ov] (getMethod ov m (plO (.Call (.Name "super" p0) [] [] p1) (ksEnv qual scope L f (.ref cda) cc)))
      callWith pos fv first (backTo pos (starEach (e :: es) (ksEnv qual scope L f (.ref cda) cc))) (backToKw pos (keywordEach [] (ksEnv qual scope L f (.ref cda) cc)))))
    (hst : ∀ L, starEach (e :: es) (ksEnv qual scope L f (.ref cda) cc) = (false, eval e (ksEnv qual scope L f (.ref cda) cc)) :: starEach es (ksEnv qual scope L f (.ref cda) cc)) (hpl : ∀ L, (backTo pos (starEach es (ksEnv qual scope L f (.ref cda) cc))).any (·.1) = false)
    (hbody : ∀ (A : Around) (outer : List Env) (s : Shared) (H : Hp) (vs : List V) (Q : VK) (E : XK), Room k (A.deeper (ksEnv qual scope s.heap.objs.size f (.ref cda) cc)) → sp vs H Q E →
      ∃ (x dx : Addr) (fs : List (Str × V)), vs.head? = some (.ref x) ∧ H x = some (.ins C dx fs) ∧ ∃ tr, PSs (supCx CX P w K mg base N qual scope f (.ref cda) cc A outer s H E) rest tr ∧
        t (L2.start N vs) H (fun ws H1 => sp2 (.ref x :: ws) H1 (fun _ H2 => tr { nx := fun _ H' => Q .non H', rt := Q } (L2.start N vs) H2) E)) :
    FnOk P w K mg base CX (k + 1) f (ksFn name qual params (.Expr (.Call (.Attribute (.Call (.Name "super" p0) [] [] p1) m apos) (e :: es) [] pos) epos :: rest) scope dV kV doc pm an (.ref cda) ct cc) ps sp := by
  refine ⟨len, fun A outer s H args us vs Q E hr e0 hb r hsp => ?_⟩
  have hl := len _ _ _ _ hsp
  have KX : K.In s.heap := e0.mod.kin.keeps fun b o e => (e0.bs b o e).1
  have lim : s.heap.NoLimit := e0.mod.nolimit.keeps fun b o e => (e0.bs b o e).1
  refine ks_codeAny_call_defAt hr.depth (KX _ _ lk) rfl lim (codeRec_of KX hcd) rfl hb S.nocell (fun y hy => S.par _ (List.of_mem_zip hy).1) (fun h₁ hns kp => ?_) S.co S.gen S.kind
  have I : Inv (supCx CX P w K mg base N qual scope f (.ref cda) cc A outer s H E) [] (L2.start N vs) H { s with heap := h₁, toks := s.toks + (ps.zip us).length } := inv_sup S hcell hr.hd e0 hl r hns kp
  obtain ⟨x, dx, fs, hx0, hx, tr, hrest, htr⟩ := hbody A outer s H vs Q E (hr.deeper _) hsp
  have rj : Room j (A.deeper (ksEnv qual scope s.heap.objs.size f (.ref cda) cc)) := (hr.deeper _).mono hjk
  revert I
  generalize hs1 : ({ s with heap := h₁, toks := s.toks + (ps.zip us).length } : Shared) = s1
  intro I
  clear hs1 hns kp
  obtain ⟨hh, g, d, tt, os⟩ := s1
  have X1 : K.In hh := I.kIn
  obtain ⟨oD, hD1, hD2⟩ : ∃ oD, hh.get? D = some oD ∧ oD.data = .cls cdD := by
    unfold clsIn at hD
    split at hD
    · rename_i c d cd' sl ho
      cases hD
      exact ⟨_, X1 _ _ ho, rfl⟩
    · cases hD
  obtain ⟨mA, O, _, _, _, _⟩ := ins_get I.hok hx
  obtain ⟨mb, hbl, hmb⟩ := I.mod.blt
  obtain ⟨ml, hml, look⟩ := I.loc
  have hp0 : ps[0]? = some ar.arg := by rw [← List.head?_eq_getElem?]; exact hps
  have ls : 0 < ps.length := (List.getElem?_eq_some_iff.mp hp0).1
  have n0 : N[0]? = some ar.arg := by
    have z : (N.take ps.length)[0]? = some ar.arg := by rw [S.pre]; exact hp0
    rw [List.getElem?_take_of_lt ls] at z
    exact z
  have hself : ml ar.arg = some (.ref x) := by
    have v0 : (L2.start N vs)[0]? = some (some (.ref x)) := by
      cases vs with
      | nil => cases hx0
      | cons a b => cases hx0; rfl
    have kl := S.par ar.arg (List.mem_of_getElem? hp0)
    obtain ⟨u, ru, lu⟩ := look 0 ar.arg (.ref x) n0 v0 (.inl kl)
    obtain rfl : u = Value.ref x := ru
    rcases lu with ⟨_, z⟩ | ⟨z, _⟩
    · exact z
    · have z : scope.names.lookup ar.arg = some .cell ∨ scope.names.lookup ar.arg = some .free := z
      rcases z with z | z <;> rw [kl] at z <;> cases z
  refine ks_wpAt_execs_cons (ks_wpAt_Expr_any ?_ I.quiet rfl)
  show _root_.PySem.wpAt _ _ _ (eval (.Call (.Attribute (.Call (.Name "super" _) [] [] p1) m apos) (e :: es) [] pos) (ksEnv qual scope s.heap.objs.size f (.ref cda) cc)) _ _ _
  rw [hev]
  refine _root_.PySem.wpAt_bind ?_
  refine ks_wpAt_super_base (env := ksEnv qual scope s.heap.objs.size f (.ref cda) cc) S.sup S.cls hat rfl (X1 _ _ lk) rfl hp rfl (X1 _ _ hcode) rfl hvs hfile htop ?_
  refine ks_loadName_global S.kind S.sup (PySem.Calls.loadGlobal_builtin (I.mod.glob.keeps I.bk) hsuper (hbl.keeps I.bk) ((hmb _ (by decide +kernel)).trans (show bootBuiltins "super" = some (.type "super") by rfl)) ⟨rfl, ?_⟩)
  refine wpAny_loadName_free S.kind S.cls rfl ⟨_, X1 _ _ hcell, rfl⟩ ?_
  refine wpAny_loadName_local S.kind (S.par ar.arg (List.mem_of_getElem? hp0)) hml hself ?_
  refine ks_wpAny_isType_cls hD1 hD2 ⟨rfl, ?_⟩
  refine ks_wpAny_call_super hD1 hD2 O.obj rfl (fun c e => by cases e) (looks_mroIn X1 hC) (fun h' eso kq => ?_)
  have I2 : Inv (supCx CX P w K mg base N qual scope f (.ref cda) cc A outer s H E) [] (L2.start N vs) H ⟨h', g, d, tt, os⟩ := I.kept (t' := tt) kq
  have X2 : K.In h' := I2.kIn
  refine _root_.PySem.wpAt_of_wpAny (wpAny_bind (wpAny_standAt (wpAny_bind (wpAny_holding ?_))))
  cases hc : clsIn K C with
  | none => unfold ks_superIn at hm; rw [hc] at hm; cases hm
  | some cdC =>
    unfold ks_superIn at hm
    rw [hc] at hm
    have hm : alongIn K m ((cdC.mro.dropWhile (· != .ref D)).drop 1) = some (some (.ref f2)) := hm
    obtain ⟨of, hof, hofc⟩ : ∃ of, h'.get? f2 = some of ∧ of.cls = .type "function" := by
      have ht' : (K.lookup f2).map (·.cls) = some (.type "function") := ht
      cases z : K.lookup f2 with
      | none => rw [z] at ht'; cases ht'
      | some of => rw [z] at ht'; exact ⟨of, X2 _ _ z, Option.some.inj ht'⟩
    have xC : x ≠ C := by
      rintro rfl
      unfold clsIn at hc
      split at hc
      · rename_i c d cd' sl ho
        have z := X1 _ _ ho
        rw [O.obj] at z
        cases z
      · cases hc
    refine ks_wpAny_getMethod_super eso (looks_opaque X2 ho) (l₀ := cdC.mro) (fun A Q E s k q => wpAny_bind ((looks_clsIn X2 hc) A _ E s k (wpAny_pure q))) rfl X2 hm hof hofc xC hat ?_
    have I3 : Inv (supCx CX P w K mg base N qual scope f (.ref cda) cc A outer s H E) [(h'.objs.size, methodObj (.ref f2) (.ref x))] (L2.start N vs) H ⟨h'.push (methodObj (.ref f2) (.ref x)), g, d, tt + 1, os⟩ :=
      (I2.kept (t' := tt + 1) (h' := h'.push (methodObj (.ref f2) (.ref x))) fun b o e => Heap.get?_push_of_some _ e).pins_of fun p hp => by
        obtain rfl := List.mem_singleton.mp hp
        exact ⟨Heap.get?_push_at rfl rfl, I2.hok.fresh (Nat.le_refl _), fun z => absurd I2.lt (by rw [← z]; exact Nat.lt_irrefl _), I2.nofs (Nat.le_refl _), fun v z => by cases z⟩
    have ha := (hargs A outer s H E).run pos _ _ _ H _ I3 htr
    have hs0 := hst s.heap.objs.size
    show wpAny _ _ (callWith pos (.ref h'.objs.size) [] (backTo pos (starEach (e :: es) (ksEnv qual scope s.heap.objs.size f (.ref cda) cc))) []) _ _ _
    rw [hs0]
    refine callWith_of (P := MethP K h'.objs.size f2 (.ref x)) (by show ((false || (backTo pos (starEach es (ksEnv qual scope s.heap.objs.size f (.ref cda) cc))).any (·.1)) || false) = false; rw [hpl]; rfl) (keeps_M hf2) (PySem.Calls.evalArgs_plain ?_)
    show wpAny _ _ (spliced (backTo pos ((false, eval e (ksEnv qual scope s.heap.objs.size f (.ref cda) cc)) :: starEach es (ksEnv qual scope s.heap.objs.size f (.ref cda) cc)))) _ _ _
    rw [← hs0]
    refine thn ha (fun us' s4 ⟨ws, H1, I4, r4, q4⟩ => ?_)
    have pq := (I4.pin _ (List.mem_append_right _ (List.mem_singleton.mpr rfl))).1
    refine ⟨⟨pq, I4.kIn⟩, ?_⟩
    refine wpAny_call (ks_codeAny_call_bound pq ?_)
    have hl2 : (Value.ref x :: us').length = ps2.length := by
      have := G.len _ _ _ _ q4
      rw [← this, List.length_cons, List.length_cons, r4.length]
    have hb2 : BindsTo s4 fd2 ⟨Value.ref x :: us', []⟩ (ps2.zip (Value.ref x :: us')) := by
      have := b2 s4 (Value.ref x :: us') I4.kIn (by rw [List.append_nil]; exact hl2)
      rw [List.append_nil] at this
      exact this
    refine codeAny_mono (G.run _ _ s4 H1 ⟨Value.ref x :: us', []⟩ (Value.ref x :: us') (V.ref x :: ws) _ E rj I4.env0 hb2 (.cons rfl r4) q4) fun r5 s5 hq => ?_
    cases r5 with
    | error ee => exact hpass A outer s H E _ _ _ _ _ _ I4 hq
    | ok fl =>
      cases fl with
      | ret u =>
        obtain ⟨v5, H5, I5, _, q5⟩ := I4.after hq
        have I6 : Inv (supCx CX P w K mg base N qual scope f (.ref cda) cc A outer s H E) [] (L2.start N vs) H5 s5 := I5.pins_of fun p hp => by cases hp
        refine _root_.PySem.wpAt_of_wpAny (wpAny_mono (hrest.run [] s5 _ H5 _ I6 q5) (fun fl s' hs => ?_) fun e s' hs => hs)
        have fin : ∀ {σ' : L2.St} {H' : Hp} {v : V} {u : Value}, Inv (supCx CX P w K mg base N qual scope f (.ref cda) cc A outer s H E) [] σ' H' s' → L2.RelV v u → Q v H' → CE outer P w H s Q u s' :=
          fun {σ' H' v u} J rv q => ⟨v, H', J.os, J.bare, J.base, J.hok, rv, q⟩
        cases fl with
        | ret u =>
          obtain ⟨v, σ', H', J, rv, q⟩ := hs
          exact fin J rv q
        | next =>
          obtain ⟨σ', H', J, q⟩ := hs
          exact fin (v := V.non) (u := Value.none) J rfl q
        | brk =>
          obtain ⟨_, _, _, q⟩ := hs
          exact False.elim q
        | cont =>
          obtain ⟨_, _, _, q⟩ := hs
          exact False.elim q
      | next => exact False.elim hq
      | brk => exact False.elim hq
      | cont => exact False.elim hq
/-! ### such a method as it stands behind the top -/
structure SupF (K : Frag) (x qual : Str) (st : Stmt) (f : Addr) (fd : FuncData) (cda cc D : Addr) (file : Str) : Prop where
  ex : ∃ (oc : Value) (od : Option Addr) (kV doc pm : Value) (an : Option Addr) (ct : Value) (osl : Array (Option Value)), fd = ksFn x qual (defArgs st) (defBody st) (defScope st) .none kV doc pm an (.ref cda) ct cc ∧ K.lookup f = some ⟨oc, od, .func fd, osl⟩
  code : codeIn K (.ref cda) qual = true
  fil : ∃ (ccl : Value) (cdd : Option Addr) (ccs : Array (Option Value)) (vs : Array Value) (tf : Tok), K.lookup cda = some ⟨ccl, cdd, .fields vs, ccs⟩ ∧ vs[2]? = some (.str file tf)
  cell : ∃ (cl : Value) (cld : Option Addr) (csl : Array (Option Value)), K.lookup cc = some ⟨cl, cld, .cell (some (.ref D)), csl⟩
  cls : ∃ cd, clsIn K D = some cd
/-- what super() leans on besides -/
structure SupE (P : Program) (K : Frag) (mg : Str → Option Value) (file : Str) : Prop where
  file : ((P.main.file : Str) == file) = true
  z : mg "super" = none
  top : (P.main.scope.names.lookup ("super" : Str)).isSome = false
  any : nsIn K cStatics "thirdparty.any" = some none
/-- super().m in a method of D, at an instance of C, is f2 -/
structure SupM (K : Frag) (C D f2 : Addr) (m : Str) : Prop where
  mro : mroIn K C (.ref D) = some true
  at_ : ks_superIn K C D m = some (some (.ref f2))
  ty : typeIn K (.ref f2) = some (.type "function")
  fn : fnIn K f2 = true
theorem pass_own {P : Program} {w : World} {K : Frag} {mg : Str → Option Value} {base : Heap} {N : List Str} {qual : Str} {scope : Scope} {f cc : Addr} {cd : Value} {A : Around} {outer : List Env} {s : Shared} {H : Hp} {E : XK} : Passes (L2.CX P w) (supCx (L2.CX P w) P w K mg base N qual scope f cd cc A outer s H E) E :=
  passes_call (takes_of rfl rfl rfl rfl) (fun _ _ _ _ z => z)
/-- THE RULE for such a method -/
theorem SupF.okX {P : Program} {w : World} {K : Frag} {mg : Str → Option Value} {base : Heap} {k j : Nat} {f cda cc C D f2 : Addr} {x qual m file : Str} {st : Stmt} {rest : List Stmt} {e : Expr} {es : List Expr} {p0 p1 apos pos epos : Pos} {ar : Arg} {N ps ps2 : List Str} {sp sp2 : Sp} {fd fd2 : FuncData} {t : TA}
    (F : SupF K x qual st f fd cda cc D file) (SE : SupE P K mg file) (SM : SupM K C D f2 m) (S : SupS N ps (defScope st)) (len : ∀ vs H Q E, sp vs H Q E → vs.length = ps.length)
    (G : FnOk P w K mg base (L2.CX P w) j f2 fd2 ps2 sp2) (hjk : j ≤ k) (b2 : Binds K fd2 ps2 [])
    (hbd : defBody st = .Expr (.Call (.Attribute (.Call (.Name "super" p0) [] [] p1) m apos) (e :: es) [] pos) epos :: rest)
    (hp : ((defArgs st).posonlyargs ++ (defArgs st).args).head? = some ar) (hps : ps.head? = some ar.arg) (hat : (m == ("__class__" : Str)) = false)
    (hargs : ∀ A outer s H E, PA (supCx (L2.CX P w) P w K mg base N qual (defScope st) f (.ref cda) cc A outer s H E) (e :: es) t)
    (hev : ∀ L, eval (.Call (.Attribute (.Call (.Name "super" p0) [] [] p1) m apos) (e :: es) [] pos) (ksEnv qual (defScope st) L f (.ref cda) cc) = (do
      let ov ← attributeBase (.Call (.Name "super" p0) [] [] p1) m (ksEnv qual (defScope st) L f (.ref cda) cc) (eval (.Call (.Name "super" p0) [] [] p1) (ksEnv qual (defScope st) L f (.ref cda) cc))
      standAt apos.atName
      let (fv, first) ← holding [ov] (getMethod ov m (plO (.Call (.Name "super" p0) [] [] p1) (ksEnv qual (defScope st) L f (.ref cda) cc)))
      callWith pos fv first (backTo pos (starEach (e :: es) (ksEnv qual (defScope st) L f (.ref cda) cc))) (backToKw pos (keywordEach [] (ksEnv qual (defScope st) L f (.ref cda) cc)))))
    (hst : ∀ L, starEach (e :: es) (ksEnv qual (defScope st) L f (.ref cda) cc) = (false, eval e (ksEnv qual (defScope st) L f (.ref cda) cc)) :: starEach es (ksEnv qual (defScope st) L f (.ref cda) cc)) (hpl : ∀ L, (backTo pos (starEach es (ksEnv qual (defScope st) L f (.ref cda) cc))).any (·.1) = false)
    (hbody : ∀ (A : Around) (outer : List Env) (s : Shared) (H : Hp) (vs : List V) (Q : VK) (E : XK), Room k (A.deeper (ksEnv qual (defScope st) s.heap.objs.size f (.ref cda) cc)) → sp vs H Q E →
      ∃ (x dx : Addr) (fs : List (Str × V)), vs.head? = some (.ref x) ∧ H x = some (.ins C dx fs) ∧ ∃ tr, PSs (supCx (L2.CX P w) P w K mg base N qual (defScope st) f (.ref cda) cc A outer s H E) rest tr ∧
        t (L2.start N vs) H (fun ws H1 => sp2 (.ref x :: ws) H1 (fun _ H2 => tr { nx := fun _ H' => Q .non H', rt := Q } (L2.start N vs) H2) E)) :
    FnOk P w K mg base (L2.CX P w) (k + 1) f fd ps sp := by
  obtain ⟨oc, od, kV, doc, pm, an, ct, osl, rfl, lk⟩ := F.ex
  obtain ⟨ccl, cdd, ccs, vs', tf, hcode, hvs⟩ := F.fil
  obtain ⟨cl, cld, csl, hcell⟩ := F.cell
  obtain ⟨cd, hD⟩ := F.cls
  have hg := fn_sup (CX := L2.CX P w) (P := P) (w := w) (K := K) (mg := mg) (base := base) (k := k) (rest := rest) (sp := sp) (sp2 := sp2) (t := t) (name := x) (params := defArgs st) (scope := defScope st) (dV := .none) (kV := kV) (doc := doc) (pm := pm) (ct := ct) (oc := oc) (an := an) (od := od) (osl := osl)
    (by rw [← hbd]; exact lk) F.code S len hcode hvs SE.file hcell hD hp hps SE.z SE.top hat SE.any SM.mro SM.at_ SM.ty SM.fn G hjk b2 hargs (fun A outer s H E => pass_own) hev hst hpl hbody
  rw [← hbd] at hg
  exact hg
end SupX
/-! HdX's head, with defs that hold the class's cell (super), their keyword defaults, and empty tables beside the part K -/
namespace Hy
open PySem PySem.Spec PyProof.Rows L2
abbrev Fr : Type := PySem.W.Frag
abbrev FnV : Type := Option (Str × Str × Arguments × FuncBody × Scope × Addr × List Str × Value × Addr)
def fnO (K : Fr) (a : Addr) : FnV := match K.lookup a with
  | some ⟨_, _, .func fd, _⟩ => some (fd.name, fd.qualname, fd.params, fd.body, fd.scope, fd.globals, fd.closure.map (·.1), fd.defaults, fd.builtins)
  | _ => none
def codeV (K : Fr) (a : Addr) : Value := match K.lookup a with
  | some ⟨_, _, .func fd, _⟩ => fd.code
  | _ => .none
def kwdV (K : Fr) (a : Addr) : Value := match K.lookup a with
  | some ⟨_, _, .func fd, _⟩ => fd.kwdefaults
  | _ => .none
def cellA (K : Fr) (a : Addr) : Addr := match K.lookup a with
  | some ⟨_, _, .func fd, _⟩ => (match fd.closure with
    | p :: _ => p.2
    | [] => 0)
  | _ => 0
/-- what a class has by a name -/
def fv (K : Fr) (C : Addr) (x : Str) : Value := match PySem.W.findIn K (.ref C) x with
  | some (some v) => v
  | _ => .none
/-- the table of a code object -/
def tblA (K : Fr) (c : Addr) : Addr := match K.lookup c with
  | some ⟨_, _, .fields vs, _⟩ => (match (vs[11]? : Option Value) with
    | some (.ref p) => p
    | _ => 0)
  | _ => 0
theorem fun_of {K : Fr} {a : Addr} {x q : Str} {st : Stmt} (e : fnO K a = some (x, q, defArgs st, .stmts (defBody st), defScope st, mainGlobals, [], .none, builtinsNs)) (c : Hx.codeB K a q = true) (k : PySem.W.keepIn K (.ref a) = true) :
    ∃ fd : FuncData, L2.Fun K x q st a fd ∧ fd.code = codeV K a := by
  unfold codeV
  unfold Hx.codeB at c
  unfold fnO at e
  cases z : K.lookup a with
  | none =>
    rw [z] at c
    cases c
  | some o =>
    obtain ⟨oc, od, dt, osl⟩ := o
    rw [z] at c e
    cases dt with
    | func fd =>
      obtain ⟨n1, n2, n3, n4, n5, n6, n7, n8, n9, n10, n11, n12, n13, n14, n15⟩ := fd
      have e2 : (some (n1, n2, n3, n4, n5, n6, n7.map (·.1), n8, n15) : FnV) = some (x, q, defArgs st, .stmts (defBody st), defScope st, mainGlobals, [], .none, builtinsNs) := e
      simp only [Option.some.injEq, Prod.mk.injEq, List.map_eq_nil_iff] at e2
      obtain ⟨h1, h2, h3, h4, h5, h6, h7, h8, h9⟩ := e2
      subst h1 h2 h3 h4 h5 h6 h7 h8 h9
      exact ⟨_, L2.fun_mk z c k, rfl⟩
    | _ => cases c
/-- what stands behind super: the code's file, the class in the cell -/
def supB (K : Fr) (f cda cc D : Addr) (file : Str) : Bool :=
  (match codeV K f with
    | .ref c => decide (c = cda)
    | _ => false) &&
  ((match K.lookup cda with
    | some ⟨_, _, .fields vs, _⟩ => (match (vs[2]? : Option Value) with
      | some (.str x _) => decide (x = file)
      | _ => false)
    | _ => false) &&
  ((match K.lookup cc with
    | some ⟨_, _, .cell (some (.ref D')), _⟩ => decide (D' = D)
    | _ => false) && ((PySem.W.clsIn K D).isSome && decide (cellA K f = cc))))
theorem sup_of {K : Fr} {a cda cc D : Addr} {x q file : Str} {st : Stmt} (e : fnO K a = (some (x, q, defArgs st, .stmts (defBody st), defScope st, mainGlobals, [("__class__" : Str)], .none, builtinsNs) : FnV)) (c : Hx.codeB K a q = true) (s : supB K a cda cc D file = true) :
    ∃ fd : FuncData, SupX.SupF K x q st a fd cda cc D file ∧ fd.kwdefaults = kwdV K a := by
  unfold supB at s
  obtain ⟨s1, s⟩ := He.ba s
  obtain ⟨s2, s⟩ := He.ba s
  obtain ⟨s3, s⟩ := He.ba s
  obtain ⟨s4, s5⟩ := He.ba s
  have s5 := of_decide_eq_true s5
  have fil : ∃ (ccl : Value) (cdd : Option Addr) (ccs : Array (Option Value)) (vs : Array Value) (tf : Tok), K.lookup cda = some ⟨ccl, cdd, .fields vs, ccs⟩ ∧ vs[2]? = some (.str file tf) := by
    split at s2
    · rename_i k1 k2 vs k4 e1
      split at s2
      · rename_i y t e2
        exact ⟨_, _, _, vs, t, e1, by rw [e2, of_decide_eq_true s2]⟩
      · cases s2
    · cases s2
  have cell : ∃ (cl : Value) (cld : Option Addr) (csl : Array (Option Value)), K.lookup cc = some ⟨cl, cld, .cell (some (.ref D)), csl⟩ := by
    split at s3
    · rename_i k1 k2 D' k4 e1
      exact ⟨_, _, _, by rw [e1, of_decide_eq_true s3]⟩
    · cases s3
  have cls : ∃ cd, PySem.W.clsIn K D = some cd := Option.isSome_iff_exists.mp s4
  unfold kwdV
  unfold codeV at s1
  unfold cellA at s5
  unfold Hx.codeB at c
  unfold fnO at e
  cases z : K.lookup a with
  | none =>
    rw [z] at c
    cases c
  | some o =>
    obtain ⟨oc, od, dt, osl⟩ := o
    rw [z] at c e s1 s5
    cases dt with
    | func fd =>
      obtain ⟨n1, n2, n3, n4, n5, n6, n7, n8, n9, n10, n11, n12, n13, n14, n15⟩ := fd
      have e2 : (some (n1, n2, n3, n4, n5, n6, n7.map (·.1), n8, n15) : FnV) = some (x, q, defArgs st, .stmts (defBody st), defScope st, mainGlobals, [("__class__" : Str)], .none, builtinsNs) := e
      simp only [Option.some.injEq, Prod.mk.injEq] at e2
      obtain ⟨h1, h2, h3, h4, h5, h6, h7, h8, h9⟩ := e2
      subst h1 h2 h3 h4 h5 h6 h8 h9
      cases n7 with
      | nil => exact absurd (congrArg List.length h7) (by simp)
      | cons p r =>
        cases r with
        | cons p2 r2 => exact absurd (congrArg List.length h7) (by simp)
        | nil =>
          obtain ⟨y, d⟩ := p
          have hy : y = ("__class__" : Str) := (List.cons.inj h7).1
          have hd : d = cc := s5
          subst hy
          subst hd
          cases n13 with
          | ref c0 =>
            have : c0 = cda := of_decide_eq_true s1
            subst this
            exact ⟨_, ⟨⟨oc, od, n9, n10, n11, n12, n14, osl, rfl, z⟩, c, fil, cell, cls⟩, rfl⟩
          | _ => cases s1
    | _ => cases c
/-! ### the Hook -/
structure Fd where
  at_ : Fr → Addr
  name : Str
  qual : Str
  st : Stmt
  clo : List Str
def Fd.val (d : Fd) : FnV := some (d.name, d.qual, defArgs d.st, .stmts (defBody d.st), defScope d.st, mainGlobals, d.clo, .none, builtinsNs)
def Fd.ok (K : Fr) (d : Fd) : Bool := Hx.codeB K (d.at_ K) d.qual && PySem.W.keepIn K (.ref (d.at_ K))
abbrev Tab : Type := (Fr → Addr) × List Str
abbrev Al : Type := Bool × List FnV × List (Option (List Int))
abbrev tabO : Obj := { cls := .none, data := .fields #[] }
def obsX (ck : List (List (Fr → Bool))) (fn : List Fd) (ts : List Tab) (K : Fr) : Al :=
  ((ck.all fun l => l.all fun c => c K) && fn.all fun d => d.ok K, fn.map fun d => fnO K (d.at_ K), ts.map fun t => Hx.dicH K (t.1 K))
def valX (fn : List Fd) (ts : List Tab) (w : World) : Al := (true, fn.map Fd.val, ts.map fun t => some (t.2.map (PyData.keyHash w.params)))
def Says (ck : List (List (Fr → Bool))) (fn : List Fd) (ts : List Tab) (w : World) (K : Fr) : Prop := obsX ck fn ts K = valX fn ts w
abbrev Al2 : Type := Al × List (Option Obj)
def obsG (as ps : List Addr) (ck : List (List (Fr → Bool))) (fn : List Fd) (ts : List Tab) (g : Addr → Option Obj) : Al2 := (obsX ck fn ts (Hx.fragG as g), ps.map g)
def valG (ps : List Addr) (fn : List Fd) (ts : List Tab) (w : World) : Al2 := (valX fn ts w, ps.map fun _ => some tabO)
def hook (as ps : List Addr) (ck : List (List (Fr → Bool))) (fn : List Fd) (ts : List Tab) : PySem.W.Hook where
  α := Al2
  obs := fun s => obsG as ps ck fn ts s.heap.get?
  val := fun w => valG ps fn ts w
  says := fun w h => ∃ K : Fr, K.In h ∧ Says ck fn ts w K ∧ ∀ P ∈ ps, h.get? P = some tabO
  of := fun _ _ e => ⟨_, He.frG_in, (Prod.mk.inj e).1, List.map_inj_left.mp (Prod.mk.inj e).2⟩
  keeps := fun _ _ _ ⟨K, hK, c, t⟩ k => ⟨K, PySem.W.Frag.In.keeps hK k, c, fun P m => k _ _ (t P m)⟩
theorem obsG_eq {as ps : List Addr} {ck : List (List (Fr → Bool))} {fn : List Fd} {ts : List Tab} {g : Addr → Option Obj} {s : Shared} (h : ∀ a, g a = s.heap.get? a) : obsG as ps ck fn ts g = (hook as ps ck fn ts).obs s := by
  have e : g = s.heap.get? := funext h
  rw [e] <;> rfl
section
variable {ck : List (List (Fr → Bool))} {fn : List Fd} {ts : List Tab} {w : World} {K : Fr}
theorem Says.test (c : Says ck fn ts w K) (j i : Nat) {l : List (Fr → Bool)} {b : Fr → Bool} (h : ck[j]? = some l) (hi : l[i]? = some b) : b K = true := by
  have c1 := (He.ba (show ((ck.all fun l => l.all fun c => c K) && fn.all fun d => d.ok K) = true from congrArg (fun z : Al => z.1) c)).1
  exact List.all_eq_true.mp (List.all_eq_true.mp c1 l (List.mem_of_getElem? h)) b (List.mem_of_getElem? hi)
theorem Says.fnv (c : Says ck fn ts w K) (i : Nat) {d : Fd} (h : fn[i]? = some d) : fnO K (d.at_ K) = d.val ∧ Hx.codeB K (d.at_ K) d.qual = true ∧ PySem.W.keepIn K (.ref (d.at_ K)) = true := by
  have c2 := (He.ba (show ((ck.all fun l => l.all fun c => c K) && fn.all fun d => d.ok K) = true from congrArg (fun z : Al => z.1) c)).2
  have e : fn.map (fun d => fnO K (d.at_ K)) = fn.map Fd.val := congrArg (fun z : Al => z.2.1) c
  have e2 : (fn.map fun d => fnO K (d.at_ K))[i]? = (fn.map Fd.val)[i]? := by rw [e]
  rw [List.getElem?_map, List.getElem?_map, h] at e2
  obtain ⟨k1, k2⟩ := He.ba (List.all_eq_true.mp c2 d (List.mem_of_getElem? h))
  exact ⟨Option.some.inj e2, k1, k2⟩
theorem Says.defn (c : Says ck fn ts w K) (i : Nat) {a : Fr → Addr} {x q : Str} {st : Stmt} (h : fn[i]? = some ⟨a, x, q, st, []⟩) : ∃ fd : FuncData, L2.Fun K x q st (a K) fd ∧ fd.code = codeV K (a K) := by
  obtain ⟨e, k1, k2⟩ := c.fnv i h
  exact fun_of e k1 k2
theorem Says.sup (c : Says ck fn ts w K) (i : Nat) {a : Fr → Addr} {x q file : Str} {st : Stmt} {cda cc D : Addr} (h : fn[i]? = some ⟨a, x, q, st, [("__class__" : Str)]⟩) (s : supB K (a K) cda cc D file = true) : ∃ fd : FuncData, SupX.SupF K x q st (a K) fd cda cc D file ∧ fd.kwdefaults = kwdV K (a K) := by
  obtain ⟨e, k1, k2⟩ := c.fnv i h
  exact sup_of e k1 s
theorem Says.tab (c : Says ck fn ts w K) (i : Nat) {t : Tab} (h : ts[i]? = some t) : Hx.dicH K (t.1 K) = some (t.2.map (PyData.keyHash w.params)) := by
  have e : ts.map (fun t => Hx.dicH K (t.1 K)) = ts.map fun t => some (t.2.map (PyData.keyHash w.params)) := congrArg (fun z : Al => z.2.2) c
  have e2 : (ts.map fun t => Hx.dicH K (t.1 K))[i]? = (ts.map fun t => some (t.2.map (PyData.keyHash w.params)))[i]? := by rw [e]
  rw [List.getElem?_map, List.getElem?_map, h] at e2
  exact Option.some.inj e2
end
/-! ### the run in parts -/
open HandSHeadRun in
theorem run_parts {r : PySem.W.OpenRow} {q : Program} {as ps : List Addr} {ckA ckB ckC : List (List (Fr → Bool))} {fn : List Fd} {ts : List Tab} {M : Nat} {loose : List Str} {w : World}
    (h0 : ∀ os : OsState, (endF (stepQ (denQ tabQ) r.prog w) M r.prog w os).map (fun s => (looksF r.prog (PySem.W.boot_heap w.params) s.abs, seenQ q loose (importedModules r.prog.main.body) (fun s => PySem.W.xlAt q [] s && PySem.W.recOk r.toRowW.records s) s.abs)) = some (true, PySem.W.openGood q loose))
    (h1 : ∀ os : OsState, (endF (stepQ (denQ tabQ) r.prog w) M r.prog w os).map (fun s => ckA.all fun l => l.all fun c => c (Hx.fragG as (getT s))) = some true)
    (h2 : ∀ os : OsState, (endF (stepQ (denQ tabQ) r.prog w) M r.prog w os).map (fun s => ckB.all fun l => l.all fun c => c (Hx.fragG as (getT s))) = some true)
    (h3 : ∀ os : OsState, (endF (stepQ (denQ tabQ) r.prog w) M r.prog w os).map (fun s => (obsX ckC fn ts (Hx.fragG as (getT s)), ps.map (getT s))) = some (valG ps fn ts w)) :
    RunEq r q (hook as ps (ckA ++ ckB ++ ckC) fn ts) (fun s => obsG as ps (ckA ++ ckB ++ ckC) fn ts (getT s)) M loose w := by
  intro os
  have e0 := h0 os
  have e1 := h1 os
  have e2 := h2 os
  have e3 := h3 os
  obtain ⟨s, es, v0⟩ := Option.map_eq_some_iff.mp e0
  rw [es] at e1 e2 e3 ⊢
  have v1 : (ckA.all fun l => l.all fun c => c (Hx.fragG as (getT s))) = true := Option.some.inj e1
  have v2 : (ckB.all fun l => l.all fun c => c (Hx.fragG as (getT s))) = true := Option.some.inj e2
  obtain ⟨v3, v4⟩ := Prod.mk.inj (Option.some.inj e3)
  obtain ⟨va, vb⟩ := Prod.mk.inj v0
  have w3 : obsX (ckA ++ ckB ++ ckC) fn ts (Hx.fragG as (getT s)) = valX fn ts w := by
    rw [← v3]
    unfold obsX
    rw [List.all_append, List.all_append]
    refine Prod.ext ?_ rfl
    show (((ckA.all fun l => l.all fun c => c (Hx.fragG as (getT s))) && (ckB.all fun l => l.all fun c => c (Hx.fragG as (getT s)))) && _ && _) = _
    rw [v1, v2]
    rfl
  show some (_, _, (obsX (ckA ++ ckB ++ ckC) fn ts (Hx.fragG as (getT s)), ps.map (getT s))) = some (true, PySem.W.openGood q loose, (valX fn ts w, ps.map fun _ => some tabO))
  rw [va, vb, w3, show ps.map (getT s) = ps.map fun _ => some tabO from v4]
end Hy
namespace Hy
open PySem PySem.Spec PyProof.Rows L2
/-- a name's value in a dict of names -/
def nv (K : Fr) (a : Addr) (x : Str) : Value := match PySem.W.nsIn K a x with
  | some (some v) => v
  | _ => .none
end Hy
/-! ### what the head must say of the classes of exceptions -/
namespace K18T0
open PySem PySem.W
/-- the class cn at C over the built-in b, its __init__ at f, its fields ns; no instance of one of no -/
def mroT (b : String) : List Value := [.type b, .type "Exception", .type "BaseException", .type "object"]
def nameT (K : Frag) (cn : Str) (C : Addr) : Bool :=
  readsIn K C (.type "type") && ((match findCls K (.ref C) (.type "type") "__name__" with
  | some (.get a b c d) => decide (a = .builtin "getset_descriptor.__get__") && (decide (b = .builtin "type.__name__") && (decide (c = .ref C) && decide (d = .type "type")))
  | _ => false) && (match ((K.lookup C).bind (fun o : Obj => o.slots[2]?) : Option (Option Value)) with
  | some (some (.str n _)) => decide (n = cn)
  | _ => false))
def excT (K : Frag) (C : Addr) : Bool :=
  decide (findIn K (.ref C) "__getattribute__" = some (some (.builtin "BaseException.__getattribute__"))) && (decide (findIn K (.ref C) "__getattr__" = some none) && (decide (subIn K (.ref C) (.type "BaseException") = some true) && (hasDictIn K C &&
  (decide (findIn K (.ref C) "__class__" = some (some (.builtin "object.__class__"))) && decide (mroIn K C (.type "object") = some true)))))
def ownT (K : Frag) (b nw : String) (ns : List Str) (no : List String) (C f : Addr) : Bool :=
  excInitIn K C (mroT b) nw && (excOver K C (mroT b) && (decide (findIn K (.ref C) "__setattr__" = some (some (.builtin "object.__setattr__"))) && (decide (typeIn K (.ref C) = some (.type "type")) && (keepIn K (.ref C) &&
  (decide (findIn K (.ref C) "__init__" = some (some (.ref f))) && (decide (typeIn K (.ref f) = some (.type "function")) && ((("_told" : Str) :: ns).all (fun n => decide (findIn K (.ref C) n = some none)) &&
  (decide (kitOne K (.ref C) (.type b) = some true) && decide (kitAny K (.ref C) (no.map Value.type) = some false)))))))))
def sysT (K : Frag) : Bool := match K.lookup sysModules with
  | some o => decide (o.cls = .type "dict")
  | none => false
/-- the k-th of the 42 is an instance of the j-th of the 46 -/
def expT (k j : Nat) : Bool := decide (k = j) || ((decide (j = 42) && decide (k < 15)) || ((decide (j = 43) && (decide (15 ≤ k) && decide (k < 24))) || ((decide (j = 44) && (decide (24 ≤ k) && decide (k < 40))) || (decide (j = 45) && decide (40 ≤ k)))))
def kitRow (K : Frag) (c : Addr) (k : Nat) : Nat → List Addr → Bool
  | _, [] => true
  | j, d :: ds => decide (kitOne K (.ref c) (.ref d) = some (expT k j)) && kitRow K c k (j + 1) ds
theorem ba {a b : Bool} (h : (a && b) = true) : a = true ∧ b = true := Bool.and_eq_true_iff.mp h
theorem name_ok {K : Frag} {cn : Str} {C : Addr} (h : nameT K cn C = true) : readsIn K C (.type "type") = true ∧ findCls K (.ref C) (.type "type") "__name__" = some (.get (.builtin "getset_descriptor.__get__") (.builtin "type.__name__") (.ref C) (.type "type")) ∧ ∃ tk, (K.lookup C).bind (fun o => o.slots[2]?) = some (some (.str cn tk)) := by
  unfold nameT at h
  obtain ⟨h1, h⟩ := ba h
  obtain ⟨h2, h3⟩ := ba h
  refine ⟨h1, ?_, ?_⟩
  · split at h2
    · rename_i a b c d e
      obtain ⟨e1, h2⟩ := ba h2
      obtain ⟨e2, h2⟩ := ba h2
      obtain ⟨e3, e4⟩ := ba h2
      rw [e, of_decide_eq_true e1, of_decide_eq_true e2, of_decide_eq_true e3, of_decide_eq_true e4]
    · cases h2
  · split at h3
    · rename_i n tk e
      rw [e, of_decide_eq_true h3]
      exact ⟨tk, rfl⟩
    · cases h3
theorem row_ok {K : Frag} {c : Addr} {k : Nat} : ∀ (ds : List Addr) (j0 : Nat), kitRow K c k j0 ds = true → ∀ (i : Nat) (d : Addr), ds[i]? = some d → kitOne K (.ref c) (.ref d) = some (expT k (j0 + i))
  | [], _, _, i, d, e => by rw [List.getElem?_nil] at e; cases e
  | x :: ds, j0, h, i, d, e => by
    obtain ⟨h1, h2⟩ := ba h
    cases i with
    | zero => cases e; exact of_decide_eq_true h1
    | succ i =>
      have := row_ok ds (j0 + 1) h2 i d e
      rw [show j0 + 1 + i = j0 + (i + 1) by omega] at this
      exact this
theorem sys_ok {K : Frag} (h : sysT K = true) : ∃ o, K.lookup sysModules = some o ∧ o.cls = .type "dict" := by
  unfold sysT at h
  split at h
  · rename_i o e
    exact ⟨o, e, of_decide_eq_true h⟩
  · cases h
end K18T0
namespace K18
open PySem L2
open PySem.Spec PyProof.Rows
/-! ### the head's facts -/
namespace Hd
def top (i : Nat) : Stmt := PySem.Challenge.pw_aboveless_k18_errors_and_sequences.main.body.getD i (.Pass ⟨0, 0, 0, 0⟩)
def tps : List Addr := [1119]
def v_f0 (K : Hx.Fr) : Addr := He.ga K "told_error"
def v_f1 (K : Hx.Fr) : Addr := He.ga K "is_name"
def v_f2 (K : Hx.Fr) : Addr := He.ga K "check_label"
def v_f3 (K : Hx.Fr) : Addr := He.ga K "marks_rank"
def v_f4 (K : Hx.Fr) : Addr := He.ga K "label_rank"
def v_f5 (K : Hx.Fr) : Addr := He.ga K "in_order"
def v_f6 (K : Hx.Fr) : Addr := He.ga K "_law_rng"
def v_f7 (K : Hx.Fr) : Addr := He.ga K "_law_draw"
def v_f8 (K : Hx.Fr) : Addr := He.ga K "_law_choice"
def v_f9 (K : Hx.Fr) : Addr := He.ga K "_law_invalid"
def v_f10 (K : Hx.Fr) : Addr := He.ga K "_law_missing"
def v_f11 (K : Hx.Fr) : Addr := He.ga K "_law_state"
def v_f12 (K : Hx.Fr) : Addr := He.ga K "_law_limit"
def v_f13 (K : Hx.Fr) : Addr := He.ga K "_law_made"
def v_f14 (K : Hx.Fr) : Addr := He.ga K "_law_first_flags"
def v_f15 (K : Hx.Fr) : Addr := He.ga K "_law_second_flags"
def v_f16 (K : Hx.Fr) : Addr := He.ga K "_law_classes"
def v_f17 (K : Hx.Fr) : Addr := He.ga K "_law_first_attributes"
def v_f18 (K : Hx.Fr) : Addr := He.ga K "_law_second_attributes"
def v_f19 (K : Hx.Fr) : Addr := He.ga K "_law_base_right"
def v_f20 (K : Hx.Fr) : Addr := He.ga K "_law_error_right"
def v_f21 (K : Hx.Fr) : Addr := He.ga K "_law_told"
def v_f22 (K : Hx.Fr) : Addr := He.ga K "_law_refused_right"
def v_f23 (K : Hx.Fr) : Addr := He.ga K "law"
def v_tM (K : Hx.Fr) : Tok := Hx.tokOf (Hx.gv K "MOST_LETTERS")
def v_tL (K : Hx.Fr) : Tok := Hx.tokOf (Hx.gv K "LETTERS")
def v_C (K : Hx.Fr) : Addr := He.ga K "Label"
def v_CK0 (K : Hx.Fr) : Addr := He.ga K "InvalidName"
def v_CK1 (K : Hx.Fr) : Addr := He.ga K "InvalidLabel"
def v_CK2 (K : Hx.Fr) : Addr := He.ga K "InvalidText"
def v_CK3 (K : Hx.Fr) : Addr := He.ga K "InvalidRow"
def v_CK4 (K : Hx.Fr) : Addr := He.ga K "InvalidKey"
def v_CK5 (K : Hx.Fr) : Addr := He.ga K "InvalidColumns"
def v_CK6 (K : Hx.Fr) : Addr := He.ga K "InvalidRule"
def v_CK7 (K : Hx.Fr) : Addr := He.ga K "InvalidSource"
def v_CK8 (K : Hx.Fr) : Addr := He.ga K "InvalidEntry"
def v_CK9 (K : Hx.Fr) : Addr := He.ga K "InvalidCount"
def v_CK10 (K : Hx.Fr) : Addr := He.ga K "InvalidCommand"
def v_CK11 (K : Hx.Fr) : Addr := He.ga K "InvalidLine"
def v_CK12 (K : Hx.Fr) : Addr := He.ga K "InvalidEvent"
def v_CK13 (K : Hx.Fr) : Addr := He.ga K "WrongValues"
def v_CK14 (K : Hx.Fr) : Addr := He.ga K "WrongSort"
def v_CK15 (K : Hx.Fr) : Addr := He.ga K "UnknownSource"
def v_CK16 (K : Hx.Fr) : Addr := He.ga K "UnknownColumn"
def v_CK17 (K : Hx.Fr) : Addr := He.ga K "UnknownKind"
def v_CK18 (K : Hx.Fr) : Addr := He.ga K "UnknownEntry"
def v_CK19 (K : Hx.Fr) : Addr := He.ga K "NoEntry"
def v_CK20 (K : Hx.Fr) : Addr := He.ga K "NoRow"
def v_CK21 (K : Hx.Fr) : Addr := He.ga K "NoMemo"
def v_CK22 (K : Hx.Fr) : Addr := He.ga K "UnknownUser"
def v_CK23 (K : Hx.Fr) : Addr := He.ga K "UnknownOffer"
def v_CK24 (K : Hx.Fr) : Addr := He.ga K "NameTaken"
def v_CK25 (K : Hx.Fr) : Addr := He.ga K "Taken"
def v_CK26 (K : Hx.Fr) : Addr := He.ga K "Waiting"
def v_CK27 (K : Hx.Fr) : Addr := He.ga K "Missing"
def v_CK28 (K : Hx.Fr) : Addr := He.ga K "Broken"
def v_CK29 (K : Hx.Fr) : Addr := He.ga K "Restricted"
def v_CK30 (K : Hx.Fr) : Addr := He.ga K "InUse"
def v_CK31 (K : Hx.Fr) : Addr := He.ga K "WouldSuspend"
def v_CK32 (K : Hx.Fr) : Addr := He.ga K "ReplayDiffers"
def v_CK33 (K : Hx.Fr) : Addr := He.ga K "InTransaction"
def v_CK34 (K : Hx.Fr) : Addr := He.ga K "NoTransaction"
def v_CK35 (K : Hx.Fr) : Addr := He.ga K "SessionEnded"
def v_CK36 (K : Hx.Fr) : Addr := He.ga K "OwnOffer"
def v_CK37 (K : Hx.Fr) : Addr := He.ga K "NotAllowed"
def v_CK38 (K : Hx.Fr) : Addr := He.ga K "OutOfSequence"
def v_CK39 (K : Hx.Fr) : Addr := He.ga K "Behind"
def v_CK40 (K : Hx.Fr) : Addr := He.ga K "TooMany"
def v_CK41 (K : Hx.Fr) : Addr := He.ga K "TooDear"
def v_CK42 (K : Hx.Fr) : Addr := He.ga K "InvalidError"
def v_CK43 (K : Hx.Fr) : Addr := He.ga K "MissingError"
def v_CK44 (K : Hx.Fr) : Addr := He.ga K "StateError"
def v_CK45 (K : Hx.Fr) : Addr := He.ga K "LimitError"
def v_fL (K : Hx.Fr) : Addr := He.ma K (v_C K) "__init__"
def v_tk (K : Hx.Fr) : Tok := Hx.tokOf (Hx.cv K (v_C K) "MOST")
def v_gE (K : Hx.Fr) : Addr := He.ma K (v_C K) "__eq__"
def v_gL (K : Hx.Fr) : Addr := He.ma K (v_C K) "__len__"
def v_gS (K : Hx.Fr) : Addr := He.ma K (v_C K) "__str__"
def v_gR (K : Hx.Fr) : Addr := He.ma K (v_C K) "__repr__"
def v_gH (K : Hx.Fr) : Addr := He.ma K (v_C K) "__contains__"
def v_gI (K : Hx.Fr) : Addr := He.ma K (v_C K) "is_below"
def v_gO (K : Hx.Fr) : Addr := He.ma K (v_C K) "__or__"
def v_gA (K : Hx.Fr) : Addr := He.ma K (v_C K) "__and__"
def v_pM (K : Hx.Fr) : Addr := He.ma K (v_C K) "marks"
def v_fK0 (K : Hx.Fr) : Addr := He.ma K (v_CK0 K) "__init__"
def v_fK1 (K : Hx.Fr) : Addr := He.ma K (v_CK1 K) "__init__"
def v_fK2 (K : Hx.Fr) : Addr := He.ma K (v_CK2 K) "__init__"
def v_fK3 (K : Hx.Fr) : Addr := He.ma K (v_CK3 K) "__init__"
def v_fK4 (K : Hx.Fr) : Addr := He.ma K (v_CK4 K) "__init__"
def v_fK5 (K : Hx.Fr) : Addr := He.ma K (v_CK5 K) "__init__"
def v_fK6 (K : Hx.Fr) : Addr := He.ma K (v_CK6 K) "__init__"
def v_fK7 (K : Hx.Fr) : Addr := He.ma K (v_CK7 K) "__init__"
def v_fK8 (K : Hx.Fr) : Addr := He.ma K (v_CK8 K) "__init__"
def v_fK9 (K : Hx.Fr) : Addr := He.ma K (v_CK9 K) "__init__"
def v_fK10 (K : Hx.Fr) : Addr := He.ma K (v_CK10 K) "__init__"
def v_fK11 (K : Hx.Fr) : Addr := He.ma K (v_CK11 K) "__init__"
def v_fK12 (K : Hx.Fr) : Addr := He.ma K (v_CK12 K) "__init__"
def v_fK13 (K : Hx.Fr) : Addr := He.ma K (v_CK13 K) "__init__"
def v_fK14 (K : Hx.Fr) : Addr := He.ma K (v_CK14 K) "__init__"
def v_fK15 (K : Hx.Fr) : Addr := He.ma K (v_CK15 K) "__init__"
def v_fK16 (K : Hx.Fr) : Addr := He.ma K (v_CK16 K) "__init__"
def v_fK17 (K : Hx.Fr) : Addr := He.ma K (v_CK17 K) "__init__"
def v_fK18 (K : Hx.Fr) : Addr := He.ma K (v_CK18 K) "__init__"
def v_fK19 (K : Hx.Fr) : Addr := He.ma K (v_CK19 K) "__init__"
def v_fK20 (K : Hx.Fr) : Addr := He.ma K (v_CK20 K) "__init__"
def v_fK21 (K : Hx.Fr) : Addr := He.ma K (v_CK21 K) "__init__"
def v_fK22 (K : Hx.Fr) : Addr := He.ma K (v_CK22 K) "__init__"
def v_fK23 (K : Hx.Fr) : Addr := He.ma K (v_CK23 K) "__init__"
def v_fK24 (K : Hx.Fr) : Addr := He.ma K (v_CK24 K) "__init__"
def v_fK25 (K : Hx.Fr) : Addr := He.ma K (v_CK25 K) "__init__"
def v_fK26 (K : Hx.Fr) : Addr := He.ma K (v_CK26 K) "__init__"
def v_fK27 (K : Hx.Fr) : Addr := He.ma K (v_CK27 K) "__init__"
def v_fK28 (K : Hx.Fr) : Addr := He.ma K (v_CK28 K) "__init__"
def v_fK29 (K : Hx.Fr) : Addr := He.ma K (v_CK29 K) "__init__"
def v_fK30 (K : Hx.Fr) : Addr := He.ma K (v_CK30 K) "__init__"
def v_fK31 (K : Hx.Fr) : Addr := He.ma K (v_CK31 K) "__init__"
def v_fK32 (K : Hx.Fr) : Addr := He.ma K (v_CK32 K) "__init__"
def v_fK33 (K : Hx.Fr) : Addr := He.ma K (v_CK33 K) "__init__"
def v_fK34 (K : Hx.Fr) : Addr := He.ma K (v_CK34 K) "__init__"
def v_fK35 (K : Hx.Fr) : Addr := He.ma K (v_CK35 K) "__init__"
def v_fK36 (K : Hx.Fr) : Addr := He.ma K (v_CK36 K) "__init__"
def v_fK37 (K : Hx.Fr) : Addr := He.ma K (v_CK37 K) "__init__"
def v_fK38 (K : Hx.Fr) : Addr := He.ma K (v_CK38 K) "__init__"
def v_fK39 (K : Hx.Fr) : Addr := He.ma K (v_CK39 K) "__init__"
def v_fK40 (K : Hx.Fr) : Addr := He.ma K (v_CK40 K) "__init__"
def v_fK41 (K : Hx.Fr) : Addr := He.ma K (v_CK41 K) "__init__"
def v_cR (K : Hx.Fr) : Addr := Hx.rf (Hy.codeV K (v_f22 K))
def v_gM (K : Hx.Fr) : Addr := Hx.pg K (v_pM K)
def v_Pt (K : Hx.Fr) : Addr := Hy.tblA K (v_cR K)
def t0 (K : Hx.Fr) : Bool := decide (PySem.W.nsIn K mainGlobals "told_error" = some (some (.ref (v_f0 K))))
def t1 (K : Hx.Fr) : Bool := decide (PySem.W.nsIn K mainGlobals "is_name" = some (some (.ref (v_f1 K))))
def t2 (K : Hx.Fr) : Bool := decide (PySem.W.nsIn K mainGlobals "check_label" = some (some (.ref (v_f2 K))))
def t3 (K : Hx.Fr) : Bool := decide (PySem.W.nsIn K mainGlobals "marks_rank" = some (some (.ref (v_f3 K))))
def t4 (K : Hx.Fr) : Bool := decide (PySem.W.nsIn K mainGlobals "label_rank" = some (some (.ref (v_f4 K))))
def t5 (K : Hx.Fr) : Bool := decide (PySem.W.nsIn K mainGlobals "in_order" = some (some (.ref (v_f5 K))))
def t6 (K : Hx.Fr) : Bool := decide (PySem.W.nsIn K mainGlobals "_law_rng" = some (some (.ref (v_f6 K))))
def t7 (K : Hx.Fr) : Bool := decide (PySem.W.nsIn K mainGlobals "_law_draw" = some (some (.ref (v_f7 K))))
def t8 (K : Hx.Fr) : Bool := decide (PySem.W.nsIn K mainGlobals "_law_choice" = some (some (.ref (v_f8 K))))
def t9 (K : Hx.Fr) : Bool := decide (PySem.W.nsIn K mainGlobals "_law_invalid" = some (some (.ref (v_f9 K))))
def t10 (K : Hx.Fr) : Bool := decide (PySem.W.nsIn K mainGlobals "_law_missing" = some (some (.ref (v_f10 K))))
def t11 (K : Hx.Fr) : Bool := decide (PySem.W.nsIn K mainGlobals "_law_state" = some (some (.ref (v_f11 K))))
def t12 (K : Hx.Fr) : Bool := decide (PySem.W.nsIn K mainGlobals "_law_limit" = some (some (.ref (v_f12 K))))
def t13 (K : Hx.Fr) : Bool := decide (PySem.W.nsIn K mainGlobals "_law_made" = some (some (.ref (v_f13 K))))
def t14 (K : Hx.Fr) : Bool := decide (PySem.W.nsIn K mainGlobals "_law_first_flags" = some (some (.ref (v_f14 K))))
def t15 (K : Hx.Fr) : Bool := decide (PySem.W.nsIn K mainGlobals "_law_second_flags" = some (some (.ref (v_f15 K))))
def t16 (K : Hx.Fr) : Bool := decide (PySem.W.nsIn K mainGlobals "_law_classes" = some (some (.ref (v_f16 K))))
def t17 (K : Hx.Fr) : Bool := decide (PySem.W.nsIn K mainGlobals "_law_first_attributes" = some (some (.ref (v_f17 K))))
def t18 (K : Hx.Fr) : Bool := decide (PySem.W.nsIn K mainGlobals "_law_second_attributes" = some (some (.ref (v_f18 K))))
def t19 (K : Hx.Fr) : Bool := decide (PySem.W.nsIn K mainGlobals "_law_base_right" = some (some (.ref (v_f19 K))))
def t20 (K : Hx.Fr) : Bool := decide (PySem.W.nsIn K mainGlobals "_law_error_right" = some (some (.ref (v_f20 K))))
def t21 (K : Hx.Fr) : Bool := decide (PySem.W.nsIn K mainGlobals "_law_told" = some (some (.ref (v_f21 K))))
def t22 (K : Hx.Fr) : Bool := decide (PySem.W.nsIn K mainGlobals "_law_refused_right" = some (some (.ref (v_f22 K))))
def t23 (K : Hx.Fr) : Bool := decide (PySem.W.nsIn K mainGlobals "law" = some (some (.ref (v_f23 K))))
def t24 (K : Hx.Fr) : Bool := decide (PySem.W.nsIn K mainGlobals "len" = some none)
def t25 (K : Hx.Fr) : Bool := decide (PySem.W.nsIn K mainGlobals "abs" = some none)
def t26 (K : Hx.Fr) : Bool := decide (PySem.W.nsIn K mainGlobals "max" = some none)
def t27 (K : Hx.Fr) : Bool := decide (PySem.W.nsIn K mainGlobals "min" = some none)
def t28 (K : Hx.Fr) : Bool := decide (PySem.W.nsIn K mainGlobals "int" = some none)
def t29 (K : Hx.Fr) : Bool := decide (PySem.W.nsIn K mainGlobals "divmod" = some none)
def t30 (K : Hx.Fr) : Bool := decide (PySem.W.nsIn K mainGlobals "range" = some none)
def t31 (K : Hx.Fr) : Bool := decide (PySem.W.nsIn K mainGlobals "all" = some none)
def t32 (K : Hx.Fr) : Bool := decide (PySem.W.nsIn K mainGlobals "isinstance" = some none)
def t33 (K : Hx.Fr) : Bool := decide (PySem.W.nsIn K mainGlobals "str" = some none)
def t34 (K : Hx.Fr) : Bool := decide (PySem.W.nsIn K mainGlobals "bool" = some none)
def t35 (K : Hx.Fr) : Bool := decide (PySem.W.nsIn K mainGlobals "repr" = some none)
def t36 (K : Hx.Fr) : Bool := decide (PySem.W.nsIn K mainGlobals "tuple" = some none)
def t37 (K : Hx.Fr) : Bool := decide (PySem.W.nsIn K mainGlobals "set" = some none)
def t38 (K : Hx.Fr) : Bool := decide (PySem.W.nsIn K mainGlobals "sorted" = some none)
def t39 (K : Hx.Fr) : Bool := decide (PySem.W.nsIn K mainGlobals "list" = some none)
def t40 (K : Hx.Fr) : Bool := decide (PySem.W.nsIn K mainGlobals "ValueError" = some none)
def t41 (K : Hx.Fr) : Bool := decide (PySem.W.nsIn K mainGlobals "LookupError" = some none)
def t42 (K : Hx.Fr) : Bool := decide (PySem.W.nsIn K mainGlobals "RuntimeError" = some none)
def t43 (K : Hx.Fr) : Bool := decide (PySem.W.nsIn K mainGlobals "ArithmeticError" = some none)
def t44 (K : Hx.Fr) : Bool := decide (PySem.W.nsIn K mainGlobals "KeyError" = some none)
def t45 (K : Hx.Fr) : Bool := decide (PySem.W.nsIn K mainGlobals "IndexError" = some none)
def t46 (K : Hx.Fr) : Bool := decide (PySem.W.nsIn K mainGlobals "ZeroDivisionError" = some none)
def t47 (K : Hx.Fr) : Bool := decide (PySem.W.nsIn K mainGlobals "OverflowError" = some none)
def t48 (K : Hx.Fr) : Bool := decide (PySem.W.nsIn K mainGlobals "MOST_LETTERS" = some (some (.int 8 (v_tM K))))
def t49 (K : Hx.Fr) : Bool := decide (PySem.W.nsIn K mainGlobals "LETTERS" = some (some (.str "abcdefghijklmnopqrstuvwxyz" (v_tL K))))
def t50 (K : Hx.Fr) : Bool := decide (PySem.W.nsIn K mainGlobals "Label" = some (some (.ref (v_C K))))
def t51 (K : Hx.Fr) : Bool := PySem.W.makesIn K (v_C K)
def t52 (K : Hx.Fr) : Bool := decide (PySem.W.findIn K (.ref (v_C K)) "__init__" = some (some (.ref (v_fL K))))
def t53 (K : Hx.Fr) : Bool := PySem.W.isFn K (.ref (v_fL K))
def t54 (K : Hx.Fr) : Bool := PySem.W.keepIn K (.ref (v_C K))
def t55 (K : Hx.Fr) : Bool := PySem.W.plainGet K (v_C K) Str.empty
def t56 (K : Hx.Fr) : Bool := PySem.W.hasDictIn K (v_C K)
def t57 (K : Hx.Fr) : Bool := PySem.W.plainOver K (v_C K)
def t58 (K : Hx.Fr) : Bool := decide (PySem.W.findIn K (.ref (v_C K)) "__setattr__" = some (some (.builtin "object.__setattr__")))
def t59 (K : Hx.Fr) : Bool := PySem.W.readsIn K (v_C K) (.type "type")
def t60 (K : Hx.Fr) : Bool := decide (PySem.W.specialIn K (.ref (v_C K)) "__getattribute__" = some (some (.builtin "type.__getattribute__")))
def t61 (K : Hx.Fr) : Bool := Hx.cvB K (v_C K) "MOST" (.int 4 (v_tk K))
def t62 (K : Hx.Fr) : Bool := decide (PySem.W.findIn K (.ref (v_C K)) "_marks" = some none)
def t63 (K : Hx.Fr) : Bool := decide (PySem.W.findIn K (.ref (v_C K)) "_text" = some none)
def t64 (K : Hx.Fr) : Bool := PySem.W.isClsIn K (v_C K)
def t65 (K : Hx.Fr) : Bool := decide (PySem.W.typeIn K (.ref (v_C K)) = some (.type "type"))
def t66 (K : Hx.Fr) : Bool := decide (PySem.W.findIn K (.ref (v_C K)) "__eq__" = some (some (.ref (v_gE K))))
def t67 (K : Hx.Fr) : Bool := PySem.W.isFn K (.ref (v_gE K))
def t68 (K : Hx.Fr) : Bool := decide (PySem.W.findIn K (.ref (v_C K)) "__len__" = some (some (.ref (v_gL K))))
def t69 (K : Hx.Fr) : Bool := PySem.W.isFn K (.ref (v_gL K))
def t70 (K : Hx.Fr) : Bool := decide (PySem.W.findIn K (.ref (v_C K)) "__str__" = some (some (.ref (v_gS K))))
def t71 (K : Hx.Fr) : Bool := PySem.W.isFn K (.ref (v_gS K))
def t72 (K : Hx.Fr) : Bool := decide (PySem.W.findIn K (.ref (v_C K)) "__repr__" = some (some (.ref (v_gR K))))
def t73 (K : Hx.Fr) : Bool := PySem.W.isFn K (.ref (v_gR K))
def t74 (K : Hx.Fr) : Bool := decide (PySem.W.findIn K (.ref (v_C K)) "__contains__" = some (some (.ref (v_gH K))))
def t75 (K : Hx.Fr) : Bool := PySem.W.isFn K (.ref (v_gH K))
def t76 (K : Hx.Fr) : Bool := decide (PySem.W.findIn K (.ref (v_C K)) "is_below" = some (some (.ref (v_gI K))))
def t77 (K : Hx.Fr) : Bool := PySem.W.isFn K (.ref (v_gI K))
def t78 (K : Hx.Fr) : Bool := PySem.W.keepIn K (.ref (v_gI K))
def t79 (K : Hx.Fr) : Bool := decide (PySem.W.findIn K (.ref (v_C K)) "__or__" = some (some (.ref (v_gO K))))
def t80 (K : Hx.Fr) : Bool := PySem.W.isFn K (.ref (v_gO K))
def t81 (K : Hx.Fr) : Bool := decide (PySem.W.findIn K (.ref (v_C K)) "__and__" = some (some (.ref (v_gA K))))
def t82 (K : Hx.Fr) : Bool := PySem.W.isFn K (.ref (v_gA K))
def t83 (K : Hx.Fr) : Bool := PySem.W.selfFirst K (v_C K)
def t84 (K : Hx.Fr) : Bool := decide (PySem.W.findIn K (.ref (v_C K)) "__ror__" = some none)
def t85 (K : Hx.Fr) : Bool := decide (PySem.W.findIn K (.ref (v_C K)) "__rand__" = some none)
def t86 (K : Hx.Fr) : Bool := (PySem.W.findIn K (.type "NoneType") "__or__").isSome
def t87 (K : Hx.Fr) : Bool := (PySem.W.findIn K (.type "bool") "__or__").isSome
def t88 (K : Hx.Fr) : Bool := (PySem.W.findIn K (.type "int") "__or__").isSome
def t89 (K : Hx.Fr) : Bool := (PySem.W.findIn K (.type "str") "__or__").isSome
def t90 (K : Hx.Fr) : Bool := (PySem.W.findIn K (.type "list") "__or__").isSome
def t91 (K : Hx.Fr) : Bool := (PySem.W.findIn K (.type "tuple") "__or__").isSome
def t92 (K : Hx.Fr) : Bool := (PySem.W.findIn K (.type "dict") "__or__").isSome
def t93 (K : Hx.Fr) : Bool := (PySem.W.findIn K (.type "NoneType") "__ror__").isSome
def t94 (K : Hx.Fr) : Bool := (PySem.W.findIn K (.type "bool") "__ror__").isSome
def t95 (K : Hx.Fr) : Bool := (PySem.W.findIn K (.type "int") "__ror__").isSome
def t96 (K : Hx.Fr) : Bool := (PySem.W.findIn K (.type "str") "__ror__").isSome
def t97 (K : Hx.Fr) : Bool := (PySem.W.findIn K (.type "list") "__ror__").isSome
def t98 (K : Hx.Fr) : Bool := (PySem.W.findIn K (.type "tuple") "__ror__").isSome
def t99 (K : Hx.Fr) : Bool := (PySem.W.findIn K (.type "dict") "__ror__").isSome
def t100 (K : Hx.Fr) : Bool := (PySem.W.findIn K (.type "NoneType") "__and__").isSome
def t101 (K : Hx.Fr) : Bool := (PySem.W.findIn K (.type "bool") "__and__").isSome
def t102 (K : Hx.Fr) : Bool := (PySem.W.findIn K (.type "int") "__and__").isSome
def t103 (K : Hx.Fr) : Bool := (PySem.W.findIn K (.type "str") "__and__").isSome
def t104 (K : Hx.Fr) : Bool := (PySem.W.findIn K (.type "list") "__and__").isSome
def t105 (K : Hx.Fr) : Bool := (PySem.W.findIn K (.type "tuple") "__and__").isSome
def t106 (K : Hx.Fr) : Bool := (PySem.W.findIn K (.type "dict") "__and__").isSome
def t107 (K : Hx.Fr) : Bool := (PySem.W.findIn K (.type "NoneType") "__rand__").isSome
def t108 (K : Hx.Fr) : Bool := (PySem.W.findIn K (.type "bool") "__rand__").isSome
def t109 (K : Hx.Fr) : Bool := (PySem.W.findIn K (.type "int") "__rand__").isSome
def t110 (K : Hx.Fr) : Bool := (PySem.W.findIn K (.type "str") "__rand__").isSome
def t111 (K : Hx.Fr) : Bool := (PySem.W.findIn K (.type "list") "__rand__").isSome
def t112 (K : Hx.Fr) : Bool := (PySem.W.findIn K (.type "tuple") "__rand__").isSome
def t113 (K : Hx.Fr) : Bool := (PySem.W.findIn K (.type "dict") "__rand__").isSome
def t114 (K : Hx.Fr) : Bool := decide (PySem.W.findIn K (.ref (v_C K)) "__ne__" = some (some (.builtin "object.__ne__")))
def t115 (K : Hx.Fr) : Bool := decide (PySem.W.subIn K (.ref (v_C K)) (.type "object") = some true)
def t116 (K : Hx.Fr) : Bool := decide (PySem.W.subIn K (.ref (v_C K)) (.type "NoneType") = some false)
def t117 (K : Hx.Fr) : Bool := decide (PySem.W.subIn K (.type "NoneType") (.ref (v_C K)) = some false)
def t118 (K : Hx.Fr) : Bool := decide (PySem.W.subIn K (.ref (v_C K)) (.type "bool") = some false)
def t119 (K : Hx.Fr) : Bool := decide (PySem.W.subIn K (.type "bool") (.ref (v_C K)) = some false)
def t120 (K : Hx.Fr) : Bool := decide (PySem.W.subIn K (.ref (v_C K)) (.type "int") = some false)
def t121 (K : Hx.Fr) : Bool := decide (PySem.W.subIn K (.type "int") (.ref (v_C K)) = some false)
def t122 (K : Hx.Fr) : Bool := decide (PySem.W.subIn K (.ref (v_C K)) (.type "str") = some false)
def t123 (K : Hx.Fr) : Bool := decide (PySem.W.subIn K (.type "str") (.ref (v_C K)) = some false)
def t124 (K : Hx.Fr) : Bool := decide (PySem.W.subIn K (.ref (v_C K)) (.type "list") = some false)
def t125 (K : Hx.Fr) : Bool := decide (PySem.W.subIn K (.type "list") (.ref (v_C K)) = some false)
def t126 (K : Hx.Fr) : Bool := decide (PySem.W.subIn K (.ref (v_C K)) (.type "tuple") = some false)
def t127 (K : Hx.Fr) : Bool := decide (PySem.W.subIn K (.type "tuple") (.ref (v_C K)) = some false)
def t128 (K : Hx.Fr) : Bool := decide (PySem.W.subIn K (.ref (v_C K)) (.type "dict") = some false)
def t129 (K : Hx.Fr) : Bool := decide (PySem.W.subIn K (.type "dict") (.ref (v_C K)) = some false)
def t130 (K : Hx.Fr) : Bool := decide (PySem.W.findIn K (.ref (v_C K)) "marks" = some (some (.ref (v_pM K))))
def t131 (K : Hx.Fr) : Bool := decide (PySem.W.specialIn K (.ref (v_pM K)) "__get__" = some (some (.builtin "property.__get__")))
def t132 (K : Hx.Fr) : Bool := decide (PySem.W.takesIn K (.ref (v_pM K)) = some true)
def t133 (K : Hx.Fr) : Bool := Hx.pgB K (v_pM K)
def t134 (K : Hx.Fr) : Bool := decide (PySem.W.findIn K (.ref (v_C K)) "__class__" = some (some (.builtin "object.__class__")))
def t135 (K : Hx.Fr) : Bool := decide (PySem.W.specialIn K (.builtin "object.__class__") "__get__" = some (some (.builtin "getset_descriptor.__get__")))
def t136 (K : Hx.Fr) : Bool := decide (PySem.W.takesIn K (.builtin "object.__class__") = some true)
def t137 (K : Hx.Fr) : Bool := decide (PySem.W.mroIn K (v_C K) (.type "object") = some true)
def t138 (K : Hx.Fr) : Bool := decide (PySem.W.nsIn K mainGlobals "InvalidName" = some (some (.ref (v_CK0 K))))
def t139 (K : Hx.Fr) : Bool := decide (PySem.W.findIn K (.ref (v_CK0 K)) "__init__" = some (some (.ref (v_fK0 K))))
def t140 (K : Hx.Fr) : Bool := K18T0.ownT K "ValueError" "ValueError.__new__" ["value"] ["LookupError", "RuntimeError", "ArithmeticError"] (v_CK0 K) (v_fK0 K)
def t141 (K : Hx.Fr) : Bool := K18T0.excT K (v_CK0 K)
def t142 (K : Hx.Fr) : Bool := K18T0.nameT K "InvalidName" (v_CK0 K)
def t143 (K : Hx.Fr) : Bool := decide (PySem.W.nsIn K mainGlobals "InvalidLabel" = some (some (.ref (v_CK1 K))))
def t144 (K : Hx.Fr) : Bool := decide (PySem.W.findIn K (.ref (v_CK1 K)) "__init__" = some (some (.ref (v_fK1 K))))
def t145 (K : Hx.Fr) : Bool := K18T0.ownT K "ValueError" "ValueError.__new__" ["value"] ["LookupError", "RuntimeError", "ArithmeticError"] (v_CK1 K) (v_fK1 K)
def t146 (K : Hx.Fr) : Bool := K18T0.excT K (v_CK1 K)
def t147 (K : Hx.Fr) : Bool := K18T0.nameT K "InvalidLabel" (v_CK1 K)
def t148 (K : Hx.Fr) : Bool := decide (PySem.W.nsIn K mainGlobals "InvalidText" = some (some (.ref (v_CK2 K))))
def t149 (K : Hx.Fr) : Bool := decide (PySem.W.findIn K (.ref (v_CK2 K)) "__init__" = some (some (.ref (v_fK2 K))))
def t150 (K : Hx.Fr) : Bool := K18T0.ownT K "ValueError" "ValueError.__new__" ["problem"] ["LookupError", "RuntimeError", "ArithmeticError"] (v_CK2 K) (v_fK2 K)
def t151 (K : Hx.Fr) : Bool := K18T0.excT K (v_CK2 K)
def t152 (K : Hx.Fr) : Bool := K18T0.nameT K "InvalidText" (v_CK2 K)
def t153 (K : Hx.Fr) : Bool := decide (PySem.W.nsIn K mainGlobals "InvalidRow" = some (some (.ref (v_CK3 K))))
def t154 (K : Hx.Fr) : Bool := decide (PySem.W.findIn K (.ref (v_CK3 K)) "__init__" = some (some (.ref (v_fK3 K))))
def t155 (K : Hx.Fr) : Bool := K18T0.ownT K "ValueError" "ValueError.__new__" ["value"] ["LookupError", "RuntimeError", "ArithmeticError"] (v_CK3 K) (v_fK3 K)
def t156 (K : Hx.Fr) : Bool := K18T0.excT K (v_CK3 K)
def t157 (K : Hx.Fr) : Bool := K18T0.nameT K "InvalidRow" (v_CK3 K)
def t158 (K : Hx.Fr) : Bool := decide (PySem.W.nsIn K mainGlobals "InvalidKey" = some (some (.ref (v_CK4 K))))
def t159 (K : Hx.Fr) : Bool := decide (PySem.W.findIn K (.ref (v_CK4 K)) "__init__" = some (some (.ref (v_fK4 K))))
def t160 (K : Hx.Fr) : Bool := K18T0.ownT K "ValueError" "ValueError.__new__" ["value"] ["LookupError", "RuntimeError", "ArithmeticError"] (v_CK4 K) (v_fK4 K)
def t161 (K : Hx.Fr) : Bool := K18T0.excT K (v_CK4 K)
def t162 (K : Hx.Fr) : Bool := K18T0.nameT K "InvalidKey" (v_CK4 K)
def t163 (K : Hx.Fr) : Bool := decide (PySem.W.nsIn K mainGlobals "InvalidColumns" = some (some (.ref (v_CK5 K))))
def t164 (K : Hx.Fr) : Bool := decide (PySem.W.findIn K (.ref (v_CK5 K)) "__init__" = some (some (.ref (v_fK5 K))))
def t165 (K : Hx.Fr) : Bool := K18T0.ownT K "ValueError" "ValueError.__new__" ["position"] ["LookupError", "RuntimeError", "ArithmeticError"] (v_CK5 K) (v_fK5 K)
def t166 (K : Hx.Fr) : Bool := K18T0.excT K (v_CK5 K)
def t167 (K : Hx.Fr) : Bool := K18T0.nameT K "InvalidColumns" (v_CK5 K)
def t168 (K : Hx.Fr) : Bool := decide (PySem.W.nsIn K mainGlobals "InvalidRule" = some (some (.ref (v_CK6 K))))
def t169 (K : Hx.Fr) : Bool := decide (PySem.W.findIn K (.ref (v_CK6 K)) "__init__" = some (some (.ref (v_fK6 K))))
def t170 (K : Hx.Fr) : Bool := K18T0.ownT K "ValueError" "ValueError.__new__" ["rule"] ["LookupError", "RuntimeError", "ArithmeticError"] (v_CK6 K) (v_fK6 K)
def t171 (K : Hx.Fr) : Bool := K18T0.excT K (v_CK6 K)
def t172 (K : Hx.Fr) : Bool := K18T0.nameT K "InvalidRule" (v_CK6 K)
def t173 (K : Hx.Fr) : Bool := decide (PySem.W.nsIn K mainGlobals "InvalidSource" = some (some (.ref (v_CK7 K))))
def t174 (K : Hx.Fr) : Bool := decide (PySem.W.findIn K (.ref (v_CK7 K)) "__init__" = some (some (.ref (v_fK7 K))))
def t175 (K : Hx.Fr) : Bool := K18T0.ownT K "ValueError" "ValueError.__new__" ["value"] ["LookupError", "RuntimeError", "ArithmeticError"] (v_CK7 K) (v_fK7 K)
def t176 (K : Hx.Fr) : Bool := K18T0.excT K (v_CK7 K)
def t177 (K : Hx.Fr) : Bool := K18T0.nameT K "InvalidSource" (v_CK7 K)
def t178 (K : Hx.Fr) : Bool := decide (PySem.W.nsIn K mainGlobals "InvalidEntry" = some (some (.ref (v_CK8 K))))
def t179 (K : Hx.Fr) : Bool := decide (PySem.W.findIn K (.ref (v_CK8 K)) "__init__" = some (some (.ref (v_fK8 K))))
def t180 (K : Hx.Fr) : Bool := K18T0.ownT K "ValueError" "ValueError.__new__" ["value"] ["LookupError", "RuntimeError", "ArithmeticError"] (v_CK8 K) (v_fK8 K)
def t181 (K : Hx.Fr) : Bool := K18T0.excT K (v_CK8 K)
def t182 (K : Hx.Fr) : Bool := K18T0.nameT K "InvalidEntry" (v_CK8 K)
def t183 (K : Hx.Fr) : Bool := decide (PySem.W.nsIn K mainGlobals "InvalidCount" = some (some (.ref (v_CK9 K))))
def t184 (K : Hx.Fr) : Bool := decide (PySem.W.findIn K (.ref (v_CK9 K)) "__init__" = some (some (.ref (v_fK9 K))))
def t185 (K : Hx.Fr) : Bool := K18T0.ownT K "ValueError" "ValueError.__new__" ["value"] ["LookupError", "RuntimeError", "ArithmeticError"] (v_CK9 K) (v_fK9 K)
def t186 (K : Hx.Fr) : Bool := K18T0.excT K (v_CK9 K)
def t187 (K : Hx.Fr) : Bool := K18T0.nameT K "InvalidCount" (v_CK9 K)
def t188 (K : Hx.Fr) : Bool := decide (PySem.W.nsIn K mainGlobals "InvalidCommand" = some (some (.ref (v_CK10 K))))
def t189 (K : Hx.Fr) : Bool := decide (PySem.W.findIn K (.ref (v_CK10 K)) "__init__" = some (some (.ref (v_fK10 K))))
def t190 (K : Hx.Fr) : Bool := K18T0.ownT K "ValueError" "ValueError.__new__" ["value"] ["LookupError", "RuntimeError", "ArithmeticError"] (v_CK10 K) (v_fK10 K)
def t191 (K : Hx.Fr) : Bool := K18T0.excT K (v_CK10 K)
def t192 (K : Hx.Fr) : Bool := K18T0.nameT K "InvalidCommand" (v_CK10 K)
def t193 (K : Hx.Fr) : Bool := decide (PySem.W.nsIn K mainGlobals "InvalidLine" = some (some (.ref (v_CK11 K))))
def t194 (K : Hx.Fr) : Bool := decide (PySem.W.findIn K (.ref (v_CK11 K)) "__init__" = some (some (.ref (v_fK11 K))))
def t195 (K : Hx.Fr) : Bool := K18T0.ownT K "ValueError" "ValueError.__new__" ["value"] ["LookupError", "RuntimeError", "ArithmeticError"] (v_CK11 K) (v_fK11 K)
def t196 (K : Hx.Fr) : Bool := K18T0.excT K (v_CK11 K)
def t197 (K : Hx.Fr) : Bool := K18T0.nameT K "InvalidLine" (v_CK11 K)
def t198 (K : Hx.Fr) : Bool := decide (PySem.W.nsIn K mainGlobals "InvalidEvent" = some (some (.ref (v_CK12 K))))
def t199 (K : Hx.Fr) : Bool := decide (PySem.W.findIn K (.ref (v_CK12 K)) "__init__" = some (some (.ref (v_fK12 K))))
def t200 (K : Hx.Fr) : Bool := K18T0.ownT K "ValueError" "ValueError.__new__" ["value"] ["LookupError", "RuntimeError", "ArithmeticError"] (v_CK12 K) (v_fK12 K)
def t201 (K : Hx.Fr) : Bool := K18T0.excT K (v_CK12 K)
def t202 (K : Hx.Fr) : Bool := K18T0.nameT K "InvalidEvent" (v_CK12 K)
def t203 (K : Hx.Fr) : Bool := decide (PySem.W.nsIn K mainGlobals "WrongValues" = some (some (.ref (v_CK13 K))))
def t204 (K : Hx.Fr) : Bool := decide (PySem.W.findIn K (.ref (v_CK13 K)) "__init__" = some (some (.ref (v_fK13 K))))
def t205 (K : Hx.Fr) : Bool := K18T0.ownT K "ValueError" "ValueError.__new__" ["wrong"] ["LookupError", "RuntimeError", "ArithmeticError"] (v_CK13 K) (v_fK13 K)
def t206 (K : Hx.Fr) : Bool := K18T0.excT K (v_CK13 K)
def t207 (K : Hx.Fr) : Bool := K18T0.nameT K "WrongValues" (v_CK13 K)
def t208 (K : Hx.Fr) : Bool := decide (PySem.W.nsIn K mainGlobals "WrongSort" = some (some (.ref (v_CK14 K))))
def t209 (K : Hx.Fr) : Bool := decide (PySem.W.findIn K (.ref (v_CK14 K)) "__init__" = some (some (.ref (v_fK14 K))))
def t210 (K : Hx.Fr) : Bool := K18T0.ownT K "ValueError" "ValueError.__new__" ["place"] ["LookupError", "RuntimeError", "ArithmeticError"] (v_CK14 K) (v_fK14 K)
def t211 (K : Hx.Fr) : Bool := K18T0.excT K (v_CK14 K)
def t212 (K : Hx.Fr) : Bool := K18T0.nameT K "WrongSort" (v_CK14 K)
def t213 (K : Hx.Fr) : Bool := decide (PySem.W.nsIn K mainGlobals "UnknownSource" = some (some (.ref (v_CK15 K))))
def t214 (K : Hx.Fr) : Bool := decide (PySem.W.findIn K (.ref (v_CK15 K)) "__init__" = some (some (.ref (v_fK15 K))))
def t215 (K : Hx.Fr) : Bool := K18T0.ownT K "LookupError" "LookupError.__new__" ["source"] ["ValueError", "RuntimeError", "ArithmeticError", "KeyError", "IndexError"] (v_CK15 K) (v_fK15 K)
def t216 (K : Hx.Fr) : Bool := K18T0.excT K (v_CK15 K)
def t217 (K : Hx.Fr) : Bool := K18T0.nameT K "UnknownSource" (v_CK15 K)
def t218 (K : Hx.Fr) : Bool := decide (PySem.W.nsIn K mainGlobals "UnknownColumn" = some (some (.ref (v_CK16 K))))
def t219 (K : Hx.Fr) : Bool := decide (PySem.W.findIn K (.ref (v_CK16 K)) "__init__" = some (some (.ref (v_fK16 K))))
def t220 (K : Hx.Fr) : Bool := K18T0.ownT K "LookupError" "LookupError.__new__" ["column"] ["ValueError", "RuntimeError", "ArithmeticError", "KeyError", "IndexError"] (v_CK16 K) (v_fK16 K)
def t221 (K : Hx.Fr) : Bool := K18T0.excT K (v_CK16 K)
def t222 (K : Hx.Fr) : Bool := K18T0.nameT K "UnknownColumn" (v_CK16 K)
def t223 (K : Hx.Fr) : Bool := decide (PySem.W.nsIn K mainGlobals "UnknownKind" = some (some (.ref (v_CK17 K))))
def t224 (K : Hx.Fr) : Bool := decide (PySem.W.findIn K (.ref (v_CK17 K)) "__init__" = some (some (.ref (v_fK17 K))))
def t225 (K : Hx.Fr) : Bool := K18T0.ownT K "LookupError" "LookupError.__new__" ["kind"] ["ValueError", "RuntimeError", "ArithmeticError", "KeyError", "IndexError"] (v_CK17 K) (v_fK17 K)
def t226 (K : Hx.Fr) : Bool := K18T0.excT K (v_CK17 K)
def t227 (K : Hx.Fr) : Bool := K18T0.nameT K "UnknownKind" (v_CK17 K)
def t228 (K : Hx.Fr) : Bool := decide (PySem.W.nsIn K mainGlobals "UnknownEntry" = some (some (.ref (v_CK18 K))))
def t229 (K : Hx.Fr) : Bool := decide (PySem.W.findIn K (.ref (v_CK18 K)) "__init__" = some (some (.ref (v_fK18 K))))
def t230 (K : Hx.Fr) : Bool := K18T0.ownT K "LookupError" "LookupError.__new__" ["name"] ["ValueError", "RuntimeError", "ArithmeticError", "KeyError", "IndexError"] (v_CK18 K) (v_fK18 K)
def t231 (K : Hx.Fr) : Bool := K18T0.excT K (v_CK18 K)
def t232 (K : Hx.Fr) : Bool := K18T0.nameT K "UnknownEntry" (v_CK18 K)
def t233 (K : Hx.Fr) : Bool := decide (PySem.W.nsIn K mainGlobals "NoEntry" = some (some (.ref (v_CK19 K))))
def t234 (K : Hx.Fr) : Bool := decide (PySem.W.findIn K (.ref (v_CK19 K)) "__init__" = some (some (.ref (v_fK19 K))))
def t235 (K : Hx.Fr) : Bool := K18T0.ownT K "LookupError" "LookupError.__new__" ["key"] ["ValueError", "RuntimeError", "ArithmeticError", "KeyError", "IndexError"] (v_CK19 K) (v_fK19 K)
def t236 (K : Hx.Fr) : Bool := K18T0.excT K (v_CK19 K)
def t237 (K : Hx.Fr) : Bool := K18T0.nameT K "NoEntry" (v_CK19 K)
def t238 (K : Hx.Fr) : Bool := decide (PySem.W.nsIn K mainGlobals "NoRow" = some (some (.ref (v_CK20 K))))
def t239 (K : Hx.Fr) : Bool := decide (PySem.W.findIn K (.ref (v_CK20 K)) "__init__" = some (some (.ref (v_fK20 K))))
def t240 (K : Hx.Fr) : Bool := K18T0.ownT K "LookupError" "LookupError.__new__" ["key"] ["ValueError", "RuntimeError", "ArithmeticError", "KeyError", "IndexError"] (v_CK20 K) (v_fK20 K)
def t241 (K : Hx.Fr) : Bool := K18T0.excT K (v_CK20 K)
def t242 (K : Hx.Fr) : Bool := K18T0.nameT K "NoRow" (v_CK20 K)
def t243 (K : Hx.Fr) : Bool := decide (PySem.W.nsIn K mainGlobals "NoMemo" = some (some (.ref (v_CK21 K))))
def t244 (K : Hx.Fr) : Bool := decide (PySem.W.findIn K (.ref (v_CK21 K)) "__init__" = some (some (.ref (v_fK21 K))))
def t245 (K : Hx.Fr) : Bool := K18T0.ownT K "LookupError" "LookupError.__new__" ["view"] ["ValueError", "RuntimeError", "ArithmeticError", "KeyError", "IndexError"] (v_CK21 K) (v_fK21 K)
def t246 (K : Hx.Fr) : Bool := K18T0.excT K (v_CK21 K)
def t247 (K : Hx.Fr) : Bool := K18T0.nameT K "NoMemo" (v_CK21 K)
def t248 (K : Hx.Fr) : Bool := decide (PySem.W.nsIn K mainGlobals "UnknownUser" = some (some (.ref (v_CK22 K))))
def t249 (K : Hx.Fr) : Bool := decide (PySem.W.findIn K (.ref (v_CK22 K)) "__init__" = some (some (.ref (v_fK22 K))))
def t250 (K : Hx.Fr) : Bool := K18T0.ownT K "LookupError" "LookupError.__new__" ["name"] ["ValueError", "RuntimeError", "ArithmeticError", "KeyError", "IndexError"] (v_CK22 K) (v_fK22 K)
def t251 (K : Hx.Fr) : Bool := K18T0.excT K (v_CK22 K)
def t252 (K : Hx.Fr) : Bool := K18T0.nameT K "UnknownUser" (v_CK22 K)
def t253 (K : Hx.Fr) : Bool := decide (PySem.W.nsIn K mainGlobals "UnknownOffer" = some (some (.ref (v_CK23 K))))
def t254 (K : Hx.Fr) : Bool := decide (PySem.W.findIn K (.ref (v_CK23 K)) "__init__" = some (some (.ref (v_fK23 K))))
def t255 (K : Hx.Fr) : Bool := K18T0.ownT K "LookupError" "LookupError.__new__" ["number"] ["ValueError", "RuntimeError", "ArithmeticError", "KeyError", "IndexError"] (v_CK23 K) (v_fK23 K)
def t256 (K : Hx.Fr) : Bool := K18T0.excT K (v_CK23 K)
def t257 (K : Hx.Fr) : Bool := K18T0.nameT K "UnknownOffer" (v_CK23 K)
def t258 (K : Hx.Fr) : Bool := decide (PySem.W.nsIn K mainGlobals "NameTaken" = some (some (.ref (v_CK24 K))))
def t259 (K : Hx.Fr) : Bool := decide (PySem.W.findIn K (.ref (v_CK24 K)) "__init__" = some (some (.ref (v_fK24 K))))
def t260 (K : Hx.Fr) : Bool := K18T0.ownT K "RuntimeError" "RuntimeError.__new__" ["name"] ["ValueError", "LookupError", "ArithmeticError"] (v_CK24 K) (v_fK24 K)
def t261 (K : Hx.Fr) : Bool := K18T0.excT K (v_CK24 K)
def t262 (K : Hx.Fr) : Bool := K18T0.nameT K "NameTaken" (v_CK24 K)
def t263 (K : Hx.Fr) : Bool := decide (PySem.W.nsIn K mainGlobals "Taken" = some (some (.ref (v_CK25 K))))
def t264 (K : Hx.Fr) : Bool := decide (PySem.W.findIn K (.ref (v_CK25 K)) "__init__" = some (some (.ref (v_fK25 K))))
def t265 (K : Hx.Fr) : Bool := K18T0.ownT K "RuntimeError" "RuntimeError.__new__" ["key"] ["ValueError", "LookupError", "ArithmeticError"] (v_CK25 K) (v_fK25 K)
def t266 (K : Hx.Fr) : Bool := K18T0.excT K (v_CK25 K)
def t267 (K : Hx.Fr) : Bool := K18T0.nameT K "Taken" (v_CK25 K)
def t268 (K : Hx.Fr) : Bool := decide (PySem.W.nsIn K mainGlobals "Waiting" = some (some (.ref (v_CK26 K))))
def t269 (K : Hx.Fr) : Bool := decide (PySem.W.findIn K (.ref (v_CK26 K)) "__init__" = some (some (.ref (v_fK26 K))))
def t270 (K : Hx.Fr) : Bool := K18T0.ownT K "RuntimeError" "RuntimeError.__new__" ["key"] ["ValueError", "LookupError", "ArithmeticError"] (v_CK26 K) (v_fK26 K)
def t271 (K : Hx.Fr) : Bool := K18T0.excT K (v_CK26 K)
def t272 (K : Hx.Fr) : Bool := K18T0.nameT K "Waiting" (v_CK26 K)
def t273 (K : Hx.Fr) : Bool := decide (PySem.W.nsIn K mainGlobals "Missing" = some (some (.ref (v_CK27 K))))
def t274 (K : Hx.Fr) : Bool := decide (PySem.W.findIn K (.ref (v_CK27 K)) "__init__" = some (some (.ref (v_fK27 K))))
def t275 (K : Hx.Fr) : Bool := K18T0.ownT K "RuntimeError" "RuntimeError.__new__" ["reference", "key"] ["ValueError", "LookupError", "ArithmeticError"] (v_CK27 K) (v_fK27 K)
def t276 (K : Hx.Fr) : Bool := K18T0.excT K (v_CK27 K)
def t277 (K : Hx.Fr) : Bool := K18T0.nameT K "Missing" (v_CK27 K)
def t278 (K : Hx.Fr) : Bool := decide (PySem.W.nsIn K mainGlobals "Broken" = some (some (.ref (v_CK28 K))))
def t279 (K : Hx.Fr) : Bool := decide (PySem.W.findIn K (.ref (v_CK28 K)) "__init__" = some (some (.ref (v_fK28 K))))
def t280 (K : Hx.Fr) : Bool := K18T0.ownT K "RuntimeError" "RuntimeError.__new__" ["check", "key"] ["ValueError", "LookupError", "ArithmeticError"] (v_CK28 K) (v_fK28 K)
def t281 (K : Hx.Fr) : Bool := K18T0.excT K (v_CK28 K)
def t282 (K : Hx.Fr) : Bool := K18T0.nameT K "Broken" (v_CK28 K)
def t283 (K : Hx.Fr) : Bool := decide (PySem.W.nsIn K mainGlobals "Restricted" = some (some (.ref (v_CK29 K))))
def t284 (K : Hx.Fr) : Bool := decide (PySem.W.findIn K (.ref (v_CK29 K)) "__init__" = some (some (.ref (v_fK29 K))))
def t285 (K : Hx.Fr) : Bool := K18T0.ownT K "RuntimeError" "RuntimeError.__new__" ["reference", "key"] ["ValueError", "LookupError", "ArithmeticError"] (v_CK29 K) (v_fK29 K)
def t286 (K : Hx.Fr) : Bool := K18T0.excT K (v_CK29 K)
def t287 (K : Hx.Fr) : Bool := K18T0.nameT K "Restricted" (v_CK29 K)
def t288 (K : Hx.Fr) : Bool := decide (PySem.W.nsIn K mainGlobals "InUse" = some (some (.ref (v_CK30 K))))
def t289 (K : Hx.Fr) : Bool := decide (PySem.W.findIn K (.ref (v_CK30 K)) "__init__" = some (some (.ref (v_fK30 K))))
def t290 (K : Hx.Fr) : Bool := K18T0.ownT K "RuntimeError" "RuntimeError.__new__" ["kind", "name"] ["ValueError", "LookupError", "ArithmeticError"] (v_CK30 K) (v_fK30 K)
def t291 (K : Hx.Fr) : Bool := K18T0.excT K (v_CK30 K)
def t292 (K : Hx.Fr) : Bool := K18T0.nameT K "InUse" (v_CK30 K)
def t293 (K : Hx.Fr) : Bool := decide (PySem.W.nsIn K mainGlobals "WouldSuspend" = some (some (.ref (v_CK31 K))))
def t294 (K : Hx.Fr) : Bool := decide (PySem.W.findIn K (.ref (v_CK31 K)) "__init__" = some (some (.ref (v_fK31 K))))
def t295 (K : Hx.Fr) : Bool := K18T0.ownT K "RuntimeError" "RuntimeError.__new__" ["source", "key"] ["ValueError", "LookupError", "ArithmeticError"] (v_CK31 K) (v_fK31 K)
def t296 (K : Hx.Fr) : Bool := K18T0.excT K (v_CK31 K)
def t297 (K : Hx.Fr) : Bool := K18T0.nameT K "WouldSuspend" (v_CK31 K)
def t298 (K : Hx.Fr) : Bool := decide (PySem.W.nsIn K mainGlobals "ReplayDiffers" = some (some (.ref (v_CK32 K))))
def t299 (K : Hx.Fr) : Bool := decide (PySem.W.findIn K (.ref (v_CK32 K)) "__init__" = some (some (.ref (v_fK32 K))))
def t300 (K : Hx.Fr) : Bool := K18T0.ownT K "RuntimeError" "RuntimeError.__new__" ["position", "was", "now"] ["ValueError", "LookupError", "ArithmeticError"] (v_CK32 K) (v_fK32 K)
def t301 (K : Hx.Fr) : Bool := K18T0.excT K (v_CK32 K)
def t302 (K : Hx.Fr) : Bool := K18T0.nameT K "ReplayDiffers" (v_CK32 K)
def t303 (K : Hx.Fr) : Bool := decide (PySem.W.nsIn K mainGlobals "InTransaction" = some (some (.ref (v_CK33 K))))
def t304 (K : Hx.Fr) : Bool := decide (PySem.W.findIn K (.ref (v_CK33 K)) "__init__" = some (some (.ref (v_fK33 K))))
def t305 (K : Hx.Fr) : Bool := K18T0.ownT K "RuntimeError" "RuntimeError.__new__" ["session"] ["ValueError", "LookupError", "ArithmeticError"] (v_CK33 K) (v_fK33 K)
def t306 (K : Hx.Fr) : Bool := K18T0.excT K (v_CK33 K)
def t307 (K : Hx.Fr) : Bool := K18T0.nameT K "InTransaction" (v_CK33 K)
def t308 (K : Hx.Fr) : Bool := decide (PySem.W.nsIn K mainGlobals "NoTransaction" = some (some (.ref (v_CK34 K))))
def t309 (K : Hx.Fr) : Bool := decide (PySem.W.findIn K (.ref (v_CK34 K)) "__init__" = some (some (.ref (v_fK34 K))))
def t310 (K : Hx.Fr) : Bool := K18T0.ownT K "RuntimeError" "RuntimeError.__new__" ["session"] ["ValueError", "LookupError", "ArithmeticError"] (v_CK34 K) (v_fK34 K)
def t311 (K : Hx.Fr) : Bool := K18T0.excT K (v_CK34 K)
def t312 (K : Hx.Fr) : Bool := K18T0.nameT K "NoTransaction" (v_CK34 K)
def t313 (K : Hx.Fr) : Bool := decide (PySem.W.nsIn K mainGlobals "SessionEnded" = some (some (.ref (v_CK35 K))))
def t314 (K : Hx.Fr) : Bool := decide (PySem.W.findIn K (.ref (v_CK35 K)) "__init__" = some (some (.ref (v_fK35 K))))
def t315 (K : Hx.Fr) : Bool := K18T0.ownT K "RuntimeError" "RuntimeError.__new__" ["session"] ["ValueError", "LookupError", "ArithmeticError"] (v_CK35 K) (v_fK35 K)
def t316 (K : Hx.Fr) : Bool := K18T0.excT K (v_CK35 K)
def t317 (K : Hx.Fr) : Bool := K18T0.nameT K "SessionEnded" (v_CK35 K)
def t318 (K : Hx.Fr) : Bool := decide (PySem.W.nsIn K mainGlobals "OwnOffer" = some (some (.ref (v_CK36 K))))
def t319 (K : Hx.Fr) : Bool := decide (PySem.W.findIn K (.ref (v_CK36 K)) "__init__" = some (some (.ref (v_fK36 K))))
def t320 (K : Hx.Fr) : Bool := K18T0.ownT K "RuntimeError" "RuntimeError.__new__" ["number"] ["ValueError", "LookupError", "ArithmeticError"] (v_CK36 K) (v_fK36 K)
def t321 (K : Hx.Fr) : Bool := K18T0.excT K (v_CK36 K)
def t322 (K : Hx.Fr) : Bool := K18T0.nameT K "OwnOffer" (v_CK36 K)
def t323 (K : Hx.Fr) : Bool := decide (PySem.W.nsIn K mainGlobals "NotAllowed" = some (some (.ref (v_CK37 K))))
def t324 (K : Hx.Fr) : Bool := decide (PySem.W.findIn K (.ref (v_CK37 K)) "__init__" = some (some (.ref (v_fK37 K))))
def t325 (K : Hx.Fr) : Bool := K18T0.ownT K "RuntimeError" "RuntimeError.__new__" ["mark"] ["ValueError", "LookupError", "ArithmeticError"] (v_CK37 K) (v_fK37 K)
def t326 (K : Hx.Fr) : Bool := K18T0.excT K (v_CK37 K)
def t327 (K : Hx.Fr) : Bool := K18T0.nameT K "NotAllowed" (v_CK37 K)
def t328 (K : Hx.Fr) : Bool := decide (PySem.W.nsIn K mainGlobals "OutOfSequence" = some (some (.ref (v_CK38 K))))
def t329 (K : Hx.Fr) : Bool := decide (PySem.W.findIn K (.ref (v_CK38 K)) "__init__" = some (some (.ref (v_fK38 K))))
def t330 (K : Hx.Fr) : Bool := K18T0.ownT K "RuntimeError" "RuntimeError.__new__" ["number"] ["ValueError", "LookupError", "ArithmeticError"] (v_CK38 K) (v_fK38 K)
def t331 (K : Hx.Fr) : Bool := K18T0.excT K (v_CK38 K)
def t332 (K : Hx.Fr) : Bool := K18T0.nameT K "OutOfSequence" (v_CK38 K)
def t333 (K : Hx.Fr) : Bool := decide (PySem.W.nsIn K mainGlobals "Behind" = some (some (.ref (v_CK39 K))))
def t334 (K : Hx.Fr) : Bool := decide (PySem.W.findIn K (.ref (v_CK39 K)) "__init__" = some (some (.ref (v_fK39 K))))
def t335 (K : Hx.Fr) : Bool := K18T0.ownT K "RuntimeError" "RuntimeError.__new__" ["cut"] ["ValueError", "LookupError", "ArithmeticError"] (v_CK39 K) (v_fK39 K)
def t336 (K : Hx.Fr) : Bool := K18T0.excT K (v_CK39 K)
def t337 (K : Hx.Fr) : Bool := K18T0.nameT K "Behind" (v_CK39 K)
def t338 (K : Hx.Fr) : Bool := decide (PySem.W.nsIn K mainGlobals "TooMany" = some (some (.ref (v_CK40 K))))
def t339 (K : Hx.Fr) : Bool := decide (PySem.W.findIn K (.ref (v_CK40 K)) "__init__" = some (some (.ref (v_fK40 K))))
def t340 (K : Hx.Fr) : Bool := K18T0.ownT K "ArithmeticError" "ArithmeticError.__new__" ["kind", "limit"] ["ValueError", "LookupError", "RuntimeError", "ZeroDivisionError", "OverflowError"] (v_CK40 K) (v_fK40 K)
def t341 (K : Hx.Fr) : Bool := K18T0.excT K (v_CK40 K)
def t342 (K : Hx.Fr) : Bool := K18T0.nameT K "TooMany" (v_CK40 K)
def t343 (K : Hx.Fr) : Bool := decide (PySem.W.nsIn K mainGlobals "TooDear" = some (some (.ref (v_CK41 K))))
def t344 (K : Hx.Fr) : Bool := decide (PySem.W.findIn K (.ref (v_CK41 K)) "__init__" = some (some (.ref (v_fK41 K))))
def t345 (K : Hx.Fr) : Bool := K18T0.ownT K "ArithmeticError" "ArithmeticError.__new__" ["limit"] ["ValueError", "LookupError", "RuntimeError", "ZeroDivisionError", "OverflowError"] (v_CK41 K) (v_fK41 K)
def t346 (K : Hx.Fr) : Bool := K18T0.excT K (v_CK41 K)
def t347 (K : Hx.Fr) : Bool := K18T0.nameT K "TooDear" (v_CK41 K)
def t348 (K : Hx.Fr) : Bool := decide (PySem.W.nsIn K mainGlobals "InvalidError" = some (some (.ref (v_CK42 K))))
def t349 (K : Hx.Fr) : Bool := decide (PySem.W.nsIn K mainGlobals "MissingError" = some (some (.ref (v_CK43 K))))
def t350 (K : Hx.Fr) : Bool := decide (PySem.W.nsIn K mainGlobals "StateError" = some (some (.ref (v_CK44 K))))
def t351 (K : Hx.Fr) : Bool := decide (PySem.W.nsIn K mainGlobals "LimitError" = some (some (.ref (v_CK45 K))))
def t352 (K : Hx.Fr) : Bool := K18T0.kitRow K (v_CK0 K) 0 0 [(v_CK0 K), (v_CK1 K), (v_CK2 K), (v_CK3 K), (v_CK4 K), (v_CK5 K), (v_CK6 K), (v_CK7 K), (v_CK8 K), (v_CK9 K), (v_CK10 K), (v_CK11 K), (v_CK12 K), (v_CK13 K), (v_CK14 K), (v_CK15 K), (v_CK16 K), (v_CK17 K), (v_CK18 K), (v_CK19 K), (v_CK20 K), (v_CK21 K), (v_CK22 K), (v_CK23 K), (v_CK24 K), (v_CK25 K), (v_CK26 K), (v_CK27 K), (v_CK28 K), (v_CK29 K), (v_CK30 K), (v_CK31 K), (v_CK32 K), (v_CK33 K), (v_CK34 K), (v_CK35 K), (v_CK36 K), (v_CK37 K), (v_CK38 K), (v_CK39 K), (v_CK40 K), (v_CK41 K), (v_CK42 K), (v_CK43 K), (v_CK44 K), (v_CK45 K)]
def t353 (K : Hx.Fr) : Bool := K18T0.kitRow K (v_CK1 K) 1 0 [(v_CK0 K), (v_CK1 K), (v_CK2 K), (v_CK3 K), (v_CK4 K), (v_CK5 K), (v_CK6 K), (v_CK7 K), (v_CK8 K), (v_CK9 K), (v_CK10 K), (v_CK11 K), (v_CK12 K), (v_CK13 K), (v_CK14 K), (v_CK15 K), (v_CK16 K), (v_CK17 K), (v_CK18 K), (v_CK19 K), (v_CK20 K), (v_CK21 K), (v_CK22 K), (v_CK23 K), (v_CK24 K), (v_CK25 K), (v_CK26 K), (v_CK27 K), (v_CK28 K), (v_CK29 K), (v_CK30 K), (v_CK31 K), (v_CK32 K), (v_CK33 K), (v_CK34 K), (v_CK35 K), (v_CK36 K), (v_CK37 K), (v_CK38 K), (v_CK39 K), (v_CK40 K), (v_CK41 K), (v_CK42 K), (v_CK43 K), (v_CK44 K), (v_CK45 K)]
def t354 (K : Hx.Fr) : Bool := K18T0.kitRow K (v_CK2 K) 2 0 [(v_CK0 K), (v_CK1 K), (v_CK2 K), (v_CK3 K), (v_CK4 K), (v_CK5 K), (v_CK6 K), (v_CK7 K), (v_CK8 K), (v_CK9 K), (v_CK10 K), (v_CK11 K), (v_CK12 K), (v_CK13 K), (v_CK14 K), (v_CK15 K), (v_CK16 K), (v_CK17 K), (v_CK18 K), (v_CK19 K), (v_CK20 K), (v_CK21 K), (v_CK22 K), (v_CK23 K), (v_CK24 K), (v_CK25 K), (v_CK26 K), (v_CK27 K), (v_CK28 K), (v_CK29 K), (v_CK30 K), (v_CK31 K), (v_CK32 K), (v_CK33 K), (v_CK34 K), (v_CK35 K), (v_CK36 K), (v_CK37 K), (v_CK38 K), (v_CK39 K), (v_CK40 K), (v_CK41 K), (v_CK42 K), (v_CK43 K), (v_CK44 K), (v_CK45 K)]
def t355 (K : Hx.Fr) : Bool := K18T0.kitRow K (v_CK3 K) 3 0 [(v_CK0 K), (v_CK1 K), (v_CK2 K), (v_CK3 K), (v_CK4 K), (v_CK5 K), (v_CK6 K), (v_CK7 K), (v_CK8 K), (v_CK9 K), (v_CK10 K), (v_CK11 K), (v_CK12 K), (v_CK13 K), (v_CK14 K), (v_CK15 K), (v_CK16 K), (v_CK17 K), (v_CK18 K), (v_CK19 K), (v_CK20 K), (v_CK21 K), (v_CK22 K), (v_CK23 K), (v_CK24 K), (v_CK25 K), (v_CK26 K), (v_CK27 K), (v_CK28 K), (v_CK29 K), (v_CK30 K), (v_CK31 K), (v_CK32 K), (v_CK33 K), (v_CK34 K), (v_CK35 K), (v_CK36 K), (v_CK37 K), (v_CK38 K), (v_CK39 K), (v_CK40 K), (v_CK41 K), (v_CK42 K), (v_CK43 K), (v_CK44 K), (v_CK45 K)]
def t356 (K : Hx.Fr) : Bool := K18T0.kitRow K (v_CK4 K) 4 0 [(v_CK0 K), (v_CK1 K), (v_CK2 K), (v_CK3 K), (v_CK4 K), (v_CK5 K), (v_CK6 K), (v_CK7 K), (v_CK8 K), (v_CK9 K), (v_CK10 K), (v_CK11 K), (v_CK12 K), (v_CK13 K), (v_CK14 K), (v_CK15 K), (v_CK16 K), (v_CK17 K), (v_CK18 K), (v_CK19 K), (v_CK20 K), (v_CK21 K), (v_CK22 K), (v_CK23 K), (v_CK24 K), (v_CK25 K), (v_CK26 K), (v_CK27 K), (v_CK28 K), (v_CK29 K), (v_CK30 K), (v_CK31 K), (v_CK32 K), (v_CK33 K), (v_CK34 K), (v_CK35 K), (v_CK36 K), (v_CK37 K), (v_CK38 K), (v_CK39 K), (v_CK40 K), (v_CK41 K), (v_CK42 K), (v_CK43 K), (v_CK44 K), (v_CK45 K)]
def t357 (K : Hx.Fr) : Bool := K18T0.kitRow K (v_CK5 K) 5 0 [(v_CK0 K), (v_CK1 K), (v_CK2 K), (v_CK3 K), (v_CK4 K), (v_CK5 K), (v_CK6 K), (v_CK7 K), (v_CK8 K), (v_CK9 K), (v_CK10 K), (v_CK11 K), (v_CK12 K), (v_CK13 K), (v_CK14 K), (v_CK15 K), (v_CK16 K), (v_CK17 K), (v_CK18 K), (v_CK19 K), (v_CK20 K), (v_CK21 K), (v_CK22 K), (v_CK23 K), (v_CK24 K), (v_CK25 K), (v_CK26 K), (v_CK27 K), (v_CK28 K), (v_CK29 K), (v_CK30 K), (v_CK31 K), (v_CK32 K), (v_CK33 K), (v_CK34 K), (v_CK35 K), (v_CK36 K), (v_CK37 K), (v_CK38 K), (v_CK39 K), (v_CK40 K), (v_CK41 K), (v_CK42 K), (v_CK43 K), (v_CK44 K), (v_CK45 K)]
def t358 (K : Hx.Fr) : Bool := K18T0.kitRow K (v_CK6 K) 6 0 [(v_CK0 K), (v_CK1 K), (v_CK2 K), (v_CK3 K), (v_CK4 K), (v_CK5 K), (v_CK6 K), (v_CK7 K), (v_CK8 K), (v_CK9 K), (v_CK10 K), (v_CK11 K), (v_CK12 K), (v_CK13 K), (v_CK14 K), (v_CK15 K), (v_CK16 K), (v_CK17 K), (v_CK18 K), (v_CK19 K), (v_CK20 K), (v_CK21 K), (v_CK22 K), (v_CK23 K), (v_CK24 K), (v_CK25 K), (v_CK26 K), (v_CK27 K), (v_CK28 K), (v_CK29 K), (v_CK30 K), (v_CK31 K), (v_CK32 K), (v_CK33 K), (v_CK34 K), (v_CK35 K), (v_CK36 K), (v_CK37 K), (v_CK38 K), (v_CK39 K), (v_CK40 K), (v_CK41 K), (v_CK42 K), (v_CK43 K), (v_CK44 K), (v_CK45 K)]
def t359 (K : Hx.Fr) : Bool := K18T0.kitRow K (v_CK7 K) 7 0 [(v_CK0 K), (v_CK1 K), (v_CK2 K), (v_CK3 K), (v_CK4 K), (v_CK5 K), (v_CK6 K), (v_CK7 K), (v_CK8 K), (v_CK9 K), (v_CK10 K), (v_CK11 K), (v_CK12 K), (v_CK13 K), (v_CK14 K), (v_CK15 K), (v_CK16 K), (v_CK17 K), (v_CK18 K), (v_CK19 K), (v_CK20 K), (v_CK21 K), (v_CK22 K), (v_CK23 K), (v_CK24 K), (v_CK25 K), (v_CK26 K), (v_CK27 K), (v_CK28 K), (v_CK29 K), (v_CK30 K), (v_CK31 K), (v_CK32 K), (v_CK33 K), (v_CK34 K), (v_CK35 K), (v_CK36 K), (v_CK37 K), (v_CK38 K), (v_CK39 K), (v_CK40 K), (v_CK41 K), (v_CK42 K), (v_CK43 K), (v_CK44 K), (v_CK45 K)]
def t360 (K : Hx.Fr) : Bool := K18T0.kitRow K (v_CK8 K) 8 0 [(v_CK0 K), (v_CK1 K), (v_CK2 K), (v_CK3 K), (v_CK4 K), (v_CK5 K), (v_CK6 K), (v_CK7 K), (v_CK8 K), (v_CK9 K), (v_CK10 K), (v_CK11 K), (v_CK12 K), (v_CK13 K), (v_CK14 K), (v_CK15 K), (v_CK16 K), (v_CK17 K), (v_CK18 K), (v_CK19 K), (v_CK20 K), (v_CK21 K), (v_CK22 K), (v_CK23 K), (v_CK24 K), (v_CK25 K), (v_CK26 K), (v_CK27 K), (v_CK28 K), (v_CK29 K), (v_CK30 K), (v_CK31 K), (v_CK32 K), (v_CK33 K), (v_CK34 K), (v_CK35 K), (v_CK36 K), (v_CK37 K), (v_CK38 K), (v_CK39 K), (v_CK40 K), (v_CK41 K), (v_CK42 K), (v_CK43 K), (v_CK44 K), (v_CK45 K)]
def t361 (K : Hx.Fr) : Bool := K18T0.kitRow K (v_CK9 K) 9 0 [(v_CK0 K), (v_CK1 K), (v_CK2 K), (v_CK3 K), (v_CK4 K), (v_CK5 K), (v_CK6 K), (v_CK7 K), (v_CK8 K), (v_CK9 K), (v_CK10 K), (v_CK11 K), (v_CK12 K), (v_CK13 K), (v_CK14 K), (v_CK15 K), (v_CK16 K), (v_CK17 K), (v_CK18 K), (v_CK19 K), (v_CK20 K), (v_CK21 K), (v_CK22 K), (v_CK23 K), (v_CK24 K), (v_CK25 K), (v_CK26 K), (v_CK27 K), (v_CK28 K), (v_CK29 K), (v_CK30 K), (v_CK31 K), (v_CK32 K), (v_CK33 K), (v_CK34 K), (v_CK35 K), (v_CK36 K), (v_CK37 K), (v_CK38 K), (v_CK39 K), (v_CK40 K), (v_CK41 K), (v_CK42 K), (v_CK43 K), (v_CK44 K), (v_CK45 K)]
def t362 (K : Hx.Fr) : Bool := K18T0.kitRow K (v_CK10 K) 10 0 [(v_CK0 K), (v_CK1 K), (v_CK2 K), (v_CK3 K), (v_CK4 K), (v_CK5 K), (v_CK6 K), (v_CK7 K), (v_CK8 K), (v_CK9 K), (v_CK10 K), (v_CK11 K), (v_CK12 K), (v_CK13 K), (v_CK14 K), (v_CK15 K), (v_CK16 K), (v_CK17 K), (v_CK18 K), (v_CK19 K), (v_CK20 K), (v_CK21 K), (v_CK22 K), (v_CK23 K), (v_CK24 K), (v_CK25 K), (v_CK26 K), (v_CK27 K), (v_CK28 K), (v_CK29 K), (v_CK30 K), (v_CK31 K), (v_CK32 K), (v_CK33 K), (v_CK34 K), (v_CK35 K), (v_CK36 K), (v_CK37 K), (v_CK38 K), (v_CK39 K), (v_CK40 K), (v_CK41 K), (v_CK42 K), (v_CK43 K), (v_CK44 K), (v_CK45 K)]
def t363 (K : Hx.Fr) : Bool := K18T0.kitRow K (v_CK11 K) 11 0 [(v_CK0 K), (v_CK1 K), (v_CK2 K), (v_CK3 K), (v_CK4 K), (v_CK5 K), (v_CK6 K), (v_CK7 K), (v_CK8 K), (v_CK9 K), (v_CK10 K), (v_CK11 K), (v_CK12 K), (v_CK13 K), (v_CK14 K), (v_CK15 K), (v_CK16 K), (v_CK17 K), (v_CK18 K), (v_CK19 K), (v_CK20 K), (v_CK21 K), (v_CK22 K), (v_CK23 K), (v_CK24 K), (v_CK25 K), (v_CK26 K), (v_CK27 K), (v_CK28 K), (v_CK29 K), (v_CK30 K), (v_CK31 K), (v_CK32 K), (v_CK33 K), (v_CK34 K), (v_CK35 K), (v_CK36 K), (v_CK37 K), (v_CK38 K), (v_CK39 K), (v_CK40 K), (v_CK41 K), (v_CK42 K), (v_CK43 K), (v_CK44 K), (v_CK45 K)]
def t364 (K : Hx.Fr) : Bool := K18T0.kitRow K (v_CK12 K) 12 0 [(v_CK0 K), (v_CK1 K), (v_CK2 K), (v_CK3 K), (v_CK4 K), (v_CK5 K), (v_CK6 K), (v_CK7 K), (v_CK8 K), (v_CK9 K), (v_CK10 K), (v_CK11 K), (v_CK12 K), (v_CK13 K), (v_CK14 K), (v_CK15 K), (v_CK16 K), (v_CK17 K), (v_CK18 K), (v_CK19 K), (v_CK20 K), (v_CK21 K), (v_CK22 K), (v_CK23 K), (v_CK24 K), (v_CK25 K), (v_CK26 K), (v_CK27 K), (v_CK28 K), (v_CK29 K), (v_CK30 K), (v_CK31 K), (v_CK32 K), (v_CK33 K), (v_CK34 K), (v_CK35 K), (v_CK36 K), (v_CK37 K), (v_CK38 K), (v_CK39 K), (v_CK40 K), (v_CK41 K), (v_CK42 K), (v_CK43 K), (v_CK44 K), (v_CK45 K)]
def t365 (K : Hx.Fr) : Bool := K18T0.kitRow K (v_CK13 K) 13 0 [(v_CK0 K), (v_CK1 K), (v_CK2 K), (v_CK3 K), (v_CK4 K), (v_CK5 K), (v_CK6 K), (v_CK7 K), (v_CK8 K), (v_CK9 K), (v_CK10 K), (v_CK11 K), (v_CK12 K), (v_CK13 K), (v_CK14 K), (v_CK15 K), (v_CK16 K), (v_CK17 K), (v_CK18 K), (v_CK19 K), (v_CK20 K), (v_CK21 K), (v_CK22 K), (v_CK23 K), (v_CK24 K), (v_CK25 K), (v_CK26 K), (v_CK27 K), (v_CK28 K), (v_CK29 K), (v_CK30 K), (v_CK31 K), (v_CK32 K), (v_CK33 K), (v_CK34 K), (v_CK35 K), (v_CK36 K), (v_CK37 K), (v_CK38 K), (v_CK39 K), (v_CK40 K), (v_CK41 K), (v_CK42 K), (v_CK43 K), (v_CK44 K), (v_CK45 K)]
def t366 (K : Hx.Fr) : Bool := K18T0.kitRow K (v_CK14 K) 14 0 [(v_CK0 K), (v_CK1 K), (v_CK2 K), (v_CK3 K), (v_CK4 K), (v_CK5 K), (v_CK6 K), (v_CK7 K), (v_CK8 K), (v_CK9 K), (v_CK10 K), (v_CK11 K), (v_CK12 K), (v_CK13 K), (v_CK14 K), (v_CK15 K), (v_CK16 K), (v_CK17 K), (v_CK18 K), (v_CK19 K), (v_CK20 K), (v_CK21 K), (v_CK22 K), (v_CK23 K), (v_CK24 K), (v_CK25 K), (v_CK26 K), (v_CK27 K), (v_CK28 K), (v_CK29 K), (v_CK30 K), (v_CK31 K), (v_CK32 K), (v_CK33 K), (v_CK34 K), (v_CK35 K), (v_CK36 K), (v_CK37 K), (v_CK38 K), (v_CK39 K), (v_CK40 K), (v_CK41 K), (v_CK42 K), (v_CK43 K), (v_CK44 K), (v_CK45 K)]
def t367 (K : Hx.Fr) : Bool := K18T0.kitRow K (v_CK15 K) 15 0 [(v_CK0 K), (v_CK1 K), (v_CK2 K), (v_CK3 K), (v_CK4 K), (v_CK5 K), (v_CK6 K), (v_CK7 K), (v_CK8 K), (v_CK9 K), (v_CK10 K), (v_CK11 K), (v_CK12 K), (v_CK13 K), (v_CK14 K), (v_CK15 K), (v_CK16 K), (v_CK17 K), (v_CK18 K), (v_CK19 K), (v_CK20 K), (v_CK21 K), (v_CK22 K), (v_CK23 K), (v_CK24 K), (v_CK25 K), (v_CK26 K), (v_CK27 K), (v_CK28 K), (v_CK29 K), (v_CK30 K), (v_CK31 K), (v_CK32 K), (v_CK33 K), (v_CK34 K), (v_CK35 K), (v_CK36 K), (v_CK37 K), (v_CK38 K), (v_CK39 K), (v_CK40 K), (v_CK41 K), (v_CK42 K), (v_CK43 K), (v_CK44 K), (v_CK45 K)]
def t368 (K : Hx.Fr) : Bool := K18T0.kitRow K (v_CK16 K) 16 0 [(v_CK0 K), (v_CK1 K), (v_CK2 K), (v_CK3 K), (v_CK4 K), (v_CK5 K), (v_CK6 K), (v_CK7 K), (v_CK8 K), (v_CK9 K), (v_CK10 K), (v_CK11 K), (v_CK12 K), (v_CK13 K), (v_CK14 K), (v_CK15 K), (v_CK16 K), (v_CK17 K), (v_CK18 K), (v_CK19 K), (v_CK20 K), (v_CK21 K), (v_CK22 K), (v_CK23 K), (v_CK24 K), (v_CK25 K), (v_CK26 K), (v_CK27 K), (v_CK28 K), (v_CK29 K), (v_CK30 K), (v_CK31 K), (v_CK32 K), (v_CK33 K), (v_CK34 K), (v_CK35 K), (v_CK36 K), (v_CK37 K), (v_CK38 K), (v_CK39 K), (v_CK40 K), (v_CK41 K), (v_CK42 K), (v_CK43 K), (v_CK44 K), (v_CK45 K)]
def t369 (K : Hx.Fr) : Bool := K18T0.kitRow K (v_CK17 K) 17 0 [(v_CK0 K), (v_CK1 K), (v_CK2 K), (v_CK3 K), (v_CK4 K), (v_CK5 K), (v_CK6 K), (v_CK7 K), (v_CK8 K), (v_CK9 K), (v_CK10 K), (v_CK11 K), (v_CK12 K), (v_CK13 K), (v_CK14 K), (v_CK15 K), (v_CK16 K), (v_CK17 K), (v_CK18 K), (v_CK19 K), (v_CK20 K), (v_CK21 K), (v_CK22 K), (v_CK23 K), (v_CK24 K), (v_CK25 K), (v_CK26 K), (v_CK27 K), (v_CK28 K), (v_CK29 K), (v_CK30 K), (v_CK31 K), (v_CK32 K), (v_CK33 K), (v_CK34 K), (v_CK35 K), (v_CK36 K), (v_CK37 K), (v_CK38 K), (v_CK39 K), (v_CK40 K), (v_CK41 K), (v_CK42 K), (v_CK43 K), (v_CK44 K), (v_CK45 K)]
def t370 (K : Hx.Fr) : Bool := K18T0.kitRow K (v_CK18 K) 18 0 [(v_CK0 K), (v_CK1 K), (v_CK2 K), (v_CK3 K), (v_CK4 K), (v_CK5 K), (v_CK6 K), (v_CK7 K), (v_CK8 K), (v_CK9 K), (v_CK10 K), (v_CK11 K), (v_CK12 K), (v_CK13 K), (v_CK14 K), (v_CK15 K), (v_CK16 K), (v_CK17 K), (v_CK18 K), (v_CK19 K), (v_CK20 K), (v_CK21 K), (v_CK22 K), (v_CK23 K), (v_CK24 K), (v_CK25 K), (v_CK26 K), (v_CK27 K), (v_CK28 K), (v_CK29 K), (v_CK30 K), (v_CK31 K), (v_CK32 K), (v_CK33 K), (v_CK34 K), (v_CK35 K), (v_CK36 K), (v_CK37 K), (v_CK38 K), (v_CK39 K), (v_CK40 K), (v_CK41 K), (v_CK42 K), (v_CK43 K), (v_CK44 K), (v_CK45 K)]
def t371 (K : Hx.Fr) : Bool := K18T0.kitRow K (v_CK19 K) 19 0 [(v_CK0 K), (v_CK1 K), (v_CK2 K), (v_CK3 K), (v_CK4 K), (v_CK5 K), (v_CK6 K), (v_CK7 K), (v_CK8 K), (v_CK9 K), (v_CK10 K), (v_CK11 K), (v_CK12 K), (v_CK13 K), (v_CK14 K), (v_CK15 K), (v_CK16 K), (v_CK17 K), (v_CK18 K), (v_CK19 K), (v_CK20 K), (v_CK21 K), (v_CK22 K), (v_CK23 K), (v_CK24 K), (v_CK25 K), (v_CK26 K), (v_CK27 K), (v_CK28 K), (v_CK29 K), (v_CK30 K), (v_CK31 K), (v_CK32 K), (v_CK33 K), (v_CK34 K), (v_CK35 K), (v_CK36 K), (v_CK37 K), (v_CK38 K), (v_CK39 K), (v_CK40 K), (v_CK41 K), (v_CK42 K), (v_CK43 K), (v_CK44 K), (v_CK45 K)]
def t372 (K : Hx.Fr) : Bool := K18T0.kitRow K (v_CK20 K) 20 0 [(v_CK0 K), (v_CK1 K), (v_CK2 K), (v_CK3 K), (v_CK4 K), (v_CK5 K), (v_CK6 K), (v_CK7 K), (v_CK8 K), (v_CK9 K), (v_CK10 K), (v_CK11 K), (v_CK12 K), (v_CK13 K), (v_CK14 K), (v_CK15 K), (v_CK16 K), (v_CK17 K), (v_CK18 K), (v_CK19 K), (v_CK20 K), (v_CK21 K), (v_CK22 K), (v_CK23 K), (v_CK24 K), (v_CK25 K), (v_CK26 K), (v_CK27 K), (v_CK28 K), (v_CK29 K), (v_CK30 K), (v_CK31 K), (v_CK32 K), (v_CK33 K), (v_CK34 K), (v_CK35 K), (v_CK36 K), (v_CK37 K), (v_CK38 K), (v_CK39 K), (v_CK40 K), (v_CK41 K), (v_CK42 K), (v_CK43 K), (v_CK44 K), (v_CK45 K)]
def t373 (K : Hx.Fr) : Bool := K18T0.kitRow K (v_CK21 K) 21 0 [(v_CK0 K), (v_CK1 K), (v_CK2 K), (v_CK3 K), (v_CK4 K), (v_CK5 K), (v_CK6 K), (v_CK7 K), (v_CK8 K), (v_CK9 K), (v_CK10 K), (v_CK11 K), (v_CK12 K), (v_CK13 K), (v_CK14 K), (v_CK15 K), (v_CK16 K), (v_CK17 K), (v_CK18 K), (v_CK19 K), (v_CK20 K), (v_CK21 K), (v_CK22 K), (v_CK23 K), (v_CK24 K), (v_CK25 K), (v_CK26 K), (v_CK27 K), (v_CK28 K), (v_CK29 K), (v_CK30 K), (v_CK31 K), (v_CK32 K), (v_CK33 K), (v_CK34 K), (v_CK35 K), (v_CK36 K), (v_CK37 K), (v_CK38 K), (v_CK39 K), (v_CK40 K), (v_CK41 K), (v_CK42 K), (v_CK43 K), (v_CK44 K), (v_CK45 K)]
def t374 (K : Hx.Fr) : Bool := K18T0.kitRow K (v_CK22 K) 22 0 [(v_CK0 K), (v_CK1 K), (v_CK2 K), (v_CK3 K), (v_CK4 K), (v_CK5 K), (v_CK6 K), (v_CK7 K), (v_CK8 K), (v_CK9 K), (v_CK10 K), (v_CK11 K), (v_CK12 K), (v_CK13 K), (v_CK14 K), (v_CK15 K), (v_CK16 K), (v_CK17 K), (v_CK18 K), (v_CK19 K), (v_CK20 K), (v_CK21 K), (v_CK22 K), (v_CK23 K), (v_CK24 K), (v_CK25 K), (v_CK26 K), (v_CK27 K), (v_CK28 K), (v_CK29 K), (v_CK30 K), (v_CK31 K), (v_CK32 K), (v_CK33 K), (v_CK34 K), (v_CK35 K), (v_CK36 K), (v_CK37 K), (v_CK38 K), (v_CK39 K), (v_CK40 K), (v_CK41 K), (v_CK42 K), (v_CK43 K), (v_CK44 K), (v_CK45 K)]
def t375 (K : Hx.Fr) : Bool := K18T0.kitRow K (v_CK23 K) 23 0 [(v_CK0 K), (v_CK1 K), (v_CK2 K), (v_CK3 K), (v_CK4 K), (v_CK5 K), (v_CK6 K), (v_CK7 K), (v_CK8 K), (v_CK9 K), (v_CK10 K), (v_CK11 K), (v_CK12 K), (v_CK13 K), (v_CK14 K), (v_CK15 K), (v_CK16 K), (v_CK17 K), (v_CK18 K), (v_CK19 K), (v_CK20 K), (v_CK21 K), (v_CK22 K), (v_CK23 K), (v_CK24 K), (v_CK25 K), (v_CK26 K), (v_CK27 K), (v_CK28 K), (v_CK29 K), (v_CK30 K), (v_CK31 K), (v_CK32 K), (v_CK33 K), (v_CK34 K), (v_CK35 K), (v_CK36 K), (v_CK37 K), (v_CK38 K), (v_CK39 K), (v_CK40 K), (v_CK41 K), (v_CK42 K), (v_CK43 K), (v_CK44 K), (v_CK45 K)]
def t376 (K : Hx.Fr) : Bool := K18T0.kitRow K (v_CK24 K) 24 0 [(v_CK0 K), (v_CK1 K), (v_CK2 K), (v_CK3 K), (v_CK4 K), (v_CK5 K), (v_CK6 K), (v_CK7 K), (v_CK8 K), (v_CK9 K), (v_CK10 K), (v_CK11 K), (v_CK12 K), (v_CK13 K), (v_CK14 K), (v_CK15 K), (v_CK16 K), (v_CK17 K), (v_CK18 K), (v_CK19 K), (v_CK20 K), (v_CK21 K), (v_CK22 K), (v_CK23 K), (v_CK24 K), (v_CK25 K), (v_CK26 K), (v_CK27 K), (v_CK28 K), (v_CK29 K), (v_CK30 K), (v_CK31 K), (v_CK32 K), (v_CK33 K), (v_CK34 K), (v_CK35 K), (v_CK36 K), (v_CK37 K), (v_CK38 K), (v_CK39 K), (v_CK40 K), (v_CK41 K), (v_CK42 K), (v_CK43 K), (v_CK44 K), (v_CK45 K)]
def t377 (K : Hx.Fr) : Bool := K18T0.kitRow K (v_CK25 K) 25 0 [(v_CK0 K), (v_CK1 K), (v_CK2 K), (v_CK3 K), (v_CK4 K), (v_CK5 K), (v_CK6 K), (v_CK7 K), (v_CK8 K), (v_CK9 K), (v_CK10 K), (v_CK11 K), (v_CK12 K), (v_CK13 K), (v_CK14 K), (v_CK15 K), (v_CK16 K), (v_CK17 K), (v_CK18 K), (v_CK19 K), (v_CK20 K), (v_CK21 K), (v_CK22 K), (v_CK23 K), (v_CK24 K), (v_CK25 K), (v_CK26 K), (v_CK27 K), (v_CK28 K), (v_CK29 K), (v_CK30 K), (v_CK31 K), (v_CK32 K), (v_CK33 K), (v_CK34 K), (v_CK35 K), (v_CK36 K), (v_CK37 K), (v_CK38 K), (v_CK39 K), (v_CK40 K), (v_CK41 K), (v_CK42 K), (v_CK43 K), (v_CK44 K), (v_CK45 K)]
def t378 (K : Hx.Fr) : Bool := K18T0.kitRow K (v_CK26 K) 26 0 [(v_CK0 K), (v_CK1 K), (v_CK2 K), (v_CK3 K), (v_CK4 K), (v_CK5 K), (v_CK6 K), (v_CK7 K), (v_CK8 K), (v_CK9 K), (v_CK10 K), (v_CK11 K), (v_CK12 K), (v_CK13 K), (v_CK14 K), (v_CK15 K), (v_CK16 K), (v_CK17 K), (v_CK18 K), (v_CK19 K), (v_CK20 K), (v_CK21 K), (v_CK22 K), (v_CK23 K), (v_CK24 K), (v_CK25 K), (v_CK26 K), (v_CK27 K), (v_CK28 K), (v_CK29 K), (v_CK30 K), (v_CK31 K), (v_CK32 K), (v_CK33 K), (v_CK34 K), (v_CK35 K), (v_CK36 K), (v_CK37 K), (v_CK38 K), (v_CK39 K), (v_CK40 K), (v_CK41 K), (v_CK42 K), (v_CK43 K), (v_CK44 K), (v_CK45 K)]
def t379 (K : Hx.Fr) : Bool := K18T0.kitRow K (v_CK27 K) 27 0 [(v_CK0 K), (v_CK1 K), (v_CK2 K), (v_CK3 K), (v_CK4 K), (v_CK5 K), (v_CK6 K), (v_CK7 K), (v_CK8 K), (v_CK9 K), (v_CK10 K), (v_CK11 K), (v_CK12 K), (v_CK13 K), (v_CK14 K), (v_CK15 K), (v_CK16 K), (v_CK17 K), (v_CK18 K), (v_CK19 K), (v_CK20 K), (v_CK21 K), (v_CK22 K), (v_CK23 K), (v_CK24 K), (v_CK25 K), (v_CK26 K), (v_CK27 K), (v_CK28 K), (v_CK29 K), (v_CK30 K), (v_CK31 K), (v_CK32 K), (v_CK33 K), (v_CK34 K), (v_CK35 K), (v_CK36 K), (v_CK37 K), (v_CK38 K), (v_CK39 K), (v_CK40 K), (v_CK41 K), (v_CK42 K), (v_CK43 K), (v_CK44 K), (v_CK45 K)]
def t380 (K : Hx.Fr) : Bool := K18T0.kitRow K (v_CK28 K) 28 0 [(v_CK0 K), (v_CK1 K), (v_CK2 K), (v_CK3 K), (v_CK4 K), (v_CK5 K), (v_CK6 K), (v_CK7 K), (v_CK8 K), (v_CK9 K), (v_CK10 K), (v_CK11 K), (v_CK12 K), (v_CK13 K), (v_CK14 K), (v_CK15 K), (v_CK16 K), (v_CK17 K), (v_CK18 K), (v_CK19 K), (v_CK20 K), (v_CK21 K), (v_CK22 K), (v_CK23 K), (v_CK24 K), (v_CK25 K), (v_CK26 K), (v_CK27 K), (v_CK28 K), (v_CK29 K), (v_CK30 K), (v_CK31 K), (v_CK32 K), (v_CK33 K), (v_CK34 K), (v_CK35 K), (v_CK36 K), (v_CK37 K), (v_CK38 K), (v_CK39 K), (v_CK40 K), (v_CK41 K), (v_CK42 K), (v_CK43 K), (v_CK44 K), (v_CK45 K)]
def t381 (K : Hx.Fr) : Bool := K18T0.kitRow K (v_CK29 K) 29 0 [(v_CK0 K), (v_CK1 K), (v_CK2 K), (v_CK3 K), (v_CK4 K), (v_CK5 K), (v_CK6 K), (v_CK7 K), (v_CK8 K), (v_CK9 K), (v_CK10 K), (v_CK11 K), (v_CK12 K), (v_CK13 K), (v_CK14 K), (v_CK15 K), (v_CK16 K), (v_CK17 K), (v_CK18 K), (v_CK19 K), (v_CK20 K), (v_CK21 K), (v_CK22 K), (v_CK23 K), (v_CK24 K), (v_CK25 K), (v_CK26 K), (v_CK27 K), (v_CK28 K), (v_CK29 K), (v_CK30 K), (v_CK31 K), (v_CK32 K), (v_CK33 K), (v_CK34 K), (v_CK35 K), (v_CK36 K), (v_CK37 K), (v_CK38 K), (v_CK39 K), (v_CK40 K), (v_CK41 K), (v_CK42 K), (v_CK43 K), (v_CK44 K), (v_CK45 K)]
def t382 (K : Hx.Fr) : Bool := K18T0.kitRow K (v_CK30 K) 30 0 [(v_CK0 K), (v_CK1 K), (v_CK2 K), (v_CK3 K), (v_CK4 K), (v_CK5 K), (v_CK6 K), (v_CK7 K), (v_CK8 K), (v_CK9 K), (v_CK10 K), (v_CK11 K), (v_CK12 K), (v_CK13 K), (v_CK14 K), (v_CK15 K), (v_CK16 K), (v_CK17 K), (v_CK18 K), (v_CK19 K), (v_CK20 K), (v_CK21 K), (v_CK22 K), (v_CK23 K), (v_CK24 K), (v_CK25 K), (v_CK26 K), (v_CK27 K), (v_CK28 K), (v_CK29 K), (v_CK30 K), (v_CK31 K), (v_CK32 K), (v_CK33 K), (v_CK34 K), (v_CK35 K), (v_CK36 K), (v_CK37 K), (v_CK38 K), (v_CK39 K), (v_CK40 K), (v_CK41 K), (v_CK42 K), (v_CK43 K), (v_CK44 K), (v_CK45 K)]
def t383 (K : Hx.Fr) : Bool := K18T0.kitRow K (v_CK31 K) 31 0 [(v_CK0 K), (v_CK1 K), (v_CK2 K), (v_CK3 K), (v_CK4 K), (v_CK5 K), (v_CK6 K), (v_CK7 K), (v_CK8 K), (v_CK9 K), (v_CK10 K), (v_CK11 K), (v_CK12 K), (v_CK13 K), (v_CK14 K), (v_CK15 K), (v_CK16 K), (v_CK17 K), (v_CK18 K), (v_CK19 K), (v_CK20 K), (v_CK21 K), (v_CK22 K), (v_CK23 K), (v_CK24 K), (v_CK25 K), (v_CK26 K), (v_CK27 K), (v_CK28 K), (v_CK29 K), (v_CK30 K), (v_CK31 K), (v_CK32 K), (v_CK33 K), (v_CK34 K), (v_CK35 K), (v_CK36 K), (v_CK37 K), (v_CK38 K), (v_CK39 K), (v_CK40 K), (v_CK41 K), (v_CK42 K), (v_CK43 K), (v_CK44 K), (v_CK45 K)]
def t384 (K : Hx.Fr) : Bool := K18T0.kitRow K (v_CK32 K) 32 0 [(v_CK0 K), (v_CK1 K), (v_CK2 K), (v_CK3 K), (v_CK4 K), (v_CK5 K), (v_CK6 K), (v_CK7 K), (v_CK8 K), (v_CK9 K), (v_CK10 K), (v_CK11 K), (v_CK12 K), (v_CK13 K), (v_CK14 K), (v_CK15 K), (v_CK16 K), (v_CK17 K), (v_CK18 K), (v_CK19 K), (v_CK20 K), (v_CK21 K), (v_CK22 K), (v_CK23 K), (v_CK24 K), (v_CK25 K), (v_CK26 K), (v_CK27 K), (v_CK28 K), (v_CK29 K), (v_CK30 K), (v_CK31 K), (v_CK32 K), (v_CK33 K), (v_CK34 K), (v_CK35 K), (v_CK36 K), (v_CK37 K), (v_CK38 K), (v_CK39 K), (v_CK40 K), (v_CK41 K), (v_CK42 K), (v_CK43 K), (v_CK44 K), (v_CK45 K)]
def t385 (K : Hx.Fr) : Bool := K18T0.kitRow K (v_CK33 K) 33 0 [(v_CK0 K), (v_CK1 K), (v_CK2 K), (v_CK3 K), (v_CK4 K), (v_CK5 K), (v_CK6 K), (v_CK7 K), (v_CK8 K), (v_CK9 K), (v_CK10 K), (v_CK11 K), (v_CK12 K), (v_CK13 K), (v_CK14 K), (v_CK15 K), (v_CK16 K), (v_CK17 K), (v_CK18 K), (v_CK19 K), (v_CK20 K), (v_CK21 K), (v_CK22 K), (v_CK23 K), (v_CK24 K), (v_CK25 K), (v_CK26 K), (v_CK27 K), (v_CK28 K), (v_CK29 K), (v_CK30 K), (v_CK31 K), (v_CK32 K), (v_CK33 K), (v_CK34 K), (v_CK35 K), (v_CK36 K), (v_CK37 K), (v_CK38 K), (v_CK39 K), (v_CK40 K), (v_CK41 K), (v_CK42 K), (v_CK43 K), (v_CK44 K), (v_CK45 K)]
def t386 (K : Hx.Fr) : Bool := K18T0.kitRow K (v_CK34 K) 34 0 [(v_CK0 K), (v_CK1 K), (v_CK2 K), (v_CK3 K), (v_CK4 K), (v_CK5 K), (v_CK6 K), (v_CK7 K), (v_CK8 K), (v_CK9 K), (v_CK10 K), (v_CK11 K), (v_CK12 K), (v_CK13 K), (v_CK14 K), (v_CK15 K), (v_CK16 K), (v_CK17 K), (v_CK18 K), (v_CK19 K), (v_CK20 K), (v_CK21 K), (v_CK22 K), (v_CK23 K), (v_CK24 K), (v_CK25 K), (v_CK26 K), (v_CK27 K), (v_CK28 K), (v_CK29 K), (v_CK30 K), (v_CK31 K), (v_CK32 K), (v_CK33 K), (v_CK34 K), (v_CK35 K), (v_CK36 K), (v_CK37 K), (v_CK38 K), (v_CK39 K), (v_CK40 K), (v_CK41 K), (v_CK42 K), (v_CK43 K), (v_CK44 K), (v_CK45 K)]
def t387 (K : Hx.Fr) : Bool := K18T0.kitRow K (v_CK35 K) 35 0 [(v_CK0 K), (v_CK1 K), (v_CK2 K), (v_CK3 K), (v_CK4 K), (v_CK5 K), (v_CK6 K), (v_CK7 K), (v_CK8 K), (v_CK9 K), (v_CK10 K), (v_CK11 K), (v_CK12 K), (v_CK13 K), (v_CK14 K), (v_CK15 K), (v_CK16 K), (v_CK17 K), (v_CK18 K), (v_CK19 K), (v_CK20 K), (v_CK21 K), (v_CK22 K), (v_CK23 K), (v_CK24 K), (v_CK25 K), (v_CK26 K), (v_CK27 K), (v_CK28 K), (v_CK29 K), (v_CK30 K), (v_CK31 K), (v_CK32 K), (v_CK33 K), (v_CK34 K), (v_CK35 K), (v_CK36 K), (v_CK37 K), (v_CK38 K), (v_CK39 K), (v_CK40 K), (v_CK41 K), (v_CK42 K), (v_CK43 K), (v_CK44 K), (v_CK45 K)]
def t388 (K : Hx.Fr) : Bool := K18T0.kitRow K (v_CK36 K) 36 0 [(v_CK0 K), (v_CK1 K), (v_CK2 K), (v_CK3 K), (v_CK4 K), (v_CK5 K), (v_CK6 K), (v_CK7 K), (v_CK8 K), (v_CK9 K), (v_CK10 K), (v_CK11 K), (v_CK12 K), (v_CK13 K), (v_CK14 K), (v_CK15 K), (v_CK16 K), (v_CK17 K), (v_CK18 K), (v_CK19 K), (v_CK20 K), (v_CK21 K), (v_CK22 K), (v_CK23 K), (v_CK24 K), (v_CK25 K), (v_CK26 K), (v_CK27 K), (v_CK28 K), (v_CK29 K), (v_CK30 K), (v_CK31 K), (v_CK32 K), (v_CK33 K), (v_CK34 K), (v_CK35 K), (v_CK36 K), (v_CK37 K), (v_CK38 K), (v_CK39 K), (v_CK40 K), (v_CK41 K), (v_CK42 K), (v_CK43 K), (v_CK44 K), (v_CK45 K)]
def t389 (K : Hx.Fr) : Bool := K18T0.kitRow K (v_CK37 K) 37 0 [(v_CK0 K), (v_CK1 K), (v_CK2 K), (v_CK3 K), (v_CK4 K), (v_CK5 K), (v_CK6 K), (v_CK7 K), (v_CK8 K), (v_CK9 K), (v_CK10 K), (v_CK11 K), (v_CK12 K), (v_CK13 K), (v_CK14 K), (v_CK15 K), (v_CK16 K), (v_CK17 K), (v_CK18 K), (v_CK19 K), (v_CK20 K), (v_CK21 K), (v_CK22 K), (v_CK23 K), (v_CK24 K), (v_CK25 K), (v_CK26 K), (v_CK27 K), (v_CK28 K), (v_CK29 K), (v_CK30 K), (v_CK31 K), (v_CK32 K), (v_CK33 K), (v_CK34 K), (v_CK35 K), (v_CK36 K), (v_CK37 K), (v_CK38 K), (v_CK39 K), (v_CK40 K), (v_CK41 K), (v_CK42 K), (v_CK43 K), (v_CK44 K), (v_CK45 K)]
def t390 (K : Hx.Fr) : Bool := K18T0.kitRow K (v_CK38 K) 38 0 [(v_CK0 K), (v_CK1 K), (v_CK2 K), (v_CK3 K), (v_CK4 K), (v_CK5 K), (v_CK6 K), (v_CK7 K), (v_CK8 K), (v_CK9 K), (v_CK10 K), (v_CK11 K), (v_CK12 K), (v_CK13 K), (v_CK14 K), (v_CK15 K), (v_CK16 K), (v_CK17 K), (v_CK18 K), (v_CK19 K), (v_CK20 K), (v_CK21 K), (v_CK22 K), (v_CK23 K), (v_CK24 K), (v_CK25 K), (v_CK26 K), (v_CK27 K), (v_CK28 K), (v_CK29 K), (v_CK30 K), (v_CK31 K), (v_CK32 K), (v_CK33 K), (v_CK34 K), (v_CK35 K), (v_CK36 K), (v_CK37 K), (v_CK38 K), (v_CK39 K), (v_CK40 K), (v_CK41 K), (v_CK42 K), (v_CK43 K), (v_CK44 K), (v_CK45 K)]
def t391 (K : Hx.Fr) : Bool := K18T0.kitRow K (v_CK39 K) 39 0 [(v_CK0 K), (v_CK1 K), (v_CK2 K), (v_CK3 K), (v_CK4 K), (v_CK5 K), (v_CK6 K), (v_CK7 K), (v_CK8 K), (v_CK9 K), (v_CK10 K), (v_CK11 K), (v_CK12 K), (v_CK13 K), (v_CK14 K), (v_CK15 K), (v_CK16 K), (v_CK17 K), (v_CK18 K), (v_CK19 K), (v_CK20 K), (v_CK21 K), (v_CK22 K), (v_CK23 K), (v_CK24 K), (v_CK25 K), (v_CK26 K), (v_CK27 K), (v_CK28 K), (v_CK29 K), (v_CK30 K), (v_CK31 K), (v_CK32 K), (v_CK33 K), (v_CK34 K), (v_CK35 K), (v_CK36 K), (v_CK37 K), (v_CK38 K), (v_CK39 K), (v_CK40 K), (v_CK41 K), (v_CK42 K), (v_CK43 K), (v_CK44 K), (v_CK45 K)]
def t392 (K : Hx.Fr) : Bool := K18T0.kitRow K (v_CK40 K) 40 0 [(v_CK0 K), (v_CK1 K), (v_CK2 K), (v_CK3 K), (v_CK4 K), (v_CK5 K), (v_CK6 K), (v_CK7 K), (v_CK8 K), (v_CK9 K), (v_CK10 K), (v_CK11 K), (v_CK12 K), (v_CK13 K), (v_CK14 K), (v_CK15 K), (v_CK16 K), (v_CK17 K), (v_CK18 K), (v_CK19 K), (v_CK20 K), (v_CK21 K), (v_CK22 K), (v_CK23 K), (v_CK24 K), (v_CK25 K), (v_CK26 K), (v_CK27 K), (v_CK28 K), (v_CK29 K), (v_CK30 K), (v_CK31 K), (v_CK32 K), (v_CK33 K), (v_CK34 K), (v_CK35 K), (v_CK36 K), (v_CK37 K), (v_CK38 K), (v_CK39 K), (v_CK40 K), (v_CK41 K), (v_CK42 K), (v_CK43 K), (v_CK44 K), (v_CK45 K)]
def t393 (K : Hx.Fr) : Bool := K18T0.kitRow K (v_CK41 K) 41 0 [(v_CK0 K), (v_CK1 K), (v_CK2 K), (v_CK3 K), (v_CK4 K), (v_CK5 K), (v_CK6 K), (v_CK7 K), (v_CK8 K), (v_CK9 K), (v_CK10 K), (v_CK11 K), (v_CK12 K), (v_CK13 K), (v_CK14 K), (v_CK15 K), (v_CK16 K), (v_CK17 K), (v_CK18 K), (v_CK19 K), (v_CK20 K), (v_CK21 K), (v_CK22 K), (v_CK23 K), (v_CK24 K), (v_CK25 K), (v_CK26 K), (v_CK27 K), (v_CK28 K), (v_CK29 K), (v_CK30 K), (v_CK31 K), (v_CK32 K), (v_CK33 K), (v_CK34 K), (v_CK35 K), (v_CK36 K), (v_CK37 K), (v_CK38 K), (v_CK39 K), (v_CK40 K), (v_CK41 K), (v_CK42 K), (v_CK43 K), (v_CK44 K), (v_CK45 K)]
def t394 (K : Hx.Fr) : Bool := K18T0.sysT K
def t395 (K : Hx.Fr) : Bool := Hx.exW K (v_CK0 K)
def t396 (K : Hx.Fr) : Bool := Hx.exW K (v_CK1 K)
def t397 (K : Hx.Fr) : Bool := decide (PySem.W.exmOne K (.ref (v_CK1 K)) (.ref (v_CK1 K)) = some true)
def t398 (K : Hx.Fr) : Bool := decide (PySem.W.exmOne K (.ref (v_CK0 K)) (.ref (v_CK1 K)) = some false)
def t399 (K : Hx.Fr) : Bool := decide (PySem.W.exmOne K (.ref (v_CK0 K)) (.ref (v_CK0 K)) = some true)
def t400 (K : Hx.Fr) : Bool := decide (PySem.W.exmOne K (.ref (v_CK40 K)) (.ref (v_CK1 K)) = some false)
def t401 (K : Hx.Fr) : Bool := decide (PySem.W.exmOne K (.ref (v_CK40 K)) (.ref (v_CK0 K)) = some false)
def t402 (K : Hx.Fr) : Bool := decide (PySem.W.exmOne K (.ref (v_CK40 K)) (.ref (v_CK40 K)) = some true)
def t403 (K : Hx.Fr) : Bool := decide (Hy.codeV K (v_f22 K) = .ref (v_cR K))
def t404 (K : Hx.Fr) : Bool := PySem.W.codeHdIn K (v_cR K) (v_Pt K)
def t405 (K : Hx.Fr) : Bool := decide ((v_Pt K) ∈ tps)
def t406 (K : Hx.Fr) : Bool := (K.lookup (v_Pt K)).isNone
def ck0 : List (Hx.Fr → Bool) := [t0, t1, t2, t3, t4, t5, t6, t7, t8, t9, t10, t11, t12, t13, t14, t15, t16, t17, t18, t19]
def ck1 : List (Hx.Fr → Bool) := [t20, t21, t22, t23, t24, t25, t26, t27, t28, t29, t30, t31, t32, t33, t34, t35, t36, t37, t38, t39]
def ck2 : List (Hx.Fr → Bool) := [t40, t41, t42, t43, t44, t45, t46, t47, t48, t49, t50, t51, t52, t53, t54, t55, t56, t57, t58, t59]
def ck3 : List (Hx.Fr → Bool) := [t60, t61, t62, t63, t64, t65, t66, t67, t68, t69, t70, t71, t72, t73, t74, t75, t76, t77, t78, t79]
def ck4 : List (Hx.Fr → Bool) := [t80, t81, t82, t83, t84, t85, t86, t87, t88, t89, t90, t91, t92, t93, t94, t95, t96, t97, t98, t99]
def ck5 : List (Hx.Fr → Bool) := [t100, t101, t102, t103, t104, t105, t106, t107, t108, t109, t110, t111, t112, t113, t114, t115, t116, t117, t118, t119]
def ck6 : List (Hx.Fr → Bool) := [t120, t121, t122, t123, t124, t125, t126, t127, t128, t129, t130, t131, t132, t133, t134, t135, t136, t137, t138, t139]
def ck7 : List (Hx.Fr → Bool) := [t140, t141, t142, t143, t144, t145, t146, t147, t148, t149, t150, t151, t152, t153, t154, t155, t156, t157, t158, t159]
def ck8 : List (Hx.Fr → Bool) := [t160, t161, t162, t163, t164, t165, t166, t167, t168, t169, t170, t171, t172, t173, t174, t175, t176, t177, t178, t179]
def ck9 : List (Hx.Fr → Bool) := [t180, t181, t182, t183, t184, t185, t186, t187, t188, t189, t190, t191, t192, t193, t194, t195, t196, t197, t198, t199]
def ck10 : List (Hx.Fr → Bool) := [t200, t201, t202, t203, t204, t205, t206, t207, t208, t209, t210, t211, t212, t213, t214, t215, t216, t217, t218, t219]
def ck11 : List (Hx.Fr → Bool) := [t220, t221, t222, t223, t224, t225, t226, t227, t228, t229, t230, t231, t232, t233, t234, t235, t236, t237, t238, t239]
def ck12 : List (Hx.Fr → Bool) := [t240, t241, t242, t243, t244, t245, t246, t247, t248, t249, t250, t251, t252, t253, t254, t255, t256, t257, t258, t259]
def ck13 : List (Hx.Fr → Bool) := [t260, t261, t262, t263, t264, t265, t266, t267, t268, t269, t270, t271, t272, t273, t274, t275, t276, t277, t278, t279]
def ck14 : List (Hx.Fr → Bool) := [t280, t281, t282, t283, t284, t285, t286, t287, t288, t289, t290, t291, t292, t293, t294, t295, t296, t297, t298, t299]
def ck15 : List (Hx.Fr → Bool) := [t300, t301, t302, t303, t304, t305, t306, t307, t308, t309, t310, t311, t312, t313, t314, t315, t316, t317, t318, t319]
def ck16 : List (Hx.Fr → Bool) := [t320, t321, t322, t323, t324, t325, t326, t327, t328, t329, t330, t331, t332, t333, t334, t335, t336, t337, t338, t339]
def ck17 : List (Hx.Fr → Bool) := [t340, t341, t342, t343, t344, t345, t346, t347, t348, t349, t350, t351, t352, t353, t354, t355, t356, t357, t358, t359]
def ck18 : List (Hx.Fr → Bool) := [t360, t361, t362, t363, t364, t365, t366, t367, t368, t369, t370, t371, t372, t373, t374, t375, t376, t377, t378, t379]
def ck19 : List (Hx.Fr → Bool) := [t380, t381, t382, t383, t384, t385, t386, t387, t388, t389, t390, t391, t392, t393, t394, t395, t396, t397, t398, t399]
def ck20 : List (Hx.Fr → Bool) := [t400, t401, t402, t403, t404, t405, t406]
def ckA : List (List (Hx.Fr → Bool)) := [ck0, ck1, ck2, ck3, ck4, ck5, ck6, ck7, ck8]
def ckB : List (List (Hx.Fr → Bool)) := [ck9, ck10, ck11, ck12, ck13, ck14, ck15, ck16]
def ckC : List (List (Hx.Fr → Bool)) := [ck17, ck18, ck19, ck20]
def ck : List (List (Hx.Fr → Bool)) := ckA ++ ckB ++ ckC
def fn0 : Hy.Fd := ⟨v_f0, "told_error", "told_error", top 2, []⟩
def fn1 : Hy.Fd := ⟨v_f1, "is_name", "is_name", top 52, []⟩
def fn2 : Hy.Fd := ⟨v_f2, "check_label", "check_label", top 54, []⟩
def fn3 : Hy.Fd := ⟨v_f3, "marks_rank", "marks_rank", top 55, []⟩
def fn4 : Hy.Fd := ⟨v_f4, "label_rank", "label_rank", top 56, []⟩
def fn5 : Hy.Fd := ⟨v_f5, "in_order", "in_order", top 57, []⟩
def fn6 : Hy.Fd := ⟨v_f6, "_law_rng", "_law_rng", top 60, []⟩
def fn7 : Hy.Fd := ⟨v_f7, "_law_draw", "_law_draw", top 61, []⟩
def fn8 : Hy.Fd := ⟨v_f8, "_law_choice", "_law_choice", top 62, []⟩
def fn9 : Hy.Fd := ⟨v_f9, "_law_invalid", "_law_invalid", top 63, []⟩
def fn10 : Hy.Fd := ⟨v_f10, "_law_missing", "_law_missing", top 64, []⟩
def fn11 : Hy.Fd := ⟨v_f11, "_law_state", "_law_state", top 65, []⟩
def fn12 : Hy.Fd := ⟨v_f12, "_law_limit", "_law_limit", top 66, []⟩
def fn13 : Hy.Fd := ⟨v_f13, "_law_made", "_law_made", top 67, []⟩
def fn14 : Hy.Fd := ⟨v_f14, "_law_first_flags", "_law_first_flags", top 68, []⟩
def fn15 : Hy.Fd := ⟨v_f15, "_law_second_flags", "_law_second_flags", top 69, []⟩
def fn16 : Hy.Fd := ⟨v_f16, "_law_classes", "_law_classes", top 70, []⟩
def fn17 : Hy.Fd := ⟨v_f17, "_law_first_attributes", "_law_first_attributes", top 71, []⟩
def fn18 : Hy.Fd := ⟨v_f18, "_law_second_attributes", "_law_second_attributes", top 72, []⟩
def fn19 : Hy.Fd := ⟨v_f19, "_law_base_right", "_law_base_right", top 73, []⟩
def fn20 : Hy.Fd := ⟨v_f20, "_law_error_right", "_law_error_right", top 74, []⟩
def fn21 : Hy.Fd := ⟨v_f21, "_law_told", "_law_told", top 75, []⟩
def fn22 : Hy.Fd := ⟨v_f22, "_law_refused_right", "_law_refused_right", top 76, []⟩
def fn23 : Hy.Fd := ⟨v_f23, "law", "law", top 77, []⟩
def fn24 : Hy.Fd := ⟨v_fL, "__init__", "Label.__init__", inClass (top 58) 1, []⟩
def fn25 : Hy.Fd := ⟨v_gE, "__eq__", "Label.__eq__", inClass (top 58) 9, []⟩
def fn26 : Hy.Fd := ⟨v_gL, "__len__", "Label.__len__", inClass (top 58) 10, []⟩
def fn27 : Hy.Fd := ⟨v_gS, "__str__", "Label.__str__", inClass (top 58) 11, []⟩
def fn28 : Hy.Fd := ⟨v_gR, "__repr__", "Label.__repr__", inClass (top 58) 12, []⟩
def fn29 : Hy.Fd := ⟨v_gH, "__contains__", "Label.__contains__", inClass (top 58) 8, []⟩
def fn30 : Hy.Fd := ⟨v_gI, "is_below", "Label.is_below", inClass (top 58) 4, []⟩
def fn31 : Hy.Fd := ⟨v_gO, "__or__", "Label.__or__", inClass (top 58) 6, []⟩
def fn32 : Hy.Fd := ⟨v_gA, "__and__", "Label.__and__", inClass (top 58) 7, []⟩
def fn33 : Hy.Fd := ⟨v_gM, "marks", "Label.marks", inClass (top 58) 3, []⟩
def fn34 : Hy.Fd := ⟨v_fK0, "__init__", "InvalidName.__init__", inClass (top 4) 0, []⟩
def fn35 : Hy.Fd := ⟨v_fK1, "__init__", "InvalidLabel.__init__", inClass (top 5) 0, []⟩
def fn36 : Hy.Fd := ⟨v_fK2, "__init__", "InvalidText.__init__", inClass (top 6) 0, []⟩
def fn37 : Hy.Fd := ⟨v_fK3, "__init__", "InvalidRow.__init__", inClass (top 7) 0, []⟩
def fn38 : Hy.Fd := ⟨v_fK4, "__init__", "InvalidKey.__init__", inClass (top 8) 0, []⟩
def fn39 : Hy.Fd := ⟨v_fK5, "__init__", "InvalidColumns.__init__", inClass (top 9) 0, []⟩
def fn40 : Hy.Fd := ⟨v_fK6, "__init__", "InvalidRule.__init__", inClass (top 10) 0, []⟩
def fn41 : Hy.Fd := ⟨v_fK7, "__init__", "InvalidSource.__init__", inClass (top 11) 0, []⟩
def fn42 : Hy.Fd := ⟨v_fK8, "__init__", "InvalidEntry.__init__", inClass (top 12) 0, []⟩
def fn43 : Hy.Fd := ⟨v_fK9, "__init__", "InvalidCount.__init__", inClass (top 13) 0, []⟩
def fn44 : Hy.Fd := ⟨v_fK10, "__init__", "InvalidCommand.__init__", inClass (top 14) 0, []⟩
def fn45 : Hy.Fd := ⟨v_fK11, "__init__", "InvalidLine.__init__", inClass (top 15) 0, []⟩
def fn46 : Hy.Fd := ⟨v_fK12, "__init__", "InvalidEvent.__init__", inClass (top 16) 0, []⟩
def fn47 : Hy.Fd := ⟨v_fK13, "__init__", "WrongValues.__init__", inClass (top 17) 0, []⟩
def fn48 : Hy.Fd := ⟨v_fK14, "__init__", "WrongSort.__init__", inClass (top 18) 0, []⟩
def fn49 : Hy.Fd := ⟨v_fK15, "__init__", "UnknownSource.__init__", inClass (top 20) 0, []⟩
def fn50 : Hy.Fd := ⟨v_fK16, "__init__", "UnknownColumn.__init__", inClass (top 21) 0, []⟩
def fn51 : Hy.Fd := ⟨v_fK17, "__init__", "UnknownKind.__init__", inClass (top 22) 0, []⟩
def fn52 : Hy.Fd := ⟨v_fK18, "__init__", "UnknownEntry.__init__", inClass (top 23) 0, []⟩
def fn53 : Hy.Fd := ⟨v_fK19, "__init__", "NoEntry.__init__", inClass (top 24) 0, []⟩
def fn54 : Hy.Fd := ⟨v_fK20, "__init__", "NoRow.__init__", inClass (top 25) 0, []⟩
def fn55 : Hy.Fd := ⟨v_fK21, "__init__", "NoMemo.__init__", inClass (top 26) 0, []⟩
def fn56 : Hy.Fd := ⟨v_fK22, "__init__", "UnknownUser.__init__", inClass (top 27) 0, []⟩
def fn57 : Hy.Fd := ⟨v_fK23, "__init__", "UnknownOffer.__init__", inClass (top 28) 0, []⟩
def fn58 : Hy.Fd := ⟨v_fK24, "__init__", "NameTaken.__init__", inClass (top 30) 0, []⟩
def fn59 : Hy.Fd := ⟨v_fK25, "__init__", "Taken.__init__", inClass (top 31) 0, []⟩
def fn60 : Hy.Fd := ⟨v_fK26, "__init__", "Waiting.__init__", inClass (top 32) 0, []⟩
def fn61 : Hy.Fd := ⟨v_fK27, "__init__", "Missing.__init__", inClass (top 33) 0, []⟩
def fn62 : Hy.Fd := ⟨v_fK28, "__init__", "Broken.__init__", inClass (top 34) 0, []⟩
def fn63 : Hy.Fd := ⟨v_fK29, "__init__", "Restricted.__init__", inClass (top 35) 0, []⟩
def fn64 : Hy.Fd := ⟨v_fK30, "__init__", "InUse.__init__", inClass (top 36) 0, []⟩
def fn65 : Hy.Fd := ⟨v_fK31, "__init__", "WouldSuspend.__init__", inClass (top 37) 0, []⟩
def fn66 : Hy.Fd := ⟨v_fK32, "__init__", "ReplayDiffers.__init__", inClass (top 38) 0, []⟩
def fn67 : Hy.Fd := ⟨v_fK33, "__init__", "InTransaction.__init__", inClass (top 39) 0, []⟩
def fn68 : Hy.Fd := ⟨v_fK34, "__init__", "NoTransaction.__init__", inClass (top 40) 0, []⟩
def fn69 : Hy.Fd := ⟨v_fK35, "__init__", "SessionEnded.__init__", inClass (top 41) 0, []⟩
def fn70 : Hy.Fd := ⟨v_fK36, "__init__", "OwnOffer.__init__", inClass (top 42) 0, []⟩
def fn71 : Hy.Fd := ⟨v_fK37, "__init__", "NotAllowed.__init__", inClass (top 43) 0, []⟩
def fn72 : Hy.Fd := ⟨v_fK38, "__init__", "OutOfSequence.__init__", inClass (top 44) 0, []⟩
def fn73 : Hy.Fd := ⟨v_fK39, "__init__", "Behind.__init__", inClass (top 45) 0, []⟩
def fn74 : Hy.Fd := ⟨v_fK40, "__init__", "TooMany.__init__", inClass (top 47) 0, []⟩
def fn75 : Hy.Fd := ⟨v_fK41, "__init__", "TooDear.__init__", inClass (top 48) 0, []⟩
def fc0 : List Hy.Fd := [fn0, fn1, fn2, fn3, fn4, fn5, fn6, fn7, fn8, fn9, fn10, fn11, fn12, fn13, fn14, fn15, fn16, fn17, fn18, fn19]
def fc1 : List Hy.Fd := [fn20, fn21, fn22, fn23, fn24, fn25, fn26, fn27, fn28, fn29, fn30, fn31, fn32, fn33, fn34, fn35, fn36, fn37, fn38, fn39]
def fc2 : List Hy.Fd := [fn40, fn41, fn42, fn43, fn44, fn45, fn46, fn47, fn48, fn49, fn50, fn51, fn52, fn53, fn54, fn55, fn56, fn57, fn58, fn59]
def fc3 : List Hy.Fd := [fn60, fn61, fn62, fn63, fn64, fn65, fn66, fn67, fn68, fn69, fn70, fn71, fn72, fn73, fn74, fn75]
def fns : List Hy.Fd := fc0 ++ fc1 ++ fc2 ++ fc3
def tabs : List Hy.Tab := []
end Hd
end K18
set_option maxHeartbeats 0
/-! ### the run of the top -/
namespace K18.Hd
open PySem PySem.W PySem.Calls PyProof.Rows
abbrev R : OpenRow := OpenLaw.row PySem.Challenge.rw_aboveless_k18_errors_and_sequences
abbrev qv : Program := view R.prog [77]
def nm0 : List PySem.Str := ["_wall", "__name__", "told_error", "InvalidError", "InvalidName", "InvalidLabel", "InvalidText", "InvalidRow", "InvalidKey", "InvalidColumns", "InvalidRule", "InvalidSource", "InvalidEntry", "InvalidCount", "InvalidCommand", "InvalidLine", "InvalidEvent", "WrongValues", "WrongSort", "MissingError", "UnknownSource", "UnknownColumn", "UnknownKind", "UnknownEntry", "NoEntry", "NoRow", "NoMemo", "UnknownUser", "UnknownOffer", "StateError"]
def nm1 : List PySem.Str := ["NameTaken", "Taken", "Waiting", "Missing", "Broken", "Restricted", "InUse", "WouldSuspend", "ReplayDiffers", "InTransaction", "NoTransaction", "SessionEnded", "OwnOffer", "NotAllowed", "OutOfSequence", "Behind", "LimitError", "TooMany", "TooDear", "LETTERS", "MOST_LETTERS", "is_name", "check_label", "marks_rank", "label_rank", "in_order", "Label", "_law_rng", "_law_draw", "_law_choice"]
def nm2 : List PySem.Str := ["_law_invalid", "_law_missing", "_law_state", "_law_limit", "_law_made", "_law_first_flags", "_law_second_flags", "_law_classes", "_law_first_attributes", "_law_second_attributes", "_law_base_right", "_law_error_right", "_law_told", "_law_refused_right"]
def loose : List PySem.Str := nm0 ++ nm1 ++ nm2
def ad0 : List Addr := [1, 2, 3, 27, 28, 37, 38, 54, 55, 57, 58, 73, 74, 76, 77, 92, 93, 95, 96, 111, 112, 114, 115, 130, 131, 133, 134, 149, 150, 152]
def ad1 : List Addr := [153, 168, 169, 171, 172, 187, 188, 190, 191, 206, 207, 209, 210, 225, 226, 228, 229, 244, 245, 247, 248, 263, 264, 266, 267, 282, 283, 285, 286, 301]
def ad2 : List Addr := [302, 304, 305, 320, 321, 323, 324, 335, 336, 352, 353, 355, 356, 371, 372, 374, 375, 390, 391, 393, 394, 409, 410, 412, 413, 428, 429, 431, 432, 447]
def ad3 : List Addr := [448, 450, 451, 466, 467, 469, 470, 485, 486, 488, 489, 504, 505, 507, 508, 519, 520, 536, 537, 539, 540, 555, 556, 558, 559, 574, 575, 577, 578, 593]
def ad4 : List Addr := [594, 596, 597, 612, 613, 615, 616, 631, 632, 634, 635, 650, 651, 653, 654, 669, 670, 672, 673, 688, 689, 691, 692, 707, 708, 710, 711, 726, 727, 729]
def ad5 : List Addr := [730, 745, 746, 748, 749, 764, 765, 767, 768, 783, 784, 786, 787, 802, 803, 805, 806, 821, 822, 824, 825, 836, 837, 853, 854, 856, 857, 872, 873, 875]
def ad6 : List Addr := [876, 882, 883, 889, 890, 896, 897, 903, 904, 910, 911, 924, 925, 941, 942, 943, 947, 948, 961, 962, 966, 967, 973, 974, 980, 981, 987, 988, 994, 995]
def ad7 : List Addr := [999, 1000, 1002, 1003, 1013, 1014, 1020, 1021, 1027, 1028, 1034, 1035, 1041, 1042, 1048, 1049, 1055, 1056, 1062, 1063, 1069, 1070, 1076, 1077, 1083, 1084, 1090, 1091, 1097, 1098]
def ad8 : List Addr := [1104, 1105, 1109, 1110, 1116, 1117, 1123, 1124, 1128, 1129]
def adrs : List Addr := ad0 ++ ad1 ++ ad2 ++ ad3 ++ ad4 ++ ad5 ++ ad6 ++ ad7 ++ ad8
abbrev hk : Hook := Hy.hook adrs tps ck fns tabs
def ob (s : SharedT) : Hy.Al2 := Hy.obsG adrs tps ck fns tabs (HandSHeadRun.getT s)
theorem ob_eq (s : SharedT) : ob s = hk.obs s.abs := Hy.obsG_eq (HandSHeadRun.getT_eq s)
abbrev Pw (w : World) : Prop := ∀ os : OsState, (HandSHeadRun.endF (HandSHeadRun.stepQ (HandSHeadRun.denQ HandSHeadRun.tabQ) R.prog w) 30000 R.prog w os).map (fun s => (HandSHeadRun.looksF R.prog (boot_heap w.params) s.abs, HandSHeadRun.seenQ qv loose (importedModules R.prog.main.body) (fun s => xlAt qv [] s && recOk R.toRowW.records s) s.abs)) = some (true, openGood qv loose)
abbrev Px (w : World) : Prop := ∀ os : OsState, (HandSHeadRun.endF (HandSHeadRun.stepQ (HandSHeadRun.denQ HandSHeadRun.tabQ) R.prog w) 30000 R.prog w os).map (fun s => ckA.all fun l => l.all fun c => c (Hx.fragG adrs (HandSHeadRun.getT s))) = some true
abbrev Py (w : World) : Prop := ∀ os : OsState, (HandSHeadRun.endF (HandSHeadRun.stepQ (HandSHeadRun.denQ HandSHeadRun.tabQ) R.prog w) 30000 R.prog w os).map (fun s => ckB.all fun l => l.all fun c => c (Hx.fragG adrs (HandSHeadRun.getT s))) = some true
abbrev Pz (w : World) : Prop := ∀ os : OsState, (HandSHeadRun.endF (HandSHeadRun.stepQ (HandSHeadRun.denQ HandSHeadRun.tabQ) R.prog w) 30000 R.prog w os).map (fun s => (Hy.obsX ckC fns tabs (Hx.fragG adrs (HandSHeadRun.getT s)), tps.map (HandSHeadRun.getT s))) = some (Hy.valG tps fns tabs w)
end K18.Hd
namespace K18.Hd
open PySem PySem.W PySem.Calls PyProof.Rows
theorem rw0 (w : World) : Pw (w.withFollow "special-get-raises" false) := by
  intro os
  kernel_rfl
theorem rw1 (w : World) : Pw (w.withFollow "special-get-raises" true) := by
  intro os
  kernel_rfl
theorem rw_ (w : World) : Pw w := byRow2 "special-get-raises" (P := Pw) rw0 rw1 w
end K18.Hd
namespace K18.Hd
open PySem PySem.W PySem.Calls PyProof.Rows
theorem rx0 (w : World) : Px (w.withFollow "special-get-raises" false) := by
  intro os
  kernel_rfl
theorem rx1 (w : World) : Px (w.withFollow "special-get-raises" true) := by
  intro os
  kernel_rfl
theorem rx_ (w : World) : Px w := byRow2 "special-get-raises" (P := Px) rx0 rx1 w
end K18.Hd
namespace K18.Hd
open PySem PySem.W PySem.Calls PyProof.Rows
theorem ry0 (w : World) : Py (w.withFollow "special-get-raises" false) := by
  intro os
  kernel_rfl
theorem ry1 (w : World) : Py (w.withFollow "special-get-raises" true) := by
  intro os
  kernel_rfl
theorem ry_ (w : World) : Py w := byRow2 "special-get-raises" (P := Py) ry0 ry1 w
end K18.Hd
namespace K18.Hd
open PySem PySem.W PySem.Calls PyProof.Rows
theorem rz0 (w : World) : Pz (w.withFollow "special-get-raises" false) := by
  intro os
  kernel_rfl
theorem rz1 (w : World) : Pz (w.withFollow "special-get-raises" true) := by
  intro os
  kernel_rfl
theorem rz_ (w : World) : Pz w := byRow2 "special-get-raises" (P := Pz) rz0 rz1 w
end K18.Hd
namespace K18.Hd
open PySem PySem.W PySem.Calls PyProof.Rows
theorem run (w : World) : HandSHeadRun.RunEq R qv hk ob 30000 loose w := Hy.run_parts (rw_ w) (rx_ w) (ry_ w) (rz_ w)
end K18.Hd
set_option maxHeartbeats 4000000
/-! == and != of an instance that has its own __eq__, with whatever stands on the other side -/
namespace EqO
open PySem PySem.Spec PyProof.Rows L2
/-- a value of the built-in type T that declines == and != with the instance at x -/
structure Decl (s : Shared) (v : Value) (x : Addr) (T : String) : Prop where
  ty : s.TypeIs v T
  eq : ∀ (prog : Program) (w : World) (A : Around) (E : Value → Shared → Prop) (Q : Option Value → Shared → Prop), Q none s → wpAny (model prog w) A (tryCompare v "__eq__" (.ref x)) Q E s
  ne : ∀ (prog : Program) (w : World) (A : Around) (E : Value → Shared → Prop) (Q : Option Value → Shared → Prop), Q none s → wpAny (model prog w) A (tryCompare v "__ne__" (.ref x)) Q E s
theorem none_eq (l : Addr) : Gives (Builtin.«NoneType.__eq__» ⟨[.none, .ref l], []⟩) (.val (Value.notImplemented)) :=
  .of_wp fun M A E s Q h => by obtain ⟨hp, g, d, tk, os⟩ := s; wp_walk; exact ⟨_, rfl, h⟩
theorem none_ne (l : Addr) : Gives (Builtin.«NoneType.__ne__» ⟨[.none, .ref l], []⟩) (.val (Value.notImplemented)) :=
  .of_wp fun M A E s Q h => by obtain ⟨hp, g, d, tk, os⟩ := s; wp_walk; exact ⟨_, rfl, h⟩
theorem decl_none {s : Shared} (x : Addr) : Decl s .none x "NoneType" where
  ty := rfl
  eq := fun prog w A E Q h => wpAny_tryCompare_declines rfl F.slot_NoneType_eq (call_gives F.slot_NoneType_eq rfl F.entry_NoneType_eq (F.args_NoneType_eq_2 _ _) (none_eq x) ⟨rfl, h⟩)
  ne := fun prog w A E Q h => wpAny_tryCompare_declines rfl F.slot_NoneType_ne (call_gives F.slot_NoneType_ne rfl F.entry_NoneType_ne (F.args_NoneType_ne_2 _ _) (none_ne x) ⟨rfl, h⟩)
/-- the object at x is a plain one -/
def Pl (x : Addr) (s : Shared) : Prop := ∃ c dd sl, s.heap.get? x = some ({ cls := c, dict := dd, data := .plain, slots := sl } : Obj)
theorem bool_eq (b : Bool) (x : Addr) : Meets (Builtin.«int.__eq__» ⟨[.bool b, .ref x], []⟩) (fun _ R s => Pl x s ∧ R (.ok (.ret .notImplemented)) s) :=
  .of_wp fun prog w A R s h => by obtain ⟨hp, g, d, tk, os⟩ := s; obtain ⟨⟨c, dd, sl, hl⟩, h⟩ := h; wp_walk using wpAny_loadPart' hl, wpAny_load hl; exact ⟨_, rfl, h⟩
theorem bool_ne (b : Bool) (x : Addr) : Meets (Builtin.«int.__ne__» ⟨[.bool b, .ref x], []⟩) (fun _ R s => Pl x s ∧ R (.ok (.ret .notImplemented)) s) :=
  .of_wp fun prog w A R s h => by obtain ⟨hp, g, d, tk, os⟩ := s; obtain ⟨⟨c, dd, sl, hl⟩, h⟩ := h; wp_walk using wpAny_loadPart' hl, wpAny_load hl; exact ⟨_, rfl, h⟩
theorem int_eq (b : Int) (t : Tok) (x : Addr) : Meets (Builtin.«int.__eq__» ⟨[.int b t, .ref x], []⟩) (fun _ R s => Pl x s ∧ R (.ok (.ret .notImplemented)) s) :=
  .of_wp fun prog w A R s h => by obtain ⟨hp, g, d, tk, os⟩ := s; obtain ⟨⟨c, dd, sl, hl⟩, h⟩ := h; wp_walk using wpAny_loadPart' hl, wpAny_load hl; exact ⟨_, rfl, h⟩
theorem int_ne (b : Int) (t : Tok) (x : Addr) : Meets (Builtin.«int.__ne__» ⟨[.int b t, .ref x], []⟩) (fun _ R s => Pl x s ∧ R (.ok (.ret .notImplemented)) s) :=
  .of_wp fun prog w A R s h => by obtain ⟨hp, g, d, tk, os⟩ := s; obtain ⟨⟨c, dd, sl, hl⟩, h⟩ := h; wp_walk using wpAny_loadPart' hl, wpAny_load hl; exact ⟨_, rfl, h⟩
theorem str_eq (b : Str) (t : Tok) (x : Addr) : Meets (Builtin.«str.__eq__» ⟨[.str b t, .ref x], []⟩) (fun _ R s => Pl x s ∧ R (.ok (.ret .notImplemented)) s) :=
  .of_wp fun prog w A R s h => by obtain ⟨hp, g, d, tk, os⟩ := s; obtain ⟨⟨c, dd, sl, hl⟩, h⟩ := h; wp_walk using wpAny_loadPart' hl, wpAny_load hl; exact ⟨_, rfl, h⟩
theorem str_ne (b : Str) (t : Tok) (x : Addr) : Meets (Builtin.«str.__ne__» ⟨[.str b t, .ref x], []⟩) (fun _ R s => Pl x s ∧ R (.ok (.ret .notImplemented)) s) :=
  .of_wp fun prog w A R s h => by obtain ⟨hp, g, d, tk, os⟩ := s; obtain ⟨⟨c, dd, sl, hl⟩, h⟩ := h; wp_walk using wpAny_loadPart' hl, wpAny_load hl; exact ⟨_, rfl, h⟩
/-- the object at x is none of the built-in type T -/
def Not (x : Addr) (T : String) (M : Model) (s : Shared) : Prop := PySem.W.Looks M s.heap (isInstance (.ref x) (.type T)) false
theorem list_eq (l x : Addr) : Meets (Builtin.«list.__eq__» ⟨[.ref l, .ref x], []⟩) (fun A R s => (∀ M : Model, Not x "list" M s) ∧ R (.ok (.ret .notImplemented)) s) :=
  .of_wp fun prog w A R s h => by
    obtain ⟨n, h⟩ := h
    unfold Builtin.«list.__eq__»
    show wpAny _ _ (slotArgs "__eq__" 1 ⟨[.ref l, .ref x], []⟩ >>= _) _ _ _
    refine wpAny_bind (wpAny_pure (wpAny_bind ((n _).here ?_)))
    first | exact wpAny_pure h | exact wpAny_pure ⟨_, rfl, h⟩ | exact wpAny_pure (wpAny_pure h) | skip
theorem list_ne (l x : Addr) : Meets (Builtin.«list.__ne__» ⟨[.ref l, .ref x], []⟩) (fun A R s => (∀ M : Model, Not x "list" M s) ∧ R (.ok (.ret .notImplemented)) s) :=
  .of_wp fun prog w A R s h => by
    obtain ⟨n, h⟩ := h
    unfold Builtin.«list.__ne__»
    show wpAny _ _ (slotArgs "__ne__" 1 ⟨[.ref l, .ref x], []⟩ >>= _) _ _ _
    refine wpAny_bind (wpAny_pure (wpAny_bind ((n _).here ?_)))
    first | exact wpAny_pure h | exact wpAny_pure ⟨_, rfl, h⟩ | exact wpAny_pure (wpAny_pure h) | skip
theorem tuple_eq (l x : Addr) : Meets (Builtin.«tuple.__eq__» ⟨[.ref l, .ref x], []⟩) (fun A R s => (∀ M : Model, Not x "tuple" M s) ∧ R (.ok (.ret .notImplemented)) s) :=
  .of_wp fun prog w A R s h => by
    obtain ⟨n, h⟩ := h
    unfold Builtin.«tuple.__eq__»
    show wpAny _ _ (slotArgs "__eq__" 1 ⟨[.ref l, .ref x], []⟩ >>= _) _ _ _
    refine wpAny_bind (wpAny_pure (wpAny_bind ((n _).here ?_)))
    first | exact wpAny_pure h | exact wpAny_pure ⟨_, rfl, h⟩ | exact wpAny_pure (wpAny_pure h) | skip
theorem tuple_ne (l x : Addr) : Meets (Builtin.«tuple.__ne__» ⟨[.ref l, .ref x], []⟩) (fun A R s => (∀ M : Model, Not x "tuple" M s) ∧ R (.ok (.ret .notImplemented)) s) :=
  .of_wp fun prog w A R s h => by
    obtain ⟨n, h⟩ := h
    unfold Builtin.«tuple.__ne__»
    show wpAny _ _ (slotArgs "__ne__" 1 ⟨[.ref l, .ref x], []⟩ >>= _) _ _ _
    refine wpAny_bind (wpAny_pure (wpAny_bind ((n _).here ?_)))
    first | exact wpAny_pure h | exact wpAny_pure ⟨_, rfl, h⟩ | exact wpAny_pure (wpAny_pure h) | skip
theorem dict_eq (l x : Addr) : Meets (Builtin.«dict.__eq__» ⟨[.ref l, .ref x], []⟩) (fun A R s => (∀ M : Model, Not x "dict" M s) ∧ R (.ok (.ret .notImplemented)) s) :=
  .of_wp fun prog w A R s h => by
    obtain ⟨n, h⟩ := h
    unfold Builtin.«dict.__eq__»
    have f : Builtin.Dict.dictSlotArgs "__eq__" ⟨[.ref l, .ref x], []⟩ = pure (.ref l, .ref x) := by first | rfl | kernel_rfl
    show wpAny _ _ (Builtin.Dict.dictSlotArgs "__eq__" ⟨[.ref l, .ref x], []⟩ >>= _) _ _ _
    rw [f]
    refine wpAny_bind (wpAny_pure (wpAny_bind ((n _).here ?_)))
    rw [if_pos (show (!false) = true from rfl)]
    exact wpAny_bind (wpAny_rule (wpAny_pure ⟨_, rfl, h⟩))
theorem dict_ne (l x : Addr) : Meets (Builtin.«dict.__ne__» ⟨[.ref l, .ref x], []⟩) (fun A R s => (∀ M : Model, Not x "dict" M s) ∧ R (.ok (.ret .notImplemented)) s) :=
  .of_wp fun prog w A R s h => by
    obtain ⟨n, h⟩ := h
    unfold Builtin.«dict.__ne__»
    have f : Builtin.Dict.dictSlotArgs "__ne__" ⟨[.ref l, .ref x], []⟩ = pure (.ref l, .ref x) := by first | rfl | kernel_rfl
    show wpAny _ _ (Builtin.Dict.dictSlotArgs "__ne__" ⟨[.ref l, .ref x], []⟩ >>= _) _ _ _
    rw [f]
    refine wpAny_bind (wpAny_pure (wpAny_bind ((n _).here ?_)))
    rw [if_pos (show (!false) = true from rfl)]
    exact wpAny_bind (wpAny_rule (wpAny_pure ⟨_, rfl, h⟩))

theorem decl_bool {s : Shared} {x : Addr} (b : Bool) (p : Pl x s) : Decl s (.bool b) x "bool" where
  ty := rfl
  eq := fun prog w A E Q h => wpAny_tryCompare_declines (T := "bool") rfl F.slot_bool_eq (call_meets F.slot_bool_eq rfl F.entry_int_eq (F.args_int_eq_2 _ _) (bool_eq b x) ⟨p, rfl, h⟩)
  ne := fun prog w A E Q h => wpAny_tryCompare_declines (T := "bool") rfl F.slot_bool_ne (call_meets F.slot_bool_ne rfl F.entry_int_ne (F.args_int_ne_2 _ _) (bool_ne b x) ⟨p, rfl, h⟩)
theorem decl_int {s : Shared} {x : Addr} (b : Int) (t : Tok) (p : Pl x s) : Decl s (.int b t) x "int" where
  ty := rfl
  eq := fun prog w A E Q h => wpAny_tryCompare_declines (T := "int") rfl F.slot_int_eq (call_meets F.slot_int_eq rfl F.entry_int_eq (F.args_int_eq_2 _ _) (int_eq b t x) ⟨p, rfl, h⟩)
  ne := fun prog w A E Q h => wpAny_tryCompare_declines (T := "int") rfl F.slot_int_ne (call_meets F.slot_int_ne rfl F.entry_int_ne (F.args_int_ne_2 _ _) (int_ne b t x) ⟨p, rfl, h⟩)
theorem decl_str {s : Shared} {x : Addr} (b : Str) (t : Tok) (p : Pl x s) : Decl s (.str b t) x "str" where
  ty := rfl
  eq := fun prog w A E Q h => wpAny_tryCompare_declines (T := "str") rfl F.slot_str_eq (call_meets F.slot_str_eq rfl F.entry_str_eq (F.args_str_eq_2 _ _) (str_eq b t x) ⟨p, rfl, h⟩)
  ne := fun prog w A E Q h => wpAny_tryCompare_declines (T := "str") rfl F.slot_str_ne (call_meets F.slot_str_ne rfl F.entry_str_ne (F.args_str_ne_2 _ _) (str_ne b t x) ⟨p, rfl, h⟩)
theorem decl_list {s : Shared} {l x : Addr} (ty : s.TypeIs (.ref l) "list") (n : ∀ M : Model, Not x "list" M s) : Decl s (.ref l) x "list" where
  ty := ty
  eq := fun prog w A E Q h => wpAny_tryCompare_declines ty F.slot_list_eq (call_meets F.slot_list_eq ty F.entry_list_eq (F.args_list_eq_2 _ _) (list_eq l x) ⟨n, rfl, h⟩)
  ne := fun prog w A E Q h => wpAny_tryCompare_declines ty F.slot_list_ne (call_meets F.slot_list_ne ty F.entry_list_ne (F.args_list_ne_2 _ _) (list_ne l x) ⟨n, rfl, h⟩)
theorem decl_tuple {s : Shared} {l x : Addr} (ty : s.TypeIs (.ref l) "tuple") (n : ∀ M : Model, Not x "tuple" M s) : Decl s (.ref l) x "tuple" where
  ty := ty
  eq := fun prog w A E Q h => wpAny_tryCompare_declines ty F.slot_tuple_eq (call_meets F.slot_tuple_eq ty F.entry_tuple_eq (F.args_tuple_eq_2 _ _) (tuple_eq l x) ⟨n, rfl, h⟩)
  ne := fun prog w A E Q h => wpAny_tryCompare_declines ty F.slot_tuple_ne (call_meets F.slot_tuple_ne ty F.entry_tuple_ne (F.args_tuple_ne_2 _ _) (tuple_ne l x) ⟨n, rfl, h⟩)
theorem decl_dict {s : Shared} {l x : Addr} (ty : s.TypeIs (.ref l) "dict") (n : ∀ M : Model, Not x "dict" M s) : Decl s (.ref l) x "dict" where
  ty := ty
  eq := fun prog w A E Q h => wpAny_tryCompare_declines ty F.slot_dict_eq (call_meets F.slot_dict_eq ty F.entry_dict_eq (F.args_dict_eq_2 _ _) (dict_eq l x) ⟨n, rfl, h⟩)
  ne := fun prog w A E Q h => wpAny_tryCompare_declines ty F.slot_dict_ne (call_meets F.slot_dict_ne ty F.entry_dict_ne (F.args_dict_ne_2 _ _) (dict_ne l x) ⟨n, rfl, h⟩)

section
variable {prog : Program} {w : World} {A : Around} {E : Value → Shared → Prop} {s : Shared} {K : PySem.W.Frag} {x C g : Addr} {ox : Obj} {od : Option Obj} {v b : Value} {T : String}
theorem bne_of (C : Addr) (T : String) : (Value.type T != Value.ref C) = true := by
  have e : (Value.type T == Value.ref C) = false := Bool.eq_false_iff.mpr fun q => by cases beq_iff_eq.mp q
  simp [bne, e]
theorem try_eq {Q : Option Value → Shared → Prop} (X : K.In s.heap) (I : PySem.W.InstAt s.heap x ox C od) (hs : PySem.W.findIn K (.ref C) "__eq__" = some (some (.ref g))) (hf : PySem.W.isFn K (.ref g) = true)
    (h : wpAny (model prog w) A (call (.ref g) [.ref x, b]) (PySem.W.CmpBack fun v s' => Q (some v) s') E s) : wpAny (model prog w) A (tryCompare (.ref x) "__eq__" b) Q E s := by
  unfold tryCompare
  refine wpAny_bind (PySem.W.ifBound_K X I hs hf (wpAny_mono h (fun v s' hv => ?_) fun _ _ e => e))
  cases v <;> first | exact hv.elim | exact wpAny_pure hv
/-- b == x, b of a built-in type -/
theorem eq_right {Q : Value → Shared → Prop} (hu : A.units < cLine) (X : K.In s.heap) (I : PySem.W.InstAt s.heap x ox C od) (D : Decl s v x T) (sub : PySem.W.subIn K (.ref C) (.type T) = some false)
    (hs : PySem.W.findIn K (.ref C) "__eq__" = some (some (.ref g))) (hf : PySem.W.isFn K (.ref g) = true) (h : wpAny (model prog w) A (call (.ref g) [.ref x, v]) (PySem.W.CmpBack Q) E s) :
    wpAny (model prog w) A (richCompare .Eq v (.ref x)) Q E s := by
  unfold richCompare
  simp only [D.ty.oneThing_none]
  refine wpAny_holding (wpAny_bind (wpAny_cRoomFor hu (wpAny_bind (wpAny_typeOf D.ty (wpAny_bind (I.type.here ?_))))))
  rw [if_pos (bne_of C T)]
  refine wpAny_bind ((PySem.W.looks_subIn X sub).here ?_)
  simp only [Bool.false_eq_true, if_false, Bool.not_false, if_true]
  refine wpAny_bind (D.eq _ _ _ _ _ ?_)
  refine wpAny_bind (try_eq X I hs hf (wpAny_mono h (fun u s' hv => ?_) fun _ _ e => e))
  cases u <;> first | exact hv.elim | exact wpAny_pure hv
theorem obj_ne {Q : Fin → Shared → Prop} (hu : A.units < cLine) (X : K.In s.heap) (I : PySem.W.InstAt s.heap x ox C od) (hs : PySem.W.findIn K (.ref C) "__eq__" = some (some (.ref g))) (hf : PySem.W.isFn K (.ref g) = true)
    (h : wpAny (model prog w) A (call (.ref g) [.ref x, b]) (fun v s' => ∃ r, v = .bool r ∧ Q (.done (.ret (.bool (!r)))) s') E s) : wpAny (model prog w) A (Builtin.«object.__ne__» ⟨[.ref x, b], []⟩) Q E s := by
  unfold Builtin.«object.__ne__»
  show wpAny _ _ (slotArgs "__ne__" 1 ⟨[.ref x, b], []⟩ >>= _) _ _ _
  refine wpAny_bind (wpAny_pure (wpAny_bind (wpAny_cRoomFor hu (wpAny_bind (PySem.W.ifBound_K X I hs hf (wpAny_mono h ?_ fun _ _ e => e))))))
  rintro _ s' ⟨r, rfl, q⟩
  exact wpAny_bind (wpAny_truthy_bool (wpAny_pure q))
theorem try_ne {Q : Option Value → Shared → Prop} (hu : A.units + 1 < cLine) (X : K.In s.heap) (I : PySem.W.InstAt s.heap x ox C od) (hn : PySem.W.findIn K (.ref C) "__ne__" = some (some (.builtin "object.__ne__"))) (ob : PySem.W.subIn K (.ref C) (.type "object") = some true)
    (hs : PySem.W.findIn K (.ref C) "__eq__" = some (some (.ref g))) (hf : PySem.W.isFn K (.ref g) = true)
    (h : wpAny (model prog w) A.in1 (call (.ref g) [.ref x, b]) (fun v s' => ∃ r, v = .bool r ∧ Q (some (.bool (!r))) s') E s) : wpAny (model prog w) A (tryCompare (.ref x) "__ne__" b) Q E s := by
  have S := F.cmp_object.ne
  have isO : PySem.W.Looks (model prog w) s.heap (isInstance (.ref x) (.type "object")) true := I.type.andThen (PySem.W.looks_subIn X ob)
  have run : wpAny (model prog w) A (call (.builtin "object.__ne__") [.ref x, b]) (fun v s' => ∃ r, v = .bool r ∧ Q (some (.bool r)) s') E s := by
    refine wpAny_call (codeAny_call_builtin S.plain F.cmpEntry_ne (PySem.W.check_slot F.cmpKind_ne F.cmpSplit_ne isO (F.cmpArgs_ne _ _) (obj_ne (A := A.in1) hu X I hs hf (wpAny_mono h ?_ fun _ _ e => e))))
    rintro _ s' ⟨r, rfl, q⟩
    exact ⟨r, rfl, _, rfl, q⟩
  unfold tryCompare
  simp only [callSpecialIfBound?, bindSpecialIfBound?]
  have fin : wpAny (model prog w) A (call (.builtin "object.__ne__") ([.ref x] ++ [b]) >>= fun v => pure (some v)) (fun r s' => ∃ q, r = some (.bool q) ∧ Q (some (.bool q)) s') E s := wpAny_bind (wpAny_mono run (fun v s' h' => by
    obtain ⟨r, rfl, q⟩ := h'
    exact wpAny_pure ⟨r, rfl, q⟩) fun _ _ h' => h')
  refine wpAny_bind (wpAny_holding (wpAny_bind (wpAny_bind (wpAny_bind (I.type.here ((PySem.W.looks_findIn X hn).here ?_))))))
  simp only [S.bind]
  refine wpAny_bind (wpAny_askSetting (wpAny_ite ?_))
  split
  · refine wpAny_bind (wpAny_pure (wpAny_pure (wpAny_mono fin (fun r s' h' => ?_) fun _ _ e => e)))
    obtain ⟨q, rfl, z⟩ := h'
    exact wpAny_pure z
  · refine wpAny_tryCatch (wpAny_bind (wpAny_pure (wpAny_pure (wpAny_mono fin (fun r s' h' => ?_) fun _ _ e => e))))
    obtain ⟨q, rfl, z⟩ := h'
    exact wpAny_pure z
/-- b != x, b of a built-in type -/
theorem ne_right {Q : Value → Shared → Prop} (hu : A.units + 1 < cLine) (X : K.In s.heap) (I : PySem.W.InstAt s.heap x ox C od) (D : Decl s v x T) (sub : PySem.W.subIn K (.ref C) (.type T) = some false)
    (hn : PySem.W.findIn K (.ref C) "__ne__" = some (some (.builtin "object.__ne__"))) (ob : PySem.W.subIn K (.ref C) (.type "object") = some true)
    (hs : PySem.W.findIn K (.ref C) "__eq__" = some (some (.ref g))) (hf : PySem.W.isFn K (.ref g) = true) (h : wpAny (model prog w) A.in1 (call (.ref g) [.ref x, v]) (fun u s' => ∃ r, u = .bool r ∧ Q (.bool (!r)) s') E s) :
    wpAny (model prog w) A (richCompare .NotEq v (.ref x)) Q E s := by
  unfold richCompare
  simp only [D.ty.oneThing_none]
  refine wpAny_holding (wpAny_bind (wpAny_cRoomFor (Nat.lt_of_succ_lt hu) (wpAny_bind (wpAny_typeOf D.ty (wpAny_bind (I.type.here ?_))))))
  rw [if_pos (bne_of C T)]
  refine wpAny_bind ((PySem.W.looks_subIn X sub).here ?_)
  simp only [Bool.false_eq_true, if_false, Bool.not_false, if_true]
  refine wpAny_bind (D.ne _ _ _ _ _ ?_)
  refine wpAny_bind (try_ne hu X I hn ob hs hf (wpAny_mono h (fun u s' hv => ?_) fun _ _ e => e))
  obtain ⟨r, rfl, q⟩ := hv
  exact ⟨r, rfl, wpAny_pure q⟩
/-- x != b -/
theorem ne_left {tb : Value} {Q : Value → Shared → Prop} (hu : A.units + 1 < cLine) (X : K.In s.heap) (I : PySem.W.InstAt s.heap x ox C od) (hb : PySem.W.Looks (model prog w) s.heap (typeOf b) tb) (nf : PySem.W.notFirst K C tb = true)
    (hn : PySem.W.findIn K (.ref C) "__ne__" = some (some (.builtin "object.__ne__"))) (ob : PySem.W.subIn K (.ref C) (.type "object") = some true)
    (hs : PySem.W.findIn K (.ref C) "__eq__" = some (some (.ref g))) (hf : PySem.W.isFn K (.ref g) = true) (h : wpAny (model prog w) A.in1 (call (.ref g) [.ref x, b]) (fun u s' => ∃ r, u = .bool r ∧ Q (.bool (!r)) s') E s) :
    wpAny (model prog w) A (richCompare .NotEq (.ref x) b) Q E s := by
  have one := try_ne (Q := fun r s' => ∃ q, r = some (.bool q) ∧ Q (.bool q) s') hu X I hn ob hs hf (wpAny_mono h (fun u s' hv => by
    obtain ⟨r, rfl, q⟩ := hv
    exact ⟨r, rfl, _, rfl, q⟩) fun _ _ e => e)
  unfold richCompare
  simp only [oneThing_ref]
  refine wpAny_holding (wpAny_bind (wpAny_cRoomFor (Nat.lt_of_succ_lt hu) (wpAny_bind (I.type.here (wpAny_bind (hb.here ?_))))))
  have last : wpAny (model prog w) A (do
      if let some v ← tryCompare (.ref x) (cmpInfo .NotEq).2.1 b then return v
      if !false then
        if let some v ← tryCompare b (cmpInfo .NotEq).2.2 (.ref x) then return v
      rule "compare.ne-identity"
      return .bool (!(← isSame (.ref x) b))) Q E s := by
    refine wpAny_bind (wpAny_mono one (fun r s' z => ?_) fun _ _ e => e)
    obtain ⟨q, rfl, z⟩ := z
    exact wpAny_pure z
  split
  · rename_i q
    have e : PySem.W.subIn K tb (.ref C) = some false := by
      rcases Bool.or_eq_true_iff.mp nf with e | e
      · rw [beq_iff_eq.mp e] at q; simp at q
      · exact beq_iff_eq.mp e
    exact wpAny_bind ((PySem.W.looks_subIn X e).here last)
  · exact wpAny_bind (wpAny_pure last)
end
end EqO
namespace EqO
open PySem PySem.Spec PyProof.Rows L2
/-- a tracked value of a built-in type -/
inductive BtV (K : PySem.W.Frag) (H : Hp) : V → String → Prop
  | non : BtV K H .non "NoneType"
  | bl (b : Bool) : BtV K H (.bl b) "bool"
  | int (i : Int) : BtV K H (.int i) "int"
  | str (x : Str) : BtV K H (.str x) "str"
  | lst {a : Addr} {xs : List V} : H a = some (.lst xs) → BtV K H (.ref a) "list"
  | tup {a : Addr} {xs : List V} : H a = some (.tup xs) → BtV K H (.ref a) "tuple"
  | dic {a : Addr} {kvs : List (Key × V)} : H a = some (.dK kvs) → BtV K H (.ref a) "dict"
  | dcT {a : Addr} {kvs : List (List Key × V)} : H a = some (.dT kvs) → BtV K H (.ref a) "dict"
  | kTup {a : Addr} {o : Obj} : K.lookup a = some o → o.cls = .type "tuple" → BtV K H (.ref a) "tuple"
structure OwnE (K : PySem.W.Frag) (C g : Addr) : Prop where
  eq : PySem.W.findIn K (.ref C) "__eq__" = some (some (.ref g))
  fn : PySem.W.isFn K (.ref g) = true
  ne : PySem.W.findIn K (.ref C) "__ne__" = some (some (.builtin "object.__ne__"))
  ob : PySem.W.subIn K (.ref C) (.type "object") = some true
  sub : ∀ T ∈ ["NoneType", "bool", "int", "str", "list", "tuple", "dict"], PySem.W.subIn K (.ref C) (.type T) = some false ∧ PySem.W.notFirst K C (.type T) = true
theorem BtV.mem {K : PySem.W.Frag} {H : Hp} {v : V} {T : String} (h : BtV K H v T) : T ∈ ["NoneType", "bool", "int", "str", "list", "tuple", "dict"] := by
  cases h <;> decide
section
variable {X : Cx} {CX : CXT} {pins : List (Addr × Obj)} {σ : L2.St} {H : Hp} {s : Shared} {a C g dx : Addr} {fs : List (Str × V)} {n : Nat} {sp : Sp} {E : XK} {v : V} {u : Value} {T : String}
theorem decl_of (I : Inv X pins σ H s) (O : OwnE X.K C g) (J : PySem.W.InstAt s.heap a ox C od) (pl : Pl a s) (b : BtV X.K H v T) (r : RelV v u) : Decl s u a T := by
  have no : ∀ T, PySem.W.subIn X.K (.ref C) (.type T) = some false → ∀ M : Model, Not a T M s := fun T e M => J.type.andThen (PySem.W.looks_subIn I.kIn e)
  cases b with
  | non => cases r; exact decl_none a
  | bl b => cases r; exact decl_bool b pl
  | int i => obtain ⟨t, rfl⟩ := r; exact decl_int i t pl
  | str x => obtain ⟨t, rfl⟩ := r; exact decl_str x t pl
  | @lst l xs e =>
    cases r
    obtain ⟨_, _, n, _, h1⟩ := (show ObjOk X.prog X.w H s.heap l (.lst xs) from I.hok l _ e)
    exact decl_list ⟨_, h1, rfl⟩ (no _ (O.sub _ (by decide)).1)
  | @tup l xs e =>
    cases r
    obtain ⟨_, _, _, o, h1, h2, _⟩ := (show ObjOk X.prog X.w H s.heap l (.tup xs) from I.hok l _ e)
    exact decl_tuple ⟨o, h1, h2⟩ (no _ (O.sub _ (by decide)).1)
  | @dic l kvs e =>
    cases r
    obtain ⟨_, _, vs, _, o, es, ep, h1, h2, _⟩ := (show ObjOk X.prog X.w H s.heap l (.dK kvs) from I.hok l _ e)
    exact decl_dict ⟨o, h1, h2.1⟩ (no _ (O.sub _ (by decide)).1)
  | @dcT l kvs e =>
    cases r
    obtain ⟨_, _, vs, _, o, es, ep, h1, h2, _⟩ := (show ObjOk X.prog X.w H s.heap l (.dT kvs) from I.hok l _ e)
    exact decl_dict ⟨o, h1, h2.1⟩ (no _ (O.sub _ (by decide)).1)
  | @kTup l o e c =>
    cases r
    exact decl_tuple ⟨o, I.kIn l o e, c⟩ (no _ (O.sub _ (by decide)).1)
theorem inst_of (I : Inv X pins σ H s) (h : H a = some (.ins C dx fs)) : ∃ ox od, PySem.W.InstAt s.heap a ox C od ∧ Pl a s := by
  obtain ⟨mA, O, _⟩ := ins_get I.hok h
  obtain ⟨od, J, _⟩ := O.look
  exact ⟨_, _, J, _, _, _, O.obj⟩
/-- what stands on the other side -/
def Oth (K : PySem.W.Frag) (C : Addr) (H : Hp) (y : V) : Prop := (∃ T, BtV K H y T) ∨ ∃ b dy gs, y = .ref b ∧ H b = some (.ins C dy gs)
def rEqO (K : PySem.W.Frag) (C : Addr) (sp : Sp) (E : XK) : R2 := fun x y H Q =>
  (∃ a dx fs, x = .ref a ∧ H a = some (.ins C dx fs) ∧ Oth K C H y ∧ sp [x, y] H Q E) ∨ ∃ a dx fs T, y = .ref a ∧ H a = some (.ins C dx fs) ∧ BtV K H x T ∧ sp [y, x] H Q E
def rNeO (K : PySem.W.Frag) (C : Addr) (sp : Sp) (E : XK) : R2 := fun x y H Q => rEqO K C (fun vs H1 Q1 E1 => sp vs H1 (fun v H' => ∃ r, v = .bl r ∧ Q (.bl (!r)) H') E1) E x y H fun _ _ => True
theorem type_of (I : Inv X pins σ H s) (O : OwnE X.K C g) (J : PySem.W.InstAt s.heap a ox C od) (pl : Pl a s) (o : Oth X.K C H v) (r : RelV v u) : ∃ tb, PySem.W.Looks (model X.prog X.w) s.heap (typeOf u) tb ∧ PySem.W.notFirst X.K C tb = true := by
  rcases o with ⟨T, b⟩ | ⟨b, dy, gs, rfl, e⟩
  · have D := decl_of I O J pl b r
    refine ⟨.type T, ?_, (O.sub T b.mem).2⟩
    have ty := D.ty
    intro A Q E s' k q
    cases u with
    | ref l =>
      obtain ⟨o, ho, hc⟩ := ty
      exact wpAny_typeOf (T := T) ⟨o, k _ _ ho, hc⟩ q
    | _ => exact wpAny_typeOf (T := T) ty q
  · cases r
    obtain ⟨ox, od, J2, _⟩ := inst_of I e
    exact ⟨.ref C, J2.type, by unfold PySem.W.notFirst; simp⟩
theorem op_eqO (O : OwnE X.K C g) (F : FnR X.prog X.w X.K X.mg X.base CX n g sp) (hr : Room n X.A) (hx : Passes CX X E) : OpR X (compareOp .Eq) (rEqO X.K C sp E) := by
  intro pins s σ H x y v u Q I rx ry h
  show wpAny _ _ (richCompare .Eq v u) _ _ _
  obtain ⟨m, hF⟩ := I.fr
  rcases h with ⟨a, dx, fs, rfl, e, o, q⟩ | ⟨a, dx, fs, T, rfl, e, b, q⟩
  · cases rx
    obtain ⟨ox, od, J, pl⟩ := inst_of I e
    obtain ⟨tb, L, nf⟩ := type_of I O J pl o ry
    refine PySem.W.cmp_K (op := .Eq) hr.units0 hF I.ok.mod.kin J L nf O.eq O.fn ?_
    refine wpAny_mono (wpAny_call (run_fnR (us := [.ref a, u]) (vs := [.ref a, y]) F hr hx I (.cons rfl (.cons ry .nil)) q)) (fun w s' z => ?_) fun _ _ x => x
    obtain ⟨z', H', I', rz, qz⟩ := z
    exact SlX.cmpback rz ⟨z', H', I', rz, qz⟩
  · cases ry
    obtain ⟨ox, od, J, pl⟩ := inst_of I e
    refine eq_right hr.units0 I.kIn J (decl_of I O J pl b rx) (O.sub T b.mem).1 O.eq O.fn ?_
    refine wpAny_mono (wpAny_call (run_fnR (us := [.ref a, v]) (vs := [.ref a, x]) F hr hx I (.cons rfl (.cons rx .nil)) q)) (fun w s' z => ?_) fun _ _ x => x
    obtain ⟨z', H', I', rz, qz⟩ := z
    exact SlX.cmpback rz ⟨z', H', I', rz, qz⟩
theorem op_neO (O : OwnE X.K C g) (F : FnR X.prog X.w X.K X.mg X.base CX n g sp) (hr : Room (n + 1) X.A) (hx : Passes CX X E) : OpR X (compareOp .NotEq) (rNeO X.K C sp E) := by
  intro pins s σ H x y v u Q I rx ry h
  show wpAny _ _ (richCompare .NotEq v u) _ _ _
  have hr1 : Room n X.A.in1 := hr.in1
  rcases h with ⟨a, dx, fs, rfl, e, o, q⟩ | ⟨a, dx, fs, T, rfl, e, b, q⟩
  · cases rx
    obtain ⟨ox, od, J, pl⟩ := inst_of I e
    obtain ⟨tb, L, nf⟩ := type_of I O J pl o ry
    refine ne_left hr1.units0 I.kIn J L nf O.ne O.ob O.eq O.fn ?_
    refine wpAny_mono (wpAny_call (SlX.run_at (us := [.ref a, u]) (ws := [.ref a, y]) F hr1 I.env0.in1 hx I (.cons rfl (.cons ry .nil)) q)) (fun w s' z => ?_) fun _ _ x => x
    obtain ⟨z', H', I', rz, r, rfl, qz⟩ := z
    cases rz
    exact ⟨r, rfl, .bl (!r), H', I', rfl, qz⟩
  · cases ry
    obtain ⟨ox, od, J, pl⟩ := inst_of I e
    refine ne_right hr1.units0 I.kIn J (decl_of I O J pl b rx) (O.sub T b.mem).1 O.ne O.ob O.eq O.fn ?_
    refine wpAny_mono (wpAny_call (SlX.run_at (us := [.ref a, v]) (ws := [.ref a, x]) F hr1 I.env0.in1 hx I (.cons rfl (.cons rx .nil)) q)) (fun w s' z => ?_) fun _ _ x => x
    obtain ⟨z', H', I', rz, r, rfl, qz⟩ := z
    cases rz
    exact ⟨r, rfl, .bl (!r), H', I', rfl, qz⟩
/-- f(x), f one of len, repr, str, x an instance of the class at C, what C's own method keeps: sp -/
def rLenO (C : Addr) (sp : Sp) (E : XK) : List V → Hp → VK → Prop := fun xs H Q => ∃ a dx fs, xs = [V.ref a] ∧ H a = some (.ins C dx fs) ∧ sp [.ref a] H (fun v H' => ∃ k : Nat, v = .int (k : Int) ∧ k < 2 ^ 60 ∧ Q v H') E
def rTxtO (C : Addr) (sp : Sp) (E : XK) : List V → Hp → VK → Prop := fun xs H Q => ∃ a dx fs, xs = [V.ref a] ∧ H a = some (.ins C dx fs) ∧ sp [.ref a] H (fun v H' => ∃ z : Str, v = .str z ∧ Q v H') E
theorem call_lenO (hs : PySem.W.findIn X.K (.ref C) "__len__" = some (some (.ref g))) (hf : PySem.W.isFn X.K (.ref g) = true) (F : FnR X.prog X.w X.K X.mg X.base CX n g sp) (hr : Room (n + 1) X.A) (hx : Passes CX X E) : CallR X (.builtin "len") (rLenO C sp E) := by
  rintro pins s σ H xs us Q I r ⟨a, dx, fs, rfl, e, q⟩
  obtain ⟨u, rfl, ru⟩ := r.one
  cases ru
  obtain ⟨ox, od, J, pl⟩ := inst_of I e
  obtain ⟨m, hF⟩ := I.fr
  refine PySem.W.len_K hF I.ok.mod.kin J hs hf (wpAny_mono (wpAny_call (SlX.run_at (us := [.ref a]) (ws := [.ref a]) F hr.in1 I.env0.in1 hx I (.cons rfl .nil) q)) (fun w s' z => ?_) fun _ _ x => x)
  obtain ⟨z', H', I', rz, k, rfl, hk, qz⟩ := z
  obtain ⟨t, rfl⟩ := rz
  exact ⟨⟨by omega, by omega⟩, .int (k : Int), H', I'.tok _, ⟨_, rfl⟩, qz⟩
theorem call_reprO (hs : PySem.W.findIn X.K (.ref C) "__repr__" = some (some (.ref g))) (hf : PySem.W.isFn X.K (.ref g) = true) (F : FnR X.prog X.w X.K X.mg X.base CX n g sp) (hr : Room (n + 1) X.A) (hx : Passes CX X E) : CallR X (.builtin "repr") (rTxtO C sp E) := by
  rintro pins s σ H xs us Q I r ⟨a, dx, fs, rfl, e, q⟩
  obtain ⟨u, rfl, ru⟩ := r.one
  cases ru
  obtain ⟨ox, od, J, pl⟩ := inst_of I e
  obtain ⟨m, hF⟩ := I.fr
  refine PySem.W.repr_K hr.in1.units0 hF I.ok.mod.kin J hs hf (wpAny_mono (wpAny_call (SlX.run_at (us := [.ref a]) (ws := [.ref a]) F hr.in1 I.env0.in1 hx I (.cons rfl .nil) q)) (fun w s' z => ?_) fun _ _ x => x)
  obtain ⟨z', H', I', rz, y, rfl, qz⟩ := z
  obtain ⟨t, rfl⟩ := rz
  exact ⟨.str y, H', I', ⟨_, rfl⟩, qz⟩
theorem call_strO (hs : PySem.W.findIn X.K (.ref C) "__str__" = some (some (.ref g))) (hf : PySem.W.isFn X.K (.ref g) = true) (F : FnR X.prog X.w X.K X.mg X.base CX n g sp) (hr : Room (n + 2) X.A) (hx : Passes CX X E) : CallR X (.type "str") (rTxtO C sp E) := by
  rintro pins s σ H xs us Q I r ⟨a, dx, fs, rfl, e, q⟩
  obtain ⟨u, rfl, ru⟩ := r.one
  cases ru
  obtain ⟨ox, od, J, pl⟩ := inst_of I e
  have hr2 : Room n X.A.in1.in1 := (show Room (n + 1) X.A.in1 from hr.in1).in1
  refine PySem.W.kso_call hr2.units0 I.kIn J hs hf (wpAny_mono (wpAny_call (SlX.run_at (us := [.ref a]) (ws := [.ref a]) F hr2 I.env0.in1.in1 hx I (.cons rfl .nil) q)) (fun w s' z => ?_) fun _ _ x => x)
  obtain ⟨z', H', I', rz, y, rfl, qz⟩ := z
  obtain ⟨t, rfl⟩ := rz
  exact ⟨.str y, H', I', ⟨_, rfl⟩, qz⟩
/-- v in x -/
def rInO (C : Addr) (sp : Sp) (E : XK) : R2 := fun y x H Q => ∃ a dx fs, x = V.ref a ∧ H a = some (.ins C dx fs) ∧ sp [.ref a, y] H (fun v H' => ∃ b : Bool, v = .bl b ∧ Q v H') E
theorem op_inO (hs : PySem.W.findIn X.K (.ref C) "__contains__" = some (some (.ref g))) (hf : PySem.W.isFn X.K (.ref g) = true) (F : FnR X.prog X.w X.K X.mg X.base CX n g sp) (hr : Room n X.A) (hx : Passes CX X E) : OpR X (compareOp .In) (rInO C sp E) := by
  rintro pins s σ H y x v u Q I ry rx ⟨a, dx, fs, rfl, e, q⟩
  cases rx
  obtain ⟨ox, od, J, pl⟩ := inst_of I e
  obtain ⟨m, hF⟩ := I.fr
  refine PySem.W.in_K hF I.ok.mod.kin J hs hf (wpAny_mono (wpAny_call (run_fnR (us := [.ref a, v]) (vs := [.ref a, y]) F hr hx I (.cons rfl (.cons ry .nil)) q)) (fun w s' z => ?_) fun _ _ x => x)
  obtain ⟨z', H', I', rz, b, rfl, qz⟩ := z
  cases rz
  exact wpAny_truthy_bool ⟨.bl b, H', I', rfl, qz⟩
end
end EqO
/-! an own binary operator with an instance of its own class, or a built-in value, on the right -/
namespace OpO
open PySem PySem.Spec PyProof.Rows L2 EqO
/-- its def, and what its right operands' classes have -/
structure OwnB (K : PySem.W.Frag) (C g : Addr) (op : Operator) : Prop where
  sf : PySem.W.selfFirst K C = true
  at_ : PySem.W.findIn K (.ref C) (PySem.dunder op.info.2) = some (some (.ref g))
  fn : PySem.W.isFn K (.ref g) = true
  rr : PySem.W.findIn K (.ref C) (PySem.dunderR op.info.2) = some none
  ty : ∀ T ∈ ["NoneType", "bool", "int", "str", "list", "tuple", "dict"], (∃ fo, PySem.W.findIn K (.type T) (PySem.dunder op.info.2) = some fo) ∧ (∃ ro, PySem.W.findIn K (.type T) (PySem.dunderR op.info.2) = some ro) ∧ PySem.W.subIn K (.type T) (.ref C) = some false
section
variable {prog : Program} {w : World} {A : Around} {E : Value → Shared → Prop} {s : Shared} {K : PySem.W.Frag} {x C g : Addr} {ox : Obj} {od : Option Obj} {T : String} {op : Operator} {b : Value} {Q : Value → Shared → Prop}
theorem bin_any (X : K.In s.heap) (I : PySem.W.InstAt s.heap x ox C od) (O : OwnB K C g op) (hT : T ∈ ["NoneType", "bool", "int", "str", "list", "tuple", "dict"]) (hb : PySem.W.Looks (model prog w) s.heap (typeOf b) (.type T))
    (h : wpAny (model prog w) A (call (.ref g) [.ref x, b]) (PySem.W.CmpBack Q) E s) : wpAny (model prog w) A (binaryOp op (.ref x) b) Q E s := by
  obtain ⟨⟨fo, t1⟩, ⟨ro, t2⟩, tC⟩ := O.ty T hT
  have one := PySem.W.ksp_try X I O.at_ O.fn h
  obtain ⟨cd, rest, hcd, hm⟩ := PySem.W.ksp_first O.sf
  have at_ := O.at_
  have rr := O.rr
  rcases hi : op.info with ⟨sg, nm⟩
  rw [hi] at at_ rr t1 t2 one
  dsimp only at at_ rr t1 t2 one
  obtain ⟨hh, gg, dd, tt, os⟩ := s
  have K1 : PySem.W.Looks (model prog w) hh (typeOf (.ref x)) (.ref C) := I.type
  have K2 : PySem.W.Looks (model prog w) hh (typeOf b) (.type T) := hb
  have K3 : PySem.W.Looks (model prog w) hh (fillsNumberSlot (.ref C) nm) true := PySem.W.fills_K X hcd hm at_
  have K4 := PySem.W.ksp_fillsT (M := model prog w) X t1 t2
  have K5 : PySem.W.Looks (model prog w) hh (isSubtype (.type T) (.ref C)) false := PySem.W.looks_subIn X tC
  have K6 : PySem.W.Looks (model prog w) hh (numberSlotInPython (.ref C) nm) true := PySem.W.ksp_inPy X at_ rr (.inl rfl)
  have K7 : PySem.W.Looks (model prog w) hh (numberSlotInPython (.type T) nm) false := PySem.W.Looks.of_pure rfl
  have K8 : PySem.W.Looks (model prog w) hh (typeLookup (.type T) (PySem.dunderR nm)) ro := PySem.W.looks_findIn X t2
  have ne : (Value.ref C == Value.type T) = false := rfl
  generalize ((fo.isSome && !isSeqSlot fo) || (ro.isSome && !isSeqSlot ro)) = z at K4
  simp only [binaryOp, hi]
  refine wpAny_holding (wpAny_bind ?_)
  unfold binaryOp1
  refine wpAny_bind (K1.at (wpAny_bind (K2.at (wpAny_bind (K3.at ?_)))))
  simp only [ne, Bool.false_eq_true, if_false]
  cases z
  all_goals
    repeat ((fail_if_success (with_reducible show wpAny _ _ (tryMethod _ _ _) _ _ _)); lk)
    refine wpAny_mono one (fun r s' q => ?_) fun _ _ e => e
    obtain ⟨v, rfl, hq⟩ := q
    repeat lk
    exact hq
end
def rBinO (K : PySem.W.Frag) (C : Addr) (sp : Sp) (E : XK) : R2 := fun x y H Q => ∃ a dx fs, x = .ref a ∧ H a = some (.ins C dx fs) ∧ Oth K C H y ∧ sp [x, y] H Q E
section
variable {X : Cx} {CX : CXT} {C g : Addr} {n : Nat} {sp : Sp} {E : XK} {op : Operator} {ge : Addr}
theorem op_binO (O : OwnB X.K C g op) (OE : OwnE X.K C ge) (F : FnR X.prog X.w X.K X.mg X.base CX n g sp) (hr : Room n X.A) (hx : Passes CX X E) : OpR X (binaryOp op) (rBinO X.K C sp E) := by
  rintro pins s σ H x y v u Q I rx ry ⟨a, dx, fs, rfl, e, o, q⟩
  cases rx
  obtain ⟨ox, od, J, pl⟩ := inst_of I e
  obtain ⟨m, hF⟩ := I.fr
  have run : wpAny (model X.prog X.w) X.A (call (.ref g) [.ref a, u]) (PySem.W.CmpBack (EP X pins σ Q)) X.xe s := by
    refine wpAny_mono (wpAny_call (run_fnR (us := [.ref a, u]) (vs := [.ref a, y]) F hr hx I (.cons rfl (.cons ry .nil)) q)) (fun w s' z => ?_) fun _ _ x => x
    obtain ⟨z', H', I', rz, qz⟩ := z
    exact SlX.cmpback rz ⟨z', H', I', rz, qz⟩
  rcases o with ⟨T, b⟩ | ⟨b, dy, gs, rfl, eb⟩
  · have ty := (decl_of I OE J pl b ry).ty
    refine bin_any I.kIn J O b.mem ?_ run
    intro A Q E s' k q
    cases u with
    | ref l =>
      obtain ⟨o, ho, hc⟩ := ty
      exact wpAny_typeOf (T := T) ⟨o, k _ _ ho, hc⟩ q
    | _ => exact wpAny_typeOf (T := T) ty q
  · cases ry
    obtain ⟨oy, dd, J2, _⟩ := inst_of I eb
    exact PySem.W.binop_K hF I.ok.mod.kin J J2.type O.sf O.at_ O.fn run
end
end OpO
/-! calls in a try whose wish rests on the locals: of a classmethod; what passes -/
namespace CmS
open PySem PySem.Spec PyProof.Rows L2 ClX
theorem passE {X : Cx} {E : XK} (tk : Takes X (fun cls d _ H => E cls d H)) : Passes (L2.CX X.prog X.w) X E := fun pins σ H s e s' I c => passAt tk σ pins H s e s' I c
section
variable {X : Cx} {CX : CXT} {pins : List (Addr × Obj)} {σ : L2.St} {H : Hp} {s : Shared} {C p g q : Addr} {mc : Value} {k : Nat} {sp : Sp} {E : XK} {Q : VK} {us : List Value} {vs : List V}
theorem run_at (F : FnR X.prog X.w X.K X.mg X.base CX k g sp) (hr : Room k X.A) (hx : PassesAt CX X σ E) (I : Inv X pins σ H s) (r : Vals vs us) (h : sp vs H Q E) :
    codeAny (model X.prog X.w) X.A (.call (.ref g) ⟨us, []⟩) (fun r s' => match r with | .ok (.ret v) => EP X pins σ Q v s' | .ok _ => False | .error e => X.xe e s') s := by
  refine codeAny_mono (F X.A X.stack s H us vs Q E hr I.env0 r h) ?_
  rintro (e | fl) s' hq
  · exact hx pins H s e s' I hq
  · cases fl <;> first | exact I.after hq | exact hq.elim
theorem run_met (F : FnR X.prog X.w X.K X.mg X.base CX k g sp) (hr : Room k X.A) (hx : PassesAt CX X σ E) (I : Inv X ((q, PySem.W.methodObj (.ref g) (.ref C)) :: pins) σ H s) (r : Vals vs us) (h : sp (.ref C :: vs) H Q E) :
    wpAny (model X.prog X.w) X.A (call (.ref q) us) (EP X pins σ Q) X.xe s := by
  have z : wpAny (model X.prog X.w) X.A (call (.ref q) us) (EP X ((q, PySem.W.methodObj (.ref g) (.ref C)) :: pins) σ Q) X.xe s :=
    wpAny_call (PySem.W.method_call (pin_at I) (run_at (us := .ref C :: us) (vs := .ref C :: vs) F hr hx I (.cons rfl r) h))
  exact thn z fun _ _ y => unpinE y
end
def tCm (C : Addr) (sp : Sp) (E : L2.St → XK) (to : TE) (t : TA) : TE := fun σ H Q => to σ H fun x H1 => x = .ref C ∧ t σ H1 fun vs H2 => sp (.ref C :: vs) H2 Q (E σ)
section
variable {X : Cx} {CX : CXT} {k : Nat} {C p g : Addr} {mc : Value} {sp : Sp} {E : L2.St → XK} {o e : Expr} {es : List Expr} {m : Str} {pos apos : Pos} {to : TE} {t : TA} {pl : Sem Bool}
theorem pe_cm (ho : PE X o to) (r : CRead X.K C mc) (c : CMet X.K C mc m p g) (F : FnR X.prog X.w X.K X.mg X.base CX k g sp) (hr : Room k X.A) (hx : ∀ σ, PassesAt CX X σ (E σ)) (ha : PA X (e :: es) t)
    (st : starEach (e :: es) X.env = (false, eval e X.env) :: starEach es X.env := by rfl) (np : (backTo pos (starEach es X.env)).any (·.1) = false := by rfl)
    (ev : eval (.Call (.Attribute o m apos) (e :: es) [] pos) X.env = (do
      let ov ← eval o X.env
      standAt apos.atName
      let (f, first) ← holding [ov] (getMethod ov m pl)
      callWith pos f first (backTo pos (starEach (e :: es) X.env)) (backToKw pos (keywordEach [] X.env))) := by rfl) :
    PE X (.Call (.Attribute o m apos) (e :: es) [] pos) (tCm C sp E to t) := ⟨by
  intro pins s σ H Q I h
  refine PySem.W.methodCall_KW (pl := pl) (thn (ho.run pins s σ H _ I h) ?_) ev
  rintro u s1 ⟨_, H1, I1, rx, rfl, q⟩
  cases rx
  refine getmethcm_ok I1 r c fun s2 I2 => callwith_cm I2 (base_none I1 (Nat.le_refl _)) c.fi (thn (ha.run pos _ s2 σ H1 _ I2 q) ?_) st np
  rintro us s3 ⟨vs, H2, I3, rv, q2⟩
  exact ⟨⟨pin_at I3, I3.kIn⟩, run_met F hr (hx σ) I3 rv q2⟩⟩
end
end CmS
/-! an own binary operator in a try -/
namespace OpS
open PySem PySem.Spec PyProof.Rows L2 EqO OpO
def tBinS (K : PySem.W.Frag) (C : Addr) (sp : Sp) (E : L2.St → XK) (ta tb : TE) : TE := fun σ H Q => ta σ H fun x H1 => tb σ H1 fun y H2 => ∃ a dx fs, x = .ref a ∧ H2 a = some (.ins C dx fs) ∧ Oth K C H2 y ∧ sp [x, y] H2 Q (E σ)
section
variable {X : Cx} {CX : CXT} {C g : Addr} {n : Nat} {sp : Sp} {op : Operator} {ge : Addr} {E : L2.St → XK} {a b : Expr} {ta tb : TE} {pos : Pos}
theorem bin_at {pins : List (Addr × Obj)} {s : Shared} {σ : L2.St} {H : Hp} {x y : V} {v u : Value} {Q : VK} {E : XK} (O : OwnB X.K C g op) (OE : OwnE X.K C ge) (F : FnR X.prog X.w X.K X.mg X.base CX n g sp) (hr : Room n X.A) (hx : PassesAt CX X σ E)
    (I : Inv X pins σ H s) (rx : RelV x v) (ry : RelV y u) (q : ∃ a dx fs, x = .ref a ∧ H a = some (.ins C dx fs) ∧ Oth X.K C H y ∧ sp [x, y] H Q E) : wpAny (model X.prog X.w) X.A (binaryOp op v u) (EP X pins σ Q) X.xe s := by
  obtain ⟨a, dx, fs, rfl, e, o, q⟩ := q
  cases rx
  obtain ⟨ox, od, J, pl⟩ := inst_of I e
  obtain ⟨m, hF⟩ := I.fr
  have run : wpAny (model X.prog X.w) X.A (call (.ref g) [.ref a, u]) (PySem.W.CmpBack (EP X pins σ Q)) X.xe s := by
    refine wpAny_mono (wpAny_call (CmS.run_at (us := [.ref a, u]) (vs := [.ref a, y]) F hr hx I (.cons rfl (.cons ry .nil)) q)) (fun w s' z => ?_) fun _ _ x => x
    obtain ⟨z', H', I', rz, qz⟩ := z
    exact SlX.cmpback rz ⟨z', H', I', rz, qz⟩
  rcases o with ⟨T, b⟩ | ⟨b, dy, gs, rfl, eb⟩
  · have ty := (decl_of I OE J pl b ry).ty
    refine bin_any I.kIn J O b.mem ?_ run
    intro A Q E s' k q
    cases u with
    | ref l =>
      obtain ⟨o, ho, hc⟩ := ty
      exact wpAny_typeOf (T := T) ⟨o, k _ _ ho, hc⟩ q
    | _ => exact wpAny_typeOf (T := T) ty q
  · cases ry
    obtain ⟨oy, dd, J2, _⟩ := inst_of I eb
    exact PySem.W.binop_K hF I.ok.mod.kin J J2.type O.sf O.at_ O.fn run
theorem pe_binS (O : OwnB X.K C g op) (OE : OwnE X.K C ge) (F : FnR X.prog X.w X.K X.mg X.base CX n g sp) (hr : Room n X.A) (hx : ∀ σ, PassesAt CX X σ (E σ)) (ha : PE X a ta) (hb : PE X b tb) : PE X (.BinOp a op b pos) (tBinS X.K C sp E ta tb) := by
  refine ⟨fun pins s σ H Q I h => ?_⟩
  exact wpAny_BinOp (binT ha hb I h fun v u s2 x y H2 I2 rx ry q => bin_at O OE F hr (hx σ) I2 rx ry q)
end
end OpS
/-! shared: repr of data with lists, tuples, dicts of texts within each other -/
namespace DzR
open PySem PySem.Spec PyProof.Rows L2
mutual
inductive Dz (H : Hp) : V → PyData → Prop
  | non : Dz H .non .none
  | bl (b : Bool) : Dz H (.bl b) (.bool b)
  | int (i : Int) : Dz H (.int i) (.int i)
  | str (x : Str) : Dz H (.str x) (.str x)
  | lst {a : Addr} {xs : List V} {ds : List PyData} : H a = some (.lst xs) → DzAll H xs ds → Dz H (.ref a) (.list ds)
  | tup {a : Addr} {xs : List V} {ds : List PyData} : H a = some (.tup xs) → DzAll H xs ds → Dz H (.ref a) (.tuple ds)
  | dic {a : Addr} {kvs : List (Key × V)} {ks : List Str} {ds : List PyData} : H a = some (.dK kvs) → kvs.map (·.1) = ks.map Sum.inr → DzAll H (kvs.map (·.2)) ds → Dz H (.ref a) (.dict (List.zip (ks.map PyData.str) ds))
inductive DzAll (H : Hp) : List V → List PyData → Prop
  | nil : DzAll H [] []
  | cons {v : V} {vs : List V} {d : PyData} {ds : List PyData} : Dz H v d → DzAll H vs ds → DzAll H (v :: vs) (d :: ds)
end
mutual
theorem Dz.same {H G : Hp} (s : ∀ b o, H b = some o → G b = some o) : ∀ {v : V} {d : PyData}, Dz H v d → Dz G v d
  | _, _, .non => .non
  | _, _, .bl b => .bl b
  | _, _, .int i => .int i
  | _, _, .str x => .str x
  | _, _, .lst e a => .lst (s _ _ e) (DzAll.same s a)
  | _, _, .tup e a => .tup (s _ _ e) (DzAll.same s a)
  | _, _, .dic e k a => .dic (s _ _ e) k (DzAll.same s a)
theorem DzAll.same {H G : Hp} (s : ∀ b o, H b = some o → G b = some o) : ∀ {vs : List V} {ds : List PyData}, DzAll H vs ds → DzAll G vs ds
  | _, _, .nil => .nil
  | _, _, .cons a b => .cons (Dz.same s a) (DzAll.same s b)
end
theorem DzAll.len {H : Hp} : ∀ {vs : List V} {ds : List PyData}, DzAll H vs ds → vs.length = ds.length
  | _, _, .nil => rfl
  | _, _, .cons _ b => congrArg Nat.succ (DzAll.len b)
/-- sys.modules is a dict of the top -/
def SysD (K : PySem.W.Frag) : Prop := ∃ o, K.lookup sysModules = some o ∧ o.cls = .type "dict"
section
variable {X : Cx} {pins : List (Addr × Obj)} {σ : L2.St} {H : Hp} {s : Shared}
theorem keys_vals {P : Program} {w : World} {h0 : Heap} : ∀ {kvs : List (Key × V)} {ks : List Str} {vs : List (Key × Value)} {es : List DictEntry}, kvs.map (·.1) = ks.map Sum.inr → KV kvs vs → Pairs (mixKind P w) es vs → ReadsAll h0 (es.map (·.key)) (ks.map PyData.str) [] ∧ Vals (kvs.map (·.2)) (es.map (·.val))
  | [], [], vs, es, _, kv, hp => by
    cases kv
    cases hp
    exact ⟨.nil, .nil⟩
  | e :: r, x :: kr, vs, es, h, kv, hp => by
    cases kv with
    | cons q1 q2 =>
      cases hp with
      | @cons e1 kv es2 kvs a b c =>
        have h := List.cons.inj h
        obtain ⟨i1, i2⟩ := keys_vals (h0 := h0) h.2 q2 c
        obtain ⟨k1, k2⟩ := q1
        rw [← k1, (show e.1 = Sum.inr x from h.1)] at a
        have a : keyIs (.inr x) e1.key = true := a
        obtain ⟨x2, t2, y1, y2⟩ : ∃ x2 t2, (Sum.inr x : Key) = Sum.inr x2 ∧ e1.key = Value.str x2 t2 := by
          rcases keyIs_shape a with ⟨i, t, a, b⟩ | ⟨x, t, a, b⟩
          · cases a
          · exact ⟨x, t, a, b⟩
        cases y1
        refine ⟨?_, ?_⟩
        · show ReadsAll _ (e1.key :: _) (PyData.str x :: _) _
          rw [y2]
          exact ReadsAll.cons (as := []) (bs := []) (.str _ _) i1
        · refine .cons ?_ i2
          show RelV e.2 e1.val
          rw [b]
          exact k2
  | [], _ :: _, _, _, h, _, _ => nomatch h
  | _ :: _, [], _, _, h, _, _ => nomatch h
mutual
theorem Dz.reads (SK : SysD X.K) (I : Inv X pins σ H s) : ∀ {v : V} {d : PyData}, Dz H v d → ∀ u, RelV v u → ∃ as, Reads s.heap u d as ∧ sysModules ∉ as
  | _, _, .non, u, r => by cases r; exact ⟨_, Reads.none, List.not_mem_nil⟩
  | _, _, .bl b, u, r => by cases r; exact ⟨_, Reads.bool b, List.not_mem_nil⟩
  | _, _, .int i, u, r => by obtain ⟨t, rfl⟩ := r; exact ⟨_, Reads.int i t, List.not_mem_nil⟩
  | _, _, .str x, u, r => by obtain ⟨t, rfl⟩ := r; exact ⟨_, Reads.str x t, List.not_mem_nil⟩
  | _, _, .lst (a := a) e ha, u, r => by
    cases r
    obtain ⟨_, its, n, rv, ho⟩ := I.hok _ _ e
    obtain ⟨as, hr, hn⟩ := DzAll.reads SK I ha its rv
    refine ⟨_, Reads.list ho rfl rfl hr, fun m => ?_⟩
    rcases List.mem_cons.mp m with z | z
    · obtain ⟨o, ko, kc⟩ := SK
      have y := I.kIn _ _ ko
      rw [z, ho] at y
      rw [← Option.some.inj y] at kc
      simp at kc
    · exact hn z
  | _, _, .tup e ha, u, r => by
    cases r
    obtain ⟨its, rv, ⟨o, ho, hc, n, hd⟩, _⟩ := I.tuple (SqT.of e)
    obtain ⟨as, hr, hn⟩ := DzAll.reads SK I ha its rv
    exact ⟨_, Reads.tuple ho hc hd hr, hn⟩
  | _, _, .dic (ks := ks) (ds := ds) (kvs := kvs) e k ha, u, r => by
    cases r
    obtain ⟨_, low, vs, kv, o, es, ep, ho, ex, hd, _, hp, _⟩ := I.hok _ _ e
    obtain ⟨r1, r2⟩ := keys_vals (h0 := s.heap) k kv hp
    obtain ⟨bs, hr, hn⟩ := DzAll.reads SK I ha _ r2
    have l1 : (ks.map PyData.str).length = ds.length := by
      have := congrArg List.length k
      rw [List.length_map, List.length_map] at this
      rw [List.length_map, ← this, ← ha.len, List.length_map]
    refine ⟨_, Reads.dict (as := []) (bs := bs) ho ex.1 hd (by rw [List.map_fst_zip (Nat.le_of_eq l1)]; exact r1) (by rw [List.map_snd_zip (Nat.le_of_eq l1.symm)]; exact hr), fun m => ?_⟩
    rcases List.mem_cons.mp (show sysModules ∈ _ :: ([] ++ bs) from m) with z | z
    · rw [← z] at low
      simp at low
    · exact hn (by simpa using z)
theorem DzAll.reads (SK : SysD X.K) (I : Inv X pins σ H s) : ∀ {vs : List V} {ds : List PyData}, DzAll H vs ds → ∀ us, Vals vs us → ∃ as, ReadsAll s.heap us ds as ∧ sysModules ∉ as
  | _, _, .nil, us, r => by cases r; exact ⟨_, ReadsAll.nil, List.not_mem_nil⟩
  | _, _, .cons a b, us, r => by
    cases r with
    | cons r1 r2 =>
      obtain ⟨as, q1, n1⟩ := Dz.reads SK I a _ r1
      obtain ⟨bs, q2, n2⟩ := DzAll.reads SK I b _ r2
      exact ⟨_, ReadsAll.cons q1 q2, fun m => (List.mem_append.mp m).elim n1 n2⟩
end
/-- what repr shows -/
structure ShZ (H : Hp) (v : V) (d : PyData) : Prop where
  at_ : Dz H v d
  sh : d.showable = true
  len : d.shown.length ≤ 100000
  dp : d.depth ≤ 60
theorem call_reprZ (SK : SysD X.K) (gd : X.A.guards = some []) (un : X.A.units + 200 < cLine) : CallR X (.builtin "repr") (fun xs H Q => ∃ v d, xs = [v] ∧ ShZ H v d ∧ Q (.str d.shown) H) := by
  rintro pins s σ H xs us Q I r ⟨v, d, rfl, ⟨sv, s1, s20, s3⟩, q⟩
  have s2 : d.shown.length ≤ sizeLine := Nat.le_trans s20 (by decide)
  obtain ⟨u, rfl, ru⟩ := vals1 r
  obtain ⟨as, rd, n⟩ := Dz.reads SK I sv _ ru
  have hm : d.hasDict = true → sysModules ∉ as := fun _ => n
  cases rd with
  | none => exact PySem.P.repr_of_none ⟨.str _, H, I.tok _, ⟨_, rfl⟩, by simpa only [PyData.shown] using q⟩
  | bool b =>
    refine PySem.P.repr_of_bool ⟨.str _, H, I.tok _, ⟨_, rfl⟩, ?_⟩
    simp only [PyData.shown] at q
    cases b <;> exact q
  | int i t =>
    simp only [PyData.shown] at q
    exact PySem.P.repr_of_int (by simpa [PyData.showable] using s1) ⟨.str _, H, I.tok _, ⟨_, rfl⟩, q⟩
  | str x t =>
    simp only [PyData.shown] at q s2
    exact PySem.P.repr_of_str ⟨.str _, H, I.tok _, ⟨_, rfl⟩, q⟩ s2
  | list a b c e => exact repr_of_reads' (Reads.list a b c e) s1 hm gd (by omega) (fun _ _ z => z) (fun h' u tk k => ⟨.str _, H, I.kept k, ⟨_, rfl⟩, q⟩) s2
  | tuple a b c e => exact repr_of_reads' (Reads.tuple a b c e) s1 hm gd (by omega) (fun _ _ z => z) (fun h' u tk k => ⟨.str _, H, I.kept k, ⟨_, rfl⟩, q⟩) s2
  | dict a b c e g => exact repr_of_reads' (Reads.dict a b c e g) s1 hm gd (by omega) (fun _ _ z => z) (fun h' u tk k => ⟨.str _, H, I.kept k, ⟨_, rfl⟩, q⟩) s2
end
end DzR
/-! shared: `e.__class__.__name__` of an own exception, in a def that is called with it -/
namespace ClN
open PySem PySem.W PySem.Calls PyProof.Rows
section
variable {prog : Program} {w : World} {A : Around} {E : Value → Shared → Prop} {s : Shared} {K : Frag} {R : Result → Shared → Prop} {C : Addr}
/-- a class at C whose name's slot holds v -/
structure Nmd (K : Frag) (C : Addr) (v : Value) : Prop where
  rd : readsIn K C (.type "type") = true
  cl : findCls K (.ref C) (.type "type") "__name__" = some (.get (.builtin "getset_descriptor.__get__") (.builtin "type.__name__") (.ref C) (.type "type"))
  ty : typeIn K (.ref C) = some (.type "type")
  sl : (K.lookup C).bind (fun o => o.slots[2]?) = some (some v)
theorem args_of (d tp : Value) (a : Addr) : Builtin.Getset_descriptor.descrGetArgs ⟨[d, .ref a, tp], []⟩ = pure (d, some (.ref a), if tp == .none then none else some tp) := by kernel_rfl
theorem name_get {tp v : Value} (N : Nmd K C v) (X : K.In s.heap) (h : R (.ok (.ret v)) s) : codeAny (model prog w) A (.call (.builtin "getset_descriptor.__get__") ⟨[.builtin "type.__name__", .ref C, tp], []⟩) R s := by
  obtain ⟨o, ho, hv⟩ := Option.bind_eq_some_iff.mp N.sl
  have T1 : Looks (model prog w) s.heap (typeOf (.ref C)) (.type "type") := looks_typeIn X N.ty
  have T2 : Looks (model prog w) s.heap (isSubtype (.type "type") (.type "type")) true := Looks.of_pure (by rw [isSubtype_type]; kernel_rfl)
  have hat := X _ _ ho
  obtain ⟨hp, gs, dn, tk, os⟩ := s
  refine codeAny_call_builtin KF.slot_gs.plain KF.entry_gs ?_; refine KF.slot_gs.check _ _ _ _ _ _ _ _ ktyn_type (KF.args_gs _ _ _) ?_
  unfold Builtin.«getset_descriptor.__get__»; unfold Builtin.Getset_descriptor.descrGet; rw [args_of]
  refine wpAny_bind (wpAny_pure ?_); unfold Builtin.Getset_descriptor.descrGetter Builtin.Getset_descriptor.descrCheckInstance Builtin.Getset_descriptor.descrNameAndClass; unfold isInstance
  simp only [ktyn_owner]; repeat lk
  refine ⟨Code.quiet_builtin _ (by decide +kernel), ?_⟩; refine codeAny_builtin ktyn_entry ?_
  unfold Builtin.«type.__name__» Builtin.keptObject slotAt
  refine wpAny_bind (wpAny_bind (wpAny_loadPart hat (wpAny_pure ?_)))
  rw [show (o.slots[2]?).join = some v by rw [hv]; rfl]
  exact wpAny_pure h
/-- x.__class__ of an instance of an own exception class -/
theorem cls_get {x : Addr} {ox : Obj} {od : Option Obj} {name : Str} {expr : Bool} {Q : Value → Shared → Prop} (T : L2.XfC K C) (X : K.In s.heap) (J : InstAt s.heap x ox C od) (hf : findObj K C od name = some (.bind (.builtin "getset_descriptor.__get__") (.builtin "object.__class__")))
    (hm : mroIn K C (.type "object") = some true) (h : Q (.ref C) { s with toks := s.toks + 1 }) : wpAny (model prog w) A (getAttr (.ref x) name expr) Q E s := by
  obtain ⟨hp, gs, dn, tk, os⟩ := s
  have ty := J.type (M := model prog w)
  have at1 := looks_findIn (M := model prog w) X T.ga
  have at2 := looks_findIn (M := model prog w) X T.gg
  have at3 := looks_find (M := model prog w) X J hf
  have sub : Looks (model prog w) hp (isInstance (.ref x) (.type "BaseException")) true := ty.andThen (looks_subIn X T.exC)
  have z0 : (expr && onTheHeap (Value.builtin "BaseException.__getattribute__")) = false := by cases expr <;> rfl
  have z1 : (onTheHeap (Value.ref C) && Value.builtin "BaseException.__getattribute__" == Value.builtin "object.__getattribute__") = false := by rw [show (Value.builtin "BaseException.__getattribute__" == Value.builtin "object.__getattribute__") = false from by decide +kernel]; rfl
  unfold getAttr; unfold getAttrBy
  refine wpAny_bind (wpAny_mkText (wpAny_holding (wpAny_bind (ty.at (wpAny_bind (at1.at ?_)))))); show wpAny _ _ (if (onTheHeap (Value.ref C) && Value.builtin "BaseException.__getattribute__" == Value.builtin "object.__getattribute__") = true then _ else _) _ _ _
  rw [z1, if_neg Bool.false_ne_true]; unfold getAttrByItsOwn; unfold hookBefore
  refine wpAny_bind ?_; rw [if_pos (show onTheHeap (Value.ref C) = true from rfl)]; refine at2.at ?_; refine wpAny_bind (wpAny_attempt (wpAny_holding ?_))
  unfold callGetattribute; rw [z0, if_neg Bool.false_ne_true]; unfold boundAndCalled
  rw [PySem.F.excAttr_ValueError.ga.bind (.ref x)]; refine wpAny_bind (wpAny_pure ?_)
  show wpAny _ _ (call (.builtin "BaseException.__getattribute__") [.ref x, .str name tk]) _ _ _; refine wpAny_call (codeAny_call_builtin PySem.F.excAttr_ValueError.ga.plain PySem.F.entry_bexc_ga ?_)
  refine @check_slot (model prog w) _ _ ⟨hp, gs, dn, tk + 1, os⟩ "BaseException.__getattribute__" "BaseException" "__getattribute__" (.ref x) [.str name tk] [] _ (by decide +kernel) (by decide +kernel) sub (PySem.F.args_bexc_ga (.ref x) (.str name tk)) ?_
  unfold Builtin.«object.__getattribute__»; refine wpAny_bind (wpAny_of_eq (a := ((Value.ref x : Value), [Value.str name tk])) (by first | rfl | (simp only [Builtin.ObjectAttr.slotArgs]; rfl)) ?_)
  refine wpAny_bind (wpAny_pure (wpAny_bind (ty.at (wpAny_bind (at3.at ?_)))))
  show wpAny _ _ (holding [Value.builtin "object.__class__"] (call (.builtin "getset_descriptor.__get__") [.builtin "object.__class__", .ref x, .ref C]) >>= ret) _ _ _; refine wpAny_bind (wpAny_holding (wpAny_call (class_get (s := ⟨hp, gs, dn, tk + 1, os⟩) (ox := ox) (od := od) X J hm ?_)))
  refine wpAny_pure ?_; show wpAny _ _ (handedOut (.ref C)) _ _ _; rw [handedOut_of (v := .ref C) rfl]
  exact wpAny_pure h
/-- C.__name__ -/
theorem name_attr {v : Value} {expr : Bool} {Q : Value → Shared → Prop} (N : Nmd K C v) (hh : handedIn v = true) (X : K.In s.heap) (h : ∀ t, Q v { s with toks := t }) : wpAny (model prog w) A (getAttr (.ref C) "__name__" expr) Q E s :=
  cls_bind X N.rd N.cl (wpAny_call (name_get (s := { s with toks := s.toks + 1 }) N X (handed_on hh (h _))))
end
end ClN
/-! own exceptions below one of Python's, with a walked __init__: raised, and held as values -/
namespace EXv
open PySem PySem.Spec PyProof.Rows L2 PySem.HandSPX
/-- one of Python's own exception classes -/
structure Fam (B newId initId : String) (bmB : List Value) : Prop where
  base : ExcBaseFacts B newId initId bmB
  store : StoreFacts B bmB "object.__setattr__" "object"
structure ExF (K : PySem.W.Frag) (C : Addr) (bmB : List Value) (newId : String) : Prop where
  made : PySem.W.excInitIn K C bmB newId = true
  over : PySem.W.excOver K C bmB = true
  dct : PySem.W.hasDictIn K C = true
  setA : PySem.W.findIn K (.ref C) "__setattr__" = some (some (.builtin "object.__setattr__"))
  exc : PySem.W.subIn K (.ref C) (.type "BaseException") = some true
  typ : PySem.W.typeIn K (.ref C) = some (.type "type")
  keep : PySem.W.keepIn K (.ref C) = true
theorem upd_swap {H : Hp} {a b : Addr} {o u v : HO} (h : a ≠ b) : upd (upd (upd H b o) a u) b v = upd (upd H b v) a u := by
  funext c
  by_cases hb : c = b
  · subst hb
    rw [upd_same, upd_ne (Ne.symm h), upd_same]
  · rw [upd_ne hb]
    by_cases ha : c = a
    · subst ha
      rw [upd_same, upd_same]
    · rw [upd_ne ha, upd_ne ha, upd_ne hb, upd_ne hb]
section
variable {X : Cx} {pins : List (Addr × Obj)} {σ : L2.St} {H : Hp} {s : Shared} {a C dx : Addr} {f : Str} {y : V} {u : Value} {fs : List (Str × V)} {Q : Unit → Shared → Prop} {E : Value → Shared → Prop} {A : Around} {B newId initId : String} {bmB : List Value}
theorem put_first (Fm : Fam B newId initId bmB) (T : ExF X.K C bmB newId) (I : Inv X pins σ H s) (e : H a = some (exo a C none)) (ht : PySem.W.takerIn X.K C f = some none) (ry : RelV y u)
    (h : ∀ dx s', H dx = none → dx ≠ a → Inv X pins σ (upd (upd H dx (exd dx [(f, y)])) a (exo a C (some dx))) s' → Q () s') : wpAny (model X.prog X.w) A (setAttr (.ref a) f u) Q E s := by
  obtain ⟨t1, ho⟩ := exo_at I.hok e
  obtain ⟨hp, g, dr, t, os⟩ := s
  have inst : PySem.W.InstAt hp a { cls := .ref C, dict := none, data := .fields #[.ref t1, .none, .none, .none, .bool false, .none] } C none := ⟨ho, rfl, rfl, trivial⟩
  refine PySem.W.set_plain I.kIn inst T.setA (PySem.W.osa_openX (s := ⟨hp, g, dr, t + 1, os⟩) Fm.store I.kIn inst T.over ht fun b => ?_)
  obtain ⟨cd, hc, hd'⟩ := PySem.W.any_some T.dct
  have J : Inv X pins σ H ⟨hp, g, dr, t + 1, os⟩ := I.tok (t + 1)
  refine wpAny_bind (wpAny_pure (wpAny_bind (PySem.W.instanceDict_exc (s := ⟨hp, g, dr, t + 1, os⟩) (C := C) ho (PySem.W.looks_clsIn J.kIn hc) hd' ?_)))
  have lt : a < hp.objs.size := Heap.lt_size ho
  have free : H hp.objs.size = none := I.hok.fresh (Nat.le_refl _)
  have ne : hp.objs.size ≠ a := Nat.ne_of_gt lt
  have get0 : (hp.push (PySem.W.dictOf [] 0)).get? hp.objs.size = some (PySem.W.dictOf [] 0) := Heap.get?_push_at rfl rfl
  have get1 : ((hp.push (PySem.W.dictOf [] 0)).update a fun o => { o with dict := some hp.objs.size }).get? hp.objs.size = some (PySem.W.dictOf [] 0) := (Heap.get?_update_ne _ _ _ _ ne).trans get0
  have nil0 : ∀ G : Heap, G.get? hp.objs.size = some (PySem.W.dictOf [] 0) → G.Ns hp.objs.size (fun _ => none) := fun G e => ⟨_, #[], 0, e, rfl, fun e he => absurd he (by simp), fun _ => rfl⟩
  refine PySem.HandSPX.store_in_new (nil0 _ get1) fun h' tk' hn' sb => ?_
  have J1 : Inv X pins σ (upd H hp.objs.size (exd hp.objs.size [])) ⟨hp.push (PySem.W.dictOf [] 0), g, dr, t + 1, os⟩ :=
    J.laid (t' := t + 1) (a := hp.objs.size) (o := exd hp.objs.size []) (h' := hp.push (PySem.W.dictOf [] 0)) (fun b o q => Heap.get?_push_of_some _ q) (Nat.le_refl _) (exd_ok (Heap.Ns1.of_empty (nil0 _ get0)) fun g => True.intro)
  have geta : (hp.push (PySem.W.dictOf [] 0)).get? a = some ({ cls := .ref C, dict := none, data := .fields #[.ref t1, .none, .none, .none, .bool false, .none] } : Obj) := Heap.get?_push_of_some _ ho
  have getb : ((hp.push (PySem.W.dictOf [] 0)).update a fun o => { o with dict := some hp.objs.size }).get? a = some ({ cls := .ref C, dict := some hp.objs.size, data := .fields #[.ref t1, .none, .none, .none, .bool false, .none] } : Obj) := Heap.get?_update_self _ geta rfl
  have J2 := J1.write (t' := t + 1) (h' := (hp.push (PySem.W.dictOf [] 0)).update a fun o => { o with dict := some hp.objs.size }) (x := a) (e := a) (o := exo a C (some hp.objs.size)) (by rw [upd_ne (Ne.symm ne), e]; exact True.intro) (.inl rfl)
    (fun b o nb q => (Heap.get?_update_ne _ _ _ _ nb).trans q) ⟨_, getb⟩ (exo_ok getb)
  have J3 := J2.write (t' := tk') (h' := h') (x := hp.objs.size) (e := hp.objs.size) (o := exd hp.objs.size [(f, y)]) (by rw [upd_ne ne, upd_same]; exact True.intro) (.inl rfl)
    (fun b o nb q => (sb.2 b nb).trans q) (by obtain ⟨o, _, _, e', _⟩ := hn'; exact ⟨o, e'⟩) (exd_ok hn' (relO_put (fs := []) ry fun g => True.intro))
  rw [upd_swap (Ne.symm ne)] at J3
  exact h _ _ free ne J3
theorem put_next (Fm : Fam B newId initId bmB) (T : ExF X.K C bmB newId) (I : Inv X pins σ H s) (e : H a = some (exo a C (some dx))) (ed : H dx = some (exd dx fs)) (hl : fs.length ≤ 900) (ht : PySem.W.takerIn X.K C f = some none) (ry : RelV y u)
    (h : ∀ s', Inv X pins σ (upd H dx (exd dx ((f, y) :: fs))) s' → Q () s') : wpAny (model X.prog X.w) A (setAttr (.ref a) f u) Q E s := by
  obtain ⟨t1, ho⟩ := exo_at I.hok e
  obtain ⟨mA, hns, rel⟩ := exd_at I.hok ed
  have win := within_of rel
  obtain ⟨hp, g, dr, t, os⟩ := s
  obtain ⟨oD, _, _, hoD, _, _⟩ := hns.count win
  have inst : PySem.W.InstAt hp a { cls := .ref C, dict := some dx, data := .fields #[.ref t1, .none, .none, .none, .bool false, .none] } C (some oD) := ⟨ho, rfl, rfl, hoD⟩
  refine PySem.W.set_plain I.kIn inst T.setA (PySem.W.osa_openX (s := ⟨hp, g, dr, t + 1, os⟩) Fm.store I.kIn inst T.over ht fun b => ?_)
  obtain ⟨cd, hc, hd'⟩ := PySem.W.any_some T.dct
  have J : Inv X pins σ H ⟨hp, g, dr, t + 1, os⟩ := I.tok (t + 1)
  refine wpAny_bind (wpAny_pure (wpAny_bind (wpAny_bind (wpAny_loadPart ho (wpAny_bind (PySem.W.Looks.here (s := ⟨hp, g, dr, t + 1, os⟩) (PySem.W.looks_clsIn J.kIn hc) ?_))))))
  rw [hd']
  refine wpAny_pure (a := some dx) ?_
  refine PySem.OEX.store_in_old hns win (by rw [List.length_map]; omega) fun h' tk' hn' sb => ?_
  refine h _ (I.write (t' := tk') (h' := h') (x := dx) (e := dx) (o := exd dx ((f, y) :: fs)) (by rw [ed]; exact True.intro) (.inl rfl) (fun b o nb q => (sb.2 b nb).trans q) ?_ (exd_ok hn' (relO_put ry rel)))
  obtain ⟨o, _, _, e', _⟩ := hn'
  exact ⟨o, e'⟩
end
/-- self.f = e in the __init__ of such a class -/
def tPut (K : PySem.W.Frag) (bmB : List Value) (newId : String) (f : Str) (to te : TE) : TS := fun D σ H => te σ H fun y H1 => to σ H1 fun x H2 => ∃ a C : Addr, x = .ref a ∧ ExF K C bmB newId ∧ PySem.W.takerIn K C f = some none ∧
  ((H2 a = some (exo a C none) ∧ ∀ dx, H2 dx = none → dx ≠ a → D.nx σ (upd (upd H2 dx (exd dx [(f, y)])) a (exo a C (some dx)))) ∨
   ∃ (dx : Addr) (fs : List (Str × V)), fs.length ≤ 900 ∧ H2 a = some (exo a C (some dx)) ∧ H2 dx = some (exd dx fs) ∧ D.nx σ (upd H2 dx (exd dx ((f, y) :: fs))))
section
variable {X : Cx} {o e : Expr} {es : List Expr} {to te : TE} {ta : TA} {f : Str} {p p' pos : Pos} {B newId initId : String} {bmB : List Value}
theorem ps_put (Fm : Fam B newId initId bmB) (ho : PE X o to) (he : PE X e te) (hs : swapsWith e (some (.Attribute o f p')) pos.line X.env = pure false := by rfl) : PS X (.Assign [.Attribute o f p'] e pos) (tPut X.K bmB newId f to te) := ⟨by
  intro pins s σ H D I h
  refine plainObj_wpAny_Assign_Attribute (thn (he.run pins s σ H _ I h) ?_) hs
  rintro v s1 ⟨y, H1, I1, r1, q1⟩
  refine thn (ho.run pins s1 σ H1 _ I1 q1) ?_
  rintro _ s2 ⟨_, H2, I2, r2, a, C, rfl, T, ht, q⟩
  cases r2
  rcases q with ⟨ea, q⟩ | ⟨dx, fs, hl, ea, ed, q⟩
  · exact put_first Fm T I2 ea ht r1 fun dx s' n ne J => ⟨σ, _, J, q dx n ne⟩
  · exact put_next Fm T I2 ea ed hl ht r1 fun s' J => ⟨σ, _, J, q⟩⟩
/-- C(e, ..) of such a class -/
theorem pmk_ae {CX : CXT} {x : Str} {C fI : Addr} {k : Nat} {fd : FuncData} {ps : List Str} {sp : Sp} (Fm : Fam B newId initId bmB) (T : ExF X.K C bmB newId) (iC : PySem.W.findIn X.K (.ref C) "__init__" = some (some (.ref fI))) (tI : PySem.W.typeIn X.K (.ref fI) = some (.type "function"))
    (F1 : FnOk X.prog X.w X.K X.mg X.base CX k fI fd ps sp) (hr : Room (k + 1) X.A) (hb : Binds X.K fd ps []) (hx : Passes CX X (fun _ _ _ => False)) (hg : Gl X x) (hm : X.mg x = some (.ref C)) (ha : PA X (e :: es) ta)
    (hdb : (x == ("__debug__" : Str)) = false := by decide) (he : starEach (e :: es) X.env = (false, eval e X.env) :: starEach es X.env := by rfl) (hpl : (backTo pos (starEach es X.env)).any (·.1) = false := by rfl) :
    PMk X (.Call (.Name x p) (e :: es) [] pos) (tMkO C sp [] ta) := by
  intro pins s σ H Q I h
  refine wpAny_Call_Name_kw (ld_glob I hg hm ?_ hdb)
  refine PySem.W.callWith_K (h₀ := X.base) I.ok.mod.kin T.keep (thn (ha.run pos pins s σ H _ I h) ?_) he hpl
  rintro us ⟨hp, g, dr, tk, os⟩ ⟨vs, H1, I1, r1, hz, q1⟩
  refine ⟨I1.kIn, ?_⟩
  show wpAny _ _ (call (.ref C) us) _ _ _
  obtain ⟨nm, N, qn, bs, bm, hdct, sn, sub, ab, col, dd, k0, k1, k2, k3, k5, hC, hT⟩ := PySem.W.excInit_of I1.kIn T.made
  have lay : ∀ b o, hp.get? b = some o → ((hp.push (PySem.W.kdv_tup us)).push (PySem.HandSPX.excO C hp.objs.size)).get? b = some o := fun b o e => Heap.get?_push_of_some _ (Heap.get?_push_of_some _ e)
  have here : ((hp.push (PySem.W.kdv_tup us)).push (PySem.HandSPX.excO C hp.objs.size)).get? (hp.objs.size + 1) = some (PySem.HandSPX.excO C hp.objs.size) := by heap_get
  have new : hp.objs.size ≤ hp.objs.size + 1 := Nat.le_succ _
  have hq := q1 _ (I1.hok.fresh new)
  have I2 := I1.laid (t' := tk) (a := hp.objs.size + 1) (o := exo (hp.objs.size + 1) C none) lay new (exo_ok here)
  have r2 : Vals (V.ref (hp.objs.size + 1) :: (vs ++ [])) (Value.ref (hp.objs.size + 1) :: (us ++ [])) := .cons rfl (r1.append .nil)
  have len : (Value.ref (hp.objs.size + 1) :: us ++ []).length = ps.length := (F1.len _ _ _ _ hq).symm.trans r2.length |>.symm
  have few : us.length ≤ sizeLine := by have := Paired.length r1; rw [sizeLine_eq]; omega
  refine wpAny_call (PySem.HandSPX.call_own Fm.base hT hC (PySem.W.looks_findIn I1.kIn iC) (fun self => PySem.W.bind_fn I1.kIn self tI) few ?_)
  refine codeAny_mono (F1.run _ X.stack _ _ ⟨Value.ref (hp.objs.size + 1) :: us, []⟩ ((Value.ref (hp.objs.size + 1) :: us) ++ []) _ _ (fun _ _ _ => False) (hr.make C us []) (I2.env0.make C us []) (hb _ (Value.ref (hp.objs.size + 1) :: us) I2.kIn len) r2 hq) ?_
  rintro (er | fl) s' back
  · exact hx pins σ _ _ er s' I2 back
  · cases fl with
    | ret rv =>
      obtain ⟨_, H2, os2, bare2, un2, hok2, rv', rfl, d, fs, ea, ed, hd1, q2⟩ := back
      obtain ⟨h2, g2, d2, t2, os'⟩ := s'
      exact ⟨rv', mk_end (raises_own T.exc T.typ) I1 new lay un2 hok2 os2 bare2 ea ed hd1 q2⟩
    | next => exact back.elim
    | brk => exact back.elim
    | cont => exact back.elim
end
end EXv
/-! shared: a caught exception handed to a def; its class, its class's name, its fields read there -/
namespace ClN
open PySem PySem.Spec PyProof.Rows L2
/-- the object of an exception as it stands -/
def exV (a : Addr) (oe : Obj) : HO := .ext fun h => h.get? a = some oe
theorem exV_ok {P : Program} {w : World} {H : Hp} {h : Heap} {a : Addr} {oe : Obj} (e : h.get? a = some oe) : ObjOk P w H h a (exV a oe) := ⟨e, ⟨oe, e⟩, fun _ _ e k => k oe e⟩
theorem exV_at {P : Program} {w : World} {H : Hp} {h : Heap} {a : Addr} {oe : Obj} (x : ObjOk P w H h a (exV a oe)) : h.get? a = some oe := x.1
/-- the exception x of the class at C, its fields fs -/
structure ExAt (H : Hp) (x C dd : Addr) (fs : List (Str × V)) : Prop where
  ex : ∃ φ : Heap → Prop, H x = some (.ext φ) ∧ ∀ h, φ h → ∃ oe : Obj, h.get? x = some oe ∧ Zc (.ref C) (some dd) oe ∧ ∃ vs, oe.data = .fields vs
  fs : ∃ o : HO, H dd = some o ∧ ∀ (P : Program) (w : World) (G : Hp) (h : Heap), ObjOk P w G h dd o → ∃ mA, h.Ns1 dd mA ∧ ∀ n, RelO (fs.lookup n) (mA n)
theorem ExAt.same {H G : Hp} {x C dd : Addr} {fs : List (Str × V)} (h : ExAt H x C dd fs) (s : ∀ b o, H b = some o → G b = some o) : ExAt G x C dd fs :=
  ⟨let ⟨φ, a, b⟩ := h.ex; ⟨φ, s _ _ a, b⟩, let ⟨o, a, b⟩ := h.fs; ⟨o, s _ _ a, b⟩⟩
/-- a caught one -/
theorem ExAt.caught {H : Hp} {x C dd : Addr} {oe : Obj} {fs : List (Str × V)} (a : H x = some (exV x oe)) (z : Zc (.ref C) (some dd) oe) (d : ∃ vs, oe.data = .fields vs) (f : H dd = some (.xd fs)) : ExAt H x C dd fs :=
  ⟨⟨_, a, fun h e => ⟨oe, e, z, d⟩⟩, ⟨_, f, fun P w G h ok => ok⟩⟩
/-- one just made -/
theorem ExAt.made {H : Hp} {x C dd : Addr} {fs : List (Str × V)} (a : H x = some (exo x C (some dd))) (f : H dd = some (exd dd fs)) : ExAt H x C dd fs :=
  ⟨⟨_, a, fun h ⟨t, e⟩ => ⟨_, e, ⟨rfl, rfl⟩, _, rfl⟩⟩, ⟨_, f, fun P w G h ok => ok.1⟩⟩
def tEc (K : PySem.W.Frag) (te : TE) : TE := fun σ H Q => te σ H fun x H1 => ∃ (a C dd : Addr) (fs : List (Str × V)), x = .ref a ∧ ExAt H1 a C dd fs ∧ ExcC K C ∧ Q (.ref C) H1
def tCn (K : PySem.W.Frag) (te : TE) : TE := fun σ H Q => te σ H fun x H1 => ∃ (C : Addr) (n : Str) (tk : Tok), x = .ref C ∧ Nmd K C (.str n tk) ∧ Q (.str n) H1
def tEf (K : PySem.W.Frag) (f : Str) (te : TE) : TE := fun σ H Q => te σ H fun x H1 => ∃ (a C dd : Addr) (fs : List (Str × V)) (v : V), x = .ref a ∧ ExAt H1 a C dd fs ∧ XfC K C ∧ PySem.W.findIn K (.ref C) f = some none ∧ fs.lookup f = some v ∧ Q v H1
section
variable {X : Cx} {e : Expr} {te : TE} {pos : Pos}
theorem xfC {K : PySem.W.Frag} {C : Addr} (T : ExcC K C) : XfC K C := ⟨T.hg, T.hk, T.hs, T.hd⟩
theorem inst_of {P : Program} {w : World} {H : Hp} {h : Heap} {a C dd : Addr} {fs : List (Str × V)} (ok : HOk P w H h) (x : ExAt H a C dd fs) : ∃ (oe od : Obj) (mA : Str → Option Value), PySem.W.InstAt h a oe C (some od) ∧ (∀ n, PySem.W.lookIn n od = some (mA n)) ∧ ∀ n, RelO (fs.lookup n) (mA n) := by
  obtain ⟨⟨φ, ha, hφ⟩, o, hf, ho⟩ := x
  obtain ⟨oe, hat, hz, vs, hd⟩ := hφ h (ok a _ ha).1
  obtain ⟨mA, hns, hr⟩ := ho P w H h (ok dd _ hf)
  obtain ⟨od, ho, hl⟩ := lookIn_ns hns
  exact ⟨oe, od, mA, ⟨hat, hz.1, by unfold PySem.W.notCls; rw [hd] <;> rfl, by rw [hz.2]; exact ho⟩, hl, hr⟩
theorem pe_ecls (he : PE X e te) (hb : attributeBase e "__class__" X.env (eval e X.env) = eval e X.env := by rfl) : PE X (.Attribute e "__class__" pos) (tEc X.K te) := by
  refine ⟨fun pins s σ H Q I h => ?_⟩
  refine attr_of hb (thn (he.run pins s σ H _ I h) fun u s1 hh => ?_)
  obtain ⟨x, H1, I1, rx, a, C, dd, fs, ex, at_, T, q⟩ := hh
  subst ex
  obtain rfl : u = Value.ref a := rx
  obtain ⟨oe, od, mA, J, hl, hr⟩ := inst_of I1.hok at_
  have ic : PySem.W.isClsIn X.K C = true := by
    obtain ⟨cd, hc, _⟩ := PySem.W.any_some T.hd
    unfold PySem.W.isClsIn
    rw [hc]
    rfl
  exact cls_get (xfC T) I1.kIn J (PySem.W.findObj_data ic T.ha T.hn T.ht) T.hm ⟨.ref C, H1, I1.tok _, rfl, q⟩
theorem pe_cname (he : PE X e te) (hb : attributeBase e "__name__" X.env (eval e X.env) = eval e X.env := by rfl) : PE X (.Attribute e "__name__" pos) (tCn X.K te) := by
  refine ⟨fun pins s σ H Q I h => ?_⟩
  refine attr_of hb (thn (he.run pins s σ H _ I h) fun u s1 hh => ?_)
  obtain ⟨x, H1, I1, rx, C, n, tk, ex, N, q⟩ := hh
  subst ex
  obtain rfl : u = Value.ref C := rx
  exact name_attr N rfl I1.kIn fun t => ⟨.str n, H1, I1.tok _, ⟨tk, rfl⟩, q⟩
theorem pe_efld {f : Str} (he : PE X e te) (hb : attributeBase e f X.env (eval e X.env) = eval e X.env := by rfl) : PE X (.Attribute e f pos) (tEf X.K f te) := by
  refine ⟨fun pins s σ H Q I h => ?_⟩
  refine attr_of hb (thn (he.run pins s σ H _ I h) fun u s1 hh => ?_)
  obtain ⟨x, H1, I1, rx, a, C, dd, fs, v, ex, at_, T, hno, l, q⟩ := hh
  subst ex
  obtain rfl : u = Value.ref a := rx
  obtain ⟨oe, od, mA, J, hl, hr⟩ := inst_of I1.hok at_
  obtain ⟨u, hu, ru⟩ := RelO.some_of (v := v) (o := mA f) (by rw [← l]; exact hr f)
  exact HandSPX.exc_get I1.kIn J T.ga T.gg T.exC (PySem.W.findObj_own T.hdC hno rfl (by rw [hl, hu])) (handed_of ru) ⟨v, H1, I1.tok _, ru, q⟩
end
/-! ### C(e, ..) as a value -/
def tMkE (C : Addr) (sp : Sp) (ta : TA) : TE := fun σ H Q => ta σ H fun vs H1 => vs.length ≤ 60 ∧ ∀ x, H1 x = none → sp (.ref x :: vs) (upd H1 x (exo x C none)) (fun v H2 => v = .non ∧ Q (.ref x) H2) E0
section
variable {X : Cx} {B newId initId : String} {bmB : List Value} {e : Expr} {es : List Expr} {ta : TA} {p pos : Pos}
theorem pe_mkE {x : Str} {C fI : Addr} {k : Nat} {fd : FuncData} {ps : List Str} {sp : Sp} (Fm : EXv.Fam B newId initId bmB) (T : EXv.ExF X.K C bmB newId) (iC : PySem.W.findIn X.K (.ref C) "__init__" = some (some (.ref fI))) (tI : PySem.W.typeIn X.K (.ref fI) = some (.type "function"))
    (F1 : FnOk X.prog X.w X.K X.mg X.base CX0 k fI fd ps sp) (hr : Room (k + 1) X.A) (hb : Binds X.K fd ps []) (hg : Gl X x) (hm : X.mg x = some (.ref C)) (ha : PA X (e :: es) ta)
    (hdb : (x == ("__debug__" : Str)) = false := by decide) (he : starEach (e :: es) X.env = (false, eval e X.env) :: starEach es X.env := by rfl) (hpl : (backTo pos (starEach es X.env)).any (·.1) = false := by rfl) :
    PE X (.Call (.Name x p) (e :: es) [] pos) (tMkE C sp ta) := ⟨by
  intro pins s σ H Q I h
  refine wpAny_Call_Name_kw (ld_glob I hg hm ?_ hdb)
  refine PySem.W.callWith_K (h₀ := X.base) I.ok.mod.kin T.keep (thn (ha.run pos pins s σ H _ I h) ?_) he hpl
  rintro us ⟨hp, g, dr, tk, os⟩ ⟨vs, H1, I1, r1, hz, q1⟩
  refine ⟨I1.kIn, ?_⟩
  show wpAny _ _ (call (.ref C) us) _ _ _
  obtain ⟨nm, N, qn, bs, bm, hdct, sn, sub, ab, col, dd, k0, k1, k2, k3, k5, hC, hT⟩ := PySem.W.excInit_of I1.kIn T.made
  have lay : ∀ b o, hp.get? b = some o → ((hp.push (PySem.W.kdv_tup us)).push (PySem.HandSPX.excO C hp.objs.size)).get? b = some o := fun b o e => Heap.get?_push_of_some _ (Heap.get?_push_of_some _ e)
  have here : ((hp.push (PySem.W.kdv_tup us)).push (PySem.HandSPX.excO C hp.objs.size)).get? (hp.objs.size + 1) = some (PySem.HandSPX.excO C hp.objs.size) := by heap_get
  have new : hp.objs.size ≤ hp.objs.size + 1 := Nat.le_succ _
  have hq := q1 _ (I1.hok.fresh new)
  have I2 := I1.laid (t' := tk) (a := hp.objs.size + 1) (o := exo (hp.objs.size + 1) C none) lay new (exo_ok here)
  have r2 : Vals (V.ref (hp.objs.size + 1) :: vs) (Value.ref (hp.objs.size + 1) :: us) := .cons rfl r1
  have len : (Value.ref (hp.objs.size + 1) :: us ++ []).length = ps.length := by rw [List.append_nil]; exact (F1.len _ _ _ _ hq).symm.trans r2.length |>.symm
  have few : us.length ≤ sizeLine := by have := Paired.length r1; rw [sizeLine_eq]; omega
  have bd := hb _ (Value.ref (hp.objs.size + 1) :: us) I2.kIn len
  rw [List.append_nil] at bd
  refine wpAny_call (PySem.HandSPX.call_own Fm.base hT hC (PySem.W.looks_findIn I1.kIn iC) (fun self => PySem.W.bind_fn I1.kIn self tI) few ?_)
  refine codeAny_mono (F1.run _ X.stack _ _ ⟨Value.ref (hp.objs.size + 1) :: us, []⟩ (Value.ref (hp.objs.size + 1) :: us) _ _ E0 (hr.make C us []) (I2.env0.make C us []) bd r2 hq) ?_
  rintro (er | fl) s' back
  · exact back.elim
  · cases fl with
    | ret rv =>
      obtain ⟨v, H2, os2, bare2, un2, hok2, rv', rfl, q2⟩ := back
      obtain ⟨v3, H3, I3, r3, e3, q3⟩ := I2.after (Q := fun v H => v = .non ∧ Q (.ref (hp.objs.size + 1)) H) ⟨.non, H2, os2, bare2, un2, hok2, rv', rfl, q2⟩
      exact ⟨rv', .ref _, H3, I3, rfl, q3⟩
    | next => exact back.elim
    | brk => exact back.elim
    | cont => exact back.elim⟩
end
/-! ### f(e), e the caught exception -/
section
variable {X : Cx} {pins : List (Addr × Obj)} {σ : L2.St} {H H2 : Hp} {s : Shared} {a : Addr} {oe : Obj}
theorem env_pin (I : Inv X pins σ H s) (m : (a, oe) ∈ X.pn) (nb : X.base.get? a = none) : Env0 X.prog X.w X.K X.mg X.base X.A X.stack s (upd H a (exV a oe)) := by
  obtain ⟨ha, hn, nL, nF, _⟩ := I.pin (a, oe) (List.mem_append_left _ m)
  have E := I.env0
  refine ⟨E.frames, E.mod, fun b o e => ?_, E.bsz, E.funs, fun b hb => ?_, E.hok.laidN (fun _ _ z => z) hn (exV_ok ha), E.bare⟩
  · have : b ≠ a := fun z => by
      rw [z, nb] at e
      cases e
    rw [upd_ne this]
    exact E.bs b o e
  · have : b ≠ a := fun z => by
      subst z
      rcases List.mem_cons.mp (I.stkSub _ hb) with e | e
      · exact nL e
      · exact nF e
    rw [upd_ne this]
    exact E.frf b hb
theorem un_pin {fs : List Addr} {h h2 : Heap} (u : Un fs [] (upd H a (exV a oe)) H2 h h2) (ha : h.get? a = some oe) (h2a : h2.get? a = some oe) (hn : H a = none) (nf : a ∉ fs) (e2 : H2 a = some (exV a oe)) : Un fs [] H (delH H2 a) h h2 where
  keep := fun b o q n hb hx => by
    by_cases e : b = a
    · rw [e] at q ⊢
      rw [ha] at q
      cases q
      exact h2a
    · exact u.keep b o q (by rw [upd_ne e]; exact n) hb hx
  slot := fun b o q n hb hx => by
    have e : b ≠ a := fun z => nf (z ▸ hb)
    exact u.slot b o q (by rw [upd_ne e]; exact n) hb hx
  free := fun b o q n hx => by
    by_cases e : b = a
    · rw [e]
      exact delH_same
    · rw [delH_ne e]
      exact u.free b o q (by rw [upd_ne e]; exact n) hx
  there := u.there
  tups := fun b xs q => by
    have e : b ≠ a := fun z => by
      rw [z, hn] at q
      cases q
    rw [delH_ne e]
    exact u.tups b xs (by rw [upd_ne e]; exact q)
  frzs := fun b o v q => by
    have e : b ≠ a := fun z => by
      rw [z, hn] at q
      cases q
    rw [delH_ne e]
    exact u.frzs b o v (by rw [upd_ne e]; exact q)
  tbls := fun b ps q => by
    have e : b ≠ a := fun z => by
      rw [z, hn] at q
      cases q
    obtain ⟨m, z⟩ := u.tbls b ps (by rw [upd_ne e]; exact q)
    exact ⟨m, by rw [delH_ne e]; exact z⟩
theorem hok_del {P : Program} {w : World} {h : Heap} (x : HOk P w H h) (e : H a = some (exV a oe)) : HOk P w (delH H a) h := fun b u q => by
  have hb : b ≠ a := fun z => by
    rw [z, delH_same] at q
    cases q
  rw [delH_ne hb] at q
  refine (x b u q).stay (fun _ _ _ z => z) (fun c z => ?_) fun c xs z => ?_
  · have hc : c ≠ a := fun y => by
      rw [y, e] at z
      cases z
    rw [delH_ne hc]
    exact z
  · have hc : c ≠ a := fun y => by
      rw [y, e] at z
      cases z
    rw [delH_ne hc]
    exact z
end
def tPin (a : Addr) (oe : Obj) (sp : Sp) (t : TA) : TE := fun σ H Q => t σ H fun vs H1 => sp vs (upd H1 a (exV a oe)) (fun v H2 => H2 a = some (exV a oe) ∧ Q v (delH H2 a)) E0
section
variable {X : Cx} {x : Str} {p pos : Pos} {e : Expr} {es : List Expr} {t : TA} {sp : Sp} {k : Nat} {f : Addr} {fd : FuncData} {ps : List Str} {a : Addr} {oe : Obj}
theorem pe_callPin (m : (a, oe) ∈ X.pn) (nb : X.base.get? a = none) (F : FnOk X.prog X.w X.K X.mg X.base CX0 k f fd ps sp) (hr : Room k X.A) (hg : Gl X x) (hm : X.mg x = some (.ref f)) (hk : PySem.W.keepIn X.K (.ref f) = true) (hb : Binds X.K fd ps [])
    (ha : PA X (e :: es) t) (hdb : (x == ("__debug__" : Str)) = false := by decide) (he : starEach (e :: es) X.env = (false, eval e X.env) :: starEach es X.env := by rfl) (hpl : (backTo pos (starEach es X.env)).any (·.1) = false := by rfl) :
    PE X (.Call (.Name x p) (e :: es) [] pos) (tPin a oe sp t) := ⟨by
  intro pins s σ H Q I h
  refine wpAny_Call_Name_kw (ld_glob I hg hm ?_ hdb)
  refine PySem.W.callWith_K (h₀ := X.base) I.ok.mod.kin hk (thn (ha.run pos pins s σ H _ I h) ?_) he hpl
  rintro us s1 ⟨vs, H1, I1, r, q⟩
  refine ⟨I1.kIn, ?_⟩
  obtain ⟨hat, hn, nL, nF, _⟩ := I1.pin (a, oe) (List.mem_append_left _ m)
  have hl : us.length = ps.length := by rw [← r.length]; exact F.len _ _ _ _ q
  have bd := hb s1 us I1.kIn (by rw [List.append_nil]; exact hl)
  rw [List.append_nil] at bd
  refine wpAny_call (codeAny_mono (F.run X.A X.stack s1 _ ⟨us, []⟩ us vs _ E0 hr (env_pin I1 m nb) bd r q) ?_)
  rintro (z | fl) s2 hq
  · exact hq.elim
  · cases fl with
    | ret u =>
      obtain ⟨v, H2, os, bare, un, hok, rv, e2, q2⟩ := hq
      have h2a := exV_at (hok a _ e2)
      have nS : a ∉ frs X.stack := fun z => by
        rcases List.mem_cons.mp (I1.stkSub _ z) with y | y
        · exact nL y
        · exact nF y
      exact I1.after ⟨v, delH H2 a, os, bare, un_pin un hat h2a hn nS e2, hok_del hok e2, rv, q2⟩
    | next => exact False.elim hq
    | brk => exact False.elim hq
    | cont => exact False.elim hq⟩
end
end ClN
/-! shared: a def that an except suite calls with the exception it holds (nothing is raised in it) -/
namespace ClN
open PySem PySem.Spec PyProof.Rows L2 HotX L2H
abbrev SpP := Addr × Obj → Sp
/-- what such a def promises: its spec knows the pinned exception -/
structure FnQ (P : Program) (w : World) (K : PySem.W.Frag) (mg : Str → Option Value) (base : Heap) (k : Nat) (f : Addr) (fd : FuncData) (ps : List Str) (sp : SpP) : Prop where
  len : ∀ p vs H Q E, sp p vs H Q E → vs.length = ps.length
  run : ∀ (A : Around) (o_ : List Env) (s : Shared) (H : Hp) (gs : Args) (us : List Value) (vs : List V) (Q : VK) (p : Addr × Obj), RoomH k A → PinOk o_ H s p → Env0 P w K mg base A o_ s H → BindsTo s fd gs (ps.zip us) → Vals vs us → sp p vs H Q E0 →
    codeAny (model P w) A (.call (.ref f) gs) (CR CX0 o_ P w H s Q E0) s
section
variable {P : Program} {w : World} {K : PySem.W.Frag} {mg : Str → Option Value} {base : Heap}
theorem okQ {x qual : Str} {st : Stmt} {f : Addr} {fd : FuncData} {N ps : List Str} {k : Nat} {sp : SpP} (F : L2.Fun K x qual st f fd) (S : FnScope N ps (defScope st)) (len : ∀ p vs H Q E, sp p vs H Q E → vs.length = ps.length)
    (body : ∀ (cdv : Value) (A : Around) (o_ : List Env) (s : Shared) (H : Hp) (vs : List V) (Q : VK) (p : Addr × Obj), RoomH k (A.deeper (envOfC qual (defScope st) s.heap.objs.size f cdv)) → sp p vs H Q E0 →
      ∃ t, PSs (cxH CX0 P w K mg base N qual (defScope st) f cdv A o_ s H E0 p) (defBody st) t ∧ t { nx := fun _ H' => Q .non H', rt := Q } (start N vs) H) : FnQ P w K mg base (k + 1) f fd ps sp := by
  obtain ⟨oc, od, kV, doc, pm, an, cdv, ct, osl, rfl, lk, hcd⟩ := F.ex
  refine ⟨len, fun A o_ s H gs us vs Q p hr pin e0 hb r hsp => ?_⟩
  have few := len _ _ _ _ _ hsp
  have inK : K.In s.heap := e0.mod.kin.keeps fun b o e => (e0.bs b o e).1
  have nolim : s.heap.NoLimit := e0.mod.nolimit.keeps fun b o e => (e0.bs b o e).1
  have kinds : ∀ y ∈ ps.zip us, (defScope st).names.lookup y.1 = some .local ∨ ((defScope st).names.lookup y.1 = some .cell ∧ ((cellsFrom (s.heap.objs.size + 1) (defScope st).names []).lookup y.1).isSome = true) := fun ⟨n, v⟩ hy =>
    (S.par n (List.of_mem_zip hy).1).elim .inl fun q => .inr ⟨q, PySem.W.cellsFrom_some _ _ _ (.inl q)⟩
  refine codeAny_call_function hr.depth (inK _ _ lk) rfl S.co S.gen rfl (PySem.W.codeRec_of inK hcd) (hb _ _ _ _ ?_)
  refine wpAny_newFunctionEnv_cells S.kind kinds ?_
  rintro env rfl s1 x
  refine ⟨nolim.keeps x.toInCall.keep, codeAny_func ?_⟩
  obtain ⟨t, ht, hq⟩ := body cdv A o_ s H vs Q p (hr.deeper _) hsp
  have I := inv_startH (CX := CX0) (E := E0) S pin e0 few r x
  refine wpAny_mono (ht.run [] s1 (start N vs) H _ I hq) ?_ fun e s' hs => hs
  rintro (_ | _ | _ | u) s' hs
  all_goals first
    | (obtain ⟨v, σ', H', J, rv, q⟩ := hs; exact ⟨v, H', J.os, J.bare, J.base, J.hok, rv, q⟩)
    | (obtain ⟨σ', H', J, q⟩ := hs; exact ⟨.non, H', J.os, J.bare, J.base, J.hok, rfl, q⟩)
    | (obtain ⟨_, _, _, q⟩ := hs; exact q.elim)
end
def tPinQ (a : Addr) (cls : Value) (d : Option Addr) (sp : SpP) (t : TA) : TE := fun σ H Q => t σ H fun vs H1 => ∀ oe : Obj, Zc cls d oe → (∃ fv, oe.data = .fields fv) → sp (a, oe) vs H1 Q E0
section
variable {X : Cx} {x : Str} {p0 pos : Pos} {e : Expr} {es : List Expr} {t : TA} {sp : SpP} {k : Nat} {f : Addr} {fd : FuncData} {ps : List Str} {p : Addr × Obj} {te : TE}
/-- f(e, ..) in an except suite, e what it holds -/
theorem pe_callQ {a : Addr} {oe : Obj} {cls : Value} {d : Option Addr} (m : (a, oe) ∈ X.pn) (hz : Zc cls d oe) (hf : ∃ fv, oe.data = .fields fv) (F : FnQ X.prog X.w X.K X.mg X.base k f fd ps sp) (hr : RoomH k X.A) (hg : Gl X x) (hm : X.mg x = some (.ref f)) (hk : PySem.W.keepIn X.K (.ref f) = true) (hb : Binds X.K fd ps [])
    (ha : PA X (e :: es) t) (hdb : (x == ("__debug__" : Str)) = false := by decide) (he : starEach (e :: es) X.env = (false, eval e X.env) :: starEach es X.env := by rfl) (hpl : (backTo pos (starEach es X.env)).any (·.1) = false := by rfl) :
    PE X (.Call (.Name x p0) (e :: es) [] pos) (tPinQ a cls d sp t) := ⟨by
  intro pins s σ H Q I h
  refine wpAny_Call_Name_kw (ld_glob I hg hm ?_ hdb)
  refine PySem.W.callWith_K (h₀ := X.base) I.ok.mod.kin hk (thn (ha.run pos pins s σ H _ I h) ?_) he hpl
  rintro us s1 ⟨vs, H1, I1, r, q0⟩
  refine ⟨I1.kIn, ?_⟩
  have q := q0 oe hz hf
  obtain ⟨hat, hn, nL, nF, nC⟩ := I1.pin (a, oe) (List.mem_append_left _ m)
  have few : us.length = ps.length := by rw [← r.length]; exact F.len _ _ _ _ _ q
  have bd := hb s1 us I1.kIn (by rw [List.append_nil]; exact few)
  rw [List.append_nil] at bd
  have pin : PinOk X.stack H1 s1 (a, oe) := ⟨hat, hn, fun z => (List.mem_cons.mp (I1.stkSub _ z)).elim nL nF, nC⟩
  refine wpAny_call (codeAny_mono (F.run X.A X.stack s1 H1 ⟨us, []⟩ us vs Q (a, oe) hr pin I1.env0 bd r q) ?_)
  rintro (z | fl) s2 hq
  · exact hq.elim
  · cases fl with
    | ret u => exact I1.after hq
    | next => exact False.elim hq
    | brk => exact False.elim hq
    | cont => exact False.elim hq⟩
/-! ### there: its class, its fields -/
def tEcP (K : PySem.W.Frag) (p : Addr × Obj) (te : TE) : TE := fun σ H Q => te σ H fun x H1 => ∃ (C dd : Addr) (fs : List (Str × V)), x = .ref p.1 ∧ Zc (.ref C) (some dd) p.2 ∧ (∃ vs, p.2.data = .fields vs) ∧ H1 dd = some (.xd fs) ∧ ExcC K C ∧ Q (.ref C) H1
def tEfP (K : PySem.W.Frag) (p : Addr × Obj) (n : Str) (te : TE) : TE := fun σ H Q => te σ H fun x H1 => ∃ (C dd : Addr) (fs : List (Str × V)) (v : V), x = .ref p.1 ∧ Zc (.ref C) (some dd) p.2 ∧ (∃ vs, p.2.data = .fields vs) ∧ H1 dd = some (.xd fs) ∧ XfC K C ∧ PySem.W.findIn K (.ref C) n = some none ∧ fs.lookup n = some v ∧ Q v H1
theorem instP {pins : List (Addr × Obj)} {σ : L2.St} {H : Hp} {s : Shared} {C dd : Addr} {fs : List (Str × V)} (I : Inv X pins σ H s) (m : p ∈ X.pn) (hz : Zc (.ref C) (some dd) p.2) (hd : ∃ vs, p.2.data = .fields vs) (hf : H dd = some (.xd fs)) :
    ∃ (od : Obj) (mA : Str → Option Value), PySem.W.InstAt s.heap p.1 p.2 C (some od) ∧ (∀ n, PySem.W.lookIn n od = some (mA n)) ∧ ∀ n, RelO (fs.lookup n) (mA n) := by
  obtain ⟨hat, _⟩ := I.pin p (List.mem_append_left _ m)
  obtain ⟨vs, hd⟩ := hd
  obtain ⟨mA, hns, hr⟩ := (show ObjOk X.prog X.w H s.heap dd (.xd fs) from I.hok dd _ hf)
  obtain ⟨od, ho, hl⟩ := lookIn_ns hns
  exact ⟨od, mA, ⟨hat, hz.1, by unfold PySem.W.notCls; rw [hd] <;> rfl, by rw [hz.2]; exact ho⟩, hl, hr⟩
theorem pe_eclsP {pos : Pos} (m : p ∈ X.pn) (he : PE X e te) (hb : attributeBase e "__class__" X.env (eval e X.env) = eval e X.env := by rfl) : PE X (.Attribute e "__class__" pos) (tEcP X.K p te) := by
  refine ⟨fun pins s σ H Q I h => ?_⟩
  refine attr_of hb (thn (he.run pins s σ H _ I h) fun u s1 hh => ?_)
  obtain ⟨x, H1, I1, rx, C, dd, fs, ex, hz, hd, hf, T, q⟩ := hh
  subst ex
  obtain rfl : u = Value.ref p.1 := rx
  obtain ⟨od, mA, J, hl, hr⟩ := instP I1 m hz hd hf
  have ic : PySem.W.isClsIn X.K C = true := by
    obtain ⟨cd, hc, _⟩ := PySem.W.any_some T.hd
    unfold PySem.W.isClsIn
    rw [hc]
    rfl
  exact cls_get (xfC T) I1.kIn J (PySem.W.findObj_data ic T.ha T.hn T.ht) T.hm ⟨.ref C, H1, I1.tok _, rfl, q⟩
theorem pe_efldP {pos : Pos} {n : Str} (m : p ∈ X.pn) (he : PE X e te) (hb : attributeBase e n X.env (eval e X.env) = eval e X.env := by rfl) : PE X (.Attribute e n pos) (tEfP X.K p n te) := by
  refine ⟨fun pins s σ H Q I h => ?_⟩
  refine attr_of hb (thn (he.run pins s σ H _ I h) fun u s1 hh => ?_)
  obtain ⟨x, H1, I1, rx, C, dd, fs, v, ex, hz, hd, hf, T, hno, l, q⟩ := hh
  subst ex
  obtain rfl : u = Value.ref p.1 := rx
  obtain ⟨od, mA, J, hl, hr⟩ := instP I1 m hz hd hf
  obtain ⟨u, hu, ru⟩ := RelO.some_of (v := v) (o := mA n) (by rw [← l]; exact hr n)
  exact HandSPX.exc_get I1.kIn J T.ga T.gg T.exC (PySem.W.findObj_own T.hdC hno rfl (by rw [hl, hu])) (handed_of ru) ⟨v, H1, I1.tok _, ru, q⟩
end
end ClN
/-! shared: own exceptions whose __init__ keeps its parameters and tells them in _told -/
namespace OwE
open PySem PySem.Spec PyProof.Rows L2
/-- Python's own class below which it stands -/
inductive Fa where
  | val | look | run | arith
def Fa.b : Fa → String
  | .val => "ValueError"
  | .look => "LookupError"
  | .run => "RuntimeError"
  | .arith => "ArithmeticError"
def Fa.nw (f : Fa) : String := match f with
  | .val => "ValueError.__new__"
  | .look => "LookupError.__new__"
  | .run => "RuntimeError.__new__"
  | .arith => "ArithmeticError.__new__"
def Fa.ini (f : Fa) : String := match f with
  | .val => "ValueError.__init__"
  | .look => "LookupError.__init__"
  | .run => "RuntimeError.__init__"
  | .arith => "ArithmeticError.__init__"
def Fa.mro (f : Fa) : List Value := [.type f.b, .type "Exception", .type "BaseException", .type "object"]
theorem Fa.fam : ∀ f : Fa, EXv.Fam f.b f.nw f.ini f.mro
  | .val => ⟨PySem.F.excBase_ValueError, PySem.F.store_ValueError⟩
  | .look => ⟨PySem.F.excBase_LookupError, PySem.F.store_LookupError⟩
  | .run => ⟨PySem.F.excBase_RuntimeError, PySem.F.store_RuntimeError⟩
  | .arith => ⟨PySem.F.excBase_ArithmeticError, PySem.F.store_ArithmeticError⟩
/-- the class cn at C, its fields ns -/
structure Own (K : PySem.W.Frag) (mg : Str → Option Value) (fa : Fa) (cn : Str) (ns : List Str) (st : Stmt) (C fI : Addr) (fd : FuncData) : Prop where
  o : EXv.ExF K C fa.mro fa.nw
  iC : PySem.W.findIn K (.ref C) "__init__" = some (some (.ref fI))
  tI : PySem.W.typeIn K (.ref fI) = some (.type "function")
  tk : ∀ n ∈ ns, PySem.W.takerIn K C n = some none
  tt : PySem.W.takerIn K C "_told" = some none
  m : mg cn = some (.ref C)
  F : L2.Fun K "__init__" (cn ++ ".__init__") st fI fd
  b : Binds K fd ("self" :: ns) []
/-- what its __init__ does: the fields in their order, then _told -/
def spO (ns : List Str) (C : Addr) : Sp := fun vs H Q _ => ∃ (a : Addr) (ws : List V), vs = .ref a :: ws ∧ ws.length = ns.length ∧ H a = some (exo a C none) ∧
  ∀ (H' : Hp) (d t : Addr), H d = none → d ≠ a → H' a = some (exo a C (some d)) → H' d = some (exd d (("_told", .ref t) :: (ns.zip ws).reverse)) → H' t = some (.tup ws) → (∀ b o, b ≠ a → H b = some o → H' b = some o) → Q .non H'
theorem vis_of {N ps : List Str} {sc : Scope} {x : Str} (S : FnScope N ps sc) (m : x ∈ ps) : Vis sc x := (S.par x m).elim .inl fun h => .inr (.inl h)
structure Sh1 (st : Stmt) (x : Str) : Prop where
  body : ∃ (p1 p2 p3 p4 p5 p6 p7 p8 p9 : Pos) (kk : Nat), defBody st = [.Assign [.Attribute (.Name "self" p1) x p2] (.Name x p3) p4, .Assign [.Attribute (.Name "self" p5) "_told" p6] (.Tuple [.Name x p7] kk p8) p9]
  sc : FnScope [("self" : Str), x] [("self" : Str), x] (defScope st)
  dbg : ∀ n ∈ [("self" : Str), x], (n == ("__debug__" : Str)) = false ∧ (n == ("__classdict__" : Str)) = false
section
variable {P : Program} {w : World} {K : PySem.W.Frag} {mg : Str → Option Value} {base : Heap}
theorem ok1 {fa : Fa} {cn x : Str} {st : Stmt} {C f : Addr} {fd : FuncData} (T : Own K mg fa cn [x] st C f fd) (S : Sh1 st x) : FnOk P w K mg base CX0 1 f fd [("self" : Str), x] (spO [x] C) := by
  have sc := S.sc
  obtain ⟨p1, p2, p3, p4, p5, p6, p7, p8, p9, kk, body⟩ := S.body
  refine T.F.ok sc (fun vs H Q E h => ?_) (fun cdv A outer_ s H vs Q E hr h => ?_)
  · obtain ⟨a, ws, rfl, l, _⟩ := h
    show ws.length + 1 = _
    rw [l]
    rfl
  · obtain ⟨a, ws, rfl, l, he, k⟩ := h
    obtain ⟨u, rfl⟩ : ∃ u, ws = [u] := by
      match ws, l with
      | [u], _ => exact ⟨_, rfl⟩
    rw [body]
    refine ⟨_, (pss_cons (EXv.ps_put (newId := fa.nw) fa.fam (pv 0 rfl (vis_of sc (by simp)) (S.dbg _ (by simp)).1 (S.dbg _ (by simp)).2) (pv 1 rfl (vis_of sc (by simp)) (S.dbg _ (by simp)).1 (S.dbg _ (by simp)).2)) (pss_one (EXv.ps_put (newId := fa.nw) fa.fam (pv 0 rfl (vis_of sc (by simp)) (S.dbg _ (by simp)).1 (S.dbg _ (by simp)).2) (pe_tup (pa_cons (pv 1 rfl (vis_of sc (by simp)) (S.dbg _ (by simp)).1 (S.dbg _ (by simp)).2) pa_nil))))), ?_⟩
    refine ⟨_, rfl, _, rfl, a, C, rfl, T.o, T.tk x (by simp), .inl ⟨he, fun d hd hne => ?_⟩⟩
    have ea : (upd (upd H d (exd d [(x, u)])) a (exo a C (some d))) a = some (exo a C (some d)) := upd_same
    have ed : (upd (upd H d (exd d [(x, u)])) a (exo a C (some d))) d = some (exd d [(x, u)]) := by rw [upd_ne hne, upd_same]
    have kp : ∀ b o, b ≠ a → H b = some o → (upd (upd H d (exd d [(x, u)])) a (exo a C (some d))) b = some o := fun b o nb e => by rw [upd_ne nb, upd_ne (ne_of_none e hd)]; exact e
    revert ea ed kp
    generalize upd (upd H d (exd d [(x, u)])) a (exo a C (some d)) = H1
    intro ea ed kp
    refine ⟨_, rfl, (by show 1 ≤ sizeLine; decide), fun t ht => ?_⟩
    have na : t ≠ a := fun e => by rw [e, ea] at ht; cases ht
    have nt : t ≠ d := fun e => by rw [e, ed] at ht; cases ht
    refine ⟨_, rfl, a, C, rfl, T.o, T.tt, .inr ⟨d, [(x, u)], (show 1 ≤ 900 by decide), ?_, ?_, ?_⟩⟩
    · rw [upd_ne (Ne.symm na)]
      exact ea
    · rw [upd_ne (Ne.symm nt)]
      exact ed
    · refine k _ d t hd hne ?_ upd_same ?_ fun b o nb e => ?_
      · rw [upd_ne (Ne.symm hne), upd_ne (Ne.symm na)]
        exact ea
      · rw [upd_ne nt, upd_same]
      · have n1 : b ≠ d := ne_of_none e hd
        have n2 : b ≠ t := fun z => by
          rw [z] at e
          rw [kp _ _ (z ▸ nb) e] at ht
          cases ht
        rw [upd_ne n1, upd_ne n2]
        exact kp b o nb e
end
structure Sh2 (st : Stmt) (x y : Str) : Prop where
  body : ∃ (p1 p2 p3 p4 p5 p6 p7 p8 p9 p10 p11 p12 p13 p14 : Pos) (kk : Nat), defBody st = [.Assign [.Attribute (.Name "self" p1) x p2] (.Name x p3) p4, .Assign [.Attribute (.Name "self" p5) y p6] (.Name y p7) p8, .Assign [.Attribute (.Name "self" p9) "_told" p10] (.Tuple [.Name x p11, .Name y p12] kk p13) p14]
  sc : FnScope [("self" : Str), x, y] [("self" : Str), x, y] (defScope st)
  dbg : ∀ n ∈ [("self" : Str), x, y], (n == ("__debug__" : Str)) = false ∧ (n == ("__classdict__" : Str)) = false
section
variable {P : Program} {w : World} {K : PySem.W.Frag} {mg : Str → Option Value} {base : Heap}
theorem ok2 {fa : Fa} {cn x y : Str} {st : Stmt} {C f : Addr} {fd : FuncData} (T : Own K mg fa cn [x, y] st C f fd) (S : Sh2 st x y) : FnOk P w K mg base CX0 1 f fd [("self" : Str), x, y] (spO [x, y] C) := by
  have sc := S.sc
  obtain ⟨p1, p2, p3, p4, p5, p6, p7, p8, p9, p10, p11, p12, p13, p14, kk, body⟩ := S.body
  refine T.F.ok sc (fun vs H Q E h => ?_) (fun cdv A outer_ s H vs Q E hr h => ?_)
  · obtain ⟨a, ws, rfl, l, _⟩ := h
    show ws.length + 1 = _
    rw [l]
    rfl
  · obtain ⟨a, ws, rfl, l, he, k⟩ := h
    obtain ⟨u, v, rfl⟩ : ∃ u v, ws = [u, v] := by
      match ws, l with
      | [u, v], _ => exact ⟨_, _, rfl⟩
    rw [body]
    refine ⟨_, (pss_cons (EXv.ps_put (newId := fa.nw) fa.fam (pv 0 rfl (vis_of sc (by simp)) (S.dbg _ (by simp)).1 (S.dbg _ (by simp)).2) (pv 1 rfl (vis_of sc (by simp)) (S.dbg _ (by simp)).1 (S.dbg _ (by simp)).2)) (pss_cons (EXv.ps_put (newId := fa.nw) fa.fam (pv 0 rfl (vis_of sc (by simp)) (S.dbg _ (by simp)).1 (S.dbg _ (by simp)).2) (pv 2 rfl (vis_of sc (by simp)) (S.dbg _ (by simp)).1 (S.dbg _ (by simp)).2)) (pss_one (EXv.ps_put (newId := fa.nw) fa.fam (pv 0 rfl (vis_of sc (by simp)) (S.dbg _ (by simp)).1 (S.dbg _ (by simp)).2) (pe_tup (pa_cons (pv 1 rfl (vis_of sc (by simp)) (S.dbg _ (by simp)).1 (S.dbg _ (by simp)).2) (pa_cons (pv 2 rfl (vis_of sc (by simp)) (S.dbg _ (by simp)).1 (S.dbg _ (by simp)).2) pa_nil))))))), ?_⟩
    refine ⟨_, rfl, _, rfl, a, C, rfl, T.o, T.tk x (by simp), .inl ⟨he, fun d hd hne => ?_⟩⟩
    have ea : (upd (upd H d (exd d [(x, u)])) a (exo a C (some d))) a = some (exo a C (some d)) := upd_same
    have ed : (upd (upd H d (exd d [(x, u)])) a (exo a C (some d))) d = some (exd d [(x, u)]) := by rw [upd_ne hne, upd_same]
    have kp : ∀ b o, b ≠ a → H b = some o → (upd (upd H d (exd d [(x, u)])) a (exo a C (some d))) b = some o := fun b o nb e => by rw [upd_ne nb, upd_ne (ne_of_none e hd)]; exact e
    revert ea ed kp
    generalize upd (upd H d (exd d [(x, u)])) a (exo a C (some d)) = H1
    intro ea ed kp
    refine ⟨_, rfl, _, rfl, a, C, rfl, T.o, T.tk y (by simp), .inr ⟨d, [(x, u)], (show 1 ≤ 900 by decide), ea, ed, ?_⟩⟩
    have ea2 : (upd H1 d (exd d [(y, v), (x, u)])) a = some (exo a C (some d)) := by rw [upd_ne (Ne.symm hne)]; exact ea
    have ed2 : (upd H1 d (exd d [(y, v), (x, u)])) d = some (exd d [(y, v), (x, u)]) := upd_same
    have kp2 : ∀ b o, b ≠ a → H b = some o → (upd H1 d (exd d [(y, v), (x, u)])) b = some o := fun b o nb e => by rw [upd_ne (ne_of_none e hd)]; exact kp b o nb e
    revert ea2 ed2 kp2
    generalize upd H1 d (exd d [(y, v), (x, u)]) = H2
    clear ea ed kp H1
    intro ea ed kp
    rename Hp => H1
    refine ⟨_, rfl, _, rfl, (by show 2 ≤ sizeLine; decide), fun t ht => ?_⟩
    have na : t ≠ a := fun e => by rw [e, ea] at ht; cases ht
    have nt : t ≠ d := fun e => by rw [e, ed] at ht; cases ht
    refine ⟨_, rfl, a, C, rfl, T.o, T.tt, .inr ⟨d, [(y, v), (x, u)], (show 2 ≤ 900 by decide), ?_, ?_, ?_⟩⟩
    · rw [upd_ne (Ne.symm na)]
      exact ea
    · rw [upd_ne (Ne.symm nt)]
      exact ed
    · refine k _ d t hd hne ?_ upd_same ?_ fun b o nb e => ?_
      · rw [upd_ne (Ne.symm hne), upd_ne (Ne.symm na)]
        exact ea
      · rw [upd_ne nt, upd_same]
      · have n1 : b ≠ d := ne_of_none e hd
        have n2 : b ≠ t := fun z => by
          rw [z] at e
          rw [kp _ _ (z ▸ nb) e] at ht
          cases ht
        rw [upd_ne n1, upd_ne n2]
        exact kp b o nb e
end
structure Sh3 (st : Stmt) (x y z : Str) : Prop where
  body : ∃ (p1 p2 p3 p4 p5 p6 p7 p8 p9 p10 p11 p12 p13 p14 p15 p16 p17 p18 p19 : Pos) (kk : Nat), defBody st = [.Assign [.Attribute (.Name "self" p1) x p2] (.Name x p3) p4, .Assign [.Attribute (.Name "self" p5) y p6] (.Name y p7) p8, .Assign [.Attribute (.Name "self" p9) z p10] (.Name z p11) p12, .Assign [.Attribute (.Name "self" p13) "_told" p14] (.Tuple [.Name x p15, .Name y p16, .Name z p17] kk p18) p19]
  sc : FnScope [("self" : Str), x, y, z] [("self" : Str), x, y, z] (defScope st)
  dbg : ∀ n ∈ [("self" : Str), x, y, z], (n == ("__debug__" : Str)) = false ∧ (n == ("__classdict__" : Str)) = false
section
variable {P : Program} {w : World} {K : PySem.W.Frag} {mg : Str → Option Value} {base : Heap}
theorem ok3 {fa : Fa} {cn x y z : Str} {st : Stmt} {C f : Addr} {fd : FuncData} (T : Own K mg fa cn [x, y, z] st C f fd) (S : Sh3 st x y z) : FnOk P w K mg base CX0 1 f fd [("self" : Str), x, y, z] (spO [x, y, z] C) := by
  have sc := S.sc
  obtain ⟨p1, p2, p3, p4, p5, p6, p7, p8, p9, p10, p11, p12, p13, p14, p15, p16, p17, p18, p19, kk, body⟩ := S.body
  refine T.F.ok sc (fun vs H Q E h => ?_) (fun cdv A outer_ s H vs Q E hr h => ?_)
  · obtain ⟨a, ws, rfl, l, _⟩ := h
    show ws.length + 1 = _
    rw [l]
    rfl
  · obtain ⟨a, ws, rfl, l, he, k⟩ := h
    obtain ⟨u, v, r, rfl⟩ : ∃ u v r, ws = [u, v, r] := by
      match ws, l with
      | [u, v, r], _ => exact ⟨_, _, _, rfl⟩
    rw [body]
    refine ⟨_, (pss_cons (EXv.ps_put (newId := fa.nw) fa.fam (pv 0 rfl (vis_of sc (by simp)) (S.dbg _ (by simp)).1 (S.dbg _ (by simp)).2) (pv 1 rfl (vis_of sc (by simp)) (S.dbg _ (by simp)).1 (S.dbg _ (by simp)).2)) (pss_cons (EXv.ps_put (newId := fa.nw) fa.fam (pv 0 rfl (vis_of sc (by simp)) (S.dbg _ (by simp)).1 (S.dbg _ (by simp)).2) (pv 2 rfl (vis_of sc (by simp)) (S.dbg _ (by simp)).1 (S.dbg _ (by simp)).2)) (pss_cons (EXv.ps_put (newId := fa.nw) fa.fam (pv 0 rfl (vis_of sc (by simp)) (S.dbg _ (by simp)).1 (S.dbg _ (by simp)).2) (pv 3 rfl (vis_of sc (by simp)) (S.dbg _ (by simp)).1 (S.dbg _ (by simp)).2)) (pss_one (EXv.ps_put (newId := fa.nw) fa.fam (pv 0 rfl (vis_of sc (by simp)) (S.dbg _ (by simp)).1 (S.dbg _ (by simp)).2) (pe_tup (pa_cons (pv 1 rfl (vis_of sc (by simp)) (S.dbg _ (by simp)).1 (S.dbg _ (by simp)).2) (pa_cons (pv 2 rfl (vis_of sc (by simp)) (S.dbg _ (by simp)).1 (S.dbg _ (by simp)).2) (pa_cons (pv 3 rfl (vis_of sc (by simp)) (S.dbg _ (by simp)).1 (S.dbg _ (by simp)).2) pa_nil))))))))), ?_⟩
    refine ⟨_, rfl, _, rfl, a, C, rfl, T.o, T.tk x (by simp), .inl ⟨he, fun d hd hne => ?_⟩⟩
    have ea : (upd (upd H d (exd d [(x, u)])) a (exo a C (some d))) a = some (exo a C (some d)) := upd_same
    have ed : (upd (upd H d (exd d [(x, u)])) a (exo a C (some d))) d = some (exd d [(x, u)]) := by rw [upd_ne hne, upd_same]
    have kp : ∀ b o, b ≠ a → H b = some o → (upd (upd H d (exd d [(x, u)])) a (exo a C (some d))) b = some o := fun b o nb e => by rw [upd_ne nb, upd_ne (ne_of_none e hd)]; exact e
    revert ea ed kp
    generalize upd (upd H d (exd d [(x, u)])) a (exo a C (some d)) = H1
    intro ea ed kp
    refine ⟨_, rfl, _, rfl, a, C, rfl, T.o, T.tk y (by simp), .inr ⟨d, [(x, u)], (show 1 ≤ 900 by decide), ea, ed, ?_⟩⟩
    have ea2 : (upd H1 d (exd d [(y, v), (x, u)])) a = some (exo a C (some d)) := by rw [upd_ne (Ne.symm hne)]; exact ea
    have ed2 : (upd H1 d (exd d [(y, v), (x, u)])) d = some (exd d [(y, v), (x, u)]) := upd_same
    have kp2 : ∀ b o, b ≠ a → H b = some o → (upd H1 d (exd d [(y, v), (x, u)])) b = some o := fun b o nb e => by rw [upd_ne (ne_of_none e hd)]; exact kp b o nb e
    revert ea2 ed2 kp2
    generalize upd H1 d (exd d [(y, v), (x, u)]) = H2
    clear ea ed kp H1
    intro ea ed kp
    rename Hp => H1
    refine ⟨_, rfl, _, rfl, a, C, rfl, T.o, T.tk z (by simp), .inr ⟨d, [(y, v), (x, u)], (show 2 ≤ 900 by decide), ea, ed, ?_⟩⟩
    have ea2 : (upd H1 d (exd d [(z, r), (y, v), (x, u)])) a = some (exo a C (some d)) := by rw [upd_ne (Ne.symm hne)]; exact ea
    have ed2 : (upd H1 d (exd d [(z, r), (y, v), (x, u)])) d = some (exd d [(z, r), (y, v), (x, u)]) := upd_same
    have kp2 : ∀ b o, b ≠ a → H b = some o → (upd H1 d (exd d [(z, r), (y, v), (x, u)])) b = some o := fun b o nb e => by rw [upd_ne (ne_of_none e hd)]; exact kp b o nb e
    revert ea2 ed2 kp2
    generalize upd H1 d (exd d [(z, r), (y, v), (x, u)]) = H2
    clear ea ed kp H1
    intro ea ed kp
    rename Hp => H1
    refine ⟨_, rfl, _, rfl, _, rfl, (by show 3 ≤ sizeLine; decide), fun t ht => ?_⟩
    have na : t ≠ a := fun e => by rw [e, ea] at ht; cases ht
    have nt : t ≠ d := fun e => by rw [e, ed] at ht; cases ht
    refine ⟨_, rfl, a, C, rfl, T.o, T.tt, .inr ⟨d, [(z, r), (y, v), (x, u)], (show 3 ≤ 900 by decide), ?_, ?_, ?_⟩⟩
    · rw [upd_ne (Ne.symm na)]
      exact ea
    · rw [upd_ne (Ne.symm nt)]
      exact ed
    · refine k _ d t hd hne ?_ upd_same ?_ fun b o nb e => ?_
      · rw [upd_ne (Ne.symm hne), upd_ne (Ne.symm na)]
        exact ea
      · rw [upd_ne nt, upd_same]
      · have n1 : b ≠ d := ne_of_none e hd
        have n2 : b ≠ t := fun z => by
          rw [z] at e
          rw [kp _ _ (z ▸ nb) e] at ht
          cases ht
        rw [upd_ne n1, upd_ne n2]
        exact kp b o nb e
end
end OwE
namespace K18
open PySem L2
abbrev Tx := List Nat
def top (i : Nat) : Stmt := PySem.Challenge.pw_aboveless_k18_errors_and_sequences.main.body.getD i (.Pass ⟨0, 0, 0, 0⟩)
def tot (ts : List Tx) : Nat := (ts.map List.length).sum
def asc (l : Tx) : Prop := ∀ c ∈ l, c < 128
abbrev sTold : Stmt := top 2
abbrev sIsName : Stmt := top 52
abbrev sCheck : Stmt := top 54
abbrev sRank : Stmt := top 55
abbrev sLRank : Stmt := top 56
abbrev sOrder : Stmt := top 57
abbrev sRng : Stmt := top 60
abbrev sDraw : Stmt := top 61
abbrev sChoice : Stmt := top 62
abbrev sInvalid : Stmt := top 63
abbrev sMissing : Stmt := top 64
abbrev sState : Stmt := top 65
abbrev sLimit : Stmt := top 66
abbrev sMade : Stmt := top 67
abbrev sFlagsA : Stmt := top 68
abbrev sFlagsB : Stmt := top 69
abbrev sClasses : Stmt := top 70
abbrev sAttrA : Stmt := top 71
abbrev sAttrB : Stmt := top 72
abbrev sBaseR : Stmt := top 73
abbrev sErrR : Stmt := top 74
abbrev sLTold : Stmt := top 75
abbrev sRefR : Stmt := top 76
abbrev sLaw : Stmt := top 77
/-- a text by its codes -/
def txt (l : Tx) : Str := ⟨l.toArray⟩
abbrev tv (l : Tx) : V := .str (txt l)
theorem txt_len (l : Tx) : (txt l).length = l.length := List.size_toArray
theorem txt_list (l : Tx) : (txt l).cps.toList = l := rfl
theorem txt_of (z : Str) : z = txt z.cps.toList := by cases z with | mk a => cases a; rfl
theorem txt_inj {a b : Tx} (h : txt a = txt b) : a = b := by
  have h2 : (txt a).cps.toList = (txt b).cps.toList := by rw [h]
  exact h2
theorem txt_app (a b : Tx) : txt a ++ txt b = txt (a ++ b) := by
  show (⟨a.toArray ++ b.toArray⟩ : Str) = ⟨(a ++ b).toArray⟩
  simp
/-- the most signs of a text here -/
def big : Nat := 1000000
theorem big_line : big ≤ sizeLine := by decide
theorem same_upd {H : Hp} {p : Addr} {o : HO} (h : H p = none) : Same H (upd H p o) := fun b u e => by
  rw [upd_ne (ne_of_none e h)]
  exact e
/-! ### a text times an int -/
def rep (n : Nat) (l : Tx) : Tx := (List.replicate n l).flatten
theorem rep_len (n : Nat) (l : Tx) : (rep n l).length = n * l.length := by unfold rep; simp
theorem fold_rep (l : Tx) : ∀ (k : Nat) (acc : Tx), List.foldl (fun a b : Array Nat => a ++ b) acc.toArray (List.replicate k l.toArray) = (acc ++ rep k l).toArray
  | 0, acc => by simp [rep]
  | k + 1, acc => by
    have e : acc.toArray ++ l.toArray = (acc ++ l).toArray := by simp
    rw [List.replicate_succ, List.foldl_cons, e, fold_rep l k (acc ++ l)]
    unfold rep
    rw [List.replicate_succ, List.flatten_cons, List.append_assoc]
theorem op_mulS {X : Cx} : OpR X (binaryOp .Mult) (fun x y H Q => ∃ (l : Tx) (n : Nat), x = tv l ∧ y = .int (n : Int) ∧ n ≤ big ∧ l.length * n ≤ big ∧ Q (tv (rep n l)) H) := by
  rintro pins s σ H x y v u Q I rx ry ⟨l, n, rfl, rfl, hn, hl, q⟩
  obtain ⟨t, rfl⟩ := rx
  obtain ⟨t', rfl⟩ := ry
  have hb : big = 1000000 := rfl
  have hsl : sizeLine = 16777216 := sizeLine_eq
  refine PySem.P.mul_str (by rw [decide_eq_false (by omega), decide_eq_false (by omega)]; rfl) (fun h1 _ => ?_) (fun h1 _ => ?_) ?_
  · rw [txt_len]
    have hdiv : (l.length : Int) ≤ (2 ^ 63 - 1) / (n : Int) := by
      rw [Int.le_ediv_iff_mul_le (by omega)]
      have : ((l.length * n : Nat) : Int) ≤ 1000000 := by omega
      rw [Int.natCast_mul] at this
      omega
    omega
  · rw [txt_len, Int.toNat_natCast]
    unfold PySem.Builtin.Str.tooLong
    exact decide_eq_false (by rw [hsl]; omega)
  · have fin : ∀ tk' k, EP X pins σ Q (.str (txt (rep n l)) tk') { s with toks := k } := fun tk' k => ⟨tv (rep n l), H, I.tok k, ⟨tk', rfl⟩, q⟩
    by_cases h1 : (n : Int) < 1
    · rw [if_pos h1]
      have e0 : n = 0 := by omega
      subst e0
      exact ⟨by decide, fin _ _⟩
    · rw [if_neg h1]
      by_cases h2 : (((n : Int) == 1 || (txt l).length == 0) = true)
      · rw [if_pos h2]
        have e : rep n l = l := by
          rcases Bool.or_eq_true_iff.mp h2 with h | h
          · have : n = 1 := by have := beq_iff_eq.mp h; omega
            subst this
            simp [rep]
          · rw [txt_len] at h
            have h0 : l = [] := List.eq_nil_of_length_eq_zero (beq_iff_eq.mp h)
            subst h0
            simp [rep]
        have f := fin t s.toks
        rw [e] at f
        exact f
      · rw [if_neg h2]
        have e : (⟨List.foldl (fun x1 x2 => x1 ++ x2) #[] (List.replicate (n : Int).toNat (txt l).cps)⟩ : Str) = txt (rep n l) := by
          rw [Int.toNat_natCast]
          have q := fold_rep l n []
          rw [List.nil_append] at q
          exact congrArg Str.mk q
        rw [e]
        refine ⟨?_, fin _ _⟩
        rw [txt_len, rep_len, Nat.mul_comm]
        omega
theorem txt_eq (a b : Tx) : (txt a == txt b) = decide (a = b) := by
  by_cases h : a = b
  · subst h; simp
  · rw [decide_eq_false h]
    exact beq_eq_false_iff_ne.mpr fun e => h (txt_inj e)
structure At (K : PySem.W.Frag) (mg : Str → Option Value) (x : Str) (st : Stmt) (ps : List Str) (f : Addr) (fd : FuncData) : Prop where
  F : Fun K x x st f fd
  b : Binds K fd ps []
  m : mg x = some (.ref f)
theorem map_at {ts : List Tx} {i : Nat} {x : V} (h : (ts.map tv)[i]? = some x) : ∃ t, ts[i]? = some t ∧ x = tv t := by
  rw [List.getElem?_map] at h
  cases e : ts[i]? with
  | none => rw [e] at h; cases h
  | some t => rw [e] at h; exact ⟨t, rfl, (Option.some.inj h).symm⟩
theorem asc_app {a b : Tx} (ha : asc a) (hb : asc b) : asc (a ++ b) := fun c hc => (List.mem_append.mp hc).elim (ha c) (hb c)
theorem asc_of {l : Tx} (h : (l.all fun c => decide (c < 128)) = true) : asc l := fun c hc => of_decide_eq_true (List.all_eq_true.mp h c hc)
theorem asc_nil : asc [] := fun _ z => by cases z
theorem asc_rep {l : Tx} (h : asc l) (n : Nat) : asc (rep n l) := fun c hc => by
  obtain ⟨x, hx, hc⟩ := List.mem_flatten.mp hc
  rw [List.eq_of_mem_replicate hx] at hc
  exact h c hc
theorem cutS_any (l : Tx) (lo hi : Option Int) : ∃ l', cutS (txt l) lo hi = txt l' ∧ (asc l → asc l') ∧ l'.length ≤ l.length := by
  refine ⟨(l.drop (HT.sIx (txt l).length 0 lo)).take (HT.sIx (txt l).length (txt l).length hi - HT.sIx (txt l).length 0 lo), rfl, fun h c hc => h c (List.mem_of_mem_drop (List.mem_of_mem_take hc)), ?_⟩
  rw [List.length_take, List.length_drop]
  omega
/-! ### the draws -/
/-- at r: a stock of draws -/
def Rg (H : Hp) (r : Addr) : Prop := ∃ x y : Int, H r = some (.lst [.int x, .int y]) ∧ 0 ≤ x ∧ 0 ≤ y ∧ y ≤ 2147483629
/-- what was tracked stands, but r, which is a stock as before -/
def Kp (r : Addr) (H H' : Hp) : Prop := (∀ b o, b ≠ r → H b = some o → H' b = some o) ∧ (Rg H r → Rg H' r)
theorem Kp.refl (r : Addr) (H : Hp) : Kp r H H := ⟨fun _ _ _ h => h, fun h => h⟩
theorem Kp.trans {r : Addr} {H H1 H2 : Hp} (a : Kp r H H1) (b : Kp r H1 H2) : Kp r H H2 := ⟨fun c o h e => b.1 c o h (a.1 c o h e), fun h => b.2 (a.2 h)⟩
theorem Kp.of_same {r : Addr} {H H' : Hp} (s : Same H H') : Kp r H H' := ⟨fun b o _ e => s b o e, fun ⟨x, y, h, p⟩ => ⟨x, y, s _ _ h, p⟩⟩
theorem Kp.free {r : Addr} {H H' : Hp} (k : Kp r H H') (g : Rg H r) {b : Addr} (h : H' b = none) : H b = none := by
  by_cases e : b = r
  · subst e
    obtain ⟨x, y, q, _⟩ := k.2 g
    rw [q] at h
    cases h
  · cases q : H b with
    | none => rfl
    | some o =>
      rw [k.1 b o e q] at h
      cases h
section
variable {P : Program} {w : World} {K : PySem.W.Frag} {mg : Str → Option Value} {base : Heap}
def spRng (K : PySem.W.Frag) : Sp := fun vs H Q _ => ∃ (a : Addr) (ns : List Int) (k : Nat), vs = [.ref a, .int (k : Int)] ∧ SqL K H a (ns.map V.int) ∧ k ≤ 1000 ∧ ∀ H' p, Same H H' → H p = none → Rg H' p → Q (.ref p) H'
theorem scRn : FnScope ["_law_script", "_law_k", "_law_cell"] ["_law_script", "_law_k"] (defScope sRng) := ⟨rfl, rfl, rfl, by decide +kernel, rfl, by decide +kernel, by decide +kernel⟩
/-- the built-in names that the law leans on -/
structure BEnv (mg : Str → Option Value) : Prop where
  zLen : mg "len" = none
  zAbs : mg "abs" = none
  zMax : mg "max" = none
  zMin : mg "min" = none
  zInt : mg "int" = none
  zDm : mg "divmod" = none
  zRange : mg "range" = none
  zAll : mg "all" = none
theorem ok_rng {f : Addr} {fd : FuncData} (F : Fun K "_law_rng" "_law_rng" sRng f fd) (B : BEnv mg) : FnOk P w K mg base CX0 1 f fd ["_law_script", "_law_k"] (spRng K) := by
  refine F.ok scRn (fun vs H Q E h => ?_) (fun cdv A outer_ s H vs Q E hr h => ?_)
  · obtain ⟨a, ns, k, rfl, _⟩ := h
    rfl
  · obtain ⟨a, ns, k, rfl, hS, hk, kk⟩ := h
    refine ⟨_, pss_cons (ps_set (i := 2) scRn.nd rfl (Or.inl rfl) (pe_ifExp (pt_cmpR op_lt (pv 1) (pe_callB call_len_seq (by rfl) B.zLen PySem.boot_len (pa_cons (pv 0) pa_nil)) (nomark _)) (pe_callB call_abs (by rfl) B.zAbs (by decide +kernel) (pa_cons (pe_ix ix_list (pv 0) (pv 1) (fun _ _ => rfl)) pa_nil)) pe_int))
      (pss_one (ps_ret (pe_lst (pa_cons (pe_callB (call_max2 rfl) (by rfl) B.zMax (by decide +kernel) (pa_cons pe_int (pa_cons (pe_op op_sub (pv 2) (pe_op op_pow pe_int pe_int)) pa_nil)))
        (pa_cons (pe_op op_add (pe_op op_mod (pe_callTy call_int1 (by rfl) B.zInt (by decide +kernel) (pa_cons (pe_op op_pow (pe_op op_add (pe_op op_add (pe_op op_mod (pe_callTy call_int1 (by rfl) B.zInt (by decide +kernel) (pa_cons (pv 2) pa_nil)) pe_int) (pe_op op_mul pe_int (pv 1))) pe_int) pe_int) pa_nil)) pe_int) pe_int) pa_nil))))), ?_⟩
    have rest : ∀ c : Int, 0 ≤ c → 0 ≤ (if c - 10 ^ (18 : Int).toNat > 0 then c - 10 ^ (18 : Int).toNat else 0) ∧ (c % 2147483549 + 4127 * (k : Int) + 29).natAbs < 2 ^ 64 := fun c hc => by
      have h1 := Int.emod_nonneg c (show (2147483549 : Int) ≠ 0 by decide)
      have h2 := Int.emod_lt_of_pos c (show (0 : Int) < 2147483549 by decide)
      refine ⟨by split <;> omega, by omega⟩
    have last : ∀ z : Int, 0 ≤ z % 2147483477 + 1 ∧ z % 2147483477 + 1 ≤ 2147483629 := fun z => by
      have h1 := Int.emod_nonneg z (show (2147483477 : Int) ≠ 0 by decide)
      have h2 := Int.emod_lt_of_pos z (show (0 : Int) < 2147483477 by decide)
      omega
    have cell : ∀ c : Int, 0 ≤ c → (∀ (H' : Hp) (p : Addr), Same H H' → H p = none → Rg H' p → Q (.ref p) H') → True := fun _ _ _ => trivial
    refine ⟨_, rfl, _, rfl, a, _, rfl, .inl hS, _, _, rfl, rfl, _, rfl, ?_⟩
    refine ite2 (fun h1 => ?_) (fun h1 => ?_)
    · have hlt : k < ns.length := by
        have := of_decide_eq_true h1
        rw [List.length_map] at this
        omega
      have hv : (ns.map V.int)[k]? = some (V.int ns[k]) := by rw [List.getElem?_map, List.getElem?_eq_getElem hlt]; rfl
      refine ⟨_, rfl, _, rfl, a, _, _, _, rfl, rfl, hS, atI_nat hv, _, rfl, ?_⟩
      have hc : 0 ≤ (if ns[k] < 0 then -ns[k] else ns[k]) := by split <;> omega
      generalize (if ns[k] < 0 then -ns[k] else ns[k]) = c at hc
      obtain ⟨r1, r2⟩ := rest c hc
      refine ⟨_, rfl, _, _, rfl, rfl, ⟨by decide, by decide, by decide⟩, _, _, rfl, rfl, _, _, rfl, ?_⟩
      refine ⟨_, rfl, .inl ⟨_, rfl, _, _, rfl, rfl, (by show (0 : Int) < 2147483549; decide), _, rfl, _, _, rfl, rfl, .inl ⟨by decide, by decide⟩, _, _, rfl, rfl, _, _, rfl, rfl, _, _, rfl, rfl, ⟨by decide, by decide, r2⟩,
        .inl ⟨_, rfl, _, _, rfl, rfl, (by show (0 : Int) < 2147483477; decide), _, _, rfl, rfl, (by show 2 ≤ sizeLine; decide), fun p hp => kk _ p (same_upd hp) hp ⟨_, _, upd_same, r1, (last _).1, (last _).2⟩⟩⟩⟩
    · have hc : (0 : Int) ≤ 0 := Int.le_refl 0
      obtain ⟨r1, r2⟩ := rest 0 hc
      refine ⟨_, rfl, _, _, rfl, rfl, ⟨by decide, by decide, by decide⟩, _, _, rfl, rfl, _, _, rfl, ?_⟩
      refine ⟨_, rfl, .inl ⟨_, rfl, _, _, rfl, rfl, (by show (0 : Int) < 2147483549; decide), _, rfl, _, _, rfl, rfl, .inl ⟨by decide, by decide⟩, _, _, rfl, rfl, _, _, rfl, rfl, _, _, rfl, rfl, ⟨by decide, by decide, r2⟩,
        .inl ⟨_, rfl, _, _, rfl, rfl, (by show (0 : Int) < 2147483477; decide), _, _, rfl, rfl, (by show 2 ≤ sizeLine; decide), fun p hp => kk _ p (same_upd hp) hp ⟨_, _, upd_same, r1, (last _).1, (last _).2⟩⟩⟩⟩
/-! ### _law_draw -/
def spDraw : Sp := fun vs H Q _ => ∃ (r : Addr) (m : Nat), vs = [.ref r, .int (m : Int)] ∧ Rg H r ∧ 0 < m ∧ m ≤ 1000000000 ∧ ∀ H' (n : Nat), Kp r H H' → n < m → Q (.int (n : Int)) H'
theorem scDr : FnScope ["_law_rng_here", "_law_many", "_law_digit"] ["_law_rng_here", "_law_many"] (defScope sDraw) := ⟨rfl, rfl, rfl, by decide +kernel, rfl, by decide +kernel, by decide +kernel⟩
theorem mod_nat (z : Int) {m : Nat} (h : 0 < m) : ∃ n : Nat, z % (m : Int) = (n : Int) ∧ n < m := by
  have h1 := Int.emod_nonneg z (show (m : Int) ≠ 0 by omega)
  have h2 := Int.emod_lt_of_pos z (show (0 : Int) < m by omega)
  exact ⟨(z % (m : Int)).toNat, by omega, by omega⟩
theorem ixN_0 (n : Nat) : ixN (n + 1) 0 = some 0 := by
  unfold ixN
  rw [if_pos (by decide)]
  simp
theorem ixN_1 (n : Nat) : ixN (n + 2) 1 = some 1 := by
  unfold ixN
  rw [if_pos (by decide)]
  simp
  omega
theorem ok_draw {f : Addr} {fd : FuncData} (F : Fun K "_law_draw" "_law_draw" sDraw f fd) (B : BEnv mg) : FnOk P w K mg base CX0 1 f fd ["_law_rng_here", "_law_many"] spDraw := by
  refine F.ok scDr (fun vs H Q E h => ?_) (fun cdv A outer_ s H vs Q E hr h => ?_)
  · obtain ⟨r, m, rfl, _⟩ := h
    rfl
  · obtain ⟨r, m, rfl, ⟨x, y, hL, hx, hy, hy2⟩, hm, hm2, k⟩ := h
    refine ⟨_, pss_cons (ps_if (pt_cmpR op_gt (pe_ix ix_list (pv 0) pe_int (fun _ _ => rfl)) pe_int (nomark _))
        (pss_cons (ps_asg (pe_callB call_divmod (by rfl) B.zDm (by decide +kernel) (pa_cons (pe_ix ix_list (pv 0) pe_int (fun _ _ => rfl)) (pa_cons (pv 1) pa_nil))) (pg_tup rfl (pgs_cons (pg_sub (pv 0) pe_int set_list) (pgs_cons (pg_name (i := 2) scDr.nd rfl (Or.inl rfl)) pgs_nil))))
        (pss_one (ps_ret (pv 2)))) pss_nil)
      (pss_cons (ps_asg (pe_op op_mod (pe_callTy call_int1 (by rfl) B.zInt (by decide +kernel) (pa_cons (pe_op op_add (pe_op op_mul (pe_ix ix_list (pv 0) pe_int (fun _ _ => rfl)) pe_int) pe_int) pa_nil)) pe_int) (pg_sub (pv 0) pe_int set_list))
      (pss_one (ps_ret (pe_op op_mod (pe_callTy call_int1 (by rfl) B.zInt (by decide +kernel) (pa_cons (pe_op op_fdiv (pe_op op_mod (pe_callTy call_int1 (by rfl) B.zInt (by decide +kernel) (pa_cons (pe_op op_mul (pe_ix ix_list (pv 0) pe_int (fun _ _ => rfl)) (pe_ix ix_list (pv 0) pe_int (fun _ _ => rfl))) pa_nil)) pe_int) pe_int) pa_nil)) (pv 1))))), ?_⟩
    have hb : big = 1000000 := rfl
    refine ⟨_, rfl, r, _, _, _, rfl, rfl, SqL.of hL, atI_nat (j := 0) rfl, _, _, rfl, rfl, _, rfl, ?_⟩
    refine ite2 (fun h1 => ?_) (fun h1 => ?_)
    · obtain ⟨n, en, hn⟩ := mod_nat x hm
      refine ⟨_, rfl, r, _, _, _, rfl, rfl, SqL.of hL, atI_nat (j := 0) rfl, _, rfl, _, _, rfl, ⟨by omega, by omega⟩, fun t ht => ?_⟩
      have nt : r ≠ t := ne_of_none hL ht
      refine ⟨t, _, rfl, SqT.of upd_same, rfl, _, _, rfl, _, rfl, r, [.int x, .int y], _, 0, rfl, rfl, by rw [upd_ne nt]; exact hL, ixN_0 1, ?_⟩
      refine ⟨_, _, rfl, rfl, ?_⟩
      refine ⟨_, rfl, ?_⟩
      rw [en]
      refine k _ n ⟨fun b o hb e => ?_, fun _ => ⟨x / (m : Int), y, upd_same, Int.ediv_nonneg hx (by omega), hy, hy2⟩⟩ hn
      rw [upd_ne hb, upd_ne (ne_of_none e ht)]
      exact e
    · refine ⟨_, rfl, r, _, _, _, rfl, rfl, SqL.of hL, atI_nat (j := 1) rfl, _, _, rfl, rfl, .inr ⟨by decide, by decide⟩, _, _, rfl, rfl, .inl ⟨_, rfl, _, _, rfl, rfl, (by show (0 : Int) < 2147483629; decide), _, rfl, r, [.int x, .int y], _, 1, rfl, rfl, hL, ixN_1 0, ?_⟩⟩
      have e1 := Int.emod_nonneg (y * 39373 + 9973) (show (2147483629 : Int) ≠ 0 by decide)
      have e2 := Int.emod_lt_of_pos (y * 39373 + 9973) (show (0 : Int) < 2147483629 by decide)
      obtain ⟨z, ez⟩ : ∃ z, z = (y * 39373 + 9973) % 2147483629 := ⟨_, rfl⟩
      rw [← ez] at e1 e2
      rw [show ([V.int x, V.int y].set 1 ((fun i j : Int => V.int (i % j)) (y * 39373 + 9973) 2147483629)) = [.int x, .int z] by rw [ez]; rfl]
      have hL2 : (upd H r (.lst [.int x, .int z])) r = some (.lst [.int x, .int z]) := upd_same
      have cm : CMul z z := .inl ⟨by omega, by omega⟩
      obtain ⟨n, en, hn⟩ := mod_nat (z * z % 2147483563 / 13) hm
      refine ⟨_, rfl, r, _, _, _, rfl, rfl, SqL.of hL2, atI_nat (j := 1) rfl, _, rfl, r, _, _, _, rfl, rfl, SqL.of hL2, atI_nat (j := 1) rfl, _, _, rfl, rfl, cm, .inl ⟨_, rfl, _, _, rfl, rfl, (by show (0 : Int) < 2147483563; decide), _, _, rfl, rfl, ⟨by decide, by decide⟩,
        .inl ⟨_, rfl, _, rfl, _, _, rfl, rfl, (by show (0 : Int) < (m : Int); omega), ?_⟩⟩⟩
      show Q (.int (z * z % 2147483563 / 13 % (m : Int))) _
      rw [en]
      refine k _ n ⟨fun b o hb e => ?_, fun _ => ⟨x, z, upd_same, hx, e1, by omega⟩⟩ hn
      rw [upd_ne hb]
      exact e
/-! ### _law_choice -/
def spChoice (K : PySem.W.Frag) : Sp := fun vs H Q _ => ∃ (r : Addr) (o : V), vs = [.ref r, o] ∧ Rg H r ∧
  ((∃ (a : Addr) (xs : List V), o = .ref a ∧ H a = some (.lst xs) ∧ a ≠ r ∧ xs ≠ [] ∧ xs.length ≤ big ∧ ∀ H' x, Kp r H H' → x ∈ xs → Q x H') ∨
   ∃ l : Tx, o = tv l ∧ l ≠ [] ∧ l.length ≤ big ∧ ∀ H' c, Kp r H H' → c ∈ l → Q (tv [c]) H')
theorem scCh : FnScope ["_law_rng_here", "_law_options"] ["_law_rng_here", "_law_options"] (defScope sChoice) := ⟨rfl, rfl, rfl, by decide +kernel, rfl, by decide +kernel, by decide +kernel⟩
theorem ok_choice {f fD : Addr} {fd dD : FuncData} (F : Fun K "_law_choice" "_law_choice" sChoice f fd) (B : BEnv mg) (AD : At K mg "_law_draw" sDraw ["_law_rng_here", "_law_many"] fD dD) : FnOk P w K mg base CX0 2 f fd ["_law_rng_here", "_law_options"] (spChoice K) := by
  have GD : FnOk P w K mg base CX0 1 fD dD ["_law_rng_here", "_law_many"] spDraw := ok_draw AD.F B
  refine F.ok scCh (fun vs H Q E h => ?_) (fun cdv A outer_ s H vs Q E hr h => ?_)
  · obtain ⟨r, o, rfl, _⟩ := h
    rfl
  · obtain ⟨r, o, rfl, g, h⟩ := h
    refine ⟨_, pss_one (ps_ret (pe_ix ix_seq (pv 1) (pe_call GD hr (by rfl) AD.m AD.F.kp AD.b .nil pass0 (pa_cons (pv 0) (pa_cons (pe_callB call_len (by rfl) B.zLen PySem.boot_len (pa_cons (pv 1) pa_nil)) pa_nil))) (fun _ _ => rfl))), ?_⟩
    rcases h with ⟨a, xs, rfl, hL, hne, hx, hlen, k⟩ | ⟨l, rfl, hl0, hlen, k⟩
    · have hpos : 0 < xs.length := List.length_pos_iff.mpr hx
      refine ⟨_, rfl, _, rfl, _, rfl, _, xs.length, rfl, .inl ⟨_, SqL.of hL, rfl⟩, r, xs.length, rfl, g, hpos, Nat.le_trans hlen (by decide), fun H' n kp hn => ?_⟩
      have hv : xs[n]? = some xs[n] := List.getElem?_eq_getElem hn
      exact .inl ⟨a, _, _, _, rfl, rfl, SqL.of (kp.1 a _ hne hL), atI_nat hv, k H' _ kp (List.getElem_mem hn)⟩
    · have hpos : 0 < l.length := List.length_pos_iff.mpr hl0
      have hline : (txt l).length ≤ sizeLine := by rw [txt_len]; exact Nat.le_trans hlen big_line
      refine ⟨_, rfl, _, rfl, _, rfl, _, l.length, rfl, ⟨hline, (txt_len l).symm⟩, r, l.length, rfl, g, hpos, Nat.le_trans hlen (by decide), fun H' n kp hn => ?_⟩
      have hv : l[n]? = some l[n] := List.getElem?_eq_getElem hn
      exact .inr (.inr ⟨_, _, _, rfl, rfl, hline, atI_nat hv, k H' _ kp (List.getElem_mem hn)⟩)
end
theorem strOk_asc {l : Tx} (h : asc l) : PyData.strOk (txt l) = true := by
  unfold PyData.strOk txt
  rw [List.all_toArray]
  exact List.all_eq_true.mpr fun c hc => decide_eq_true (Nat.lt_trans (h c hc) (by decide))
section
variable {K : PySem.W.Frag} {H : Hp}
theorem dpS : ∀ ts : List Tx, DpAll K H (ts.map tv) (ts.map fun t => PyData.str (txt t))
  | [] => .nil
  | t :: r => .cons (.str _) (dpS r)
end
theorem canS : ∀ ts : List Tx, (∀ t ∈ ts, asc t) → PyData.canLayAll0 (ts.map fun t => PyData.str (txt t)) = true ∧ PyData.depthAll (ts.map fun t => PyData.str (txt t)) = 0
  | [], _ => ⟨rfl, rfl⟩
  | t :: r, h => by
    obtain ⟨h1, h2⟩ := canS r fun u hu => h u (List.mem_cons_of_mem _ hu)
    refine ⟨?_, ?_⟩
    · show (PyData.canLay0 (.str (txt t)) && PyData.canLayAll0 (r.map fun t => PyData.str (txt t))) = true
      rw [h1]
      simp [PyData.canLay0, strOk_asc (h t List.mem_cons_self)]
    · show max (PyData.depth (.str (txt t))) (PyData.depthAll (r.map fun t => PyData.str (txt t))) = 0
      rw [h2]
      simp [PyData.depth]
theorem shS (ts : List Tx) (h : ∀ t ∈ ts, asc t) : SeqAt.shaped (.list (ts.map fun t => PyData.str (txt t))) = true := by
  obtain ⟨h1, h2⟩ := canS ts h
  unfold SeqAt.shaped
  have e1 : PyData.canLay0 (.list (ts.map fun t => PyData.str (txt t))) = true := by rw [PyData.canLay0]; exact h1
  have e2 : PyData.depth (.list (ts.map fun t => PyData.str (txt t))) = 1 := by rw [PyData.depth, h2]
  rw [e1, e2]
  rfl
theorem eqvS : ∀ ts us : List Tx, PyData.eqvAll (ts.map fun t => PyData.str (txt t)) (us.map fun t => PyData.str (txt t)) = decide (ts = us)
  | [], [] => by simp [PyData.eqvAll]
  | [], m :: ms => by simp [PyData.eqvAll]
  | n :: ns, [] => by simp [PyData.eqvAll]
  | n :: ns, m :: ms => by
    have ih := eqvS ns ms
    show PyData.eqvAll (PyData.str (txt n) :: ns.map fun t => PyData.str (txt t)) (PyData.str (txt m) :: ms.map fun t => PyData.str (txt t)) = _
    rw [PyData.eqvAll, ih, PyData.eqv, txt_eq]
    by_cases h : n = m
    · subst h; simp
    · simp [h]
theorem eqvLS (ts us : List Tx) : PyData.eqv (.list (ts.map fun t => PyData.str (txt t))) (.list (us.map fun t => PyData.str (txt t))) = decide (ts = us) := by rw [PyData.eqv]; exact eqvS ts us
end K18
namespace K18
open PySem L2
/-! ### functions that are run where nothing is being shown -/
structure FnG (P : Program) (w : World) (K : PySem.W.Frag) (mg : Str → Option Value) (base : Heap) (k : Nat) (f : Addr) (fd : FuncData) (ps : List Str) (sp : Sp) : Prop where
  len : ∀ vs H Q E, sp vs H Q E → vs.length = ps.length
  run : ∀ (A : Around) (o_ : List Env) (s : Shared) (H : Hp) (gs : Args) (us : List Value) (vs : List V) (Q : VK) (E : XK), A.guards = some [] → Room k A → Env0 P w K mg base A o_ s H → BindsTo s fd gs (ps.zip us) → Vals vs us → sp vs H Q E →
    codeAny (model P w) A (.call (.ref f) gs) (CR CX0 o_ P w H s Q E) s
section
variable {X : Cx} {k : Nat} {f : Addr} {fd : FuncData} {ps : List Str} {sp : Sp} {x : Str} {p pos : Pos} {e : Expr} {es : List Expr} {t : TA}
theorem pe_callG (F : FnG X.prog X.w X.K X.mg X.base k f fd ps sp) (gd : X.A.guards = some []) (hr : Room k X.A) (hg : Gl X x) (hm : X.mg x = some (.ref f)) (hk : PySem.W.keepIn X.K (.ref f) = true) (hb : Binds X.K fd ps []) (ha : PA X (e :: es) t)
    (hdb : (x == ("__debug__" : Str)) = false := by decide) (he : starEach (e :: es) X.env = (false, eval e X.env) :: starEach es X.env := by rfl) (hpl : (backTo pos (starEach es X.env)).any (·.1) = false := by rfl) :
    PE X (.Call (.Name x p) (e :: es) [] pos) (tCall sp [] E0 t) := ⟨by
  intro pins s σ H Q I h
  apply wpAny_Call_Name_kw (ld_glob I hg hm ?_ hdb)
  apply PySem.W.callWith_K (h₀ := X.base) I.ok.mod.kin hk (thn (ha.run pos pins s σ H _ I h) ?_) he hpl
  rintro us s1 ⟨vs, H1, I1, r, q⟩
  refine ⟨I1.kIn, ?_⟩
  have q' : sp vs H1 Q E0 := by
    have z : sp (vs ++ []) H1 Q E0 := q
    rw [List.append_nil] at z
    exact z
  have hl : (us ++ []).length = ps.length := by
    rw [List.append_nil, ← r.length]
    exact F.len _ _ _ _ q'
  have b1 := hb s1 us I1.kIn hl
  rw [List.append_nil] at b1
  apply wpAny_call (codeAny_mono (F.run X.A X.stack s1 H1 ⟨us, []⟩ us vs Q E0 gd hr I1.env0 b1 r q') ?_)
  rintro (e | fl) s2 hq
  · exact hq.elim
  · cases fl <;> first | exact I1.after hq | exact False.elim hq⟩
end
section
variable {P : Program} {w : World} {K : PySem.W.Frag} {mg : Str → Option Value} {base : Heap}
theorem okG {x qual : Str} {st : Stmt} {f : Addr} {fd : FuncData} {N ps : List Str} {k : Nat} {sp : Sp} (F : Fun K x qual st f fd) (S : FnScope N ps (defScope st)) (len : ∀ vs H Q E, sp vs H Q E → vs.length = ps.length)
    (body : ∀ (cdv : Value) (A : Around) (o_ : List Env) (s : Shared) (H : Hp) (vs : List V) (Q : VK) (E : XK), A.guards = some [] → Room k (A.deeper (PyProof.Rows.envOfC qual (defScope st) s.heap.objs.size f cdv)) → sp vs H Q E →
      ∃ t, PSs (cxOf CX0 P w K mg base N qual (defScope st) f cdv A o_ s H E).nox (defBody st) t ∧ t { nx := fun _ H' => Q .non H', rt := Q } (start N vs) H) : FnG P w K mg base (k + 1) f fd ps sp := by
  obtain ⟨oc, od, kV, doc, pm, an, cdv, ct, osl, rfl, lk, cok⟩ := F.ex
  refine ⟨len, fun A o_ s H gs us vs Q E gd hr e0 hb r hsp => ?_⟩
  have up : ∀ b o, base.get? b = some o → s.heap.get? b = some o := fun b o q => (e0.bs b o q).1
  have KX : K.In s.heap := e0.mod.kin.keeps up
  have lm : s.heap.NoLimit := e0.mod.nolimit.keeps up
  have kinds : ∀ y ∈ ps.zip us, (defScope st).names.lookup y.1 = some .local ∨ ((defScope st).names.lookup y.1 = some .cell ∧ ((cellsFrom (s.heap.objs.size + 1) (defScope st).names []).lookup y.1).isSome = true) := by
    rintro ⟨n, v⟩ hy
    cases S.par n (List.of_mem_zip hy).1 with
    | inl q => exact .inl q
    | inr q => exact .inr ⟨q, PySem.W.cellsFrom_some _ _ _ (.inl q)⟩
  apply codeAny_call_function hr.depth (KX _ _ lk) rfl S.co S.gen rfl (PySem.W.codeRec_of KX cok) (hb _ _ _ _ ?_)
  apply wpAny_newFunctionEnv_cells S.kind kinds
  rintro env rfl s1 x
  refine ⟨lm.keeps x.toInCall.keep, codeAny_func ?_⟩
  obtain ⟨t, ht, hq⟩ := body cdv A o_ s H vs Q E gd (hr.deeper _) hsp
  have I : Inv (cxOf CX0 P w K mg base N qual (defScope st) f cdv A o_ s H E) [] (start N vs) H s1 := inv_start S hr.hd e0 (len _ _ _ _ hsp) r x
  apply wpAny_mono (ht.nox.run [] s1 (start N vs) H _ I hq)
  · rintro fl s2 hs
    cases fl with
    | ret u =>
      obtain ⟨v, σ2, H2, J, rv, q⟩ := hs
      exact ⟨v, H2, J.os, J.bare, J.base, J.hok, rv, q⟩
    | next =>
      obtain ⟨σ2, H2, J, q⟩ := hs
      exact ⟨V.non, H2, J.os, J.bare, J.base, J.hok, rfl, q⟩
    | brk =>
      obtain ⟨_, _, _, q⟩ := hs
      exact q.elim
    | cont =>
      obtain ⟨_, _, _, q⟩ := hs
      exact q.elim
  · exact fun e s2 z => z
end
/-! ### what a thing is, and how it is shown -/
/-- a thing of the law: its data -/
inductive Th (K : PySem.W.Frag) (H : Hp) : V → PyData → Prop
  | non : Th K H .non .none
  | bl (b : Bool) : Th K H (.bl b) (.bool b)
  | int (i : Int) : Th K H (.int i) (.int i)
  | str (x : Str) : Th K H (.str x) (.str x)
  | lst {a : Addr} {xs : List V} {ds : List PyData} : H a = some (.lst xs) → (∀ H1, DpAll K H1 xs ds) → PyData.hasDictAll ds = false → Th K H (.ref a) (.list ds)
  | tup {a : Addr} {xs : List V} {ds : List PyData} : H a = some (.tup xs) → (∀ H1, DpAll K H1 xs ds) → PyData.hasDictAll ds = false → Th K H (.ref a) (.tuple ds)
  | d0 {a : Addr} : H a = some (.dK []) → Th K H (.ref a) (.dict [])
  | d1 {a : Addr} {x : Str} {i : Int} : H a = some (.dK [(.inr x, .int i)]) → Th K H (.ref a) (.dict [(.str x, .int i)])
theorem Th.keep {K : PySem.W.Frag} {H H' : Hp} {v : V} {d : PyData} (h : Th K H v d) (k : ∀ a o, v = .ref a → H a = some o → H' a = some o) : Th K H' v d := by
  cases h with
  | non => exact .non
  | bl b => exact .bl b
  | int i => exact .int i
  | str x => exact .str x
  | lst e a n => exact .lst (k _ _ rfl e) a n
  | tup e a n => exact .tup (k _ _ rfl e) a n
  | d0 e => exact .d0 (k _ _ rfl e)
  | d1 e => exact .d1 (k _ _ rfl e)
/-- shown in little room -/
def Sho (d : PyData) : Prop := d.showable = true ∧ d.shown.length ≤ 60000 ∧ d.depth ≤ 5
theorem Sho.fits {d : PyData} (h : Sho d) : d.shown.length ≤ sizeLine := Nat.le_trans h.2.1 (by decide)
section
variable {X : Cx} {pins : List (Addr × Obj)} {σ : St} {H : Hp} {s : Shared}
theorem Th.reads (I : Inv X pins σ H s) {v : V} {d : PyData} {u : Value} (h : Th X.K H v d) (r : RelV v u) : ∃ as, Reads s.heap u d as ∧ (d.hasDict = true → sysModules ∉ as) := by
  cases h with
  | non => exact (Dp.reads I _ _ _ .non r).elim fun as q => ⟨as, q, fun z => by cases z⟩
  | bl b => exact (Dp.reads I _ _ _ (.bl b) r).elim fun as q => ⟨as, q, fun z => by cases z⟩
  | int i => exact (Dp.reads I _ _ _ (.int i) r).elim fun as q => ⟨as, q, fun z => by cases z⟩
  | str x => exact (Dp.reads I _ _ _ (.str x) r).elim fun as q => ⟨as, q, fun z => by cases z⟩
  | lst e a n => exact (Dp.reads I _ _ _ (.lst (SqL.of e) (a _)) r).elim fun as q => ⟨as, q, fun z => by rw [PyData.hasDict, n] at z; cases z⟩
  | tup e a n => exact (Dp.reads I _ _ _ (.tup (SqT.of e) (a _)) r).elim fun as q => ⟨as, q, fun z => by rw [PyData.hasDict, n] at z; cases z⟩
  | d0 e =>
    cases r
    obtain ⟨_, low, vs, kv, o, es, ep, ho, ex, hd, _, hp, _⟩ := I.hok _ _ e
    cases kv
    have hz : es.toList = [] := by
      generalize es.toList = l at hp
      cases hp
      rfl
    refine ⟨_, Reads.dict (as := []) (bs := []) ho ex.1 hd (by rw [hz]; exact .nil) (by rw [hz]; exact .nil), fun _ m => ?_⟩
    have := List.mem_singleton.mp m
    rw [this] at low
    simp at low
  | @d1 a0 x0 i0 e =>
    cases r
    obtain ⟨_, low, vs, kv, o, es, ep, ho, ex, hd, _, hp, _⟩ := I.hok _ _ e
    cases kv with
    | cons q1 q2 =>
      cases q2
      obtain ⟨k1, t, k2⟩ := q1
      obtain ⟨e1, z1, z2, hz⟩ : ∃ e1 : DictEntry, keyIs (.inr x0) e1.key = true ∧ e1.val = .int i0 t ∧ es.toList = [e1] := by
        generalize es.toList = l at hp
        cases hp with
        | cons a b c =>
          cases c
          refine ⟨_, ?_, b.trans k2, rfl⟩
          rw [← k1] at a
          exact a
      obtain ⟨x2, t2, y1, y2⟩ : ∃ x2 t2, (Sum.inr x0 : Key) = Sum.inr x2 ∧ e1.key = Value.str x2 t2 := by
        rcases keyIs_shape z1 with ⟨i, t, a, b⟩ | ⟨x, t, a, b⟩
        · cases a
        · exact ⟨x, t, a, b⟩
      cases y1
      refine ⟨_, Reads.dict (as := []) (bs := []) ho ex.1 hd (by rw [hz]; show ReadsAll _ [e1.key] _ _; rw [y2]; exact .cons (.str _ _) .nil) (by rw [hz]; show ReadsAll _ [e1.val] _ _; rw [z2]; exact .cons (.int _ _) .nil), fun _ m => ?_⟩
      have := List.mem_singleton.mp m
      rw [this] at low
      simp at low
/-- repr(x), where nothing is being shown -/
theorem call_reprD (gd : X.A.guards = some []) (un : X.A.units + 200 < cLine) : CallR X (.builtin "repr") (fun xs H Q => ∃ v d, xs = [v] ∧ Th X.K H v d ∧ Sho d ∧ Q (.str d.shown) H) := by
  rintro pins s σ H xs us Q I r ⟨v, d, rfl, th, sh, q⟩
  have s1 := sh.1
  have s2 := sh.fits
  have s3 := sh.2.2
  obtain ⟨u, rfl, ru⟩ := vals1 r
  obtain ⟨as, rd, hm⟩ := Th.reads I th ru
  cases rd with
  | none => exact PySem.P.repr_of_none ⟨.str _, H, I.tok _, ⟨_, rfl⟩, by simpa only [PyData.shown] using q⟩
  | bool b =>
    refine PySem.P.repr_of_bool ⟨.str _, H, I.tok _, ⟨_, rfl⟩, ?_⟩
    simp only [PyData.shown] at q
    cases b <;> exact q
  | int i t =>
    simp only [PyData.shown] at q
    exact PySem.P.repr_of_int (by simpa [PyData.showable] using s1) ⟨.str _, H, I.tok _, ⟨_, rfl⟩, q⟩
  | str x t =>
    simp only [PyData.shown] at q s2
    exact PySem.P.repr_of_str ⟨.str _, H, I.tok _, ⟨_, rfl⟩, q⟩ s2
  | list a b c e => exact repr_of_reads' (Reads.list a b c e) s1 hm gd (by omega) (fun _ _ z => z) (fun h' u tk k => ⟨.str _, H, I.kept k, ⟨_, rfl⟩, q⟩) s2
  | tuple a b c e => exact repr_of_reads' (Reads.tuple a b c e) s1 hm gd (by omega) (fun _ _ z => z) (fun h' u tk k => ⟨.str _, H, I.kept k, ⟨_, rfl⟩, q⟩) s2
  | dict a b c e g => exact repr_of_reads' (Reads.dict a b c e g) s1 hm gd (by omega) (fun _ _ z => z) (fun h' u tk k => ⟨.str _, H, I.kept k, ⟨_, rfl⟩, q⟩) s2
end
end K18
namespace K18
open PySem L2
/-! ### what a thing is to isinstance -/
def vB : V → Bool
  | .bl _ => true
  | _ => false
def vI : V → Bool
  | .bl _ => true
  | .int _ => true
  | _ => false
def vS : V → Bool
  | .str _ => true
  | _ => false
inductive Cl (K : PySem.W.Frag) (H : Hp) : V → Prop
  | non : Cl K H .non
  | bl (b : Bool) : Cl K H (.bl b)
  | int (i : Int) : Cl K H (.int i)
  | str (l : Tx) : l.length ≤ 4000 → Cl K H (tv l)
  | oth {a : Addr} {t : Value} : TyX K H (.ref a) t → PySem.W.kitOne K t (.type "bool") = some false → PySem.W.kitOne K t (.type "int") = some false → PySem.W.kitOne K t (.type "str") = some false → Cl K H (.ref a)
theorem Cl.kit {K : PySem.W.Frag} {H : Hp} {v : V} (h : Cl K H v) : ∃ t, TyX K H v t ∧ PySem.W.kitOne K t (.type "bool") = some (vB v) ∧ PySem.W.kitOne K t (.type "int") = some (vI v) ∧ PySem.W.kitOne K t (.type "str") = some (vS v) := by
  cases h with
  | non => exact ⟨_, .base .non, kit_ty (a := "NoneType") (b := "bool") (r := false) (by decide +kernel), kit_ty (a := "NoneType") (b := "int") (r := false) (by decide +kernel), kit_ty (a := "NoneType") (b := "str") (r := false) (by decide +kernel)⟩
  | bl b => exact ⟨_, .base (.bl b), kit_ty (a := "bool") (b := "bool") (r := true) (by decide +kernel), kit_ty (a := "bool") (b := "int") (r := true) (by decide +kernel), kit_ty (a := "bool") (b := "str") (r := false) (by decide +kernel)⟩
  | int i => exact ⟨_, .base (.int i), kit_ty (a := "int") (b := "bool") (r := false) (by decide +kernel), kit_ty (a := "int") (b := "int") (r := true) (by decide +kernel), kit_ty (a := "int") (b := "str") (r := false) (by decide +kernel)⟩
  | str l _ => exact ⟨_, .base (.str _), kit_ty (a := "str") (b := "bool") (r := false) (by decide +kernel), kit_ty (a := "str") (b := "int") (r := false) (by decide +kernel), kit_ty (a := "str") (b := "str") (r := true) (by decide +kernel)⟩
  | oth t b i s => exact ⟨_, t, b, i, s⟩
theorem Cl.text {K : PySem.W.Frag} {H : Hp} {v : V} (h : Cl K H v) (s : vS v = true) : ∃ l : Tx, v = tv l ∧ l.length ≤ 4000 := by
  cases h with
  | str l e => exact ⟨l, rfl, e⟩
  | _ => cases s
/-! ### names -/
def low (c : Nat) : Bool := decide (97 ≤ c) && decide (c ≤ 122)
def nmC (l : Tx) : Bool := decide (l.length ≤ 8) && (!decide (l = []) && l.all low)
def nameV : V → Bool
  | .str x => nmC x.cps.toList
  | _ => false
def abc : Tx := (Str.ofString "abcdefghijklmnopqrstuvwxyz").cps.toList
theorem abc_is : abc = (List.range 26).map (97 + ·) := by decide +kernel
theorem mem_abc (c : Nat) : decide (c ∈ (Str.ofString "abcdefghijklmnopqrstuvwxyz").cps.toList) = low c := by
  show decide (c ∈ abc) = _
  rw [abc_is]
  unfold low
  by_cases h : 97 ≤ c ∧ c ≤ 122
  · rw [decide_eq_true h.1, decide_eq_true h.2]
    refine decide_eq_true (List.mem_map.mpr ⟨c - 97, List.mem_range.mpr (by omega), by omega⟩)
  · have e : (decide (97 ≤ c) && decide (c ≤ 122)) = false := by
      by_cases a : 97 ≤ c
      · rw [decide_eq_false (show ¬ c ≤ 122 by omega)]; simp
      · rw [decide_eq_false a]; rfl
    rw [e]
    refine decide_eq_false fun z => h ?_
    obtain ⟨k, hk, rfl⟩ := List.mem_map.mp z
    have := List.mem_range.mp hk
    omega
theorem abc_all : abc.all low = true ∧ abc.length = 26 := by decide +kernel
theorem lit_nil : Str.ofString "" = txt [] := by decide +kernel
theorem lit_q : Str.ofString "'" = txt [39] := by decide +kernel
theorem tv_eq (a b : Tx) : decide ((tv a : V) = tv b) = decide (a = b) := by
  by_cases h : a = b
  · subst h; simp
  · rw [decide_eq_false h]
    exact decide_eq_false fun e => h (txt_inj (V.str.inj e))
theorem take_snoc {α : Type} {l : List α} {i : Nat} {x : α} (h : l[i]? = some x) : l.take (i + 1) = l.take i ++ [x] := by
  rw [List.take_succ, h, Option.toList_some]
/-- the built-in names -/
structure Zn (mg : Str → Option Value) : Prop where
  zIs : mg "isinstance" = none
  zBool : mg "bool" = none
  zInt : mg "int" = none
  zStr : mg "str" = none
  zAbs : mg "abs" = none
  zLen : mg "len" = none
  zAll : mg "all" = none
  zRepr : mg "repr" = none
section
variable {P : Program} {w : World} {K : PySem.W.Frag} {mg : Str → Option Value} {base : Heap}
/-- all([.. for a sign in a text]) of low signs -/
theorem all_low (l : Tx) : ((l.map low).take l.length).all id = l.all low := by
  rw [List.take_of_length_le (by rw [List.length_map]; exact Nat.le_refl _), List.all_map]
  rfl
/-! ### is_name -/
def spName (K : PySem.W.Frag) : Sp := fun vs H Q _ => ∃ v : V, vs = [v] ∧ Cl K H v ∧ ∀ H', Same H H' → Q (.bl (nameV v)) H'
theorem scNm : FnScope ["value", "letter"] ["value"] (defScope sIsName) := ⟨rfl, rfl, rfl, by decide +kernel, rfl, by decide +kernel, by decide +kernel⟩
theorem ok_name {f : Addr} {fd : FuncData} {tk t2 : Tok} (F : Fun K "is_name" "is_name" sIsName f fd) (Z : Zn mg) (mM : mg "MOST_LETTERS" = some (.int 8 tk)) (mL : mg "LETTERS" = some (.str "abcdefghijklmnopqrstuvwxyz" t2)) : FnOk P w K mg base CX0 1 f fd ["value"] (spName K) := by
  refine F.ok scNm (fun vs H Q E h => ?_) (fun cdv A outer_ s H vs Q E hr h => ?_)
  · obtain ⟨v, rfl, _⟩ := h
    rfl
  · obtain ⟨v, rfl, cl, k⟩ := h
    refine ⟨_, pss_cons (ps_if (PW.pt (pw_or (pt_not (pt_val (pe_callB call_isi (by rfl) Z.zIs (by decide +kernel) (pa_cons (pv 0) (pa_cons (pe_bltn (v := .ty "str") (u := .type "str") (by rfl) Z.zStr (by decide +kernel) rfl) pa_nil)))))
          (pw_or1 (pt_cmpR op_gt (pe_callB call_len_str (by rfl) Z.zLen PySem.boot_len (pa_cons (pv 0) pa_nil)) (pe_glob (v := .int 8) rfl mM ⟨_, rfl⟩) (nomark _))))) (pss_one (ps_ret pe_bl)) pss_nil)
      (pss_one (ps_ret (pe_and (pe_cmpR op_ne (pv 0) pe_str (nomark _)) (pe_one (pe_callB (cr_all rfl) (by rfl) Z.zAll (by decide +kernel) (pa_cons (pe_lc (own := [("letter", 1)]) (g := gName 1) (tt := tYes) rfl scNm.nd (pi_str (pv 0))
        (blkOk_by (N := ["value", "letter"]) (sc := defScope sIsName) (by decide +kernel)) (fun _ _ _ _ _ => pg_name (i := 1) scNm.nd rfl (Or.inl rfl)) (fun _ _ _ _ _ => pts_nil)
        (fun _ _ _ _ _ => pe_cmpR op_in_sign (pv 1) (pe_glob (v := .str "abcdefghijklmnopqrstuvwxyz") rfl mL ⟨_, rfl⟩) (by rfl))) pa_nil)))))), ?_⟩
    obtain ⟨t, ty, kb, ki, ks⟩ := cl.kit
    refine ⟨_, rfl, v, .ty "str", t, .type "str", vS v, rfl, .ty _, ty, ks, _, rfl, ?_⟩
    by_cases hs : vS v = true
    · obtain ⟨l, rfl, hl⟩ := cl.text hs
      have hline : (txt l).length ≤ sizeLine := by rw [txt_len, sizeLine_eq]; omega
      rw [hs]
      refine ⟨_, rfl, _, rfl, hline, _, _, rfl, rfl, _, rfl, ?_⟩
      rw [txt_len]
      have nm : nameV (tv l) = nmC l := rfl
      refine ite2 (fun h1 => ?_) (fun h1 => ?_)
      · have e : nmC l = false := by
          unfold nmC
          rw [decide_eq_false (show ¬ l.length ≤ 8 by have := of_decide_eq_true h1; omega)]
          rfl
        have z := k H (Same.refl H)
        rw [nm, e] at z
        exact z
      have l8 : l.length ≤ 8 := by
        have : ¬ ((l.length : Int) > 8) := fun z => h1 (decide_eq_true z)
        omega
      rw [lit_nil]
      refine ⟨_, rfl, rfl, _, rfl, ?_⟩
      rw [tv_eq]
      by_cases h2 : l = []
      · subst h2
        exact k H (Same.refl H)
      rw [decide_eq_false h2]
      refine ⟨_, rfl, _, rfl, fun D hD => ?_⟩
      refine lc_it (walk_str (z := txt l)) (fun i H' => Same H H' ∧ H' D = some (.lst (((l.map low).take i).map V.bl))) ⟨same_upd hD, upd_same⟩ (fun _ _ _ _ => trivial) ?_ ?_
      · rintro i x H1 H2 hi ⟨sm, hL⟩ ⟨rfl, c, hc, rfl⟩
        have hc' : l[i]? = some c := by
          have z : l.toArray[i]? = some c := hc
          simpa using z
        refine ⟨rfl, _, rfl, c, _, rfl, rfl, _, hL, ?_, fun b o q => ?_, ?_⟩
        · rw [List.length_map, List.length_take, List.length_map, sizeLine_eq]
          omega
        · rw [upd_ne (ne_of_none q hD)]
          exact sm b o q
        · rw [upd_same, take_snoc (x := low c) (by rw [List.getElem?_map, hc']; rfl), List.map_append, mem_abc]
          rfl
      · rintro H1 ⟨sm, hL⟩
        refine ⟨D, _, rfl, SqL.of hL, ?_⟩
        have e : ((l.map low).take (txt l).cps.size).all id = nmC l := by
          rw [show (txt l).cps.size = l.length from txt_len l, all_low]
          unfold nmC
          rw [decide_eq_true l8, decide_eq_false h2]
          rfl
        rw [e]
        exact k H1 sm
    · have hs' : vS v = false := by simpa using hs
      rw [hs']
      have e : nameV v = false := by cases v <;> first | rfl | cases hs'
      have z := k H (Same.refl H)
      rw [e] at z
      exact z
end
end K18
namespace K18
open PySem L2 OwE
/-! ### own exceptions: raised, told -/
/-- the exception leaves with these in its fields -/
def BadO (ns : List Str) (C : Addr) (H : Hp) (ws : List V) (E : XK) : Prop := ∀ (H' : Hp) (d t : Addr), Same H H' → H d = none → H' d = some (.xd (("_told", .ref t) :: (ns.zip ws).reverse)) → H' t = some (.tup ws) → E (.ref C) (some d) H'
theorem badO_of {ns : List Str} {C : Addr} {H H0 : Hp} {ws : List V} {E : XK} (s : Same H H0) (b : BadO ns C H ws E) : BadO ns C H0 ws E := fun H' d t s' hd e1 e2 => b H' d t (s.trans s') (s.free hd) e1 e2
theorem mkO {ns : List Str} {C : Addr} {E : XK} (H0 : Hp) (ws : List V) (l : ws.length = ns.length) (hl : ws.length ≤ 1000) (hb : BadO ns C H0 ws E) : ws.length ≤ 1000 ∧ ∀ a, H0 a = none → spO ns C (.ref a :: (ws ++ [])) (upd H0 a (exo a C none))
    (fun u H2 => u = .non ∧ ∃ (d : Addr) (fs : List (Str × V)), H2 a = some (exo a C (some d)) ∧ H2 d = some (exd d fs) ∧ H0 d = none ∧ E (.ref C) (some d) (upd (del H2 a) d (.xd fs))) (fun _ _ _ => False) := by
  refine ⟨hl, fun a ha => ⟨a, ws, by rw [List.append_nil], l, upd_same, fun H2 d t hd hne he1 he2 ht hs => ⟨rfl, d, _, he1, he2, ?_, ?_⟩⟩⟩
  · rw [upd_ne hne] at hd
    exact hd
  · rw [upd_ne hne] at hd
    have ta : t ≠ a := fun z => by
      rw [z, he1] at ht
      cases ht
    have td : t ≠ d := fun z => by
      rw [z, he2] at ht
      cases ht
    refine hb _ d t (fun b o e => ?_) hd upd_same (by rw [upd_ne td, del_ne ta]; exact ht)
    have nb : b ≠ a := ne_of_none e ha
    have nd : b ≠ d := fun z => by
      rw [z] at e
      rw [e] at hd
      cases hd
    rw [upd_ne nd, del_ne nb]
    exact hs b o nb (by rw [upd_ne nb]; exact e)
/-! ### told_error -/
theorem catT2 {H : Hp} {a b : Addr} {xs ys : List V} {Q : VK} (h1 : H a = some (.tup xs)) (h2 : H b = some (.tup ys)) (l : xs.length + ys.length ≤ sizeLine) (k : ∀ H' p, Same H H' → H' p = some (.tup (xs ++ ys)) → Q (.ref p) H') : rCatA K (.ref a) (.ref b) H Q := by
  refine ⟨a, b, xs, ys, rfl, rfl, SqT.of h1, SqT.of h2, l, fun e => ?_, fun _ e => ?_, fun _ _ p hp => k _ p (same_upd hp) upd_same⟩
  · exact k H b (Same.refl H) (by rw [e]; exact h2)
  · exact k H a (Same.refl H) (by rw [e, List.append_nil]; exact h1)
section
variable {P : Program} {w : World} {K : PySem.W.Frag} {mg : Str → Option Value} {base : Heap}
/-- what is read off a class of exceptions -/
structure TeC (K : PySem.W.Frag) (C : Addr) (cn : Str) : Prop where
  x : ExcC K C
  n : ∃ tk, ClN.Nmd K C (.str cn tk)
  t : PySem.W.findIn K (.ref C) "_told" = some none
def spTe (K : PySem.W.Frag) : Sp := fun vs H Q _ => ∃ (a C dd t : Addr) (cn : Str) (fs : List (Str × V)) (ws : List V), vs = [.ref a] ∧ ClN.ExAt H a C dd fs ∧ TeC K C cn ∧ List.lookup ("_told" : Str) fs = some (V.ref t) ∧ H t = some (.tup ws) ∧ ws.length ≤ 3 ∧
  ∀ H' p, Same H H' → H' p = some (.tup (.str cn :: ws)) → Q (.ref p) H'
theorem ok_te {f : Addr} {fd : FuncData} (F : Fun K "told_error" "told_error" sTold f fd) : FnOk P w K mg base CX0 1 f fd ["error"] (spTe K) := by
  refine F.ok (N := ["error"]) ⟨rfl, rfl, rfl, by decide +kernel, rfl, by decide +kernel, by decide +kernel⟩ (fun vs H Q E h => ?_) (fun cdv A outer_ s H vs Q E hr h => ?_)
  · obtain ⟨a, C, dd, t, cn, fs, ws, rfl, _⟩ := h
    rfl
  · obtain ⟨a, C, dd, t, cn, fs, ws, rfl, ex, T, lt, ht, l3, k⟩ := h
    refine ⟨_, pss_one (ps_ret (pe_op op_catA (pe_tup (pa_cons (ClN.pe_cname (ClN.pe_ecls (pv 0))) pa_nil)) (ClN.pe_efld (pv 0)))), ?_⟩
    obtain ⟨tk, N⟩ := T.n
    refine ⟨_, rfl, a, C, dd, fs, rfl, ex, T.x, C, cn, tk, rfl, N, ?_⟩
    refine ⟨by show 1 ≤ sizeLine; decide, fun p hp => ?_⟩
    have s1 := same_upd (o := HO.tup [V.str cn]) hp
    refine ⟨_, rfl, a, C, dd, fs, .ref t, rfl, ex.same s1, ClN.xfC T.x, T.t, lt, ?_⟩
    refine catT2 (xs := [V.str cn]) (ys := ws) upd_same (s1 _ _ ht) (Nat.le_trans (show 1 + ws.length ≤ 4 by omega) (by decide)) fun H' q s2 hq => ?_
    exact k H' q (s1.trans s2) hq
end
end K18
namespace K18
open PySem L2 OwE
/-! ### the 42 classes -/
/-- a class's name, its fields, what it stands below, its row in the top -/
structure Cl4 where
  n : Str
  ns : List Str
  fa : Fa
  at_ : Nat
def cls4 : List Cl4 := [⟨"InvalidName", ["value"], .val, 4⟩, ⟨"InvalidLabel", ["value"], .val, 5⟩, ⟨"InvalidText", ["problem"], .val, 6⟩, ⟨"InvalidRow", ["value"], .val, 7⟩, ⟨"InvalidKey", ["value"], .val, 8⟩, ⟨"InvalidColumns", ["position"], .val, 9⟩, ⟨"InvalidRule", ["rule"], .val, 10⟩, ⟨"InvalidSource", ["value"], .val, 11⟩, ⟨"InvalidEntry", ["value"], .val, 12⟩, ⟨"InvalidCount", ["value"], .val, 13⟩, ⟨"InvalidCommand", ["value"], .val, 14⟩, ⟨"InvalidLine", ["value"], .val, 15⟩, ⟨"InvalidEvent", ["value"], .val, 16⟩, ⟨"WrongValues", ["wrong"], .val, 17⟩, ⟨"WrongSort", ["place"], .val, 18⟩, ⟨"UnknownSource", ["source"], .look, 20⟩, ⟨"UnknownColumn", ["column"], .look, 21⟩, ⟨"UnknownKind", ["kind"], .look, 22⟩, ⟨"UnknownEntry", ["name"], .look, 23⟩, ⟨"NoEntry", ["key"], .look, 24⟩, ⟨"NoRow", ["key"], .look, 25⟩, ⟨"NoMemo", ["view"], .look, 26⟩, ⟨"UnknownUser", ["name"], .look, 27⟩, ⟨"UnknownOffer", ["number"], .look, 28⟩, ⟨"NameTaken", ["name"], .run, 30⟩, ⟨"Taken", ["key"], .run, 31⟩, ⟨"Waiting", ["key"], .run, 32⟩, ⟨"Missing", ["reference", "key"], .run, 33⟩, ⟨"Broken", ["check", "key"], .run, 34⟩, ⟨"Restricted", ["reference", "key"], .run, 35⟩, ⟨"InUse", ["kind", "name"], .run, 36⟩, ⟨"WouldSuspend", ["source", "key"], .run, 37⟩, ⟨"ReplayDiffers", ["position", "was", "now"], .run, 38⟩, ⟨"InTransaction", ["session"], .run, 39⟩, ⟨"NoTransaction", ["session"], .run, 40⟩, ⟨"SessionEnded", ["session"], .run, 41⟩, ⟨"OwnOffer", ["number"], .run, 42⟩, ⟨"NotAllowed", ["mark"], .run, 43⟩, ⟨"OutOfSequence", ["number"], .run, 44⟩, ⟨"Behind", ["cut"], .run, 45⟩, ⟨"TooMany", ["kind", "limit"], .arith, 47⟩, ⟨"TooDear", ["limit"], .arith, 48⟩]
def cl4 (k : Nat) : Cl4 := cls4.getD k ⟨"", [], .val, 0⟩
def argsOf (k : Nat) (a b c : V) : List V := [a, b, c].take (cl4 k).ns.length
theorem sh_0 : Sh1 (inClass (top 4) 0) "value" := ⟨⟨_, _, _, _, _, _, _, _, _, _, rfl⟩, ⟨rfl, rfl, rfl, by decide +kernel, rfl, by decide +kernel, by decide +kernel⟩, by decide +kernel⟩
theorem sh_1 : Sh1 (inClass (top 5) 0) "value" := ⟨⟨_, _, _, _, _, _, _, _, _, _, rfl⟩, ⟨rfl, rfl, rfl, by decide +kernel, rfl, by decide +kernel, by decide +kernel⟩, by decide +kernel⟩
theorem sh_2 : Sh1 (inClass (top 6) 0) "problem" := ⟨⟨_, _, _, _, _, _, _, _, _, _, rfl⟩, ⟨rfl, rfl, rfl, by decide +kernel, rfl, by decide +kernel, by decide +kernel⟩, by decide +kernel⟩
theorem sh_3 : Sh1 (inClass (top 7) 0) "value" := ⟨⟨_, _, _, _, _, _, _, _, _, _, rfl⟩, ⟨rfl, rfl, rfl, by decide +kernel, rfl, by decide +kernel, by decide +kernel⟩, by decide +kernel⟩
theorem sh_4 : Sh1 (inClass (top 8) 0) "value" := ⟨⟨_, _, _, _, _, _, _, _, _, _, rfl⟩, ⟨rfl, rfl, rfl, by decide +kernel, rfl, by decide +kernel, by decide +kernel⟩, by decide +kernel⟩
theorem sh_5 : Sh1 (inClass (top 9) 0) "position" := ⟨⟨_, _, _, _, _, _, _, _, _, _, rfl⟩, ⟨rfl, rfl, rfl, by decide +kernel, rfl, by decide +kernel, by decide +kernel⟩, by decide +kernel⟩
theorem sh_6 : Sh1 (inClass (top 10) 0) "rule" := ⟨⟨_, _, _, _, _, _, _, _, _, _, rfl⟩, ⟨rfl, rfl, rfl, by decide +kernel, rfl, by decide +kernel, by decide +kernel⟩, by decide +kernel⟩
theorem sh_7 : Sh1 (inClass (top 11) 0) "value" := ⟨⟨_, _, _, _, _, _, _, _, _, _, rfl⟩, ⟨rfl, rfl, rfl, by decide +kernel, rfl, by decide +kernel, by decide +kernel⟩, by decide +kernel⟩
theorem sh_8 : Sh1 (inClass (top 12) 0) "value" := ⟨⟨_, _, _, _, _, _, _, _, _, _, rfl⟩, ⟨rfl, rfl, rfl, by decide +kernel, rfl, by decide +kernel, by decide +kernel⟩, by decide +kernel⟩
theorem sh_9 : Sh1 (inClass (top 13) 0) "value" := ⟨⟨_, _, _, _, _, _, _, _, _, _, rfl⟩, ⟨rfl, rfl, rfl, by decide +kernel, rfl, by decide +kernel, by decide +kernel⟩, by decide +kernel⟩
theorem sh_10 : Sh1 (inClass (top 14) 0) "value" := ⟨⟨_, _, _, _, _, _, _, _, _, _, rfl⟩, ⟨rfl, rfl, rfl, by decide +kernel, rfl, by decide +kernel, by decide +kernel⟩, by decide +kernel⟩
theorem sh_11 : Sh1 (inClass (top 15) 0) "value" := ⟨⟨_, _, _, _, _, _, _, _, _, _, rfl⟩, ⟨rfl, rfl, rfl, by decide +kernel, rfl, by decide +kernel, by decide +kernel⟩, by decide +kernel⟩
theorem sh_12 : Sh1 (inClass (top 16) 0) "value" := ⟨⟨_, _, _, _, _, _, _, _, _, _, rfl⟩, ⟨rfl, rfl, rfl, by decide +kernel, rfl, by decide +kernel, by decide +kernel⟩, by decide +kernel⟩
theorem sh_13 : Sh1 (inClass (top 17) 0) "wrong" := ⟨⟨_, _, _, _, _, _, _, _, _, _, rfl⟩, ⟨rfl, rfl, rfl, by decide +kernel, rfl, by decide +kernel, by decide +kernel⟩, by decide +kernel⟩
theorem sh_14 : Sh1 (inClass (top 18) 0) "place" := ⟨⟨_, _, _, _, _, _, _, _, _, _, rfl⟩, ⟨rfl, rfl, rfl, by decide +kernel, rfl, by decide +kernel, by decide +kernel⟩, by decide +kernel⟩
theorem sh_15 : Sh1 (inClass (top 20) 0) "source" := ⟨⟨_, _, _, _, _, _, _, _, _, _, rfl⟩, ⟨rfl, rfl, rfl, by decide +kernel, rfl, by decide +kernel, by decide +kernel⟩, by decide +kernel⟩
theorem sh_16 : Sh1 (inClass (top 21) 0) "column" := ⟨⟨_, _, _, _, _, _, _, _, _, _, rfl⟩, ⟨rfl, rfl, rfl, by decide +kernel, rfl, by decide +kernel, by decide +kernel⟩, by decide +kernel⟩
theorem sh_17 : Sh1 (inClass (top 22) 0) "kind" := ⟨⟨_, _, _, _, _, _, _, _, _, _, rfl⟩, ⟨rfl, rfl, rfl, by decide +kernel, rfl, by decide +kernel, by decide +kernel⟩, by decide +kernel⟩
theorem sh_18 : Sh1 (inClass (top 23) 0) "name" := ⟨⟨_, _, _, _, _, _, _, _, _, _, rfl⟩, ⟨rfl, rfl, rfl, by decide +kernel, rfl, by decide +kernel, by decide +kernel⟩, by decide +kernel⟩
theorem sh_19 : Sh1 (inClass (top 24) 0) "key" := ⟨⟨_, _, _, _, _, _, _, _, _, _, rfl⟩, ⟨rfl, rfl, rfl, by decide +kernel, rfl, by decide +kernel, by decide +kernel⟩, by decide +kernel⟩
theorem sh_20 : Sh1 (inClass (top 25) 0) "key" := ⟨⟨_, _, _, _, _, _, _, _, _, _, rfl⟩, ⟨rfl, rfl, rfl, by decide +kernel, rfl, by decide +kernel, by decide +kernel⟩, by decide +kernel⟩
theorem sh_21 : Sh1 (inClass (top 26) 0) "view" := ⟨⟨_, _, _, _, _, _, _, _, _, _, rfl⟩, ⟨rfl, rfl, rfl, by decide +kernel, rfl, by decide +kernel, by decide +kernel⟩, by decide +kernel⟩
theorem sh_22 : Sh1 (inClass (top 27) 0) "name" := ⟨⟨_, _, _, _, _, _, _, _, _, _, rfl⟩, ⟨rfl, rfl, rfl, by decide +kernel, rfl, by decide +kernel, by decide +kernel⟩, by decide +kernel⟩
theorem sh_23 : Sh1 (inClass (top 28) 0) "number" := ⟨⟨_, _, _, _, _, _, _, _, _, _, rfl⟩, ⟨rfl, rfl, rfl, by decide +kernel, rfl, by decide +kernel, by decide +kernel⟩, by decide +kernel⟩
theorem sh_24 : Sh1 (inClass (top 30) 0) "name" := ⟨⟨_, _, _, _, _, _, _, _, _, _, rfl⟩, ⟨rfl, rfl, rfl, by decide +kernel, rfl, by decide +kernel, by decide +kernel⟩, by decide +kernel⟩
theorem sh_25 : Sh1 (inClass (top 31) 0) "key" := ⟨⟨_, _, _, _, _, _, _, _, _, _, rfl⟩, ⟨rfl, rfl, rfl, by decide +kernel, rfl, by decide +kernel, by decide +kernel⟩, by decide +kernel⟩
theorem sh_26 : Sh1 (inClass (top 32) 0) "key" := ⟨⟨_, _, _, _, _, _, _, _, _, _, rfl⟩, ⟨rfl, rfl, rfl, by decide +kernel, rfl, by decide +kernel, by decide +kernel⟩, by decide +kernel⟩
theorem sh_27 : Sh2 (inClass (top 33) 0) "reference" "key" := ⟨⟨_, _, _, _, _, _, _, _, _, _, _, _, _, _, _, rfl⟩, ⟨rfl, rfl, rfl, by decide +kernel, rfl, by decide +kernel, by decide +kernel⟩, by decide +kernel⟩
theorem sh_28 : Sh2 (inClass (top 34) 0) "check" "key" := ⟨⟨_, _, _, _, _, _, _, _, _, _, _, _, _, _, _, rfl⟩, ⟨rfl, rfl, rfl, by decide +kernel, rfl, by decide +kernel, by decide +kernel⟩, by decide +kernel⟩
theorem sh_29 : Sh2 (inClass (top 35) 0) "reference" "key" := ⟨⟨_, _, _, _, _, _, _, _, _, _, _, _, _, _, _, rfl⟩, ⟨rfl, rfl, rfl, by decide +kernel, rfl, by decide +kernel, by decide +kernel⟩, by decide +kernel⟩
theorem sh_30 : Sh2 (inClass (top 36) 0) "kind" "name" := ⟨⟨_, _, _, _, _, _, _, _, _, _, _, _, _, _, _, rfl⟩, ⟨rfl, rfl, rfl, by decide +kernel, rfl, by decide +kernel, by decide +kernel⟩, by decide +kernel⟩
theorem sh_31 : Sh2 (inClass (top 37) 0) "source" "key" := ⟨⟨_, _, _, _, _, _, _, _, _, _, _, _, _, _, _, rfl⟩, ⟨rfl, rfl, rfl, by decide +kernel, rfl, by decide +kernel, by decide +kernel⟩, by decide +kernel⟩
theorem sh_32 : Sh3 (inClass (top 38) 0) "position" "was" "now" := ⟨⟨_, _, _, _, _, _, _, _, _, _, _, _, _, _, _, _, _, _, _, _, rfl⟩, ⟨rfl, rfl, rfl, by decide +kernel, rfl, by decide +kernel, by decide +kernel⟩, by decide +kernel⟩
theorem sh_33 : Sh1 (inClass (top 39) 0) "session" := ⟨⟨_, _, _, _, _, _, _, _, _, _, rfl⟩, ⟨rfl, rfl, rfl, by decide +kernel, rfl, by decide +kernel, by decide +kernel⟩, by decide +kernel⟩
theorem sh_34 : Sh1 (inClass (top 40) 0) "session" := ⟨⟨_, _, _, _, _, _, _, _, _, _, rfl⟩, ⟨rfl, rfl, rfl, by decide +kernel, rfl, by decide +kernel, by decide +kernel⟩, by decide +kernel⟩
theorem sh_35 : Sh1 (inClass (top 41) 0) "session" := ⟨⟨_, _, _, _, _, _, _, _, _, _, rfl⟩, ⟨rfl, rfl, rfl, by decide +kernel, rfl, by decide +kernel, by decide +kernel⟩, by decide +kernel⟩
theorem sh_36 : Sh1 (inClass (top 42) 0) "number" := ⟨⟨_, _, _, _, _, _, _, _, _, _, rfl⟩, ⟨rfl, rfl, rfl, by decide +kernel, rfl, by decide +kernel, by decide +kernel⟩, by decide +kernel⟩
theorem sh_37 : Sh1 (inClass (top 43) 0) "mark" := ⟨⟨_, _, _, _, _, _, _, _, _, _, rfl⟩, ⟨rfl, rfl, rfl, by decide +kernel, rfl, by decide +kernel, by decide +kernel⟩, by decide +kernel⟩
theorem sh_38 : Sh1 (inClass (top 44) 0) "number" := ⟨⟨_, _, _, _, _, _, _, _, _, _, rfl⟩, ⟨rfl, rfl, rfl, by decide +kernel, rfl, by decide +kernel, by decide +kernel⟩, by decide +kernel⟩
theorem sh_39 : Sh1 (inClass (top 45) 0) "cut" := ⟨⟨_, _, _, _, _, _, _, _, _, _, rfl⟩, ⟨rfl, rfl, rfl, by decide +kernel, rfl, by decide +kernel, by decide +kernel⟩, by decide +kernel⟩
theorem sh_40 : Sh2 (inClass (top 47) 0) "kind" "limit" := ⟨⟨_, _, _, _, _, _, _, _, _, _, _, _, _, _, _, rfl⟩, ⟨rfl, rfl, rfl, by decide +kernel, rfl, by decide +kernel, by decide +kernel⟩, by decide +kernel⟩
theorem sh_41 : Sh1 (inClass (top 48) 0) "limit" := ⟨⟨_, _, _, _, _, _, _, _, _, _, rfl⟩, ⟨rfl, rfl, rfl, by decide +kernel, rfl, by decide +kernel, by decide +kernel⟩, by decide +kernel⟩
section
variable {P : Program} {w : World} {K : PySem.W.Frag} {mg : Str → Option Value} {base : Heap}
/-- what the text has of the 42 -/
structure C42 (K : PySem.W.Frag) (mg : Str → Option Value) (C f : Nat → Addr) (d : Nat → FuncData) : Prop where
  own : ∀ k, k < 42 → Own K mg (cl4 k).fa (cl4 k).n (cl4 k).ns (inClass (top (cl4 k).at_) 0) (C k) (f k) (d k)
variable {C f : Nat → Addr} {d : Nat → FuncData}
/-- an exception of the k-th class, made with these -/
structure Made (C : Nat → Addr) (k : Nat) (ws : List V) (H : Hp) (x : Addr) : Prop where
  e : ∃ dd t, ClN.ExAt H x (C k) dd (("_told", .ref t) :: ((cl4 k).ns.zip ws).reverse) ∧ H t = some (.tup ws)
theorem Made.same {k : Nat} {ws : List V} {H G : Hp} {x : Addr} (m : Made C k ws H x) (s : Same H G) : Made C k ws G x := let ⟨dd, t, a, b⟩ := m.e; ⟨dd, t, a.same s, s _ _ b⟩
/-- one of these is made -/
def spMk4 (C : Nat → Addr) (lo hi : Nat) : Sp := fun vs H Q _ => ∃ (k : Nat) (a b c : V), vs = [.int (k : Int), a, b, c] ∧ lo ≤ k ∧ k < hi ∧ ∀ H' x, Same H H' → H x = none → Made C k (argsOf k a b c) H' x → Q (.ref x) H'
theorem mk4 {C : Nat → Addr} {k : Nat} {ws : List V} {H : Hp} {Q : VK} (l : ws.length = (cl4 k).ns.length) (h : ∀ H' x, Same H H' → H x = none → Made C k ws H' x → Q (.ref x) H') :
    ∀ x, H x = none → spO (cl4 k).ns (C k) (.ref x :: ws) (upd H x (exo x (C k) none)) (fun v H2 => v = .non ∧ Q (.ref x) H2) E0 := by
  intro x hx
  refine ⟨x, ws, rfl, l, upd_same, fun H' dd t hd hne ea ed ht kp => ⟨rfl, h H' x (fun b o e => ?_) hx ⟨dd, t, ClN.ExAt.made ea ed, ht⟩⟩⟩
  have nb : b ≠ x := ne_of_none e hx
  exact kp b o nb (by rw [upd_ne nb]; exact e)
theorem in_0 (T : C42 K mg C f d) : FnOk P w K mg base CX0 1 (f 0) (d 0) ["self", "value"] (spO ["value"] (C 0)) := ok1 (T.own 0 (by decide)) sh_0
theorem in_1 (T : C42 K mg C f d) : FnOk P w K mg base CX0 1 (f 1) (d 1) ["self", "value"] (spO ["value"] (C 1)) := ok1 (T.own 1 (by decide)) sh_1
theorem in_2 (T : C42 K mg C f d) : FnOk P w K mg base CX0 1 (f 2) (d 2) ["self", "problem"] (spO ["problem"] (C 2)) := ok1 (T.own 2 (by decide)) sh_2
theorem in_3 (T : C42 K mg C f d) : FnOk P w K mg base CX0 1 (f 3) (d 3) ["self", "value"] (spO ["value"] (C 3)) := ok1 (T.own 3 (by decide)) sh_3
theorem in_4 (T : C42 K mg C f d) : FnOk P w K mg base CX0 1 (f 4) (d 4) ["self", "value"] (spO ["value"] (C 4)) := ok1 (T.own 4 (by decide)) sh_4
theorem in_5 (T : C42 K mg C f d) : FnOk P w K mg base CX0 1 (f 5) (d 5) ["self", "position"] (spO ["position"] (C 5)) := ok1 (T.own 5 (by decide)) sh_5
theorem in_6 (T : C42 K mg C f d) : FnOk P w K mg base CX0 1 (f 6) (d 6) ["self", "rule"] (spO ["rule"] (C 6)) := ok1 (T.own 6 (by decide)) sh_6
theorem in_7 (T : C42 K mg C f d) : FnOk P w K mg base CX0 1 (f 7) (d 7) ["self", "value"] (spO ["value"] (C 7)) := ok1 (T.own 7 (by decide)) sh_7
theorem in_8 (T : C42 K mg C f d) : FnOk P w K mg base CX0 1 (f 8) (d 8) ["self", "value"] (spO ["value"] (C 8)) := ok1 (T.own 8 (by decide)) sh_8
theorem in_9 (T : C42 K mg C f d) : FnOk P w K mg base CX0 1 (f 9) (d 9) ["self", "value"] (spO ["value"] (C 9)) := ok1 (T.own 9 (by decide)) sh_9
theorem in_10 (T : C42 K mg C f d) : FnOk P w K mg base CX0 1 (f 10) (d 10) ["self", "value"] (spO ["value"] (C 10)) := ok1 (T.own 10 (by decide)) sh_10
theorem in_11 (T : C42 K mg C f d) : FnOk P w K mg base CX0 1 (f 11) (d 11) ["self", "value"] (spO ["value"] (C 11)) := ok1 (T.own 11 (by decide)) sh_11
theorem in_12 (T : C42 K mg C f d) : FnOk P w K mg base CX0 1 (f 12) (d 12) ["self", "value"] (spO ["value"] (C 12)) := ok1 (T.own 12 (by decide)) sh_12
theorem in_13 (T : C42 K mg C f d) : FnOk P w K mg base CX0 1 (f 13) (d 13) ["self", "wrong"] (spO ["wrong"] (C 13)) := ok1 (T.own 13 (by decide)) sh_13
theorem in_14 (T : C42 K mg C f d) : FnOk P w K mg base CX0 1 (f 14) (d 14) ["self", "place"] (spO ["place"] (C 14)) := ok1 (T.own 14 (by decide)) sh_14
theorem in_15 (T : C42 K mg C f d) : FnOk P w K mg base CX0 1 (f 15) (d 15) ["self", "source"] (spO ["source"] (C 15)) := ok1 (T.own 15 (by decide)) sh_15
theorem in_16 (T : C42 K mg C f d) : FnOk P w K mg base CX0 1 (f 16) (d 16) ["self", "column"] (spO ["column"] (C 16)) := ok1 (T.own 16 (by decide)) sh_16
theorem in_17 (T : C42 K mg C f d) : FnOk P w K mg base CX0 1 (f 17) (d 17) ["self", "kind"] (spO ["kind"] (C 17)) := ok1 (T.own 17 (by decide)) sh_17
theorem in_18 (T : C42 K mg C f d) : FnOk P w K mg base CX0 1 (f 18) (d 18) ["self", "name"] (spO ["name"] (C 18)) := ok1 (T.own 18 (by decide)) sh_18
theorem in_19 (T : C42 K mg C f d) : FnOk P w K mg base CX0 1 (f 19) (d 19) ["self", "key"] (spO ["key"] (C 19)) := ok1 (T.own 19 (by decide)) sh_19
theorem in_20 (T : C42 K mg C f d) : FnOk P w K mg base CX0 1 (f 20) (d 20) ["self", "key"] (spO ["key"] (C 20)) := ok1 (T.own 20 (by decide)) sh_20
theorem in_21 (T : C42 K mg C f d) : FnOk P w K mg base CX0 1 (f 21) (d 21) ["self", "view"] (spO ["view"] (C 21)) := ok1 (T.own 21 (by decide)) sh_21
theorem in_22 (T : C42 K mg C f d) : FnOk P w K mg base CX0 1 (f 22) (d 22) ["self", "name"] (spO ["name"] (C 22)) := ok1 (T.own 22 (by decide)) sh_22
theorem in_23 (T : C42 K mg C f d) : FnOk P w K mg base CX0 1 (f 23) (d 23) ["self", "number"] (spO ["number"] (C 23)) := ok1 (T.own 23 (by decide)) sh_23
theorem in_24 (T : C42 K mg C f d) : FnOk P w K mg base CX0 1 (f 24) (d 24) ["self", "name"] (spO ["name"] (C 24)) := ok1 (T.own 24 (by decide)) sh_24
theorem in_25 (T : C42 K mg C f d) : FnOk P w K mg base CX0 1 (f 25) (d 25) ["self", "key"] (spO ["key"] (C 25)) := ok1 (T.own 25 (by decide)) sh_25
theorem in_26 (T : C42 K mg C f d) : FnOk P w K mg base CX0 1 (f 26) (d 26) ["self", "key"] (spO ["key"] (C 26)) := ok1 (T.own 26 (by decide)) sh_26
theorem in_27 (T : C42 K mg C f d) : FnOk P w K mg base CX0 1 (f 27) (d 27) ["self", "reference", "key"] (spO ["reference", "key"] (C 27)) := ok2 (T.own 27 (by decide)) sh_27
theorem in_28 (T : C42 K mg C f d) : FnOk P w K mg base CX0 1 (f 28) (d 28) ["self", "check", "key"] (spO ["check", "key"] (C 28)) := ok2 (T.own 28 (by decide)) sh_28
theorem in_29 (T : C42 K mg C f d) : FnOk P w K mg base CX0 1 (f 29) (d 29) ["self", "reference", "key"] (spO ["reference", "key"] (C 29)) := ok2 (T.own 29 (by decide)) sh_29
theorem in_30 (T : C42 K mg C f d) : FnOk P w K mg base CX0 1 (f 30) (d 30) ["self", "kind", "name"] (spO ["kind", "name"] (C 30)) := ok2 (T.own 30 (by decide)) sh_30
theorem in_31 (T : C42 K mg C f d) : FnOk P w K mg base CX0 1 (f 31) (d 31) ["self", "source", "key"] (spO ["source", "key"] (C 31)) := ok2 (T.own 31 (by decide)) sh_31
theorem in_32 (T : C42 K mg C f d) : FnOk P w K mg base CX0 1 (f 32) (d 32) ["self", "position", "was", "now"] (spO ["position", "was", "now"] (C 32)) := ok3 (T.own 32 (by decide)) sh_32
theorem in_33 (T : C42 K mg C f d) : FnOk P w K mg base CX0 1 (f 33) (d 33) ["self", "session"] (spO ["session"] (C 33)) := ok1 (T.own 33 (by decide)) sh_33
theorem in_34 (T : C42 K mg C f d) : FnOk P w K mg base CX0 1 (f 34) (d 34) ["self", "session"] (spO ["session"] (C 34)) := ok1 (T.own 34 (by decide)) sh_34
theorem in_35 (T : C42 K mg C f d) : FnOk P w K mg base CX0 1 (f 35) (d 35) ["self", "session"] (spO ["session"] (C 35)) := ok1 (T.own 35 (by decide)) sh_35
theorem in_36 (T : C42 K mg C f d) : FnOk P w K mg base CX0 1 (f 36) (d 36) ["self", "number"] (spO ["number"] (C 36)) := ok1 (T.own 36 (by decide)) sh_36
theorem in_37 (T : C42 K mg C f d) : FnOk P w K mg base CX0 1 (f 37) (d 37) ["self", "mark"] (spO ["mark"] (C 37)) := ok1 (T.own 37 (by decide)) sh_37
theorem in_38 (T : C42 K mg C f d) : FnOk P w K mg base CX0 1 (f 38) (d 38) ["self", "number"] (spO ["number"] (C 38)) := ok1 (T.own 38 (by decide)) sh_38
theorem in_39 (T : C42 K mg C f d) : FnOk P w K mg base CX0 1 (f 39) (d 39) ["self", "cut"] (spO ["cut"] (C 39)) := ok1 (T.own 39 (by decide)) sh_39
theorem in_40 (T : C42 K mg C f d) : FnOk P w K mg base CX0 1 (f 40) (d 40) ["self", "kind", "limit"] (spO ["kind", "limit"] (C 40)) := ok2 (T.own 40 (by decide)) sh_40
theorem in_41 (T : C42 K mg C f d) : FnOk P w K mg base CX0 1 (f 41) (d 41) ["self", "limit"] (spO ["limit"] (C 41)) := ok1 (T.own 41 (by decide)) sh_41
end
end K18
namespace K18
open PySem L2 OwE
/-! ### what makes one of the 42 -/
section
variable {P : Program} {w : World} {K : PySem.W.Frag} {mg : Str → Option Value} {base : Heap} {C f : Nat → Addr} {d : Nat → FuncData}
theorem k_if {i : Int} {k : Nat} {t rest : TS} {D : Ends} {σ : St} {H : Hp} (h0 : σ[0]? = some (some (.int (k : Int)))) (y : (k : Int) = i → t { D with nx := rest D } σ H) (n : (k : Int) ≠ i → rest D σ H) :
    tSeq (tIfS (tTest (tOp rEq (tVar 0) (tC (V.int i)))) t tNext) rest D σ H :=
  ⟨_, h0, rfl, _, rfl, ite2 (fun z => y (V.int.inj (of_decide_eq_true z))) fun z => n fun e => z (decide_eq_true (congrArg V.int e))⟩
theorem leaf1 {k : Nat} {v a b c : V} {D : Ends} {H : Hp} (l : (cl4 k).ns.length = 1) (go : ∀ H' x, Same H H' → H x = none → Made C k (argsOf k a b c) H' x → D.rt (.ref x) H') :
    tRet (ClN.tMkE (C k) (spO (cl4 k).ns (C k)) (tCons (tVar 1) tNil)) D [some v, some a, some b, some c] H :=
  ⟨a, rfl, by show 1 ≤ 60; decide, mk4 (ws := [a]) l.symm fun H' x s n m => go H' x s n (by unfold argsOf; rw [l]; exact m)⟩
theorem leaf2 {k : Nat} {v a b c : V} {D : Ends} {H : Hp} (l : (cl4 k).ns.length = 2) (go : ∀ H' x, Same H H' → H x = none → Made C k (argsOf k a b c) H' x → D.rt (.ref x) H') :
    tRet (ClN.tMkE (C k) (spO (cl4 k).ns (C k)) (tCons (tVar 1) (tCons (tVar 2) tNil))) D [some v, some a, some b, some c] H :=
  ⟨a, rfl, b, rfl, by show 2 ≤ 60; decide, mk4 (ws := [a, b]) l.symm fun H' x s n m => go H' x s n (by unfold argsOf; rw [l]; exact m)⟩
theorem leaf3 {k : Nat} {v a b c : V} {D : Ends} {H : Hp} (l : (cl4 k).ns.length = 3) (go : ∀ H' x, Same H H' → H x = none → Made C k (argsOf k a b c) H' x → D.rt (.ref x) H') :
    tRet (ClN.tMkE (C k) (spO (cl4 k).ns (C k)) (tCons (tVar 1) (tCons (tVar 2) (tCons (tVar 3) tNil)))) D [some v, some a, some b, some c] H :=
  ⟨a, rfl, b, rfl, c, rfl, by show 3 ≤ 60; decide, mk4 (ws := [a, b, c]) l.symm fun H' x s n m => go H' x s n (by unfold argsOf; rw [l]; exact m)⟩
theorem sc_invalid : FnScope ["_law_k", "_law_one", "_law_two", "_law_three"] ["_law_k", "_law_one", "_law_two", "_law_three"] (defScope sInvalid) := ⟨rfl, rfl, rfl, by decide +kernel, rfl, by decide +kernel, by decide +kernel⟩
theorem ok_invalid {g : Addr} {fd : FuncData} (F : Fun K "_law_invalid" "_law_invalid" sInvalid g fd) (T : C42 K mg C f d) : FnOk P w K mg base CX0 3 g fd ["_law_k", "_law_one", "_law_two", "_law_three"] (spMk4 C 0 15) := by
  refine F.ok sc_invalid (fun vs H Q E h => ?_) (fun cdv A outer_ s H vs Q E hr0 h => ?_)
  · obtain ⟨k, a, b, c, rfl, _⟩ := h
    rfl
  · obtain ⟨k, a, b, c, rfl, h1, h2, go⟩ := h
    have hr := hr0.mono (j := 2) (by decide)
    refine ⟨_, (pss_cons (ps_if (pt_cmpR op_eq (pv 0) pe_int (nomark _)) (pss_one (ps_ret (ClN.pe_mkE (Fa.fam (cl4 0).fa) (T.own 0 (by decide)).o (T.own 0 (by decide)).iC (T.own 0 (by decide)).tI (in_0 T) hr (T.own 0 (by decide)).b (by rfl) (T.own 0 (by decide)).m (pa_cons (pv 1) pa_nil)))) pss_nil)
      (pss_cons (ps_if (pt_cmpR op_eq (pv 0) pe_int (nomark _)) (pss_one (ps_ret (ClN.pe_mkE (Fa.fam (cl4 1).fa) (T.own 1 (by decide)).o (T.own 1 (by decide)).iC (T.own 1 (by decide)).tI (in_1 T) hr (T.own 1 (by decide)).b (by rfl) (T.own 1 (by decide)).m (pa_cons (pv 1) pa_nil)))) pss_nil)
      (pss_cons (ps_if (pt_cmpR op_eq (pv 0) pe_int (nomark _)) (pss_one (ps_ret (ClN.pe_mkE (Fa.fam (cl4 2).fa) (T.own 2 (by decide)).o (T.own 2 (by decide)).iC (T.own 2 (by decide)).tI (in_2 T) hr (T.own 2 (by decide)).b (by rfl) (T.own 2 (by decide)).m (pa_cons (pv 1) pa_nil)))) pss_nil)
      (pss_cons (ps_if (pt_cmpR op_eq (pv 0) pe_int (nomark _)) (pss_one (ps_ret (ClN.pe_mkE (Fa.fam (cl4 3).fa) (T.own 3 (by decide)).o (T.own 3 (by decide)).iC (T.own 3 (by decide)).tI (in_3 T) hr (T.own 3 (by decide)).b (by rfl) (T.own 3 (by decide)).m (pa_cons (pv 1) pa_nil)))) pss_nil)
      (pss_cons (ps_if (pt_cmpR op_eq (pv 0) pe_int (nomark _)) (pss_one (ps_ret (ClN.pe_mkE (Fa.fam (cl4 4).fa) (T.own 4 (by decide)).o (T.own 4 (by decide)).iC (T.own 4 (by decide)).tI (in_4 T) hr (T.own 4 (by decide)).b (by rfl) (T.own 4 (by decide)).m (pa_cons (pv 1) pa_nil)))) pss_nil)
      (pss_cons (ps_if (pt_cmpR op_eq (pv 0) pe_int (nomark _)) (pss_one (ps_ret (ClN.pe_mkE (Fa.fam (cl4 5).fa) (T.own 5 (by decide)).o (T.own 5 (by decide)).iC (T.own 5 (by decide)).tI (in_5 T) hr (T.own 5 (by decide)).b (by rfl) (T.own 5 (by decide)).m (pa_cons (pv 1) pa_nil)))) pss_nil)
      (pss_cons (ps_if (pt_cmpR op_eq (pv 0) pe_int (nomark _)) (pss_one (ps_ret (ClN.pe_mkE (Fa.fam (cl4 6).fa) (T.own 6 (by decide)).o (T.own 6 (by decide)).iC (T.own 6 (by decide)).tI (in_6 T) hr (T.own 6 (by decide)).b (by rfl) (T.own 6 (by decide)).m (pa_cons (pv 1) pa_nil)))) pss_nil)
      (pss_cons (ps_if (pt_cmpR op_eq (pv 0) pe_int (nomark _)) (pss_one (ps_ret (ClN.pe_mkE (Fa.fam (cl4 7).fa) (T.own 7 (by decide)).o (T.own 7 (by decide)).iC (T.own 7 (by decide)).tI (in_7 T) hr (T.own 7 (by decide)).b (by rfl) (T.own 7 (by decide)).m (pa_cons (pv 1) pa_nil)))) pss_nil)
      (pss_cons (ps_if (pt_cmpR op_eq (pv 0) pe_int (nomark _)) (pss_one (ps_ret (ClN.pe_mkE (Fa.fam (cl4 8).fa) (T.own 8 (by decide)).o (T.own 8 (by decide)).iC (T.own 8 (by decide)).tI (in_8 T) hr (T.own 8 (by decide)).b (by rfl) (T.own 8 (by decide)).m (pa_cons (pv 1) pa_nil)))) pss_nil)
      (pss_cons (ps_if (pt_cmpR op_eq (pv 0) pe_int (nomark _)) (pss_one (ps_ret (ClN.pe_mkE (Fa.fam (cl4 9).fa) (T.own 9 (by decide)).o (T.own 9 (by decide)).iC (T.own 9 (by decide)).tI (in_9 T) hr (T.own 9 (by decide)).b (by rfl) (T.own 9 (by decide)).m (pa_cons (pv 1) pa_nil)))) pss_nil)
      (pss_cons (ps_if (pt_cmpR op_eq (pv 0) pe_int (nomark _)) (pss_one (ps_ret (ClN.pe_mkE (Fa.fam (cl4 10).fa) (T.own 10 (by decide)).o (T.own 10 (by decide)).iC (T.own 10 (by decide)).tI (in_10 T) hr (T.own 10 (by decide)).b (by rfl) (T.own 10 (by decide)).m (pa_cons (pv 1) pa_nil)))) pss_nil)
      (pss_cons (ps_if (pt_cmpR op_eq (pv 0) pe_int (nomark _)) (pss_one (ps_ret (ClN.pe_mkE (Fa.fam (cl4 11).fa) (T.own 11 (by decide)).o (T.own 11 (by decide)).iC (T.own 11 (by decide)).tI (in_11 T) hr (T.own 11 (by decide)).b (by rfl) (T.own 11 (by decide)).m (pa_cons (pv 1) pa_nil)))) pss_nil)
      (pss_cons (ps_if (pt_cmpR op_eq (pv 0) pe_int (nomark _)) (pss_one (ps_ret (ClN.pe_mkE (Fa.fam (cl4 12).fa) (T.own 12 (by decide)).o (T.own 12 (by decide)).iC (T.own 12 (by decide)).tI (in_12 T) hr (T.own 12 (by decide)).b (by rfl) (T.own 12 (by decide)).m (pa_cons (pv 1) pa_nil)))) pss_nil)
      (pss_cons (ps_if (pt_cmpR op_eq (pv 0) pe_int (nomark _)) (pss_one (ps_ret (ClN.pe_mkE (Fa.fam (cl4 13).fa) (T.own 13 (by decide)).o (T.own 13 (by decide)).iC (T.own 13 (by decide)).tI (in_13 T) hr (T.own 13 (by decide)).b (by rfl) (T.own 13 (by decide)).m (pa_cons (pv 1) pa_nil)))) pss_nil)
      (pss_one (ps_ret (ClN.pe_mkE (Fa.fam (cl4 14).fa) (T.own 14 (by decide)).o (T.own 14 (by decide)).iC (T.own 14 (by decide)).tI (in_14 T) hr (T.own 14 (by decide)).b (by rfl) (T.own 14 (by decide)).m (pa_cons (pv 1) pa_nil)))))))))))))))))), ?_⟩
    refine k_if rfl (fun z => ?_) fun z0 => ?_
    · obtain rfl : k = 0 := by omega
      exact leaf1 (k := 0) rfl go
    refine k_if rfl (fun z => ?_) fun z1 => ?_
    · obtain rfl : k = 1 := by omega
      exact leaf1 (k := 1) rfl go
    refine k_if rfl (fun z => ?_) fun z2 => ?_
    · obtain rfl : k = 2 := by omega
      exact leaf1 (k := 2) rfl go
    refine k_if rfl (fun z => ?_) fun z3 => ?_
    · obtain rfl : k = 3 := by omega
      exact leaf1 (k := 3) rfl go
    refine k_if rfl (fun z => ?_) fun z4 => ?_
    · obtain rfl : k = 4 := by omega
      exact leaf1 (k := 4) rfl go
    refine k_if rfl (fun z => ?_) fun z5 => ?_
    · obtain rfl : k = 5 := by omega
      exact leaf1 (k := 5) rfl go
    refine k_if rfl (fun z => ?_) fun z6 => ?_
    · obtain rfl : k = 6 := by omega
      exact leaf1 (k := 6) rfl go
    refine k_if rfl (fun z => ?_) fun z7 => ?_
    · obtain rfl : k = 7 := by omega
      exact leaf1 (k := 7) rfl go
    refine k_if rfl (fun z => ?_) fun z8 => ?_
    · obtain rfl : k = 8 := by omega
      exact leaf1 (k := 8) rfl go
    refine k_if rfl (fun z => ?_) fun z9 => ?_
    · obtain rfl : k = 9 := by omega
      exact leaf1 (k := 9) rfl go
    refine k_if rfl (fun z => ?_) fun z10 => ?_
    · obtain rfl : k = 10 := by omega
      exact leaf1 (k := 10) rfl go
    refine k_if rfl (fun z => ?_) fun z11 => ?_
    · obtain rfl : k = 11 := by omega
      exact leaf1 (k := 11) rfl go
    refine k_if rfl (fun z => ?_) fun z12 => ?_
    · obtain rfl : k = 12 := by omega
      exact leaf1 (k := 12) rfl go
    refine k_if rfl (fun z => ?_) fun z13 => ?_
    · obtain rfl : k = 13 := by omega
      exact leaf1 (k := 13) rfl go
    obtain rfl : k = 14 := by omega
    exact leaf1 (k := 14) rfl go
theorem sc_missing : FnScope ["_law_k", "_law_one", "_law_two", "_law_three"] ["_law_k", "_law_one", "_law_two", "_law_three"] (defScope sMissing) := ⟨rfl, rfl, rfl, by decide +kernel, rfl, by decide +kernel, by decide +kernel⟩
theorem ok_missing {g : Addr} {fd : FuncData} (F : Fun K "_law_missing" "_law_missing" sMissing g fd) (T : C42 K mg C f d) : FnOk P w K mg base CX0 3 g fd ["_law_k", "_law_one", "_law_two", "_law_three"] (spMk4 C 15 24) := by
  refine F.ok sc_missing (fun vs H Q E h => ?_) (fun cdv A outer_ s H vs Q E hr0 h => ?_)
  · obtain ⟨k, a, b, c, rfl, _⟩ := h
    rfl
  · obtain ⟨k, a, b, c, rfl, h1, h2, go⟩ := h
    have hr := hr0.mono (j := 2) (by decide)
    refine ⟨_, (pss_cons (ps_if (pt_cmpR op_eq (pv 0) pe_int (nomark _)) (pss_one (ps_ret (ClN.pe_mkE (Fa.fam (cl4 15).fa) (T.own 15 (by decide)).o (T.own 15 (by decide)).iC (T.own 15 (by decide)).tI (in_15 T) hr (T.own 15 (by decide)).b (by rfl) (T.own 15 (by decide)).m (pa_cons (pv 1) pa_nil)))) pss_nil)
      (pss_cons (ps_if (pt_cmpR op_eq (pv 0) pe_int (nomark _)) (pss_one (ps_ret (ClN.pe_mkE (Fa.fam (cl4 16).fa) (T.own 16 (by decide)).o (T.own 16 (by decide)).iC (T.own 16 (by decide)).tI (in_16 T) hr (T.own 16 (by decide)).b (by rfl) (T.own 16 (by decide)).m (pa_cons (pv 1) pa_nil)))) pss_nil)
      (pss_cons (ps_if (pt_cmpR op_eq (pv 0) pe_int (nomark _)) (pss_one (ps_ret (ClN.pe_mkE (Fa.fam (cl4 17).fa) (T.own 17 (by decide)).o (T.own 17 (by decide)).iC (T.own 17 (by decide)).tI (in_17 T) hr (T.own 17 (by decide)).b (by rfl) (T.own 17 (by decide)).m (pa_cons (pv 1) pa_nil)))) pss_nil)
      (pss_cons (ps_if (pt_cmpR op_eq (pv 0) pe_int (nomark _)) (pss_one (ps_ret (ClN.pe_mkE (Fa.fam (cl4 18).fa) (T.own 18 (by decide)).o (T.own 18 (by decide)).iC (T.own 18 (by decide)).tI (in_18 T) hr (T.own 18 (by decide)).b (by rfl) (T.own 18 (by decide)).m (pa_cons (pv 1) pa_nil)))) pss_nil)
      (pss_cons (ps_if (pt_cmpR op_eq (pv 0) pe_int (nomark _)) (pss_one (ps_ret (ClN.pe_mkE (Fa.fam (cl4 19).fa) (T.own 19 (by decide)).o (T.own 19 (by decide)).iC (T.own 19 (by decide)).tI (in_19 T) hr (T.own 19 (by decide)).b (by rfl) (T.own 19 (by decide)).m (pa_cons (pv 1) pa_nil)))) pss_nil)
      (pss_cons (ps_if (pt_cmpR op_eq (pv 0) pe_int (nomark _)) (pss_one (ps_ret (ClN.pe_mkE (Fa.fam (cl4 20).fa) (T.own 20 (by decide)).o (T.own 20 (by decide)).iC (T.own 20 (by decide)).tI (in_20 T) hr (T.own 20 (by decide)).b (by rfl) (T.own 20 (by decide)).m (pa_cons (pv 1) pa_nil)))) pss_nil)
      (pss_cons (ps_if (pt_cmpR op_eq (pv 0) pe_int (nomark _)) (pss_one (ps_ret (ClN.pe_mkE (Fa.fam (cl4 21).fa) (T.own 21 (by decide)).o (T.own 21 (by decide)).iC (T.own 21 (by decide)).tI (in_21 T) hr (T.own 21 (by decide)).b (by rfl) (T.own 21 (by decide)).m (pa_cons (pv 1) pa_nil)))) pss_nil)
      (pss_cons (ps_if (pt_cmpR op_eq (pv 0) pe_int (nomark _)) (pss_one (ps_ret (ClN.pe_mkE (Fa.fam (cl4 22).fa) (T.own 22 (by decide)).o (T.own 22 (by decide)).iC (T.own 22 (by decide)).tI (in_22 T) hr (T.own 22 (by decide)).b (by rfl) (T.own 22 (by decide)).m (pa_cons (pv 1) pa_nil)))) pss_nil)
      (pss_one (ps_ret (ClN.pe_mkE (Fa.fam (cl4 23).fa) (T.own 23 (by decide)).o (T.own 23 (by decide)).iC (T.own 23 (by decide)).tI (in_23 T) hr (T.own 23 (by decide)).b (by rfl) (T.own 23 (by decide)).m (pa_cons (pv 1) pa_nil)))))))))))), ?_⟩
    refine k_if rfl (fun z => ?_) fun z15 => ?_
    · obtain rfl : k = 15 := by omega
      exact leaf1 (k := 15) rfl go
    refine k_if rfl (fun z => ?_) fun z16 => ?_
    · obtain rfl : k = 16 := by omega
      exact leaf1 (k := 16) rfl go
    refine k_if rfl (fun z => ?_) fun z17 => ?_
    · obtain rfl : k = 17 := by omega
      exact leaf1 (k := 17) rfl go
    refine k_if rfl (fun z => ?_) fun z18 => ?_
    · obtain rfl : k = 18 := by omega
      exact leaf1 (k := 18) rfl go
    refine k_if rfl (fun z => ?_) fun z19 => ?_
    · obtain rfl : k = 19 := by omega
      exact leaf1 (k := 19) rfl go
    refine k_if rfl (fun z => ?_) fun z20 => ?_
    · obtain rfl : k = 20 := by omega
      exact leaf1 (k := 20) rfl go
    refine k_if rfl (fun z => ?_) fun z21 => ?_
    · obtain rfl : k = 21 := by omega
      exact leaf1 (k := 21) rfl go
    refine k_if rfl (fun z => ?_) fun z22 => ?_
    · obtain rfl : k = 22 := by omega
      exact leaf1 (k := 22) rfl go
    obtain rfl : k = 23 := by omega
    exact leaf1 (k := 23) rfl go
theorem sc_state : FnScope ["_law_k", "_law_one", "_law_two", "_law_three"] ["_law_k", "_law_one", "_law_two", "_law_three"] (defScope sState) := ⟨rfl, rfl, rfl, by decide +kernel, rfl, by decide +kernel, by decide +kernel⟩
theorem ok_state {g : Addr} {fd : FuncData} (F : Fun K "_law_state" "_law_state" sState g fd) (T : C42 K mg C f d) : FnOk P w K mg base CX0 3 g fd ["_law_k", "_law_one", "_law_two", "_law_three"] (spMk4 C 24 40) := by
  refine F.ok sc_state (fun vs H Q E h => ?_) (fun cdv A outer_ s H vs Q E hr0 h => ?_)
  · obtain ⟨k, a, b, c, rfl, _⟩ := h
    rfl
  · obtain ⟨k, a, b, c, rfl, h1, h2, go⟩ := h
    have hr := hr0.mono (j := 2) (by decide)
    refine ⟨_, (pss_cons (ps_if (pt_cmpR op_eq (pv 0) pe_int (nomark _)) (pss_one (ps_ret (ClN.pe_mkE (Fa.fam (cl4 24).fa) (T.own 24 (by decide)).o (T.own 24 (by decide)).iC (T.own 24 (by decide)).tI (in_24 T) hr (T.own 24 (by decide)).b (by rfl) (T.own 24 (by decide)).m (pa_cons (pv 1) pa_nil)))) pss_nil)
      (pss_cons (ps_if (pt_cmpR op_eq (pv 0) pe_int (nomark _)) (pss_one (ps_ret (ClN.pe_mkE (Fa.fam (cl4 25).fa) (T.own 25 (by decide)).o (T.own 25 (by decide)).iC (T.own 25 (by decide)).tI (in_25 T) hr (T.own 25 (by decide)).b (by rfl) (T.own 25 (by decide)).m (pa_cons (pv 1) pa_nil)))) pss_nil)
      (pss_cons (ps_if (pt_cmpR op_eq (pv 0) pe_int (nomark _)) (pss_one (ps_ret (ClN.pe_mkE (Fa.fam (cl4 26).fa) (T.own 26 (by decide)).o (T.own 26 (by decide)).iC (T.own 26 (by decide)).tI (in_26 T) hr (T.own 26 (by decide)).b (by rfl) (T.own 26 (by decide)).m (pa_cons (pv 1) pa_nil)))) pss_nil)
      (pss_cons (ps_if (pt_cmpR op_eq (pv 0) pe_int (nomark _)) (pss_one (ps_ret (ClN.pe_mkE (Fa.fam (cl4 27).fa) (T.own 27 (by decide)).o (T.own 27 (by decide)).iC (T.own 27 (by decide)).tI (in_27 T) hr (T.own 27 (by decide)).b (by rfl) (T.own 27 (by decide)).m (pa_cons (pv 1) (pa_cons (pv 2) pa_nil))))) pss_nil)
      (pss_cons (ps_if (pt_cmpR op_eq (pv 0) pe_int (nomark _)) (pss_one (ps_ret (ClN.pe_mkE (Fa.fam (cl4 28).fa) (T.own 28 (by decide)).o (T.own 28 (by decide)).iC (T.own 28 (by decide)).tI (in_28 T) hr (T.own 28 (by decide)).b (by rfl) (T.own 28 (by decide)).m (pa_cons (pv 1) (pa_cons (pv 2) pa_nil))))) pss_nil)
      (pss_cons (ps_if (pt_cmpR op_eq (pv 0) pe_int (nomark _)) (pss_one (ps_ret (ClN.pe_mkE (Fa.fam (cl4 29).fa) (T.own 29 (by decide)).o (T.own 29 (by decide)).iC (T.own 29 (by decide)).tI (in_29 T) hr (T.own 29 (by decide)).b (by rfl) (T.own 29 (by decide)).m (pa_cons (pv 1) (pa_cons (pv 2) pa_nil))))) pss_nil)
      (pss_cons (ps_if (pt_cmpR op_eq (pv 0) pe_int (nomark _)) (pss_one (ps_ret (ClN.pe_mkE (Fa.fam (cl4 30).fa) (T.own 30 (by decide)).o (T.own 30 (by decide)).iC (T.own 30 (by decide)).tI (in_30 T) hr (T.own 30 (by decide)).b (by rfl) (T.own 30 (by decide)).m (pa_cons (pv 1) (pa_cons (pv 2) pa_nil))))) pss_nil)
      (pss_cons (ps_if (pt_cmpR op_eq (pv 0) pe_int (nomark _)) (pss_one (ps_ret (ClN.pe_mkE (Fa.fam (cl4 31).fa) (T.own 31 (by decide)).o (T.own 31 (by decide)).iC (T.own 31 (by decide)).tI (in_31 T) hr (T.own 31 (by decide)).b (by rfl) (T.own 31 (by decide)).m (pa_cons (pv 1) (pa_cons (pv 2) pa_nil))))) pss_nil)
      (pss_cons (ps_if (pt_cmpR op_eq (pv 0) pe_int (nomark _)) (pss_one (ps_ret (ClN.pe_mkE (Fa.fam (cl4 32).fa) (T.own 32 (by decide)).o (T.own 32 (by decide)).iC (T.own 32 (by decide)).tI (in_32 T) hr (T.own 32 (by decide)).b (by rfl) (T.own 32 (by decide)).m (pa_cons (pv 1) (pa_cons (pv 2) (pa_cons (pv 3) pa_nil)))))) pss_nil)
      (pss_cons (ps_if (pt_cmpR op_eq (pv 0) pe_int (nomark _)) (pss_one (ps_ret (ClN.pe_mkE (Fa.fam (cl4 33).fa) (T.own 33 (by decide)).o (T.own 33 (by decide)).iC (T.own 33 (by decide)).tI (in_33 T) hr (T.own 33 (by decide)).b (by rfl) (T.own 33 (by decide)).m (pa_cons (pv 1) pa_nil)))) pss_nil)
      (pss_cons (ps_if (pt_cmpR op_eq (pv 0) pe_int (nomark _)) (pss_one (ps_ret (ClN.pe_mkE (Fa.fam (cl4 34).fa) (T.own 34 (by decide)).o (T.own 34 (by decide)).iC (T.own 34 (by decide)).tI (in_34 T) hr (T.own 34 (by decide)).b (by rfl) (T.own 34 (by decide)).m (pa_cons (pv 1) pa_nil)))) pss_nil)
      (pss_cons (ps_if (pt_cmpR op_eq (pv 0) pe_int (nomark _)) (pss_one (ps_ret (ClN.pe_mkE (Fa.fam (cl4 35).fa) (T.own 35 (by decide)).o (T.own 35 (by decide)).iC (T.own 35 (by decide)).tI (in_35 T) hr (T.own 35 (by decide)).b (by rfl) (T.own 35 (by decide)).m (pa_cons (pv 1) pa_nil)))) pss_nil)
      (pss_cons (ps_if (pt_cmpR op_eq (pv 0) pe_int (nomark _)) (pss_one (ps_ret (ClN.pe_mkE (Fa.fam (cl4 36).fa) (T.own 36 (by decide)).o (T.own 36 (by decide)).iC (T.own 36 (by decide)).tI (in_36 T) hr (T.own 36 (by decide)).b (by rfl) (T.own 36 (by decide)).m (pa_cons (pv 1) pa_nil)))) pss_nil)
      (pss_cons (ps_if (pt_cmpR op_eq (pv 0) pe_int (nomark _)) (pss_one (ps_ret (ClN.pe_mkE (Fa.fam (cl4 37).fa) (T.own 37 (by decide)).o (T.own 37 (by decide)).iC (T.own 37 (by decide)).tI (in_37 T) hr (T.own 37 (by decide)).b (by rfl) (T.own 37 (by decide)).m (pa_cons (pv 1) pa_nil)))) pss_nil)
      (pss_cons (ps_if (pt_cmpR op_eq (pv 0) pe_int (nomark _)) (pss_one (ps_ret (ClN.pe_mkE (Fa.fam (cl4 38).fa) (T.own 38 (by decide)).o (T.own 38 (by decide)).iC (T.own 38 (by decide)).tI (in_38 T) hr (T.own 38 (by decide)).b (by rfl) (T.own 38 (by decide)).m (pa_cons (pv 1) pa_nil)))) pss_nil)
      (pss_one (ps_ret (ClN.pe_mkE (Fa.fam (cl4 39).fa) (T.own 39 (by decide)).o (T.own 39 (by decide)).iC (T.own 39 (by decide)).tI (in_39 T) hr (T.own 39 (by decide)).b (by rfl) (T.own 39 (by decide)).m (pa_cons (pv 1) pa_nil))))))))))))))))))), ?_⟩
    refine k_if rfl (fun z => ?_) fun z24 => ?_
    · obtain rfl : k = 24 := by omega
      exact leaf1 (k := 24) rfl go
    refine k_if rfl (fun z => ?_) fun z25 => ?_
    · obtain rfl : k = 25 := by omega
      exact leaf1 (k := 25) rfl go
    refine k_if rfl (fun z => ?_) fun z26 => ?_
    · obtain rfl : k = 26 := by omega
      exact leaf1 (k := 26) rfl go
    refine k_if rfl (fun z => ?_) fun z27 => ?_
    · obtain rfl : k = 27 := by omega
      exact leaf2 (k := 27) rfl go
    refine k_if rfl (fun z => ?_) fun z28 => ?_
    · obtain rfl : k = 28 := by omega
      exact leaf2 (k := 28) rfl go
    refine k_if rfl (fun z => ?_) fun z29 => ?_
    · obtain rfl : k = 29 := by omega
      exact leaf2 (k := 29) rfl go
    refine k_if rfl (fun z => ?_) fun z30 => ?_
    · obtain rfl : k = 30 := by omega
      exact leaf2 (k := 30) rfl go
    refine k_if rfl (fun z => ?_) fun z31 => ?_
    · obtain rfl : k = 31 := by omega
      exact leaf2 (k := 31) rfl go
    refine k_if rfl (fun z => ?_) fun z32 => ?_
    · obtain rfl : k = 32 := by omega
      exact leaf3 (k := 32) rfl go
    refine k_if rfl (fun z => ?_) fun z33 => ?_
    · obtain rfl : k = 33 := by omega
      exact leaf1 (k := 33) rfl go
    refine k_if rfl (fun z => ?_) fun z34 => ?_
    · obtain rfl : k = 34 := by omega
      exact leaf1 (k := 34) rfl go
    refine k_if rfl (fun z => ?_) fun z35 => ?_
    · obtain rfl : k = 35 := by omega
      exact leaf1 (k := 35) rfl go
    refine k_if rfl (fun z => ?_) fun z36 => ?_
    · obtain rfl : k = 36 := by omega
      exact leaf1 (k := 36) rfl go
    refine k_if rfl (fun z => ?_) fun z37 => ?_
    · obtain rfl : k = 37 := by omega
      exact leaf1 (k := 37) rfl go
    refine k_if rfl (fun z => ?_) fun z38 => ?_
    · obtain rfl : k = 38 := by omega
      exact leaf1 (k := 38) rfl go
    obtain rfl : k = 39 := by omega
    exact leaf1 (k := 39) rfl go
theorem sc_limit : FnScope ["_law_k", "_law_one", "_law_two", "_law_three"] ["_law_k", "_law_one", "_law_two", "_law_three"] (defScope sLimit) := ⟨rfl, rfl, rfl, by decide +kernel, rfl, by decide +kernel, by decide +kernel⟩
theorem ok_limit {g : Addr} {fd : FuncData} (F : Fun K "_law_limit" "_law_limit" sLimit g fd) (T : C42 K mg C f d) : FnOk P w K mg base CX0 3 g fd ["_law_k", "_law_one", "_law_two", "_law_three"] (spMk4 C 40 42) := by
  refine F.ok sc_limit (fun vs H Q E h => ?_) (fun cdv A outer_ s H vs Q E hr0 h => ?_)
  · obtain ⟨k, a, b, c, rfl, _⟩ := h
    rfl
  · obtain ⟨k, a, b, c, rfl, h1, h2, go⟩ := h
    have hr := hr0.mono (j := 2) (by decide)
    refine ⟨_, (pss_cons (ps_if (pt_cmpR op_eq (pv 0) pe_int (nomark _)) (pss_one (ps_ret (ClN.pe_mkE (Fa.fam (cl4 40).fa) (T.own 40 (by decide)).o (T.own 40 (by decide)).iC (T.own 40 (by decide)).tI (in_40 T) hr (T.own 40 (by decide)).b (by rfl) (T.own 40 (by decide)).m (pa_cons (pv 1) (pa_cons (pv 2) pa_nil))))) pss_nil)
      (pss_one (ps_ret (ClN.pe_mkE (Fa.fam (cl4 41).fa) (T.own 41 (by decide)).o (T.own 41 (by decide)).iC (T.own 41 (by decide)).tI (in_41 T) hr (T.own 41 (by decide)).b (by rfl) (T.own 41 (by decide)).m (pa_cons (pv 1) pa_nil))))), ?_⟩
    refine k_if rfl (fun z => ?_) fun z40 => ?_
    · obtain rfl : k = 40 := by omega
      exact leaf2 (k := 40) rfl go
    obtain rfl : k = 41 := by omega
    exact leaf1 (k := 41) rfl go
end
end K18
/-! own exceptions below ArithmeticError, with a walked __init__ -/
namespace AEx
open PySem PySem.Spec PyProof.Rows L2
def aeMro : List Value := ["ArithmeticError", "Exception", "BaseException", "object"].map Value.type
structure AeC (K : PySem.W.Frag) (C : Addr) : Prop where
  made : PySem.W.excInitIn K C aeMro "ArithmeticError.__new__" = true
  over : PySem.W.excOver K C aeMro = true
  dct : PySem.W.hasDictIn K C = true
  setA : PySem.W.findIn K (.ref C) "__setattr__" = some (some (.builtin "object.__setattr__"))
  exc : PySem.W.subIn K (.ref C) (.type "BaseException") = some true
  typ : PySem.W.typeIn K (.ref C) = some (.type "type")
  keep : PySem.W.keepIn K (.ref C) = true
theorem upd_swap {H : Hp} {a b : Addr} {o u v : HO} (h : a ≠ b) : upd (upd (upd H b o) a u) b v = upd (upd H b v) a u := by
  funext c
  by_cases hb : c = b
  · subst hb
    rw [upd_same, upd_ne (Ne.symm h), upd_same]
  · rw [upd_ne hb]
    by_cases ha : c = a
    · subst ha
      rw [upd_same, upd_same]
    · rw [upd_ne ha, upd_ne ha, upd_ne hb, upd_ne hb]
section
variable {X : Cx} {pins : List (Addr × Obj)} {σ : L2.St} {H : Hp} {s : Shared} {a C dx : Addr} {f : Str} {y : V} {u : Value} {fs : List (Str × V)} {Q : Unit → Shared → Prop} {E : Value → Shared → Prop} {A : Around}
theorem put_first (T : AeC X.K C) (I : Inv X pins σ H s) (e : H a = some (exo a C none)) (ht : PySem.W.takerIn X.K C f = some none) (ry : RelV y u)
    (h : ∀ dx s', H dx = none → dx ≠ a → Inv X pins σ (upd (upd H dx (exd dx [(f, y)])) a (exo a C (some dx))) s' → Q () s') : wpAny (model X.prog X.w) A (setAttr (.ref a) f u) Q E s := by
  obtain ⟨t1, ho⟩ := exo_at I.hok e
  obtain ⟨hp, g, dr, t, os⟩ := s
  have inst : PySem.W.InstAt hp a { cls := .ref C, dict := none, data := .fields #[.ref t1, .none, .none, .none, .bool false, .none] } C none := ⟨ho, rfl, rfl, trivial⟩
  refine PySem.W.set_plain I.kIn inst T.setA (PySem.W.osa_openX (s := ⟨hp, g, dr, t + 1, os⟩) F.store_ArithmeticError I.kIn inst T.over ht fun b => ?_)
  obtain ⟨cd, hc, hd'⟩ := PySem.W.any_some T.dct
  have J : Inv X pins σ H ⟨hp, g, dr, t + 1, os⟩ := I.tok (t + 1)
  refine wpAny_bind (wpAny_pure (wpAny_bind (PySem.W.instanceDict_exc (s := ⟨hp, g, dr, t + 1, os⟩) (C := C) ho (PySem.W.looks_clsIn J.kIn hc) hd' ?_)))
  have lt : a < hp.objs.size := Heap.lt_size ho
  have free : H hp.objs.size = none := I.hok.fresh (Nat.le_refl _)
  have ne : hp.objs.size ≠ a := Nat.ne_of_gt lt
  have get0 : (hp.push (PySem.W.dictOf [] 0)).get? hp.objs.size = some (PySem.W.dictOf [] 0) := Heap.get?_push_at rfl rfl
  have get1 : ((hp.push (PySem.W.dictOf [] 0)).update a fun o => { o with dict := some hp.objs.size }).get? hp.objs.size = some (PySem.W.dictOf [] 0) := (Heap.get?_update_ne _ _ _ _ ne).trans get0
  have nil0 : ∀ G : Heap, G.get? hp.objs.size = some (PySem.W.dictOf [] 0) → G.Ns hp.objs.size (fun _ => none) := fun G e => ⟨_, #[], 0, e, rfl, fun e he => absurd he (by simp), fun _ => rfl⟩
  refine PySem.HandSPX.store_in_new (nil0 _ get1) fun h' tk' hn' sb => ?_
  have J1 : Inv X pins σ (upd H hp.objs.size (exd hp.objs.size [])) ⟨hp.push (PySem.W.dictOf [] 0), g, dr, t + 1, os⟩ :=
    J.laid (t' := t + 1) (a := hp.objs.size) (o := exd hp.objs.size []) (h' := hp.push (PySem.W.dictOf [] 0)) (fun b o q => Heap.get?_push_of_some _ q) (Nat.le_refl _) (exd_ok (Heap.Ns1.of_empty (nil0 _ get0)) fun g => True.intro)
  have geta : (hp.push (PySem.W.dictOf [] 0)).get? a = some ({ cls := .ref C, dict := none, data := .fields #[.ref t1, .none, .none, .none, .bool false, .none] } : Obj) := Heap.get?_push_of_some _ ho
  have getb : ((hp.push (PySem.W.dictOf [] 0)).update a fun o => { o with dict := some hp.objs.size }).get? a = some ({ cls := .ref C, dict := some hp.objs.size, data := .fields #[.ref t1, .none, .none, .none, .bool false, .none] } : Obj) := Heap.get?_update_self _ geta rfl
  have J2 := J1.write (t' := t + 1) (h' := (hp.push (PySem.W.dictOf [] 0)).update a fun o => { o with dict := some hp.objs.size }) (x := a) (e := a) (o := exo a C (some hp.objs.size)) (by rw [upd_ne (Ne.symm ne), e]; exact True.intro) (.inl rfl)
    (fun b o nb q => (Heap.get?_update_ne _ _ _ _ nb).trans q) ⟨_, getb⟩ (exo_ok getb)
  have J3 := J2.write (t' := tk') (h' := h') (x := hp.objs.size) (e := hp.objs.size) (o := exd hp.objs.size [(f, y)]) (by rw [upd_ne ne, upd_same]; exact True.intro) (.inl rfl)
    (fun b o nb q => (sb.2 b nb).trans q) (by obtain ⟨o, _, _, e', _⟩ := hn'; exact ⟨o, e'⟩) (exd_ok hn' (relO_put (fs := []) ry fun g => True.intro))
  rw [upd_swap (Ne.symm ne)] at J3
  exact h _ _ free ne J3
theorem put_next (T : AeC X.K C) (I : Inv X pins σ H s) (e : H a = some (exo a C (some dx))) (ed : H dx = some (exd dx fs)) (hl : fs.length ≤ 900) (ht : PySem.W.takerIn X.K C f = some none) (ry : RelV y u)
    (h : ∀ s', Inv X pins σ (upd H dx (exd dx ((f, y) :: fs))) s' → Q () s') : wpAny (model X.prog X.w) A (setAttr (.ref a) f u) Q E s := by
  obtain ⟨t1, ho⟩ := exo_at I.hok e
  obtain ⟨mA, hns, rel⟩ := exd_at I.hok ed
  have win := within_of rel
  obtain ⟨hp, g, dr, t, os⟩ := s
  obtain ⟨oD, _, _, hoD, _, _⟩ := hns.count win
  have inst : PySem.W.InstAt hp a { cls := .ref C, dict := some dx, data := .fields #[.ref t1, .none, .none, .none, .bool false, .none] } C (some oD) := ⟨ho, rfl, rfl, hoD⟩
  refine PySem.W.set_plain I.kIn inst T.setA (PySem.W.osa_openX (s := ⟨hp, g, dr, t + 1, os⟩) F.store_ArithmeticError I.kIn inst T.over ht fun b => ?_)
  obtain ⟨cd, hc, hd'⟩ := PySem.W.any_some T.dct
  have J : Inv X pins σ H ⟨hp, g, dr, t + 1, os⟩ := I.tok (t + 1)
  refine wpAny_bind (wpAny_pure (wpAny_bind (wpAny_bind (wpAny_loadPart ho (wpAny_bind (PySem.W.Looks.here (s := ⟨hp, g, dr, t + 1, os⟩) (PySem.W.looks_clsIn J.kIn hc) ?_))))))
  rw [hd']
  refine wpAny_pure (a := some dx) ?_
  refine PySem.OEX.store_in_old hns win (by rw [List.length_map]; omega) fun h' tk' hn' sb => ?_
  refine h _ (I.write (t' := tk') (h' := h') (x := dx) (e := dx) (o := exd dx ((f, y) :: fs)) (by rw [ed]; exact True.intro) (.inl rfl) (fun b o nb q => (sb.2 b nb).trans q) ?_ (exd_ok hn' (relO_put ry rel)))
  obtain ⟨o, _, _, e', _⟩ := hn'
  exact ⟨o, e'⟩
end
/-- self.f = e in the __init__ of such a class -/
def tPut (K : PySem.W.Frag) (f : Str) (to te : TE) : TS := fun D σ H => te σ H fun y H1 => to σ H1 fun x H2 => ∃ a C : Addr, x = .ref a ∧ AeC K C ∧ PySem.W.takerIn K C f = some none ∧
  ((H2 a = some (exo a C none) ∧ ∀ dx, H2 dx = none → dx ≠ a → D.nx σ (upd (upd H2 dx (exd dx [(f, y)])) a (exo a C (some dx)))) ∨
   ∃ (dx : Addr) (fs : List (Str × V)), fs.length ≤ 900 ∧ H2 a = some (exo a C (some dx)) ∧ H2 dx = some (exd dx fs) ∧ D.nx σ (upd H2 dx (exd dx ((f, y) :: fs))))
section
variable {X : Cx} {o e : Expr} {es : List Expr} {to te : TE} {ta : TA} {f : Str} {p p' pos : Pos}
theorem ps_put (ho : PE X o to) (he : PE X e te) (hs : swapsWith e (some (.Attribute o f p')) pos.line X.env = pure false := by rfl) : PS X (.Assign [.Attribute o f p'] e pos) (tPut X.K f to te) := ⟨by
  intro pins s σ H D I h
  refine plainObj_wpAny_Assign_Attribute (thn (he.run pins s σ H _ I h) ?_) hs
  rintro v s1 ⟨y, H1, I1, r1, q1⟩
  refine thn (ho.run pins s1 σ H1 _ I1 q1) ?_
  rintro _ s2 ⟨_, H2, I2, r2, a, C, rfl, T, ht, q⟩
  cases r2
  rcases q with ⟨ea, q⟩ | ⟨dx, fs, hl, ea, ed, q⟩
  · exact put_first T I2 ea ht r1 fun dx s' n ne J => ⟨σ, _, J, q dx n ne⟩
  · exact put_next T I2 ea ed hl ht r1 fun s' J => ⟨σ, _, J, q⟩⟩
/-- C(e, ..) of such a class -/
theorem pmk_ae {CX : CXT} {x : Str} {C fI : Addr} {k : Nat} {fd : FuncData} {ps : List Str} {sp : Sp} (T : AeC X.K C) (iC : PySem.W.findIn X.K (.ref C) "__init__" = some (some (.ref fI))) (tI : PySem.W.typeIn X.K (.ref fI) = some (.type "function"))
    (F1 : FnOk X.prog X.w X.K X.mg X.base CX k fI fd ps sp) (hr : Room (k + 1) X.A) (hb : Binds X.K fd ps []) (hx : Passes CX X (fun _ _ _ => False)) (hg : Gl X x) (hm : X.mg x = some (.ref C)) (ha : PA X (e :: es) ta)
    (hdb : (x == ("__debug__" : Str)) = false := by decide) (he : starEach (e :: es) X.env = (false, eval e X.env) :: starEach es X.env := by rfl) (hpl : (backTo pos (starEach es X.env)).any (·.1) = false := by rfl) :
    PMk X (.Call (.Name x p) (e :: es) [] pos) (tMkO C sp [] ta) := by
  intro pins s σ H Q I h
  refine wpAny_Call_Name_kw (ld_glob I hg hm ?_ hdb)
  refine PySem.W.callWith_K (h₀ := X.base) I.ok.mod.kin T.keep (thn (ha.run pos pins s σ H _ I h) ?_) he hpl
  rintro us ⟨hp, g, dr, tk, os⟩ ⟨vs, H1, I1, r1, hz, q1⟩
  refine ⟨I1.kIn, ?_⟩
  show wpAny _ _ (call (.ref C) us) _ _ _
  obtain ⟨nm, N, qn, bs, bm, hdct, sn, sub, ab, col, dd, k0, k1, k2, k3, k5, hC, hT⟩ := PySem.W.excInit_of I1.kIn T.made
  have lay : ∀ b o, hp.get? b = some o → ((hp.push (PySem.W.kdv_tup us)).push (PySem.HandSPX.excO C hp.objs.size)).get? b = some o := fun b o e => Heap.get?_push_of_some _ (Heap.get?_push_of_some _ e)
  have here : ((hp.push (PySem.W.kdv_tup us)).push (PySem.HandSPX.excO C hp.objs.size)).get? (hp.objs.size + 1) = some (PySem.HandSPX.excO C hp.objs.size) := by heap_get
  have new : hp.objs.size ≤ hp.objs.size + 1 := Nat.le_succ _
  have hq := q1 _ (I1.hok.fresh new)
  have I2 := I1.laid (t' := tk) (a := hp.objs.size + 1) (o := exo (hp.objs.size + 1) C none) lay new (exo_ok here)
  have r2 : Vals (V.ref (hp.objs.size + 1) :: (vs ++ [])) (Value.ref (hp.objs.size + 1) :: (us ++ [])) := .cons rfl (r1.append .nil)
  have len : (Value.ref (hp.objs.size + 1) :: us ++ []).length = ps.length := (F1.len _ _ _ _ hq).symm.trans r2.length |>.symm
  have few : us.length ≤ sizeLine := by have := Paired.length r1; rw [sizeLine_eq]; omega
  refine wpAny_call (PySem.HandSPX.call_own F.excBase_ArithmeticError hT hC (PySem.W.looks_findIn I1.kIn iC) (fun self => PySem.W.bind_fn I1.kIn self tI) few ?_)
  refine codeAny_mono (F1.run _ X.stack _ _ ⟨Value.ref (hp.objs.size + 1) :: us, []⟩ ((Value.ref (hp.objs.size + 1) :: us) ++ []) _ _ (fun _ _ _ => False) (hr.make C us []) (I2.env0.make C us []) (hb _ (Value.ref (hp.objs.size + 1) :: us) I2.kIn len) r2 hq) ?_
  rintro (er | fl) s' back
  · exact hx pins σ _ _ er s' I2 back
  · cases fl with
    | ret rv =>
      obtain ⟨_, H2, os2, bare2, un2, hok2, rv', rfl, d, fs, ea, ed, hd1, q2⟩ := back
      obtain ⟨h2, g2, d2, t2, os'⟩ := s'
      exact ⟨rv', mk_end (raises_own T.exc T.typ) I1 new lay un2 hok2 os2 bare2 ea ed hd1 q2⟩
    | next => exact back.elim
    | brk => exact back.elim
    | cont => exact back.elim
end
end AEx
/-! try with several clauses 'except C as e', one name for all -/
namespace TAs
open PySem PySem.Spec PyProof.Rows L2
abbrev Clause := Value × (Addr → Value → Option Addr → TS)
def wishes (K : PySem.W.Frag) (i : Nat) (Wout : WX) (D : Ends) : List Clause → WX
  | [] => Wout
  | (c, ts) :: more => wAs K c i ts (wishes K i Wout D more) D
inductive Clauses (X : Cx) (n : Str) : List ExceptHandler → List Clause → Prop
  | nil : Clauses X n [] []
  | cons {x : Str} {c : Value} {ts : Addr → Value → Option Addr → TS} {st : Stmt} {sts : List Stmt} {p1 p2 : Pos} {hs : List ExceptHandler} {cs : List Clause} (nm : Names X x c)
      (run : ∀ (e : Addr) (ob : Obj) (cls : Value) (d : Option Addr) (pn : List (Addr × Obj)), Zc cls d ob → (∃ fv, ob.data = .fields fv) → PSs (X.suite e ((e, ob) :: pn)) (st :: sts) (ts e cls d)) (more : Clauses X n hs cs) :
      Clauses X n (.ExceptHandler (some (.Name x p1)) (some n) (st :: sts) p2 :: hs) ((c, ts) :: cs)
section
variable {X : Cx} {n : Str} {i : Nat} {body : List Stmt} {h1 : ExceptHandler} {hs : List ExceptHandler} {cs : List Clause} {pos : Pos} {tb : WX → TS} {Wout : WX}
theorem ps_try (hst : X.stack = X.env :: X.outer) (hfm : X.env.frame = some X.env.locals) (nd : X.N.Nodup) (at_i : X.N[i]? = some n) (loc : X.env.kindOf n = some .local) (tk : Takes X Wout)
    (hb : ∀ (W : WX) (pn : List (Addr × Obj)) (xe : Value → Shared → Prop), Takes (X.tr pn xe) W → PassesOwn (model X.prog X.w) X.A X.env xe → PSs (X.tr pn xe) body (tb W))
    (all : Clauses X n (h1 :: hs) cs) : PS X (.Try body (h1 :: hs) [] [] pos) (fun D σ H => tb (wishes X.K i Wout D cs) D σ H) := ⟨by
  intro pins s σ H D I start
  have okI := I.ok
  have frames : X.A.frames = some (X.env :: X.outer) := by rw [okI.frames, hst]
  have isLoc : Loc X.env.scope n := .inl loc
  let after : Value → Shared → Prop := fun e s₁ => wpAny (model X.prog X.w) X.A (noteFrame e X.env) (fun _ s₂ => wpAny (model X.prog X.w) X.A (setFlight e none) (fun _ s₃ => wpAny (model X.prog X.w) X.A (handleBy e X.env (h1 :: hs)) (SP X pins D) X.xe s₃) X.xe s₂) X.xe s₁
  refine wpAny_Try_except (wpAny_mono ((hb (wishes X.K i Wout D cs) (X.pn ++ pins) after ?_ PassesOwn.looking).run [] s σ H D (I.toTry _) start) ?_ fun e s1 z => z)
  · rintro u sE ⟨e, B, sI, pins', σ', H', cls, d, rfl, JT, nb, grow, skyT, na, sos, ag, want⟩
    have J : Inv X pins σ' H' sI := JT.ofTry okI
    have sky : Sky B (X.env :: X.outer) e (Zc cls d) X.env.locals sE.heap := by rw [← hst]; exact skyT
    show wpAny _ X.A (noteFrame (.ref e) X.env) _ _ sE
    refine Sky.land Zc.steady frames hfm sky ?_
    intro hA flA upA
    have JA : Inv X pins σ' H' { sE with heap := hA } := J.landed nb flA.1 (grow.trans upA) sos ag
    obtain ⟨obA, fvA, getA, zcA, datA⟩ := flA.there
    have away : e ∉ frs (X.env :: X.outer) := fun mem => by
      obtain ⟨_, o', get', nf⟩ := flA.2.2.1.mem mem
      rw [getA] at get'
      cases get'
      exact nf _ datA
    have nLoc : e ≠ X.env.locals := fun z => away (List.mem_filterMap.mpr ⟨X.env, List.mem_cons_self, by rw [hfm, z]⟩)
    have nFs : e ∉ X.fs := fun mem => by
      obtain ⟨en, hen, q⟩ := List.mem_filterMap.mp mem
      exact away (List.mem_filterMap.mpr ⟨en, List.mem_cons_of_mem _ hen, q⟩)
    have SA := JA.suite getA datA na nLoc nFs
    have typed : PySem.W.Looks (model X.prog X.w) hA (typeOf (.ref e)) cls := fun A Q E s k q => wpAny_typeOf_ref (k _ _ getA) (by rw [zcA.1]; exact q)
    suffices walk : ∀ {ks : List ExceptHandler} {ls : List Clause}, Clauses X n ks ls → wishes X.K i Wout D ls cls d σ' H' → wpAny (model X.prog X.w) X.A (handleBy (.ref e) X.env ks) (SP X pins D) X.xe { sE with heap := hA } from walk all want
    intro ks ls cl
    induction cl with
    | nil =>
      intro w
      refine wpAny_handleBy_nil ?_
      obtain ⟨_, _, _, ob, fv, T, oT, ts', gob, zob, dob, d1, _⟩ := id flA
      unfold PySem.passOn
      refine wpAny_bind (wpAny_field gob dob d1 ?_)
      rw [if_neg (show ¬ ((Value.ref T == Value.none) = true) from by simp)]
      have leave : wpAny (model X.prog X.w) X.A (setFlight (.ref e) X.env.frame) (fun _ sN => wpAny (model X.prog X.w) X.A (throw (.ref e) : Sem Flow) (SP X pins D) X.xe sN) X.xe { sE with heap := hA } := by
        rw [hfm]
        refine HandSPX.setFlight_upZ flA ?_
        intro hB inB upB
        refine wpAny_throw (tk _ _ ⟨e, B, sI, pins, σ', H', cls, d, rfl, J, nb, (grow.trans upA).trans upB, .inr (.inr ?_), na, sos, ag, w⟩)
        rw [hst]
        exact inB
      first | exact wpAny_bind (wpAny_pure (wpAny_bind leave)) | exact wpAny_bind leave
    | @cons x c ts st sts p1 p2 hs2 cs2 nm run more ih =>
      rintro ⟨b, eb, yes, no⟩
      refine wpAny_handleBy_cons (codeAny_handlers_test ?_) (fun q => nomatch q)
      have isC := PySem.W.exm_one (M := model X.prog X.w) JA.kIn typed eb
      have named : ∀ {Q E : Value → Shared → Prop}, Q c { sE with heap := hA } → wpAny (model X.prog X.w) (X.A.mark (some (.ref e))) (eval (.Name x p1) X.env) Q E { sE with heap := hA } := by
        intro Q E q
        obtain ⟨gl, nd, m | ⟨m, bv, nn⟩⟩ := nm
        · exact ld_glob (X := X.suite e ((e, obA) :: (X.pn ++ pins))) SA gl m q nd
        · exact ld_blt (X := X.suite e ((e, obA) :: (X.pn ++ pins))) SA gl m bv q nn nd
      refine named (isC.here ?_)
      cases b with
      | false =>
        show wpAny _ X.A (handleBy (.ref e) X.env hs2) _ _ _
        exact ih (no rfl)
      | true =>
        refine codeAny_handlers_suite_as (HandSPX.lands_againZ flA ?_)
        intro hB flB upB
        have JB : Inv X pins σ' H' { sE with heap := hB } := J.landed nb flB.1 ((grow.trans upA).trans upB) sos ag
        obtain ⟨obB, fvB, getB, zcB, datB⟩ := flB.there
        have SB := JB.suite getB datB na nLoc nFs
        refine store_ok (X := X.suite e ((e, obB) :: (X.pn ++ pins))) (v := .ref e) SB nd at_i isLoc rfl (fun s5 S5 => ?_) (.inr loc)
        refine wpAny_mono ((run e obB cls d (X.pn ++ pins) zcB ⟨_, datB⟩).run [] s5 _ H' _ S5 (yes rfl e na)) (fun f s6 sp => ?_) fun _ _ z => z.elim
        have unbind : ∀ {σ6 : L2.St} {H6 : Hp} {Q : Shared → Prop}, Inv (X.suite e ((e, obB) :: (X.pn ++ pins))) [] σ6 H6 s6 → (∀ s7, Inv X pins (σ6.set i none) H6 s7 → Q s7) →
            wpAny (model X.prog X.w) X.A (do bindName X.env n .none; unbindBehindTheSuite X.env n p2) (fun _ s7 => Q s7) X.xe s6 := fun S6 go => gone_ok (S6.unsuite okI) nd at_i loc go
        rcases f with _ | _ | _ | u
        all_goals first
          | (obtain ⟨v6, σ6, H6, S6, r6, q6⟩ := sp; exact unbind S6 fun s7 J7 => ⟨_, _, _, J7, r6, q6⟩)
          | (obtain ⟨σ6, H6, S6, q6⟩ := sp; exact unbind S6 fun s7 J7 => ⟨_, _, J7, q6⟩)
  · intro f s1 sp
    rcases f with _ | _ | _ | u
    all_goals first
      | (obtain ⟨v, σ', H', J', r, q⟩ := sp; exact ⟨v, σ', H', J'.ofTry okI, r, q⟩)
      | (obtain ⟨σ', H', J', q⟩ := sp; first | exact wpAny_execs_nil ⟨σ', H', J'.ofTry okI, q⟩ | exact ⟨σ', H', J'.ofTry okI, q⟩)⟩
end
end TAs
/-! isinstance of a caught error that has its own dict -/
namespace PySem.W
open PySem PySem.Spec PySem.Calls PyProof.Rows
section
variable {prog : Program} {w : World} {A : Around} {E : Value → Shared → Prop} {s : Shared} {K : Frag} {x D : Addr} {ox : Obj} {od : Option Obj}
theorem k14_find {C : Addr} {name : Str} {a g : Value} (hc : (clsIn K C).isSome = true) (ha : findIn K (.ref C) name = some (some a)) (hg : specialIn K a "__get__" = some (some g)) (ht : takesIn K a = some true) : findObj K C od name = some (.bind g a) := by
  cases hq : clsIn K C with
  | none => rw [hq] at hc; cases hc
  | some cd => unfold findObj; rw [hq, Option.bind_some, ha, Option.bind_some]; simp [hg, ht]
theorem k14_class {Q : Option Value → Shared → Prop} (C : L2.ExcC K D) (X : K.In s.heap) (I : InstAt s.heap x ox D od) (h : Q (some (.ref D)) { s with toks := s.toks + 1 }) : wpAny (model prog w) A (getAttr? (.ref x) "__class__") Q E s := by
  obtain ⟨hga, hgt, hsub, hdct, ha, hn, htk, hm⟩ := C
  have hf : findObj K D od "__class__" = some (.bind (.builtin "getset_descriptor.__get__") (.builtin "object.__class__")) := k14_find (by obtain ⟨cd, hc, _⟩ := any_some hdct; rw [hc]; rfl) ha hn htk
  obtain ⟨hp, g, d, t, os⟩ := s
  have J0 := I.type (M := model prog w)
  have J1 := looks_findIn (M := model prog w) X hga
  have J2 := looks_findIn (M := model prog w) X hgt
  have J3 := looks_find (M := model prog w) X I hf
  have sb : Looks (model prog w) hp (isInstance (.ref x) (.type "BaseException")) true := J0.andThen (looks_subIn X hsub)
  have z0 : (false && onTheHeap (Value.builtin "BaseException.__getattribute__")) = false := rfl
  have z2 : (Value.builtin "BaseException.__getattribute__" == Value.builtin "object.__getattribute__") = false := by decide +kernel
  have z1 : (onTheHeap (Value.ref D) && Value.builtin "BaseException.__getattribute__" == Value.builtin "object.__getattribute__") = false := by rw [z2]; rfl
  unfold getAttr? getAttrBy? getAttrBy
  apply wpAny_bind; apply wpAny_mkText; apply wpAny_bind; apply wpAny_attempt; apply wpAny_holding; apply wpAny_bind; apply J0.at; apply wpAny_bind; apply J1.at
  show wpAny _ _ (if (onTheHeap (Value.ref D) && Value.builtin "BaseException.__getattribute__" == Value.builtin "object.__getattribute__") = true then _ else _) _ _ _
  rw [z1, if_neg Bool.false_ne_true]
  unfold getAttrByItsOwn hookBefore
  apply wpAny_bind
  rw [if_pos (show onTheHeap (Value.ref D) = true from rfl)]
  apply J2.at; apply wpAny_bind; apply wpAny_attempt; apply wpAny_holding
  unfold callGetattribute
  rw [z0, if_neg Bool.false_ne_true]
  unfold boundAndCalled
  rw [PySem.F.excAttr_ValueError.ga.bind (.ref x)]
  apply wpAny_bind; apply wpAny_pure
  show wpAny _ _ (call (.builtin "BaseException.__getattribute__") [.ref x, .str "__class__" t]) _ _ _
  apply wpAny_call; apply codeAny_call_builtin PySem.F.excAttr_ValueError.ga.plain PySem.F.entry_bexc_ga
  apply @check_slot (model prog w) _ _ ⟨hp, g, d, t + 1, os⟩ "BaseException.__getattribute__" "BaseException" "__getattribute__" (.ref x) [.str "__class__" t] [] _ (by decide +kernel) (by decide +kernel) sb (PySem.F.args_bexc_ga (.ref x) (.str "__class__" t))
  unfold Builtin.«object.__getattribute__»
  apply wpAny_bind; apply wpAny_of_eq (a := ((Value.ref x : Value), [Value.str "__class__" t])) (by first | rfl | (simp only [slotArgs]; rfl))
  apply wpAny_bind; apply wpAny_pure; apply wpAny_bind; apply J0.at; apply wpAny_bind; apply J3.at
  show wpAny _ _ (holding [Value.builtin "object.__class__"] (call (.builtin "getset_descriptor.__get__") [.builtin "object.__class__", .ref x, .ref D]) >>= ret) _ _ _
  apply wpAny_bind; apply wpAny_holding; apply wpAny_call; apply class_get (s := ⟨hp, g, d, t + 1, os⟩) (ox := ox) (od := od) X I hm
  apply wpAny_pure
  show wpAny _ _ (handedOut (.ref D)) _ _ _
  rw [handedOut_of (v := .ref D) rfl]
  first
    | exact wpAny_pure (wpAny_pure h)
    | exact wpAny_pure h
    | exact wpAny_pure (wpAny_bind (wpAny_pure (wpAny_pure h)))
theorem k14_cls {C : Addr} (h : (clsIn K C).isSome = true) : ∃ cc dd dt sl, K.lookup C = some ⟨cc, dd, .cls dt, sl⟩ := by
  unfold clsIn at h
  split at h
  · rename_i e; exact ⟨_, _, _, _, e⟩
  · cases h
theorem k14_kit (C : L2.ExcC K D) : KitX K (.ref x) (.ref D) (fun h => ∃ (ox : Obj) (od : Option Obj), InstAt h x ox D od) where
  ty := fun _ _ _ ⟨_, _, I⟩ => I.type
  it := fun _ _ X _ => by
    obtain ⟨cd, hcd, _⟩ := any_some C.hd
    obtain ⟨cc, dd, dt, sl, ho⟩ := k14_cls (K := K) (C := D) (by rw [hcd]; rfl)
    intro A' Q' E' s' k q
    unfold isType loadHead
    exact wpAny_bind (wpAny_loadPart (k _ _ (X _ _ ho)) (wpAny_pure q))
  ne := fun h tp dd its n sl X htp => by
    obtain ⟨cd, hcd, _⟩ := any_some C.hd
    obtain ⟨cc, dd', dt, sl', ho⟩ := k14_cls (K := K) (C := D) (by rw [hcd]; rfl)
    by_cases e : D = tp
    · subst e
      have z := (X _ _ ho).symm.trans htp
      cases z
    · exact beq_eq_false_iff_ne.mpr fun q => e (Value.ref.inj q)
  ca := fun X ⟨_, _, I⟩ k => k14_class C X I k
end
end PySem.W
namespace L2
open PySem PySem.Spec PyProof.Rows
/-! ### f(k = v) in a try -/
section
variable {X : Cx} {CX : CXT} {k : Nat} {f : Addr} {fd : FuncData} {kn : Str} {sp : Sp} {E : St → XK} {x : Str} {p pos kpos : Pos} {e : Expr} {te : TE}
def tKw1 (sp : Sp) (E : St → XK) (te : TE) : TE := fun σ H Q => tCons te tNil σ H fun vs H1 => vs.length = 1 ∧ sp vs H1 Q (E σ)
theorem pe_callKw1 (F : FnOk X.prog X.w X.K X.mg X.base CX k f fd [kn] sp) (hr : Room k X.A) (hg : Gl X x) (hm : X.mg x = some (.ref f)) (hk : PySem.W.keepIn X.K (.ref f) = true)
    (hb : ∀ (s : Shared) (u : Value), BindsTo s fd ⟨[], [(kn, u)]⟩ [(kn, u)]) (hx : ∀ σ, PassesAt CX X σ (E σ)) (he : PE X e te)
    (hall : (backToKw pos (keywordEach [⟨some kn, e, kpos⟩] X.env)).all (·.1.isSome) = true := by rfl) (hks : (backToKw pos (keywordEach [⟨some kn, e, kpos⟩] X.env)).filterMap (·.1) = [kn] := by rfl)
    (hdb : (x == ("__debug__" : Str)) = false := by decide) (hpl : ((backTo pos (starEach [] X.env)).any (·.1) || (backToKw pos (keywordEach [⟨some kn, e, kpos⟩] X.env)).any (·.1.isNone)) = false := by rfl) :
    PE X (.Call (.Name x p) [] [⟨some kn, e, kpos⟩] pos) (tKw1 sp E te) := ⟨by
  intro pins s σ H Q I h
  have pk : PK X [⟨some kn, e, kpos⟩] (tCons te tNil) := pk_cons he pk_nil
  apply wpAny_Call_Name_kw
  apply ld_glob I hg hm _ hdb
  apply PySem.W.callWith_KW0 (h₀ := X.base) I.ok.mod.kin hk hall _ hpl
  apply thn (pk.run pos pins s σ H _ I h)
  rintro ws s2 ⟨zs, H2, I2, rz, hl, q2⟩
  refine ⟨I2.kIn, ?_⟩
  rw [hks]
  obtain ⟨v, rfl⟩ : ∃ v, zs = [v] := List.length_eq_one_iff.mp hl
  obtain ⟨u, rfl, ru⟩ := vals1 rz
  apply wpAny_call
  apply codeAny_mono (F.run X.A X.stack s2 H2 ⟨[], [(kn, u)]⟩ [u] [v] Q (E σ) hr I2.env0 (hb s2 u) rz q2)
  intro r s' hq
  match r, hq with
  | .error er, hq => exact hx σ pins H2 s2 er s' I2 hq
  | .ok (.ret _), hq => exact I2.after hq
  | .ok .next, hq => exact hq.elim
  | .ok .brk, hq => exact hq.elim
  | .ok .cont, hq => exact hq.elim⟩
end
/-! ### isinstance(e, c), isinstance(e, (c, ..)), e the error that the suite holds -/
def rIsX (K : PySem.W.Frag) (a : Addr) (cls : Value) (d : Option Addr) : List V → Hp → VK → Prop := fun xs H Q => ∃ (D dd : Addr) (fs : List (Str × V)) (c : V) (cv : Value) (b : Bool),
  cls = .ref D ∧ d = some dd ∧ ExcC K D ∧ H dd = some (.xd fs) ∧ xs = [.ref a, c] ∧ ClsV c cv ∧ PySem.W.kitOne K (.ref D) cv = some b ∧ Q (.bl b) H
def rIsXT (K : PySem.W.Frag) (a : Addr) (cls : Value) (d : Option Addr) : List V → Hp → VK → Prop := fun xs H Q => ∃ (D dd tp : Addr) (fs : List (Str × V)) (cs : List V) (us : List Value) (b : Bool),
  cls = .ref D ∧ d = some dd ∧ ExcC K D ∧ H dd = some (.xd fs) ∧ xs = [.ref a, .ref tp] ∧ H tp = some (.tup cs) ∧ Paired ClsV cs us ∧ PySem.W.kitAny K (.ref D) us = some b ∧ Q (.bl b) H
section
variable {X : Cx} {a : Addr} {oe : Obj} {cls : Value} {d : Option Addr} {pn : List (Addr × Obj)}
theorem suite_inst {pins : List (Addr × Obj)} {σ : St} {H : Hp} {s : Shared} {D dd : Addr} {fs : List (Str × V)} (hz : Zc (.ref D) (some dd) oe) (hf : ∃ vs, oe.data = .fields vs) (I : Inv (X.suite a ((a, oe) :: pn)) pins σ H s) (hd : H dd = some (.xd fs)) :
    ∃ od, PySem.W.InstAt s.heap a oe D (some od) := by
  obtain ⟨hget, _⟩ := I.pin (a, oe) (List.mem_append_left _ List.mem_cons_self)
  obtain ⟨vs, hv⟩ := hf
  obtain ⟨mA, hns, _⟩ := (show ObjOk X.prog X.w H s.heap dd (.xd fs) from I.hok dd _ hd)
  obtain ⟨od, ho, _⟩ := lookIn_ns hns
  exact ⟨od, hget, hz.1, by unfold PySem.W.notCls; rw [hv] <;> rfl, by rw [hz.2]; exact ho⟩
theorem call_isX (hz : Zc cls d oe) (hf : ∃ vs, oe.data = .fields vs) : CallR (X.suite a ((a, oe) :: pn)) (.builtin "isinstance") (rIsX X.K a cls d) := by
  rintro pins s σ H xs us Q I r ⟨D, dd, fs, c, cv, b, rfl, rfl, C, hd, rfl, k, e, q⟩
  obtain ⟨u1, u2, rfl, r1, r2⟩ := vals2 r
  obtain rfl : u1 = Value.ref a := r1
  have ec := k.eq r2
  subst ec
  obtain ⟨od, J⟩ := suite_inst hz hf I hd
  exact PySem.W.kia_one (PySem.W.k14_kit C) I.kIn ⟨oe, some od, J⟩ e (fun z => nomatch z) fun tk => ⟨.bl b, H, I.tok tk, rfl, q⟩
theorem call_isXT (hz : Zc cls d oe) (hf : ∃ vs, oe.data = .fields vs) : CallR (X.suite a ((a, oe) :: pn)) (.builtin "isinstance") (rIsXT X.K a cls d) := by
  rintro pins s σ H xs us Q I r ⟨D, dd, tp, fs, cs, ws, b, rfl, rfl, C, hd, rfl, hT, k, e, q⟩
  obtain ⟨u1, u2, rfl, r1, r2⟩ := vals2 r
  obtain rfl : u1 = Value.ref a := r1
  obtain rfl : u2 = Value.ref tp := r2
  obtain ⟨od, J⟩ := suite_inst hz hf I hd
  obtain ⟨_, its, rv, o, h1, h2, n, h3⟩ := (show ObjOk X.prog X.w H s.heap tp (.tup cs) from I.hok tp _ hT)
  have e3 := ClsV.all k rv
  subst e3
  obtain ⟨oc, od', dt, sl⟩ := o
  dsimp only at h2 h3
  subst h2 h3
  exact PySem.W.kia_tup (PySem.W.k14_kit C) I.kIn ⟨oe, some od, J⟩ h1 e (fun z => nomatch z) fun tk => ⟨.bl b, H, I.tok tk, rfl, q⟩
end
end L2
namespace K18
open PySem L2
section
variable {P : Program} {w : World} {K : PySem.W.Frag} {mg : Str → Option Value} {base : Heap}
abbrev sInitT : Stmt := inClass (top 6) 0
structure IT (K : PySem.W.Frag) (mg : Str → Option Value) (C fI : Addr) (fd : FuncData) : Prop where
  o : OexC K C
  iC : PySem.W.findIn K (.ref C) "__init__" = some (some (.ref fI))
  tI : PySem.W.typeIn K (.ref fI) = some (.type "function")
  n1 : PySem.W.findIn K (.ref C) "problem" = some none
  n2 : PySem.W.findIn K (.ref C) "_told" = some none
  m : mg "InvalidText" = some (.ref C)
  F : Fun K "__init__" "InvalidText.__init__" sInitT fI fd
  b : Binds K fd ["self", "problem"] []
def spInitT (C : Addr) : Sp := fun vs H Q _ => ∃ (a : Addr) (v : V), vs = [.ref a, v] ∧ H a = some (exo a C none) ∧
  ∀ (H' : Hp) (d t : Addr), H d = none → d ≠ a → H' a = some (exo a C (some d)) → H' d = some (exd d [("_told", .ref t), ("problem", v)]) → H' t = some (.tup [v]) → (∀ b o, b ≠ a → H b = some o → H' b = some o) → Q .non H'
theorem scInT : FnScope ["self", "problem"] ["self", "problem"] (defScope sInitT) := ⟨rfl, rfl, rfl, by decide +kernel, rfl, by decide +kernel, by decide +kernel⟩
theorem ok_initT {C f : Addr} {fd : FuncData} (T : IT K mg C f fd) : FnOk P w K mg base CX0 1 f fd ["self", "problem"] (spInitT C) := by
  refine T.F.ok scInT (fun vs H Q E h => ?_) (fun cdv A outer_ s H vs Q E hr h => ?_)
  · obtain ⟨a, v, rfl, _⟩ := h
    rfl
  · obtain ⟨a, v, rfl, he, k⟩ := h
    refine ⟨_, pss_cons (ps_ost (pv 0) (pv 1)) (pss_one (ps_ost (pv 0) (pe_tup (pa_cons (pv 1) pa_nil)))), ?_⟩
    refine ⟨_, rfl, _, rfl, a, C, rfl, T.o, T.n1, .inl ⟨he, fun d hd hne => ?_⟩⟩
    refine ⟨_, rfl, (by show 1 ≤ sizeLine; decide), fun t ht => ?_⟩
    have nt : t ≠ a := fun e => by rw [e, upd_same] at ht; cases ht
    have nd : t ≠ d := fun e => by rw [e, upd_ne hne, upd_same] at ht; cases ht
    refine ⟨_, rfl, a, C, rfl, T.o, T.n2, .inr ⟨d, [("problem", v)], ?_, ?_, (show 1 ≤ 900 by decide), ?_⟩⟩
    · rw [upd_ne (Ne.symm nt), upd_same]
    · rw [upd_ne (Ne.symm nd), upd_ne hne, upd_same]
    · refine k _ d t hd hne ?_ upd_same (by rw [upd_ne nd, upd_same]) fun b o hb e => ?_
      · rw [upd_ne (Ne.symm hne), upd_ne (Ne.symm nt), upd_same]
      · have n1 : b ≠ d := ne_of_none e hd
        have n2 : b ≠ t := fun z => by
          rw [upd_ne nt, upd_ne nd] at ht
          rw [z, ht] at e
          cases e
        rw [upd_ne n1, upd_ne n2, upd_ne hb, upd_ne n1]
        exact e
abbrev sInitK : Stmt := inClass (top 4) 0
structure IK (K : PySem.W.Frag) (mg : Str → Option Value) (C fI : Addr) (fd : FuncData) : Prop where
  o : OexC K C
  iC : PySem.W.findIn K (.ref C) "__init__" = some (some (.ref fI))
  tI : PySem.W.typeIn K (.ref fI) = some (.type "function")
  n1 : PySem.W.findIn K (.ref C) "value" = some none
  n2 : PySem.W.findIn K (.ref C) "_told" = some none
  m : mg "InvalidName" = some (.ref C)
  F : Fun K "__init__" "InvalidName.__init__" sInitK fI fd
  b : Binds K fd ["self", "value"] []
def spInitK (C : Addr) : Sp := fun vs H Q _ => ∃ (a : Addr) (v : V), vs = [.ref a, v] ∧ H a = some (exo a C none) ∧
  ∀ (H' : Hp) (d t : Addr), H d = none → d ≠ a → H' a = some (exo a C (some d)) → H' d = some (exd d [("_told", .ref t), ("value", v)]) → H' t = some (.tup [v]) → (∀ b o, b ≠ a → H b = some o → H' b = some o) → Q .non H'
theorem scInK : FnScope ["self", "value"] ["self", "value"] (defScope sInitK) := ⟨rfl, rfl, rfl, by decide +kernel, rfl, by decide +kernel, by decide +kernel⟩
theorem ok_initK {C f : Addr} {fd : FuncData} (T : IK K mg C f fd) : FnOk P w K mg base CX0 1 f fd ["self", "value"] (spInitK C) := by
  refine T.F.ok scInK (fun vs H Q E h => ?_) (fun cdv A outer_ s H vs Q E hr h => ?_)
  · obtain ⟨a, v, rfl, _⟩ := h
    rfl
  · obtain ⟨a, v, rfl, he, k⟩ := h
    refine ⟨_, pss_cons (ps_ost (pv 0) (pv 1)) (pss_one (ps_ost (pv 0) (pe_tup (pa_cons (pv 1) pa_nil)))), ?_⟩
    refine ⟨_, rfl, _, rfl, a, C, rfl, T.o, T.n1, .inl ⟨he, fun d hd hne => ?_⟩⟩
    refine ⟨_, rfl, (by show 1 ≤ sizeLine; decide), fun t ht => ?_⟩
    have nt : t ≠ a := fun e => by rw [e, upd_same] at ht; cases ht
    have nd : t ≠ d := fun e => by rw [e, upd_ne hne, upd_same] at ht; cases ht
    refine ⟨_, rfl, a, C, rfl, T.o, T.n2, .inr ⟨d, [("value", v)], ?_, ?_, (show 1 ≤ 900 by decide), ?_⟩⟩
    · rw [upd_ne (Ne.symm nt), upd_same]
    · rw [upd_ne (Ne.symm nd), upd_ne hne, upd_same]
    · refine k _ d t hd hne ?_ upd_same (by rw [upd_ne nd, upd_same]) fun b o hb e => ?_
      · rw [upd_ne (Ne.symm hne), upd_ne (Ne.symm nt), upd_same]
      · have n1 : b ≠ d := ne_of_none e hd
        have n2 : b ≠ t := fun z => by
          rw [upd_ne nt, upd_ne nd] at ht
          rw [z, ht] at e
          cases e
        rw [upd_ne n1, upd_ne n2, upd_ne hb, upd_ne n1]
        exact e
/-- the error leaves, with this one in its field -/
def Bad (fld : Str) (C : Addr) (H : Hp) (v : V) (E : XK) : Prop := ∀ (H' : Hp) (d : Addr) (fs : List (Str × V)), Same H H' → H d = none → H' d = some (.xd fs) → List.lookup fld fs = some v → (∃ t, List.lookup ("_told" : Str) fs = some (V.ref t) ∧ H' t = some (.tup [v])) → E (.ref C) (some d) H'
theorem bad_of {fld : Str} {C : Addr} {H H0 : Hp} {v : V} {E : XK} (s : Same H H0) (b : Bad fld C H v E) : Bad fld C H0 v E := fun H' d fs s' hd e1 e2 e3 => b H' d fs (s.trans s') (s.free hd) e1 e2 e3
theorem mkK {C : Addr} {E : XK} (H0 : Hp) (v : V) (hb : Bad "value" C H0 v E) : 1 ≤ 1000 ∧ ∀ a, H0 a = none → spInitK C (.ref a :: ([v] ++ [])) (upd H0 a (exo a C none))
    (fun u H2 => u = .non ∧ ∃ (d : Addr) (fs : List (Str × V)), H2 a = some (exo a C (some d)) ∧ H2 d = some (exd d fs) ∧ H0 d = none ∧ E (.ref C) (some d) (upd (del H2 a) d (.xd fs))) (fun _ _ _ => False) := by
  refine ⟨by decide, fun a ha => ⟨a, v, rfl, upd_same, fun H2 d t hd hne he1 he2 ht hs => ⟨rfl, d, _, he1, he2, ?_, ?_⟩⟩⟩
  · rw [upd_ne hne] at hd
    exact hd
  · refine hb _ d [("_told", .ref t), ("value", v)] (fun b o e => ?_) (by rw [upd_ne hne] at hd; exact hd) upd_same (by rfl) ⟨t, by rfl, by rw [upd_ne (fun z => by rw [z, he2] at ht; cases ht), del_ne (fun z => by rw [z, he1] at ht; cases ht)]; exact ht⟩
    have nb : b ≠ a := ne_of_none e ha
    have nd : b ≠ d := fun z => by
      rw [z] at e
      rw [upd_ne hne, e] at hd
      cases hd
    rw [upd_ne nd, del_ne nb]
    exact hs b o nb (by rw [upd_ne nb]; exact e)
theorem mkT {C : Addr} {E : XK} (H0 : Hp) (v : V) (hb : Bad "problem" C H0 v E) : 1 ≤ 1000 ∧ ∀ a, H0 a = none → spInitT C (.ref a :: ([v] ++ [])) (upd H0 a (exo a C none))
    (fun u H2 => u = .non ∧ ∃ (d : Addr) (fs : List (Str × V)), H2 a = some (exo a C (some d)) ∧ H2 d = some (exd d fs) ∧ H0 d = none ∧ E (.ref C) (some d) (upd (del H2 a) d (.xd fs))) (fun _ _ _ => False) := by
  refine ⟨by decide, fun a ha => ⟨a, v, rfl, upd_same, fun H2 d t hd hne he1 he2 ht hs => ⟨rfl, d, _, he1, he2, ?_, ?_⟩⟩⟩
  · rw [upd_ne hne] at hd
    exact hd
  · refine hb _ d [("_told", .ref t), ("problem", v)] (fun b o e => ?_) (by rw [upd_ne hne] at hd; exact hd) upd_same (by rfl) ⟨t, by rfl, by rw [upd_ne (fun z => by rw [z, he2] at ht; cases ht), del_ne (fun z => by rw [z, he1] at ht; cases ht)]; exact ht⟩
    have nb : b ≠ a := ne_of_none e ha
    have nd : b ≠ d := fun z => by
      rw [z] at e
      rw [upd_ne hne, e] at hd
      cases hd
    rw [upd_ne nd, del_ne nb]
    exact hs b o nb (by rw [upd_ne nb]; exact e)
end
end K18
namespace K18
open PySem L2 OwE
/-! ### isinstance of an exception -/
def rIsX (K : PySem.W.Frag) : List V → Hp → VK → Prop := fun xs H Q => ∃ (a C dd : Addr) (fs : List (Str × V)) (c : V) (cv : Value) (b : Bool), xs = [.ref a, c] ∧ ClN.ExAt H a C dd fs ∧ ExcC K C ∧ ClsV c cv ∧ PySem.W.kitOne K (.ref C) cv = some b ∧ Q (.bl b) H
def rIsXT (K : PySem.W.Frag) : List V → Hp → VK → Prop := fun xs H Q => ∃ (a C dd : Addr) (fs : List (Str × V)) (tp : Addr) (cs : List V) (us : List Value) (b : Bool), xs = [.ref a, .ref tp] ∧ H tp = some (.tup cs) ∧ Paired ClsV cs us ∧ ClN.ExAt H a C dd fs ∧ ExcC K C ∧ PySem.W.kitAny K (.ref C) us = some b ∧ Q (.bl b) H
section
variable {X : Cx}
theorem call_isX : CallR X (.builtin "isinstance") (rIsX X.K) := by
  intro pins s σ H xs us Q I r h
  obtain ⟨a, C, dd, fs, c, cv, b, rfl, ex, T, k, e, q⟩ := h
  obtain ⟨u1, u2, rfl, r1, r2⟩ := vals2 r
  have e2 := k.eq r2
  subst e2
  cases (show u1 = Value.ref a from r1)
  obtain ⟨oe, od, mA, J, _⟩ := ClN.inst_of I.hok ex
  exact PySem.W.kia_one (PySem.W.k14_kit T) I.kIn ⟨oe, some od, J⟩ e (fun z => nomatch z) fun tk => ⟨.bl b, H, I.tok tk, rfl, q⟩
theorem call_isXT : CallR X (.builtin "isinstance") (rIsXT X.K) := by
  intro pins s σ H xs us Q I r h
  obtain ⟨a, C, dd, fs, tp, cs, ws, b, rfl, hT, k, ex, T, e, q⟩ := h
  obtain ⟨u1, u2, rfl, r1, r2⟩ := vals2 r
  cases (show u2 = Value.ref tp from r2)
  cases (show u1 = Value.ref a from r1)
  obtain ⟨_, its, rv, ob, h1, h2, n, h3⟩ := (show ObjOk X.prog X.w H s.heap tp (.tup cs) from I.hok tp _ hT)
  have e3 := ClsV.all k rv
  subst e3
  obtain ⟨oc, od', dt, sl⟩ := ob
  simp only at h2 h3; subst h2 h3
  obtain ⟨oe, od, mA, J, _⟩ := ClN.inst_of I.hok ex
  exact PySem.W.kia_tup (PySem.W.k14_kit T) I.kIn ⟨oe, some od, J⟩ h1 e (fun z => nomatch z) fun tk => ⟨.bl b, H, I.tok tk, rfl, q⟩
end
/-! ### which class is which -/
def famN : Fa → Nat
  | .val => 42
  | .look => 43
  | .run => 44
  | .arith => 45
def isK (k j : Nat) : Bool := decide (j = k) || decide (j = famN (cl4 k).fa)
def words46 : List Str := [("InvalidName" : Str), ("InvalidLabel" : Str), ("InvalidText" : Str), ("InvalidRow" : Str), ("InvalidKey" : Str), ("InvalidColumns" : Str), ("InvalidRule" : Str), ("InvalidSource" : Str), ("InvalidEntry" : Str), ("InvalidCount" : Str), ("InvalidCommand" : Str), ("InvalidLine" : Str), ("InvalidEvent" : Str), ("WrongValues" : Str), ("WrongSort" : Str), ("UnknownSource" : Str), ("UnknownColumn" : Str), ("UnknownKind" : Str), ("UnknownEntry" : Str), ("NoEntry" : Str), ("NoRow" : Str), ("NoMemo" : Str), ("UnknownUser" : Str), ("UnknownOffer" : Str), ("NameTaken" : Str), ("Taken" : Str), ("Waiting" : Str), ("Missing" : Str), ("Broken" : Str), ("Restricted" : Str), ("InUse" : Str), ("WouldSuspend" : Str), ("ReplayDiffers" : Str), ("InTransaction" : Str), ("NoTransaction" : Str), ("SessionEnded" : Str), ("OwnOffer" : Str), ("NotAllowed" : Str), ("OutOfSequence" : Str), ("Behind" : Str), ("TooMany" : Str), ("TooDear" : Str), ("InvalidError" : Str), ("MissingError" : Str), ("StateError" : Str), ("LimitError" : Str)]
structure K46 (K : PySem.W.Frag) (mg : Str → Option Value) (C D : Nat → Addr) : Prop where
  te : ∀ k, k < 42 → TeC K (C k) (cl4 k).n
  m : ∀ j x, words46[j]? = some x → mg x = some (.ref (D j))
  kit : ∀ k j, k < 42 → j < 46 → PySem.W.kitOne K (.ref (C k)) (.ref (D j)) = some (isK k j)
  zIs : mg "isinstance" = none
  no : ∀ k, k < 42 → ∀ n ∈ (cl4 k).ns, PySem.W.findIn K (.ref (C k)) n = some none
section
variable {P : Program} {w : World} {K : PySem.W.Frag} {mg : Str → Option Value} {base : Heap} {C D f : Nat → Addr} {d : Nat → FuncData}
/-- the flags of these -/
def spFl (C : Nat → Addr) (js : List Nat) : Sp := fun vs H Q _ => ∃ (k : Nat) (x : Addr) (ws : List V), vs = [.ref x] ∧ k < 42 ∧ Made C k ws H x ∧ ∀ H' p, Same H H' → H' p = some (.lst (js.map fun j => V.bl (isK k j))) → Q (.ref p) H'
/-- [isinstance(e, ..), ..] -/
def tIsl (K : PySem.W.Frag) (D : Nat → Addr) : List Nat → TA
  | [] => tNil
  | j :: js => tCons (tCB (rIsX K) (tCons (tVar 0) (tCons (tC (.ref (D j))) tNil))) (tIsl K D js)
theorem isl_rd {σ : St} {H : Hp} {x : Addr} {k : Nat} (hx : σ[0]? = some (some (.ref x))) (is : ∀ {Q : VK} (j : Nat), j < 46 → Q (.bl (isK k j)) H → rIsX K [.ref x, .ref (D j)] H Q) :
    ∀ (js : List Nat) (Q : List V → Hp → Prop), (∀ j ∈ js, j < 46) → Q (js.map fun j => V.bl (isK k j)) H → tIsl K D js σ H Q
  | [], Q, _, h => h
  | j :: js, Q, hj, h => by
    refine ⟨.ref x, hx, ?_⟩
    show rIsX K [.ref x, .ref (D j)] H (fun y H1 => tIsl K D js σ H1 fun xs H2 => Q (y :: xs) H2)
    exact is j (hj j List.mem_cons_self) (isl_rd hx is js (fun xs H2 => Q (V.bl (isK k j) :: xs) H2) (fun i hi => hj i (List.mem_cons_of_mem _ hi)) h)
theorem lst_rd {σ : St} {H : Hp} {x : Addr} {k : Nat} {Q : VK} (js : List Nat) (hx : σ[0]? = some (some (.ref x))) (is : ∀ {Q : VK} (j : Nat), j < 46 → Q (.bl (isK k j)) H → rIsX K [.ref x, .ref (D j)] H Q) (hj : ∀ j ∈ js, j < 46) (hl : js.length ≤ 46)
    (h : ∀ H' p, Same H H' → H' p = some (.lst (js.map fun j => V.bl (isK k j))) → Q (.ref p) H') : tLst (tIsl K D js) σ H Q :=
  isl_rd hx is js _ hj ⟨by rw [List.length_map]; exact Nat.le_trans hl (by decide), fun p hp => h _ p (same_upd hp) upd_same⟩
theorem set_rd {H : Hp} {x : Addr} {k : Nat} {D' : Ends} {v0 : Option V} (js : List Nat) (is : ∀ {Q : VK} (j : Nat), j < 46 → Q (.bl (isK k j)) H → rIsX K [.ref x, .ref (D j)] H Q) (hj : ∀ j ∈ js, j < 46) (hl : js.length ≤ 46)
    (h : ∀ H' p, Same H H' → H' p = some (.lst (js.map fun j => V.bl (isK k j))) → D'.nx [some (.ref x), some (.ref p)] H') : tAsg (tLst (tIsl K D js)) (gName 1) D' [some (.ref x), v0] H :=
  lst_rd js rfl is hj hl h
theorem cat_rd {H : Hp} {x p : Addr} {k : Nat} {D' : Ends} {L : List V} (js : List Nat) (hp : H p = some (.lst L)) (l : L.length ≤ 100) (is : ∀ {Q : VK} (j : Nat), j < 46 → Q (.bl (isK k j)) H → rIsX K [.ref x, .ref (D j)] H Q) (hj : ∀ j ∈ js, j < 46) (hl : js.length ≤ 46)
    (h : ∀ H' q, Same H H' → H' q = some (.lst (L ++ js.map fun j => V.bl (isK k j))) → D'.nx [some (.ref x), some (.ref q)] H') : tAsg (tOp rCat (tVar 1) (tLst (tIsl K D js))) (gName 1) D' [some (.ref x), some (.ref p)] H := by
  refine ⟨.ref p, rfl, lst_rd js rfl is hj hl fun H1 q s1 hq => ?_⟩
  refine ⟨p, q, _, _, rfl, rfl, s1 _ _ hp, hq, ?_, fun r hr => h _ r (s1.trans (same_upd hr)) upd_same⟩
  rw [List.length_map]
  exact Nat.le_trans (show L.length + js.length ≤ 200 by omega) (by decide)
theorem sc_flA : FnScope ["_law_e", "_law_found"] ["_law_e"] (defScope sFlagsA) := ⟨rfl, rfl, rfl, by decide +kernel, rfl, by decide +kernel, by decide +kernel⟩
theorem ok_flA {g : Addr} {fd : FuncData} (F : Fun K "_law_first_flags" "_law_first_flags" sFlagsA g fd) (T : K46 K mg C D) : FnOk P w K mg base CX0 1 g fd ["_law_e"] (spFl C [0, 1, 2, 3, 4, 5, 6, 7, 8, 9, 10, 11, 12, 13, 14, 15, 16, 17, 18, 19, 20, 21, 22, 23]) := by
  refine F.ok sc_flA (fun vs H Q E h => ?_) (fun cdv A outer_ s H vs Q E hr h => ?_)
  · obtain ⟨k, x, ws, rfl, _⟩ := h
    rfl
  · obtain ⟨k, x, ws, rfl, hk, mk, go⟩ := h
    obtain ⟨dd, t, ex, ht⟩ := mk.e
    have X := (T.te k hk).x
    have is : ∀ {G : Hp} {Q : VK} (j : Nat), j < 46 → Same H G → Q (.bl (isK k j)) G → rIsX K [.ref x, .ref (D j)] G Q := fun j hj s q => ⟨x, C k, dd, _, .ref (D j), .ref (D j), isK k j, rfl, ex.same s, X, .own _, T.kit k j hk hj, q⟩
    refine ⟨_, (pss_cons (ps_set (i := 1) sc_flA.nd rfl (Or.inl rfl) (pe_lst (pa_cons (pe_callB call_isX (by rfl) T.zIs (by decide +kernel) (pa_cons (pv 0) (pa_cons (pe_glob (v := .ref (D 0)) (by rfl) (T.m 0 _ rfl) (by rfl)) pa_nil))) (pa_cons (pe_callB call_isX (by rfl) T.zIs (by decide +kernel) (pa_cons (pv 0) (pa_cons (pe_glob (v := .ref (D 1)) (by rfl) (T.m 1 _ rfl) (by rfl)) pa_nil))) (pa_cons (pe_callB call_isX (by rfl) T.zIs (by decide +kernel) (pa_cons (pv 0) (pa_cons (pe_glob (v := .ref (D 2)) (by rfl) (T.m 2 _ rfl) (by rfl)) pa_nil))) pa_nil)))))
      (pss_cons (ps_set (i := 1) sc_flA.nd rfl (Or.inl rfl) (pe_op op_cat (pv 1) (pe_lst (pa_cons (pe_callB call_isX (by rfl) T.zIs (by decide +kernel) (pa_cons (pv 0) (pa_cons (pe_glob (v := .ref (D 3)) (by rfl) (T.m 3 _ rfl) (by rfl)) pa_nil))) (pa_cons (pe_callB call_isX (by rfl) T.zIs (by decide +kernel) (pa_cons (pv 0) (pa_cons (pe_glob (v := .ref (D 4)) (by rfl) (T.m 4 _ rfl) (by rfl)) pa_nil))) (pa_cons (pe_callB call_isX (by rfl) T.zIs (by decide +kernel) (pa_cons (pv 0) (pa_cons (pe_glob (v := .ref (D 5)) (by rfl) (T.m 5 _ rfl) (by rfl)) pa_nil))) pa_nil))))))
      (pss_cons (ps_set (i := 1) sc_flA.nd rfl (Or.inl rfl) (pe_op op_cat (pv 1) (pe_lst (pa_cons (pe_callB call_isX (by rfl) T.zIs (by decide +kernel) (pa_cons (pv 0) (pa_cons (pe_glob (v := .ref (D 6)) (by rfl) (T.m 6 _ rfl) (by rfl)) pa_nil))) (pa_cons (pe_callB call_isX (by rfl) T.zIs (by decide +kernel) (pa_cons (pv 0) (pa_cons (pe_glob (v := .ref (D 7)) (by rfl) (T.m 7 _ rfl) (by rfl)) pa_nil))) (pa_cons (pe_callB call_isX (by rfl) T.zIs (by decide +kernel) (pa_cons (pv 0) (pa_cons (pe_glob (v := .ref (D 8)) (by rfl) (T.m 8 _ rfl) (by rfl)) pa_nil))) pa_nil))))))
      (pss_cons (ps_set (i := 1) sc_flA.nd rfl (Or.inl rfl) (pe_op op_cat (pv 1) (pe_lst (pa_cons (pe_callB call_isX (by rfl) T.zIs (by decide +kernel) (pa_cons (pv 0) (pa_cons (pe_glob (v := .ref (D 9)) (by rfl) (T.m 9 _ rfl) (by rfl)) pa_nil))) (pa_cons (pe_callB call_isX (by rfl) T.zIs (by decide +kernel) (pa_cons (pv 0) (pa_cons (pe_glob (v := .ref (D 10)) (by rfl) (T.m 10 _ rfl) (by rfl)) pa_nil))) (pa_cons (pe_callB call_isX (by rfl) T.zIs (by decide +kernel) (pa_cons (pv 0) (pa_cons (pe_glob (v := .ref (D 11)) (by rfl) (T.m 11 _ rfl) (by rfl)) pa_nil))) pa_nil))))))
      (pss_cons (ps_set (i := 1) sc_flA.nd rfl (Or.inl rfl) (pe_op op_cat (pv 1) (pe_lst (pa_cons (pe_callB call_isX (by rfl) T.zIs (by decide +kernel) (pa_cons (pv 0) (pa_cons (pe_glob (v := .ref (D 12)) (by rfl) (T.m 12 _ rfl) (by rfl)) pa_nil))) (pa_cons (pe_callB call_isX (by rfl) T.zIs (by decide +kernel) (pa_cons (pv 0) (pa_cons (pe_glob (v := .ref (D 13)) (by rfl) (T.m 13 _ rfl) (by rfl)) pa_nil))) (pa_cons (pe_callB call_isX (by rfl) T.zIs (by decide +kernel) (pa_cons (pv 0) (pa_cons (pe_glob (v := .ref (D 14)) (by rfl) (T.m 14 _ rfl) (by rfl)) pa_nil))) pa_nil))))))
      (pss_cons (ps_set (i := 1) sc_flA.nd rfl (Or.inl rfl) (pe_op op_cat (pv 1) (pe_lst (pa_cons (pe_callB call_isX (by rfl) T.zIs (by decide +kernel) (pa_cons (pv 0) (pa_cons (pe_glob (v := .ref (D 15)) (by rfl) (T.m 15 _ rfl) (by rfl)) pa_nil))) (pa_cons (pe_callB call_isX (by rfl) T.zIs (by decide +kernel) (pa_cons (pv 0) (pa_cons (pe_glob (v := .ref (D 16)) (by rfl) (T.m 16 _ rfl) (by rfl)) pa_nil))) (pa_cons (pe_callB call_isX (by rfl) T.zIs (by decide +kernel) (pa_cons (pv 0) (pa_cons (pe_glob (v := .ref (D 17)) (by rfl) (T.m 17 _ rfl) (by rfl)) pa_nil))) pa_nil))))))
      (pss_cons (ps_set (i := 1) sc_flA.nd rfl (Or.inl rfl) (pe_op op_cat (pv 1) (pe_lst (pa_cons (pe_callB call_isX (by rfl) T.zIs (by decide +kernel) (pa_cons (pv 0) (pa_cons (pe_glob (v := .ref (D 18)) (by rfl) (T.m 18 _ rfl) (by rfl)) pa_nil))) (pa_cons (pe_callB call_isX (by rfl) T.zIs (by decide +kernel) (pa_cons (pv 0) (pa_cons (pe_glob (v := .ref (D 19)) (by rfl) (T.m 19 _ rfl) (by rfl)) pa_nil))) (pa_cons (pe_callB call_isX (by rfl) T.zIs (by decide +kernel) (pa_cons (pv 0) (pa_cons (pe_glob (v := .ref (D 20)) (by rfl) (T.m 20 _ rfl) (by rfl)) pa_nil))) (pa_cons (pe_callB call_isX (by rfl) T.zIs (by decide +kernel) (pa_cons (pv 0) (pa_cons (pe_glob (v := .ref (D 21)) (by rfl) (T.m 21 _ rfl) (by rfl)) pa_nil))) pa_nil)))))))
      (pss_cons (ps_set (i := 1) sc_flA.nd rfl (Or.inl rfl) (pe_op op_cat (pv 1) (pe_lst (pa_cons (pe_callB call_isX (by rfl) T.zIs (by decide +kernel) (pa_cons (pv 0) (pa_cons (pe_glob (v := .ref (D 22)) (by rfl) (T.m 22 _ rfl) (by rfl)) pa_nil))) (pa_cons (pe_callB call_isX (by rfl) T.zIs (by decide +kernel) (pa_cons (pv 0) (pa_cons (pe_glob (v := .ref (D 23)) (by rfl) (T.m 23 _ rfl) (by rfl)) pa_nil))) pa_nil)))))
      (pss_one (ps_ret (pv 1))))))))))), ?_⟩
    refine set_rd [0, 1, 2] (fun j hj q => is j hj (Same.refl H) q) (by decide) (by decide) fun H0 p0 s0 h0 => ?_
    have z0 : Same H H0 := s0
    refine cat_rd [3, 4, 5] h0 (by simp) (fun j hj q => is j hj z0 q) (by decide) (by decide) fun H1 p1 s1 h1 => ?_
    have z1 := z0.trans s1
    refine cat_rd [6, 7, 8] h1 (by simp) (fun j hj q => is j hj z1 q) (by decide) (by decide) fun H2 p2 s2 h2 => ?_
    have z2 := z1.trans s2
    refine cat_rd [9, 10, 11] h2 (by simp) (fun j hj q => is j hj z2 q) (by decide) (by decide) fun H3 p3 s3 h3 => ?_
    have z3 := z2.trans s3
    refine cat_rd [12, 13, 14] h3 (by simp) (fun j hj q => is j hj z3 q) (by decide) (by decide) fun H4 p4 s4 h4 => ?_
    have z4 := z3.trans s4
    refine cat_rd [15, 16, 17] h4 (by simp) (fun j hj q => is j hj z4 q) (by decide) (by decide) fun H5 p5 s5 h5 => ?_
    have z5 := z4.trans s5
    refine cat_rd [18, 19, 20, 21] h5 (by simp) (fun j hj q => is j hj z5 q) (by decide) (by decide) fun H6 p6 s6 h6 => ?_
    have z6 := z5.trans s6
    refine cat_rd [22, 23] h6 (by simp) (fun j hj q => is j hj z6 q) (by decide) (by decide) fun H7 p7 s7 h7 => ?_
    have z7 := z6.trans s7
    exact ⟨_, rfl, go H7 p7 z7 h7⟩
theorem sc_flB : FnScope ["_law_e", "_law_found"] ["_law_e"] (defScope sFlagsB) := ⟨rfl, rfl, rfl, by decide +kernel, rfl, by decide +kernel, by decide +kernel⟩
theorem ok_flB {g : Addr} {fd : FuncData} (F : Fun K "_law_second_flags" "_law_second_flags" sFlagsB g fd) (T : K46 K mg C D) : FnOk P w K mg base CX0 1 g fd ["_law_e"] (spFl C [24, 25, 26, 27, 28, 29, 30, 31, 32, 33, 34, 35, 36, 37, 38, 39, 40, 41, 42, 43, 44, 45]) := by
  refine F.ok sc_flB (fun vs H Q E h => ?_) (fun cdv A outer_ s H vs Q E hr h => ?_)
  · obtain ⟨k, x, ws, rfl, _⟩ := h
    rfl
  · obtain ⟨k, x, ws, rfl, hk, mk, go⟩ := h
    obtain ⟨dd, t, ex, ht⟩ := mk.e
    have X := (T.te k hk).x
    have is : ∀ {G : Hp} {Q : VK} (j : Nat), j < 46 → Same H G → Q (.bl (isK k j)) G → rIsX K [.ref x, .ref (D j)] G Q := fun j hj s q => ⟨x, C k, dd, _, .ref (D j), .ref (D j), isK k j, rfl, ex.same s, X, .own _, T.kit k j hk hj, q⟩
    refine ⟨_, (pss_cons (ps_set (i := 1) sc_flB.nd rfl (Or.inl rfl) (pe_lst (pa_cons (pe_callB call_isX (by rfl) T.zIs (by decide +kernel) (pa_cons (pv 0) (pa_cons (pe_glob (v := .ref (D 24)) (by rfl) (T.m 24 _ rfl) (by rfl)) pa_nil))) (pa_cons (pe_callB call_isX (by rfl) T.zIs (by decide +kernel) (pa_cons (pv 0) (pa_cons (pe_glob (v := .ref (D 25)) (by rfl) (T.m 25 _ rfl) (by rfl)) pa_nil))) (pa_cons (pe_callB call_isX (by rfl) T.zIs (by decide +kernel) (pa_cons (pv 0) (pa_cons (pe_glob (v := .ref (D 26)) (by rfl) (T.m 26 _ rfl) (by rfl)) pa_nil))) (pa_cons (pe_callB call_isX (by rfl) T.zIs (by decide +kernel) (pa_cons (pv 0) (pa_cons (pe_glob (v := .ref (D 27)) (by rfl) (T.m 27 _ rfl) (by rfl)) pa_nil))) pa_nil))))))
      (pss_cons (ps_set (i := 1) sc_flB.nd rfl (Or.inl rfl) (pe_op op_cat (pv 1) (pe_lst (pa_cons (pe_callB call_isX (by rfl) T.zIs (by decide +kernel) (pa_cons (pv 0) (pa_cons (pe_glob (v := .ref (D 28)) (by rfl) (T.m 28 _ rfl) (by rfl)) pa_nil))) (pa_cons (pe_callB call_isX (by rfl) T.zIs (by decide +kernel) (pa_cons (pv 0) (pa_cons (pe_glob (v := .ref (D 29)) (by rfl) (T.m 29 _ rfl) (by rfl)) pa_nil))) (pa_cons (pe_callB call_isX (by rfl) T.zIs (by decide +kernel) (pa_cons (pv 0) (pa_cons (pe_glob (v := .ref (D 30)) (by rfl) (T.m 30 _ rfl) (by rfl)) pa_nil))) pa_nil))))))
      (pss_cons (ps_set (i := 1) sc_flB.nd rfl (Or.inl rfl) (pe_op op_cat (pv 1) (pe_lst (pa_cons (pe_callB call_isX (by rfl) T.zIs (by decide +kernel) (pa_cons (pv 0) (pa_cons (pe_glob (v := .ref (D 31)) (by rfl) (T.m 31 _ rfl) (by rfl)) pa_nil))) (pa_cons (pe_callB call_isX (by rfl) T.zIs (by decide +kernel) (pa_cons (pv 0) (pa_cons (pe_glob (v := .ref (D 32)) (by rfl) (T.m 32 _ rfl) (by rfl)) pa_nil))) (pa_cons (pe_callB call_isX (by rfl) T.zIs (by decide +kernel) (pa_cons (pv 0) (pa_cons (pe_glob (v := .ref (D 33)) (by rfl) (T.m 33 _ rfl) (by rfl)) pa_nil))) pa_nil))))))
      (pss_cons (ps_set (i := 1) sc_flB.nd rfl (Or.inl rfl) (pe_op op_cat (pv 1) (pe_lst (pa_cons (pe_callB call_isX (by rfl) T.zIs (by decide +kernel) (pa_cons (pv 0) (pa_cons (pe_glob (v := .ref (D 34)) (by rfl) (T.m 34 _ rfl) (by rfl)) pa_nil))) (pa_cons (pe_callB call_isX (by rfl) T.zIs (by decide +kernel) (pa_cons (pv 0) (pa_cons (pe_glob (v := .ref (D 35)) (by rfl) (T.m 35 _ rfl) (by rfl)) pa_nil))) (pa_cons (pe_callB call_isX (by rfl) T.zIs (by decide +kernel) (pa_cons (pv 0) (pa_cons (pe_glob (v := .ref (D 36)) (by rfl) (T.m 36 _ rfl) (by rfl)) pa_nil))) pa_nil))))))
      (pss_cons (ps_set (i := 1) sc_flB.nd rfl (Or.inl rfl) (pe_op op_cat (pv 1) (pe_lst (pa_cons (pe_callB call_isX (by rfl) T.zIs (by decide +kernel) (pa_cons (pv 0) (pa_cons (pe_glob (v := .ref (D 37)) (by rfl) (T.m 37 _ rfl) (by rfl)) pa_nil))) (pa_cons (pe_callB call_isX (by rfl) T.zIs (by decide +kernel) (pa_cons (pv 0) (pa_cons (pe_glob (v := .ref (D 38)) (by rfl) (T.m 38 _ rfl) (by rfl)) pa_nil))) (pa_cons (pe_callB call_isX (by rfl) T.zIs (by decide +kernel) (pa_cons (pv 0) (pa_cons (pe_glob (v := .ref (D 39)) (by rfl) (T.m 39 _ rfl) (by rfl)) pa_nil))) pa_nil))))))
      (pss_cons (ps_set (i := 1) sc_flB.nd rfl (Or.inl rfl) (pe_op op_cat (pv 1) (pe_lst (pa_cons (pe_callB call_isX (by rfl) T.zIs (by decide +kernel) (pa_cons (pv 0) (pa_cons (pe_glob (v := .ref (D 40)) (by rfl) (T.m 40 _ rfl) (by rfl)) pa_nil))) (pa_cons (pe_callB call_isX (by rfl) T.zIs (by decide +kernel) (pa_cons (pv 0) (pa_cons (pe_glob (v := .ref (D 41)) (by rfl) (T.m 41 _ rfl) (by rfl)) pa_nil))) (pa_cons (pe_callB call_isX (by rfl) T.zIs (by decide +kernel) (pa_cons (pv 0) (pa_cons (pe_glob (v := .ref (D 42)) (by rfl) (T.m 42 _ rfl) (by rfl)) pa_nil))) pa_nil))))))
      (pss_cons (ps_set (i := 1) sc_flB.nd rfl (Or.inl rfl) (pe_op op_cat (pv 1) (pe_lst (pa_cons (pe_callB call_isX (by rfl) T.zIs (by decide +kernel) (pa_cons (pv 0) (pa_cons (pe_glob (v := .ref (D 43)) (by rfl) (T.m 43 _ rfl) (by rfl)) pa_nil))) (pa_cons (pe_callB call_isX (by rfl) T.zIs (by decide +kernel) (pa_cons (pv 0) (pa_cons (pe_glob (v := .ref (D 44)) (by rfl) (T.m 44 _ rfl) (by rfl)) pa_nil))) (pa_cons (pe_callB call_isX (by rfl) T.zIs (by decide +kernel) (pa_cons (pv 0) (pa_cons (pe_glob (v := .ref (D 45)) (by rfl) (T.m 45 _ rfl) (by rfl)) pa_nil))) pa_nil))))))
      (pss_one (ps_ret (pv 1)))))))))), ?_⟩
    refine set_rd [24, 25, 26, 27] (fun j hj q => is j hj (Same.refl H) q) (by decide) (by decide) fun H0 p0 s0 h0 => ?_
    have z0 : Same H H0 := s0
    refine cat_rd [28, 29, 30] h0 (by simp) (fun j hj q => is j hj z0 q) (by decide) (by decide) fun H1 p1 s1 h1 => ?_
    have z1 := z0.trans s1
    refine cat_rd [31, 32, 33] h1 (by simp) (fun j hj q => is j hj z1 q) (by decide) (by decide) fun H2 p2 s2 h2 => ?_
    have z2 := z1.trans s2
    refine cat_rd [34, 35, 36] h2 (by simp) (fun j hj q => is j hj z2 q) (by decide) (by decide) fun H3 p3 s3 h3 => ?_
    have z3 := z2.trans s3
    refine cat_rd [37, 38, 39] h3 (by simp) (fun j hj q => is j hj z3 q) (by decide) (by decide) fun H4 p4 s4 h4 => ?_
    have z4 := z3.trans s4
    refine cat_rd [40, 41, 42] h4 (by simp) (fun j hj q => is j hj z4 q) (by decide) (by decide) fun H5 p5 s5 h5 => ?_
    have z5 := z4.trans s5
    refine cat_rd [43, 44, 45] h5 (by simp) (fun j hj q => is j hj z5 q) (by decide) (by decide) fun H6 p6 s6 h6 => ?_
    have z6 := z5.trans s6
    exact ⟨_, rfl, go H6 p6 z6 h6⟩
end
end K18
namespace K18
open PySem L2 OwE
section
variable {P : Program} {w : World} {K : PySem.W.Frag} {mg : Str → Option Value} {base : Heap} {C D f : Nat → Addr} {d : Nat → FuncData}
/-! ### _law_made -/
theorem sc_made : FnScope ["_law_k", "_law_one", "_law_two", "_law_three"] ["_law_k", "_law_one", "_law_two", "_law_three"] (defScope sMade) := ⟨rfl, rfl, rfl, by decide +kernel, rfl, by decide +kernel, by decide +kernel⟩
theorem ok_made {g gI gM gS gL : Addr} {fd dI dM dS dL : FuncData} (F : Fun K "_law_made" "_law_made" sMade g fd) (T : C42 K mg C f d) (AI : At K mg "_law_invalid" sInvalid ["_law_k", "_law_one", "_law_two", "_law_three"] gI dI) (AM : At K mg "_law_missing" sMissing ["_law_k", "_law_one", "_law_two", "_law_three"] gM dM)
    (AS : At K mg "_law_state" sState ["_law_k", "_law_one", "_law_two", "_law_three"] gS dS) (AL : At K mg "_law_limit" sLimit ["_law_k", "_law_one", "_law_two", "_law_three"] gL dL) : FnOk P w K mg base CX0 4 g fd ["_law_k", "_law_one", "_law_two", "_law_three"] (spMk4 C 0 42) := by
  refine F.ok sc_made (fun vs H Q E h => ?_) (fun cdv A outer_ s H vs Q E hr h => ?_)
  · obtain ⟨k, a, b, c, rfl, _⟩ := h
    rfl
  · obtain ⟨k, a, b, c, rfl, h1, h2, go⟩ := h
    refine ⟨_, (pss_cons (ps_if (pt_cmpR op_lt (pv 0) pe_int (nomark _)) (pss_one (ps_ret (pe_call (ok_invalid AI.F T) hr (by rfl) AI.m AI.F.kp AI.b .nil pass0 (pa_cons (pv 0) (pa_cons (pv 1) (pa_cons (pv 2) (pa_cons (pv 3) pa_nil))))))) pss_nil)
      (pss_cons (ps_if (pt_cmpR op_lt (pv 0) pe_int (nomark _)) (pss_one (ps_ret (pe_call (ok_missing AM.F T) hr (by rfl) AM.m AM.F.kp AM.b .nil pass0 (pa_cons (pv 0) (pa_cons (pv 1) (pa_cons (pv 2) (pa_cons (pv 3) pa_nil))))))) pss_nil)
      (pss_one (ps_ret (pe_ifExp (pt_cmpR op_lt (pv 0) pe_int (nomark _)) (pe_call (ok_state AS.F T) hr (by rfl) AS.m AS.F.kp AS.b .nil pass0 (pa_cons (pv 0) (pa_cons (pv 1) (pa_cons (pv 2) (pa_cons (pv 3) pa_nil))))) (pe_call (ok_limit AL.F T) hr (by rfl) AL.m AL.F.kp AL.b .nil pass0 (pa_cons (pv 0) (pa_cons (pv 1) (pa_cons (pv 2) (pa_cons (pv 3) pa_nil)))))))))), ?_⟩
    refine ⟨_, rfl, _, _, rfl, rfl, _, rfl, ite2 (fun z => ?_) (fun z => ?_)⟩
    · have z := of_decide_eq_true z
      exact ⟨_, rfl, _, rfl, _, rfl, _, rfl, k, a, b, c, rfl, h1, by omega, go⟩
    have z1 : ¬ ((k : Int) < 15) := fun y => z (decide_eq_true y)
    refine ⟨_, rfl, _, _, rfl, rfl, _, rfl, ite2 (fun z => ?_) (fun z => ?_)⟩
    · have z := of_decide_eq_true z
      exact ⟨_, rfl, _, rfl, _, rfl, _, rfl, k, a, b, c, rfl, by omega, by omega, go⟩
    have z2 : ¬ ((k : Int) < 24) := fun y => z (decide_eq_true y)
    refine ⟨_, rfl, _, _, rfl, rfl, _, rfl, ite2 (fun z => ?_) (fun z => ?_)⟩
    · have z := of_decide_eq_true z
      exact ⟨_, rfl, _, rfl, _, rfl, _, rfl, k, a, b, c, rfl, by omega, by omega, go⟩
    · have z3 : ¬ ((k : Int) < 40) := fun y => z (decide_eq_true y)
      exact ⟨_, rfl, _, rfl, _, rfl, _, rfl, k, a, b, c, rfl, by omega, by omega, go⟩
/-! ### _law_classes -/
def names42 : List V := (words46.take 42).map V.str
def spCls : Sp := fun vs H Q _ => vs = [] ∧ ∀ H' p, Same H H' → H' p = some (.lst names42) → Q (.ref p) H'
/-- texts in a row -/
def tStl : List Str → TA
  | [] => tNil
  | x :: xs => tCons (tC (.str x)) (tStl xs)
theorem stl_rd {σ : St} {H : Hp} : ∀ (xs : List Str) (Q : List V → Hp → Prop), Q (xs.map V.str) H → tStl xs σ H Q
  | [], Q, h => h
  | x :: xs, Q, h => stl_rd xs (fun ys H2 => Q (V.str x :: ys) H2) h
theorem setS_rd {H : Hp} {D' : Ends} {v0 : Option V} (xs : List Str) (hl : xs.length ≤ 46) (h : ∀ H' p, Same H H' → H' p = some (.lst (xs.map V.str)) → D'.nx [some (.ref p)] H') : tAsg (tLst (tStl xs)) (gName 0) D' [v0] H :=
  stl_rd xs _ ⟨by rw [List.length_map]; exact Nat.le_trans hl (by decide), fun p hp => h _ p (same_upd hp) upd_same⟩
theorem catS_rd {H : Hp} {p : Addr} {D' : Ends} {L : List V} (xs : List Str) (hp : H p = some (.lst L)) (l : L.length ≤ 100) (hl : xs.length ≤ 46)
    (h : ∀ H' q, Same H H' → H' q = some (.lst (L ++ xs.map V.str)) → D'.nx [some (.ref q)] H') : tAsg (tOp rCat (tVar 0) (tLst (tStl xs))) (gName 0) D' [some (.ref p)] H := by
  refine ⟨.ref p, rfl, stl_rd xs _ ⟨by rw [List.length_map]; exact Nat.le_trans hl (by decide), fun q hq => ?_⟩⟩
  refine ⟨p, q, _, _, rfl, rfl, same_upd hq _ _ hp, upd_same, ?_, fun r hr => h _ r ((same_upd hq).trans (same_upd hr)) upd_same⟩
  rw [List.length_map]
  exact Nat.le_trans (show L.length + xs.length ≤ 200 by omega) (by decide)
theorem sc_cls : FnScope ["_law_found"] [] (defScope sClasses) := ⟨rfl, rfl, rfl, by decide +kernel, rfl, by decide +kernel, by decide +kernel⟩
theorem ok_cls {g : Addr} {fd : FuncData} (F : Fun K "_law_classes" "_law_classes" sClasses g fd) : FnOk P w K mg base CX0 1 g fd [] spCls := by
  refine F.ok sc_cls (fun vs H Q E h => ?_) (fun cdv A outer_ s H vs Q E hr h => ?_)
  · obtain ⟨rfl, _⟩ := h
    rfl
  · obtain ⟨rfl, go⟩ := h
    refine ⟨_, (pss_cons (ps_set (i := 0) sc_cls.nd rfl (Or.inl rfl) (pe_lst (pa_cons pe_str (pa_cons pe_str (pa_cons pe_str (pa_cons pe_str (pa_cons pe_str (pa_cons pe_str pa_nil))))))))
      (pss_cons (ps_set (i := 0) sc_cls.nd rfl (Or.inl rfl) (pe_op op_cat (pv 0) (pe_lst (pa_cons pe_str (pa_cons pe_str (pa_cons pe_str (pa_cons pe_str (pa_cons pe_str (pa_cons pe_str pa_nil)))))))))
      (pss_cons (ps_set (i := 0) sc_cls.nd rfl (Or.inl rfl) (pe_op op_cat (pv 0) (pe_lst (pa_cons pe_str (pa_cons pe_str (pa_cons pe_str (pa_cons pe_str (pa_cons pe_str (pa_cons pe_str pa_nil)))))))))
      (pss_cons (ps_set (i := 0) sc_cls.nd rfl (Or.inl rfl) (pe_op op_cat (pv 0) (pe_lst (pa_cons pe_str (pa_cons pe_str (pa_cons pe_str (pa_cons pe_str (pa_cons pe_str (pa_cons pe_str (pa_cons pe_str pa_nil))))))))))
      (pss_cons (ps_set (i := 0) sc_cls.nd rfl (Or.inl rfl) (pe_op op_cat (pv 0) (pe_lst (pa_cons pe_str (pa_cons pe_str (pa_cons pe_str (pa_cons pe_str (pa_cons pe_str (pa_cons pe_str (pa_cons pe_str (pa_cons pe_str pa_nil)))))))))))
      (pss_cons (ps_set (i := 0) sc_cls.nd rfl (Or.inl rfl) (pe_op op_cat (pv 0) (pe_lst (pa_cons pe_str (pa_cons pe_str (pa_cons pe_str (pa_cons pe_str (pa_cons pe_str (pa_cons pe_str pa_nil)))))))))
      (pss_cons (ps_set (i := 0) sc_cls.nd rfl (Or.inl rfl) (pe_op op_cat (pv 0) (pe_lst (pa_cons pe_str (pa_cons pe_str (pa_cons pe_str pa_nil))))))
      (pss_one (ps_ret (pv 0)))))))))), ?_⟩
    refine setS_rd [("InvalidName" : Str), ("InvalidLabel" : Str), ("InvalidText" : Str), ("InvalidRow" : Str), ("InvalidKey" : Str), ("InvalidColumns" : Str)] (by decide) fun H0 p0 s0 h0 => ?_
    have z0 : Same H H0 := s0
    refine catS_rd [("InvalidRule" : Str), ("InvalidSource" : Str), ("InvalidEntry" : Str), ("InvalidCount" : Str), ("InvalidCommand" : Str), ("InvalidLine" : Str)] h0 (by simp) (by decide) fun H1 p1 s1 h1 => ?_
    have z1 := z0.trans s1
    refine catS_rd [("InvalidEvent" : Str), ("WrongValues" : Str), ("WrongSort" : Str), ("UnknownSource" : Str), ("UnknownColumn" : Str), ("UnknownKind" : Str)] h1 (by simp) (by decide) fun H2 p2 s2 h2 => ?_
    have z2 := z1.trans s2
    refine catS_rd [("UnknownEntry" : Str), ("NoEntry" : Str), ("NoRow" : Str), ("NoMemo" : Str), ("UnknownUser" : Str), ("UnknownOffer" : Str), ("NameTaken" : Str)] h2 (by simp) (by decide) fun H3 p3 s3 h3 => ?_
    have z3 := z2.trans s3
    refine catS_rd [("Taken" : Str), ("Waiting" : Str), ("Missing" : Str), ("Broken" : Str), ("Restricted" : Str), ("InUse" : Str), ("WouldSuspend" : Str), ("ReplayDiffers" : Str)] h3 (by simp) (by decide) fun H4 p4 s4 h4 => ?_
    have z4 := z3.trans s4
    refine catS_rd [("InTransaction" : Str), ("NoTransaction" : Str), ("SessionEnded" : Str), ("OwnOffer" : Str), ("NotAllowed" : Str), ("OutOfSequence" : Str)] h4 (by simp) (by decide) fun H5 p5 s5 h5 => ?_
    have z5 := z4.trans s5
    refine catS_rd [("Behind" : Str), ("TooMany" : Str), ("TooDear" : Str)] h5 (by simp) (by decide) fun H6 p6 s6 h6 => ?_
    have z6 := z5.trans s6
    exact ⟨_, rfl, go H6 p6 z6 h6⟩
end
end K18
namespace K18
open PySem L2 OwE
section
variable {P : Program} {w : World} {K : PySem.W.Frag} {mg : Str → Option Value} {base : Heap} {C D f : Nat → Addr} {d : Nat → FuncData}
/-! ### the attributes of an exception -/
def tInts : List Int → TA
  | [] => tNil
  | i :: is => tCons (tC (.int i)) (tInts is)
theorem ints_rd {σ : St} {H : Hp} : ∀ (is : List Int) (Q : List V → Hp → Prop), Q (is.map V.int) H → tInts is σ H Q
  | [], Q, h => h
  | i :: is, Q, h => ints_rd is (fun ys H2 => Q (V.int i :: ys) H2) h
theorem inV_int (k : Int) : ∀ is : List Int, inV (.int k) (is.map V.int) = decide (k ∈ is)
  | [] => by simp [inV]
  | i :: is => by
    have ih := inV_int k is
    by_cases e : k = i
    · subst e
      simp [inV, eqV]
    · have : decide (k ∈ i :: is) = decide (k ∈ is) := by simp [e]
      rw [this, ← ih]
      simp [inV, eqV, e]
      intro h
      exact absurd h.symm e
theorem flat_int : ∀ is : List Int, (is.map V.int).all flatV = true
  | [] => rfl
  | i :: is => by rw [List.map_cons, List.all_cons, flat_int is]; rfl
theorem k_in {K : PySem.W.Frag} (is : List Int) {k : Nat} {t rest : TS} {D : Ends} {σ : St} {H : Hp} (h0 : σ[0]? = some (some (.int (k : Int)))) (l : is.length ≤ 40) (y : (k : Int) ∈ is → ∀ H', Same H H' → t { D with nx := rest D } σ H') (n : (k : Int) ∉ is → ∀ H', Same H H' → rest D σ H') :
    tSeq (tIfS (tTest (tOp (rIn K false) (tVar 0) (tTup (tInts is)))) t tNext) rest D σ H := by
  refine ⟨_, h0, ints_rd is _ ⟨by rw [List.length_map]; exact Nat.le_trans l (by decide), fun p hp => ?_⟩⟩
  have s1 := same_upd (o := HO.tup (is.map V.int)) hp
  refine ⟨p, is.map V.int, rfl, .inr (SqT.of upd_same), rfl, flat_int is, _, rfl, ?_⟩
  refine ite2 (fun z => y (of_decide_eq_true ((inV_int _ _).symm.trans z)) _ s1) fun z => n (fun m => z ((inV_int _ _).trans (decide_eq_true m))) _ s1
theorem k_lt {i : Int} {k : Nat} {t rest : TS} {D : Ends} {σ : St} {H : Hp} (h0 : σ[0]? = some (some (.int (k : Int)))) (y : (k : Int) < i → t { D with nx := rest D } σ H) (n : ¬ (k : Int) < i → rest D σ H) :
    tSeq (tIfS (tTest (tOp (rI0 fun i j => V.bl (decide (i < j))) (tVar 0) (tC (V.int i)))) t tNext) rest D σ H :=
  ⟨_, h0, _, _, rfl, rfl, _, rfl, ite2 (fun z => y (of_decide_eq_true z)) fun z => n fun e => z (decide_eq_true e)⟩
theorem e_if {i : Int} {k : Nat} {ta tb : TE} {σ : St} {H : Hp} {Q : VK} (h0 : σ[0]? = some (some (.int (k : Int)))) (y : (k : Int) = i → ta σ H Q) (n : (k : Int) ≠ i → tb σ H Q) : tIf (tTest (tOp rEq (tVar 0) (tC (V.int i)))) ta tb σ H Q :=
  ⟨_, h0, rfl, _, rfl, ite2 (fun z => y (V.int.inj (of_decide_eq_true z))) fun z => n fun e => z (decide_eq_true (congrArg V.int e))⟩
/-- the field n of the i-th place -/
theorem fld_rd {k : Nat} {n : Str} {x : Addr} {ws : List V} {v : V} {σ : St} {H : Hp} {Q : VK} (T : K46 K mg C D) (hk : k < 42) (h1 : σ[1]? = some (some (.ref x))) (mk : Made C k ws H x) (m : n ∈ (cl4 k).ns) (nt : (n == ("_told" : Str)) = false) (e : List.lookup n ((cl4 k).ns.zip ws).reverse = some v) (q : Q v H) :
    ClN.tEf K n (tVar 1) σ H Q := by
  obtain ⟨dd, t, ex, ht⟩ := mk.e
  refine ⟨_, h1, x, C k, dd, _, v, rfl, ex, ClN.xfC (T.te k hk).x, T.no k hk n m, ?_, q⟩
  rw [List.lookup_cons, nt]
  exact e
def tFls (K : PySem.W.Frag) : List Str → TA
  | [] => tNil
  | n :: ns => tCons (ClN.tEf K n (tVar 1)) (tFls K ns)
theorem fls_rd {k : Nat} {x : Addr} {ws : List V} {σ : St} {H : Hp} (T : K46 K mg C D) (hk : k < 42) (h1 : σ[1]? = some (some (.ref x))) (mk : Made C k ws H x) : ∀ (ns : List Str) (vs : List V) (Q : List V → Hp → Prop),
    PySem.Paired (fun n v => n ∈ (cl4 k).ns ∧ (n == ("_told" : Str)) = false ∧ List.lookup n ((cl4 k).ns.zip ws).reverse = some v) ns vs → Q vs H → tFls K ns σ H Q
  | [], [], Q, _, h => h
  | [], v :: vs, Q, p, _ => nomatch p
  | n :: ns, [], Q, p, _ => nomatch p
  | n :: ns, v :: vs, Q, p, h => by
    cases p with
    | cons e r => exact fld_rd (Q := fun y H1 => tFls K ns σ H1 fun xs H2 => Q (y :: xs) H2) T hk h1 mk e.1 e.2.1 e.2.2 (fls_rd T hk h1 mk ns vs (fun xs H2 => Q (v :: xs) H2) r h)
theorem lstF_rd {k : Nat} {x : Addr} {ws vs : List V} {σ : St} {H : Hp} {Q : VK} (ns : List Str) (T : K46 K mg C D) (hk : k < 42) (h1 : σ[1]? = some (some (.ref x))) (mk : Made C k ws H x)
    (p : PySem.Paired (fun n v => n ∈ (cl4 k).ns ∧ (n == ("_told" : Str)) = false ∧ List.lookup n ((cl4 k).ns.zip ws).reverse = some v) ns vs) (l : vs.length ≤ 3) (h : ∀ H' p, Same H H' → H' p = some (.lst vs) → Q (.ref p) H') : tLst (tFls K ns) σ H Q :=
  fls_rd T hk h1 mk ns vs _ p ⟨Nat.le_trans l (by decide), fun q hq => h _ q (same_upd hq) upd_same⟩
theorem len1 {ws : List V} (l : ws.length = 1) : ∃ v, ws = [v] := by
  match ws, l with
  | [v], _ => exact ⟨v, rfl⟩
theorem len2 {ws : List V} (l : ws.length = 2) : ∃ u v, ws = [u, v] := by
  match ws, l with
  | [u, v], _ => exact ⟨u, v, rfl⟩
theorem len3 {ws : List V} (l : ws.length = 3) : ∃ u v r, ws = [u, v, r] := by
  match ws, l with
  | [u, v, r], _ => exact ⟨u, v, r, rfl⟩
def spAt (C : Nat → Addr) (lo hi : Nat) : Sp := fun vs H Q _ => ∃ (k : Nat) (x : Addr) (ws : List V), vs = [.int (k : Int), .ref x] ∧ lo ≤ k ∧ k < hi ∧ Made C k ws H x ∧ ws.length = (cl4 k).ns.length ∧ ∀ H' p, Same H H' → H' p = some (.lst ws) → Q (.ref p) H'
theorem sc_atA : FnScope ["_law_k", "_law_e"] ["_law_k", "_law_e"] (defScope sAttrA) := ⟨rfl, rfl, rfl, by decide +kernel, rfl, by decide +kernel, by decide +kernel⟩
theorem ok_atA {g : Addr} {fd : FuncData} (F : Fun K "_law_first_attributes" "_law_first_attributes" sAttrA g fd) (T : K46 K mg C D) : FnOk P w K mg base CX0 1 g fd ["_law_k", "_law_e"] (spAt C 0 24) := by
  refine F.ok sc_atA (fun vs H Q E h => ?_) (fun cdv A outer_ s H vs Q E hr h => ?_)
  · obtain ⟨k, x, ws, rfl, _⟩ := h
    rfl
  · obtain ⟨k, x, ws, rfl, h1, h2, mk, l, go⟩ := h
    refine ⟨_, (pss_cons (ps_if (pt_cmpR op_eq (pv 0) pe_int (nomark _)) (pss_one (ps_ret (pe_lst (pa_cons (ClN.pe_efld (pv 1)) pa_nil)))) pss_nil)
      (pss_cons (ps_if (pt_cmpR (show OpR _ (compareOp .In) (rIn K false) from op_in_seq) (pv 0) (pe_tup (pa_cons pe_int (pa_cons pe_int pa_nil))) (by rfl)) (pss_one (ps_ret (pe_lst (pa_cons (pe_ifExp (pt_cmpR op_eq (pv 0) pe_int (nomark _)) (ClN.pe_efld (pv 1)) (ClN.pe_efld (pv 1))) pa_nil)))) pss_nil)
      (pss_cons (ps_if (pt_cmpR (show OpR _ (compareOp .In) (rIn K false) from op_in_seq) (pv 0) (pe_tup (pa_cons pe_int (pa_cons pe_int pa_nil))) (by rfl)) (pss_one (ps_ret (pe_lst (pa_cons (pe_ifExp (pt_cmpR op_eq (pv 0) pe_int (nomark _)) (ClN.pe_efld (pv 1)) (ClN.pe_efld (pv 1))) pa_nil)))) pss_nil)
      (pss_cons (ps_if (pt_cmpR op_lt (pv 0) pe_int (nomark _)) (pss_one (ps_ret (pe_lst (pa_cons (ClN.pe_efld (pv 1)) pa_nil)))) pss_nil)
      (pss_cons (ps_if (pt_cmpR (show OpR _ (compareOp .In) (rIn K false) from op_in_seq) (pv 0) (pe_tup (pa_cons pe_int (pa_cons pe_int (pa_cons pe_int pa_nil)))) (by rfl)) (pss_one (ps_ret (pe_lst (pa_cons (pe_ifExp (pt_cmpR op_eq (pv 0) pe_int (nomark _)) (ClN.pe_efld (pv 1)) (pe_ifExp (pt_cmpR op_eq (pv 0) pe_int (nomark _)) (ClN.pe_efld (pv 1)) (ClN.pe_efld (pv 1)))) pa_nil)))) pss_nil)
      (pss_cons (ps_if (pt_cmpR (show OpR _ (compareOp .In) (rIn K false) from op_in_seq) (pv 0) (pe_tup (pa_cons pe_int (pa_cons pe_int pa_nil))) (by rfl)) (pss_one (ps_ret (pe_lst (pa_cons (ClN.pe_efld (pv 1)) pa_nil)))) pss_nil)
      (pss_cons (ps_if (pt_cmpR (show OpR _ (compareOp .In) (rIn K false) from op_in_seq) (pv 0) (pe_tup (pa_cons pe_int (pa_cons pe_int pa_nil))) (by rfl)) (pss_one (ps_ret (pe_lst (pa_cons (ClN.pe_efld (pv 1)) pa_nil)))) pss_nil)
      (pss_one (ps_ret (pe_lst (pa_cons (pe_ifExp (pt_cmpR op_eq (pv 0) pe_int (nomark _)) (ClN.pe_efld (pv 1)) (ClN.pe_efld (pv 1))) pa_nil))))))))))), ?_⟩
    have s0 : Same H H := Same.refl H
    refine k_if rfl (fun z1 => ?_) fun z1 => ?_
    · obtain rfl : k = 2 := by omega
      obtain ⟨v1, rfl⟩ := len1 l
      refine fld_rd (k := 2) (n := "problem") T (by decide) rfl (mk.same s0) (by decide) (by decide) (by rfl) ?_
      exact ⟨by show 1 ≤ sizeLine; decide, fun p hp => go _ p (s0.trans (same_upd hp)) upd_same⟩
    refine k_in [5, 6] rfl (by decide) (fun z2 Hs4 s4 => ?_) fun z2 Hs4 s4 => ?_
    · simp only [List.mem_cons, List.not_mem_nil, or_false] at z2
      have s4' := s0.trans s4
      refine e_if rfl (fun y5 => ?_) fun y5 => ?_
      · obtain rfl : k = 5 := by omega
        obtain ⟨v1, rfl⟩ := len1 l
        refine fld_rd (k := 5) (n := "position") T (by decide) rfl (mk.same s4') (by decide) (by decide) (by rfl) ?_
        exact ⟨by show 1 ≤ sizeLine; decide, fun p hp => go _ p (s4'.trans (same_upd hp)) upd_same⟩
      · obtain rfl : k = 6 := by omega
        obtain ⟨v1, rfl⟩ := len1 l
        refine fld_rd (k := 6) (n := "rule") T (by decide) rfl (mk.same s4') (by decide) (by decide) (by rfl) ?_
        exact ⟨by show 1 ≤ sizeLine; decide, fun p hp => go _ p (s4'.trans (same_upd hp)) upd_same⟩
    simp only [List.mem_cons, List.not_mem_nil, or_false] at z2
    have s4' := s0.trans s4
    refine k_in [13, 14] rfl (by decide) (fun z6 Hs8 s8 => ?_) fun z6 Hs8 s8 => ?_
    · simp only [List.mem_cons, List.not_mem_nil, or_false] at z6
      have s8' := s4'.trans s8
      refine e_if rfl (fun y9 => ?_) fun y9 => ?_
      · obtain rfl : k = 13 := by omega
        obtain ⟨v1, rfl⟩ := len1 l
        refine fld_rd (k := 13) (n := "wrong") T (by decide) rfl (mk.same s8') (by decide) (by decide) (by rfl) ?_
        exact ⟨by show 1 ≤ sizeLine; decide, fun p hp => go _ p (s8'.trans (same_upd hp)) upd_same⟩
      · obtain rfl : k = 14 := by omega
        obtain ⟨v1, rfl⟩ := len1 l
        refine fld_rd (k := 14) (n := "place") T (by decide) rfl (mk.same s8') (by decide) (by decide) (by rfl) ?_
        exact ⟨by show 1 ≤ sizeLine; decide, fun p hp => go _ p (s8'.trans (same_upd hp)) upd_same⟩
    simp only [List.mem_cons, List.not_mem_nil, or_false] at z6
    have s8' := s4'.trans s8
    refine k_lt rfl (fun z10 => ?_) fun z10 => ?_
    · have hk : k = 0 ∨ k = 1 ∨ k = 3 ∨ k = 4 ∨ k = 7 ∨ k = 8 ∨ k = 9 ∨ k = 10 ∨ k = 11 ∨ k = 12 := by omega
      rcases hk with rfl | rfl | rfl | rfl | rfl | rfl | rfl | rfl | rfl | rfl
      · obtain ⟨v1, rfl⟩ := len1 l
        refine fld_rd (k := 0) (n := "value") T (by decide) rfl (mk.same s8') (by decide) (by decide) (by rfl) ?_
        exact ⟨by show 1 ≤ sizeLine; decide, fun p hp => go _ p (s8'.trans (same_upd hp)) upd_same⟩
      · obtain ⟨v1, rfl⟩ := len1 l
        refine fld_rd (k := 1) (n := "value") T (by decide) rfl (mk.same s8') (by decide) (by decide) (by rfl) ?_
        exact ⟨by show 1 ≤ sizeLine; decide, fun p hp => go _ p (s8'.trans (same_upd hp)) upd_same⟩
      · obtain ⟨v1, rfl⟩ := len1 l
        refine fld_rd (k := 3) (n := "value") T (by decide) rfl (mk.same s8') (by decide) (by decide) (by rfl) ?_
        exact ⟨by show 1 ≤ sizeLine; decide, fun p hp => go _ p (s8'.trans (same_upd hp)) upd_same⟩
      · obtain ⟨v1, rfl⟩ := len1 l
        refine fld_rd (k := 4) (n := "value") T (by decide) rfl (mk.same s8') (by decide) (by decide) (by rfl) ?_
        exact ⟨by show 1 ≤ sizeLine; decide, fun p hp => go _ p (s8'.trans (same_upd hp)) upd_same⟩
      · obtain ⟨v1, rfl⟩ := len1 l
        refine fld_rd (k := 7) (n := "value") T (by decide) rfl (mk.same s8') (by decide) (by decide) (by rfl) ?_
        exact ⟨by show 1 ≤ sizeLine; decide, fun p hp => go _ p (s8'.trans (same_upd hp)) upd_same⟩
      · obtain ⟨v1, rfl⟩ := len1 l
        refine fld_rd (k := 8) (n := "value") T (by decide) rfl (mk.same s8') (by decide) (by decide) (by rfl) ?_
        exact ⟨by show 1 ≤ sizeLine; decide, fun p hp => go _ p (s8'.trans (same_upd hp)) upd_same⟩
      · obtain ⟨v1, rfl⟩ := len1 l
        refine fld_rd (k := 9) (n := "value") T (by decide) rfl (mk.same s8') (by decide) (by decide) (by rfl) ?_
        exact ⟨by show 1 ≤ sizeLine; decide, fun p hp => go _ p (s8'.trans (same_upd hp)) upd_same⟩
      · obtain ⟨v1, rfl⟩ := len1 l
        refine fld_rd (k := 10) (n := "value") T (by decide) rfl (mk.same s8') (by decide) (by decide) (by rfl) ?_
        exact ⟨by show 1 ≤ sizeLine; decide, fun p hp => go _ p (s8'.trans (same_upd hp)) upd_same⟩
      · obtain ⟨v1, rfl⟩ := len1 l
        refine fld_rd (k := 11) (n := "value") T (by decide) rfl (mk.same s8') (by decide) (by decide) (by rfl) ?_
        exact ⟨by show 1 ≤ sizeLine; decide, fun p hp => go _ p (s8'.trans (same_upd hp)) upd_same⟩
      · obtain ⟨v1, rfl⟩ := len1 l
        refine fld_rd (k := 12) (n := "value") T (by decide) rfl (mk.same s8') (by decide) (by decide) (by rfl) ?_
        exact ⟨by show 1 ≤ sizeLine; decide, fun p hp => go _ p (s8'.trans (same_upd hp)) upd_same⟩
    refine k_in [15, 16, 17] rfl (by decide) (fun z11 Hs13 s13 => ?_) fun z11 Hs13 s13 => ?_
    · simp only [List.mem_cons, List.not_mem_nil, or_false] at z11
      have s13' := s8'.trans s13
      refine e_if rfl (fun y14 => ?_) fun y14 => ?_
      · obtain rfl : k = 15 := by omega
        obtain ⟨v1, rfl⟩ := len1 l
        refine fld_rd (k := 15) (n := "source") T (by decide) rfl (mk.same s13') (by decide) (by decide) (by rfl) ?_
        exact ⟨by show 1 ≤ sizeLine; decide, fun p hp => go _ p (s13'.trans (same_upd hp)) upd_same⟩
      · refine e_if rfl (fun y15 => ?_) fun y15 => ?_
        · obtain rfl : k = 16 := by omega
          obtain ⟨v1, rfl⟩ := len1 l
          refine fld_rd (k := 16) (n := "column") T (by decide) rfl (mk.same s13') (by decide) (by decide) (by rfl) ?_
          exact ⟨by show 1 ≤ sizeLine; decide, fun p hp => go _ p (s13'.trans (same_upd hp)) upd_same⟩
        · obtain rfl : k = 17 := by omega
          obtain ⟨v1, rfl⟩ := len1 l
          refine fld_rd (k := 17) (n := "kind") T (by decide) rfl (mk.same s13') (by decide) (by decide) (by rfl) ?_
          exact ⟨by show 1 ≤ sizeLine; decide, fun p hp => go _ p (s13'.trans (same_upd hp)) upd_same⟩
    simp only [List.mem_cons, List.not_mem_nil, or_false] at z11
    have s13' := s8'.trans s13
    refine k_in [18, 22] rfl (by decide) (fun z16 Hs18 s18 => ?_) fun z16 Hs18 s18 => ?_
    · simp only [List.mem_cons, List.not_mem_nil, or_false] at z16
      have s18' := s13'.trans s18
      have hk : k = 18 ∨ k = 22 := by omega
      rcases hk with rfl | rfl
      · obtain ⟨v1, rfl⟩ := len1 l
        refine fld_rd (k := 18) (n := "name") T (by decide) rfl (mk.same s18') (by decide) (by decide) (by rfl) ?_
        exact ⟨by show 1 ≤ sizeLine; decide, fun p hp => go _ p (s18'.trans (same_upd hp)) upd_same⟩
      · obtain ⟨v1, rfl⟩ := len1 l
        refine fld_rd (k := 22) (n := "name") T (by decide) rfl (mk.same s18') (by decide) (by decide) (by rfl) ?_
        exact ⟨by show 1 ≤ sizeLine; decide, fun p hp => go _ p (s18'.trans (same_upd hp)) upd_same⟩
    simp only [List.mem_cons, List.not_mem_nil, or_false] at z16
    have s18' := s13'.trans s18
    refine k_in [19, 20] rfl (by decide) (fun z19 Hs21 s21 => ?_) fun z19 Hs21 s21 => ?_
    · simp only [List.mem_cons, List.not_mem_nil, or_false] at z19
      have s21' := s18'.trans s21
      have hk : k = 19 ∨ k = 20 := by omega
      rcases hk with rfl | rfl
      · obtain ⟨v1, rfl⟩ := len1 l
        refine fld_rd (k := 19) (n := "key") T (by decide) rfl (mk.same s21') (by decide) (by decide) (by rfl) ?_
        exact ⟨by show 1 ≤ sizeLine; decide, fun p hp => go _ p (s21'.trans (same_upd hp)) upd_same⟩
      · obtain ⟨v1, rfl⟩ := len1 l
        refine fld_rd (k := 20) (n := "key") T (by decide) rfl (mk.same s21') (by decide) (by decide) (by rfl) ?_
        exact ⟨by show 1 ≤ sizeLine; decide, fun p hp => go _ p (s21'.trans (same_upd hp)) upd_same⟩
    simp only [List.mem_cons, List.not_mem_nil, or_false] at z19
    have s21' := s18'.trans s21
    refine e_if rfl (fun y22 => ?_) fun y22 => ?_
    · obtain rfl : k = 21 := by omega
      obtain ⟨v1, rfl⟩ := len1 l
      refine fld_rd (k := 21) (n := "view") T (by decide) rfl (mk.same s21') (by decide) (by decide) (by rfl) ?_
      exact ⟨by show 1 ≤ sizeLine; decide, fun p hp => go _ p (s21'.trans (same_upd hp)) upd_same⟩
    · obtain rfl : k = 23 := by omega
      obtain ⟨v1, rfl⟩ := len1 l
      refine fld_rd (k := 23) (n := "number") T (by decide) rfl (mk.same s21') (by decide) (by decide) (by rfl) ?_
      exact ⟨by show 1 ≤ sizeLine; decide, fun p hp => go _ p (s21'.trans (same_upd hp)) upd_same⟩
theorem sc_atB : FnScope ["_law_k", "_law_e"] ["_law_k", "_law_e"] (defScope sAttrB) := ⟨rfl, rfl, rfl, by decide +kernel, rfl, by decide +kernel, by decide +kernel⟩
theorem ok_atB {g : Addr} {fd : FuncData} (F : Fun K "_law_second_attributes" "_law_second_attributes" sAttrB g fd) (T : K46 K mg C D) : FnOk P w K mg base CX0 1 g fd ["_law_k", "_law_e"] (spAt C 24 42) := by
  refine F.ok sc_atB (fun vs H Q E h => ?_) (fun cdv A outer_ s H vs Q E hr h => ?_)
  · obtain ⟨k, x, ws, rfl, _⟩ := h
    rfl
  · obtain ⟨k, x, ws, rfl, h1, h2, mk, l, go⟩ := h
    refine ⟨_, (pss_cons (ps_if (pt_cmpR op_eq (pv 0) pe_int (nomark _)) (pss_one (ps_ret (pe_lst (pa_cons (ClN.pe_efld (pv 1)) pa_nil)))) pss_nil)
      (pss_cons (ps_if (pt_cmpR (show OpR _ (compareOp .In) (rIn K false) from op_in_seq) (pv 0) (pe_tup (pa_cons pe_int (pa_cons pe_int pa_nil))) (by rfl)) (pss_one (ps_ret (pe_lst (pa_cons (ClN.pe_efld (pv 1)) pa_nil)))) pss_nil)
      (pss_cons (ps_if (pt_cmpR (show OpR _ (compareOp .In) (rIn K false) from op_in_seq) (pv 0) (pe_tup (pa_cons pe_int (pa_cons pe_int pa_nil))) (by rfl)) (pss_one (ps_ret (pe_lst (pa_cons (ClN.pe_efld (pv 1)) (pa_cons (ClN.pe_efld (pv 1)) pa_nil))))) pss_nil)
      (pss_cons (ps_if (pt_cmpR op_eq (pv 0) pe_int (nomark _)) (pss_one (ps_ret (pe_lst (pa_cons (ClN.pe_efld (pv 1)) (pa_cons (ClN.pe_efld (pv 1)) pa_nil))))) pss_nil)
      (pss_cons (ps_if (pt_cmpR op_eq (pv 0) pe_int (nomark _)) (pss_one (ps_ret (pe_lst (pa_cons (ClN.pe_efld (pv 1)) (pa_cons (ClN.pe_efld (pv 1)) pa_nil))))) pss_nil)
      (pss_cons (ps_if (pt_cmpR op_eq (pv 0) pe_int (nomark _)) (pss_one (ps_ret (pe_lst (pa_cons (ClN.pe_efld (pv 1)) (pa_cons (ClN.pe_efld (pv 1)) pa_nil))))) pss_nil)
      (pss_cons (ps_if (pt_cmpR op_eq (pv 0) pe_int (nomark _)) (pss_one (ps_ret (pe_lst (pa_cons (ClN.pe_efld (pv 1)) (pa_cons (ClN.pe_efld (pv 1)) (pa_cons (ClN.pe_efld (pv 1)) pa_nil)))))) pss_nil)
      (pss_cons (ps_if (pt_cmpR op_lt (pv 0) pe_int (nomark _)) (pss_one (ps_ret (pe_lst (pa_cons (ClN.pe_efld (pv 1)) pa_nil)))) pss_nil)
      (pss_cons (ps_if (pt_cmpR (show OpR _ (compareOp .In) (rIn K false) from op_in_seq) (pv 0) (pe_tup (pa_cons pe_int (pa_cons pe_int pa_nil))) (by rfl)) (pss_one (ps_ret (pe_lst (pa_cons (ClN.pe_efld (pv 1)) pa_nil)))) pss_nil)
      (pss_cons (ps_if (pt_cmpR (show OpR _ (compareOp .In) (rIn K false) from op_in_seq) (pv 0) (pe_tup (pa_cons pe_int (pa_cons pe_int pa_nil))) (by rfl)) (pss_one (ps_ret (pe_lst (pa_cons (pe_ifExp (pt_cmpR op_eq (pv 0) pe_int (nomark _)) (ClN.pe_efld (pv 1)) (ClN.pe_efld (pv 1))) pa_nil)))) pss_nil)
      (pss_one (ps_ret (pe_ifExp (pt_cmpR op_eq (pv 0) pe_int (nomark _)) (pe_lst (pa_cons (ClN.pe_efld (pv 1)) (pa_cons (ClN.pe_efld (pv 1)) pa_nil))) (pe_lst (pa_cons (ClN.pe_efld (pv 1)) pa_nil))))))))))))))), ?_⟩
    have s0 : Same H H := Same.refl H
    refine k_if rfl (fun z23 => ?_) fun z23 => ?_
    · obtain rfl : k = 24 := by omega
      obtain ⟨v1, rfl⟩ := len1 l
      refine fld_rd (k := 24) (n := "name") T (by decide) rfl (mk.same s0) (by decide) (by decide) (by rfl) ?_
      exact ⟨by show 1 ≤ sizeLine; decide, fun p hp => go _ p (s0.trans (same_upd hp)) upd_same⟩
    refine k_in [25, 26] rfl (by decide) (fun z24 Hs26 s26 => ?_) fun z24 Hs26 s26 => ?_
    · simp only [List.mem_cons, List.not_mem_nil, or_false] at z24
      have s26' := s0.trans s26
      have hk : k = 25 ∨ k = 26 := by omega
      rcases hk with rfl | rfl
      · obtain ⟨v1, rfl⟩ := len1 l
        refine fld_rd (k := 25) (n := "key") T (by decide) rfl (mk.same s26') (by decide) (by decide) (by rfl) ?_
        exact ⟨by show 1 ≤ sizeLine; decide, fun p hp => go _ p (s26'.trans (same_upd hp)) upd_same⟩
      · obtain ⟨v1, rfl⟩ := len1 l
        refine fld_rd (k := 26) (n := "key") T (by decide) rfl (mk.same s26') (by decide) (by decide) (by rfl) ?_
        exact ⟨by show 1 ≤ sizeLine; decide, fun p hp => go _ p (s26'.trans (same_upd hp)) upd_same⟩
    simp only [List.mem_cons, List.not_mem_nil, or_false] at z24
    have s26' := s0.trans s26
    refine k_in [27, 29] rfl (by decide) (fun z27 Hs29 s29 => ?_) fun z27 Hs29 s29 => ?_
    · simp only [List.mem_cons, List.not_mem_nil, or_false] at z27
      have s29' := s26'.trans s29
      have hk : k = 27 ∨ k = 29 := by omega
      rcases hk with rfl | rfl
      · obtain ⟨v1, v2, rfl⟩ := len2 l
        exact lstF_rd (k := 27) ["reference", "key"] T (by decide) rfl (mk.same s29') ((.cons ⟨by decide, by decide, by rfl⟩ (.cons ⟨by decide, by decide, by rfl⟩ .nil))) (by simp) fun H9 p s9 hp => go H9 p (s29'.trans s9) hp
      · obtain ⟨v1, v2, rfl⟩ := len2 l
        exact lstF_rd (k := 29) ["reference", "key"] T (by decide) rfl (mk.same s29') ((.cons ⟨by decide, by decide, by rfl⟩ (.cons ⟨by decide, by decide, by rfl⟩ .nil))) (by simp) fun H9 p s9 hp => go H9 p (s29'.trans s9) hp
    simp only [List.mem_cons, List.not_mem_nil, or_false] at z27
    have s29' := s26'.trans s29
    refine k_if rfl (fun z30 => ?_) fun z30 => ?_
    · obtain rfl : k = 28 := by omega
      obtain ⟨v1, v2, rfl⟩ := len2 l
      exact lstF_rd (k := 28) ["check", "key"] T (by decide) rfl (mk.same s29') ((.cons ⟨by decide, by decide, by rfl⟩ (.cons ⟨by decide, by decide, by rfl⟩ .nil))) (by simp) fun H9 p s9 hp => go H9 p (s29'.trans s9) hp
    refine k_if rfl (fun z31 => ?_) fun z31 => ?_
    · obtain rfl : k = 30 := by omega
      obtain ⟨v1, v2, rfl⟩ := len2 l
      exact lstF_rd (k := 30) ["kind", "name"] T (by decide) rfl (mk.same s29') ((.cons ⟨by decide, by decide, by rfl⟩ (.cons ⟨by decide, by decide, by rfl⟩ .nil))) (by simp) fun H9 p s9 hp => go H9 p (s29'.trans s9) hp
    refine k_if rfl (fun z32 => ?_) fun z32 => ?_
    · obtain rfl : k = 31 := by omega
      obtain ⟨v1, v2, rfl⟩ := len2 l
      exact lstF_rd (k := 31) ["source", "key"] T (by decide) rfl (mk.same s29') ((.cons ⟨by decide, by decide, by rfl⟩ (.cons ⟨by decide, by decide, by rfl⟩ .nil))) (by simp) fun H9 p s9 hp => go H9 p (s29'.trans s9) hp
    refine k_if rfl (fun z33 => ?_) fun z33 => ?_
    · obtain rfl : k = 32 := by omega
      obtain ⟨v1, v2, v3, rfl⟩ := len3 l
      exact lstF_rd (k := 32) ["position", "was", "now"] T (by decide) rfl (mk.same s29') ((.cons ⟨by decide, by decide, by rfl⟩ (.cons ⟨by decide, by decide, by rfl⟩ (.cons ⟨by decide, by decide, by rfl⟩ .nil)))) (by simp) fun H9 p s9 hp => go H9 p (s29'.trans s9) hp
    refine k_lt rfl (fun z34 => ?_) fun z34 => ?_
    · have hk : k = 33 ∨ k = 34 ∨ k = 35 := by omega
      rcases hk with rfl | rfl | rfl
      · obtain ⟨v1, rfl⟩ := len1 l
        refine fld_rd (k := 33) (n := "session") T (by decide) rfl (mk.same s29') (by decide) (by decide) (by rfl) ?_
        exact ⟨by show 1 ≤ sizeLine; decide, fun p hp => go _ p (s29'.trans (same_upd hp)) upd_same⟩
      · obtain ⟨v1, rfl⟩ := len1 l
        refine fld_rd (k := 34) (n := "session") T (by decide) rfl (mk.same s29') (by decide) (by decide) (by rfl) ?_
        exact ⟨by show 1 ≤ sizeLine; decide, fun p hp => go _ p (s29'.trans (same_upd hp)) upd_same⟩
      · obtain ⟨v1, rfl⟩ := len1 l
        refine fld_rd (k := 35) (n := "session") T (by decide) rfl (mk.same s29') (by decide) (by decide) (by rfl) ?_
        exact ⟨by show 1 ≤ sizeLine; decide, fun p hp => go _ p (s29'.trans (same_upd hp)) upd_same⟩
    refine k_in [36, 38] rfl (by decide) (fun z35 Hs37 s37 => ?_) fun z35 Hs37 s37 => ?_
    · simp only [List.mem_cons, List.not_mem_nil, or_false] at z35
      have s37' := s29'.trans s37
      have hk : k = 36 ∨ k = 38 := by omega
      rcases hk with rfl | rfl
      · obtain ⟨v1, rfl⟩ := len1 l
        refine fld_rd (k := 36) (n := "number") T (by decide) rfl (mk.same s37') (by decide) (by decide) (by rfl) ?_
        exact ⟨by show 1 ≤ sizeLine; decide, fun p hp => go _ p (s37'.trans (same_upd hp)) upd_same⟩
      · obtain ⟨v1, rfl⟩ := len1 l
        refine fld_rd (k := 38) (n := "number") T (by decide) rfl (mk.same s37') (by decide) (by decide) (by rfl) ?_
        exact ⟨by show 1 ≤ sizeLine; decide, fun p hp => go _ p (s37'.trans (same_upd hp)) upd_same⟩
    simp only [List.mem_cons, List.not_mem_nil, or_false] at z35
    have s37' := s29'.trans s37
    refine k_in [37, 39] rfl (by decide) (fun z38 Hs40 s40 => ?_) fun z38 Hs40 s40 => ?_
    · simp only [List.mem_cons, List.not_mem_nil, or_false] at z38
      have s40' := s37'.trans s40
      refine e_if rfl (fun y41 => ?_) fun y41 => ?_
      · obtain rfl : k = 37 := by omega
        obtain ⟨v1, rfl⟩ := len1 l
        refine fld_rd (k := 37) (n := "mark") T (by decide) rfl (mk.same s40') (by decide) (by decide) (by rfl) ?_
        exact ⟨by show 1 ≤ sizeLine; decide, fun p hp => go _ p (s40'.trans (same_upd hp)) upd_same⟩
      · obtain rfl : k = 39 := by omega
        obtain ⟨v1, rfl⟩ := len1 l
        refine fld_rd (k := 39) (n := "cut") T (by decide) rfl (mk.same s40') (by decide) (by decide) (by rfl) ?_
        exact ⟨by show 1 ≤ sizeLine; decide, fun p hp => go _ p (s40'.trans (same_upd hp)) upd_same⟩
    simp only [List.mem_cons, List.not_mem_nil, or_false] at z38
    have s40' := s37'.trans s40
    refine e_if rfl (fun y42 => ?_) fun y42 => ?_
    · obtain rfl : k = 40 := by omega
      obtain ⟨v1, v2, rfl⟩ := len2 l
      exact lstF_rd (k := 40) ["kind", "limit"] T (by decide) rfl (mk.same s40') ((.cons ⟨by decide, by decide, by rfl⟩ (.cons ⟨by decide, by decide, by rfl⟩ .nil))) (by simp) fun H9 p s9 hp => go H9 p (s40'.trans s9) hp
    · obtain rfl : k = 41 := by omega
      obtain ⟨v1, rfl⟩ := len1 l
      refine fld_rd (k := 41) (n := "limit") T (by decide) rfl (mk.same s40') (by decide) (by decide) (by rfl) ?_
      exact ⟨by show 1 ≤ sizeLine; decide, fun p hp => go _ p (s40'.trans (same_upd hp)) upd_same⟩
end
end K18
namespace K18
open PySem L2 OwE
/-! ### _law_base_right -/
structure KBs (K : PySem.W.Frag) (mg : Str → Option Value) (C : Nat → Addr) : Prop where
  z : ∀ n ∈ ([("ValueError" : Str), ("LookupError" : Str), ("RuntimeError" : Str), ("ArithmeticError" : Str), ("KeyError" : Str), ("IndexError" : Str), ("ZeroDivisionError" : Str), ("OverflowError" : Str)] : List Str), mg n = none
  one : ∀ k, k < 42 → PySem.W.kitOne K (.ref (C k)) (.type (cl4 k).fa.b) = some true
  v : ∀ k, k < 15 → PySem.W.kitAny K (.ref (C k)) [.type "LookupError", .type "RuntimeError", .type "ArithmeticError"] = some false
  l : ∀ k, 15 ≤ k → k < 24 → PySem.W.kitAny K (.ref (C k)) [.type "ValueError", .type "RuntimeError", .type "ArithmeticError", .type "KeyError", .type "IndexError"] = some false
  r : ∀ k, 24 ≤ k → k < 40 → PySem.W.kitAny K (.ref (C k)) [.type "ValueError", .type "LookupError", .type "ArithmeticError"] = some false
  a : ∀ k, 40 ≤ k → k < 42 → PySem.W.kitAny K (.ref (C k)) [.type "ValueError", .type "LookupError", .type "RuntimeError", .type "ZeroDivisionError", .type "OverflowError"] = some false
section
variable {P : Program} {w : World} {K : PySem.W.Frag} {mg : Str → Option Value} {base : Heap} {C D f : Nat → Addr} {d : Nat → FuncData}
theorem fa_val : ∀ k, k < 15 → (cl4 k).fa.b = "ValueError" := by decide +kernel
theorem fa_look : ∀ k, k < 24 → 15 ≤ k → (cl4 k).fa.b = "LookupError" := by decide +kernel
theorem fa_run : ∀ k, k < 40 → 24 ≤ k → (cl4 k).fa.b = "RuntimeError" := by decide +kernel
theorem fa_arith : ∀ k, k < 42 → 40 ≤ k → (cl4 k).fa.b = "ArithmeticError" := by decide +kernel
def spBr (C : Nat → Addr) : Sp := fun vs H Q _ => ∃ (k : Nat) (x : Addr) (ws : List V), vs = [.int (k : Int), .ref x] ∧ k < 42 ∧ Made C k ws H x ∧ ∀ H', Same H H' → Q (.bl true) H'
/-- the tuple of built-in classes in isinstance -/
def tTys : List String → TA
  | [] => tNil
  | t :: ts => tCons (tC (.ty t)) (tTys ts)
theorem tys_rd {σ : St} {H : Hp} : ∀ (ts : List String) (Q : List V → Hp → Prop), Q (ts.map V.ty) H → tTys ts σ H Q
  | [], Q, h => h
  | t :: ts, Q, h => tys_rd ts (fun ys H2 => Q (V.ty t :: ys) H2) h
theorem tys_cls : ∀ ts : List String, PySem.Paired ClsV (ts.map V.ty) (ts.map Value.type)
  | [] => .nil
  | t :: ts => .cons (.ty t) (tys_cls ts)
theorem isx_rd {σ : St} {i : Nat} {k : Nat} {x : Addr} {ws : List V} {H : Hp} {t : String} {Q : VK} (T : K46 K mg C D) (hk : k < 42) (h1 : σ[i]? = some (some (.ref x))) (mk : Made C k ws H x) (e : PySem.W.kitOne K (.ref (C k)) (.type t) = some true) (q : Q (.bl true) H) :
    tCB (rIsX K) (tCons (tVar i) (tCons (tC (.ty t)) tNil)) σ H Q := by
  obtain ⟨dd, u, ex, hu⟩ := mk.e
  exact ⟨_, h1, x, C k, dd, _, .ty t, .type t, true, rfl, ex, (T.te k hk).x, .ty _, e, q⟩
theorem isxT_rd {σ : St} {i : Nat} {k : Nat} {x : Addr} {ws : List V} {H : Hp} {Q : VK} (ts : List String) (T : K46 K mg C D) (hk : k < 42) (h1 : σ[i]? = some (some (.ref x))) (mk : Made C k ws H x) (l : ts.length ≤ 9) (e : PySem.W.kitAny K (.ref (C k)) (ts.map Value.type) = some false)
    (q : ∀ H', Same H H' → Q (.bl false) H') : tCB (rIsXT K) (tCons (tVar i) (tCons (tTup (tTys ts)) tNil)) σ H Q := by
  refine ⟨_, h1, tys_rd ts _ ⟨by rw [List.length_map]; exact Nat.le_trans l (by decide), fun p hp => ?_⟩⟩
  have s1 := same_upd (o := HO.tup (ts.map V.ty)) hp
  obtain ⟨dd, u, ex, hu⟩ := (mk.same s1).e
  exact ⟨x, C k, dd, _, p, ts.map V.ty, ts.map Value.type, false, rfl, upd_same, tys_cls ts, ex, (T.te k hk).x, e, q _ s1⟩
theorem and_rd {k : Nat} {x : Addr} {ws : List V} {H : Hp} {t : String} {ts : List String} {D' : Ends} {σ : St} (T : K46 K mg C D) (hk : k < 42) (h1 : σ[1]? = some (some (.ref x))) (mk : Made C k ws H x) (e : PySem.W.kitOne K (.ref (C k)) (.type t) = some true) (l : ts.length ≤ 9)
    (n : PySem.W.kitAny K (.ref (C k)) (ts.map Value.type) = some false) (q : ∀ H', Same H H' → D'.rt (.bl true) H') : tRet (tAndV (tCB (rIsX K) (tCons (tVar 1) (tCons (tC (.ty t)) tNil))) (tNotV (tCB (rIsXT K) (tCons (tVar 1) (tCons (tTup (tTys ts)) tNil))))) D' σ H := by
  refine isx_rd (Q := fun v H1 => ∃ c, v = .bl c ∧ if c = true then tNotV (tCB (rIsXT K) (tCons (tVar 1) (tCons (tTup (tTys ts)) tNil))) σ H1 D'.rt else D'.rt (.bl false) H1) T hk h1 mk e ⟨true, rfl, ?_⟩
  rw [if_pos rfl]
  exact isxT_rd (Q := fun v H1 => ∃ c, v = .bl c ∧ D'.rt (.bl (!c)) H1) ts T hk h1 mk l n fun H' s => ⟨false, rfl, q H' s⟩
theorem set_and_rd {k : Nat} {x : Addr} {ws : List V} {H : Hp} {t : String} {ts : List String} {D' : Ends} {v0 : V} {v2 : Option V} (T : K46 K mg C D) (hk : k < 42) (mk : Made C k ws H x) (e : PySem.W.kitOne K (.ref (C k)) (.type t) = some true) (l : ts.length ≤ 9)
    (n : PySem.W.kitAny K (.ref (C k)) (ts.map Value.type) = some false) (q : ∀ H', Same H H' → D'.rt (.bl true) H') : tSeq (tAsg (tCB (rIsXT K) (tCons (tVar 1) (tCons (tTup (tTys ts)) tNil))) (gName 2)) (tRet (tAndV (tCB (rIsX K) (tCons (tVar 1) (tCons (tC (.ty t)) tNil))) (tNotV (tVar 2)))) D' [some v0, some (.ref x), v2] H := by
  refine isxT_rd (σ := [some v0, some (.ref x), v2]) (i := 1) ts T hk rfl mk l n fun H1 s1 => ?_
  refine isx_rd (σ := [some v0, some (.ref x), some (.bl false)]) (i := 1) (Q := fun v H1 => ∃ c, v = .bl c ∧ if c = true then tNotV (tVar 2) [some v0, some (.ref x), some (.bl false)] H1 D'.rt else D'.rt (.bl false) H1) T hk rfl (mk.same s1) e ⟨true, rfl, ?_⟩
  rw [if_pos rfl]
  exact ⟨_, rfl, false, rfl, q H1 s1⟩
theorem sc_br : FnScope ["_law_k", "_law_e", "_law_others"] ["_law_k", "_law_e"] (defScope sBaseR) := ⟨rfl, rfl, rfl, by decide +kernel, rfl, by decide +kernel, by decide +kernel⟩
theorem ok_br {g : Addr} {fd : FuncData} (F : Fun K "_law_base_right" "_law_base_right" sBaseR g fd) (T : K46 K mg C D) (B : KBs K mg C) : FnOk P w K mg base CX0 1 g fd ["_law_k", "_law_e"] (spBr C) := by
  refine F.ok sc_br (fun vs H Q E h => ?_) (fun cdv A outer_ s H vs Q E hr h => ?_)
  · obtain ⟨k, x, ws, rfl, _⟩ := h
    rfl
  · obtain ⟨k, x, ws, rfl, hk, mk, go⟩ := h
    refine ⟨_, (pss_cons (ps_if (pt_cmpR op_lt (pv 0) pe_int (nomark _)) (pss_one (ps_ret (pe_and (pe_callB call_isX (by rfl) T.zIs (by decide +kernel) (pa_cons (pv 1) (pa_cons (pe_bltn (v := .ty "ValueError") (u := .type "ValueError") (by rfl) (B.z _ (by decide)) (by decide +kernel) rfl) pa_nil))) (pe_one (pe_not (pe_callB call_isXT (by rfl) T.zIs (by decide +kernel) (pa_cons (pv 1) (pa_cons (pe_tup (pa_cons (pe_bltn (v := .ty "LookupError") (u := .type "LookupError") (by rfl) (B.z _ (by decide)) (by decide +kernel) rfl) (pa_cons (pe_bltn (v := .ty "RuntimeError") (u := .type "RuntimeError") (by rfl) (B.z _ (by decide)) (by decide +kernel) rfl) (pa_cons (pe_bltn (v := .ty "ArithmeticError") (u := .type "ArithmeticError") (by rfl) (B.z _ (by decide)) (by decide +kernel) rfl) pa_nil)))) pa_nil)))))))) pss_nil)
      (pss_cons (ps_if (pt_cmpR op_lt (pv 0) pe_int (nomark _)) (pss_cons (ps_set (i := 2) sc_br.nd rfl (Or.inl rfl) (pe_callB call_isXT (by rfl) T.zIs (by decide +kernel) (pa_cons (pv 1) (pa_cons (pe_tup (pa_cons (pe_bltn (v := .ty "ValueError") (u := .type "ValueError") (by rfl) (B.z _ (by decide)) (by decide +kernel) rfl) (pa_cons (pe_bltn (v := .ty "RuntimeError") (u := .type "RuntimeError") (by rfl) (B.z _ (by decide)) (by decide +kernel) rfl) (pa_cons (pe_bltn (v := .ty "ArithmeticError") (u := .type "ArithmeticError") (by rfl) (B.z _ (by decide)) (by decide +kernel) rfl) (pa_cons (pe_bltn (v := .ty "KeyError") (u := .type "KeyError") (by rfl) (B.z _ (by decide)) (by decide +kernel) rfl) (pa_cons (pe_bltn (v := .ty "IndexError") (u := .type "IndexError") (by rfl) (B.z _ (by decide)) (by decide +kernel) rfl) pa_nil)))))) pa_nil)))) (pss_one (ps_ret (pe_and (pe_callB call_isX (by rfl) T.zIs (by decide +kernel) (pa_cons (pv 1) (pa_cons (pe_bltn (v := .ty "LookupError") (u := .type "LookupError") (by rfl) (B.z _ (by decide)) (by decide +kernel) rfl) pa_nil))) (pe_one (pe_not (pv 2))))))) pss_nil)
      (pss_cons (ps_if (pt_cmpR op_lt (pv 0) pe_int (nomark _)) (pss_one (ps_ret (pe_and (pe_callB call_isX (by rfl) T.zIs (by decide +kernel) (pa_cons (pv 1) (pa_cons (pe_bltn (v := .ty "RuntimeError") (u := .type "RuntimeError") (by rfl) (B.z _ (by decide)) (by decide +kernel) rfl) pa_nil))) (pe_one (pe_not (pe_callB call_isXT (by rfl) T.zIs (by decide +kernel) (pa_cons (pv 1) (pa_cons (pe_tup (pa_cons (pe_bltn (v := .ty "ValueError") (u := .type "ValueError") (by rfl) (B.z _ (by decide)) (by decide +kernel) rfl) (pa_cons (pe_bltn (v := .ty "LookupError") (u := .type "LookupError") (by rfl) (B.z _ (by decide)) (by decide +kernel) rfl) (pa_cons (pe_bltn (v := .ty "ArithmeticError") (u := .type "ArithmeticError") (by rfl) (B.z _ (by decide)) (by decide +kernel) rfl) pa_nil)))) pa_nil)))))))) pss_nil)
      (pss_cons (ps_set (i := 2) sc_br.nd rfl (Or.inl rfl) (pe_callB call_isXT (by rfl) T.zIs (by decide +kernel) (pa_cons (pv 1) (pa_cons (pe_tup (pa_cons (pe_bltn (v := .ty "ValueError") (u := .type "ValueError") (by rfl) (B.z _ (by decide)) (by decide +kernel) rfl) (pa_cons (pe_bltn (v := .ty "LookupError") (u := .type "LookupError") (by rfl) (B.z _ (by decide)) (by decide +kernel) rfl) (pa_cons (pe_bltn (v := .ty "RuntimeError") (u := .type "RuntimeError") (by rfl) (B.z _ (by decide)) (by decide +kernel) rfl) (pa_cons (pe_bltn (v := .ty "ZeroDivisionError") (u := .type "ZeroDivisionError") (by rfl) (B.z _ (by decide)) (by decide +kernel) rfl) (pa_cons (pe_bltn (v := .ty "OverflowError") (u := .type "OverflowError") (by rfl) (B.z _ (by decide)) (by decide +kernel) rfl) pa_nil)))))) pa_nil)))) (pss_one (ps_ret (pe_and (pe_callB call_isX (by rfl) T.zIs (by decide +kernel) (pa_cons (pv 1) (pa_cons (pe_bltn (v := .ty "ArithmeticError") (u := .type "ArithmeticError") (by rfl) (B.z _ (by decide)) (by decide +kernel) rfl) pa_nil))) (pe_one (pe_not (pv 2)))))))))), ?_⟩
    refine k_lt rfl (fun z => ?_) fun z1 => ?_
    · have h1 : k < 15 := by omega
      exact and_rd (ts := ["LookupError", "RuntimeError", "ArithmeticError"]) T hk rfl mk (fa_val k h1 ▸ B.one k hk) (by decide) (B.v k h1) go
    refine k_lt rfl (fun z => ?_) fun z2 => ?_
    · have h1 : k < 24 := by omega
      exact set_and_rd (ts := ["ValueError", "RuntimeError", "ArithmeticError", "KeyError", "IndexError"]) T hk mk (fa_look k h1 (by omega) ▸ B.one k hk) (by decide) (B.l k (by omega) h1) go
    refine k_lt rfl (fun z => ?_) fun z3 => ?_
    · have h1 : k < 40 := by omega
      exact and_rd (ts := ["ValueError", "LookupError", "ArithmeticError"]) T hk rfl mk (fa_run k h1 (by omega) ▸ B.one k hk) (by decide) (B.r k (by omega) h1) go
    exact set_and_rd (ts := ["ValueError", "LookupError", "RuntimeError", "ZeroDivisionError", "OverflowError"]) T hk mk (fa_arith k hk (by omega) ▸ B.one k hk) (by decide) (B.a k (by omega) hk) go
end
end K18
namespace K18
open PySem L2 OwE
/-! ### told_error in an except suite -/
section
variable {P : Program} {w : World} {K : PySem.W.Frag} {mg : Str → Option Value} {base : Heap}
def spTeQ (K : PySem.W.Frag) : ClN.SpP := fun p vs H Q _ => ∃ (C dd t : Addr) (cn : Str) (fs : List (Str × V)) (ws : List V), vs = [.ref p.1] ∧ Zc (.ref C) (some dd) p.2 ∧ (∃ fv, p.2.data = .fields fv) ∧ H dd = some (.xd fs) ∧ TeC K C cn ∧ List.lookup ("_told" : Str) fs = some (V.ref t) ∧
  H t = some (.tup ws) ∧ ws.length ≤ 3 ∧ ∀ H' q, Same H H' → H' q = some (.tup (.str cn :: ws)) → Q (.ref q) H'
theorem ok_teQ {f : Addr} {fd : FuncData} (F : Fun K "told_error" "told_error" sTold f fd) : ClN.FnQ P w K mg base 1 f fd ["error"] (spTeQ K) := by
  refine ClN.okQ F (N := ["error"]) ⟨rfl, rfl, rfl, by decide +kernel, rfl, by decide +kernel, by decide +kernel⟩ (fun p vs H Q E h => ?_) (fun cdv A o_ s H vs Q p hr h => ?_)
  · obtain ⟨C, dd, t, cn, fs, ws, rfl, _⟩ := h
    rfl
  · obtain ⟨C, dd, t, cn, fs, ws, rfl, hz, hd, hf, T, lt, ht, l3, k⟩ := h
    refine ⟨_, pss_one (ps_ret (pe_op op_catA (pe_tup (pa_cons (ClN.pe_cname (ClN.pe_eclsP (p := p) List.mem_cons_self (pv 0))) pa_nil)) (ClN.pe_efldP (p := p) List.mem_cons_self (pv 0)))), ?_⟩
    obtain ⟨tk, N⟩ := T.n
    refine ⟨_, rfl, C, dd, fs, rfl, hz, hd, hf, T.x, C, cn, tk, rfl, N, ?_⟩
    refine ⟨by show 1 ≤ sizeLine; decide, fun q hq => ?_⟩
    have s1 := same_upd (o := HO.tup [V.str cn]) hq
    refine ⟨_, rfl, C, dd, fs, .ref t, rfl, hz, hd, s1 _ _ hf, ClN.xfC T.x, T.t, lt, ?_⟩
    refine catT2 (xs := [V.str cn]) (ys := ws) upd_same (s1 _ _ ht) (Nat.le_trans (show 1 + ws.length ≤ 4 by omega) (by decide)) fun H' r s2 hr2 => ?_
    exact k H' r (s1.trans s2) hr2
end
end K18
namespace K18
open PySem L2 OwE DzR
/-! ### what is due of an exception: mathematics -/
def nmK (k : Nat) : Str := (cl4 k).n
def bsK (k : Nat) : Str := words46.getD (famN (cl4 k).fa) ""
theorem flags_eq : ∀ k, k < 42 → (words46.map fun x => (decide (x = nmK k) || decide (x = bsK k))) = (List.range 46).map (isK k) := by decide +kernel
theorem name_at : ∀ k, k < 42 → names42[k]? = some (.str (nmK k)) := by decide +kernel
theorem base_at : ∀ k, k < 42 → ([V.str "InvalidError", .str "MissingError", .str "StateError", .str "LimitError"])[(if k > 14 then 1 else 0) + (if k > 23 then 1 else 0) + (if k > 39 then 1 else 0)]? = some (.str (bsK k)) := by decide +kernel
theorem names_46 : names42 ++ [V.str "InvalidError", .str "MissingError", .str "StateError", .str "LimitError"] = words46.map V.str := by decide +kernel
theorem flags_46 (k : Nat) : ((List.range 24).map fun j => V.bl (isK k j)) ++ (((List.range 22).map (24 + ·)).map fun j => V.bl (isK k j)) = ((List.range 46).map (isK k)).map V.bl := by
  have e : (List.range 46) = List.range 24 ++ (List.range 22).map (24 + ·) := by decide +kernel
  rw [e, List.map_append, List.map_append, List.map_map, List.map_map]
  rfl
/-- one and two shown alike: the same text -/
theorem ShZ.same {H G : Hp} {v : V} {d : PyData} (h : ShZ H v d) (s : Same H G) : ShZ G v d := ⟨h.at_.same s, h.sh, h.len, h.dp⟩
end K18
/-! try with several clauses 'except C as e', 'except (C, D) as e', one name for all -/
namespace TwT
open PySem PySem.Spec PyProof.Rows L2
inductive Clause where
  | one (c : Value) (ts : Addr → Value → Option Addr → TS)
  | two (c1 c2 : Value) (ts : Addr → Value → Option Addr → TS)
/-- what the clause 'except (x, y) as n' wishes of an exception of the body: slot i is n's -/
def wAs2 (K : PySem.W.Frag) (c1 c2 : Value) (i : Nat) (ts : Addr → Value → Option Addr → TS) (Wout : WX) (D : Ends) : WX := fun cls d σ H =>
  ∃ b, PySem.W.exmAny K cls [c1, c2] = some b ∧ (b = true → ∀ a, H a = none → ts a cls d { nx := fun σ' H' => D.nx (σ'.set i none) H', rt := D.rt, bk := fun σ' H' => D.bk (σ'.set i none) H', ct := fun σ' H' => D.ct (σ'.set i none) H' } (σ.set i (some (.ref a))) H) ∧
    (b = false → Wout cls d σ H)
def wishes (K : PySem.W.Frag) (i : Nat) (Wout : WX) (D : Ends) : List Clause → WX
  | [] => Wout
  | .one c ts :: more => wAs K c i ts (wishes K i Wout D more) D
  | .two c1 c2 ts :: more => wAs2 K c1 c2 i ts (wishes K i Wout D more) D
inductive Clauses (X : Cx) (n : Str) : List ExceptHandler → List Clause → Prop
  | nil : Clauses X n [] []
  | one {x : Str} {c : Value} {ts : Addr → Value → Option Addr → TS} {st : Stmt} {sts : List Stmt} {p1 p2 : Pos} {hs : List ExceptHandler} {cs : List Clause} (nm : Names X x c)
      (run : ∀ (e : Addr) (ob : Obj) (cls : Value) (d : Option Addr) (pn : List (Addr × Obj)), Zc cls d ob → (∃ fv, ob.data = .fields fv) → PSs (X.suite e ((e, ob) :: pn)) (st :: sts) (ts e cls d)) (more : Clauses X n hs cs) :
      Clauses X n (.ExceptHandler (some (.Name x p1)) (some n) (st :: sts) p2 :: hs) (.one c ts :: cs)
  | two {x y : Str} {c1 c2 : Value} {ts : Addr → Value → Option Addr → TS} {st : Stmt} {sts : List Stmt} {p1 p2 p3 p4 : Pos} {kk : Nat} {hs : List ExceptHandler} {cs : List Clause} (nm : Names X x c1) (nm2 : Names X y c2)
      (run : ∀ (e : Addr) (ob : Obj) (cls : Value) (d : Option Addr) (pn : List (Addr × Obj)), Zc cls d ob → (∃ fv, ob.data = .fields fv) → PSs (X.suite e ((e, ob) :: pn)) (st :: sts) (ts e cls d)) (more : Clauses X n hs cs) :
      Clauses X n (.ExceptHandler (some (.Tuple [.Name x p1, .Name y p2] kk p3)) (some n) (st :: sts) p4 :: hs) (.two c1 c2 ts :: cs)
theorem flying_keeps {base h h' : Heap} {l : List Env} {e : Addr} {Z : Obj → Prop} (f : HandSPX.FlyingZ base l e Z h) (k : ∀ b o, h.get? b = some o → h'.get? b = some o) : HandSPX.FlyingZ base l e Z h' := by
  obtain ⟨f1, f2, f3, oe, vs, T, oT, ts, g1, z, d1, v1, n1, n2, g2, d2, v2⟩ := f
  exact ⟨fun b o q => k _ _ (f1 b o q), f2, f3.of_keeps fun b o q _ => ⟨o, k _ _ q, rfl⟩, oe, vs, T, oT, ts, k _ _ g1, z, d1, v1, n1, n2, k _ _ g2, d2, v2⟩
section
variable {X : Cx} {n : Str} {i : Nat} {body : List Stmt} {h1 : ExceptHandler} {hs : List ExceptHandler} {cs : List Clause} {pos : Pos} {tb : WX → TS} {Wout : WX}
theorem ps_try (hst : X.stack = X.env :: X.outer) (hfm : X.env.frame = some X.env.locals) (nd : X.N.Nodup) (at_i : X.N[i]? = some n) (loc : X.env.kindOf n = some .local) (tk : Takes X Wout)
    (hb : ∀ (W : WX) (pn : List (Addr × Obj)) (xe : Value → Shared → Prop), Takes (X.tr pn xe) W → PassesOwn (model X.prog X.w) X.A X.env xe → PSs (X.tr pn xe) body (tb W))
    (all : Clauses X n (h1 :: hs) cs) : PS X (.Try body (h1 :: hs) [] [] pos) (fun D σ H => tb (wishes X.K i Wout D cs) D σ H) := ⟨by
  intro pins s σ H D I start
  have okI := I.ok
  have frames : X.A.frames = some (X.env :: X.outer) := by rw [okI.frames, hst]
  have isLoc : Loc X.env.scope n := .inl loc
  let after : Value → Shared → Prop := fun e s₁ => wpAny (model X.prog X.w) X.A (noteFrame e X.env) (fun _ s₂ => wpAny (model X.prog X.w) X.A (setFlight e none) (fun _ s₃ => wpAny (model X.prog X.w) X.A (handleBy e X.env (h1 :: hs)) (SP X pins D) X.xe s₃) X.xe s₂) X.xe s₁
  refine wpAny_Try_except (wpAny_mono ((hb (wishes X.K i Wout D cs) (X.pn ++ pins) after ?_ PassesOwn.looking).run [] s σ H D (I.toTry _) start) ?_ fun e s1 z => z)
  · rintro u sE ⟨e, B, sI, pins', σ', H', cls, d, rfl, JT, nb, grow, skyT, na, sos, ag, want⟩
    have J : Inv X pins σ' H' sI := JT.ofTry okI
    have sky : Sky B (X.env :: X.outer) e (Zc cls d) X.env.locals sE.heap := by rw [← hst]; exact skyT
    show wpAny _ X.A (noteFrame (.ref e) X.env) _ _ sE
    refine Sky.land Zc.steady frames hfm sky ?_
    suffices walk : ∀ {ks : List ExceptHandler} {ls : List Clause}, Clauses X n ks ls → ∀ hA : Heap, HandSPX.FlyingZ B (X.env :: X.outer) e (Zc cls d) hA → sE.heap.UpToSlots hA → wishes X.K i Wout D ls cls d σ' H' → wpAny (model X.prog X.w) X.A (handleBy (.ref e) X.env ks) (SP X pins D) X.xe { sE with heap := hA } from fun hA flA upA => walk all hA flA upA want
    intro ks ls cl
    induction cl with
    | nil =>
      intro hA flA upA w
      have JA : Inv X pins σ' H' { sE with heap := hA } := J.landed nb flA.1 (grow.trans upA) sos ag
      obtain ⟨obA, fvA, getA, zcA, datA⟩ := flA.there
      have away : e ∉ frs (X.env :: X.outer) := fun mem => by
        obtain ⟨_, o', get', nf⟩ := flA.2.2.1.mem mem
        rw [getA] at get'
        cases get'
        exact nf _ datA
      have nLoc : e ≠ X.env.locals := fun z => away (List.mem_filterMap.mpr ⟨X.env, List.mem_cons_self, by rw [hfm, z]⟩)
      have nFs : e ∉ X.fs := fun mem => by
        obtain ⟨en, hen, q⟩ := List.mem_filterMap.mp mem
        exact away (List.mem_filterMap.mpr ⟨en, List.mem_cons_of_mem _ hen, q⟩)
      have SA := JA.suite getA datA na nLoc nFs
      have typed : PySem.W.Looks (model X.prog X.w) hA (typeOf (.ref e)) cls := fun A Q E s k q => wpAny_typeOf_ref (k _ _ getA) (by rw [zcA.1]; exact q)
      refine wpAny_handleBy_nil ?_
      obtain ⟨_, _, _, ob, fv, T, oT, ts', gob, zob, dob, d1, _⟩ := id flA
      unfold PySem.passOn
      refine wpAny_bind (wpAny_field gob dob d1 ?_)
      rw [if_neg (show ¬ ((Value.ref T == Value.none) = true) from by simp)]
      have leave : wpAny (model X.prog X.w) X.A (setFlight (.ref e) X.env.frame) (fun _ sN => wpAny (model X.prog X.w) X.A (throw (.ref e) : Sem Flow) (SP X pins D) X.xe sN) X.xe { sE with heap := hA } := by
        rw [hfm]
        refine HandSPX.setFlight_upZ flA ?_
        intro hB inB upB
        refine wpAny_throw (tk _ _ ⟨e, B, sI, pins, σ', H', cls, d, rfl, J, nb, (grow.trans upA).trans upB, .inr (.inr ?_), na, sos, ag, w⟩)
        rw [hst]
        exact inB
      first | exact wpAny_bind (wpAny_pure (wpAny_bind leave)) | exact wpAny_bind leave
    | @one x c ts st sts p1 p2 hs2 cs2 nm run more ih =>
      rintro hA flA upA ⟨b, eb, yes, no⟩
      have JA : Inv X pins σ' H' { sE with heap := hA } := J.landed nb flA.1 (grow.trans upA) sos ag
      obtain ⟨obA, fvA, getA, zcA, datA⟩ := flA.there
      have away : e ∉ frs (X.env :: X.outer) := fun mem => by
        obtain ⟨_, o', get', nf⟩ := flA.2.2.1.mem mem
        rw [getA] at get'
        cases get'
        exact nf _ datA
      have nLoc : e ≠ X.env.locals := fun z => away (List.mem_filterMap.mpr ⟨X.env, List.mem_cons_self, by rw [hfm, z]⟩)
      have nFs : e ∉ X.fs := fun mem => by
        obtain ⟨en, hen, q⟩ := List.mem_filterMap.mp mem
        exact away (List.mem_filterMap.mpr ⟨en, List.mem_cons_of_mem _ hen, q⟩)
      have SA := JA.suite getA datA na nLoc nFs
      have typed : PySem.W.Looks (model X.prog X.w) hA (typeOf (.ref e)) cls := fun A Q E s k q => wpAny_typeOf_ref (k _ _ getA) (by rw [zcA.1]; exact q)
      refine wpAny_handleBy_cons (codeAny_handlers_test ?_) (fun q => nomatch q)
      have isC := PySem.W.exm_one (M := model X.prog X.w) JA.kIn typed eb
      have named : ∀ {Q E : Value → Shared → Prop}, Q c { sE with heap := hA } → wpAny (model X.prog X.w) (X.A.mark (some (.ref e))) (eval (.Name x p1) X.env) Q E { sE with heap := hA } := by
        intro Q E q
        obtain ⟨gl, nd, m | ⟨m, bv, nn⟩⟩ := nm
        · exact ld_glob (X := X.suite e ((e, obA) :: (X.pn ++ pins))) SA gl m q nd
        · exact ld_blt (X := X.suite e ((e, obA) :: (X.pn ++ pins))) SA gl m bv q nn nd
      refine named (isC.here ?_)
      cases b with
      | false =>
        show wpAny _ X.A (handleBy (.ref e) X.env hs2) _ _ _
        exact ih hA flA upA (no rfl)
      | true =>
        refine codeAny_handlers_suite_as (HandSPX.lands_againZ flA ?_)
        intro hB flB upB
        have JB : Inv X pins σ' H' { sE with heap := hB } := J.landed nb flB.1 ((grow.trans upA).trans upB) sos ag
        obtain ⟨obB, fvB, getB, zcB, datB⟩ := flB.there
        have SB := JB.suite getB datB na nLoc nFs
        refine store_ok (X := X.suite e ((e, obB) :: (X.pn ++ pins))) (v := .ref e) SB nd at_i isLoc rfl (fun s5 S5 => ?_) (.inr loc)
        refine wpAny_mono ((run e obB cls d (X.pn ++ pins) zcB ⟨_, datB⟩).run [] s5 _ H' _ S5 (yes rfl e na)) (fun f s6 sp => ?_) fun _ _ z => z.elim
        have unbind : ∀ {σ6 : L2.St} {H6 : Hp} {Q : Shared → Prop}, Inv (X.suite e ((e, obB) :: (X.pn ++ pins))) [] σ6 H6 s6 → (∀ s7, Inv X pins (σ6.set i none) H6 s7 → Q s7) →
            wpAny (model X.prog X.w) X.A (do bindName X.env n .none; unbindBehindTheSuite X.env n p2) (fun _ s7 => Q s7) X.xe s6 := fun S6 go => gone_ok (S6.unsuite okI) nd at_i loc go
        rcases f with _ | _ | _ | u
        all_goals first
          | (obtain ⟨v6, σ6, H6, S6, r6, q6⟩ := sp; exact unbind S6 fun s7 J7 => ⟨_, _, _, J7, r6, q6⟩)
          | (obtain ⟨σ6, H6, S6, q6⟩ := sp; exact unbind S6 fun s7 J7 => ⟨_, _, J7, q6⟩)
    | @two x y c1 c2 ts st sts p1 p2 p3 p4 kk hs2 cs2 nm nm2 run more ih =>
      rintro hA flA upA ⟨b, eb, yes, no⟩
      have JA : Inv X pins σ' H' { sE with heap := hA } := J.landed nb flA.1 (grow.trans upA) sos ag
      obtain ⟨obA, fvA, getA, zcA, datA⟩ := flA.there
      have away : e ∉ frs (X.env :: X.outer) := fun mem => by
        obtain ⟨_, o', get', nf⟩ := flA.2.2.1.mem mem
        rw [getA] at get'
        cases get'
        exact nf _ datA
      have nLoc : e ≠ X.env.locals := fun z => away (List.mem_filterMap.mpr ⟨X.env, List.mem_cons_self, by rw [hfm, z]⟩)
      have nFs : e ∉ X.fs := fun mem => by
        obtain ⟨en, hen, q⟩ := List.mem_filterMap.mp mem
        exact away (List.mem_filterMap.mpr ⟨en, List.mem_cons_of_mem _ hen, q⟩)
      have SA := JA.suite getA datA na nLoc nFs
      have typed : PySem.W.Looks (model X.prog X.w) hA (typeOf (.ref e)) cls := fun A Q E s k q => wpAny_typeOf_ref (k _ _ getA) (by rw [zcA.1]; exact q)
      refine wpAny_handleBy_cons (codeAny_handlers_test ?_) (fun q => nomatch q)
      have named : ∀ {z : Str} {c : Value} {pz : Pos} {Q E : Value → Shared → Prop}, Names X z c → Q c { sE with heap := hA } → wpAny (model X.prog X.w) (X.A.mark (some (.ref e))) (eval (.Name z pz) X.env) Q E { sE with heap := hA } := by
        intro z c pz Q E nm q
        obtain ⟨gl, nd, m | ⟨m, bv, nn⟩⟩ := nm
        · exact ld_glob (X := X.suite e ((e, obA) :: (X.pn ++ pins))) SA gl m q nd
        · exact ld_blt (X := X.suite e ((e, obA) :: (X.pn ++ pins))) SA gl m bv q nn nd
      have kp : ∀ q o, hA.get? q = some o → (hA.push { cls := .type "tuple", data := .seq [c1, c2].toArray }).get? q = some o := fun _ _ z => Heap.get?_push_of_some _ z
      refine wpAny_Tuple ?_
      refine wpAny_items_cons (named nm ?_)
      refine wpAny_items_cons (named nm2 ?_)
      refine wpAny_items_nil ⟨by size_fits, ?_⟩
      refine (PySem.W.exm_tup2 (M := model X.prog X.w) (JA.kIn.keeps kp) (typed.keeps kp) (Heap.get?_push_size hA rfl) eb).here ?_
      have flB := flying_keeps flA kp
      have up2 : hA.UpToSlots (hA.push { cls := .type "tuple", data := .seq [c1, c2].toArray }) := fun b o q _ => ⟨o.slots, kp b o q⟩
      have JB0 : Inv X pins σ' H' { sE with heap := hA.push { cls := .type "tuple", data := .seq [c1, c2].toArray } } := J.landed nb flB.1 ((grow.trans upA).trans up2) sos ag
      obtain ⟨obN, fvN, getN, zcN, datN⟩ := flB.there
      revert flB up2 JB0 getN
      generalize hA.push { cls := .type "tuple", data := .seq [c1, c2].toArray } = hN
      intro flB up2 JB0 getN
      cases b with
      | false =>
        show wpAny _ X.A (handleBy (.ref e) X.env hs2) _ _ _
        exact ih hN flB (upA.trans up2) (no rfl)
      | true =>
        refine codeAny_handlers_suite_as (HandSPX.lands_againZ flB ?_)
        intro hB flC upB
        have JB : Inv X pins σ' H' { sE with heap := hB } := J.landed nb flC.1 (((grow.trans upA).trans up2).trans upB) sos ag
        obtain ⟨obB, fvB, getB, zcB, datB⟩ := flC.there
        have SB := JB.suite getB datB na nLoc nFs
        refine store_ok (X := X.suite e ((e, obB) :: (X.pn ++ pins))) (v := .ref e) SB nd at_i isLoc rfl (fun s5 S5 => ?_) (.inr loc)
        refine wpAny_mono ((run e obB cls d (X.pn ++ pins) zcB ⟨_, datB⟩).run [] s5 _ H' _ S5 (yes rfl e na)) (fun f s6 sp => ?_) fun _ _ z => z.elim
        have unbind : ∀ {σ6 : L2.St} {H6 : Hp} {Q : Shared → Prop}, Inv (X.suite e ((e, obB) :: (X.pn ++ pins))) [] σ6 H6 s6 → (∀ s7, Inv X pins (σ6.set i none) H6 s7 → Q s7) →
            wpAny (model X.prog X.w) X.A (do bindName X.env n .none; unbindBehindTheSuite X.env n p4) (fun _ s7 => Q s7) X.xe s6 := fun S6 go => gone_ok (S6.unsuite okI) nd at_i loc go
        rcases f with _ | _ | _ | u
        all_goals first
          | (obtain ⟨v6, σ6, H6, S6, r6, q6⟩ := sp; exact unbind S6 fun s7 J7 => ⟨_, _, _, J7, r6, q6⟩)
          | (obtain ⟨σ6, H6, S6, q6⟩ := sp; exact unbind S6 fun s7 J7 => ⟨_, _, J7, q6⟩)
  · intro f s1 sp
    rcases f with _ | _ | _ | u
    all_goals first
      | (obtain ⟨v, σ', H', J', r, q⟩ := sp; exact ⟨v, σ', H', J'.ofTry okI, r, q⟩)
      | (obtain ⟨σ', H', J', q⟩ := sp; first | exact wpAny_execs_nil ⟨σ', H', J'.ofTry okI, q⟩ | exact ⟨σ', H', J'.ofTry okI, q⟩)⟩
end
end TwT
/-! for x in xs: xs a list or a tuple -/
namespace L2
open PySem PySem.Spec PyProof.Rows
section
variable {X : Cx} {tg : Expr}
def iSeq (K : PySem.W.Frag) (tl : TE) : TI := fun σ H R => tl σ H fun x H1 => ∃ a xs, x = .ref a ∧ ((SqL K H1 a xs ∧ R (Itl K a) H1) ∨ (SqT K H1 a xs ∧ R (Itt K a) H1))
theorem pi_seq {l : Expr} {tl : TE} (hl : PE X l tl) : PI X tg l (iSeq X.K tl) := by
  refine ⟨fun pins s σ H R I h => ?_⟩
  refine thn (hl.run pins s σ H _ I h) fun v s1 ⟨x, H1, I1, r1, q1⟩ => ?_
  obtain ⟨a, xs, e, q1⟩ := q1
  subst e
  cases r1
  rcases q1 with ⟨hq, q⟩ | ⟨hq, q⟩
  · obtain ⟨its, rv, p, hz⟩ := I1.list hq
    refine wpAny_pyIter_list p.isList ?_
    refine ⟨s1.heap.objs.size, [s1.heap.objs.size], _, _, H1, rfl, I1.kept (t' := s1.toks) fun b o e => Heap.get?_push_of_some _ e, turn_list a _, ⟨_, Heap.get?_push_size _ rfl, rfl, rfl⟩, fun b hb => ?_, q⟩
    have e : b = s1.heap.objs.size := by simpa using hb
    subst e
    exact I1.fpOk (Nat.le_refl _) (I1.hok.fresh (Nat.le_refl _))
  · obtain ⟨its, rv, p, hz⟩ := I1.tuple hq
    refine wpAny_pyIter_tuple (show s1.heap.IsTuple a its.toArray from p) ?_
    refine ⟨s1.heap.objs.size, [s1.heap.objs.size], _, _, H1, rfl, I1.kept (t' := s1.toks) fun b o e => Heap.get?_push_of_some _ e, turn_tuple a _, ⟨_, Heap.get?_push_size _ rfl, rfl, rfl⟩, fun b hb => ?_, q⟩
    have e : b = s1.heap.objs.size := by simpa using hb
    subst e
    exact I1.fpOk (Nat.le_refl _) (I1.hok.fresh (Nat.le_refl _))
end
end L2
/-! list.sort with key=: any key def, any order of the keys -/
namespace SortK
open PySem PySem.W PyProof.Rows Srt SrtO
section
variable {prog : Program} {w : World} {A : Around} {E : Value → Shared → Prop} {s : Shared} {a kS : Addr} {P : PySem.Fin → Shared → Prop} {ltv : Value → Value → Bool} {κ : SortKind} {vs : List Value} {keys : Array Value} {e e1 : Nat}
/-- what the sort leaves: the keys let go, the list filled again -/
def left (h : Heap) (kS a : Addr) (ps : List Keyed) : Heap := (h.update kS (Obj.mapSeq fun _ => (#[] : Array Value))).update a (Obj.mapSeq fun _ => (ps.map (·.2)).toArray)
theorem key_tail {st : SortSt} (hk : s.heap.get? kS = some (seqObj "list" keys e)) (ha : s.heap.get? a = some (seqObj "list" #[] e1)) (ne : kS ≠ a) (hz : keys.size ≤ sizeLine) (hzs : (arrOf st).size ≤ sizeLine) (hf : failedOf st = none)
    (h : P (.done (.ret .none)) { s with heap := left s.heap kS a (arrOf st).toList }) : wpAny (model prog w) A (ksk_tail a false e1 (.ref kS) st) P E s := by
  have same := Heap.SameBut.update s.heap kS (Obj.mapSeq fun _ => (#[] : Array Value))
  have ha1 := (same.2 a ne.symm).trans ha
  unfold ksk_tail
  try dsimp only
  refine wpAny_bind (listUpdate_at hk rfl ?_ hz (Nat.zero_le _))
  refine wpAny_bind (wpAny_letGo ?_)
  refine wpAny_bind (seqEpoch_at ha1 rfl ?_)
  refine wpAny_bind (listUpdate_at ha1 rfl ?_ (Nat.zero_le _) (by simp only [Bool.false_eq_true, if_false, Array.size_map]; exact Nat.le_trans hzs (Nat.le_succ _)))
  rw [hf]
  simp only [bne_self_eq_false, Bool.false_eq_true, if_false]
  refine wpAny_pure ?_
  have e2 : (arrOf st).map (·.2) = ((arrOf st).toList.map (·.2)).toArray := by
    rw [← Array.toList_map, Array.toArray_toList]
  unfold left at h
  rw [← e2] at h
  exact h
theorem key_end (O : Swo ltv) (hk : s.heap.get? kS = some (seqObj "list" keys e)) (ha : s.heap.get? a = some (seqObj "list" #[] e1)) (ne : kS ≠ a) (hl : keys.size = vs.length) (hz : vs.length ≤ sizeLine)
    (kind : 2 ≤ vs.length → ∀ (Q : SortKind → Shared → Prop) (E : Value → Shared → Prop), Q κ s → wpAny (model prog w) A (keyKind' keys) Q E s)
    (C : Cmp prog w A s κ (fun p => p.1 ∈ keys.toList) (lt2 ltv))
    (h : ∀ ps : List Keyed, Srtd (lt2 ltv) ps → Stb (lt2 ltv) ps (keys.zip vs.toArray).toList → P (.done (.ret .none)) { s with heap := left s.heap kS a ps }) :
    wpAny (model prog w) A (ksk_end a false vs.toArray e1 (.ref kS) keys) P E s := by
  have zs : (keys.zip vs.toArray).size = vs.length := by
    rw [Array.size_zip, List.size_toArray]
    have : keys.size = vs.length := hl
    show min keys.size vs.length = vs.length
    omega
  unfold ksk_end
  simp only [Bool.false_eq_true, if_false]
  have sz : vs.toArray.size = vs.length := by simp
  by_cases h2 : vs.toArray.size < 2
  · rw [if_pos h2, if_pos h2]
    refine wpAny_bind (wpAny_pure ?_)
    rw [StateT.run_pure]
    refine wpAny_bind (wpAny_pure ?_)
    try dsimp only
    refine key_tail hk ha ne (by omega) (Nat.le_trans (Nat.le_of_eq zs) hz) rfl (h _ ?_ (Stb.refl _))
    have l2 : (keys.zip vs.toArray).toList.length < 2 := by rw [Array.length_toList, zs]; omega
    show Srtd (lt2 ltv) (keys.zip vs.toArray).toList
    revert l2
    generalize (keys.zip vs.toArray).toList = l
    intro l2
    match l, l2 with
    | [], _ => exact List.Pairwise.nil
    | [v], _ => exact List.pairwise_singleton _ _
    | _ :: _ :: l, h => exact absurd h (by rw [List.length_cons, List.length_cons]; omega)
  · rw [if_neg h2, if_neg h2]
    refine wpAny_bind (kind (by omega) _ _ ?_)
    have all : AllL (fun p : Keyed => p.1 ∈ keys.toList) (keys.zip vs.toArray).toList := fun p hm => by
      rw [Array.toList_zip] at hm
      exact (List.of_mem_zip hm).1
    refine wpAny_bind (wpAny_mono (wpS_sortO (st0 := SortSt.mk' κ (keys.zip vs.toArray) #[] 7 none)
      (Q := fun _ st' => Srtd (lt2 ltv) (arrOf st').toList ∧ Stb (lt2 ltv) (arrOf st').toList (keys.zip vs.toArray).toList ∧ failedOf st' = none) (swo2 O) C rfl all rfl rfl fun st' a1 a2 a3 => ⟨a1, a2, a3⟩) ?_ fun _ _ x => x)
    rintro ⟨⟨⟩, st'⟩ s' ⟨rfl, p1, p2, hf⟩
    try dsimp only
    refine key_tail hk ha ne (by omega) ?_ hf (h _ p1 p2)
    have q : (arrOf st').toList.length = (keys.zip vs.toArray).toList.length := p2.perm.length_eq
    rw [Array.length_toList, Array.length_toList, zs] at q
    show (arrOf st').size ≤ sizeLine
    rw [q]
    exact hz
/-- the keys are made one after another; J tells the turn, the keys so far, and what stands -/
theorem key_rest {f : Value} (J : Nat → List Value → Shared → Prop) (j0 : J 0 [] s)
    (turn : ∀ (i : Nat) (ks : List Value) (st : Shared) (v : Value), J i ks st → vs[i]? = some v → wpAny (model prog w) A (call f [v])
      (fun k st' => ∃ ek, st'.heap.get? kS = some (seqObj "list" ks.toArray ek) ∧ ks.length < sizeLine ∧ J (i + 1) (ks ++ [k]) { st' with heap := st'.heap.update kS (Obj.mapSeq (·.push k)) }) (fun _ _ => False) st)
    (fin : ∀ (ks : List Value) (st : Shared), J vs.length ks st → (∃ ek, st.heap.get? kS = some (seqObj "list" ks.toArray ek)) ∧ wpAny (model prog w) A (ksk_end a false vs.toArray e1 (.ref kS) ks.toArray) P E st) :
    wpAny (model prog w) A (ksk_rest a f false vs.toArray e1 (.ref kS)) P E s := by
  unfold ksk_rest
  refine wpAny_bind (wpAny_rule ?_)
  rw [List.forIn_toArray]
  refine wpAny_bind (ksk_fold (fun i s' => ∃ ks, J i ks s') vs 0 s ⟨[], j0⟩ (fun j x s' hx hJ => ?_) fun s' hJ => ?_)
  · obtain ⟨ks, hJ⟩ := hJ
    rw [Nat.zero_add] at hJ ⊢
    refine wpAny_bind (wpAny_attempt (wpAny_mono (turn j ks s' x hJ hx) (fun k st hk => ?_) fun _ _ x => x.elim))
    obtain ⟨ek, g, lt, j1⟩ := hk
    try dsimp only
    refine wpAny_bind (listUpdate_at g rfl ?_ (by rw [List.size_toArray]; exact Nat.le_of_lt lt) (by rw [Array.size_push, List.size_toArray]; exact Nat.succ_le_succ (Nat.le_of_lt lt)))
    exact wpAny_pure ⟨rfl, _, j1⟩
  · obtain ⟨ks, hJ⟩ := hJ
    rw [Nat.zero_add] at hJ
    obtain ⟨⟨ek, g⟩, h⟩ := fin ks s' hJ
    try dsimp only
    refine wpAny_bind (listItems_at g rfl ?_)
    exact h
/-- the heap when the keys begin: the list emptied, its things held, the store of keys at the end -/
def begun (h : Heap) (a : Addr) (vs : List Value) : Heap := ((h.update a (Obj.mapSeq fun _ => #[])).push (seqObj "tuple" vs.toArray 0)).push (seqObj "list" #[] 0)
theorem sort_key {q : Addr} {n : Nat} (ho : s.heap.get? a = some (seqObj "list" vs.toArray n)) (hz : vs.length ≤ sizeLine)
    (h : ∀ e1, (begun s.heap a vs).get? a = some (seqObj "list" #[] e1) → (begun s.heap a vs).get? (s.heap.objs.size + 1) = some (seqObj "list" #[] 0) →
      wpAny (model prog w) A (ksk_rest a (.ref q) false vs.toArray e1 (.ref (s.heap.objs.size + 1))) P E { s with heap := begun s.heap a vs }) :
    wpAny (model prog w) A (Builtin.«list.sort» ⟨[.ref a], [(Str.ofString "key", .ref q)]⟩) P E s := by
  rw [ksk_t1]
  unfold ksk_tree
  refine wpAny_bind (listItems_at ho rfl ?_)
  refine wpAny_bind (listUpdate_at ho rfl ?_ (by rw [List.size_toArray]; exact hz) (Nat.zero_le _))
  obtain ⟨e1, ho1⟩ : ∃ e1, (s.heap.update a (Obj.mapSeq fun _ => #[])).get? a = some (seqObj "list" #[] e1) := ⟨_, get?_update_seq ho (fun _ => #[])⟩
  refine wpAny_bind (seqEpoch_at ho1 rfl ?_)
  refine wpAny_bind (wpAny_newTuple ?_ (by show vs.length ≤ _; exact hz))
  refine wpAny_bind (wpAny_newList ?_ (Nat.zero_le _))
  refine wpAny_holding ?_
  have sz : ((s.heap.update a (Obj.mapSeq fun _ => #[])).push (seqObj "tuple" vs.toArray 0)).objs.size = s.heap.objs.size + 1 := by
    rw [size_push', Heap.size_update]
  have z := h e1 (Heap.get?_push_of_some _ (Heap.get?_push_of_some _ ho1)) (by rw [← sz]; exact Heap.get?_push_size _ rfl)
  rw [← sz] at z
  exact z
/-- sorted(l, key=f), to the head of list.sort: p the new list -/
theorem sorted_head {l q : Addr} {Q : Value → Shared → Prop} (hl : s.heap.IsList l vs.toArray) (hz : vs.length ≤ sizeLine)
    (h : ∀ (h1 : Heap) (p : Addr), p = s.heap.objs.size + 1 → h1.objs.size = p + 1 → h1.get? p = some (seqObj "list" vs.toArray 0) → (∀ b o, s.heap.get? b = some o → h1.get? b = some o) →
      wpAny (model prog w) A.in1.in1 (Builtin.«list.sort» ⟨[.ref p], [(Str.ofString "key", .ref q)]⟩) (fun r s' => r = .done (.ret .none) ∧ Q (.ref p) s') (fun _ _ => False) { s with heap := h1 }) :
    wpAny (model prog w) A (call (.builtin "sorted") [.ref l] [(Str.ofString "key", .ref q)]) Q E s := by
  refine call_function_entry_kw kind_sorted plain_sorted entry_sorted (ksk_s1 _ _) ?_
  unfold Builtin.«sorted»
  refine wpAny_bind (m := checkCount "sorted" 1 1 _) (wpAny_pure ?_)
  refine wpAny_bind (collect_list hl ?_ hz)
  refine wpAny_bind (wpAny_newList ?_ hz)
  have sz : ((s.heap.push (seqObj "list" #[] 0)).update s.heap.objs.size (Obj.mapSeq (· ++ vs.toArray))).objs.size = s.heap.objs.size + 1 := by
    rw [Heap.size_update, size_push']
  have g : (((s.heap.push (seqObj "list" #[] 0)).update s.heap.objs.size (Obj.mapSeq (· ++ vs.toArray))).push (seqObj "list" vs.toArray 0)).get? (s.heap.objs.size + 1) = some (seqObj "list" vs.toArray 0) := by
    rw [← sz]; exact Heap.get?_push_size _ rfl
  have z := h _ _ rfl (by rw [size_push', sz]) g fun b o q => by
    have lt : b < s.heap.objs.size := Heap.lt_size q
    refine Heap.get?_push_of_some _ ?_
    rw [Heap.get?_update_ne _ _ _ _ (Nat.ne_of_lt lt)]
    exact Heap.get?_push_of_some _ q
  show wpAny _ _ _ _ _ { s with heap := ((s.heap.push (seqObj "list" #[] 0)).update s.heap.objs.size (Obj.mapSeq (· ++ vs.toArray))).push (seqObj "list" vs.toArray 0) }
  rw [sz]
  refine wpAny_bind (wpAny_holding (wpAny_call_entry_kw slot_list_sort ⟨_, g, rfl⟩ entry_list_sort ?_ (ksk_l1 _ _)))
  refine wpAny_mono z (fun r s' hr => ?_) fun _ _ x => x.elim
  obtain ⟨rfl, hq⟩ := hr
  exact ⟨_, rfl, wpAny_pure ⟨_, rfl, hq⟩⟩
end
end SortK
/-! keys that are a whole number and a tuple of texts: their order -/
namespace SortT
open PySem PySem.Spec PySem.SeqAt PySem.W PyProof.Rows Srt SrtO L2 Ob
abbrev Key := Int × List Str
def ltS (x y : Str) : Bool := decide (x.cps.toList < y.cps.toList)
def lexS : List Str → List Str → Bool
  | [], [] => false
  | [], _ :: _ => true
  | _ :: _, [] => false
  | x :: r, y :: q => if x = y then lexS r q else ltS x y
def ltK (a b : Key) : Bool := if a.1 = b.1 then lexS a.2 b.2 else decide (a.1 < b.1)
theorem ltS_asym {x y : Str} (h : ltS x y = true) : ltS y x = false := by
  have h' := of_decide_eq_true h
  exact decide_eq_false fun z => absurd (List.lt_trans h' z) (List.lt_irrefl _)
theorem ltS_tri {x y : Str} (h1 : ltS x y = false) (h2 : ltS y x = false) : x = y := by
  have a : y.cps.toList ≤ x.cps.toList := List.not_lt.mp (of_decide_eq_false h1)
  have b : x.cps.toList ≤ y.cps.toList := List.not_lt.mp (of_decide_eq_false h2)
  have e := List.le_antisymm b a
  exact Str.ext' (Array.toList_inj.mp e)
theorem ltS_tr {x y z : Str} (h1 : ltS y x = false) (h2 : ltS z y = false) : ltS z x = false := by
  have a : x.cps.toList ≤ y.cps.toList := List.not_lt.mp (of_decide_eq_false h1)
  have b : y.cps.toList ≤ z.cps.toList := List.not_lt.mp (of_decide_eq_false h2)
  exact decide_eq_false fun h => List.not_lt.mpr (List.le_trans a b) h
theorem lexS_self : ∀ l : List Str, lexS l l = false
  | [] => rfl
  | x :: r => by
    unfold lexS
    rw [if_pos rfl]
    exact lexS_self r
theorem lexS_asym : ∀ a b : List Str, lexS a b = true → lexS b a = false
  | [], [], h => by cases h
  | [], _ :: _, _ => rfl
  | _ :: _, [], h => by cases h
  | x :: r, y :: q, h => by
    unfold lexS at h ⊢
    by_cases e : x = y
    · subst e
      rw [if_pos rfl] at h ⊢
      exact lexS_asym r q h
    · rw [if_neg e] at h
      rw [if_neg fun z => e z.symm]
      exact ltS_asym h
theorem lexS_tr : ∀ a b c : List Str, lexS b a = false → lexS c b = false → lexS c a = false
  | [], _, [], _, _ => rfl
  | [], _, _ :: _, _, _ => rfl
  | x :: r, [], c, h1, _ => by cases h1
  | x :: r, y :: q, [], _, h2 => by cases h2
  | x :: r, y :: q, z :: p, h1, h2 => by
    unfold lexS at h1 h2 ⊢
    by_cases e1 : y = x
    · subst e1
      by_cases e2 : z = y
      · subst e2
        rw [if_pos rfl] at h1 h2 ⊢
        exact lexS_tr r q p h1 h2
      · rw [if_neg e2] at h2 ⊢
        exact h2
    · rw [if_neg e1] at h1
      by_cases e2 : z = y
      · subst e2
        rw [if_neg e1]
        exact h1
      · rw [if_neg e2] at h2
        by_cases e3 : z = x
        · subst e3
          exact absurd (ltS_tri h2 h1) e2
        · rw [if_neg e3]
          exact ltS_tr h1 h2
theorem swoK : Swo ltK := by
  refine ⟨fun a b h => ?_, fun a b c h1 h2 => ?_⟩
  · unfold ltK at h ⊢
    by_cases e : a.1 = b.1
    · rw [if_pos e] at h
      rw [if_pos e.symm]
      exact lexS_asym _ _ h
    · rw [if_neg e] at h
      rw [if_neg fun z => e z.symm]
      have := of_decide_eq_true h
      exact decide_eq_false (by omega)
  · unfold ltK at h1 h2 ⊢
    by_cases e1 : b.1 = a.1
    · rw [if_pos e1] at h1
      by_cases e2 : c.1 = b.1
      · rw [if_pos e2] at h2
        rw [if_pos (e2.trans e1)]
        exact lexS_tr _ _ _ h1 h2
      · rw [if_neg e2] at h2
        rw [if_neg (by rw [← e1]; exact e2), ← e1]
        exact h2
    · rw [if_neg e1] at h1
      have l1 := of_decide_eq_false h1
      by_cases e2 : c.1 = b.1
      · rw [if_neg (by rw [e2]; exact e1), e2]
        exact h1
      · rw [if_neg e2] at h2
        have l2 := of_decide_eq_false h2
        rw [if_neg (by omega)]
        exact decide_eq_false (by omega)
theorem arr_inj {α : Type} {a b : List α} (e : a.toArray = b.toArray) : a = b := congrArg Array.toList e
/-! the keys in the heap -/
def IsK (h : Heap) (u : Value) (k : Key) : Prop := ∃ (t m : Addr) (us : List Value) (tk : Tok), u = .ref t ∧ h.IsTuple t #[.int k.1 tk, .ref m] ∧ h.IsTuple m us.toArray ∧ Vals (k.2.map V.str) us
theorem tup_inj {h : Heap} {a : Addr} {i j : Array Value} (x : h.IsTuple a i) (y : h.IsTuple a j) : i = j := by
  obtain ⟨o, e1, _, n, d1⟩ := x
  obtain ⟨o', e2, _, n', d2⟩ := y
  rw [e1] at e2
  cases e2
  rw [d1] at d2
  cases d2
  rfl
theorem txts_inj : ∀ {zs ys : List Str} {us : List Value}, Vals (zs.map V.str) us → Vals (ys.map V.str) us → zs = ys := by
  intro zs
  induction zs with
  | nil =>
    intro ys us a b
    cases a
    cases ys with
    | nil => rfl
    | cons y ys => cases b
  | cons z zs ih =>
    intro ys us a b
    cases a with
    | cons ra a =>
      cases ys with
      | nil => cases b
      | cons y ys =>
        cases b with
        | cons rb b =>
          obtain ⟨t, e⟩ := ra
          obtain ⟨t', e'⟩ := rb
          subst e
          cases e'
          rw [ih a b]
theorem isk_inj {h : Heap} {u : Value} {k k' : Key} (x : IsK h u k) (y : IsK h u k') : k = k' := by
  obtain ⟨t, m, us, tk, rfl, a, b, c⟩ := x
  obtain ⟨t', m', us', tk', e, a', b', c'⟩ := y
  cases e
  have e1 := tup_inj a a'
  have e2 : [Value.int k.1 tk, .ref m] = [Value.int k'.1 tk', .ref m'] := arr_inj e1
  injection e2 with f1 f2
  injection f1 with g1 _
  injection f2 with f3 _
  injection f3 with g2
  subst g2
  have e3 := arr_inj (tup_inj b b')
  subst e3
  exact Prod.ext g1 (txts_inj c c')
open Classical in
noncomputable def dec (h : Heap) (u : Value) : Key := if ex : ∃ k, IsK h u k then ex.choose else (0, [])
theorem dec_eq {h : Heap} {u : Value} {k : Key} (x : IsK h u k) : dec h u = k := by
  unfold dec
  have ex : ∃ k, IsK h u k := ⟨k, x⟩
  rw [dif_pos ex]
  exact isk_inj ex.choose_spec x
noncomputable def ltv (h : Heap) : Value → Value → Bool := fun u v => ltK (dec h u) (dec h v)
theorem swo_v (h : Heap) : Swo (ltv h) := ⟨fun x y => swoK.asym _ _, fun x y z => swoK.tr _ _ _⟩
/-! the comparison of two tuples of texts -/
def eAt (zs ys : List Str) (j : Nat) : Bool := zs.getD j Str.empty == ys.getD j Str.empty
def rAt (zs ys : List Str) (j : Nat) : Bool := ltS (zs.getD j Str.empty) (ys.getD j Str.empty)
theorem lex_at (zs ys : List Str) : ∀ k i : Nat, i ≤ min zs.length ys.length → k = min zs.length ys.length - i → lexAt (eAt zs ys) (rAt zs ys) (decide (zs.length < ys.length)) i k = lexS (zs.drop i) (ys.drop i) := by
  intro k
  induction k with
  | zero =>
    intro i hi hk
    rw [lexAt_zero]
    have e : i = min zs.length ys.length := by omega
    by_cases l1 : zs.length < ys.length
    · have e1 : zs.drop i = [] := List.drop_of_length_le (by omega)
      have e2 : ys.drop i = ys[i]'(by omega) :: ys.drop (i + 1) := List.drop_eq_getElem_cons (by omega)
      rw [e1, e2, decide_eq_true l1]
      rfl
    · have e2 : ys.drop i = [] := List.drop_of_length_le (by omega)
      rw [e2, decide_eq_false l1]
      cases zs.drop i <;> rfl
  | succ k ih =>
    intro i hi hk
    have h1 : i < zs.length := by omega
    have h2 : i < ys.length := by omega
    rw [lexAt_succ, List.drop_eq_getElem_cons h1, List.drop_eq_getElem_cons h2]
    unfold lexS
    have g1 : zs.getD i Str.empty = zs[i] := by rw [List.getD_eq_getElem?_getD, List.getElem?_eq_getElem h1]; rfl
    have g2 : ys.getD i Str.empty = ys[i] := by rw [List.getD_eq_getElem?_getD, List.getElem?_eq_getElem h2]; rfl
    unfold eAt rAt
    rw [g1, g2]
    by_cases e : zs[i] = ys[i]
    · rw [if_pos (by rw [e]; exact beq_self_eq_true _), if_pos e]
      exact ih (i + 1) (by omega) (by omega)
    · rw [if_neg (fun z => e (eq_of_beq z)), if_neg e]
theorem all_at (zs ys : List Str) : ((List.range (min zs.length ys.length)).all (eAt zs ys) && zs.length == ys.length) = decide (zs = ys) := by
  by_cases e : zs = ys
  · subst e
    rw [decide_eq_true rfl, Nat.min_self, beq_self_eq_true, Bool.and_true]
    exact List.all_eq_true.mpr fun j _ => beq_self_eq_true _
  · rw [decide_eq_false e]
    refine Bool.eq_false_iff.mpr fun z => e ?_
    obtain ⟨z1, z2⟩ := Bool.and_eq_true_iff.mp z
    have l : zs.length = ys.length := eq_of_beq z2
    refine List.ext_getElem l fun j h1 h2 => ?_
    have z3 := eq_of_beq (List.all_eq_true.mp z1 j (List.mem_range.mpr (by omega)))
    rw [List.getD_eq_getElem?_getD, List.getD_eq_getElem?_getD, List.getElem?_eq_getElem h1, List.getElem?_eq_getElem h2] at z3
    exact z3
theorem val_at {zs : List Str} {us : List Value} (r : Vals (zs.map V.str) us) : ∀ (j : Nat) (h : j < us.length), ∃ t, us[j] = .str (zs.getD j Str.empty) t := by
  induction zs generalizing us with
  | nil => cases r; intro j h; exact absurd h (Nat.not_lt_zero _)
  | cons z zs ih =>
    cases r with
    | cons ra r =>
      intro j h
      cases j with
      | zero => exact ra
      | succ j => exact ih r j (Nat.lt_of_succ_lt_succ h)
section
variable {prog : Program} {w : World} {A : Around} {s : Shared} {m m' : Addr} {us ws : List Value} {zs ys : List Str}
theorem eq_txts (hm : s.heap.IsTuple m us.toArray) (hn : s.heap.IsTuple m' ws.toArray) (r : Vals (zs.map V.str) us) (q : Vals (ys.map V.str) ws) (hu : A.units < cLine) : EqAt A s (.ref m) (.ref m') (decide (zs = ys)) := by
  by_cases e : m = m'
  · subst e
    have e3 := arr_inj (tup_inj hm hn)
    subst e3
    rw [txts_inj r q, decide_eq_true rfl]
    exact .same _
  · refine .of_refs e ?_
    have l1 := r.length
    have l2 := q.length
    rw [List.length_map] at l1 l2
    have z := RcAt.tuples (A := A) (s := s) (e := eAt zs ys) hm hn hu fun j h1 h2 => by
      rw [List.size_toArray] at h1 h2
      obtain ⟨t, e1⟩ := val_at r j h1
      obtain ⟨t', e2⟩ := val_at q j h2
      rw [List.getElem_toArray, List.getElem_toArray, e1, e2]
      exact .str_str _ _ _ _
    rw [List.size_toArray, List.size_toArray, ← l1, ← l2, all_at] at z
    exact z
theorem lt_txts (hm : s.heap.IsTuple m us.toArray) (hn : s.heap.IsTuple m' ws.toArray) (r : Vals (zs.map V.str) us) (q : Vals (ys.map V.str) ws) (hu : A.units < cLine) : RcOp .Lt A s (.ref m) (.ref m') (lexS zs ys) := by
  have l1 := r.length
  have l2 := q.length
  rw [List.length_map] at l1 l2
  have z := RcOp.tuples_lt (A := A) (s := s) (e := eAt zs ys) (r := rAt zs ys) hm hn hu (fun j h1 h2 => by
      rw [List.size_toArray] at h1 h2
      obtain ⟨t, e1⟩ := val_at r j h1
      obtain ⟨t', e2⟩ := val_at q j h2
      rw [List.getElem_toArray, List.getElem_toArray, e1, e2]
      exact .str_str _ _ _ _) (fun j h1 h2 _ => by
      rw [List.size_toArray] at h1 h2
      obtain ⟨t, e1⟩ := val_at r j h1
      obtain ⟨t', e2⟩ := val_at q j h2
      rw [List.getElem_toArray, List.getElem_toArray, e1, e2]
      exact fun _ _ _ _ h => PySem.P.lt_str h)
  rw [List.size_toArray, List.size_toArray, ← l1, ← l2] at z
  have y := lex_at zs ys (min zs.length ys.length) 0 (Nat.zero_le _) (Nat.sub_zero _).symm
  rw [List.drop_zero, List.drop_zero] at y
  rw [y] at z
  exact z
theorem cmpK {p q : Value} {k1 k2 : Key} (hp : IsK s.heap p k1) (hq : IsK s.heap q k2) (hu : A.units < cLine) : wpAny (model prog w) A (keyLt' (tuples' true) p q) (fun r s' => s' = s ∧ r = ltK k1 k2) (fun _ _ => False) s := by
  obtain ⟨t, m, us, tk, rfl, ht, hm, r⟩ := hp
  obtain ⟨t2, m2, ws, tk2, rfl, ht2, hm2, r2⟩ := hq
  obtain ⟨o, ho, _, n, hd⟩ := ht
  obtain ⟨o2, ho2, _, n2, hd2⟩ := ht2
  refine kat_lt ho hd ho2 hd2 ?_
  show KatLex prog w A true (decide (2 < 2)) _ [(Value.int k1.1 tk, Value.int k2.1 tk2), (Value.ref m, Value.ref m2)] 0 s
  refine kat_cons (EqAt.int_int k1.1 tk k2.1 tk2 prog w (fun _ _ => False) _ ?_)
  by_cases e : k1.1 = k2.1
  · rw [show (k1.1 == k2.1) = true by rw [e]; exact beq_self_eq_true _]
    refine kat_yes (kat_cons (eq_txts hm hm2 r r2 hu prog w (fun _ _ => False) _ ?_))
    have lk : ltK k1 k2 = lexS k1.2 k2.2 := by
      unfold ltK
      exact if_pos e
    by_cases e2 : k1.2 = k2.2
    · rw [decide_eq_true e2]
      refine kat_yes (kat_nil ⟨rfl, ?_⟩)
      rw [lk, e2, lexS_self]
      rfl
    · rw [decide_eq_false e2]
      refine kat_no ?_
      show wpAny (model prog w) A (oneLt' false (.ref m) (.ref m2)) _ _ s
      rw [oneLt'_eq]
      simp only [Bool.false_eq_true, if_false]
      exact wpAny_bind (lt_txts hm hm2 r r2 hu prog w _ _ (wpAny_truthy_bool ⟨rfl, lk.symm⟩))
  · rw [show (k1.1 == k2.1) = false from beq_eq_false_iff_ne.mpr e]
    refine kat_no (oneLt_any_int ⟨rfl, ?_⟩)
    unfold ltK
    exact (if_neg e).symm
theorem firsts {h : Heap} : ∀ {keys : List Value}, (∀ u ∈ keys, ∃ k, IsK h u k) → ∃ fs, KatTups h keys fs ∧ (∀ v ∈ fs, ∃ n t, v = Value.int n t) ∧ fs.length = keys.length := by
  intro keys
  induction keys with
  | nil => exact fun _ => ⟨[], KatTups.nil, (fun _ z => nomatch z), rfl⟩
  | cons u keys ih =>
    intro hk
    obtain ⟨k, t, m, us, tk, rfl, ht, _, _⟩ := hk u List.mem_cons_self
    obtain ⟨fs, a, b, c⟩ := ih fun v hv => hk v (List.mem_cons_of_mem _ hv)
    obtain ⟨o, ho, hc, n, hd⟩ := ht
    refine ⟨.int k.1 tk :: fs, KatTups.cons ho hc hd rfl a, fun v hv => ?_, by rw [List.length_cons, List.length_cons, c]⟩
    rcases List.mem_cons.mp hv with rfl | hv
    · exact ⟨_, _, rfl⟩
    · exact b v hv
theorem kindK {M : Model} {keys : List Value} {Q : SortKind → Shared → Prop} {E : Value → Shared → Prop} (hk : ∀ u ∈ keys, ∃ k, IsK s.heap u k) (ne : 0 < keys.length) (h : Q (tuples' true) s) : wpAny M A (keyKind' keys.toArray) Q E s := by
  obtain ⟨fs, a, b, c⟩ := firsts hk
  refine kat_kind (T := .type "int") a (by rw [c]; exact ne) (fun v hv => ?_) rfl h
  obtain ⟨n, t, rfl⟩ := b v hv
  exact Looks.of_pure rfl
end
end SortT
/-! sorted(xs, key=f): f an own def whose keys are a whole number and a tuple of texts -/
namespace SortH
open PySem PySem.Spec PyProof.Rows SrtO L2 SortK SortT
def IsKey (kv : V) (k : SortT.Key) (H : Hp) : Prop := ∃ t m, kv = .ref t ∧ H t = some (.tup [.int k.1, .ref m]) ∧ H m = some (.tup (k.2.map V.str))
theorem IsKey.keep {kv : V} {k : SortT.Key} {H H' : Hp} (h : IsKey kv k H) (s : ∀ b o, H b = some o → (∃ xs, o = .tup xs) → H' b = some o) : IsKey kv k H' := by
  obtain ⟨t, m, e, h1, h2⟩ := h
  exact ⟨t, m, e, s _ _ h1 ⟨_, rfl⟩, s _ _ h2 ⟨_, rfl⟩⟩
/-- exactly this object stands at a -/
def exact_ (a : Addr) (o : Obj) : HO := .ext fun h => h.get? a = some o
theorem exact_ok {P : Program} {w : World} {H : Hp} {h : Heap} {a : Addr} {o : Obj} (e : h.get? a = some o) : ObjOk P w H h a (exact_ a o) := ⟨e, ⟨_, e⟩, fun _ _ x k => k _ x⟩
section
variable {X : Cx} {pins : List (Addr × Obj)} {σ : L2.St} {H : Hp} {s : Shared}
theorem exact_at (I : Inv X pins σ H s) {a : Addr} {o : Obj} (e : H a = some (exact_ a o)) : s.heap.get? a = some o := (I.hok a _ e).1
theorem isk_of (I : Inv X pins σ H s) {kv : V} {u : Value} {k : SortT.Key} (r : RelV kv u) (h : IsKey kv k H) : IsK s.heap u k := by
  obtain ⟨t, m, rfl, h1, h2⟩ := h
  cases r
  obtain ⟨_, its, r1, p1⟩ := I.hok t _ h1
  obtain ⟨_, us, r2, p2⟩ := I.hok m _ h2
  cases r1 with
  | cons ra r1 =>
    cases r1 with
    | cons rb r1 =>
      cases r1
      obtain ⟨tk, e⟩ := ra
      subst e
      cases rb
      exact ⟨t, m, us, tk, rfl, p1, p2, r2⟩
def rSortK (K : PySem.W.Frag) (sp : Sp) (f : Addr) : List V → List V → Hp → VK → Prop := fun vs zs H Q => ∃ (l : Addr) (xs : List V) (g : V → SortT.Key), vs = [V.ref l] ∧ zs = [V.ref f] ∧ SqL K H l xs ∧
  (∀ x ∈ xs, ∀ H' : Hp, (∀ b o, H b = some o → H' b = some o) → sp [x] H' (fun kv H'' => (∀ b o, H' b = some o → H'' b = some o) ∧ IsKey kv (g x) H'') E0) ∧
  ∀ (ys : List V) (H' : Hp) (p : Addr), ys.Perm xs → ys.Pairwise (fun a b => ltK (g b) (g a) = false) → (∀ b o, H b = some o → H' b = some o) → H p = none → H' p = some (.lst ys) → Q (.ref p) H'
theorem val_of {xs : List V} {us : List Value} (r : Vals xs us) : ∀ {j : Nat} {v : Value}, us[j]? = some v → ∃ x, xs[j]? = some x ∧ RelV x v := by
  induction xs generalizing us with
  | nil => cases r; intro j v h; cases h
  | cons x xs ih =>
    cases r with
    | cons ra r =>
      intro j v h
      cases j with
      | zero => cases h; exact ⟨x, rfl, ra⟩
      | succ j => exact ih r h
/-- the turns: what stands before turn i -/
def J (X : Cx) (pins : List (Addr × Obj)) (σ : L2.St) (H : Hp) (xs : List V) (g : V → SortT.Key) (p kS : Addr) (e1 : Nat) (i : Nat) (ks : List Value) (st : Shared) : Prop :=
  ∃ (H' : Hp) (kvs : List V) (ek : Nat), Inv X pins σ H' st ∧ (∀ b o, H b = some o → H' b = some o) ∧ H' p = some (exact_ p (seqObj "list" #[] e1)) ∧ H' kS = some (exact_ kS (seqObj "list" ks.toArray ek)) ∧ Vals kvs ks ∧ kvs.length = i ∧
    ∀ (j : Nat) (x kv : V), xs[j]? = some x → kvs[j]? = some kv → IsKey kv (g x) H'
/-- what stands at f is called with one value -/
def KF (X : Cx) (pins : List (Addr × Obj)) (σ : L2.St) (f : Addr) (sp : Sp) : Prop := ∀ (st : Shared) (H' : Hp) (v : Value) (x : V) (Q : VK), Inv X pins σ H' st → RelV x v → sp [x] H' Q E0 → codeAny (model X.prog X.w) X.A.in1.in1 (.call (.ref f) ⟨[v], []⟩) (CR CX0 X.stack X.prog X.w H' st Q E0) st
theorem sortK_of {sp : Sp} {f : Addr} {Q : VK} {vs zs : List V} {us ws : List Value} (F : KF X pins σ f sp) (hu : X.A.in1.in1.units < cLine) (I : Inv X pins σ H s) (rv : Vals vs us) (rz : Vals zs ws) (h : rSortK X.K sp f vs zs H Q) :
    wpAny (model X.prog X.w) X.A (call (.builtin "sorted") us ([Str.ofString "key"].zip ws)) (EP X pins σ Q) X.xe s := by
  obtain ⟨l, xs, g, rfl, rfl, hl, key, q⟩ := h
  obtain ⟨u, rfl, ru⟩ := rv.one
  obtain ⟨f', rfl, rf⟩ := rz.one
  cases ru
  cases rf
  obtain ⟨its, r, pl, zl⟩ := I.list hl
  have li := r.length
  have zi : its.length ≤ sizeLine := by rw [← li]; exact zl
  show wpAny _ _ (call (.builtin "sorted") [.ref l] [(Str.ofString "key", .ref f)]) _ _ s
  refine sorted_head (vs := its) pl.isList zi fun h1 p hp hs g1 k1 => ?_
  refine sort_key (s := { s with heap := h1 }) g1 zi fun e1 ga gk => ?_
  have hp' : @Eq Nat p (s.heap.objs.size + 1) := hp
  have hpn : H p = none := I.hok.fresh (by omega)
  obtain ⟨e1', ho1⟩ : ∃ e1', (h1.update p (Obj.mapSeq fun _ => #[])).get? p = some (seqObj "list" #[] e1') := ⟨_, get?_update_seq g1 (fun _ => #[])⟩
  have ee : e1' = e1 := by
    have z := ga.symm.trans (Heap.get?_push_of_some (seqObj "list" #[] 0) (Heap.get?_push_of_some (seqObj "tuple" its.toArray 0) ho1))
    have z2 := Option.some.inj z
    have z3 : (Data.seq #[] e1 : Data) = Data.seq #[] e1' := congrArg Obj.data z2
    injection z3 with _ z4
    exact z4.symm
  subst ee
  have szu : (h1.update p (Obj.mapSeq fun _ => #[])).objs.size = p + 1 := by rw [Heap.size_update, hs]
  have I1 : Inv X pins σ (upd H p (exact_ p (seqObj "list" #[] e1'))) { s with heap := h1.update p (Obj.mapSeq fun _ => #[]) } :=
    I.laid (t' := s.toks) (fun b o e => (Heap.get?_update_ne _ _ _ _ (fun z => by
      have z' : @Eq Nat b p := z
      have y : @LT.lt Nat _ b s.heap.objs.size := Heap.lt_size e
      omega)).trans (k1 b o e)) (by omega) (exact_ok ho1)
  have hkS : h1.objs.size + 1 = p + 2 := by omega
  have gk' : (begun h1 p its).get? (h1.objs.size + 1) = some (seqObj "list" #[] 0) := gk
  have I2 : Inv X pins σ (upd (upd H p (exact_ p (seqObj "list" #[] e1'))) (h1.objs.size + 1) (exact_ (h1.objs.size + 1) (seqObj "list" #[] 0))) { s with heap := begun h1 p its } :=
    I1.laid (t' := s.toks) (fun b o e => Heap.get?_push_of_some _ (Heap.get?_push_of_some _ e)) (by show (h1.update p _).objs.size ≤ _; omega) (exact_ok gk')
  show wpAny _ _ (ksk_rest p (.ref f) false its.toArray e1' (.ref (h1.objs.size + 1))) _ _ { s with heap := begun h1 p its }
  have hk0 : ∃ kS : Addr, kS = h1.objs.size + 1 := ⟨_, rfl⟩
  obtain ⟨kS, hk0⟩ := hk0
  have hk0' : @Eq Nat kS (h1.objs.size + 1) := hk0
  rw [← hk0] at I2 gk' ⊢
  have nkp : kS ≠ p := fun z => by
    have z' : @Eq Nat kS p := z
    omega
  have hkn : H kS = none := I.hok.fresh (by omega)
  refine key_rest (J X pins σ H xs g p kS e1') ⟨_, [], 0, I2, fun b o e => ?_, by rw [upd_ne nkp.symm, upd_same], upd_same, .nil, rfl, fun j x kv _ z => by cases z⟩ ?_ ?_
  · rw [upd_ne (ne_of_none e hkn), upd_ne (ne_of_none e hpn)]
    exact e
  · rintro i ks st v ⟨H', kvs, ek, I', ex, hpx, hk', rk, lk, isk⟩ hv
    obtain ⟨x, hx, rx⟩ := val_of r hv
    have i0 : i < its.length := (List.getElem?_eq_some_iff.mp hv).1
    have sp' := key x (List.mem_of_getElem? hx) H' ex
    refine wpAny_call (codeAny_mono (F st H' v x (fun kv H'' => (∀ b o, H' b = some o → H'' b = some o) ∧ IsKey kv (g x) H'') I' rx sp') ?_)
    rintro (e | fl) st' hq
    · exact hq.elim
    · cases fl with
      | ret k =>
        obtain ⟨kv, H2, I3, rkv, sm, ik⟩ := I'.after hq
        have hk2 := sm _ _ hk'
        have g2 := exact_at I3 hk2
        obtain ⟨e2, g3⟩ : ∃ e2, (st'.heap.update kS (Obj.mapSeq (·.push k))).get? kS = some (seqObj "list" (ks.toArray.push k) e2) := ⟨_, get?_update_seq g2 (·.push k)⟩
        have lks : ks.length = i := by rw [← rk.length]; exact lk
        refine ⟨ek, g2, by omega, upd H2 kS (exact_ kS (seqObj "list" (ks ++ [k]).toArray e2)), kvs ++ [kv], e2, ?_, fun b o e => ?_, ?_, upd_same, rk.append (.cons rkv .nil), by rw [List.length_append, List.length_singleton, lk], fun j y kw hy hkw => ?_⟩
        · have g4 : (st'.heap.update kS (Obj.mapSeq (·.push k))).get? kS = some (seqObj "list" (ks ++ [k]).toArray e2) := by
            rw [g3]
            simp
          exact I3.write (t' := st'.toks) (x := kS) (e := kS) (by rw [hk2]; exact trivial) (.inl rfl) (fun b o hb e => (Heap.get?_update_ne _ _ _ _ hb).trans e) ⟨_, g4⟩ (exact_ok g4)
        · rw [upd_ne (ne_of_none e hkn)]
          exact sm _ _ (ex _ _ e)
        · rw [upd_ne nkp.symm]
          exact sm _ _ hpx
        · have kk : IsKey kw (g y) H2 := by
            by_cases hj : j < kvs.length
            · rw [List.getElem?_append_left hj] at hkw
              exact (isk j y kw hy hkw).keep fun b o e _ => sm _ _ e
            · have ej : j = i := by
                have := (List.getElem?_eq_some_iff.mp hkw).1
                rw [List.length_append, List.length_singleton] at this
                omega
              subst ej
              rw [List.getElem?_append_right (by omega), lk, Nat.sub_self] at hkw
              cases hkw
              rw [hx] at hy
              cases hy
              exact ik
          refine kk.keep fun b o e tt => ?_
          rw [upd_ne (fun z => ?_)]
          · exact e
          · obtain ⟨ts, rfl⟩ := tt
            rw [z, hk2] at e
            cases e
      | next => exact False.elim hq
      | brk => exact False.elim hq
      | cont => exact False.elim hq
  · rintro ks st ⟨H', kvs, ek, I', ex, hpx, hk', rk, lk, isk⟩
    have gk2 := exact_at I' hk'
    have gp2 := exact_at I' hpx
    have lks : ks.length = its.length := by rw [← rk.length]; exact lk
    refine ⟨⟨_, gk2⟩, ?_⟩
    have keyAt : ∀ (j : Nat) (u : Value), ks[j]? = some u → ∃ x, xs[j]? = some x ∧ IsK st.heap u (g x) := fun j u hj => by
      obtain ⟨kv, h1, h2⟩ := val_of rk hj
      have j1 : j < xs.length := by
        have := (List.getElem?_eq_some_iff.mp hj).1
        omega
      exact ⟨xs[j], List.getElem?_eq_getElem j1, isk_of I' h2 (isk j _ kv (List.getElem?_eq_getElem j1) h1)⟩
    have keyIn : ∀ u ∈ ks, ∃ k, IsK st.heap u k := fun u hu => by
      obtain ⟨j, hj, e⟩ := List.getElem_of_mem hu
      obtain ⟨x, _, h⟩ := keyAt j u (by rw [List.getElem?_eq_getElem hj, e])
      exact ⟨_, h⟩
    refine key_end (κ := tuples' true) (swo_v st.heap) gk2 gp2 nkp (by rw [List.size_toArray]; exact lks) zi (fun h2 Q E h => kindK keyIn (by omega) h) ?_ ?_
    · intro a b ha hb
      have ha' : a.1 ∈ ks := by simpa using ha
      have hb' : b.1 ∈ ks := by simpa using hb
      obtain ⟨k1, h1⟩ := keyIn _ ha'
      obtain ⟨k2, h2⟩ := keyIn _ hb'
      refine wpAny_mono (cmpK h1 h2 hu) (fun c s' hc => ?_) fun _ _ x => x
      refine ⟨hc.1, hc.2.trans ?_⟩
      show _ = ltK (dec st.heap a.1) (dec st.heap b.1)
      rw [dec_eq h1, dec_eq h2]
    · intro ps srt stb
      have pz : ps.Perm (ks.zip its) := by
        have := stb.perm
        rw [Array.toList_zip] at this
        exact this
      have lz : (ks.zip its).length = its.length := by rw [List.length_zip]; omega
      obtain ⟨l', pm, el⟩ := perm_lift (fun z : V × Keyed => z.2) pz (xs.zip (ks.zip its)) (List.map_snd_zip (by omega))
      have mem : ∀ z ∈ xs.zip (ks.zip its), RelV z.1 z.2.2 ∧ dec st.heap z.2.1 = g z.1 := fun z hz => by
        obtain ⟨j, hj, e⟩ := List.getElem_of_mem hz
        have j1 : j < xs.length := by rw [List.length_zip] at hj; omega
        have j2 : j < ks.length := by omega
        have j3 : j < its.length := by omega
        rw [List.getElem_zip, List.getElem_zip] at e
        subst e
        obtain ⟨x, hx, rx⟩ := val_of r (List.getElem?_eq_getElem j3)
        obtain ⟨y, hy, ky⟩ := keyAt j _ (List.getElem?_eq_getElem j2)
        rw [List.getElem?_eq_getElem j1] at hx hy
        cases hx
        cases hy
        exact ⟨rx, dec_eq ky⟩
      have mem' : ∀ z ∈ l', RelV z.1 z.2.2 ∧ dec st.heap z.2.1 = g z.1 := fun z hz => mem z (pm.mem_iff.mp hz)
      have vals : Vals (l'.map (·.1)) (ps.map (·.2)) := by
        rw [← el, List.map_map]
        exact vals_maps (fun z : V × Keyed => z.1) (fun z => z.2.2) l' fun z hz => (mem' z hz).1
      have perm : (l'.map (·.1)).Perm xs := by
        have := pm.map (fun z : V × Keyed => z.1)
        rw [List.map_fst_zip (by omega)] at this
        exact this
      have pw : (l'.map (·.1)).Pairwise (fun a b => ltK (g b) (g a) = false) := by
        rw [← el] at srt
        refine List.pairwise_map.mpr (List.Pairwise.imp_of_mem (fun {a b} ha hb h => ?_) (List.pairwise_map.mp srt))
        have h' : ltK (dec st.heap b.2.1) (dec st.heap a.2.1) = false := h
        rw [(mem' a ha).2, (mem' b hb).2] at h'
        exact h'
      obtain ⟨e3, g3⟩ : ∃ e3, (st.heap.update kS (Obj.mapSeq fun _ => (#[] : Array Value))).get? kS = some (seqObj "list" #[] e3) := ⟨_, get?_update_seq gk2 fun _ => #[]⟩
      have I4 : Inv X pins σ (upd H' kS (exact_ kS (seqObj "list" #[] e3))) { st with heap := st.heap.update kS (Obj.mapSeq fun _ => (#[] : Array Value)) } :=
        I'.write (t' := st.toks) (x := kS) (e := kS) (by rw [hk']; exact trivial) (.inl rfl) (fun b o hb e => (Heap.get?_update_ne _ _ _ _ hb).trans e) ⟨_, g3⟩ (exact_ok g3)
      have gp3 : (st.heap.update kS (Obj.mapSeq fun _ => (#[] : Array Value))).get? p = some (seqObj "list" #[] e1') := (Heap.get?_update_ne _ _ _ _ nkp.symm).trans gp2
      obtain ⟨e4, g4⟩ : ∃ e4, (left st.heap kS p ps).get? p = some (seqObj "list" (ps.map (·.2)).toArray e4) := ⟨_, get?_update_seq gp3 (fun _ => (ps.map (fun z : Keyed => z.2)).toArray)⟩
      have len : (l'.map (·.1)).length ≤ sizeLine := by rw [perm.length_eq]; omega
      have I5 : Inv X pins σ (upd (upd H' kS (exact_ kS (seqObj "list" #[] e3))) p (.lst (l'.map (·.1)))) { st with heap := left st.heap kS p ps } :=
        I4.write (t' := st.toks) (x := p) (e := p) (by rw [upd_ne nkp.symm, hpx]; exact trivial) (.inl rfl) (fun b o hb e => (Heap.get?_update_ne _ _ _ _ hb).trans e) ⟨_, g4⟩ ⟨len, _, e4, vals, g4⟩
      refine ⟨rfl, .ref p, _, I5, rfl, q _ _ p perm pw (fun b o e => ?_) hpn upd_same⟩
      rw [upd_ne (ne_of_none e hpn), upd_ne (ne_of_none e hkn)]
      exact ex _ _ e
theorem cr_sortK {sp : Sp} {f : Addr} {n : Nat} (F : FnR X.prog X.w X.K X.mg X.base CX0 n f sp) (hr : Room n X.A.in1.in1) (hu : X.A.in1.in1.units < cLine) : CallRK X (.builtin "sorted") [Str.ofString "key"] (rSortK X.K sp f) :=
  fun pins s σ H vs zs us ws Q I rv rz h => sortK_of (fun st H' v x Q' I' rx h' => F X.A.in1.in1 X.stack st H' [v] [x] Q' E0 hr I'.env0.in1.in1 (.cons rx .nil) h') hu I rv rz h
end
end SortH
/-! list(d.values()) -/
namespace LvV
open PySem PySem.Spec PyProof.Rows L2
def tListVals (te : TE) : TE := fun σ H Q => te σ H fun x H1 => ∃ d kvs, x = V.ref d ∧ H1 d = some (.dK kvs) ∧ ∀ p, H1 p = none → Q (.ref p) (upd H1 p (.lst (kvs.map (·.2))))
section
variable {X : Cx} {e : Expr} {te : TE} {p apos cpos pos : Pos}
theorem kv_at {kvs : List (L2.Key × V)} {vs : List (L2.Key × Value)} (h : KV kvs vs) : ∀ (j : Nat) (k : L2.Key) (u : Value), vs[j]? = some (k, u) → ∃ x, (kvs.map (·.2))[j]? = some x ∧ RelV x u := by
  induction h with
  | nil => intro j k u z; cases z
  | @cons a b as bs r t ih =>
    intro j k u z
    cases j with
    | zero =>
      have z' := Option.some.inj z
      subst z'
      exact ⟨_, rfl, r.2⟩
    | succ j => exact ih j k u z
theorem pe_listValues (hc : X.calm = true) (he : PE X e te) (hg : Gl X "list") (hm : X.mg "list" = none) (hv : bootBuiltins "list" = some (.type "list") := by first | rfl | decide +kernel) (hbase : attributeBase e "values" X.env (eval e X.env) = eval e X.env := by rfl) (hline : (apos.endLine == cpos.line) = true := by rfl)
    (hs : starEach [.Call (.Attribute e "values" apos) [] [] cpos] X.env = (false, eval (.Call (.Attribute e "values" apos) [] [] cpos) X.env) :: starEach [] X.env := by rfl) :
    PE X (.Call (.Name "list" p) [.Call (.Attribute e "values" apos) [] [] cpos] [] pos) (tListVals te) := by
  refine ⟨fun pins s σ H Q I hq => ?_⟩
  refine wpAny_Call_Name_kw (ld_blt I hg hm hv ?_)
  refine PyProof.Rows.callWith_type1 ?_ hs rfl
  rw [hs]
  show wpAny _ _ (spliced ((false, eval (.Call (.Attribute e "values" apos) [] [] cpos) X.env) :: backTo pos (starEach [] X.env))) _ _ s
  refine Calls.spliced_cons ?_
  refine wpAny_Call_method (T := "dict") (id := "dict.values") hbase rfl hline F.plainAttrs_dict F.slot_dict_values F.type_dict_values (thn (he.run pins s σ H _ I hq) fun u s1 ⟨x, H1, I1, rx, d, kvs, ex, hd, q⟩ => ?_)
  subst ex
  obtain rfl : u = Value.ref d := rx
  obtain ⟨hz, hs0, vs, kv, hdo⟩ := I1.hok d _ hd
  obtain ⟨ep, hat⟩ := hdo.dictAt
  have lk : kvs.length = vs.length := Paired.length kv
  have I2 : Inv X pins σ H1 { s1 with heap := s1.heap.push { cls := .type "dict_values", data := .fields #[.ref d] } } := I1.kept (t' := s1.toks) fun b ob q => Heap.get?_push_of_some _ q
  refine ⟨hdo.typeIs, hdo.mapOf.noDict, ?_⟩
  show wpAny _ _ (callWith cpos (.builtin "dict.values") [.ref d] [] []) _ X.xe s1
  refine method_meetsIn F.slot_dict_values F.entry_dict_values rfl (PySem.evalArgs_none ⟨rfl, hdo.typeIs, F.args_dict_values_1 _, _, meets_dict_values (mixKind X.prog X.w) d hs0, ⟨vs, hdo⟩, ?_⟩)
  refine Calls.spliced_nil ?_
  refine PySem.W.kdl_call (PySem.W.kdl_values (knd := mixKind X.prog X.w) (r := s1.heap.objs.size) (d := d) (kvs := vs) (ep := ep)) (I1.ok.hd hc) ⟨⟨_, Heap.get?_push_size _ rfl, rfl, rfl⟩, hat.push _⟩ (by rw [← lk]; exact hz) fun h' tk acc' c' hkeep hS hacc => ?_
  refine ⟨.ref _, upd H1 _ (.lst (kvs.map (·.2))), I2.laid hkeep (Nat.le_refl _) (show ObjOk X.prog X.w _ _ _ (.lst (kvs.map (·.2))) from ⟨?_, acc'.toList, c', ?_, ?_⟩), rfl, q _ (I2.hok.fresh (Nat.le_refl _))⟩
  · rw [List.length_map]; exact hz
  · have el : acc'.toList.length = acc'.size := by simp
    refine vals_of_at (by rw [List.length_map, el, hacc.1, lk]) fun j x w h1 h2 => ?_
    obtain ⟨k, hk⟩ := hacc.2 j w (by rw [← Array.getElem?_toList]; exact h2)
    obtain ⟨y, e1, e2⟩ := kv_at kv j k w hk
    rw [e1] at h1
    cases h1
    exact e2
  · rw [Array.toArray_toList]; exact hS
end
end LvV
namespace LB
open PySem PySem.Spec PyProof.Rows L2
/-! ### sets of texts: a bag of keys -/
def nm (e : Int × Value) : Str := match e.2 with
  | .str x _ => x
  | _ => Str.empty
def Ent (w : World) (e : Int × Value) : Prop := ∃ x tk, e = (hashStr w x, Value.str x tk)
structure Tab (w : World) (es : Array (Int × Value)) (t : SetTable) : Prop where
  all : ∀ e ∈ es.toList, Ent w e
  few : es.size < scanBound
  fit : t.fits es.size = true
  ris : Ris t.place.toList
  led : w.params.followText "set-order" = true ∨ t.led = true
/-- at a: a set of the texts ks, no two alike -/
def Bag (w : World) (h : Heap) (a : Addr) (ks : List Str) : Prop :=
  ks.Nodup ∧ ∃ o es ep t, h.get? a = some o ∧ o.ExactSet ∧ o.data = .set es ep t ∧ Tab w es t ∧ es.toList.map nm = ks
section
variable {P : Program} {w : World} {A : Around} {E : Value → Shared → Prop} {s : Shared} {a : Addr}
theorem Bag.at {h h' : Heap} {ks : List Str} (B : Bag w h a ks) (k : ∀ o, h.get? a = some o → h'.get? a = some o) : Bag w h' a ks := by
  obtain ⟨nd, o, es, ep, t, e, r⟩ := B
  exact ⟨nd, o, es, ep, t, k o e, r⟩
theorem Bag.len {h : Heap} {ks : List Str} (B : Bag w h a ks) : ks.length < scanBound := by
  obtain ⟨_, o, es, ep, t, _, _, _, T, e⟩ := B
  rw [← e, List.length_map, Array.length_toList]
  exact T.few
theorem Tab.elems {es : Array (Int × Value)} {t : SetTable} (T : Tab w es t) : ElemsOf (PySem.strKind P w) es.toList := fun e he => by
  obtain ⟨x, tk, rfl⟩ := T.all e he
  exact ⟨⟨x, strKind_is P w x tk, rfl⟩, rfl⟩
theorem ent_is {e : Int × Value} {x : Str} (n : Ent w e) : (PySem.strKind P w).is x e.2 = true ↔ nm e = x := by
  obtain ⟨y, tk, rfl⟩ := n
  constructor
  · intro z
    obtain ⟨t2, q⟩ := Value.isStrOf_shape (x := x) (v := .str y tk) z
    cases q
    rfl
  · intro z
    have z' : y = x := z
    subst z'
    exact strKind_is P w y tk
/-- what is stored, and laid anew where the table is too full -/
theorem put_away {say : Bool → Sem Unit} (quiet : ∀ (b : Bool) (s1 : Shared) (R : Unit → Shared → Prop), R () s1 → wpAny (model P w) A (say b) R E s1) {o : Obj} {es es' : Array (Int × Value)} {ep : Nat} {t t' : SetTable} {old : Bool}
    (at_ : s.heap.get? a = some o) (xo : o.ExactSet) (od : o.data = .set es ep t) (T : Tab w es' t') {Q : Option Bool → Shared → Prop}
    (k : ∀ h', Heap.SameBut a s.heap h' → (∃ o2 es2 ep2 t2, h'.get? a = some o2 ∧ o2.ExactSet ∧ o2.data = .set es2 ep2 t2 ∧ Tab w es2 t2 ∧ es2.toList.Perm es'.toList) → Q (some true) { s with heap := h' }) :
    wpAny (model P w) A (do
      storeSet a es' t'
      if (!old && t'.tooFull) = true then do say (relayAll t' es' (SetTable.grown es'.size)).2.2; storeSet a (relayAll t' es' (SetTable.grown es'.size)).1 (relayAll t' es' (SetTable.grown es'.size)).2.1; pure (some true)
      else pure (some true)) Q E s := by
  have first := store_at (es' := es') (t' := t') at_ od
  have same1 := Heap.SameBut.update s.heap a (Obj.putSet es' t')
  apply wpAny_bind
  apply wpAny_storeSet_of at_ od (hz := fits_of_scanBound T.few)
  by_cases full : (!old && t'.tooFull) = true
  · simp only [full, if_true]
    have pe := relayAll_perm t' es' (SetTable.grown es'.size)
    have fe := relayAll_fits t' es' (SetTable.grown es'.size)
    have re := relayAll_ris t' es' (SetTable.grown es'.size)
    have le := relayAll_led t' es' (SetTable.grown es'.size)
    revert pe fe re le
    generalize relayAll t' es' (SetTable.grown es'.size) = laid
    rcases laid with ⟨es2, t2, gave⟩
    intro pe fe re le
    have sz : es2.size = es'.size := by simpa using pe.length_eq
    have T2 : Tab w es2 t2 := ⟨fun e he => T.all e (pe.mem_iff.mp he), sz ▸ T.few, fe, re, T.led.imp (fun z => z) fun z => le.trans z⟩
    apply wpAny_bind
    apply quiet
    apply wpAny_bind
    apply wpAny_storeSet_of first rfl (hz := fits_of_scanBound T2.few)
    have second := store_at (es' := es2) (t' := t2) first rfl
    exact wpAny_pure (k _ (same1.trans (Heap.SameBut.update _ a _)) ⟨_, es2, _, t2, second, xo, rfl, T2, pe⟩)
  · simp only [full]
    exact wpAny_pure (k _ same1 ⟨_, es', _, t', first, xo, rfl, T, List.Perm.refl _⟩)
theorem bag_add {ks : List Str} {x : Str} {tk : Tok} {Q : Bool → Shared → Prop} (B : Bag w s.heap a ks) (room : ks.length + 1 < scanBound)
    (k : ∀ b h' ks', Heap.SameBut a s.heap h' → Bag w h' a ks' → (∀ y, y ∈ ks' ↔ y = x ∨ y ∈ ks) → ks'.length ≤ ks.length + 1 → Q b { s with heap := h' }) :
    wpAny (model P w) A (setAddHashed a (.str x tk) (hashStr w x)) Q E s := by
  obtain ⟨nd, o, es, ep, t, at_, xo, od, T, names⟩ := B
  have el : ElemsOf (PySem.strKind P w) es.toList := T.elems
  have scans : (Value.str x tk).scannable = true := rfl
  have isx : (PySem.strKind P w).is x (.str x tk) = true := strKind_is P w x tk
  have hh : hashStr w x = (PySem.strKind P w).hash x := rfl
  rw [hh]
  unfold setAddHashed setAddHashedIn
  apply wpAny_holding
  apply wpAny_bind
  apply wpAny_setState_of at_ od T.fit
  simp only [byScan_of scans T.few el, if_true]
  unfold setAddByScan
  apply wpAny_bind
  apply wpAny_bind
  apply wpAny_rule
  apply wpAny_bind
  apply wpAny_setScan_of isx at_ od T.fit el
  cases seek : es.toList.findIdx? (fun e => (PySem.strKind P w).is x e.2) with
  | some j =>
    obtain ⟨lt, hit, _⟩ := List.findIdx?_eq_some_iff_getElem.mp seek
    have inside : x ∈ ks := by
      rw [← names]
      exact List.mem_map.mpr ⟨_, List.getElem_mem lt, (ent_is (P := P) (T.all _ (List.getElem_mem lt))).mp hit⟩
    exact wpAny_pure (wpAny_pure (k _ s.heap ks (Heap.SameBut.refl a s.heap) ⟨nd, o, es, ep, t, at_, xo, od, T, names⟩ (fun y => ⟨.inr, fun z => z.elim (fun e => e ▸ inside) id⟩) (Nat.le_succ _)))
  | none =>
    have out : x ∉ ks := fun z => by
      rw [← names] at z
      obtain ⟨e, he, q⟩ := List.mem_map.mp z
      have no := List.findIdx?_eq_none_iff.mp seek e he
      rw [(ent_is (P := P) (T.all e he)).mpr q] at no
      cases no
    have pe := layNew_perm t es ((PySem.strKind P w).hash x) (.str x tk)
    have fe := layNew_fits t es ((PySem.strKind P w).hash x) (.str x tk)
    have re := layNew_ris t es ((PySem.strKind P w).hash x) (.str x tk) T.ris
    have le := layNew_led t es ((PySem.strKind P w).hash x) (.str x tk)
    revert pe fe re le
    dsimp only
    generalize layNew t es ((PySem.strKind P w).hash x) (.str x tk) = laid
    rcases laid with ⟨es1, t1, old, gave⟩
    intro pe fe re le
    dsimp only at pe fe re le ⊢
    have pc : es1.toList.Perm ((hashStr w x, Value.str x tk) :: es.toList) := by
      rw [Array.toList_push] at pe
      exact pe.trans (List.perm_append_singleton _ _)
    have pn : (es1.toList.map nm).Perm (x :: ks) := by
      have q := pc.map nm
      rw [List.map_cons, names] at q
      exact q
    have sz : es1.size = ks.length + 1 := by
      have q := pn.length_eq
      simpa using q
    have T1 : Tab w es1 t1 := ⟨fun e he => by
      rcases List.mem_cons.mp (pc.mem_iff.mp he) with z | z
      · exact ⟨x, tk, z⟩
      · exact T.all e z, by rw [sz]; exact room, fe, re, T.led.imp (fun z => z) fun z => le.trans z⟩
    have fin : ∀ h', Heap.SameBut a s.heap h' → (∃ o2 es2 ep2 t2, h'.get? a = some o2 ∧ o2.ExactSet ∧ o2.data = .set es2 ep2 t2 ∧ Tab w es2 t2 ∧ es2.toList.Perm es1.toList) → Q true { s with heap := h' } := fun h' sb ⟨o2, es2, ep2, t2, g2, x2, d2, T2, p2⟩ => by
      have p3 : (es2.toList.map nm).Perm (x :: ks) := (p2.map nm).trans pn
      exact k true h' _ sb ⟨p3.nodup_iff.mpr (List.nodup_cons.mpr ⟨out, nd⟩), o2, es2, ep2, t2, g2, x2, d2, T2, rfl⟩ (fun y => by rw [p3.mem_iff, List.mem_cons]) (by rw [p3.length_eq, List.length_cons] <;> exact Nat.le_refl _)
    apply wpAny_bind
    have hush : ∀ (b : Bool) (s1 : Shared) (R : Unit → Shared → Prop), R () s1 → wpAny (model P w) A (match b with | true => rule "set.scan.the-table-gave-way" | false => pure ()) R E s1 := fun b s1 R q => by
      cases b
      · exact wpAny_pure q
      · exact wpAny_rule q
    apply hush
    by_cases pl : t1.plain = true
    · simp only [pl, if_true]
      rw [hashByValue_scannable 8 scans]
      apply wpAny_bind
      apply wpAny_pure
      have T1' : ∀ b : Bool, Tab w es1 (if b = true then t1 else { t1 with plain := false }) := fun b => by
        cases b
        · exact ⟨T1.all, T1.few, SetTable.fits_plain_off fe, re, T1.led⟩
        · exact T1
      refine put_away (say := fun b => match b with | true => rule "set.scan.the-table-gave-way" | false => pure ()) hush at_ xo od (T1' _) fun h' sb z => wpAny_pure (fin h' sb z)
    · simp only [pl]
      apply wpAny_bind
      apply wpAny_pure
      refine put_away (say := fun b => match b with | true => rule "set.scan.the-table-gave-way" | false => pure ()) hush at_ xo od T1 fun h' sb z => wpAny_pure (fin h' sb z)
/-- a walk over texts fills the bag at b -/
theorem bag_fill {I b : Addr} {fp wr : List Addr} {G : Array GenState → Array GenState → Prop} {n : Nat} {Pv : Nat → Value → Prop} {St : Nat → Shared → Prop} {R : Result → Shared → Prop} (W : WalksS P w A.in1 I fp wr G n Pv St) (away : b ∉ fp) (xs : List Str) (len : n = xs.length)
    (room : xs.length + 1 < scanBound) (val : ∀ i v, Pv i v → ∃ x t, xs[i]? = some x ∧ v = .str x t) : ∀ (left i : Nat) (s : Shared) (ks : List Str), n - i = left → i ≤ n → St i s → Bag w s.heap b ks → (∀ y, y ∈ ks ↔ y ∈ xs.take i) → ks.length ≤ i →
      (∀ s' ks', Moved (b :: wr) G s s' → Bag w s'.heap b ks' → (∀ y, y ∈ ks' ↔ y ∈ xs) → ks'.length ≤ xs.length → R (.ok (.ret .none)) s') → codeAny (model P w) A (.builtin "set.update.loop" ⟨[.ref b, .ref I], []⟩) R s := by
  have bw : b ∉ wr := fun z => away (W.sub _ z)
  have more : ∀ c ∈ wr, c ∈ b :: wr := fun _ z => List.mem_cons_of_mem _ z
  intro left
  induction left with
  | zero =>
    intro i s ks e1 e2 st B mem le k
    obtain rfl : i = n := by omega
    apply codeAny_builtin F.entry_set_update_loop
    rw [Around.under_plainId F.plain_set_update_loop _]
    show wpAny _ A.in1 (pyNext (.ref I) >>= _) _ _ s
    apply wpAny_bind
    refine W.done s _ _ st fun s' mv => ?_
    show wpAny _ A.in1 (ret Value.none) _ _ s'
    rw [len, List.take_length] at mem
    exact wpAny_pure (k s' ks (mv.mono more) (B.at fun o z => mv.heap b o bw z) mem (len ▸ le))
  | succ left ih =>
    intro i s ks e1 e2 st B mem le k
    have lt : i < n := by omega
    apply codeAny_builtin F.entry_set_update_loop
    rw [Around.under_plainId F.plain_set_update_loop _]
    show wpAny _ A.in1 (pyNext (.ref I) >>= _) _ _ s
    apply wpAny_bind
    refine W.item i s _ _ lt st fun v s1 pv st1 mv => ?_
    obtain ⟨x, t, at_, rfl⟩ := val i v pv
    show wpAny _ A.in1 (holding [Value.str x t] (setAdd b (.str x t)) >>= _) _ _ s1
    apply wpAny_bind
    apply wpAny_holding
    unfold setAdd
    apply wpAny_holding
    apply wpAny_bind
    refine (PySem.strKind P w).pyHash (k := x) (strKind_is P w x t) ?_
    refine bag_add (s := { s1 with toks := s1.toks + 1 }) (B.at fun o z => mv.heap b o bw z) (by omega) fun added h' ks' sb B' mem' le' => ?_
    have off : ∀ c, c ∉ b :: wr → c ≠ b := fun c z q => z (by rw [q]; exact List.mem_cons_self)
    refine wpAny_pure ⟨plainId_quiet F.plain_set_update_loop _, ih (i + 1) _ ks' (by omega) lt (W.frame _ s1 _ _ st1 (Nat.le_succ _) fun c hc o z => ?_) B' (fun y => ?_) (by omega) fun s2 ks2 mv2 B2 mem2 le2 => ?_⟩
    · rw [sb.2 c (fun q => away (q ▸ hc))]
      exact z
    · rw [mem' y, mem y, List.take_add_one, at_, Option.toList_some, List.mem_append, List.mem_singleton]
      exact Or.comm
    · refine k s2 ks2 (Moved.trans W.gtrans ((mv.mono more).then_heap (Nat.le_succ _) fun c o hc z => ?_) mv2) B2 mem2 le2
      rw [sb.2 c (off c hc)]
      exact z
theorem txt_at {us : List Value} {xs : List Str} (h : StrsAre us xs) : ∀ (i : Nat) (v : Value), us[i]? = some v → ∃ x t, xs[i]? = some x ∧ v = .str x t := by
  induction h with
  | nil => intro i v z; cases z
  | cons x t _ ih =>
    intro i v z
    cases i with
    | zero => cases z; exact ⟨x, t, rfl, rfl⟩
    | succ i => exact ih i v z
abbrev freshSet (w : World) : Obj := { cls := .type "set", dict := none, data := .set #[] 0 (.fresh 0 0 (!w.params.followText "set-order")) }
theorem bag_nil {h : Heap} {b : Addr} (e : h.get? b = some (freshSet w)) : Bag w h b [] := by
  refine ⟨List.nodup_nil, _, #[], 0, _, e, ⟨rfl, rfl, rfl⟩, rfl, ⟨fun _ z => (by simp at z), by decide, rfl, List.Pairwise.nil, ?_⟩, rfl⟩
  show w.params.followText "set-order" = true ∨ (!w.params.followText "set-order") = true
  cases w.params.followText "set-order"
  · exact .inr rfl
  · exact .inl rfl
theorem set_of_tuple {l : Addr} {items : Array Value} (xs : List Str) {Q : Value → Shared → Prop} (calm : A.handled = none) (src : s.heap.IsTuple l items) (are : StrsAre items.toList xs) (room : xs.length + 1 < scanBound)
    (k : ∀ (h' : Heap) (tk : Nat) (ks : List Str), Bag w h' s.heap.objs.size ks → (∀ y, y ∈ ks ↔ y ∈ xs) → ks.length ≤ xs.length → (∀ b o, s.heap.get? b = some o → h'.get? b = some o) → Q (.ref s.heap.objs.size) { s with heap := h', toks := tk }) :
    wpAny (model P w) A (call (.type "set") [.ref l]) Q E s := by
  have size_ : items.size = xs.length := by
    have q := are.length
    simpa using q
  obtain ⟨c, tl, hmro⟩ := F.called_set.mro
  have hmade := F.called_set.made
  have hsub := F.called_set.sub
  apply wpAny_call
  apply codeAny_of_tree
  show wpAny _ _ (callAny (.type "set") _) _ _ _
  refine wpAny_pure ⟨Code.quiet_builtin _ (by decide +kernel), codeAny_builtin F.entry_type_call ?_⟩
  rw [Around.under_plain (weight_type_call_type "set" [.ref l] []) rfl]
  have notType := F.called_set.notType
  have creates := F.called_set.canCreate
  have calls1 := F.typeCall_set_1 (.ref l)
  repeat (any_goals (first | assumption | wp_step))
  refine codeAny_mono (code_set_led1 (.ref l) (E := E) (Q₁ := fun ob s1 => ob = .ref s.heap.objs.size ∧ s1 = { s with heap := s.heap.push (freshSet w) }) ⟨rfl, rfl⟩) fun r s1 hr => ?_
  cases r with
  | error e => exact hr
  | ok fl =>
    cases fl with
    | next => exact hr.elim
    | brk => exact hr.elim
    | cont => exact hr.elim
    | ret ob =>
      obtain ⟨rfl, rfl⟩ := hr
      have made : (s.heap.push (freshSet w)).get? s.heap.objs.size = some (freshSet w) := Heap.get?_push_size _ rfl
      have madeT : Shared.TypeIs { s with heap := s.heap.push (freshSet w) } (.ref s.heap.objs.size) "set" := ⟨_, made, rfl⟩
      have initLook := F.called_set.init.lookup
      have initBind := F.called_set.init.bind (.ref s.heap.objs.size)
      repeat (any_goals (first | assumption | wp_step))
      refine codeAny_mono (codeAny_call_builtin (R := wants (fun r s2 => r = .none ∧ ∃ h' tk ks, s2 = { s with heap := h', toks := tk } ∧ Bag w h' s.heap.objs.size ks ∧ (∀ y, y ∈ ks ↔ y ∈ xs) ∧ ks.length ≤ xs.length ∧ ∀ b o, s.heap.get? b = some o → h'.get? b = some o) E)
        F.called_set.init.plain F.entry_set_init (check_set_init_1 madeT ?_)) fun r2 s2 hr2 => ?_
      · obtain ⟨⟨ocls, odict, odata, oslots⟩, hol, hcl, nl, hdl⟩ := src
        simp only at hcl hdl
        subst hcl
        subst hdl
        have srcAt := Heap.get?_push_of_some (freshSet w) hol
        have src1 : (s.heap.push (freshSet w)).IsTuple l items := ⟨_, srcAt, rfl, nl, rfl⟩
        have hsls := F.sub_tuple_set
        have hslf := F.sub_tuple_frozenset
        have noDict : (Value.type "tuple" == Value.type "dict") = false := by decide
        unfold Builtin.«set.__init__» noKeywords Builtin.Frozenset.updateFrom
        generalize hPI : pyIter = PI
        wp_walk
        subst hPI
        apply wpAny_pyIter_tuple src1
        apply wpAny_bind
        apply wpAny_runValue
        have low : l < s.heap.objs.size := Heap.lt_size hol
        have grown : (s.heap.push (freshSet w)).objs.size = s.heap.objs.size + 1 := Heap.size_push _ _
        have calm3 : A.in1.in1.in1.handled = none := by simp [calm]
        have apart : l ≠ (s.heap.push (freshSet w)).objs.size := by rw [grown]; exact Nat.ne_of_lt (Nat.lt_succ_of_lt low)
        have away : s.heap.objs.size ∉ [(s.heap.push (freshSet w)).objs.size, l] := fun z => by
          rcases List.mem_cons.mp z with z | z
          · rw [grown] at z
            exact absurd z (Nat.ne_of_lt (Nat.lt_succ_self _))
          · exact absurd (List.mem_singleton.mp z).symm (Nat.ne_of_lt low)
        refine bag_fill ((Walks.tuple calm3 _ l apart items).toS) away xs size_ room (fun i v z => txt_at are i v (by rw [Array.getElem?_toList]; exact z)) (items.size - 0) 0 _ [] rfl (Nat.zero_le _)
          ⟨⟨_, Heap.get?_push_size _ rfl, rfl, rfl⟩, src1.push _⟩ (bag_nil (Heap.get?_push_of_some _ made)) (fun y => by simp) (Nat.le_refl 0) fun s3 ks mv B mem le => ?_
        rcases s3 with ⟨h3, g3, d3, tk3, os3⟩
        cases (show g3 = s.gens from mv.gens)
        cases (show d3 = s.drawn from mv.drawn)
        cases (show os3 = s.os from mv.os)
        apply wpAny_pure
        show wpAny _ _ (ret Value.none) _ _ _
        refine wpAny_pure ⟨rfl, h3, tk3, ks, rfl, B, mem, le, fun b o e => mv.heap b o (fun z => ?_) (Heap.get?_push_of_some _ (Heap.get?_push_of_some _ e))⟩
        have lb := Heap.lt_size e
        rcases List.mem_cons.mp z with z | z
        · exact absurd z (Nat.ne_of_lt lb)
        · rw [grown] at z
          exact absurd (List.mem_singleton.mp z) (Nat.ne_of_lt (Nat.lt_succ_of_lt lb))
      · cases r2 with
        | error e => exact hr2
        | ok fl2 =>
          cases fl2 with
          | next => exact hr2.elim
          | brk => exact hr2.elim
          | cont => exact hr2.elim
          | ret r =>
            obtain ⟨rfl, h', tk, ks, rfl, B, mem, le, kp⟩ := hr2
            repeat (any_goals (first | assumption | wp_step))
            exact k _ _ _ B mem le kp
theorem set_of_list {l : Addr} {items : Array Value} (xs : List Str) {Q : Value → Shared → Prop} (calm : A.handled = none) (src : s.heap.IsList l items) (are : StrsAre items.toList xs) (room : xs.length + 1 < scanBound)
    (k : ∀ (h' : Heap) (tk : Nat) (ks : List Str), Bag w h' s.heap.objs.size ks → (∀ y, y ∈ ks ↔ y ∈ xs) → ks.length ≤ xs.length → (∀ b o, s.heap.get? b = some o → h'.get? b = some o) → Q (.ref s.heap.objs.size) { s with heap := h', toks := tk }) :
    wpAny (model P w) A (call (.type "set") [.ref l]) Q E s := by
  have size_ : items.size = xs.length := by
    have q := are.length
    simpa using q
  obtain ⟨c, tl, hmro⟩ := F.called_set.mro
  have hmade := F.called_set.made
  have hsub := F.called_set.sub
  apply wpAny_call
  apply codeAny_of_tree
  show wpAny _ _ (callAny (.type "set") _) _ _ _
  refine wpAny_pure ⟨Code.quiet_builtin _ (by decide +kernel), codeAny_builtin F.entry_type_call ?_⟩
  rw [Around.under_plain (weight_type_call_type "set" [.ref l] []) rfl]
  have notType := F.called_set.notType
  have creates := F.called_set.canCreate
  have calls1 := F.typeCall_set_1 (.ref l)
  repeat (any_goals (first | assumption | wp_step))
  refine codeAny_mono (code_set_led1 (.ref l) (E := E) (Q₁ := fun ob s1 => ob = .ref s.heap.objs.size ∧ s1 = { s with heap := s.heap.push (freshSet w) }) ⟨rfl, rfl⟩) fun r s1 hr => ?_
  cases r with
  | error e => exact hr
  | ok fl =>
    cases fl with
    | next => exact hr.elim
    | brk => exact hr.elim
    | cont => exact hr.elim
    | ret ob =>
      obtain ⟨rfl, rfl⟩ := hr
      have made : (s.heap.push (freshSet w)).get? s.heap.objs.size = some (freshSet w) := Heap.get?_push_size _ rfl
      have madeT : Shared.TypeIs { s with heap := s.heap.push (freshSet w) } (.ref s.heap.objs.size) "set" := ⟨_, made, rfl⟩
      have initLook := F.called_set.init.lookup
      have initBind := F.called_set.init.bind (.ref s.heap.objs.size)
      repeat (any_goals (first | assumption | wp_step))
      refine codeAny_mono (codeAny_call_builtin (R := wants (fun r s2 => r = .none ∧ ∃ h' tk ks, s2 = { s with heap := h', toks := tk } ∧ Bag w h' s.heap.objs.size ks ∧ (∀ y, y ∈ ks ↔ y ∈ xs) ∧ ks.length ≤ xs.length ∧ ∀ b o, s.heap.get? b = some o → h'.get? b = some o) E)
        F.called_set.init.plain F.entry_set_init (check_set_init_1 madeT ?_)) fun r2 s2 hr2 => ?_
      · obtain ⟨⟨ocls, odict, odata, oslots⟩, hol, hcl, nl, hdl⟩ := src
        simp only at hcl hdl
        subst hcl
        subst hdl
        have srcAt := Heap.get?_push_of_some (freshSet w) hol
        have src1 : (s.heap.push (freshSet w)).IsList l items := ⟨_, srcAt, rfl, nl, rfl⟩
        have hsls := F.sub_list_set
        have hslf := F.sub_list_frozenset
        have noDict : (Value.type "list" == Value.type "dict") = false := by decide
        unfold Builtin.«set.__init__» noKeywords Builtin.Frozenset.updateFrom
        generalize hPI : pyIter = PI
        wp_walk
        subst hPI
        apply wpAny_pyIter_list src1
        apply wpAny_bind
        apply wpAny_runValue
        have low : l < s.heap.objs.size := Heap.lt_size hol
        have grown : (s.heap.push (freshSet w)).objs.size = s.heap.objs.size + 1 := Heap.size_push _ _
        have calm3 : A.in1.in1.in1.handled = none := by simp [calm]
        have apart : l ≠ (s.heap.push (freshSet w)).objs.size := by rw [grown]; exact Nat.ne_of_lt (Nat.lt_succ_of_lt low)
        have away : s.heap.objs.size ∉ [(s.heap.push (freshSet w)).objs.size, l] := fun z => by
          rcases List.mem_cons.mp z with z | z
          · rw [grown] at z
            exact absurd z (Nat.ne_of_lt (Nat.lt_succ_self _))
          · exact absurd (List.mem_singleton.mp z).symm (Nat.ne_of_lt low)
        refine bag_fill ((Walks.list calm3 _ l apart items).toS) away xs size_ room (fun i v z => txt_at are i v (by rw [Array.getElem?_toList]; exact z)) (items.size - 0) 0 _ [] rfl (Nat.zero_le _)
          ⟨⟨_, Heap.get?_push_size _ rfl, rfl, rfl⟩, src1.push _⟩ (bag_nil (Heap.get?_push_of_some _ made)) (fun y => by simp) (Nat.le_refl 0) fun s3 ks mv B mem le => ?_
        rcases s3 with ⟨h3, g3, d3, tk3, os3⟩
        cases (show g3 = s.gens from mv.gens)
        cases (show d3 = s.drawn from mv.drawn)
        cases (show os3 = s.os from mv.os)
        apply wpAny_pure
        show wpAny _ _ (ret Value.none) _ _ _
        refine wpAny_pure ⟨rfl, h3, tk3, ks, rfl, B, mem, le, fun b o e => mv.heap b o (fun z => ?_) (Heap.get?_push_of_some _ (Heap.get?_push_of_some _ e))⟩
        have lb := Heap.lt_size e
        rcases List.mem_cons.mp z with z | z
        · exact absurd z (Nat.ne_of_lt lb)
        · rw [grown] at z
          exact absurd (List.mem_singleton.mp z) (Nat.ne_of_lt (Nat.lt_succ_of_lt lb))
      · cases r2 with
        | error e => exact hr2
        | ok fl2 =>
          cases fl2 with
          | next => exact hr2.elim
          | brk => exact hr2.elim
          | cont => exact hr2.elim
          | ret r =>
            obtain ⟨rfl, h', tk, ks, rfl, B, mem, le, kp⟩ := hr2
            repeat (any_goals (first | assumption | wp_step))
            exact k _ _ _ B mem le kp
end
end LB
namespace LB
open PySem PySem.Spec PyProof.Rows L2
section
variable {P : Program} {w : World} {A : Around} {E : Value → Shared → Prop} {s : Shared} {a : Addr}
/-- sorted(a bag), few members -/
theorem sorted_bag {b : Addr} {ks : List Str} {Q : Value → Shared → Prop} (B : Bag w s.heap b ks) (calm : A.handled = none) (few : ks.length < 64)
    (k : ∀ s' p (out : Array Value) (c : Nat) (ys : List Str), (∀ d o, s.heap.get? d = some o → s'.heap.get? d = some o) → s'.gens = s.gens → s'.os = s.os → s.heap.objs.size ≤ p → s'.heap.get? p = some (seqObj "list" out c) → StrsAre out.toList ys → ys.Perm ks → sortedS ys = true → Q (.ref p) s') :
    wpAny (model P w) A (call (.builtin "sorted") [.ref b]) Q E s := by
  obtain ⟨nd, o, es, ep, t, at_, xo, od, T, names⟩ := B
  apply Calls.call_function_entry kind_sorted plain_sorted entry_sorted (args_sorted1 _)
  unfold Builtin.«sorted»
  apply wpAny_bind (m := checkCount "sorted" 1 1 _)
  apply wpAny_pure
  apply wpAny_bind
  refine collect_set (A := A.in1) calm ⟨o, at_, xo.1, od⟩ T.fit T.few T.ris T.led fun s1 vs kp sz g1 o1 pm => ?_
  have tx : ∀ us : List Value, (∀ v ∈ us, ∃ x tk, v = Value.str x tk) → StrsAre us (us.map fun v => nm (0, v)) := fun us => by
    induction us with
    | nil => exact fun _ => .nil
    | cons v us ih =>
      intro z
      obtain ⟨x, tk, rfl⟩ := z v List.mem_cons_self
      exact .cons x tk (ih fun u hu => z u (List.mem_cons_of_mem _ hu))
  have are : StrsAre vs (vs.map fun v => nm (0, v)) := tx vs fun v hv => by
    obtain ⟨e, he, rfl⟩ := List.mem_map.mp (pm.mem_iff.mp hv)
    obtain ⟨x, tk, rfl⟩ := T.all e he
    exact ⟨x, tk, rfl⟩
  have pk : (vs.map fun v => nm (0, v)).Perm ks := by
    have q := pm.map fun v => nm (0, v)
    rw [List.map_map] at q
    exact q.trans (List.Perm.of_eq names)
  have vl : vs.length < 64 := by
    have q := pk.length_eq
    rw [List.length_map] at q
    omega
  apply wpAny_bind
  refine wpAny_newList ?_ (by rw [sizeLine_eq]; omega)
  have laid : (s1.heap.push (seqObj "list" vs.toArray 0)).get? s1.heap.objs.size = some (seqObj "list" vs.toArray 0) := Heap.get?_push_size _ rfl
  apply wpAny_bind
  apply wpAny_holding
  refine wpAny_call_entry slot_list_sort ⟨_, laid, rfl⟩ entry_list_sort ?_ (args_list_sort _)
  refine list_sort_treeK PyProof.Rows.strKind_oneLt laid are.keysOf (fun v1 v2 rest e => keyKind_strs (by rw [← e]; exact are)) vl fun st pt sd => ⟨_, rfl, ?_⟩
  obtain ⟨ys, y1, y2, y3⟩ := sorted_out_str are pt sd
  obtain ⟨c, hc⟩ := sortedHeap_at (vs := vs) (out := (arrOf st).map (·.2)) laid
  refine wpAny_pure ⟨_, rfl, k _ s1.heap.objs.size _ c ys (fun d u e => ?_) g1 o1 sz hc y1 (y2.trans pk) y3⟩
  have was := kp d u e
  have low := Heap.lt_size was
  show (sortedHeap (s1.heap.push (seqObj "list" vs.toArray 0)) s1.heap.objs.size vs _).get? d = some u
  rw [sortedHeap_old (Nat.ne_of_lt low) (by rw [size_push']; exact Nat.lt_succ_of_lt low)]
  exact Heap.get?_push_of_some _ was
end
/-! ### as rules -/
def BagO (w : World) (a : Addr) (ks : List Str) : HO := .ext fun h => Bag w h a ks
section
variable {X : Cx}
theorem bagO_ok {P : Program} {w : World} {H : Hp} {h : Heap} {a : Addr} {ks : List Str} (B : Bag w h a ks) : ObjOk P w H h a (BagO w a ks) := by
  have ⟨_, o, _, _, _, e, _⟩ := B
  exact ⟨B, ⟨o, e⟩, fun _ _ p k => Bag.at p k⟩
/-- set(xs): a tuple or a list of texts -/
def rBag (K : PySem.W.Frag) (w : World) : List V → Hp → VK → Prop := fun vs H Q => ∃ (l : Addr) (xs : List Str), vs = [V.ref l] ∧ (SqT K H l (xs.map V.str) ∨ SqL K H l (xs.map V.str)) ∧ xs.length < 63 ∧
  ∀ (p : Addr) (ks : List Str), H p = none → (∀ y, y ∈ ks ↔ y ∈ xs) → ks.Nodup → ks.length ≤ xs.length → Q (.ref p) (upd H p (BagO w p ks))
theorem cr_bag (hc : X.calm = true) : CallR X (.type "set") (rBag X.K X.w) := by
  intro pins s σ H vs us Q I r h
  obtain ⟨l, xs, rfl, src, few, k⟩ := h
  rw [Vals.ref1 r]
  have room : xs.length + 1 < scanBound := by
    have : scanBound = 4096 := rfl
    omega
  have free : H s.heap.objs.size = none := I.hok.fresh (Nat.le_refl _)
  have fin : ∀ (h' : Heap) (tk : Nat) (ks : List Str), Bag X.w h' s.heap.objs.size ks → (∀ y, y ∈ ks ↔ y ∈ xs) → ks.length ≤ xs.length → (∀ b o, s.heap.get? b = some o → h'.get? b = some o) → EP X pins σ Q (.ref s.heap.objs.size) { s with heap := h', toks := tk } :=
    fun h' tk ks B mem le kp => ⟨.ref _, _, I.laid (t' := tk) kp (Nat.le_refl _) (bagO_ok B), rfl, k _ ks free mem B.1 le⟩
  rcases src with src | src
  · obtain ⟨its, rv, pl, _⟩ := I.tuple src
    exact set_of_tuple xs (I.ok.hd hc) pl (by simpa using rv.strs) room fin
  · obtain ⟨its, rv, pl, _⟩ := I.list src
    exact set_of_list xs (I.ok.hd hc) pl.isList (by simpa using rv.strs) room fin
def rSortBag (w : World) : List V → Hp → VK → Prop := fun vs H Q => ∃ (a : Addr) (ks : List Str), vs = [V.ref a] ∧ H a = some (BagO w a ks) ∧ ks.length < 64 ∧
  ∀ (ys : List Str) (p : Addr), ys.Perm ks → sortedS ys = true → H p = none → Q (.ref p) (upd H p (.lst (ys.map V.str)))
theorem cr_sortBag (hc : X.calm = true) : CallR X (.builtin "sorted") (rSortBag X.w) := by
  intro pins s σ H vs us Q I r h
  obtain ⟨a, ks, rfl, at_, few, k⟩ := h
  have B : Bag X.w s.heap a ks := (I.hok a _ at_).1
  rw [Vals.ref1 r]
  refine sorted_bag B (I.ok.hd hc) few fun s' p out c ys kp g o le hp are pm srt => ?_
  have free : H p = none := I.hok.fresh le
  have lim : (ys.map V.str).length ≤ sizeLine := by rw [List.length_map, pm.length_eq]; exact small64 few
  have J : Inv X pins σ (upd H p (.lst (ys.map V.str))) { s with heap := s'.heap, gens := s'.gens, drawn := s'.drawn, toks := s'.toks } :=
    I.call (ch := []) (Un.laid kp le free) (I.hok.laid kp le ⟨lim, out.toList, c, vals_of_strs are, hp⟩) (by rw [g]; exact I.bare) (fun _ z => nomatch z)
  rcases s' with ⟨h2, g2, d2, t2, o2⟩
  cases (show o2 = s.os from o)
  exact ⟨.ref p, _, J, rfl, k ys p pm srt free⟩
end
end LB
/-! what sorted(set(texts)) is: unique, there -/
namespace SR
open PySem PySem.Spec PyProof.Rows
def Srt (xs ys : List Str) : Prop := ys.Nodup ∧ PyProof.Rows.sortedS ys = true ∧ ∀ y, y ∈ ys ↔ y ∈ xs
abbrev Le (a b : Str) : Prop := ltCps b.cps.toList a.cps.toList = false
theorem le_iff (a b : Str) : Le a b ↔ a.cps.toList ≤ b.cps.toList := by
  show ltCps _ _ = false ↔ _
  rw [ltCps_eq, decide_eq_false_iff_not, List.not_lt]
theorem le_trans {a b c : Str} (h1 : Le a b) (h2 : Le b c) : Le a c := (le_iff a c).mpr (List.le_trans ((le_iff a b).mp h1) ((le_iff b c).mp h2))
theorem le_anti {a b : Str} (h1 : Le a b) (h2 : Le b a) : a = b := by
  have e := List.le_antisymm ((le_iff a b).mp h1) ((le_iff b a).mp h2)
  cases a; cases b
  exact congrArg Str.mk (Array.toList_inj.mp e)
theorem le_total (a b : Str) : Le a b ∨ Le b a := (List.le_total a.cps.toList b.cps.toList).imp (le_iff a b).mpr (le_iff b a).mpr
theorem rising_pw : ∀ (p : Str) (l : List Str), risingS p l = true → (p :: l).Pairwise Le
  | p, [], _ => List.pairwise_singleton _ _
  | p, x :: r, h => by
    have h' : (!ltCps x.cps.toList p.cps.toList && risingS x r) = true := h
    obtain ⟨h1, h2⟩ := Bool.and_eq_true_iff.mp h'
    have px : Le p x := by simpa using h1
    have ih := rising_pw x r h2
    refine List.pairwise_cons.mpr ⟨fun y hy => ?_, ih⟩
    rcases List.mem_cons.mp hy with rfl | hy
    · exact px
    · exact le_trans px (List.rel_of_pairwise_cons ih hy)
theorem sorted_pw : ∀ {l : List Str}, sortedS l = true → l.Pairwise Le
  | [], _ => .nil
  | p :: l, h => rising_pw p l h
theorem unique {xs ys zs : List Str} (a : Srt xs ys) (b : Srt xs zs) : ys = zs :=
  List.Perm.eq_of_pairwise (fun _ _ _ _ h1 h2 => le_anti h1 h2) (sorted_pw a.2.1) (sorted_pw b.2.1) ((List.perm_ext_iff_of_nodup a.1 b.1).mpr fun y => (a.2.2 y).trans (b.2.2 y).symm)
theorem there (xs : List Str) : ∃ ys, Srt xs ys := by
  have sort : ∀ l : List Str, l.Nodup → ∃ ys, Srt l ys := fun l nd => by
    have pm := List.mergeSort_perm l (fun a b => !ltCps b.cps.toList a.cps.toList)
    have pw := List.pairwise_mergeSort (le := fun a b : Str => !ltCps b.cps.toList a.cps.toList) (fun a b c h1 h2 => by
      have := le_trans (a := a) (b := b) (c := c) (by simpa using h1) (by simpa using h2)
      simpa using this) (fun a b => by
      rcases le_total a b with h | h
      · simp [show ltCps b.cps.toList a.cps.toList = false from h]
      · simp [show ltCps a.cps.toList b.cps.toList = false from h]) l
    exact ⟨_, pm.nodup_iff.mpr nd, sortedS_of_pairwise _ (pw.imp fun h => by simpa using h), fun y => pm.mem_iff⟩
  have dd : ∀ l : List Str, ∃ m : List Str, m.Nodup ∧ ∀ y, y ∈ m ↔ y ∈ l := fun l => by
    induction l with
    | nil => exact ⟨[], .nil, fun _ => Iff.rfl⟩
    | cons x r ih =>
      obtain ⟨m, nd, mm⟩ := ih
      by_cases h : x ∈ m
      · refine ⟨m, nd, fun y => (mm y).trans ⟨List.mem_cons_of_mem _, fun z => (List.mem_cons.mp z).elim (fun e => by rw [e]; exact (mm x).mp h) id⟩⟩
      · exact ⟨x :: m, List.nodup_cons.mpr ⟨h, nd⟩, fun y => by rw [List.mem_cons, List.mem_cons, mm]⟩
  obtain ⟨m, nd, mm⟩ := dd xs
  obtain ⟨ys, a, b, c⟩ := sort m nd
  exact ⟨ys, a, b, fun y => (c y).trans (mm y)⟩
theorem self {xs ys : List Str} (a : Srt xs ys) : Srt ys ys := ⟨a.1, a.2.1, fun _ => Iff.rfl⟩
theorem congr {xs zs ys : List Str} (a : Srt xs ys) (h : ∀ y, y ∈ xs ↔ y ∈ zs) : Srt zs ys := ⟨a.1, a.2.1, fun y => (a.2.2 y).trans (h y)⟩
theorem tail {ys : List Str} (a : Srt ys ys) : Srt ys.tail ys.tail := by
  refine ⟨a.1.sublist (List.tail_sublist _), ?_, fun _ => Iff.rfl⟩
  exact sortedS_of_pairwise _ ((sorted_pw a.2.1).sublist (List.tail_sublist _))
theorem len_le {xs ys : List Str} (a : Srt xs ys) : ys.length ≤ xs.length := by
  have h : ∀ (l m : List Str), l.Nodup → (∀ y ∈ l, y ∈ m) → l.length ≤ m.length := fun l => by
    induction l with
    | nil => intro m _ _; exact Nat.zero_le _
    | cons x r ih =>
      intro m nd sub
      have nd' := List.nodup_cons.mp nd
      have hx := sub x List.mem_cons_self
      have := ih (m.erase x) nd'.2 fun y hy => (List.mem_erase_of_ne fun e : y = x => nd'.1 (e ▸ hy)).mpr (sub y (List.mem_cons_of_mem _ hy))
      rw [List.length_erase_of_mem hx] at this
      have pos := List.length_pos_of_mem hx
      rw [List.length_cons]
      omega
  exact h ys xs a.1 fun y hy => (a.2.2 y).mp hy
end SR
/-! what split by one sign gives, over codes -/
namespace SP
open PySem Builtin Builtin.Str StrLaws
abbrev Tx := List Nat
def tx (l : Tx) : Str := ⟨l.toArray⟩
def splA (c : Nat) : Tx → Tx → List Tx
  | acc, [] => [acc]
  | acc, a :: r => if a = c then acc :: splA c [] r else splA c (acc ++ [a]) r
def spots (c : Nat) : Tx → Nat → List Nat
  | [], _ => []
  | a :: r, k => if a = c then k :: spots c r (k + 1) else spots c r (k + 1)
theorem sub_at (l : Tx) (c k : Nat) : subAt (tx l) ⟨#[c]⟩ k = true ↔ l[k]? = some c := by
  rw [subAt_eq]
  show (((l.toArray.toList.drop k).take 1 == [c]) = true) ↔ _
  rw [beq_iff_eq, List.toList_toArray]
  cases h : l.drop k with
  | nil =>
    have e : l[k]? = none := by
      have := List.drop_eq_nil_iff.mp h
      exact List.getElem?_eq_none this
    simp [e]
  | cons a r =>
    have e : l[k]? = some a := by
      have := congrArg List.head? h
      rw [List.head?_drop] at this
      simpa using this
    simp [e]
theorem drop_at {l : Tx} {k : Nat} (h : k < l.length) : l.drop k = l[k] :: l.drop (k + 1) := List.drop_eq_getElem_cons h
theorem occ_from (l : Tx) (c limit : Nat) : ∀ (m k : Nat) (st : Array Nat × Nat), k + m = l.length + 1 → st.snd ≤ k → st.fst.size + m ≤ limit →
    (forIn (List.range' k m) st (occBody (tx l) ⟨#[c]⟩ l.length limit)).run.fst.toList = st.fst.toList ++ spots c (l.drop k) k
  | 0, k, st, hk, _, _ => by
    rw [List.drop_of_length_le (by omega)]
    simp [spots]
  | m + 1, k, st, hk, hs, hl => by
    rw [List.range'_succ, List.forIn_cons]
    unfold occBody
    have one : (⟨#[c]⟩ : Str).length = 1 := rfl
    rw [one]
    by_cases h : k < l.length
    · rw [drop_at h]
      by_cases e : l[k] = c
      · have yes : ((st.fst.size < limit ∧ st.snd ≤ k) ∧ k + 1 ≤ l.length) ∧ subAt (tx l) ⟨#[c]⟩ k = true := ⟨⟨⟨by omega, hs⟩, h⟩, (sub_at l c k).mpr (by rw [List.getElem?_eq_getElem h, e])⟩
        rw [if_pos yes]
        have ih := occ_from l c limit m (k + 1) (st.fst.push k, k + 1) (by omega) (Nat.le_refl _) (by show (st.fst.push k).size + m ≤ limit; rw [Array.size_push]; omega)
        show (forIn (List.range' (k + 1) m) (st.fst.push k, k + 1) (occBody (tx l) ⟨#[c]⟩ l.length limit)).run.fst.toList = _
        rw [ih]
        show (st.fst.push k).toList ++ _ = _
        rw [Array.toList_push]
        have un : spots c (l[k] :: l.drop (k + 1)) k = k :: spots c (l.drop (k + 1)) (k + 1) := if_pos e
        rw [un, List.append_assoc]
        rfl
      · have no : ¬ (((st.fst.size < limit ∧ st.snd ≤ k) ∧ k + 1 ≤ l.length) ∧ subAt (tx l) ⟨#[c]⟩ k = true) := fun z => by
          have q := (sub_at l c k).mp z.2
          rw [List.getElem?_eq_getElem h] at q
          exact e (Option.some.inj q)
        rw [if_neg no]
        have ih := occ_from l c limit m (k + 1) st (by omega) (by omega) (by omega)
        show (forIn (List.range' (k + 1) m) st (occBody (tx l) ⟨#[c]⟩ l.length limit)).run.fst.toList = _
        rw [ih]
        conv => rhs; unfold spots
        rw [if_neg e]
    · have no : ¬ (((st.fst.size < limit ∧ st.snd ≤ k) ∧ k + 1 ≤ l.length) ∧ subAt (tx l) ⟨#[c]⟩ k = true) := fun z => by omega
      rw [if_neg no]
      have ih := occ_from l c limit m (k + 1) st (by omega) (by omega) (by omega)
      show (forIn (List.range' (k + 1) m) st (occBody (tx l) ⟨#[c]⟩ l.length limit)).run.fst.toList = _
      rw [ih, List.drop_of_length_le (show l.length ≤ k by omega), List.drop_of_length_le (show l.length ≤ k + 1 by omega)]
      rfl
theorem occ_is (l : Tx) (c : Nat) : occurrences (tx l) ⟨#[c]⟩ 0 (tx l).length ((tx l).length + 1) = spots c l 0 := by
  rw [occ_eq]
  have e : (tx l).length = l.length := List.size_toArray
  rw [e]
  have h := occ_from l c (l.length + 1) (l.length + 1) 0 (#[], 0) (by omega) (Nat.le_refl _) (by show 0 + _ ≤ _; omega)
  rw [Nat.sub_zero, h]
  simp
theorem sub_is (l : Tx) (a b : Nat) : strSub (tx l) a b = tx ((l.drop a).take (b - a)) := by
  apply Str.ext'
  apply Array.toList_inj.mp
  rw [strSub_toList]
  show _ = ((l.drop a).take (b - a)).toArray.toList
  rw [List.toList_toArray]
  rfl
theorem parts_is (l : Tx) (c : Nat) : ∀ (n a b : Nat), b + n = l.length → a ≤ b → partsFrom (tx l) 1 a (spots c (l.drop b) b) = (splA c ((l.drop a).take (b - a)) (l.drop b)).map tx
  | 0, a, b, hb, hab => by
    rw [List.drop_of_length_le (by omega)]
    show [strSub (tx l) a (tx l).length] = [tx _]
    rw [sub_is]
    have e : (tx l).length = b := by show l.toArray.size = b; rw [List.size_toArray]; omega
    rw [e]
  | n + 1, a, b, hb, hab => by
    have h : b < l.length := by omega
    rw [drop_at h]
    by_cases e : l[b] = c
    · unfold spots splA
      rw [if_pos e, if_pos e]
      show strSub (tx l) a b :: partsFrom (tx l) 1 (b + 1) (spots c (l.drop (b + 1)) (b + 1)) = tx _ :: _
      rw [sub_is, parts_is l c n (b + 1) (b + 1) (by omega) (Nat.le_refl _), Nat.sub_self, List.take_zero]
    · unfold spots splA
      rw [if_neg e, if_neg e]
      rw [parts_is l c n a (b + 1) (by omega) (by omega)]
      congr 2
      rw [show b + 1 - a = (b - a) + 1 by omega, List.take_add_one]
      congr 1
      rw [List.getElem?_drop, show a + (b - a) = b by omega, List.getElem?_eq_getElem h]
      rfl
theorem kind_ge (x : Str) : 1 ≤ PySem.Builtin.Str.strKind x := by
  unfold PySem.Builtin.Str.strKind
  split
  · exact Nat.le_refl _
  · split <;> decide
theorem split_is (l : Tx) {c : Nat} (hc : c < 256) : Txt.split (tx l) ⟨#[c]⟩ = (splA c [] l).map tx := by
  unfold Txt.split
  have k1 : PySem.Builtin.Str.strKind (⟨#[c]⟩ : Str) = 1 := by unfold PySem.Builtin.Str.strKind; simp [hc]
  have one : (⟨#[c]⟩ : Str).length = 1 := rfl
  rw [k1, one, occ_is]
  have kg := kind_ge (tx l)
  rw [decide_eq_false (show ¬ PySem.Builtin.Str.strKind (tx l) < 1 by omega), Bool.or_false]
  have e : (tx l).length = l.length := List.size_toArray
  rw [e]
  cases l with
  | nil => rfl
  | cons a r =>
    rw [if_neg (by simp)]
    have p := parts_is (a :: r) c (a :: r).length 0 0 (by omega) (Nat.le_refl _)
    rw [List.drop_zero, Nat.sub_self, List.take_zero] at p
    split
    · rename_i q
      rw [List.isEmpty_iff.mp q] at p
      rw [← p]
      show [tx (a :: r)] = [strSub (tx (a :: r)) 0 (tx (a :: r)).length]
      rw [sub_is, e]
      simp
    · rw [partsBetween_eq]
      exact p
theorem splA_app (c : Nat) : ∀ (p acc rest : Tx), c ∉ p → splA c acc (p ++ rest) = splA c (acc ++ p) rest
  | [], acc, rest, _ => by rw [List.nil_append, List.append_nil]
  | a :: p, acc, rest, h => by
    have ha : a ≠ c := fun e => h (by rw [e]; exact List.mem_cons_self ..)
    rw [List.cons_append]
    conv => lhs; unfold splA
    rw [if_neg ha, splA_app c p (acc ++ [a]) rest fun z => h (List.mem_cons_of_mem _ z), List.append_assoc]
    rfl
def joinC (c : Nat) : List Tx → Tx
  | [] => []
  | [p] => p
  | p :: q :: r => p ++ c :: joinC c (q :: r)
theorem split_join (c : Nat) : ∀ (ps : List Tx), ps ≠ [] → (∀ p ∈ ps, c ∉ p) → splA c [] (joinC c ps) = ps
  | [], h, _ => absurd rfl h
  | [p], _, h => by
    have e := splA_app c p [] [] (h p (List.mem_cons_self ..))
    rw [List.append_nil, List.nil_append] at e
    exact e
  | p :: q :: r, _, h => by
    show splA c [] (p ++ c :: joinC c (q :: r)) = _
    rw [splA_app c p [] _ (h p (List.mem_cons_self ..)), List.nil_append]
    unfold splA
    rw [if_pos rfl, split_join c (q :: r) (by simp) fun z hz => h z (List.mem_cons_of_mem _ hz)]
theorem splA_mem (c : Nat) : ∀ (l acc : Tx), ∀ p ∈ splA c acc l, (∀ x ∈ p, x ∈ acc ∨ x ∈ l) ∧ p.length ≤ acc.length + l.length
  | [], acc, p, h => by
    rw [List.mem_singleton.mp h]
    exact ⟨fun x hx => .inl hx, Nat.le_add_right _ _⟩
  | a :: l, acc, p, h => by
    unfold splA at h
    by_cases e : a = c
    · rw [if_pos e] at h
      rcases List.mem_cons.mp h with rfl | h
      · exact ⟨fun x hx => .inl hx, Nat.le_add_right _ _⟩
      · obtain ⟨m, n⟩ := splA_mem c l [] p h
        refine ⟨fun x hx => (m x hx).elim (fun z => by cases z) fun z => .inr (List.mem_cons_of_mem _ z), ?_⟩
        rw [List.length_cons]
        rw [List.length_nil] at n
        omega
    · rw [if_neg e] at h
      obtain ⟨m, n⟩ := splA_mem c l (acc ++ [a]) p h
      refine ⟨fun x hx => (m x hx).elim (fun z => (List.mem_append.mp z).elim .inl fun z => .inr (by rw [List.mem_singleton.mp z]; exact List.mem_cons_self ..)) fun z => .inr (List.mem_cons_of_mem _ z), ?_⟩
      rw [List.length_append, List.length_singleton] at n
      rw [List.length_cons]
      omega
theorem splA_len (c : Nat) : ∀ (l acc : Tx), (splA c acc l).length ≤ l.length + 1 ∧ splA c acc l ≠ []
  | [], acc => ⟨Nat.le_refl _, by simp [splA]⟩
  | a :: l, acc => by
    unfold splA
    by_cases e : a = c
    · rw [if_pos e]
      have := (splA_len c l []).1
      rw [List.length_cons, List.length_cons]
      exact ⟨by omega, by simp⟩
    · rw [if_neg e]
      have := splA_len c l (acc ++ [a])
      rw [List.length_cons]
      exact ⟨by omega, this.2⟩
end SP
namespace K18
open PySem L2
section
variable {P : Program} {w : World} {K : PySem.W.Frag} {mg : Str → Option Value} {base : Heap}
/-! ### TooMany -/
abbrev sInitM : Stmt := inClass (top 47) 0
structure IM (K : PySem.W.Frag) (mg : Str → Option Value) (C fI : Addr) (fd : FuncData) : Prop where
  o : AEx.AeC K C
  iC : PySem.W.findIn K (.ref C) "__init__" = some (some (.ref fI))
  tI : PySem.W.typeIn K (.ref fI) = some (.type "function")
  t1 : PySem.W.takerIn K C "kind" = some none
  t2 : PySem.W.takerIn K C "limit" = some none
  t3 : PySem.W.takerIn K C "_told" = some none
  m : mg "TooMany" = some (.ref C)
  F : Fun K "__init__" "TooMany.__init__" sInitM fI fd
  b : Binds K fd ["self", "kind", "limit"] []
def spInitM (C : Addr) : Sp := fun vs H Q _ => ∃ (a : Addr) (u v : V), vs = [.ref a, u, v] ∧ H a = some (exo a C none) ∧
  ∀ (H' : Hp) (d t : Addr), H d = none → d ≠ a → H' a = some (exo a C (some d)) → H' d = some (exd d [("_told", .ref t), ("limit", v), ("kind", u)]) → H' t = some (.tup [u, v]) → (∀ b o, b ≠ a → H b = some o → H' b = some o) → Q .non H'
theorem scInM : FnScope ["self", "kind", "limit"] ["self", "kind", "limit"] (defScope sInitM) := ⟨rfl, rfl, rfl, by decide +kernel, rfl, by decide +kernel, by decide +kernel⟩
theorem ok_initM {C f : Addr} {fd : FuncData} (T : IM K mg C f fd) : FnOk P w K mg base CX0 1 f fd ["self", "kind", "limit"] (spInitM C) := by
  refine T.F.ok scInM (fun vs H Q E h => ?_) (fun cdv A outer_ s H vs Q E hr h => ?_)
  · obtain ⟨a, u, v, rfl, _⟩ := h
    rfl
  · obtain ⟨a, u, v, rfl, he, k⟩ := h
    refine ⟨_, pss_cons (AEx.ps_put (pv 0) (pv 1)) (pss_cons (AEx.ps_put (pv 0) (pv 2)) (pss_one (AEx.ps_put (pv 0) (pe_tup (pa_cons (pv 1) (pa_cons (pv 2) pa_nil)))))), ?_⟩
    refine ⟨_, rfl, _, rfl, a, C, rfl, T.o, T.t1, .inl ⟨he, fun d hd hne => ?_⟩⟩
    have ea : (upd (upd H d (exd d [("kind", u)])) a (exo a C (some d))) a = some (exo a C (some d)) := upd_same
    have ed : (upd (upd H d (exd d [("kind", u)])) a (exo a C (some d))) d = some (exd d [("kind", u)]) := by rw [upd_ne hne, upd_same]
    have kp : ∀ b o, b ≠ a → H b = some o → (upd (upd H d (exd d [("kind", u)])) a (exo a C (some d))) b = some o := fun b o nb e => by rw [upd_ne nb, upd_ne (ne_of_none e hd)]; exact e
    revert ea ed kp
    generalize upd (upd H d (exd d [("kind", u)])) a (exo a C (some d)) = H1
    intro ea ed kp
    refine ⟨_, rfl, _, rfl, a, C, rfl, T.o, T.t2, .inr ⟨d, [("kind", u)], (show 1 ≤ 900 by decide), ea, ed, ?_⟩⟩
    refine ⟨_, rfl, _, rfl, (by show 2 ≤ sizeLine; decide), fun t ht => ?_⟩
    have na : t ≠ a := fun e => by rw [e, upd_ne (Ne.symm hne), ea] at ht; cases ht
    have nt : t ≠ d := fun e => by rw [e, upd_same] at ht; cases ht
    refine ⟨_, rfl, a, C, rfl, T.o, T.t3, .inr ⟨d, [("limit", v), ("kind", u)], (show 2 ≤ 900 by decide), ?_, ?_, ?_⟩⟩
    · rw [upd_ne (Ne.symm na), upd_ne (Ne.symm hne)]
      exact ea
    · rw [upd_ne (Ne.symm nt), upd_same]
    · refine k _ d t hd hne ?_ upd_same (by rw [upd_ne nt, upd_same]) fun b o nb e => ?_
      · rw [upd_ne (Ne.symm hne), upd_ne (Ne.symm na), upd_ne (Ne.symm hne)]
        exact ea
      · have n1 : b ≠ d := ne_of_none e hd
        have n2 : b ≠ t := fun z => by
          rw [upd_ne nt] at ht
          rw [z] at e
          rw [kp _ _ (z ▸ nb) e] at ht
          cases ht
        rw [upd_ne n1, upd_ne n2, upd_ne n1]
        exact kp b o nb e
/-- the error leaves, with these two in its fields -/
def BadM (C : Addr) (H : Hp) (u v : V) (E : XK) : Prop := ∀ (H' : Hp) (d : Addr) (fs : List (Str × V)), Same H H' → H d = none → H' d = some (.xd fs) → List.lookup ("kind" : Str) fs = some u → List.lookup ("limit" : Str) fs = some v → (∃ t, List.lookup ("_told" : Str) fs = some (V.ref t) ∧ H' t = some (.tup [u, v])) → E (.ref C) (some d) H'
theorem badM_of {C : Addr} {H H0 : Hp} {u v : V} {E : XK} (s : Same H H0) (b : BadM C H u v E) : BadM C H0 u v E := fun H' d fs s' hd e1 e2 e3 e4 => b H' d fs (s.trans s') (s.free hd) e1 e2 e3 e4
theorem mkM {C : Addr} {E : XK} (H0 : Hp) (u v : V) (hb : BadM C H0 u v E) : 2 ≤ 1000 ∧ ∀ a, H0 a = none → spInitM C (.ref a :: ([u, v] ++ [])) (upd H0 a (exo a C none))
    (fun r H2 => r = .non ∧ ∃ (d : Addr) (fs : List (Str × V)), H2 a = some (exo a C (some d)) ∧ H2 d = some (exd d fs) ∧ H0 d = none ∧ E (.ref C) (some d) (upd (del H2 a) d (.xd fs))) (fun _ _ _ => False) := by
  refine ⟨by decide, fun a ha => ⟨a, u, v, rfl, upd_same, fun H2 d t hd hne he1 he2 ht hs => ⟨rfl, d, _, he1, he2, ?_, ?_⟩⟩⟩
  · rw [upd_ne hne] at hd
    exact hd
  · refine hb _ d [("_told", .ref t), ("limit", v), ("kind", u)] (fun b o e => ?_) (by rw [upd_ne hne] at hd; exact hd) upd_same (by rfl) (by rfl) ⟨t, by rfl, by rw [upd_ne (fun z => by rw [z, he2] at ht; cases ht), del_ne (fun z => by rw [z, he1] at ht; cases ht)]; exact ht⟩
    have nb : b ≠ a := ne_of_none e ha
    have nd : b ≠ d := fun z => by
      rw [z] at e
      rw [upd_ne hne, e] at hd
      cases hd
    rw [upd_ne nd, del_ne nb]
    exact hs b o nb (by rw [upd_ne nb]; exact e)
end
end K18
namespace K18
open PySem L2 SR
/-! ### Label -/
abbrev sInit : Stmt := inClass (top 58) 1
theorem scInit : FnScope ["self", "marks", "mark", "different"] ((["self"] : List Str) ++ [("marks" : Str)]) (defScope sInit) := ⟨rfl, rfl, rfl, by decide +kernel, rfl, by decide +kernel, by decide +kernel⟩
def plus : Str := "+"
def ltext (ys : List Str) : Str := if (Txt.join plus ys).length = 0 then "-" else Txt.join plus ys
def isNm (x : Str) : Bool := nmC x.cps.toList
theorem putF2 (u v : V) : putF "_text" v (putF "_marks" u []) = ([(("_marks" : Str), u), (("_text" : Str), v)] : List (Str × V)) := if_neg (by decide +kernel)
theorem join_is (sep : Str) (ts : List Str) : Txt.join sep ts = Str.join sep ts := StrLaws.glued_eq_join _ _
theorem isNm_len {x : Str} (h : isNm x = true) : x.cps.toList.length ≤ 8 := of_decide_eq_true (Bool.and_eq_true_iff.mp h).1
theorem isNm_str {x : Str} (h : isNm x = true) : x.length ≤ 8 := by
  rw [txt_of x, txt_len]
  exact isNm_len h
theorem lens_of {ys : List Str} (h : ∀ y ∈ ys, isNm y = true) : (ys.map (·.length)).sum ≤ 8 * ys.length := by
  induction ys with
  | nil => exact Nat.le_refl _
  | cons y r ih =>
    have a := isNm_str (h y List.mem_cons_self)
    have b := ih fun z hz => h z (List.mem_cons_of_mem _ hz)
    rw [List.map_cons, List.sum_cons, List.length_cons]
    omega
theorem plus_len : plus.length = 1 := by decide +kernel
theorem jlen {ys : List Str} (h : ∀ y ∈ ys, isNm y = true) : (Txt.join plus ys).length ≤ 9 * ys.length := by
  rw [join_is]
  have a := StrLaws.join_length_le plus ys
  rw [plus_len] at a
  have b := lens_of h
  omega
abbrev bad (v : V) : Bool := !nameV v
theorem find_first {xs : List V} {i : Nat} {v : V} (h : xs[i]? = some v) (good : (xs.take i).all nameV = true) (b : nameV v = false) : xs.find? bad = some v := by
  have hi : i < xs.length := (List.getElem?_eq_some_iff.mp h).1
  have hv : xs[i] = v := (List.getElem?_eq_some_iff.mp h).2
  have e : xs = xs.take i ++ v :: xs.drop (i + 1) := by
    rw [← hv, ← List.drop_eq_getElem_cons hi, List.take_append_drop]
  rw [e, List.find?_append, List.find?_eq_none.mpr fun u hu => by simp [bad, List.all_eq_true.mp good u hu]]
  simp [bad, b]
theorem all_names : ∀ {xs : List V}, xs.all nameV = true → ∃ ts : List Str, xs = ts.map V.str ∧ ts.all isNm = true
  | [], _ => ⟨[], rfl, rfl⟩
  | v :: r, h => by
    rw [List.all_cons, Bool.and_eq_true] at h
    obtain ⟨ts, e, q⟩ := all_names h.2
    cases v with
    | str x => exact ⟨x :: ts, by rw [e]; rfl, by rw [List.all_cons, q, Bool.and_true]; exact h.1⟩
    | _ => cases h.1
/-- the class Label at C; InvalidName at CN, TooMany at CM -/
structure LabC (K : PySem.W.Frag) (mg : Str → Option Value) (C f CN fN CM fM : Addr) (fd dN dM : FuncData) : Prop where
  mkr : Mk K C f
  cl : Cls K C
  m : mg "Label" = some (.ref C)
  rd : ∃ mc tk, ClX.CRead K C mc ∧ ClX.CVal K C mc "MOST" (.int 4) (.int 4 tk)
  n1 : NoAttr K C "_marks"
  n2 : NoAttr K C "_text"
  F : Fun K "__init__" "Label.__init__" sInit f fd
  N : IK K mg CN fN dN
  M : IM K mg CM fM dM
section
variable {P : Program} {w : World} {K : PySem.W.Frag} {mg : Str → Option Value} {base : Heap}
def spInit (K : PySem.W.Frag) (C CN CM : Addr) : Sp := fun vs H Q E => ∃ (x dx p : Addr) (xs : List V), vs = [.ref x, .ref p] ∧ H x = some (.ins C dx []) ∧ H p = some (.tup xs) ∧ xs.length < 60 ∧ (∀ v ∈ xs, Cl K H v) ∧
  (∀ v, xs.find? bad = some v → Bad "value" CN H v E) ∧ ∀ ts ys, xs = ts.map V.str → ts.all isNm = true → Srt ts ys → (4 < ys.length → BadM CM H (.str "marks") (.int 4) E) ∧
  (ys.length ≤ 4 → ∀ H' t, (∀ b o, b ≠ x → H b = some o → H' b = some o) → H' x = some (.ins C dx [("_marks", .ref t), ("_text", .str (ltext ys))]) → H' t = some (.tup (ys.map V.str)) → Q .non H')
theorem Cl.same {H H' : Hp} {v : V} (h : Cl K H v) (s : ∀ a t, v = .ref a → TyX K H (.ref a) t → TyX K H' (.ref a) t) : Cl K H' v := by
  cases h with
  | non => exact .non
  | bl b => exact .bl b
  | int i => exact .int i
  | str l q => exact .str l q
  | oth t a b c => exact .oth (s _ _ rfl t) a b c
theorem tyx_same {H H' : Hp} {v : V} {t : Value} (h : TyX K H v t) (s : Same H H') : TyX K H' v t := by
  cases h with
  | base h =>
    cases h with
    | lst e => exact .base (.lst (s _ _ e))
    | tup e => exact .base (.tup (s _ _ e))
    | dK e => exact .base (.dK (s _ _ e))
    | dT e => exact .base (.dT (s _ _ e))
    | frz e => exact .base (.frz (s _ _ e))
    | ins e c a n tk m => exact .base (.ins (s _ _ e) c a n tk m)
    | non => exact .base .non
    | bl b => exact .base (.bl b)
    | int i => exact .base (.int i)
    | str x => exact .base (.str x)
    | flt x => exact .base (.flt x)
  | byt b => exact .byt b
  | set e => exact .set (s _ _ e)
  | kList e c => exact .kList e c
  | kTuple e c => exact .kTuple e c
  | kDict e c => exact .kDict e c
  | fTuple e => exact .fTuple (s _ _ e)
  | fDict e => exact .fDict (s _ _ e)
theorem ok_init {C f CN fN CM fM fI : Addr} {fd dN dM dI : FuncData} {tk t2 : Tok} (L : LabC K mg C f CN fN CM fM fd dN dM) (Z : Zn mg) (zT : mg "tuple" = none) (zS : mg "set" = none) (zO : mg "sorted" = none) (mM : mg "MOST_LETTERS" = some (.int 8 tk)) (mL : mg "LETTERS" = some (.str "abcdefghijklmnopqrstuvwxyz" t2))
    (AN : At K mg "is_name" sIsName ["value"] fI dI) : FnR P w K mg base (L2.CX P w) 3 f (fun vs H Q E => ∃ ws rest, vs = ws ++ rest ∧ ws.length = ([("self" : Str)]).length ∧ rest.length ≤ sizeLine ∧ ∀ p, H p = Option.none → spInit K C CN CM (ws ++ [V.ref p]) (upd H p (.tup rest)) Q E) := by
  have GN : FnOk P w K mg base CX0 1 fI dI ["value"] (spName K) := ok_name AN.F Z mM mL
  have GK : FnOk P w K mg base CX0 1 fN dN ["self", "value"] (spInitK CN) := ok_initK L.N
  have GM : FnOk P w K mg base CX0 1 fM dM ["self", "kind", "limit"] (spInitM CM) := ok_initM L.M
  obtain ⟨oc, od, kV, doc, pm, an, cdv, ct, osl, rfl, lk, hcd⟩ := L.F.ex
  obtain ⟨mc, tc, rd, cv⟩ := L.rd
  refine StX.fn_star lk hcd scInit StX.cxUp (StX.bind_star1 (B := fun us => bindArgs (PySem.W.fnOf "__init__" "Label.__init__" (defArgs sInit) (defBody sInit) (defScope sInit) .none kV doc pm an cdv ct) ⟨us, []⟩) (fun _ => rfl) (fun _ _ _ => rfl)) fun A outer_ s H vs Q E hr h => ?_
  obtain ⟨x, dx, p, xs, rfl, hx, hp, few, cls, kb, kt⟩ := h
  refine ⟨_, pss_cons (ps_for (passes_of rfl) rfl (pi_tup (pv 1)) (pg_name (i := 2) scInit.nd rfl (Or.inl rfl)) (pss_one (ps_if (pt_not (pt_val (pe_call GN (hr.mono (by decide)) (by rfl) AN.m AN.F.kp AN.b .nil pass0 (pa_cons (pv 2) pa_nil))))
      (pss_one (ps_raise rfl (takes_of rfl rfl rfl rfl) (pmk_oex L.N.o L.N.iC L.N.tI GK hr L.N.b .nil pass0 (by rfl) L.N.m (by exact (pa_cons (pv 2) pa_nil))))) pss_nil)))
    (pss_cons (ps_set (i := 3) scInit.nd rfl (Or.inl rfl) (pe_callB (LB.cr_sortBag rfl) (by rfl) zO (by decide +kernel) (pa_cons (pe_callTy (LB.cr_bag rfl) (by rfl) zS (by decide +kernel) (pa_cons (pv 1) pa_nil)) pa_nil)))
    (pss_cons (ps_if (pt_cmpR op_gt (pe_callB call_len_seq (by rfl) Z.zLen PySem.boot_len (pa_cons (pv 3) pa_nil)) (ClX.pe_cval (pe_glob (v := .ref C) rfl L.m rfl)) (nomark _))
      (pss_one (ps_raise rfl (takes_of rfl rfl rfl rfl) (AEx.pmk_ae L.M.o L.M.iC L.M.tI GM hr L.M.b pass0 (by rfl) L.M.m (by exact (pa_cons pe_str (pa_cons (ClX.pe_cval (pe_glob (v := .ref C) rfl L.m rfl)) pa_nil)))))) pss_nil)
    (pss_cons (ps_fld (pv 0) (pe_callTy call_tuple_of (by rfl) zT (by decide +kernel) (pa_cons (pv 3) pa_nil)) rfl)
    (pss_one (ps_fld (pv 0) (pe_orT (pe_join pe_str (pv 3)) (pe_one pe_str)) rfl))))), ?_⟩
  have hsl : sizeLine = 16777216 := sizeLine_eq
  refine ⟨_, rfl, p, rfl, ⟨_, SqT.of hp⟩, ?_⟩
  refine for_tup (xs := xs) (fun i σ H' => Same H H' ∧ (xs.take i).all nameV = true ∧ ∃ m, σ = [some (.ref x), some (.ref p), m, none]) ⟨Same.refl H, rfl, none, rfl⟩ (fun i σ H' _ q => SqT.of (q.1 _ _ hp)) ?_ ?_
  · rintro i v σ H' hi ⟨sm, good, m, rfl⟩
    have cl : Cl K H' v := Cl.same (cls v (List.mem_of_getElem? hi)) fun a t _ ty => tyx_same ty sm
    refine ⟨_, rfl, v, rfl, cl, fun H2 s2 => ⟨_, rfl, ?_⟩⟩
    have sm2 : Same H H2 := fun b o q => s2 _ _ (sm _ _ q)
    by_cases nm : nameV v = true
    · rw [nm]
      exact ⟨sm2, by rw [take_snoc hi, List.all_append, good, List.all_cons, nm]; rfl, some v, rfl⟩
    · have nm' : nameV v = false := by simpa using nm
      rw [nm']
      exact ⟨_, rfl, mkK H2 v (bad_of sm2 (kb v (find_first hi good nm')))⟩
  · rintro σ H1 ⟨sm, good, m, rfl⟩
    rw [List.take_of_length_le (Nat.le_refl _)] at good
    obtain ⟨ts, rfl, nms⟩ := all_names good
    have nmAt : ∀ y ∈ ts, isNm y = true := fun y hy => List.all_eq_true.mp nms y hy
    rw [List.length_map] at few
    refine ⟨_, rfl, p, ts, rfl, .inl (SqT.of (sm _ _ hp)), by omega, fun b ks hb mem nd le => ?_⟩
    refine ⟨b, ks, rfl, upd_same, by omega, fun ys d pm srt hd => ?_⟩
    have srtd : Srt ts ys := ⟨pm.nodup_iff.mpr nd, srt, fun y => pm.mem_iff.trans (mem y)⟩
    obtain ⟨k5, k4⟩ := kt ts ys rfl nms srtd
    obtain ⟨H2, eH⟩ : ∃ H2, H2 = upd (upd H1 b (LB.BagO w b ks)) d (.lst (ys.map V.str)) := ⟨_, rfl⟩
    have sm2 : Same H H2 := fun c o q => by
      rw [eH, upd_ne (ne_of_none (by rw [upd_ne (ne_of_none (sm _ _ q) hb)]; exact sm _ _ q) hd), upd_ne (ne_of_none (sm _ _ q) hb)]
      exact sm _ _ q
    have hL : H2 d = some (.lst (ys.map V.str)) := by rw [eH, upd_same]
    suffices z : ∀ F : Hp → Prop, F H2 → F (upd (upd H1 b (LB.BagO w b ks)) d (.lst (ys.map V.str))) by
      refine z _ ?_
      clear z
      clear eH
      dsimp only
      refine ⟨_, rfl, d, _, rfl, .inl (SqL.of hL), C, mc, _, _, rfl, rd, cv, _, _, rfl, rfl, _, rfl, ?_⟩
      rw [List.length_map]
      show if decide ((4 : Int) < (ys.length : Int)) = true then _ else _
      refine ite2 (fun h5 => ?_) (fun h5 => ?_)
      · have l5 : 4 < ys.length := by have := of_decide_eq_true h5; omega
        refine ⟨C, mc, _, _, rfl, rd, cv, ?_⟩
        exact mkM H2 _ _ (badM_of sm2 (k5 l5))
      have l4 : ys.length ≤ 4 := by
        have : ¬ ((4 : Int) < (ys.length : Int)) := fun z => h5 (decide_eq_true z)
        omega
      refine ⟨_, rfl, d, _, rfl, .inl ⟨SqL.of hL, fun t ht => ?_⟩⟩
      have hx2 := sm2 _ _ hx
      have nx : x ≠ t := ne_of_none hx2 ht
      have nd2 : d ≠ t := ne_of_none hL ht
      have xd : d ≠ x := ne_of hL hx2 (by intro z; cases z)
      refine ⟨_, rfl, x, C, dx, [], rfl, by rw [upd_ne nx]; exact hx2, L.cl, L.n1, by decide, ?_⟩
      have hL3 : (upd (upd H2 t (.tup (ys.map V.str))) x (.ins C dx (putF "_marks" (.ref t) []))) d = some (.lst (ys.map V.str)) := by
        rw [upd_ne xd, upd_ne nd2]
        exact hL
      have nmY : ∀ y ∈ ys, isNm y = true := fun y hy => nmAt y ((srtd.2.2 y).mp hy)
      have lens : (ys.map (·.length)).sum + ys.length * plus.length ≤ 16777216 := by
        have a := lens_of nmY
        rw [plus_len]
        omega
      have jl : (Txt.join plus ys).length ≤ 16777216 := by
        have := jlen nmY
        omega
      refine ⟨⟨_, rfl⟩, _, rfl, plus, d, ys, rfl, rfl, .inl (SqL.of hL3), lens, ?_⟩
      refine ⟨_, ⟨by rw [hsl]; exact jl, rfl⟩, ?_⟩
      have fin : ∀ z : Str, z = ltext ys → Q .non (upd (upd (upd H2 t (.tup (ys.map V.str))) x (.ins C dx (putF "_marks" (.ref t) []))) x (.ins C dx (putF "_text" (.str z) (putF "_marks" (.ref t) [])))) := fun z hz => by
        subst hz
        refine k4 l4 _ t (fun c o nc q => ?_) ?_ ?_
        · rw [upd_ne nc, upd_ne nc, upd_ne (ne_of_none (sm2 _ _ q) ht)]
          exact sm2 _ _ q
        · rw [upd_same, putF2]
        · rw [upd_ne (Ne.symm nx), upd_ne (Ne.symm nx), upd_same]
      refine ite2 (fun h => ?_) (fun h => ?_)
      · refine ⟨_, rfl, x, C, dx, _, rfl, upd_same, L.cl, L.n2, (by show 1 < 1000; decide), fin _ (if_neg fun z => ?_).symm⟩
        rw [z] at h
        cases h
      · refine ⟨_, rfl, x, C, dx, _, rfl, upd_same, L.cl, L.n2, (by show 1 < 1000; decide), fin _ (if_pos ?_).symm⟩
        have h2 : ((Txt.join plus ys).length : Int) = 0 := by simpa using h
        omega
    intro F h; rw [← eH]; exact h
end
end K18
namespace K18
open PySem L2 SR
/-! ### what a label is, and its methods -/
theorem low_lt {c : Nat} (h : low c = true) : c < 128 := by
  unfold low at h
  have := of_decide_eq_true (Bool.and_eq_true_iff.mp h).2
  omega
theorem nm_asc {l : Tx} (h : nmC l = true) : asc l := fun c hc => by
  unfold nmC at h
  have h2 := (Bool.and_eq_true_iff.mp (Bool.and_eq_true_iff.mp h).2).2
  exact low_lt (List.all_eq_true.mp h2 c hc)
theorem nms_is (ts : List Tx) : (ts.map txt).all isNm = ts.all nmC := by
  rw [List.all_map]
  rfl
theorem tx_of (xs : List Str) : ∃ ts : List Tx, xs = ts.map txt := ⟨xs.map fun x => x.cps.toList, by
  rw [List.map_map]
  have : (txt ∘ fun x : Str => x.cps.toList) = id := by funext x; exact (txt_of x).symm
  rw [this, List.map_id]⟩
abbrev sGetM : Stmt := inClass (top 58) 3
abbrev sHas : Stmt := inClass (top 58) 8
abbrev sEq : Stmt := inClass (top 58) 9
abbrev sLen : Stmt := inClass (top 58) 10
abbrev sStr : Stmt := inClass (top 58) 11
abbrev sRepr : Stmt := inClass (top 58) 12
def Lb (C : Addr) (H : Hp) (a : Addr) (ys : List Str) : Prop := ys.all isNm = true ∧ ys.length ≤ 4 ∧ Srt ys ys ∧ ∃ dx t, H a = some (.ins C dx [(("_marks" : Str), .ref t), (("_text" : Str), .str (ltext ys))]) ∧ H t = some (.tup (ys.map V.str))
theorem Lb.keep {C : Addr} {H H' : Hp} {a : Addr} {ys : List Str} (h : Lb C H a ys) (s : ∀ b o, H b = some o → (∃ xs, o = .tup xs) ∨ (∃ D dx fs, o = .ins D dx fs) → H' b = some o) : Lb C H' a ys := by
  obtain ⟨n, l, z, dx, t, h1, h2⟩ := h
  exact ⟨n, l, z, dx, t, s _ _ h1 (.inr ⟨_, _, _, rfl⟩), s _ _ h2 (.inl ⟨_, rfl⟩)⟩
theorem Lb.same {C : Addr} {H H' : Hp} {a : Addr} {ys : List Str} (h : Lb C H a ys) (s : Same H H') : Lb C H' a ys := h.keep fun b o e _ => s b o e
theorem Lb.ins {C : Addr} {H : Hp} {a : Addr} {ys : List Str} (h : Lb C H a ys) : ∃ dx fs, H a = some (.ins C dx fs) := by
  obtain ⟨_, _, _, dx, t, h1, _⟩ := h
  exact ⟨_, _, h1⟩
section
variable {X : Cx} {CX : CXT} {k : Nat} {f C : Addr} {sp : Sp} {E : XK} {x : Str} {e : Expr} {te : TE} {p p2 pos : Pos}
theorem pe_make0 (M : Mk X.K C f) (F : FnR X.prog X.w X.K X.mg X.base CX k f sp) (hr : Room (k + 1) X.A) (hg : Gl X x) (hm : X.mg x = some (.ref C)) (hx : Passes CX X E) (hd : (x == ("__debug__" : Str)) = false := by decide) :
    PE X (.Call (.Name x p) [] [] pos) (StX.tMakeR C sp E tNil) := ⟨by
  intro pins s σ H Q I h
  apply wpAny_Call_Name_kw (ld_glob I hg hm ?_ hd)
  exact PySem.W.callWith_K0 I.kIn M.kp (StX.run_makeR (us := []) (vs := []) M F hr hx I .nil h)⟩
/-- C(*y) -/
def tMakeS (K : PySem.W.Frag) (C : Addr) (sp : Sp) (E : XK) (te : TE) : TE := fun σ H Q => te σ H fun y H1 => ∃ p xs, y = V.ref p ∧ (SqT K H1 p xs ∨ SqL K H1 p xs) ∧ ∀ z dz, H1 z = Option.none → H1 dz = Option.none → dz ≠ z →
  sp (V.ref z :: xs) (upd (upd H1 dz (.own z)) z (.ins C dz [])) (fun v H2 => v = .non ∧ Q (.ref z) H2) E
theorem pe_makeS (M : Mk X.K C f) (F : FnR X.prog X.w X.K X.mg X.base CX k f sp) (hr : Room (k + 1) X.A) (hg : Gl X x) (hm : X.mg x = some (.ref C)) (hx : Passes CX X E) (he : PE X e te) (hd : (x == ("__debug__" : Str)) = false := by decide)
    (one : starEach [.Starred e p2] X.env = [(true, eval e X.env)] := by rfl) : PE X (.Call (.Name x p) [.Starred e p2] [] pos) (tMakeS X.K C sp E te) := ⟨by
  intro pins s σ H Q I h
  apply wpAny_Call_Name_kw (ld_glob I hg hm ?_ hd)
  refine PySem.W.callWith_S (h₀ := X.base) I.ok.mod.kin M.kp (thn (he.run pins s σ H _ I h) ?_) one
  rintro v s1 ⟨_, H1, I1, ry, a, xs, rfl, hxs, q⟩
  cases ry
  exact StX.star_any I1 hxs fun us s2 I2 rv => ⟨I2.kIn, StX.run_makeR M F hr hx I2 rv q⟩⟩
theorem call_reprS : CallR X (.builtin "repr") (fun xs H Q => ∃ y : Str, xs = [.str y] ∧ (reprText y).length ≤ sizeLine ∧ Q (.str (reprText y)) H) := by
  rintro pins s σ H xs us Q I r ⟨y, rfl, hz, q⟩
  obtain ⟨u, rfl, t, rfl⟩ := vals1 r
  exact PySem.P.repr_of_str ⟨.str _, H, I.tok _, ⟨_, rfl⟩, q⟩ hz
end
/-- the methods of Label, at the class at C -/
structure LabM (K : PySem.W.Frag) (mg : Str → Option Value) (C gE gL gS gR gH pM gM : Addr) (dE dL dS dR dH dM : FuncData) : Prop where
  cl : Cls K C
  n1 : NoAttr K C "_marks"
  n2 : NoAttr K C "_text"
  m : mg "Label" = some (.ref C)
  E : Fun K "__eq__" "Label.__eq__" sEq gE dE
  O : EqO.OwnE K C gE
  L : Fun K "__len__" "Label.__len__" sLen gL dL
  fL : PySem.W.findIn K (.ref C) "__len__" = some (some (.ref gL))
  iL : PySem.W.isFn K (.ref gL) = true
  S : Fun K "__str__" "Label.__str__" sStr gS dS
  fS : PySem.W.findIn K (.ref C) "__str__" = some (some (.ref gS))
  iS : PySem.W.isFn K (.ref gS) = true
  R : Fun K "__repr__" "Label.__repr__" sRepr gR dR
  fR : PySem.W.findIn K (.ref C) "__repr__" = some (some (.ref gR))
  iR : PySem.W.isFn K (.ref gR) = true
  H : Fun K "__contains__" "Label.__contains__" sHas gH dH
  fH : PySem.W.findIn K (.ref C) "__contains__" = some (some (.ref gH))
  iH : PySem.W.isFn K (.ref gH) = true
  M : Fun K "marks" "Label.marks" sGetM gM dM
  pr : PropOf K C "marks" pM gM
  bE : Binds K dE ["self", "other"] []
  bL : Binds K dL ["self"] []
  bS : Binds K dS ["self"] []
  bR : Binds K dR ["self"] []
  bH : Binds K dH ["self", "mark"] []
  bM : Binds K dM ["self"] []
  kt : ∀ T ∈ ["NoneType", "bool", "int", "str", "list", "tuple", "dict"], PySem.W.kitOne K (.type T) (.ref C) = some false
  kc : PySem.W.kitOne K (.ref C) (.ref C) = some true
  ca : PySem.W.findIn K (.ref C) "__class__" = some (some (.builtin "object.__class__"))
  cn : PySem.W.specialIn K (.builtin "object.__class__") "__get__" = some (some (.builtin "getset_descriptor.__get__"))
  ct : PySem.W.takesIn K (.builtin "object.__class__") = some true
  cm : PySem.W.mroIn K C (.type "object") = some true
theorem bt_ty {K : PySem.W.Frag} {H : Hp} {v : V} {T : String} (h : EqO.BtV K H v T) : TyX K H v (.type T) := by
  cases h with
  | non => exact .base .non
  | bl b => exact .base (.bl b)
  | int i => exact .base (.int i)
  | str x => exact .base (.str x)
  | lst e => exact .base (.lst e)
  | tup e => exact .base (.tup e)
  | dic e => exact .base (.dK e)
  | dcT e => exact .base (.dT e)
  | kTup e c => exact .kTuple e c
theorem canT : ∀ ds : List Str, (∀ x ∈ ds, PyData.strOk x = true) → PyData.canLayAll0 (ds.map PyData.str) = true ∧ PyData.depthAll (ds.map PyData.str) = 0
  | [], _ => ⟨rfl, rfl⟩
  | x :: r, h => by
    obtain ⟨h1, h2⟩ := canT r fun u hu => h u (List.mem_cons_of_mem _ hu)
    refine ⟨?_, ?_⟩
    · show (PyData.canLay0 (.str x) && PyData.canLayAll0 (r.map PyData.str)) = true
      rw [h1]
      simp [PyData.canLay0, h x List.mem_cons_self]
    · show max (PyData.depth (.str x)) (PyData.depthAll (r.map PyData.str)) = 0
      rw [h2]
      simp [PyData.depth]
theorem shT (ds : List Str) (h : ∀ x ∈ ds, PyData.strOk x = true) : SeqAt.shaped (.tuple (ds.map PyData.str)) = true := by
  obtain ⟨h1, h2⟩ := canT ds h
  unfold SeqAt.shaped
  have e1 : PyData.canLay0 (.tuple (ds.map PyData.str)) = true := by rw [PyData.canLay0]; exact h1
  have e2 : PyData.depth (.tuple (ds.map PyData.str)) = 1 := by rw [PyData.depth, h2]
  rw [e1, e2]
  rfl
theorem eqvTS : ∀ ds es : List Str, PyData.eqvAll (ds.map PyData.str) (es.map PyData.str) = decide (ds = es)
  | [], [] => by simp [PyData.eqvAll]
  | [], m :: ms => by simp [PyData.eqvAll]
  | n :: ns, [] => by simp [PyData.eqvAll]
  | n :: ns, m :: ms => by
    have ih := eqvTS ns ms
    show PyData.eqvAll (PyData.str n :: ns.map PyData.str) (PyData.str m :: ms.map PyData.str) = _
    rw [PyData.eqvAll, ih, PyData.eqv]
    by_cases h : n = m
    · subst h; simp
    · simp [h]
theorem eqvT (ds es : List Str) : PyData.eqv (.tuple (ds.map PyData.str)) (.tuple (es.map PyData.str)) = decide (ds = es) := by rw [PyData.eqv]; exact eqvTS ds es
theorem dpT {K : PySem.W.Frag} {H : Hp} : ∀ ds : List Str, DpAll K H (ds.map V.str) (ds.map PyData.str)
  | [] => .nil
  | x :: r => .cons (.str x) (dpT r)
theorem nm_ok {x : Str} (h : isNm x = true) : PyData.strOk x = true := by
  rw [txt_of x]
  exact strOk_asc (nm_asc h)
section
variable {P : Program} {w : World} {K : PySem.W.Frag} {mg : Str → Option Value} {base : Heap}
variable {C gE gL gS gR gH pM gM : Addr} {dE dL dS dR dH dM : FuncData}
/-! .marks -/
theorem ok_get (L : LabM K mg C gE gL gS gR gH pM gM dE dL dS dR dH dM) : FnOk P w K mg base CX0 1 gM dM ["self"] (getSp C "_marks") := by
  obtain ⟨oc, od, kV, doc, pm, an, cdv, ct, osl, rfl, lk, hcd⟩ := L.M.ex
  exact fn_getter (N := ["self"]) lk hcd ⟨rfl, rfl, rfl, by decide +kernel, rfl, by decide +kernel, by decide +kernel⟩ rfl rfl L.cl L.n1
/-! len -/
def spLen (C : Addr) : Sp := fun vs H Q _ => ∃ (a : Addr) (ys : List Str), vs = [.ref a] ∧ Lb C H a ys ∧ Q (.int (ys.length : Int)) H
theorem sc1 {st : Stmt} (h : FnScope ["self"] ["self"] (defScope st)) : FnScope ["self"] ["self"] (defScope st) := h
theorem ok_len (L : LabM K mg C gE gL gS gR gH pM gM dE dL dS dR dH dM) (Z : Zn mg) : FnOk P w K mg base CX0 1 gL dL ["self"] (spLen C) := by
  refine L.L.ok (N := ["self"]) ⟨rfl, rfl, rfl, by decide +kernel, rfl, by decide +kernel, by decide +kernel⟩ (fun vs H Q E h => ?_) (fun cdv A outer_ s H vs Q E hr h => ?_)
  · obtain ⟨a, ys, rfl, _⟩ := h
    rfl
  · obtain ⟨a, ys, rfl, ⟨nms, l4, sy, dx, t, ha, ht⟩, k⟩ := h
    refine ⟨_, pss_one (ps_ret (pe_callB call_len_seq (by rfl) Z.zLen PySem.boot_len (pa_cons (pe_fld (pv 0) rfl) pa_nil))), ?_⟩
    refine ⟨_, rfl, a, C, dx, _, .ref t, rfl, ha, L.cl, L.n1, rfl, t, _, rfl, .inr (SqT.of ht), ?_⟩
    rw [List.length_map]
    exact k
/-! str -/
def spStr (C : Addr) : Sp := fun vs H Q _ => ∃ (a : Addr) (ys : List Str), vs = [.ref a] ∧ Lb C H a ys ∧ Q (.str (ltext ys)) H
theorem ok_str (L : LabM K mg C gE gL gS gR gH pM gM dE dL dS dR dH dM) (Z : Zn mg) : FnOk P w K mg base CX0 1 gS dS ["self"] (spStr C) := by
  refine L.S.ok (N := ["self"]) ⟨rfl, rfl, rfl, by decide +kernel, rfl, by decide +kernel, by decide +kernel⟩ (fun vs H Q E h => ?_) (fun cdv A outer_ s H vs Q E hr h => ?_)
  · obtain ⟨a, ys, rfl, _⟩ := h
    rfl
  · obtain ⟨a, ys, rfl, ⟨nms, l4, sy, dx, t, ha, ht⟩, k⟩ := h
    refine ⟨_, pss_one (ps_ret (pe_callTy SkE.call_str_str (by rfl) Z.zStr (by decide +kernel) (pa_cons (pe_fld (pv 0) rfl) pa_nil))), ?_⟩
    exact ⟨_, rfl, a, C, dx, _, .str (ltext ys), rfl, ha, L.cl, L.n2, rfl, _, rfl, k⟩
/-! in -/
def hasV (v : V) (ys : List Str) : Bool := match v with
  | .str x => decide (x ∈ ys)
  | _ => false
theorem inV_str (x : Str) : ∀ ys : List Str, inV (.str x) (ys.map V.str) = decide (x ∈ ys)
  | [] => by simp [inV]
  | y :: r => by
    have ih := inV_str x r
    unfold inV at ih ⊢
    rw [List.map_cons, List.any_cons, ih]
    show ((y == x) || _) = _
    by_cases h : y = x
    · subst h; simp
    · have h' : ¬ x = y := fun e => h e.symm
      simp [h, h', List.mem_cons]
def spHas (K : PySem.W.Frag) (C : Addr) : Sp := fun vs H Q _ => ∃ (a : Addr) (v : V) (ys : List Str), vs = [.ref a, v] ∧ Lb C H a ys ∧ Cl K H v ∧ Q (.bl (hasV v ys)) H
theorem flat_all (ys : List Str) : (ys.map V.str).all flatV = true := by
  rw [List.all_map]
  exact List.all_eq_true.mpr fun _ _ => rfl
theorem ok_has (L : LabM K mg C gE gL gS gR gH pM gM dE dL dS dR dH dM) (Z : Zn mg) : FnOk P w K mg base CX0 1 gH dH ["self", "mark"] (spHas K C) := by
  refine L.H.ok (N := ["self", "mark"]) ⟨rfl, rfl, rfl, by decide +kernel, rfl, by decide +kernel, by decide +kernel⟩ (fun vs H Q E h => ?_) (fun cdv A outer_ s H vs Q E hr h => ?_)
  · obtain ⟨a, v, ys, rfl, _⟩ := h
    rfl
  · obtain ⟨a, v, ys, rfl, ⟨nms, l4, sy, dx, t, ha, ht⟩, cl, k⟩ := h
    refine ⟨_, pss_one (ps_ret (pe_and (pe_callB call_isi (by rfl) Z.zIs (by decide +kernel) (pa_cons (pv 1) (pa_cons (pe_bltn (v := .ty "str") (u := .type "str") (by rfl) Z.zStr (by decide +kernel) rfl) pa_nil))) (pe_one (pe_cmpR op_in_seq (pv 1) (pe_fld (pv 0) rfl) (by rfl))))), ?_⟩
    obtain ⟨ty, tx, kb, ki, ks⟩ := cl.kit
    refine ⟨_, rfl, v, .ty "str", ty, .type "str", vS v, rfl, .ty _, tx, ks, _, rfl, ?_⟩
    by_cases hs : vS v = true
    · obtain ⟨l, rfl, hl⟩ := cl.text hs
      rw [hs]
      refine ⟨_, rfl, _, rfl, a, C, dx, _, .ref t, rfl, ha, L.cl, L.n1, rfl, t, _, rfl, .inr (SqT.of ht), rfl, flat_all ys, ?_⟩
      rw [if_neg Bool.false_ne_true, inV_str]
      exact k
    · have hs' : vS v = false := by simpa using hs
      rw [hs']
      have e : hasV v ys = false := by cases v <;> first | rfl | cases hs'
      rw [e] at k
      exact k
/-! == -/
def spEqL (K : PySem.W.Frag) (C : Addr) : Sp := fun vs H Q _ => ∃ (a : Addr) (y : V) (xs : List Str), vs = [.ref a, y] ∧ Lb C H a xs ∧
  ((∃ T, EqO.BtV K H y T ∧ Q (.bl false) H) ∨ ∃ b ys, y = .ref b ∧ Lb C H b ys ∧ Q (.bl (decide (xs = ys))) H)
theorem ok_eq (L : LabM K mg C gE gL gS gR gH pM gM dE dL dS dR dH dM) (Z : Zn mg) : FnOk P w K mg base CX0 1 gE dE ["self", "other"] (spEqL K C) := by
  refine L.E.ok (N := ["self", "other"]) ⟨rfl, rfl, rfl, by decide +kernel, rfl, by decide +kernel, by decide +kernel⟩ (fun vs H Q E h => ?_) (fun cdv A outer_ s H vs Q E hr h => ?_)
  · obtain ⟨a, y, xs, rfl, _⟩ := h
    rfl
  · obtain ⟨a, y, xs, rfl, ⟨nms, l4, sy, dx, t, ha, ht⟩, h⟩ := h
    have un : (A.deeper (PyProof.Rows.envOfC "Label.__eq__" (defScope sEq) s.heap.objs.size gE cdv)).units + 64 < cLine := by have := hr.units; omega
    refine ⟨_, pss_one (ps_ret (pe_and (pe_callB call_isi (by rfl) Z.zIs (by decide +kernel) (pa_cons (pv 1) (pa_cons (pe_glob (v := .ref C) rfl L.m rfl) pa_nil))) (pe_one (pe_cmpR (op_eqD un) (pe_fld (pv 0) rfl) (pe_fld (pv 1) rfl) (nomark _))))), ?_⟩
    rcases h with ⟨T, bt, k⟩ | ⟨b, ys, rfl, ⟨nmy, l4y, syy, dy, ty, hb, hty⟩, k⟩
    · exact ⟨_, rfl, y, .ref C, .type T, .ref C, false, rfl, .own _, bt_ty bt, L.kt T bt.mem, _, rfl, k⟩
    · refine ⟨_, rfl, .ref b, .ref C, .ref C, .ref C, true, rfl, .own _, .base (.ins hb L.cl L.ca L.cn L.ct L.cm), L.kc, _, rfl, ?_⟩
      refine ⟨_, rfl, a, C, dx, _, .ref t, rfl, ha, L.cl, L.n1, rfl, _, rfl, b, C, dy, _, .ref ty, rfl, hb, L.cl, L.n1, rfl, ?_⟩
      refine ⟨_, _, .tup (SqT.of ht) (dpT xs), .tup (SqT.of hty) (dpT ys), shT _ fun z hz => nm_ok (List.all_eq_true.mp nms z hz), shT _ fun z hz => nm_ok (List.all_eq_true.mp nmy z hz), ?_⟩
      rw [eqvT]
      exact k
end
end K18
namespace K18
open PySem L2 SR
section
variable {P : Program} {w : World} {K : PySem.W.Frag} {mg : Str → Option Value} {base : Heap}
variable {C gE gL gS gR gH pM gM : Addr} {dE dL dS dR dH dM : FuncData}
/-! repr -/
def comma : Str := ", "
def lshow (ys : List Str) : Str := Str.empty ++ "Label(" ++ Txt.join comma (ys.map reprText) ++ ")"
theorem repr_len8 {y : Str} (h : isNm y = true) : (reprText y).length ≤ 82 := by
  have l8 := isNm_len h
  have lo : y.cps.toList.all low = true := (Bool.and_eq_true_iff.mp (Bool.and_eq_true_iff.mp h).2).2
  have e := StrLaws.reprText_len (txt y.cps.toList) (fun c hc => by
    have z := Bool.and_eq_true_iff.mp (List.all_eq_true.mp lo c hc)
    have := of_decide_eq_true z.2
    omega)
  rw [← txt_of y] at e
  have e2 : y.length = y.cps.toList.length := by rw [txt_of y, txt_len]; rfl
  omega
def spRepr (C : Addr) : Sp := fun vs H Q _ => ∃ (a : Addr) (ys : List Str), vs = [.ref a] ∧ Lb C H a ys ∧ ∀ H', Same H H' → Q (.str (lshow ys)) H'
theorem scRe : FnScope ["self", "mark"] ["self"] (defScope sRepr) := ⟨rfl, rfl, rfl, by decide +kernel, rfl, by decide +kernel, by decide +kernel⟩
theorem ok_repr (L : LabM K mg C gE gL gS gR gH pM gM dE dL dS dR dH dM) (Z : Zn mg) : FnOk P w K mg base CX0 1 gR dR ["self"] (spRepr C) := by
  refine L.R.ok scRe (fun vs H Q E h => ?_) (fun cdv A outer_ s H vs Q E hr h => ?_)
  · obtain ⟨a, ys, rfl, _⟩ := h
    rfl
  · obtain ⟨a, ys, rfl, ⟨nms, l4, sy, dx, t, ha, ht⟩, k⟩ := h
    refine ⟨_, pss_one (ps_ret (pe_joined (PJ.cons pe_str (PJ.cons (pe_fmt (pe_join pe_str (pe_lc (own := [("mark", 1)]) (g := gName 1) (tt := tYes) rfl scRe.nd (pi_tup (pe_fld (pv 0) rfl))
      (blkOk_by (N := ["self", "mark"]) (sc := defScope sRepr) (by decide +kernel)) (fun _ _ _ _ _ => pg_name (i := 1) scRe.nd rfl (Or.inl rfl)) (fun _ _ _ _ _ => pts_nil)
      (fun _ _ _ _ _ => pe_callB call_reprS (by rfl) Z.zRepr (by decide +kernel) (pa_cons (pv 1) pa_nil))))) (PJ.cons pe_str PJ.nil))))), ?_⟩
    have hsl : sizeLine = 16777216 := sizeLine_eq
    have nmAt : ∀ y ∈ ys, isNm y = true := fun y hy => List.all_eq_true.mp nms y hy
    refine ⟨_, rfl, by decide +kernel, ?_⟩
    refine ⟨⟨_, rfl⟩, _, rfl, a, C, dx, _, .ref t, rfl, ha, L.cl, L.n1, rfl, t, rfl, ⟨_, SqT.of ht⟩, fun D hD => ?_⟩
    refine lc_tup (xs := ys.map V.str) (fun i H' => Same H H' ∧ H' D = some (.lst (((ys.map reprText).take i).map V.str))) ⟨same_upd hD, upd_same⟩ (fun i H' _ q => SqT.of (q.1 _ _ ht)) ?_ ?_
    · rintro i v H1 hv ⟨sm, hL⟩
      rw [List.getElem?_map] at hv
      obtain ⟨y, hy, rfl⟩ := Option.map_eq_some_iff.mp hv
      have l82 := repr_len8 (nmAt y (List.mem_of_getElem? hy))
      refine ⟨rfl, _, rfl, y, rfl, by omega, _, hL, ?_, fun b o q => ?_, ?_⟩
      · rw [List.length_map, List.length_take, List.length_map]
        omega
      · rw [upd_ne (ne_of_none q hD)]
        exact sm b o q
      · rw [upd_same, take_snoc (x := reprText y) (by rw [List.getElem?_map, hy]; rfl), List.map_append]
        rfl
    · rintro H1 ⟨sm, hL⟩
      rw [List.length_map, List.take_of_length_le (by rw [List.length_map]; exact Nat.le_refl _)] at hL
      have lens : ((ys.map reprText).map (·.length)).sum + (ys.map reprText).length * comma.length ≤ 1000 := by
        have each : ∀ zs : List Str, (∀ y ∈ zs, isNm y = true) → ((zs.map reprText).map (·.length)).sum ≤ 82 * zs.length := fun zs => by
          induction zs with
          | nil => intro _; decide
          | cons z zs ih =>
            intro hz
            have a := repr_len8 (hz z List.mem_cons_self)
            have b := ih fun y hy => hz y (List.mem_cons_of_mem _ hy)
            rw [List.map_cons, List.map_cons, List.sum_cons, List.length_cons]
            omega
        have a := each ys nmAt
        have b : comma.length = 2 := by decide +kernel
        rw [b, List.length_map]
        omega
      have jl : (Txt.join comma (ys.map reprText)).length ≤ 1000 := by
        rw [join_is]
        exact Nat.le_trans (StrLaws.join_length_le comma _) lens
      have jl' : (Txt.join (", " : Str) (ys.map reprText)).length ≤ 1000 := jl
      have e7 : ("Label(" : Str).length = 6 := by decide +kernel
      have e8 : (")" : Str).length = 1 := by decide +kernel
      refine ⟨_, D, ys.map reprText, rfl, rfl, .inl (SqL.of hL), by exact Nat.le_trans lens (by decide), .inl ⟨_, rfl, by omega, _, rfl, ?_, _, rfl, ?_, k _ sm⟩⟩
      · rw [strLen_append, strLen_append, e7]
        show 0 + 6 + _ ≤ _
        omega
      · rw [strLen_append, strLen_append, strLen_append, e7, e8]
        show 0 + 6 + _ + 1 ≤ _
        omega

theorem find_none {ts : List Str} (h : ts.all isNm = true) : (ts.map V.str).find? bad = none := by
  rw [List.find?_map, Option.map_eq_none_iff]
  exact List.find?_eq_none.mpr fun u hu => by
    have := List.all_eq_true.mp h u hu
    show ¬ (!isNm u) = true
    rw [this]
    decide
theorem cl_names {H : Hp} {ts : List Str} (h : ts.all isNm = true) : ∀ v ∈ ts.map V.str, Cl K H v := fun v hv => by
  obtain ⟨y, hy, rfl⟩ := List.mem_map.mp hv
  have := isNm_len (List.all_eq_true.mp h y hy)
  rw [txt_of y]
  exact .str _ (Nat.le_trans this (by decide))
theorem str_inj : ∀ {a b : List Str}, a.map V.str = b.map V.str → a = b
  | [], [], _ => rfl
  | [], _ :: _, e => by cases e
  | _ :: _, [], e => by cases e
  | x :: r, y :: q, e => by
    rw [List.map_cons, List.map_cons] at e
    rw [V.str.inj (List.cons.inj e).1, str_inj (List.cons.inj e).2]
/-- a call of Label with names, at most four different ones -/
theorem mk_lab {H1 : Hp} {C CN CM z dz : Addr} {ts ys : List Str} {Q : VK} {E : XK} (hz : H1 z = none) (hd : H1 dz = none) (ne : dz ≠ z) (nms : ts.all isNm = true) (few : ts.length < 60) (s : Srt ts ys) (l4 : ys.length ≤ 4)
    (k : ∀ H', Same H1 H' → Lb C H' z ys → Q (.ref z) H') : ∃ ws rest, V.ref z :: ts.map V.str = ws ++ rest ∧ ws.length = ([("self" : Str)]).length ∧ rest.length ≤ sizeLine ∧
      ∀ p, (upd (upd H1 dz (.own z)) z (.ins C dz [])) p = Option.none → spInit K C CN CM (ws ++ [V.ref p]) (upd (upd (upd H1 dz (.own z)) z (.ins C dz [])) p (.tup rest)) (fun v H2 => v = .non ∧ Q (.ref z) H2) E := by
  refine ⟨[.ref z], ts.map V.str, rfl, rfl, by rw [List.length_map, sizeLine_eq]; omega, fun p hp => ?_⟩
  have np : p ≠ z := fun e => by rw [e, upd_same] at hp; cases hp
  refine ⟨z, dz, p, ts.map V.str, rfl, by rw [upd_ne (Ne.symm np), upd_same], upd_same, by rw [List.length_map]; exact few, cl_names nms, (fun v e => by rw [find_none nms] at e; cases e), fun ts' ys' e nms' s' => ?_⟩
  obtain rfl := str_inj e
  obtain rfl := SR.unique s s'
  refine ⟨fun l5 => absurd l4 (by omega), fun _ H' t kp hz' ht => ⟨rfl, k H' (fun b o q => ?_) ⟨?_, l4, SR.self s, dz, t, hz', ht⟩⟩⟩
  · have nb : b ≠ z := ne_of_none q hz
    have nd : b ≠ dz := ne_of_none q hd
    refine kp b o nb ?_
    have q2 : (upd (upd H1 dz (.own z)) z (.ins C dz [])) b = some o := by rw [upd_ne nb, upd_ne nd]; exact q
    rw [upd_ne (ne_of_none q2 hp)]
    exact q2
  · exact List.all_eq_true.mpr fun y hy => List.all_eq_true.mp nms y ((s.2.2 y).mp hy)
end
/-- what a call of Label with these wishes -/
def Asks (K : PySem.W.Frag) (C CN CM : Addr) (H : Hp) (xs : List V) (Q : VK) (E : XK) : Prop := (∀ v ∈ xs, Cl K H v) ∧ (∀ v, xs.find? bad = some v → Bad "value" CN H v E) ∧ ∀ ts ys, xs = ts.map V.str → ts.all isNm = true → Srt ts ys →
  (4 < ys.length → BadM CM H (.str "marks") (.int 4) E) ∧ (ys.length ≤ 4 → ∀ H' z, Same H H' → H z = none → Lb C H' z ys → Q (.ref z) H')
theorem mk_any {K : PySem.W.Frag} {H1 : Hp} {C CN CM z dz : Addr} {xs : List V} {Q : VK} {E : XK} (a : Asks K C CN CM H1 xs Q E) (few : xs.length < 60) (hz : H1 z = none) (hd : H1 dz = none) (ne : dz ≠ z) :
    ∃ ws rest, V.ref z :: xs = ws ++ rest ∧ ws.length = ([("self" : Str)]).length ∧ rest.length ≤ sizeLine ∧
      ∀ p, (upd (upd H1 dz (.own z)) z (.ins C dz [])) p = Option.none → spInit K C CN CM (ws ++ [V.ref p]) (upd (upd (upd H1 dz (.own z)) z (.ins C dz [])) p (.tup rest)) (fun v H2 => v = .non ∧ Q (.ref z) H2) E := by
  obtain ⟨cl, kb, kt⟩ := a
  refine ⟨[.ref z], xs, rfl, rfl, by rw [sizeLine_eq]; omega, fun p hp => ?_⟩
  have np : p ≠ z := fun e => by rw [e, upd_same] at hp; cases hp
  have sm : Same H1 (upd (upd (upd H1 dz (.own z)) z (.ins C dz [])) p (.tup xs)) := fun b o q => by
    have q2 : (upd (upd H1 dz (.own z)) z (.ins C dz [])) b = some o := by rw [upd_ne (ne_of_none q hz), upd_ne (ne_of_none q hd)]; exact q
    rw [upd_ne (ne_of_none q2 hp)]
    exact q2
  refine ⟨z, dz, p, xs, rfl, by rw [upd_ne (Ne.symm np), upd_same], upd_same, few, fun v hv => Cl.same (cl v hv) fun a t _ ty => tyx_same ty sm, fun v e => bad_of sm (kb v e), fun ts ys e nms s => ?_⟩
  obtain ⟨k5, k4⟩ := kt ts ys e nms s
  refine ⟨fun l5 => badM_of sm (k5 l5), fun l4 H' t kp hz' ht => ⟨rfl, k4 l4 H' z (fun b o q => ?_) hz ⟨?_, l4, SR.self s, dz, t, hz', ht⟩⟩⟩
  · exact kp b o (ne_of_none q hz) (sm b o q)
  · exact List.all_eq_true.mpr fun y hy => List.all_eq_true.mp nms y ((s.2.2 y).mp hy)
/-- a call of Label with names, at most four different ones -/
theorem asks0 {K : PySem.W.Frag} {C CN CM : Addr} {H : Hp} {ts ys : List Str} {Q : VK} {E : XK} (nms : ts.all isNm = true) (s : Srt ts ys) (l4 : ys.length ≤ 4) (k : ∀ H' z, Same H H' → H z = none → Lb C H' z ys → Q (.ref z) H') : Asks K C CN CM H (ts.map V.str) Q E := by
  refine ⟨cl_names nms, (fun v e => by rw [find_none nms] at e; cases e), fun ts' ys' e nms' s' => ?_⟩
  obtain rfl := str_inj e
  obtain rfl := SR.unique s s'
  exact ⟨fun l5 => absurd l4 (by omega), fun _ => k⟩
end K18
namespace K18
open PySem L2
/-! ### InvalidLabel, InvalidKey -/
section
variable {P : Program} {w : World} {K : PySem.W.Frag} {mg : Str → Option Value} {base : Heap}
abbrev sInitL : Stmt := inClass (top 5) 0
structure IL (K : PySem.W.Frag) (mg : Str → Option Value) (C fI : Addr) (fd : FuncData) : Prop where
  o : OexC K C
  iC : PySem.W.findIn K (.ref C) "__init__" = some (some (.ref fI))
  tI : PySem.W.typeIn K (.ref fI) = some (.type "function")
  n1 : PySem.W.findIn K (.ref C) "value" = some none
  n2 : PySem.W.findIn K (.ref C) "_told" = some none
  m : mg "InvalidLabel" = some (.ref C)
  F : Fun K "__init__" "InvalidLabel.__init__" sInitL fI fd
  b : Binds K fd ["self", "value"] []
def spInitL (C : Addr) : Sp := fun vs H Q _ => ∃ (a : Addr) (v : V), vs = [.ref a, v] ∧ H a = some (exo a C none) ∧
  ∀ (H' : Hp) (d t : Addr), H d = none → d ≠ a → H' a = some (exo a C (some d)) → H' d = some (exd d [("_told", .ref t), ("value", v)]) → H' t = some (.tup [v]) → (∀ b o, b ≠ a → H b = some o → H' b = some o) → Q .non H'
theorem scInL : FnScope ["self", "value"] ["self", "value"] (defScope sInitL) := ⟨rfl, rfl, rfl, by decide +kernel, rfl, by decide +kernel, by decide +kernel⟩
theorem ok_initL {C f : Addr} {fd : FuncData} (T : IL K mg C f fd) : FnOk P w K mg base CX0 1 f fd ["self", "value"] (spInitL C) := by
  refine T.F.ok scInL (fun vs H Q E h => ?_) (fun cdv A outer_ s H vs Q E hr h => ?_)
  · obtain ⟨a, v, rfl, _⟩ := h
    rfl
  · obtain ⟨a, v, rfl, he, k⟩ := h
    refine ⟨_, pss_cons (ps_ost (pv 0) (pv 1)) (pss_one (ps_ost (pv 0) (pe_tup (pa_cons (pv 1) pa_nil)))), ?_⟩
    refine ⟨_, rfl, _, rfl, a, C, rfl, T.o, T.n1, .inl ⟨he, fun d hd hne => ?_⟩⟩
    refine ⟨_, rfl, (by show 1 ≤ sizeLine; decide), fun t ht => ?_⟩
    have nt : t ≠ a := fun e => by rw [e, upd_same] at ht; cases ht
    have nd : t ≠ d := fun e => by rw [e, upd_ne hne, upd_same] at ht; cases ht
    refine ⟨_, rfl, a, C, rfl, T.o, T.n2, .inr ⟨d, [("value", v)], ?_, ?_, (show 1 ≤ 900 by decide), ?_⟩⟩
    · rw [upd_ne (Ne.symm nt), upd_same]
    · rw [upd_ne (Ne.symm nd), upd_ne hne, upd_same]
    · refine k _ d t hd hne ?_ upd_same (by rw [upd_ne nd, upd_same]) fun b o hb e => ?_
      · rw [upd_ne (Ne.symm hne), upd_ne (Ne.symm nt), upd_same]
      · have n1 : b ≠ d := ne_of_none e hd
        have n2 : b ≠ t := fun z => by
          rw [upd_ne nt, upd_ne nd] at ht
          rw [z, ht] at e
          cases e
        rw [upd_ne n1, upd_ne n2, upd_ne hb, upd_ne n1]
        exact e
theorem mkL {C : Addr} {E : XK} (H0 : Hp) (v : V) (hb : Bad "value" C H0 v E) : 1 ≤ 1000 ∧ ∀ a, H0 a = none → spInitL C (.ref a :: ([v] ++ [])) (upd H0 a (exo a C none))
    (fun u H2 => u = .non ∧ ∃ (d : Addr) (fs : List (Str × V)), H2 a = some (exo a C (some d)) ∧ H2 d = some (exd d fs) ∧ H0 d = none ∧ E (.ref C) (some d) (upd (del H2 a) d (.xd fs))) (fun _ _ _ => False) := by
  refine ⟨by decide, fun a ha => ⟨a, v, rfl, upd_same, fun H2 d t hd hne he1 he2 ht hs => ⟨rfl, d, _, he1, he2, ?_, ?_⟩⟩⟩
  · rw [upd_ne hne] at hd
    exact hd
  · refine hb _ d [("_told", .ref t), ("value", v)] (fun b o e => ?_) (by rw [upd_ne hne] at hd; exact hd) upd_same (by rfl) ⟨t, by rfl, by rw [upd_ne (fun z => by rw [z, he2] at ht; cases ht), del_ne (fun z => by rw [z, he1] at ht; cases ht)]; exact ht⟩
    have nb : b ≠ a := ne_of_none e ha
    have nd : b ≠ d := fun z => by
      rw [z] at e
      rw [upd_ne hne, e] at hd
      cases hd
    rw [upd_ne nd, del_ne nb]
    exact hs b o nb (by rw [upd_ne nb]; exact e)
end
end K18
namespace K18
open PySem L2 SR
/-! ### marks_of_text -/
def piecesC (l : Tx) : List Tx := SP.splA 43 [] l
/-- the marks of the label with this text -/
def rdM (l : Tx) : Option (List Str) :=
  if l = [45] then some [] else
  if 4 < (piecesC l).length then none else
  if (piecesC l).all nmC = true then (if ((piecesC l).map txt).Nodup ∧ PyProof.Rows.sortedS ((piecesC l).map txt) = true then some ((piecesC l).map txt) else none) else none
theorem dash_txt : Str.ofString "-" = txt [45] := by decide +kernel
theorem split_plus (l : Tx) : Txt.split (txt l) (Str.ofString "+") = (piecesC l).map txt := by
  have e : (Str.ofString "+" : Str) = ⟨#[43]⟩ := by decide +kernel
  rw [e]
  exact SP.split_is l (c := 43) (by decide)
theorem pieces_len (l : Tx) : (piecesC l).length ≤ l.length + 1 ∧ ∀ p ∈ piecesC l, p.length ≤ l.length := by
  refine ⟨(SP.splA_len 43 l []).1, fun p hp => ?_⟩
  have := (SP.splA_mem 43 l [] p hp).2
  rw [List.length_nil] at this
  omega
theorem srt_iff {ms ys : List Str} (s : Srt ms ys) : (ms.Nodup ∧ PyProof.Rows.sortedS ms = true) ↔ ms = ys :=
  ⟨fun h => SR.unique ⟨h.1, h.2, fun _ => Iff.rfl⟩ s, fun e => by rw [e]; exact ⟨s.1, s.2.1⟩⟩
theorem map_tv (ts : List Tx) : (ts.map txt).map V.str = ts.map tv := by
  rw [List.map_map]
  rfl
end K18
namespace K18
open PySem L2 SR
/-! ### check_label, is_below, the joined and the common label -/
theorem srt_sub {xs ys : List Str} (a : Srt xs xs) (s : ys.Sublist xs) : Srt ys ys :=
  ⟨a.1.sublist s, PyProof.Rows.sortedS_of_pairwise _ ((sorted_pw a.2.1).sublist s), fun _ => Iff.rfl⟩
section
variable {P : Program} {w : World} {K : PySem.W.Frag} {mg : Str → Option Value} {base : Heap}
variable {C fL CN fN CM fM CE fE fC fI gE gL gS gR gH pM gM g : Addr} {dL0 dN dM dE0 dC dI dE dL dS dR dH dG fd : FuncData}
def Odd (K : PySem.W.Frag) (CE : Addr) (H : Hp) (y : V) (E : XK) : Prop := (∃ T, EqO.BtV K H y T) ∧ Bad "value" CE H y E
def spCheck (K : PySem.W.Frag) (C CE : Addr) : Sp := fun vs H Q E => ∃ y : V, vs = [y] ∧ (Odd K CE H y E ∨ ∃ b ys, y = .ref b ∧ Lb C H b ys ∧ Q .non H)
theorem lab_ty (M : LabM K mg C gE gL gS gR gH pM gM dE dL dS dR dH dG) {H : Hp} {b : Addr} {ys : List Str} (h : Lb C H b ys) : TyX K H (.ref b) (.ref C) := by
  obtain ⟨_, _, _, dx, t, ha, _⟩ := h
  exact .base (.ins ha M.cl M.ca M.cn M.ct M.cm)
theorem ok_check (F : Fun K "check_label" "check_label" sCheck fC dC) (T : IL K mg CE fE dE0) (M : LabM K mg C gE gL gS gR gH pM gM dE dL dS dR dH dG) (Z : Zn mg) : FnOk P w K mg base (L2.CX P w) 3 fC dC ["value"] (spCheck K C CE) := by
  have GT : FnOk P w K mg base CX0 1 fE dE0 ["self", "value"] (spInitL CE) := ok_initL T
  refine F.okX (N := ["value"]) ⟨rfl, rfl, rfl, by decide +kernel, rfl, by decide +kernel, by decide +kernel⟩ (fun vs H Q E h => ?_) (fun cdv A outer_ s H vs Q E hr h => ?_)
  · obtain ⟨y, rfl, _⟩ := h
    rfl
  · obtain ⟨y, rfl, h⟩ := h
    refine ⟨_, pss_one (ps_if (pt_not (pt_val (pe_callB call_isi (by rfl) Z.zIs (by decide +kernel) (pa_cons (pv 0) (pa_cons (pe_glob (v := .ref C) rfl M.m rfl) pa_nil)))))
        (pss_one (ps_raise rfl (takes_of rfl rfl rfl rfl) (pmk_oex T.o T.iC T.tI GT hr T.b .nil pass0 (by rfl) T.m (by exact (pa_cons (pv 0) pa_nil))))) pss_nil), ?_⟩
    rcases h with ⟨⟨ty, bt⟩, hb⟩ | ⟨b, ys, rfl, lb, k⟩
    · exact ⟨_, rfl, y, .ref C, .type ty, .ref C, false, rfl, .own _, bt_ty bt, M.kt ty bt.mem, _, rfl, _, rfl, mkL H _ hb⟩
    · exact ⟨_, rfl, .ref b, .ref C, .ref C, .ref C, true, rfl, .own _, lab_ty M lb, M.kc, _, rfl, k⟩
abbrev sBelow : Stmt := inClass (top 58) 4
abbrev sOrM : Stmt := inClass (top 58) 6
abbrev sAndM : Stmt := inClass (top 58) 7
def spBelow (K : PySem.W.Frag) (C CE : Addr) : Sp := fun vs H Q E => ∃ (a : Addr) (y : V) (xs : List Str), vs = [.ref a, y] ∧ Lb C H a xs ∧ (Odd K CE H y E ∨ ∃ b ys, y = .ref b ∧ Lb C H b ys ∧ ∀ H', Same H H' → Q (.bl (xs.all fun x => decide (x ∈ ys))) H')
theorem scBe : FnScope ["self", "other", "mark"] ["self", "other"] (defScope sBelow) := ⟨rfl, rfl, rfl, by decide +kernel, rfl, by decide +kernel, by decide +kernel⟩
theorem ok_below (F : Fun K "is_below" "Label.is_below" sBelow g fd) (AC : At K mg "check_label" sCheck ["value"] fC dC) (T : IL K mg CE fE dE0) (M : LabM K mg C gE gL gS gR gH pM gM dE dL dS dR dH dG) (Z : Zn mg) : FnOk P w K mg base (L2.CX P w) 4 g fd ["self", "other"] (spBelow K C CE) := by
  have GC : FnOk P w K mg base (L2.CX P w) 3 fC dC ["value"] (spCheck K C CE) := ok_check AC.F T M Z
  have GG : FnOk P w K mg base CX0 1 gM dG ["self"] (getSp C "_marks") := ok_get M
  refine F.okX scBe (fun vs H Q E h => ?_) (fun cdv A outer_ s H vs Q E hr h => ?_)
  · obtain ⟨a, y, xs, rfl, _⟩ := h
    rfl
  · obtain ⟨a, y, xs, rfl, la, h⟩ := h
    have h2 := hr.mono (j := 2) (by decide)
    refine ⟨_, pss_cons (ps_expr (pe_call (E := E) GC hr (by rfl) AC.m AC.F.kp AC.b .nil (CmS.passE (takes_of rfl rfl rfl rfl)) (pa_cons (pv 1) pa_nil)))
      (pss_one (ps_ret (pe_callB (cr_all rfl) (by rfl) Z.zAll (by decide +kernel) (pa_cons (pe_lc (own := [("mark", 2)]) (g := gName 2) (tt := tYes) rfl scBe.nd (pi_tup (pe_fld (pv 0) rfl)) (blkOk_by (N := ["self", "other", "mark"]) (sc := defScope sBelow) (by decide +kernel)) (fun _ _ _ _ _ => pg_name (i := 2) scBe.nd rfl (Or.inl rfl)) (fun _ _ _ _ _ => pts_nil)
        (fun _ _ _ _ _ => pe_cmpR (show OpR _ (compareOp .In) (rIn K false) from op_in_seq) (pv 2) (pe_prop (E := E0) (pv 1) M.cl M.pr GG h2 M.bM .nil pass0 rfl) (by rfl))) pa_nil)))), ?_⟩
    rcases h with od | ⟨b, ys, rfl, lb, k⟩
    · exact ⟨_, rfl, y, rfl, .inl od⟩
    · refine ⟨_, rfl, .ref b, rfl, .inr ⟨b, ys, rfl, lb, ?_⟩⟩
      obtain ⟨nx, l4, sx, dx, t, ha, ht⟩ := id la
      refine ⟨_, rfl, a, C, dx, _, .ref t, rfl, ha, M.cl, M.n1, rfl, t, rfl, ⟨_, SqT.of ht⟩, fun D hD => ?_⟩
      refine lc_tup (xs := xs.map V.str) (fun i H' => Same H H' ∧ H' D = some (.lst (((xs.map fun x => decide (x ∈ ys)).take i).map V.bl))) ⟨same_upd hD, upd_same⟩ (fun i H' _ q => SqT.of (q.1 _ _ ht)) ?_ ?_
      · rintro i v H1 hv ⟨sm, hL⟩
        rw [List.getElem?_map] at hv
        obtain ⟨x, hx, rfl⟩ := Option.map_eq_some_iff.mp hv
        obtain ⟨ny, m4, sy, dy, u, hb, hu⟩ := id (lb.same sm)
        refine ⟨rfl, _, rfl, _, rfl, b, dy, _, rfl, hb, b, dy, _, .ref u, rfl, hb, rfl, u, _, rfl, .inr (SqT.of hu), rfl, flat_all ys, ?_⟩
        rw [if_neg Bool.false_ne_true, inV_str]
        refine ⟨_, hL, ?_, fun b o q => ?_, ?_⟩
        · rw [List.length_map, List.length_take, List.length_map, sizeLine_eq]
          omega
        · rw [upd_ne (ne_of_none q hD)]
          exact sm b o q
        · rw [upd_same, take_snoc (x := decide (x ∈ ys)) (by rw [List.getElem?_map, hx]; rfl), List.map_append]
          rfl
      · rintro H1 ⟨sm, hL⟩
        rw [List.length_map, List.take_of_length_le (by rw [List.length_map]; exact Nat.le_refl _)] at hL
        refine ⟨D, _, rfl, SqL.of hL, ?_⟩
        rw [List.all_map]
        exact k H1 sm
theorem asksM {H : Hp} {ts zs : List Str} {Q : VK} {E : XK} (nms : ts.all isNm = true) (s : Srt ts zs) (b : 4 < zs.length → BadM CM H (.str "marks") (.int 4) E) (k : zs.length ≤ 4 → ∀ H' z, Same H H' → H z = none → Lb C H' z zs → Q (.ref z) H') : Asks K C CN CM H (ts.map V.str) Q E := by
  refine ⟨cl_names nms, (fun v e => by rw [find_none nms] at e; cases e), fun ts' ys' e nms' s' => ?_⟩
  obtain rfl := str_inj e
  obtain rfl := SR.unique s s'
  exact ⟨b, k⟩
theorem catAny {H : Hp} {a b : Addr} {xs ys : List V} {Q : VK} (h1 : SqT K H a xs) (h2 : SqT K H b ys) (l : xs.length + ys.length ≤ sizeLine) (k : ∀ H' p, Same H H' → SqT K H' p (xs ++ ys) → Q (.ref p) H') : rCatA K (.ref a) (.ref b) H Q := by
  refine ⟨a, b, xs, ys, rfl, rfl, h1, h2, l, fun e => ?_, fun _ e => ?_, fun _ _ p hp => k _ p (same_upd hp) (SqT.of upd_same)⟩
  · exact k H b (Same.refl H) (by rw [e]; exact h2)
  · exact k H a (Same.refl H) (by rw [e, List.append_nil]; exact h1)
/-- the label of these marks, of two labels -/
def spTwo (f : List Str → List Str → List Str) (K : PySem.W.Frag) (C CE CM : Addr) : Sp := fun vs H Q E => ∃ (a : Addr) (y : V) (xs : List Str), vs = [.ref a, y] ∧ Lb C H a xs ∧ (Odd K CE H y E ∨ ∃ b ys zs, y = .ref b ∧ Lb C H b ys ∧ Srt (f xs ys) zs ∧
  (4 < zs.length → BadM CM H (.str "marks") (.int 4) E) ∧ (zs.length ≤ 4 → ∀ H' z, Same H H' → H z = none → Lb C H' z zs → Q (.ref z) H'))
theorem scOr : FnScope ["self", "other", "marks"] ["self", "other"] (defScope sOrM) := ⟨rfl, rfl, rfl, by decide +kernel, rfl, by decide +kernel, by decide +kernel⟩
theorem ok_or (F : Fun K "__or__" "Label.__or__" sOrM g fd) (AC : At K mg "check_label" sCheck ["value"] fC dC) (T : IL K mg CE fE dE0) (M : LabM K mg C gE gL gS gR gH pM gM dE dL dS dR dH dG) (Z : Zn mg)
    (L : LabC K mg C fL CN fN CM fM dL0 dN dM) (GI : FnR P w K mg base (L2.CX P w) 3 fL (fun vs H Q E => ∃ ws rest, vs = ws ++ rest ∧ ws.length = ([("self" : Str)]).length ∧ rest.length ≤ sizeLine ∧ ∀ p, H p = Option.none → spInit K C CN CM (ws ++ [V.ref p]) (upd H p (.tup rest)) Q E)) :
    FnOk P w K mg base (L2.CX P w) 5 g fd ["self", "other"] (spTwo (· ++ ·) K C CE CM) := by
  have GC : FnOk P w K mg base (L2.CX P w) 3 fC dC ["value"] (spCheck K C CE) := ok_check AC.F T M Z
  have GG : FnOk P w K mg base CX0 1 gM dG ["self"] (getSp C "_marks") := ok_get M
  refine F.okX scOr (fun vs H Q E h => ?_) (fun cdv A outer_ s H vs Q E hr h => ?_)
  · obtain ⟨a, y, xs, rfl, _⟩ := h
    rfl
  · obtain ⟨a, y, xs, rfl, la, h⟩ := h
    have h3 := hr.mono (j := 3) (by decide)
    have h2 := hr.mono (j := 2) (by decide)
    refine ⟨_, pss_cons (ps_expr (pe_call (E := E) GC h3 (by rfl) AC.m AC.F.kp AC.b .nil (CmS.passE (takes_of rfl rfl rfl rfl)) (pa_cons (pv 1) pa_nil)))
      (pss_cons (ps_set (i := 2) scOr.nd rfl (Or.inl rfl) (pe_op op_catA (pe_fld (pv 0) rfl) (pe_prop (E := E0) (pv 1) M.cl M.pr GG h2 M.bM .nil pass0 rfl)))
      (pss_one (ps_ret (pe_makeS (E := E) L.mkr GI hr (by rfl) L.m (CmS.passE (takes_of rfl rfl rfl rfl)) (pv 2))))), ?_⟩
    rcases h with od | ⟨b, ys, zs, rfl, lb, sz, kb, k⟩
    · exact ⟨_, rfl, y, rfl, .inl od⟩
    · obtain ⟨nx, l4, sx, dx, t, ha, ht⟩ := id la
      obtain ⟨ny, m4, sy, dy, u, hb, hu⟩ := id lb
      refine ⟨_, rfl, .ref b, rfl, .inr ⟨b, ys, rfl, lb, ?_⟩⟩
      refine ⟨_, rfl, a, C, dx, _, .ref t, rfl, ha, M.cl, M.n1, rfl, _, rfl, b, dy, _, rfl, hb, b, dy, _, .ref u, rfl, hb, rfl, ?_⟩
      refine catAny (SqT.of ht) (SqT.of hu) (by rw [List.length_map, List.length_map, sizeLine_eq]; omega) fun H1 p s1 hp => ?_
      rw [← List.map_append] at hp
      refine ⟨_, rfl, p, _, rfl, .inl hp, fun z dz hz hd ne => ?_⟩
      exact mk_any (asksM (by rw [List.all_append, nx, ny]; rfl) sz (fun l => badM_of s1 (kb l)) fun l H' z s2 hz lz => k l H' z (s1.trans s2) (s1.free hz) lz) (by rw [List.length_map, List.length_append]; omega) hz hd ne
theorem scAn : FnScope ["self", "other", "marks", "mark"] ["self", "other"] (defScope sAndM) := ⟨rfl, rfl, rfl, by decide +kernel, rfl, by decide +kernel, by decide +kernel⟩
theorem ok_and (F : Fun K "__and__" "Label.__and__" sAndM g fd) (AC : At K mg "check_label" sCheck ["value"] fC dC) (T : IL K mg CE fE dE0) (M : LabM K mg C gE gL gS gR gH pM gM dE dL dS dR dH dG) (Z : Zn mg)
    (L : LabC K mg C fL CN fN CM fM dL0 dN dM) (GI : FnR P w K mg base (L2.CX P w) 3 fL (fun vs H Q E => ∃ ws rest, vs = ws ++ rest ∧ ws.length = ([("self" : Str)]).length ∧ rest.length ≤ sizeLine ∧ ∀ p, H p = Option.none → spInit K C CN CM (ws ++ [V.ref p]) (upd H p (.tup rest)) Q E)) :
    FnOk P w K mg base (L2.CX P w) 5 g fd ["self", "other"] (spTwo (fun xs ys => xs.filter fun x => decide (x ∈ ys)) K C CE CM) := by
  have GC : FnOk P w K mg base (L2.CX P w) 3 fC dC ["value"] (spCheck K C CE) := ok_check AC.F T M Z
  have GG : FnOk P w K mg base CX0 1 gM dG ["self"] (getSp C "_marks") := ok_get M
  refine F.okX scAn (fun vs H Q E h => ?_) (fun cdv A outer_ s H vs Q E hr h => ?_)
  · obtain ⟨a, y, xs, rfl, _⟩ := h
    rfl
  · obtain ⟨a, y, xs, rfl, la, h⟩ := h
    have h3 := hr.mono (j := 3) (by decide)
    have h2 := hr.mono (j := 2) (by decide)
    refine ⟨_, pss_cons (ps_expr (pe_call (E := E) GC h3 (by rfl) AC.m AC.F.kp AC.b .nil (CmS.passE (takes_of rfl rfl rfl rfl)) (pa_cons (pv 1) pa_nil)))
      (pss_cons (ps_setLc (i := 2) (own := [("mark", 3)]) (g := gName 3) (tt := tTest (tOp (rIn K false) (tVar 3) (tProp C (getSp C "_marks") [] E0 (tVar 1)))) rfl scAn.nd rfl rfl (sw_true rfl rfl rfl rfl) (pi_tup (pe_fld (pv 0) rfl)) (blkOk_by (N := ["self", "other", "marks", "mark"]) (sc := defScope sAndM) (by decide +kernel)) (fun _ _ _ _ _ => pg_name (i := 3) scAn.nd rfl (Or.inl rfl))
        (fun _ _ _ _ _ => pts_one (pt_cmpR (show OpR _ (compareOp .In) (rIn K false) from op_in_seq) (pv 3) (pe_prop (E := E0) (pv 1) M.cl M.pr GG h2 M.bM .nil pass0 rfl) (by rfl))) (fun _ _ _ _ _ => pv 3))
      (pss_one (ps_ret (pe_makeS (E := E) L.mkr GI hr (by rfl) L.m (CmS.passE (takes_of rfl rfl rfl rfl)) (pv 2))))), ?_⟩
    rcases h with od | ⟨b, ys, zs, rfl, lb, sz, kb, k⟩
    · exact ⟨_, rfl, y, rfl, .inl od⟩
    · obtain ⟨nx, l4, sx, dx, t, ha, ht⟩ := id la
      refine ⟨_, rfl, .ref b, rfl, .inr ⟨b, ys, rfl, lb, ?_⟩⟩
      refine ⟨_, rfl, a, C, dx, _, .ref t, rfl, ha, M.cl, M.n1, rfl, t, rfl, ⟨_, SqT.of ht⟩, fun D hD => ?_⟩
      refine lc_tup (xs := xs.map V.str) (fun i H' => Same H H' ∧ H' D = some (.lst (((xs.take i).filter fun x => decide (x ∈ ys)).map V.str))) ⟨same_upd hD, upd_same⟩ (fun i H' _ q => SqT.of (q.1 _ _ ht)) ?_ ?_
      · rintro i v H1 hv ⟨sm, hL⟩
        rw [List.getElem?_map] at hv
        obtain ⟨x, hx, rfl⟩ := Option.map_eq_some_iff.mp hv
        obtain ⟨ny, m4, sy, dy, u, hb, hu⟩ := id (lb.same sm)
        have i4 : i < xs.length := (List.getElem?_eq_some_iff.mp hx).1
        refine ⟨rfl, _, rfl, _, rfl, b, dy, _, rfl, hb, b, dy, _, .ref u, rfl, hb, rfl, u, _, rfl, .inr (SqT.of hu), rfl, flat_all ys, decide (x ∈ ys), ?_, ?_⟩
        · rw [if_neg Bool.false_ne_true, inV_str]
        show (if decide (x ∈ ys) = true then _ else _)
        by_cases m : x ∈ ys
        · rw [decide_eq_true m, if_pos rfl]
          refine ⟨_, rfl, _, hL, ?_, fun b o q => ?_, ?_⟩
          · rw [List.length_map]
            have := List.length_filter_le (fun x => decide (x ∈ ys)) (xs.take i)
            rw [List.length_take] at this
            rw [sizeLine_eq]
            omega
          · rw [upd_ne (ne_of_none q hD)]
            exact sm b o q
          · rw [upd_same, take_snoc hx, List.filter_append, List.filter_cons_of_pos (by exact decide_eq_true m), List.filter_nil, List.map_append]
            rfl
        · rw [decide_eq_false m, if_neg Bool.false_ne_true]
          refine ⟨sm, ?_⟩
          rw [take_snoc hx, List.filter_append, List.filter_cons_of_neg (by simpa using m), List.filter_nil, List.append_nil]
          exact hL
      · rintro H1 ⟨s1, hL⟩
        rw [List.length_map, List.take_of_length_le (Nat.le_refl _)] at hL
        refine ⟨_, rfl, D, _, rfl, .inr (SqL.of hL), fun z dz hz hd ne => ?_⟩
        have nf : (xs.filter fun x => decide (x ∈ ys)).all isNm = true := List.all_eq_true.mpr fun x hx => List.all_eq_true.mp nx x (List.mem_filter.mp hx |>.1)
        refine mk_any (asksM nf sz (fun l => badM_of s1 (kb l)) fun l H' z s2 hz lz => k l H' z (s1.trans s2) (s1.free hz) lz) ?_ hz hd ne
        rw [List.length_map]
        have := List.length_filter_le (fun x => decide (x ∈ ys)) xs
        omega
end
end K18
namespace K18
open PySem L2 SR
theorem ix_of {K : PySem.W.Frag} {H : Hp} {p : Addr} {xs : List V} {i : Int} {v : V} {Q : VK} (h : SqL K H p xs ∨ SqT K H p xs) (e : atI xs i = some v) (q : Q v H) : rIx K (.ref p) (.int i) H Q :=
  h.elim (fun s => .inl ⟨p, xs, i, v, rfl, rfl, s, e, q⟩) fun s => .inr (.inl ⟨p, xs, i, v, rfl, rfl, s, e, q⟩)
theorem shL (ds : List Str) (h : ∀ x ∈ ds, PyData.strOk x = true) : SeqAt.shaped (.list (ds.map PyData.str)) = true := by
  obtain ⟨h1, h2⟩ := canT ds h
  unfold SeqAt.shaped
  have e1 : PyData.canLay0 (.list (ds.map PyData.str)) = true := by rw [PyData.canLay0]; exact h1
  have e2 : PyData.depth (.list (ds.map PyData.str)) = 1 := by rw [PyData.depth, h2]
  rw [e1, e2]
  rfl
theorem eqvL (ds es : List Str) : PyData.eqv (.list (ds.map PyData.str)) (.list (es.map PyData.str)) = decide (ds = es) := by rw [PyData.eqv]; exact eqvTS ds es
end K18
namespace K18
open PySem L2 SR
/-- the key of some marks -/
def keyOf (t : List Str) : SortT.Key := ((t.length : Int), t)
def InOrd (S : List (List Str)) : Prop := S.Pairwise fun a b => SortT.ltK (keyOf b) (keyOf a) = false
theorem lex_tri : ∀ a b : List Str, SortT.lexS a b = false → SortT.lexS b a = false → a = b := by
  intro a
  induction a with
  | nil =>
    intro b h1 h2
    cases b with
    | nil => rfl
    | cons y b => simp [SortT.lexS] at h1
  | cons x a ih =>
    intro b h1 h2
    cases b with
    | nil => simp [SortT.lexS] at h2
    | cons y b =>
      unfold SortT.lexS at h1 h2
      by_cases e : x = y
      · subst e
        rw [if_pos rfl] at h1 h2
        rw [ih b h1 h2]
      · rw [if_neg e] at h1
        rw [if_neg (Ne.symm e)] at h2
        exact absurd (SortT.ltS_tri h1 h2) e
theorem ord_eq {S T : List (List Str)} (p : S.Perm T) (hs : InOrd S) (ht : InOrd T) : S = T := by
  refine p.eq_of_pairwise (le := fun a b => SortT.ltK (keyOf b) (keyOf a) = false) (fun a b _ _ h1 h2 => ?_) hs ht
  unfold SortT.ltK keyOf at h1 h2
  by_cases e : (a.length : Int) = (b.length : Int)
  · rw [if_pos e.symm] at h1
    rw [if_pos e] at h2
    exact lex_tri a b h2 h1
  · rw [if_neg (Ne.symm e)] at h1
    rw [if_neg e] at h2
    have h1 := of_decide_eq_false h1
    have h2 := of_decide_eq_false h2
    exact absurd (Int.le_antisymm (Int.not_lt.mp h1) (Int.not_lt.mp h2)) (by first | exact e | exact Ne.symm e)
/-- these stand for these texts, as tuples -/
def Tups (H : Hp) (vs : List V) (S : List (List Str)) : Prop := vs.length = S.length ∧ ∀ (j : Nat) (zs : List Str), S[j]? = some zs → ∃ p, vs[j]? = some (.ref p) ∧ H p = some (.tup (zs.map V.str))
theorem Tups.same {H H' : Hp} {vs : List V} {S : List (List Str)} (h : Tups H vs S) (s : Same H H') : Tups H' vs S := ⟨h.1, fun j zs e => let ⟨p, a, b⟩ := h.2 j zs e; ⟨p, a, s _ _ b⟩⟩
theorem Tups.app {H : Hp} {vs us : List V} {S T : List (List Str)} (h : Tups H vs S) (k : Tups H us T) : Tups H (vs ++ us) (S ++ T) := by
  refine ⟨by rw [List.length_append, List.length_append, h.1, k.1], fun j zs e => ?_⟩
  by_cases hj : j < S.length
  · rw [List.getElem?_append_left hj] at e
    obtain ⟨p, a, b⟩ := h.2 j zs e
    exact ⟨p, by rw [List.getElem?_append_left (by rw [h.1]; exact hj)]; exact a, b⟩
  · rw [List.getElem?_append_right (by omega)] at e
    obtain ⟨p, a, b⟩ := k.2 _ zs e
    exact ⟨p, by rw [List.getElem?_append_right (by rw [h.1]; omega), h.1]; exact a, b⟩
theorem Tups.one {H : Hp} {p : Addr} {zs : List Str} (h : H p = some (.tup (zs.map V.str))) : Tups H [.ref p] [zs] := ⟨rfl, fun j us e => by
  cases j with
  | zero =>
    cases e
    exact ⟨p, rfl, h⟩
  | succ j => simp at e⟩
/-- the texts that a tuple holds -/
def strOf (u : V) : Option Str := match u with
  | .str z => some z
  | _ => none
def txsOf (o : Option HO) : List Str := match o with
  | some (.tup xs) => xs.filterMap strOf
  | _ => []
def zsOf (H : Hp) (v : V) : List Str := match v with
  | .ref p => txsOf (H p)
  | _ => []
theorem zs_at {H : Hp} {p : Addr} {zs : List Str} (h : H p = some (.tup (zs.map V.str))) : zsOf H (.ref p) = zs := by
  show txsOf (H p) = zs
  rw [h]
  show List.filterMap strOf (zs.map V.str) = zs
  rw [List.filterMap_map]
  exact List.filterMap_some
theorem Tups.map {H : Hp} {vs : List V} {S : List (List Str)} (h : Tups H vs S) : vs.map (zsOf H) = S := by
  refine List.ext_getElem? fun j => ?_
  rw [List.getElem?_map]
  cases e : S[j]? with
  | none =>
    have : vs[j]? = none := by
      rw [List.getElem?_eq_none_iff] at e ⊢
      rw [h.1]
      exact e
    rw [this] <;> rfl
  | some zs =>
    obtain ⟨p, a, b⟩ := h.2 j zs e
    rw [a]
    show some (zsOf H (.ref p)) = some zs
    rw [zs_at b]
theorem Tups.at {H : Hp} {vs : List V} {S : List (List Str)} (h : Tups H vs S) {v : V} (hv : v ∈ vs) : ∃ p, v = .ref p ∧ H p = some (.tup ((zsOf H v).map V.str)) := by
  obtain ⟨j, hj, e⟩ := List.getElem_of_mem hv
  have hs : j < S.length := by rw [← h.1]; exact hj
  obtain ⟨p, a, b⟩ := h.2 j S[j] (List.getElem?_eq_getElem hs)
  rw [List.getElem?_eq_getElem hj, e] at a
  cases a
  exact ⟨p, rfl, by rw [zs_at b]; exact b⟩
theorem plus_txt : plus = txt [43] := by decide +kernel
theorem join_joinC : ∀ ts : List Tx, Str.join plus (ts.map txt) = txt (SP.joinC 43 ts)
  | [] => by decide +kernel
  | [p] => rfl
  | p :: q :: r => by
    have ih := join_joinC (q :: r)
    show txt p ++ plus ++ Str.join plus ((q :: r).map txt) = txt (p ++ 43 :: SP.joinC 43 (q :: r))
    rw [ih, plus_txt, txt_app, txt_app, List.append_assoc]
    rfl
theorem nm_no {t : Tx} (h : nmC t = true) : 43 ∉ t := fun z => by
  have := List.all_eq_true.mp (Bool.and_eq_true_iff.mp (Bool.and_eq_true_iff.mp h).2).2 43 z
  exact absurd this (by decide)
/-! ### the texts of labels differ -/
def lcode (ts : List Tx) : Tx := if ts = [] then [45] else SP.joinC 43 ts
theorem ltext_code {ts : List Tx} (nms : ∀ t ∈ ts, nmC t = true) : ltext (ts.map txt) = txt (lcode ts) := by
  unfold ltext lcode
  cases ts with
  | nil =>
    rw [if_pos (by decide +kernel), if_pos rfl]
    decide +kernel
  | cons y r =>
    have y0 : 0 < (txt y).length := by
      rw [txt_len]
      refine List.length_pos_iff.mpr fun e => ?_
      have := nms y List.mem_cons_self
      rw [e] at this
      exact absurd this (by decide)
    have jl : 0 < (Txt.join plus ((y :: r).map txt)).length := by
      rw [join_is]
      cases r with
      | nil => exact y0
      | cons z q =>
        show 0 < (txt y ++ plus ++ Str.join plus ((z :: q).map txt)).length
        rw [strLen_append, strLen_append]
        omega
    rw [if_neg (by omega), if_neg (by simp), join_is, join_joinC]
theorem lcode_inj {ts us : List Tx} (n1 : ∀ t ∈ ts, nmC t = true) (n2 : ∀ t ∈ us, nmC t = true) (e : lcode ts = lcode us) : ts = us := by
  have sp : ∀ ts : List Tx, (∀ t ∈ ts, nmC t = true) → ts ≠ [] → piecesC (lcode ts) = ts := fun ts h ne => by
    unfold lcode
    rw [if_neg ne]
    exact SP.split_join 43 ts ne fun t ht => nm_no (h t ht)
  have no : ∀ ts : List Tx, (∀ t ∈ ts, nmC t = true) → ts ≠ [] → lcode ts ≠ [45] := fun ts h ne z => by
    have q := sp ts h ne
    rw [z] at q
    have q2 : piecesC [45] = [[45]] := by decide
    rw [q2] at q
    have := h [45] (by rw [← q]; exact List.mem_singleton.mpr rfl)
    exact absurd this (by decide)
  by_cases a : ts = []
  · by_cases b : us = []
    · rw [a, b]
    · exact absurd (e.symm.trans (by rw [a]; rfl)) (no us n2 b)
  · by_cases b : us = []
    · exact absurd (e.trans (by rw [b]; rfl)) (no ts n1 a)
    · rw [← sp ts n1 a, ← sp us n2 b, e]
theorem ltext_inj {ys zs : List Str} (n1 : ys.all isNm = true) (n2 : zs.all isNm = true) (e : ltext ys = ltext zs) : ys = zs := by
  obtain ⟨ts, rfl⟩ := tx_of ys
  obtain ⟨us, rfl⟩ := tx_of zs
  rw [nms_is] at n1 n2
  have m1 : ∀ t ∈ ts, nmC t = true := fun t ht => List.all_eq_true.mp n1 t ht
  have m2 : ∀ t ∈ us, nmC t = true := fun t ht => List.all_eq_true.mp n2 t ht
  rw [ltext_code m1, ltext_code m2] at e
  rw [lcode_inj m1 m2 (txt_inj e)]
section
variable {P : Program} {w : World} {K : PySem.W.Frag} {mg : Str → Option Value} {base : Heap}
/-! ### marks_rank -/
def spRank : Sp := fun vs H Q _ => ∃ (p : Addr) (zs : List Str), vs = [.ref p] ∧ H p = some (.tup (zs.map V.str)) ∧ ∀ kv H', (∀ b o, H b = some o → H' b = some o) → SortH.IsKey kv ((zs.length : Int), zs) H' → Q kv H'
theorem ok_rank {f : Addr} {fd : FuncData} (F : Fun K "marks_rank" "marks_rank" sRank f fd) (Z : Zn mg) (zT : mg "tuple" = none) : FnOk P w K mg base CX0 1 f fd ["marks"] spRank := by
  refine F.ok (N := ["marks"]) ⟨rfl, rfl, rfl, by decide +kernel, rfl, by decide +kernel, by decide +kernel⟩ (fun vs H Q E h => ?_) (fun cdv A outer_ s H vs Q E hr h => ?_)
  · obtain ⟨p, zs, rfl, _⟩ := h
    rfl
  · obtain ⟨p, zs, rfl, hp, k⟩ := h
    refine ⟨_, pss_one (ps_ret (pe_tup (pa_cons (pe_callB call_len_seq (by rfl) Z.zLen PySem.boot_len (pa_cons (pv 0) pa_nil)) (pa_cons (pe_callTy call_tuple_of (by rfl) zT (by decide +kernel) (pa_cons (pv 0) pa_nil)) pa_nil)))), ?_⟩
    refine ⟨_, rfl, p, zs.map V.str, rfl, .inr (SqT.of hp), _, rfl, p, zs.map V.str, rfl, .inr ⟨SqT.of hp, by show 2 ≤ sizeLine; decide, fun t ht => ?_⟩⟩
    rw [List.length_map]
    refine k _ _ (fun b o e => ?_) ⟨t, p, rfl, upd_same, ?_⟩
    · rw [upd_ne (ne_of_none e ht)]
      exact e
    · rw [upd_ne (ne_of_none hp ht)]
      exact hp
end
end K18
namespace K18
open PySem L2 SR
theorem seqT_same {H H' : Hp} {a : Addr} {xs : List V} (e : Same H H') (h : SqT K H a xs) : SqT K H' a xs := by
  rcases h with (h | ⟨o, h⟩) | h
  · exact .inl (.inl (e _ _ h))
  · exact .inl (.inr ⟨o, e _ _ h⟩)
  · exact .inr h

/-! ### label_rank, in_order -/
/-- a label with these marks, or what is none -/
inductive It (K : PySem.W.Frag) (C : Addr) (H : Hp) : V → Option (List Str) → Prop
  | lab {b : Addr} {ys : List Str} : Lb C H b ys → It K C H (.ref b) (some ys)
  | odd {v : V} {T : String} : EqO.BtV K H v T → It K C H v none
theorem bt_same {K : PySem.W.Frag} {H H' : Hp} {v : V} {T : String} (h : EqO.BtV K H v T) (s : Same H H') : EqO.BtV K H' v T := by
  cases h with
  | non => exact .non
  | bl b => exact .bl b
  | int i => exact .int i
  | str x => exact .str x
  | lst e => exact .lst (s _ _ e)
  | tup e => exact .tup (s _ _ e)
  | dic e => exact .dic (s _ _ e)
  | dcT e => exact .dcT (s _ _ e)
  | kTup e c => exact .kTup e c
theorem It.same {K : PySem.W.Frag} {C : Addr} {H H' : Hp} {v : V} {o : Option (List Str)} (h : It K C H v o) (s : Same H H') : It K C H' v o := by
  cases h with
  | lab h => exact .lab (h.same s)
  | odd h => exact .odd (bt_same h s)
/-- the marks of what stands there -/
def marksAt (H : Hp) : V → List Str
  | .ref a => match H a with
    | some (.ins _ _ fs) => match fs.lookup ("_marks" : Str) with
      | some u => zsOf H u
      | _ => []
    | _ => []
  | _ => []
theorem marks_at {C : Addr} {H : Hp} {a : Addr} {ys : List Str} (h : Lb C H a ys) : marksAt H (.ref a) = ys := by
  obtain ⟨_, _, _, dx, t, h1, h2⟩ := h
  show (match H a with | some (.ins _ _ fs) => _ | _ => _) = _
  rw [h1]
  exact zs_at h2
/-- the entries of the dict of labels -/
abbrev Ent := Addr × List Str
def enc (e : Ent) : Key × V := (.inr (ltext e.2), .ref e.1)
def putL (L : List Ent) (b : Addr) (ys : List Str) : List Ent := if (L.any fun e => decide (e.2 = ys)) = true then L.map fun e => if e.2 = ys then (b, ys) else e else L ++ [(b, ys)]
theorem putL_enc {L : List Ent} {b : Addr} {ys : List Str} (n : ys.all isNm = true) (ns : ∀ e ∈ L, e.2.all isNm = true) : putK (L.map enc) (.inr (ltext ys)) (.ref b) = (putL L b ys).map enc := by
  have eq : ∀ e ∈ L, decide ((enc e).1 = .inr (ltext ys)) = decide (e.2 = ys) := fun e he => by
    by_cases q : e.2 = ys
    · rw [decide_eq_true q]
      exact decide_eq_true (by show (Sum.inr (ltext e.2) : Key) = _; rw [q])
    · rw [decide_eq_false q]
      exact decide_eq_false fun z => q (ltext_inj (ns e he) n (Sum.inr.inj z))
  have an : ((L.map enc).any fun kv => decide (kv.1 = .inr (ltext ys))) = L.any fun e => decide (e.2 = ys) := by
    rw [List.any_map]
    have : ∀ M : List Ent, (∀ e ∈ M, e ∈ L) → M.any ((fun kv : Key × V => decide (kv.1 = .inr (ltext ys))) ∘ enc) = M.any fun e => decide (e.2 = ys) := fun M => by
      induction M with
      | nil => intro _; rfl
      | cons e M ih =>
        intro h
        rw [List.any_cons, List.any_cons, ih fun x hx => h x (List.mem_cons_of_mem _ hx)]
        exact congrArg (· || _) (eq e (h e List.mem_cons_self))
    exact this L fun _ h => h
  unfold putK putL
  rw [an]
  by_cases c : (L.any fun e => decide (e.2 = ys)) = true
  · rw [if_pos c, if_pos c, List.map_map, List.map_map]
    refine List.map_congr_left fun e he => ?_
    show (if (enc e).1 = .inr (ltext ys) then _ else _) = enc (if e.2 = ys then (b, ys) else e)
    by_cases q : e.2 = ys
    · rw [if_pos q, if_pos (of_decide_eq_true ((eq e he).trans (decide_eq_true q)))]
      show ((enc e).1, V.ref b) = enc (b, ys)
      unfold enc
      rw [q]
    · rw [if_neg q, if_neg (of_decide_eq_false ((eq e he).trans (decide_eq_false q)))]
  · rw [if_neg c, if_neg c, List.map_append]
    rfl
theorem putL_snd (L : List Ent) (b : Addr) (ys : List Str) : (putL L b ys).map (·.2) = if ys ∈ L.map (·.2) then L.map (·.2) else L.map (·.2) ++ [ys] := by
  have e : ((L.any fun e => decide (e.2 = ys)) = true) ↔ ys ∈ L.map (·.2) := by
    rw [List.any_eq_true, List.mem_map]
    exact ⟨fun ⟨x, h1, h2⟩ => ⟨x, h1, of_decide_eq_true h2⟩, fun ⟨x, h1, h2⟩ => ⟨x, h1, decide_eq_true h2⟩⟩
  unfold putL
  by_cases c : ys ∈ L.map (·.2)
  · rw [if_pos (e.mpr c), if_pos c, List.map_map]
    refine List.map_congr_left fun x _ => ?_
    show (if x.2 = ys then (b, ys) else x).2 = x.2
    by_cases q : x.2 = ys
    · rw [if_pos q, q]
    · rw [if_neg q]
  · rw [if_neg fun z => c (e.mp z), if_neg c, List.map_append]
    rfl
theorem putL_mem {L : List Ent} {b : Addr} {ys : List Str} {e : Ent} (h : e ∈ putL L b ys) : e = (b, ys) ∨ e ∈ L := by
  unfold putL at h
  split at h
  · obtain ⟨x, hx, rfl⟩ := List.mem_map.mp h
    by_cases q : x.2 = ys
    · rw [if_pos q]; exact .inl rfl
    · rw [if_neg q]; exact .inr hx
  · rcases List.mem_append.mp h with h | h
    · exact .inr h
    · exact .inl (List.mem_singleton.mp h)
theorem putL_len (L : List Ent) (b : Addr) (ys : List Str) : (putL L b ys).length ≤ L.length + 1 := by
  unfold putL
  split
  · rw [List.length_map]; omega
  · rw [List.length_append]; exact Nat.le_refl _
section
variable {P : Program} {w : World} {K : PySem.W.Frag} {mg : Str → Option Value} {base : Heap}
variable {C gE gL gS gR gH pM gM : Addr} {dE dL dS dR dH dG : FuncData}
def spLRank (C : Addr) : Sp := fun vs H Q _ => ∃ (a : Addr) (ys : List Str), vs = [.ref a] ∧ Lb C H a ys ∧ ∀ kv H', (∀ b o, H b = some o → H' b = some o) → SortH.IsKey kv (keyOf ys) H' → Q kv H'
theorem ok_lbrank {f fR : Addr} {fd dR : FuncData} (F : Fun K "label_rank" "label_rank" sLRank f fd) (M : LabM K mg C gE gL gS gR gH pM gM dE dL dS dR0 dH dG) (Z : Zn mg) (zT : mg "tuple" = none) (AR : At K mg "marks_rank" sRank ["marks"] fR dR) : FnOk P w K mg base CX0 3 f fd ["label"] (spLRank C) := by
  have GR : FnOk P w K mg base CX0 1 fR dR ["marks"] spRank := ok_rank AR.F Z zT
  have GG : FnOk P w K mg base CX0 1 gM dG ["self"] (getSp C "_marks") := ok_get M
  refine F.ok (N := ["label"]) ⟨rfl, rfl, rfl, by decide +kernel, rfl, by decide +kernel, by decide +kernel⟩ (fun vs H Q E h => ?_) (fun cdv A outer_ s H vs Q E hr h => ?_)
  · obtain ⟨a, ys, rfl, _⟩ := h
    rfl
  · obtain ⟨a, ys, rfl, lb, k⟩ := h
    refine ⟨_, pss_one (ps_ret (pe_call GR (hr.mono (by decide)) (by rfl) AR.m AR.F.kp AR.b .nil pass0 (pa_cons (pe_prop (E := E0) (pv 0) M.cl M.pr GG hr M.bM .nil pass0 rfl) pa_nil))), ?_⟩
    obtain ⟨nx, l4, sx, dx, t, ha, ht⟩ := id lb
    exact ⟨_, rfl, a, dx, _, rfl, ha, a, dx, _, .ref t, rfl, ha, rfl, t, ys, rfl, ht, k⟩
def spIO (K : PySem.W.Frag) (C CL : Addr) : Sp := fun vs H Q E => ∃ (a : Addr) (xs : List V) (os : List (Option (List Str))), vs = [.ref a] ∧ (SqL K H a xs ∨ SqT K H a xs) ∧ xs.length ≤ 60 ∧ os.length = xs.length ∧ (∀ (i : Nat) v o, xs[i]? = some v → os[i]? = some o → It K C H v o) ∧
  (∀ (i : Nat) v, xs[i]? = some v → os[i]? = some none → (∀ j : Nat, j < i → os[j]? ≠ some none) → Bad "value" CL H v E) ∧
  (∀ S : List (List Str), os = S.map some → ∀ (zs : List Addr) (M : List (List Str)) H' p, Same H H' → H p = none → H' p = some (.lst (zs.map V.ref)) → zs.length = M.length → (∀ (j : Nat) z t, zs[j]? = some z → M[j]? = some t → Lb C H z t) → M.Nodup → (∀ t, t ∈ M ↔ t ∈ S) → InOrd M → Q (.ref p) H')
theorem scIO : FnScope ["labels", "found", "label"] ["labels"] (defScope sOrder) := ⟨rfl, rfl, rfl, by decide +kernel, rfl, by decide +kernel, by decide +kernel⟩
/-- what stands behind i labels -/
def Found (C : Addr) (H : Hp) (os : List (Option (List Str))) (d : Addr) (i : Nat) (H' : Hp) : Prop := Same H H' ∧ (∀ j : Nat, j < i → os[j]? ≠ some none) ∧ ∃ L : List Ent, H' d = some (.dK (L.map enc)) ∧ L.length ≤ i ∧ (∀ e ∈ L, Lb C H e.1 e.2) ∧ (L.map (·.2)).Nodup ∧ ∀ t, t ∈ L.map (·.2) ↔ some t ∈ os.take i
theorem Found.more {C : Addr} {H H' : Hp} {os : List (Option (List Str))} {d b : Addr} {i : Nat} {ys : List Str} {L : List Ent} (hd : H d = none) (s : Same H H') (no : ∀ j : Nat, j < i → os[j]? ≠ some none) (l : L.length ≤ i) (lbs : ∀ e ∈ L, Lb C H e.1 e.2) (nd : (L.map (·.2)).Nodup) (mm : ∀ t, t ∈ L.map (·.2) ↔ some t ∈ os.take i)
    (lb : Lb C H b ys) (ho : os[i]? = some (some ys)) : Found C H os d (i + 1) (upd H' d (.dK (putK (L.map enc) (.inr (ltext ys)) (.ref b)))) := by
  refine ⟨fun c o e => by rw [upd_ne (ne_of_none e hd)]; exact s c o e, fun j hj => ?_, putL L b ys, by rw [upd_same, putL_enc lb.1 fun e he => (lbs e he).1], by have := putL_len L b ys; omega, fun e he => ?_, ?_, fun t => ?_⟩
  · by_cases e : j = i
    · rw [e, ho]; intro z; cases z
    · exact no j (by omega)
  · rcases putL_mem he with rfl | he
    · exact lb
    · exact lbs e he
  · rw [putL_snd]
    split
    · exact nd
    · rename_i c
      refine List.nodup_append.mpr ⟨nd, List.nodup_cons.mpr ⟨List.not_mem_nil, .nil⟩, fun a ha b' hb e => ?_⟩
      rw [List.mem_singleton.mp hb] at e
      exact c (e ▸ ha)
  · rw [putL_snd, take_snoc ho, List.mem_append, ← mm t]
    split
    · rename_i c
      exact ⟨.inl, fun z => z.elim id fun z => by rw [Option.some.inj (List.mem_singleton.mp z)]; exact c⟩
    · rw [List.mem_append]
      exact ⟨fun z => z.imp id fun z => by rw [List.mem_singleton.mp z]; exact List.mem_singleton.mpr rfl, fun z => z.imp id fun z => by rw [Option.some.inj (List.mem_singleton.mp z)]; exact List.mem_singleton.mpr rfl⟩
theorem ok_inorder {CL fCh fK fR fL f : Addr} {dL dCh dK dR dL' fd : FuncData} (F : Fun K "in_order" "in_order" sOrder f fd) (M : LabM K mg C gE gL gS gR gH pM gM dE dL dS dR0 dH dG) (Z : Zn mg) (zT : mg "tuple" = none) (zL : mg "list" = none) (zO : mg "sorted" = none)
    (AC : At K mg "check_label" sCheck ["value"] fCh dCh) (AR : At K mg "marks_rank" sRank ["marks"] fR dR) (AK : At K mg "label_rank" sLRank ["label"] fK dK) (T : IL K mg CL fL dL') : FnOk P w K mg base (L2.CX P w) 6 f fd ["labels"] (spIO K C CL) := by
  have GC : FnOk P w K mg base (L2.CX P w) 3 fCh dCh ["value"] (spCheck K C CL) := ok_check AC.F T M Z
  have GS : FnR P w K mg base CX0 1 gS (fun vs H Q E => spStr C (vs ++ []) H Q E) := (ok_str M Z).raw M.bS .nil
  have GK : FnR P w K mg base CX0 3 fK (fun vs H Q E => spLRank C (vs ++ []) H Q E) := (ok_lbrank AK.F M Z zT AR).raw AK.b .nil
  refine F.okX scIO (fun vs H Q E h => ?_) (fun cdv A outer_ s H vs Q E hr h => ?_)
  · obtain ⟨a, xs, os, rfl, _⟩ := h
    rfl
  · obtain ⟨a, xs, os, rfl, hS, few, lo, its, kb, k⟩ := h
    have h3 := hr.mono (j := 3) (by decide)
    have h5 := hr.mono (j := 5) (by decide)
    refine ⟨_, pss_cons (ps_set (i := 1) scIO.nd rfl (Or.inl rfl) pe_dnewK)
      (pss_cons (ps_for (passes_of rfl) rfl (pi_seq (pv 0)) (pg_name (i := 2) scIO.nd rfl (Or.inl rfl)) (pss_cons (ps_expr (pe_call (E := E) GC h3 (by rfl) AC.m AC.F.kp AC.b .nil (CmS.passE (takes_of rfl rfl rfl rfl)) (pa_cons (pv 2) pa_nil)))
        (pss_one (ps_dput (hu_of hr) (pv 1) (pe_callTy (EqO.call_strO M.fS M.iS GS (E := E0) h3 pass0) (by rfl) Z.zStr (by decide +kernel) (pa_cons (pv 2) pa_nil)) (pv 2) rfl))))
      (pss_one (ps_ret (pe_callBK (SortH.cr_sortK GK h5.in1.in1 h5.in1.in1.units0) (by rfl) zO (by decide +kernel) (pa_cons (LvV.pe_listValues rfl (pv 1) (by rfl) zL) pa_nil) (pk_cons (pe_glob (v := .ref fK) (by rfl) AK.m rfl) pk_nil))))), ?_⟩
    have hsl : sizeLine = 16777216 := sizeLine_eq
    refine fun d hd => ?_
    have sm0 := same_upd (o := HO.dK []) hd
    have f0 : (upd H d (.dK [])) d = some (.dK []) := upd_same
    revert sm0 f0
    generalize upd H d (.dK []) = H0
    intro sm0 f0
    have P0 : Found C H os d 0 H0 := ⟨sm0, fun j hj => absurd hj (Nat.not_lt_zero _), [], f0, Nat.le_refl _, (fun _ z => nomatch z), List.nodup_nil, fun t => ⟨(fun z => nomatch z), (fun z => nomatch z)⟩⟩
    clear sm0 f0
    -- one turn
    have turn : ∀ (i : Nat) (v : V) (σ : L2.St) (H' : Hp) (D : Ends), xs[i]? = some v → (Found C H os d i H' ∧ ∃ m, σ = [some (.ref a), some (.ref d), m]) → D.nx = (fun σ H' => Found C H os d (i + 1) H' ∧ ∃ m, σ = [some (.ref a), some (.ref d), m]) →
        gName 2 v σ H' fun σ2 H2 => tSeq (tDrop (tCall (spCheck K C CL) [] E (tCons (tVar 2) tNil))) (sDPut (tVar 1) (tCB (EqO.rTxtO C (fun vs H Q E => spStr C (vs ++ []) H Q E) E0) (tCons (tVar 2) tNil)) (tVar 2)) D σ2 H2 := by
      rintro i v σ H' D hv ⟨⟨sm, no, L, hL, lL, lbs, nd, mm⟩, m, rfl⟩ hD
      have ix : i < os.length := by rw [lo]; exact (List.getElem?_eq_some_iff.mp hv).1
      have ho := List.getElem?_eq_getElem ix
      have it := its i v _ hv ho
      cases e : os[i] with
      | none =>
        rw [e] at it ho
        cases it with
        | odd bt => exact ⟨_, rfl, v, rfl, .inl ⟨⟨_, bt_same bt sm⟩, bad_of sm (kb i v hv ho no)⟩⟩
      | some ys =>
        rw [e] at it ho
        cases it with
        | @lab b _ lb =>
          have lb' := lb.same sm
          obtain ⟨dx, fs, hi⟩ := lb'.ins
          refine ⟨_, rfl, .ref b, rfl, .inr ⟨b, ys, rfl, lb', ?_⟩⟩
          refine ⟨_, rfl, _, rfl, _, rfl, b, dx, fs, rfl, hi, b, ys, rfl, lb', ltext ys, rfl, d, _, rfl, DPut.k (k := .inr (ltext ys)) hL (by rw [List.length_map, hsl]; have := (List.getElem?_eq_some_iff.mp hv).1; omega), ?_⟩
          rw [hD]
          exact ⟨Found.more hd sm no lL lbs nd mm lb ho, _, rfl⟩
    have fin : ∀ (σ : L2.St) (H1 : Hp), (Found C H os d xs.length H1 ∧ ∃ m, σ = [some (.ref a), some (.ref d), m]) → tRet (tCKw (SortH.rSortK K (fun vs H Q E => spLRank C (vs ++ []) H Q E) fK) (tCons (LvV.tListVals (tVar 1)) tNil) (tCons (tC (V.ref fK)) tNil)) { nx := fun x H' => Q V.non H', rt := Q } σ H1 := by
      rintro σ H1 ⟨⟨sm, no, L, hL, lL, lbs, nd, mm⟩, m, rfl⟩
      rw [List.take_of_length_le (by rw [lo]; exact Nat.le_refl _)] at mm
      refine ⟨_, rfl, d, _, rfl, hL, fun l hl => ?_⟩
      have sml : Same H (upd H1 l (.lst ((L.map enc).map (·.2)))) := sm.trans (same_upd hl)
      have el : (L.map enc).map (·.2) = L.map fun e => V.ref e.1 := by rw [List.map_map]; rfl
      rw [el] at sml ⊢
      have hl2 : (upd H1 l (.lst (L.map fun e => V.ref e.1))) l = some (.lst (L.map fun e => V.ref e.1)) := upd_same
      revert sml hl2
      generalize upd H1 l (.lst (L.map fun e => V.ref e.1)) = H2
      intro sml hl2
      have all : ∃ S : List (List Str), os = S.map some := by
        have z : ∀ ps : List (Option (List Str)), (∀ o ∈ ps, o ≠ none) → ∃ S : List (List Str), ps = S.map some := fun ps => by
          induction ps with
          | nil => exact fun _ => ⟨[], rfl⟩
          | cons o ps ih =>
            intro h
            obtain ⟨S, e⟩ := ih fun x hx => h x (List.mem_cons_of_mem _ hx)
            cases o with
            | none => exact absurd rfl (h none List.mem_cons_self)
            | some t => exact ⟨t :: S, by rw [e]; rfl⟩
        refine z os fun o ho e => ?_
        obtain ⟨j, hj, q⟩ := List.getElem_of_mem ho
        exact no j (by rw [← lo]; exact hj) (by rw [List.getElem?_eq_getElem hj, q, e])
      obtain ⟨S, eS⟩ := all
      refine ⟨l, L.map fun e => V.ref e.1, fun v => keyOf (marksAt H v), rfl, rfl, SqL.of hl2, fun x hx H3 k3 => ?_, fun ys H3 p pm pw k3 hp hL3 => ?_⟩
      · obtain ⟨e, he, rfl⟩ := List.mem_map.mp hx
        have lb := lbs e he
        refine ⟨e.1, e.2, rfl, lb.same (sml.trans k3), fun kv H4 k4 ik => ⟨k4, ?_⟩⟩
        show SortH.IsKey kv (keyOf (marksAt H (.ref e.1))) H4
        rw [marks_at lb]
        exact ik
      · have refs : ∃ zs : List Addr, ys = zs.map V.ref := by
          have z : ∀ us : List V, (∀ u ∈ us, u ∈ L.map fun e => V.ref e.1) → ∃ zs : List Addr, us = zs.map V.ref := fun us => by
            induction us with
            | nil => exact fun _ => ⟨[], rfl⟩
            | cons u us ih =>
              intro h
              obtain ⟨zs, e⟩ := ih fun x hx => h x (List.mem_cons_of_mem _ hx)
              obtain ⟨q, _, rfl⟩ := List.mem_map.mp (h u List.mem_cons_self)
              exact ⟨q.1 :: zs, by rw [e]; rfl⟩
          exact z ys fun u hu => pm.mem_iff.mp hu
        obtain ⟨zs, rfl⟩ := refs
        have lbz : ∀ z ∈ zs, Lb C H z (marksAt H (.ref z)) := fun z hz => by
          obtain ⟨e, he, q⟩ := List.mem_map.mp (pm.mem_iff.mp (List.mem_map.mpr ⟨z, hz, rfl⟩))
          have lb := lbs e he
          rw [V.ref.inj q] at lb
          rw [marks_at lb]
          exact lb
        have pm2 : ((zs.map V.ref).map (marksAt H)).Perm (L.map (·.2)) := by
          have q := pm.map (marksAt H)
          rw [List.map_map (l := L)] at q
          rw [show (L.map fun e => e.2) = L.map (marksAt H ∘ fun e : Ent => V.ref e.1) from List.map_congr_left fun e he => (marks_at (lbs e he)).symm]
          exact q
        refine k S eS zs ((zs.map V.ref).map (marksAt H)) H3 p (sml.trans k3) (sml.free hp) hL3 (by rw [List.length_map, List.length_map]) (fun j z t hz ht => ?_) (pm2.nodup_iff.mpr nd) (fun t => ?_) ?_
        · rw [List.map_map, List.getElem?_map, hz] at ht
          cases ht
          exact lbz z (List.mem_of_getElem? hz)
        · rw [pm2.mem_iff, mm, eS, List.mem_map]
          exact ⟨fun ⟨u, hu, e⟩ => Option.some.inj e ▸ hu, fun hu => ⟨t, hu, rfl⟩⟩
        · exact List.pairwise_map.mpr (pw.imp fun h => h)
    refine ⟨_, rfl, a, xs, rfl, ?_⟩
    rcases hS with hS | hS
    · refine .inl ⟨P0.1.seq hS, for_list (xs := xs) (fun i σ H' => Found C H os d i H' ∧ ∃ m, σ = [some (.ref a), some (.ref d), m]) ⟨P0, none, rfl⟩ (fun i σ H' _ q => q.1.1.seq hS) ?_ fin⟩
      exact fun i v σ H' hv p => turn i v σ H' _ hv p rfl
    · refine .inr ⟨seqT_same P0.1 hS, for_tup (xs := xs) (fun i σ H' => Found C H os d i H' ∧ ∃ m, σ = [some (.ref a), some (.ref d), m]) ⟨P0, none, rfl⟩ (fun i σ H' _ q => seqT_same q.1.1 hS) ?_ fin⟩
      exact fun i v σ H' hv p => turn i v σ H' _ hv p rfl
end
end K18
namespace K18
open PySem L2 LamX OwE
theorem takes_len {X : Cx} {W : WX} (t : Takes X W) : Takes X fun c d σ H => σ.length = X.N.length → W c d σ H := fun u s' x => by
  obtain ⟨a, B, sI, pins, σ, H, cls, d, e, I, nb, up, sky, na, os, ag, w⟩ := x
  exact t u s' ⟨a, B, sI, pins, σ, H, cls, d, e, I, nb, up, sky, na, os, ag, w I.len⟩
/-! ### _law_told -/
abbrev nTo : List Str := ["_law_call", "_law_told_here", "_law_e"]
theorem scTo : FnScope nTo ["_law_call"] (defScope sLTold) := ⟨rfl, rfl, rfl, by decide +kernel, rfl, by decide +kernel, by decide +kernel⟩
/-- the three that are caught: InvalidLabel, InvalidName, TooMany -/
inductive E3 where
  | lab | nam | man
def E3.k : E3 → Nat
  | .lab => 1
  | .nam => 0
  | .man => 40
def rShow (R : V → Hp → PyData → Prop) : List V → Hp → VK → Prop := fun xs H Q => ∃ v d, xs = [v] ∧ R v H d ∧ Q (.str d.shown) H
/-- what is called leaves with one of the three; what is told of it -/
def TTo (R : V → Hp → PyData → Prop) (C : Nat → Addr) : (XK → Hp → VK → Prop) → Hp → VK → Prop := fun tl H Q => ∀ t0, H t0 = none → ∀ Qv : VK,
  tl (fun cls d H2 => ∃ (ek : E3) (dd t : Addr) (fs : List (Str × V)) (ws : List V), cls = .ref (C ek.k) ∧ d = some dd ∧ H2 dd = some (.xd fs) ∧ List.lookup ("_told" : Str) fs = some (V.ref t) ∧ H2 t = some (.tup ws) ∧ ws.length ≤ 3 ∧
    ∀ H3 p, Same H2 H3 → H3 p = some (.tup (.str (cl4 ek.k).n :: ws)) → ∃ dt, R (.ref p) H3 dt ∧ Q (.str dt.shown) H3) (upd H t0 (.tup [.str "other"])) Qv
/-- the classes, caught -/
structure TEnv (K : PySem.W.Frag) (mg : Str → Option Value) (C : Nat → Addr) (fT : Addr) (dT : FuncData) : Prop where
  te : ∀ k, k < 42 → TeC K (C k) (cl4 k).n
  m : ∀ e : E3, mg (cl4 e.k).n = some (.ref (C e.k))
  ll : PySem.W.exmOne K (.ref (C 1)) (.ref (C 1)) = some true
  nl : PySem.W.exmOne K (.ref (C 0)) (.ref (C 1)) = some false
  nn : PySem.W.exmOne K (.ref (C 0)) (.ref (C 0)) = some true
  ml : PySem.W.exmOne K (.ref (C 40)) (.ref (C 1)) = some false
  mn : PySem.W.exmOne K (.ref (C 40)) (.ref (C 0)) = some false
  mm : PySem.W.exmOne K (.ref (C 40)) (.ref (C 40)) = some true
  A : At K mg "told_error" sTold ["error"] fT dT
  zR : mg "repr" = none
section
variable {X : Cx} {C : Nat → Addr} {fT : Addr} {dT : FuncData} {R : V → Hp → PyData → Prop}
theorem told_gives {g : Addr} {cdg : Value} {q : Str} (T : TEnv X.K X.mg C fT dT)
    (hr : ∀ (s : Shared), L2H.RoomH 1 (X.A.deeper (PyProof.Rows.envOfC "_law_told" (defScope sLTold) s.heap.objs.size g cdg)))
    (RP : ∀ (s : Shared) (H : Hp), CallR ((cxOf C8.CX0 X.prog X.w X.K X.mg X.base nTo "_law_told" (defScope sLTold) g cdg X.A X.stack s H C8.E0).nox) (.builtin "repr") (rShow R)) :
    GivesTo X nTo "_law_told" (defScope sLTold) g cdg (defBody sLTold) "_law_call" q (TTo R C) := by
  intro f c' s H Q tl act hc h
  have hrS : ∀ (a : Addr) (s : Shared), L2H.RoomH 1 ((X.A.deeper (PyProof.Rows.envOfC "_law_told" (defScope sLTold) s.heap.objs.size g cdg)).mark (some (.ref a))) := fun a s => ⟨(hr s).dp, (hr s).un⟩
  refine ⟨_, pss_cons (ps_set (i := 1) scTo.nd rfl (Or.inl rfl) (pe_tup (pa_cons pe_str pa_nil)))
    (pss_cons (TwT.ps_try (i := 2) (tb := fun W => tAsg (tTup (tCons (tC (.str "told")) (tCons (tCB (fun xs H Q => ∃ y : Str, xs = [.str y] ∧ (reprText y).length ≤ sizeLine ∧ Q (.str (reprText y)) H) (tCons (fun σZ HZ Q => ∃ Ech : XK, (∀ cls d H2, Ech cls d H2 → ∀ σ2 : L2.St, σ2.length = 3 → W cls d σ2 H2) ∧ σZ[0]? = some (some (.ref f)) ∧ HZ c' = some (CodeO c' q) ∧ tl Ech HZ Q) tNil)) tNil))) (gName 1)) (Wout := fun _ _ _ _ => False) rfl rfl scTo.nd rfl rfl L2.takes0
      (fun W pn xe tk _ => pss_one (ps_set (i := 1) scTo.nd rfl (Or.inl rfl) (pe_tup (pa_cons pe_str (pa_cons (pe_callB call_reprS (by rfl) T.zR (by decide +kernel) (pa_cons ?_ pa_nil)) pa_nil)))))
      (.one ⟨rfl, by decide, .inl (T.m .lab)⟩ (fun a oe cls d pn hz hf => pss_one (ps_set (i := 1) scTo.nd rfl (Or.inl rfl) (by exact ClN.pe_callQ (X := (cxOf C8.CX0 X.prog X.w X.K X.mg X.base nTo "_law_told" (defScope sLTold) g cdg X.A X.stack s H C8.E0).nox.suite a ((a, oe) :: pn)) (oe := oe) List.mem_cons_self hz hf (ok_teQ T.A.F) (hrS a s) (by rfl) T.A.m T.A.F.kp T.A.b (pa_cons (pv 2) pa_nil))))
        (.one ⟨rfl, by decide, .inl (T.m .nam)⟩ (fun a oe cls d pn hz hf => pss_one (ps_set (i := 1) scTo.nd rfl (Or.inl rfl) (by exact ClN.pe_callQ (X := (cxOf C8.CX0 X.prog X.w X.K X.mg X.base nTo "_law_told" (defScope sLTold) g cdg X.A X.stack s H C8.E0).nox.suite a ((a, oe) :: pn)) (oe := oe) List.mem_cons_self hz hf (ok_teQ T.A.F) (hrS a s) (by rfl) T.A.m T.A.F.kp T.A.b (pa_cons (pv 2) pa_nil))))
        (.one ⟨rfl, by decide, .inl (T.m .man)⟩ (fun a oe cls d pn hz hf => pss_one (ps_set (i := 1) scTo.nd rfl (Or.inl rfl) (by exact ClN.pe_callQ (X := (cxOf C8.CX0 X.prog X.w X.K X.mg X.base nTo "_law_told" (defScope sLTold) g cdg X.A X.stack s H C8.E0).nox.suite a ((a, oe) :: pn)) (oe := oe) List.mem_cons_self hz hf (ok_teQ T.A.F) (hrS a s) (by rfl) T.A.m T.A.F.kp T.A.b (pa_cons (pv 2) pa_nil)))) .nil))))
    (pss_one (ps_ret (pe_callB (RP s H) (by rfl) T.zR (by decide +kernel) (pa_cons (pv 1) pa_nil))))), ?_⟩
  · refine ⟨fun pins s2 σ H2 Q2 I z => ?_⟩
    obtain ⟨Ech, hW, h1, h2, h3⟩ := z
    have hp := fun p1 p2 => act (fun c d σ H => σ.length = 3 → W c d σ H) pn xe Ech p1 p2 (takes_len tk) fun cls d σ2 H2 he hl => hW cls d H2 he σ2 hl
    exact (hp _ _).run pins s2 σ H2 Q2 I ⟨h1, h2, h3⟩
  · refine ⟨by show 1 ≤ sizeLine; decide, fun t0 ht0 => ⟨_, fun cls d H2 he σ2 hl => ?_, rfl, same_upd ht0 _ _ hc, h t0 ht0 _⟩⟩
    obtain ⟨ek, dd, t, fs, ws, rfl, rfl, hx, lt, ht, l3, k⟩ := he
    match σ2, hl with
    | [x0, x1, x2], _ =>
      have lk : ek.k < 42 := by cases ek <;> decide
      have te := T.te ek.k lk
      have suite : ∀ (D : Ends) (a0 : Addr), (∀ H3 p, Same H2 H3 → H3 p = some (.tup (.str (cl4 ek.k).n :: ws)) → D.nx [x0, some (.ref p), some (.ref a0)] H3) →
          tAsg (ClN.tPinQ a0 (.ref (C ek.k)) (some dd) (spTeQ X.K) (tCons (tVar 2) tNil)) (gName 1) D [x0, x1, some (.ref a0)] H2 := fun D a0 q =>
        ⟨_, rfl, fun oe hz hf => ⟨C ek.k, dd, t, (cl4 ek.k).n, fs, ws, rfl, hz, hf, hx, te, lt, ht, l3, fun H3 p s3 hp => q H3 p s3 hp⟩⟩
      have fin : ∀ H3 p, Same H2 H3 → H3 p = some (.tup (.str (cl4 ek.k).n :: ws)) → tRet (tCB (rShow R) (tCons (tVar 1) tNil)) { nx := fun x H' => Q V.non H', rt := Q } [x0, some (.ref p), none] H3 := fun H3 p s3 hp => by
        obtain ⟨dt, r, q⟩ := k H3 p s3 hp
        exact ⟨_, rfl, _, dt, rfl, r, q⟩
      cases ek with
      | lab => exact ⟨true, T.ll, fun _ a0 _ => suite _ a0 fin, fun q => Bool.noConfusion q⟩
      | nam => exact ⟨false, T.nl, fun q => Bool.noConfusion q, fun _ => ⟨true, T.nn, fun _ a0 _ => suite _ a0 fin, fun q => Bool.noConfusion q⟩⟩
      | man => exact ⟨false, T.ml, fun q => Bool.noConfusion q, fun _ => ⟨false, T.mn, fun q => Bool.noConfusion q, fun _ => ⟨true, T.mm, fun _ a0 _ => suite _ a0 fin, fun q => Bool.noConfusion q⟩⟩⟩
end
end K18
namespace K18
open PySem L2 OwE DzR
abbrev nEr : List Str := ["_law_rng_here", "_law_k", "_law_some", "_law_one", "_law_two", "_law_three", "_law_bases", "_law_name", "_law_base", "_law_e", "_law_found", "_law_due", "_law_word"]
theorem scEr : FnScope nEr ["_law_rng_here", "_law_k"] (defScope sErrR) := ⟨rfl, rfl, rfl, by decide +kernel, rfl, by decide +kernel, by decide +kernel⟩
def rZ : List V → Hp → VK → Prop := fun xs H Q => ∃ v d, xs = [v] ∧ ShZ H v d ∧ Q (.str d.shown) H
end K18
namespace K18
open PySem L2 OwE DzR
/-- small data, as repr shows it -/
structure Vz (H : Hp) (v : V) (d : PyData) : Prop where
  at_ : Dz H v d
  sh : d.showable = true
  len : d.shown.length ≤ 200
  dp : d.depth ≤ 4
/-- all but the stock -/
theorem mk_kp {r : Addr} {H G : Hp} (k : Kp r H G) : ∀ b o, delH H r b = some o → delH G r b = some o := fun b o e => by
  by_cases n : b = r
  · rw [n, delH_same] at e
    cases e
  · rw [delH_ne n] at e ⊢
    exact k.1 b o n e
theorem mk_all {r : Addr} {H : Hp} : ∀ b o, delH H r b = some o → H b = some o := fun b o e => by
  by_cases n : b = r
  · rw [n, delH_same] at e
    cases e
  · rw [delH_ne n] at e
    exact e
theorem Vz.to {H G : Hp} {v : V} {d : PyData} (h : Vz H v d) (s : ∀ b o, H b = some o → G b = some o) : Vz G v d := ⟨h.at_.same s, h.sh, h.len, h.dp⟩
theorem Vz.same {H G : Hp} {v : V} {d : PyData} (h : Vz H v d) (s : Same H G) : Vz G v d := ⟨h.at_.same s, h.sh, h.len, h.dp⟩
section
variable {P : Program} {w : World} {K : PySem.W.Frag} {mg : Str → Option Value} {base : Heap}
theorem some_rd {g : Addr} {cdv : Value} {A : Around} {o_ : List Env} {s : Shared} {H0 : Hp} {E : XK} : ∃ t, PS (cxOf CX0 P w K mg base nEr "_law_error_right" (defScope sErrR) g cdv A o_ s H0 E).nox ((defBody sErrR).getD 0 (.Pass ⟨0, 0, 0, 0⟩)) t ∧
    ∀ (D : Ends) (H : Hp) (r : Addr) (hR : H r ≠ none) (x0 x1 x2 x3 x4 x5 x6 x7 x8 x9 x10 x11 x12 : Option V), (∀ H' p vs, Same H H' → H' p = some (.lst vs) → vs.length = 15 → p ≠ r → (∀ v ∈ vs, ∃ d, Vz (delH H' r) v d) → D.nx [x0, x1, some (.ref p), x3, x4, x5, x6, x7, x8, x9, x10, x11, x12] H') →
      t D [x0, x1, x2, x3, x4, x5, x6, x7, x8, x9, x10, x11, x12] H := by
  refine ⟨_, (ps_set (i := 2) scEr.nd rfl (Or.inl rfl) (pe_lst (pa_cons pe_int (pa_cons pe_int (pa_cons (pe_un un_neg pe_int) (pa_cons pe_str (pa_cons pe_str (pa_cons pe_str (pa_cons pe_non (pa_cons pe_bl (pa_cons (pe_tup (pa_cons pe_str (pa_cons pe_non pa_nil))) (pa_cons (pe_tup (pa_cons pe_int (pa_cons pe_int pa_nil))) (pa_cons (pe_tup pa_nil) (pa_cons (pe_disp (pps_cons pe_str pe_int pps_nil) rfl rfl (by simp) (by decide)) (pa_cons (pe_lst (pa_cons pe_str pa_nil)) (pa_cons (pe_op op_pow pe_int pe_int) (pa_cons pe_str pa_nil))))))))))))))))), ?_⟩
  intro D H r hR x0 x1 x2 x3 x4 x5 x6 x7 x8 x9 x10 x11 x12 go
  have ner : ∀ {G : Hp} {t : Addr}, Same H G → G t = none → t ≠ r := fun {G t} sm h z => by
    cases e : H r with
    | none => exact hR e
    | some o =>
      rw [z, sm _ _ e] at h
      cases h
  refine ⟨_, rfl, by show 2 ≤ sizeLine; decide, fun t1 h1 => ?_⟩
  have s1 := same_upd (o := HO.tup [.str "done", .non]) h1
  have e1 : (upd H t1 (HO.tup [.str "done", .non])) t1 = _ := upd_same
  revert s1 e1
  generalize upd H t1 (HO.tup [.str "done", .non]) = H1
  intro s1 e1
  refine ⟨by show 2 ≤ sizeLine; decide, fun t2 h2 => ?_⟩
  have s2 := same_upd (o := HO.tup [.int 1, .int 0]) h2
  have e2 : (upd H1 t2 (HO.tup [.int 1, .int 0])) t2 = _ := upd_same
  revert s2 e2
  generalize upd H1 t2 (HO.tup [.int 1, .int 0]) = H2
  intro s2 e2
  refine ⟨by show 0 ≤ sizeLine; decide, fun t3 h3 => ?_⟩
  have s3 := same_upd (o := HO.tup []) h3
  have e3 : (upd H2 t3 (HO.tup [])) t3 = _ := upd_same
  revert s3 e3
  generalize upd H2 t3 (HO.tup []) = H3
  intro s3 e3
  refine fun p4 h4 => ⟨upd_same, [(Sum.inr "-", .int 1)], rfl, by decide, ?_⟩
  have s4 : Same H3 (upd (upd H3 p4 (.dK [])) p4 (.dK (mergeK [] [(Sum.inr "-", .int 1)]))) := fun b o e => by
    have n := ne_of_none e h4
    rw [upd_ne n, upd_ne n]
    exact e
  have e4 : (upd (upd H3 p4 (.dK [])) p4 (.dK (mergeK [] [(Sum.inr "-", .int 1)]))) p4 = some (.dK [(Sum.inr "-", .int 1)]) := upd_same
  revert s4 e4
  generalize upd (upd H3 p4 (.dK [])) p4 (.dK (mergeK [] [(Sum.inr "-", .int 1)])) = H4
  intro s4 e4
  refine ⟨by show 1 ≤ sizeLine; decide, fun p5 h5 => ?_⟩
  have s5 := same_upd (o := HO.lst [.str "a"]) h5
  have e5 : (upd H4 p5 (HO.lst [.str "a"])) p5 = _ := upd_same
  revert s5 e5
  generalize upd H4 p5 (HO.lst [.str "a"]) = H5
  intro s5 e5
  refine ⟨_, _, rfl, rfl, ⟨by decide, by decide, by decide⟩, by show 15 ≤ sizeLine; decide, fun p hp => ?_⟩
  have s6 := same_upd (o := HO.lst [.int 0, .int 3, .int (-1), .str "a", .str "ward:-", .str "", .non, .bl true, .ref t1, .ref t2, .ref t3, .ref p4, .ref p5, .int (10 ^ 30), .str "place"]) hp
  refine go _ p _ (s1.trans (s2.trans (s3.trans (s4.trans (s5.trans s6))))) upd_same rfl (ner (s1.trans (s2.trans (s3.trans (s4.trans s5)))) hp) ?_
  have c5 := (delH_ne (ner (s1.trans (s2.trans (s3.trans s4))) h5)).trans (s6 _ _ e5)
  have c4 := (delH_ne (ner (s1.trans (s2.trans s3)) h4)).trans (s6 _ _ (s5 _ _ e4))
  have c3 := (delH_ne (ner (s1.trans s2) h3)).trans (s6 _ _ (s5 _ _ (s4 _ _ e3)))
  have c2 := (delH_ne (ner s1 h2)).trans (s6 _ _ (s5 _ _ (s4 _ _ (s3 _ _ e2))))
  have c1 := (delH_ne (ner (Same.refl H) h1)).trans (s6 _ _ (s5 _ _ (s4 _ _ (s3 _ _ (s2 _ _ e1)))))
  intro v hv
  simp only [List.mem_cons, List.not_mem_nil, or_false] at hv
  rcases hv with rfl | rfl | rfl | rfl | rfl | rfl | rfl | rfl | rfl | rfl | rfl | rfl | rfl | rfl | rfl
  · exact ⟨_, .int 0, by decide +kernel, by decide +kernel, by decide +kernel⟩
  · exact ⟨_, .int 3, by decide +kernel, by decide +kernel, by decide +kernel⟩
  · exact ⟨_, .int (-1), by decide +kernel, by decide +kernel, by decide +kernel⟩
  · exact ⟨_, .str _, by decide +kernel, by decide +kernel, by decide +kernel⟩
  · exact ⟨_, .str _, by decide +kernel, by decide +kernel, by decide +kernel⟩
  · exact ⟨_, .str _, by decide +kernel, by decide +kernel, by decide +kernel⟩
  · exact ⟨_, .non, by decide +kernel, by decide +kernel, by decide +kernel⟩
  · exact ⟨_, .bl true, by decide +kernel, by decide +kernel, by decide +kernel⟩
  · exact ⟨_, .tup c1 (.cons (.str _) (.cons .non .nil)), by decide +kernel, by decide +kernel, by decide +kernel⟩
  · exact ⟨_, .tup c2 (.cons (.int 1) (.cons (.int 0) .nil)), by decide +kernel, by decide +kernel, by decide +kernel⟩
  · exact ⟨_, .tup c3 .nil, by decide +kernel, by decide +kernel, by decide +kernel⟩
  · exact ⟨_, .dic (ks := ["-"]) c4 rfl (.cons (.int 1) .nil), by decide +kernel, by decide +kernel, by decide +kernel⟩
  · exact ⟨_, .lst c5 (.cons (.str _) .nil), by decide +kernel, by decide +kernel, by decide +kernel⟩
  · exact ⟨_, .int _, by decide +kernel, by decide +kernel, by decide +kernel⟩
  · exact ⟨_, .str _, by decide +kernel, by decide +kernel, by decide +kernel⟩
end
end K18
namespace K18
open PySem L2 OwE DzR PyProof.Rows
/-- small data in a row -/
inductive VzAll (H : Hp) : List V → List PyData → Prop
  | nil : VzAll H [] []
  | cons {v : V} {vs : List V} {d : PyData} {ds : List PyData} : Vz H v d → VzAll H vs ds → VzAll H (v :: vs) (d :: ds)
theorem VzAll.dz {H : Hp} : ∀ {vs : List V} {ds : List PyData}, VzAll H vs ds → DzAll H vs ds ∧ PyData.showableAll ds = true ∧ PyData.depthAll ds ≤ 4 ∧ ((PyData.shownAll ds).map (·.length)).sum ≤ 200 * ds.length ∧ (PyData.shownAll ds).length = ds.length ∧ vs.length = ds.length
  | _, _, .nil => ⟨.nil, by simp [PyData.showableAll], by simp [PyData.depthAll], by simp [PyData.shownAll], by simp [PyData.shownAll], rfl⟩
  | _, _, .cons (d := d) (ds := ds) a b => by
    obtain ⟨h1, h2, h3, h4, h5, h6⟩ := b.dz
    have := a.len
    have := a.dp
    refine ⟨.cons a.at_ h1, ?_, ?_, ?_, ?_, congrArg Nat.succ h6⟩
    · rw [PyData.showableAll, a.sh, h2]; rfl
    · rw [PyData.depthAll]; omega
    · rw [PyData.shownAll, List.map_cons, List.sum_cons, List.length_cons]; omega
    · rw [PyData.shownAll, List.length_cons, List.length_cons, h5]
theorem VzAll.same {H G : Hp} (s : Same H G) : ∀ {vs : List V} {ds : List PyData}, VzAll H vs ds → VzAll G vs ds
  | _, _, .nil => .nil
  | _, _, .cons a b => .cons (a.same s) (b.same s)
theorem tt_len (ts : List Str) : (tupleText ts).length ≤ 3 + (ts.map (·.length)).sum + 2 * ts.length := by
  have jl : ∀ ts : List Str, (Str.join ", " ts).length ≤ (ts.map (·.length)).sum + 2 * ts.length := fun ts => by
    induction ts with
    | nil => decide +kernel
    | cons t r ih =>
      cases r with
      | nil =>
        have : (Str.join ", " [t]).length = t.length := rfl
        rw [this, List.map_cons, List.sum_cons]
        omega
      | cons u r =>
        have : (Str.join ", " (t :: u :: r)).length = (t ++ (", " : String) ++ Str.join ", " (u :: r)).length := rfl
        have c : ((", " : String) : Str).length = 2 := by decide +kernel
        rw [this, strLen_append, strLen_append, List.map_cons, List.sum_cons, List.length_cons, c]
        omega
  unfold tupleText
  rw [strLen_append, strLen_append]
  have a := jl ts
  have e1 : ("(" : Str).length = 1 := by decide +kernel
  have e2 : (Str.ofString (if ts.length == 1 then ",)" else ")")).length ≤ 2 := by split <;> decide +kernel
  rw [e1]
  omega
theorem lt_len (ds : List PyData) : (PyData.list ds).shown.length ≤ 2 + ((PyData.shownAll ds).map (·.length)).sum + 2 * (PyData.shownAll ds).length := by
  simp only [PyData.shown]
  unfold listText
  rw [strLen_append]
  have b := textFrom_len_le (PyData.shownAll ds) 0 (Str.ofString "[")
  have e1 : (Str.ofString "[").length = 1 := by decide +kernel
  have e2 : (Str.ofString "]").length = 1 := by decide +kernel
  rw [e1] at b
  rw [e2]
  omega
theorem shz_lst {H : Hp} {p : Addr} {vs : List V} {ds : List PyData} (e : H p = some (.lst vs)) (a : VzAll H vs ds) (l : vs.length ≤ 20) : ShZ H (.ref p) (.list ds) := by
  obtain ⟨h1, h2, h3, h4, h5, h6⟩ := a.dz
  refine ⟨.lst e h1, ?_, ?_, ?_⟩
  · rw [PyData.showable]; exact h2
  · have := lt_len ds
    omega
  · rw [PyData.depth]; omega
theorem shz_tup {H : Hp} {p : Addr} {vs : List V} {ds : List PyData} (e : H p = some (.tup vs)) (a : VzAll H vs ds) (l : vs.length ≤ 20) : ShZ H (.ref p) (.tuple ds) := by
  obtain ⟨h1, h2, h3, h4, h5, h6⟩ := a.dz
  refine ⟨.tup e h1, ?_, ?_, ?_⟩
  · rw [PyData.showable]; exact h2
  · have := tt_len (PyData.shownAll ds)
    rw [PyData.shown]
    omega
  · rw [PyData.depth]; omega
theorem VzAll.take {H : Hp} (n : Nat) : ∀ {vs : List V} {ds : List PyData}, VzAll H vs ds → VzAll H (vs.take n) (ds.take n) := by
  induction n with
  | zero => exact fun _ => .nil
  | succ n ih =>
    intro vs ds a
    cases a with
    | nil => exact .nil
    | cons a b => exact .cons a (ih b)
theorem nm_vz : ∀ k, k < 42 → (PyData.str (nmK k)).showable = true ∧ (PyData.str (nmK k)).shown.length ≤ 200 ∧ (PyData.str (nmK k)).depth ≤ 4 := by decide +kernel
theorem cut_to (xs : List V) (n : Nat) : cutV xs none (some (n : Int)) = xs.take n := by
  unfold cutV
  rw [HT.sIx_none, List.drop_zero, Nat.sub_zero, HT.sIx_nat, List.take_eq_take_iff]
  omega
theorem base_atI : ∀ k : Nat, k < 42 → atI [V.str "InvalidError", .str "MissingError", .str "StateError", .str "LimitError"] ((if decide ((k : Int) > 14) = true then 1 else 0) + (if decide ((k : Int) > 23) = true then 1 else 0) + (if decide ((k : Int) > 39) = true then 1 else 0)) = some (.str (bsK k)) := by decide +kernel
theorem ns_3 : ∀ k, k < 42 → (cl4 k).ns.length ≤ 3 := by decide +kernel
theorem fl_data : ∀ k, k < 42 → SeqAt.shaped (.list (((List.range 46).map (isK k)).map PyData.bool)) = true ∧ PyData.eqv (.list (((List.range 46).map (isK k)).map PyData.bool)) (.list (((List.range 46).map (isK k)).map PyData.bool)) = true := by decide +kernel
theorem dp_bl {K : PySem.W.Frag} {H : Hp} : ∀ bs : List Bool, DpAll K H (bs.map V.bl) (bs.map PyData.bool)
  | [] => .nil
  | b :: bs => .cons (.bl b) (dp_bl bs)
theorem in_two (x a b : Str) : inV (.str x) [V.str a, V.str b] = (decide (x = a) || decide (x = b)) := by
  have h := inV_str x [a, b]
  rw [show ([a, b].map V.str) = [V.str a, V.str b] from rfl] at h
  rw [h]
  by_cases e : x = a
  · simp [e]
  · by_cases f : x = b
    · simp [f]
    · simp [e, f]
section
variable {P : Program} {w : World} {K : PySem.W.Frag} {mg : Str → Option Value} {base : Heap} {C : Nat → Addr}
theorem found_rd {D' : Ends} {σ : L2.St} {H : Hp} {k : Nat} {x : Addr} {ws : List V} (hk : k < 42) (h1 : σ[1]? = some (some (.int (k : Int)))) (h9 : σ[9]? = some (some (.ref x))) (mk : Made C k ws H x) (l : ws.length = (cl4 k).ns.length) (go : ∀ H' p, Same H H' → H' p = some (.lst ws) → D'.nx (σ.set 10 (some (.ref p))) H') :
    tAsg (tIf (tTest (tOp (rI0 fun i j => V.bl (decide (i < j))) (tVar 1) (tC (V.int 24)))) (tCall (spAt C 0 24) [] E0 (tCons (tVar 1) (tCons (tVar 9) tNil))) (tCall (spAt C 24 42) [] E0 (tCons (tVar 1) (tCons (tVar 9) tNil)))) (gName 10) D' σ H := by
  refine ⟨_, h1, _, _, rfl, rfl, _, rfl, ite2 (fun z => ?_) (fun z => ?_)⟩
  · have z := of_decide_eq_true z
    exact ⟨_, h1, _, h9, k, x, ws, rfl, by omega, by omega, mk, l, fun H' p s h => go H' p s h⟩
  · have z : ¬ ((k : Int) < 24) := fun e => z (decide_eq_true e)
    exact ⟨_, h1, _, h9, k, x, ws, rfl, by omega, by omega, mk, l, fun H' p s h => go H' p s h⟩
end
end K18
namespace K18
open PySem L2 OwE DzR
/-- what _law_error_right calls -/
structure ErEnv (P : Program) (w : World) (K : PySem.W.Frag) (mg : Str → Option Value) (base : Heap) (C : Nat → Addr) (fC fCl fM fA fB fR fFa fFb fT : Addr) (dC dCl dM dA dB dR dFa dFb dT : FuncData) : Prop where
  SK : SysD K
  Z : Zn mg
  zT : mg "tuple" = none
  AC : At K mg "_law_choice" sChoice ["_law_rng_here", "_law_options"] fC dC
  GC : FnOk P w K mg base CX0 2 fC dC ["_law_rng_here", "_law_options"] (spChoice K)
  ACl : At K mg "_law_classes" sClasses [] fCl dCl
  GCl : FnOk P w K mg base CX0 1 fCl dCl [] spCls
  AM : At K mg "_law_made" sMade ["_law_k", "_law_one", "_law_two", "_law_three"] fM dM
  GM : FnOk P w K mg base CX0 4 fM dM ["_law_k", "_law_one", "_law_two", "_law_three"] (spMk4 C 0 42)
  AA : At K mg "_law_first_attributes" sAttrA ["_law_k", "_law_e"] fA dA
  GA : FnOk P w K mg base CX0 1 fA dA ["_law_k", "_law_e"] (spAt C 0 24)
  AB : At K mg "_law_second_attributes" sAttrB ["_law_k", "_law_e"] fB dB
  GB : FnOk P w K mg base CX0 1 fB dB ["_law_k", "_law_e"] (spAt C 24 42)
  AR : At K mg "_law_base_right" sBaseR ["_law_k", "_law_e"] fR dR
  GR : FnOk P w K mg base CX0 1 fR dR ["_law_k", "_law_e"] (spBr C)
  AFa : At K mg "_law_first_flags" sFlagsA ["_law_e"] fFa dFa
  GFa : FnOk P w K mg base CX0 1 fFa dFa ["_law_e"] (spFl C (List.range 24))
  AFb : At K mg "_law_second_flags" sFlagsB ["_law_e"] fFb dFb
  GFb : FnOk P w K mg base CX0 1 fFb dFb ["_law_e"] (spFl C ((List.range 22).map (24 + ·)))
  AT : At K mg "told_error" sTold ["error"] fT dT
  GT : FnOk P w K mg base CX0 1 fT dT ["error"] (spTe K)
  te : ∀ k, k < 42 → TeC K (C k) (cl4 k).n
section
variable {P : Program} {w : World} {K : PySem.W.Frag} {mg : Str → Option Value} {base : Heap} {C : Nat → Addr} {fC fCl fM fA fB fR fFa fFb fT : Addr} {dC dCl dM dA dB dR dFa dFb dT : FuncData}
theorem er_rest (S : ErEnv P w K mg base C fC fCl fM fA fB fR fFa fFb fT dC dCl dM dA dB dR dFa dFb dT)
    {g : Addr} {cdv : Value} {A : Around} {o_ : List Env} {s : Shared} {H0 : Hp} {E : XK} (gd : A.guards = some []) (hr : Room 30 (A.deeper (PyProof.Rows.envOfC "_law_error_right" (defScope sErrR) s.heap.objs.size g cdv))) :
    ∃ t, PSs (cxOf CX0 P w K mg base nEr "_law_error_right" (defScope sErrR) g cdv A o_ s H0 E).nox ((defBody sErrR).drop 5) t ∧
    ∀ (D : Ends) (H : Hp) (r : Addr) (k : Nat) (hk : k < 42) (a b c : V) (da db dc : PyData) (va : Vz H a da) (vb : Vz H b db) (vc : Vz H c dc) (x2 x6 x7 x8 x9 x10 x11 x12 : Option V), (∀ H', Same H H' → D.rt (.bl true) H') →
      t D [some (.ref r), some (.int (k : Int)), x2, some a, some b, some c, x6, x7, x8, x9, x10, x11, x12] H := by
  have un : (A.deeper (PyProof.Rows.envOfC "_law_error_right" (defScope sErrR) s.heap.objs.size g cdv)).units + 200 < cLine := by have := hr.un; omega
  have un65 : (A.deeper (PyProof.Rows.envOfC "_law_error_right" (defScope sErrR) s.heap.objs.size g cdv)).units + 64 < cLine := by omega
  refine ⟨_, (pss_cons (ps_set (i := 6) scEr.nd rfl (Or.inl rfl) (pe_lst (pa_cons pe_str (pa_cons pe_str (pa_cons pe_str (pa_cons pe_str pa_nil))))))
    (pss_cons (ps_asg (pe_tup (pa_cons (pe_ix ix_list (pe_call0 S.GCl (hr.mono (by decide)) (by rfl) S.ACl.m S.ACl.F.kp S.ACl.b .nil pass0) (pv 1) (fun _ _ => rfl)) (pa_cons (pe_ix ix_list (pv 6) (pe_op op_add (pe_op op_add (pe_callTy call_int1 (by rfl) S.Z.zInt (by decide +kernel) (pa_cons (pe_cmpR op_gt (pv 1) pe_int (by rfl)) pa_nil)) (pe_callTy call_int1 (by rfl) S.Z.zInt (by decide +kernel) (pa_cons (pe_cmpR op_gt (pv 1) pe_int (by rfl)) pa_nil))) (pe_callTy call_int1 (by rfl) S.Z.zInt (by decide +kernel) (pa_cons (pe_cmpR op_gt (pv 1) pe_int (by rfl)) pa_nil))) (fun _ _ => rfl)) pa_nil))) (pg_tup rfl (pgs_cons (pg_name (i := 7) scEr.nd rfl (Or.inr rfl)) (pgs_cons (pg_name (i := 8) scEr.nd rfl (Or.inr rfl)) pgs_nil))))
    (pss_cons (ps_set (i := 9) scEr.nd rfl (Or.inl rfl) (pe_call S.GM (hr.mono (by decide)) (by rfl) S.AM.m S.AM.F.kp S.AM.b .nil pass0 (pa_cons (pv 1) (pa_cons (pv 3) (pa_cons (pv 4) (pa_cons (pv 5) pa_nil))))))
    (pss_cons (ps_set (i := 10) scEr.nd rfl (Or.inl rfl) (pe_ifExp (pt_cmpR op_lt (pv 1) pe_int (nomark _)) (pe_call S.GA (hr.mono (by decide)) (by rfl) S.AA.m S.AA.F.kp S.AA.b .nil pass0 (pa_cons (pv 1) (pa_cons (pv 9) pa_nil))) (pe_call S.GB (hr.mono (by decide)) (by rfl) S.AB.m S.AB.F.kp S.AB.b .nil pass0 (pa_cons (pv 1) (pa_cons (pv 9) pa_nil)))))
    (pss_cons (ps_set (i := 11) scEr.nd rfl (Or.inl rfl) (pe_slice (show SlR _ (rSlL K) from sl_list) (pe_lst (pa_cons (pv 3) (pa_cons (pv 4) (pa_cons (pv 5) pa_nil)))) po_none (po_some (pe_callB call_len_seq (by rfl) S.Z.zLen PySem.boot_len (pa_cons (pv 10) pa_nil)))))
    (pss_cons (ps_if (PW.pt (pw_or (pt_cmpR op_ne (pe_callB (show CallR (cxOf CX0 P w K mg base nEr "_law_error_right" (defScope sErrR) g cdv A o_ s H0 E).nox (.builtin "repr") rZ from call_reprZ S.SK gd un) (by rfl) S.Z.zRepr (by decide +kernel) (pa_cons (pv 10) pa_nil)) (pe_callB (show CallR (cxOf CX0 P w K mg base nEr "_law_error_right" (defScope sErrR) g cdv A o_ s H0 E).nox (.builtin "repr") rZ from call_reprZ S.SK gd un) (by rfl) S.Z.zRepr (by decide +kernel) (pa_cons (pv 11) pa_nil)) (nomark _)) (pw_or1 (pt_not (pt_val (pe_call S.GR (hr.mono (by decide)) (by rfl) S.AR.m S.AR.F.kp S.AR.b .nil pass0 (pa_cons (pv 1) (pa_cons (pv 9) pa_nil)))))))) (pss_one (ps_ret pe_bl)) pss_nil)
    (pss_cons (ps_if (pt_cmpR (op_neD un65) (pe_op op_cat (pe_call S.GFa (hr.mono (by decide)) (by rfl) S.AFa.m S.AFa.F.kp S.AFa.b .nil pass0 (pa_cons (pv 9) pa_nil)) (pe_call S.GFb (hr.mono (by decide)) (by rfl) S.AFb.m S.AFb.F.kp S.AFb.b .nil pass0 (pa_cons (pv 9) pa_nil))) (pe_lc (own := [("_law_word", 12)]) (g := gName 12) (tt := tYes) rfl scEr.nd (pi_list (pe_op op_cat (pe_call0 S.GCl (hr.mono (by decide)) (by rfl) S.ACl.m S.ACl.F.kp S.ACl.b .nil pass0) (pv 6))) (blkOk_by (N := nEr) (sc := defScope sErrR) (by decide +kernel)) (fun _ _ _ _ _ => pg_name (i := 12) scEr.nd rfl (Or.inl rfl)) (fun _ _ _ _ _ => pts_nil) (fun _ _ _ _ _ => pe_cmpR (show OpR _ (compareOp .In) (rIn K false) from op_in_seq) (pv 12) (pe_tup (pa_cons (pv 7) (pa_cons (pv 8) pa_nil))) (by rfl))) (nomark _)) (pss_one (ps_ret pe_bl)) pss_nil)
    (pss_cons (ps_ret (pe_cmpR op_eq (pe_callB (show CallR (cxOf CX0 P w K mg base nEr "_law_error_right" (defScope sErrR) g cdv A o_ s H0 E).nox (.builtin "repr") rZ from call_reprZ S.SK gd un) (by rfl) S.Z.zRepr (by decide +kernel) (pa_cons (pe_call S.GT (hr.mono (by decide)) (by rfl) S.AT.m S.AT.F.kp S.AT.b .nil pass0 (pa_cons (pv 9) pa_nil)) pa_nil)) (pe_callB (show CallR (cxOf CX0 P w K mg base nEr "_law_error_right" (defScope sErrR) g cdv A o_ s H0 E).nox (.builtin "repr") rZ from call_reprZ S.SK gd un) (by rfl) S.Z.zRepr (by decide +kernel) (pa_cons (pe_op op_catA (pe_tup (pa_cons (pv 7) pa_nil)) (pe_callTy call_tuple_of (by rfl) S.zT (by decide +kernel) (pa_cons (pv 11) pa_nil))) pa_nil)) (by rfl)))
    pss_nil)))))))), ?_⟩
  intro D H r k hk a b c da db dc va vb vc x2 x6 x7 x8 x9 x10 x11 x12 go
  refine ⟨by show 4 ≤ sizeLine; decide, fun p6 h6 => ?_⟩
  have s6 := same_upd (o := HO.lst [.str "InvalidError", .str "MissingError", .str "StateError", .str "LimitError"]) h6
  have e6 : (upd H p6 (HO.lst [.str "InvalidError", .str "MissingError", .str "StateError", .str "LimitError"])) p6 = _ := upd_same
  revert s6 e6
  generalize upd H p6 (HO.lst [.str "InvalidError", .str "MissingError", .str "StateError", .str "LimitError"]) = H6
  intro s6 e6
  refine ⟨rfl, fun H7 q7 s7 h7 => ⟨_, rfl, q7, _, _, _, rfl, rfl, SqL.of h7, atI_nat (name_at k hk), ?_⟩⟩
  refine ⟨_, rfl, ?_⟩
  refine ⟨_, rfl, _, _, rfl, rfl, .inr ⟨_, rfl, ?_⟩⟩
  refine ⟨_, rfl, _, _, rfl, rfl, .inr ⟨_, rfl, _, _, rfl, rfl, ?_⟩⟩
  refine ⟨_, rfl, _, _, rfl, rfl, .inr ⟨_, rfl, _, _, rfl, rfl, p6, _, _, _, rfl, rfl, SqL.of (s7 _ _ e6), base_atI k hk, ?_⟩⟩
  refine ⟨by show 2 ≤ sizeLine; decide, fun t8 ht8 => ?_⟩
  have s8 := s7.trans (same_upd (o := HO.tup [V.str (nmK k), V.str (bsK k)]) ht8)
  have e8 : (upd H7 t8 (.tup [V.str (nmK k), V.str (bsK k)])) t8 = some (.tup [V.str (nmK k), V.str (bsK k)]) := upd_same
  revert s8 e8
  generalize upd H7 t8 (.tup [V.str (nmK k), V.str (bsK k)]) = H8
  intro s8 e8
  refine ⟨t8, _, rfl, SqT.of e8, rfl, _, _, rfl, _, _, rfl, rfl, ?_⟩
  have e68 := s8 _ _ e6
  have s08 := s6.trans s8
  clear s7 h7 ht8 e8 s8 e6
  refine ⟨_, rfl, _, rfl, _, rfl, _, rfl, k, a, b, c, rfl, by omega, hk, fun H9 x s9 hx mk => ?_⟩
  have n3 := ns_3 k hk
  have la : (argsOf k a b c).length = (cl4 k).ns.length := by
    unfold argsOf
    rw [List.length_take]
    show min _ 3 = _
    omega
  refine found_rd (ws := argsOf k a b c) hk rfl rfl mk la fun H10 p10 s10 e10 => ?_
  refine ⟨_, rfl, _, rfl, _, rfl, by show 3 ≤ sizeLine; decide, fun p11 h11 => ?_⟩
  have s11 := s10.trans (same_upd (o := HO.lst [a, b, c]) h11)
  have f10 := same_upd (o := HO.lst [a, b, c]) h11 _ _ e10
  have f11 : (upd H10 p11 (.lst [a, b, c])) p11 = some (.lst [a, b, c]) := upd_same
  revert s11 f10 f11
  generalize upd H10 p11 (.lst [a, b, c]) = H11
  intro s11 f10 f11
  refine ⟨_, rfl, p10, _, rfl, .inl (SqL.of f10), _, rfl, p11, _, rfl, SqL.of f11, fun p12 h12 => ?_⟩
  rw [cut_to, la]
  show gName 11 (V.ref p12) _ (upd H11 p12 (.lst (argsOf k a b c))) _
  have s12 := s11.trans (same_upd (o := HO.lst (argsOf k a b c)) h12)
  have g10 := same_upd (o := HO.lst (argsOf k a b c)) h12 _ _ f10
  have g12 : (upd H11 p12 (.lst (argsOf k a b c))) p12 = some (.lst (argsOf k a b c)) := upd_same
  revert s12 g10 g12
  generalize upd H11 p12 (.lst (argsOf k a b c)) = H12
  intro s12 g10 g12
  have sA := (s08.trans s9).trans s12
  have mA := mk.same s12
  have e6A := (s9.trans s12) _ _ e68
  have vz : VzAll H12 (argsOf k a b c) ([da, db, dc].take (cl4 k).ns.length) := VzAll.take _ (.cons (va.same sA) (.cons (vb.same sA) (.cons (vc.same sA) .nil)))
  clear f10 f11 h12 h11 s11 e10 s10 hx s12 mk s9 e68 s08
  generalize ([da, db, dc].take (cl4 k).ns.length) = ds at vz
  have l3 : (argsOf k a b c).length ≤ 3 := by omega
  generalize argsOf k a b c = ws at g10 g12 mA vz l3 la
  refine ⟨_, rfl, _, .list ds, rfl, shz_lst g10 vz (by omega), _, rfl, _, .list ds, rfl, shz_lst g12 vz (by omega), ?_⟩
  refine ⟨rfl, _, rfl, ?_⟩
  rw [decide_eq_true rfl]
  show (if false = true then _ else _)
  rw [if_neg Bool.false_ne_true]
  refine ⟨_, rfl, _, rfl, k, x, ws, rfl, hk, mA, fun H13 s13 => ?_⟩
  refine ⟨_, rfl, ?_⟩
  show (if false = true then _ else _)
  rw [if_neg Bool.false_ne_true]
  refine ⟨_, rfl, k, x, ws, rfl, hk, mA.same s13, fun H14 p14 s14 e14 => ?_⟩
  refine ⟨_, rfl, k, x, ws, rfl, hk, (mA.same s13).same s14, fun H15 p15 s15 e15 => ?_⟩
  refine ⟨p14, p15, _, _, rfl, rfl, s15 _ _ e14, e15, by simp only [List.length_map, List.length_range]; decide, fun p16 h16 => ?_⟩
  rw [flags_46]
  have s16 := (s13.trans s14).trans (s15.trans (same_upd (o := HO.lst (((List.range 46).map (isK k)).map V.bl)) h16))
  have e16 : (upd H15 p16 (.lst (((List.range 46).map (isK k)).map V.bl))) p16 = some (.lst (((List.range 46).map (isK k)).map V.bl)) := upd_same
  revert s16 e16
  generalize upd H15 p16 (.lst (((List.range 46).map (isK k)).map V.bl)) = H16
  intro s16 e16
  refine ⟨rfl, fun H17 p17 s17 e17 => ⟨_, rfl, p17, p6, _, _, rfl, rfl, e17, s17 _ _ (s16 _ _ e6A), by decide, fun p18 h18 => ?_⟩⟩
  rw [names_46]
  have s18 := s17.trans (same_upd (o := HO.lst (words46.map V.str)) h18)
  have e18 : (upd H17 p18 (.lst (words46.map V.str))) p18 = some (.lst (words46.map V.str)) := upd_same
  revert s18 e18
  clear h18
  generalize upd H17 p18 (.lst (words46.map V.str)) = H18
  intro s18 e18
  refine ⟨p18, rfl, ⟨_, SqL.of e18⟩, fun D18 hD => ?_⟩
  refine lc_list (xs := words46.map V.str) (fun i H' => Same H18 H' ∧ H' D18 = some (.lst (((words46.take i).map fun x => (decide (x = nmK k) || decide (x = bsK k))).map V.bl))) ⟨same_upd hD, upd_same⟩ (fun i H' _ z => SqL.of (z.1 _ _ e18)) ?_ ?_
  · rintro i v H' hv ⟨sm, hL⟩
    have li : i < words46.length := by
      have := (List.getElem?_eq_some_iff.mp hv).1
      rw [List.length_map] at this
      exact this
    rw [List.getElem?_map] at hv
    obtain ⟨y, ey, rfl⟩ := Option.map_eq_some_iff.mp hv
    refine ⟨rfl, _, rfl, _, rfl, _, rfl, by show 2 ≤ sizeLine; decide, fun tp htp => ⟨tp, _, rfl, .inr (SqT.of upd_same), rfl, rfl, ?_⟩⟩
    rw [if_neg Bool.false_ne_true, in_two]
    refine ⟨_, same_upd htp _ _ hL, ?_, fun b o e => ?_, ?_⟩
    · rw [List.length_map, List.length_map, List.length_take]
      have : words46.length ≤ 46 := by decide
      have : 46 < sizeLine := by decide
      omega
    · rw [upd_ne (ne_of_none e hD)]
      exact same_upd htp _ _ (sm b o e)
    · rw [upd_same, take_snoc ey, List.map_append, List.map_append]
      rfl
  rintro H19 ⟨s19, e19⟩
  rw [List.length_map, List.take_length, flags_eq k hk] at e19
  obtain ⟨sh, eq⟩ := fl_data k hk
  have sB := (s16.trans s18).trans s19
  refine ⟨_, _, .lst (SqL.of (s19 _ _ (s18 _ _ e16))) (dp_bl _), .lst (SqL.of e19) (dp_bl _), sh, sh, _, rfl, ?_⟩
  rw [eq]
  show (if false = true then _ else _)
  rw [if_neg Bool.false_ne_true]
  have gB := sB _ _ g12
  have vB := vz.same sB
  have sC := sA.trans sB
  obtain ⟨dd, t, ex, ht⟩ := (mA.same sB)
  clear s19 e19 s18 e18 e16 s16 s17 e17 e14 e15 s14 s15 s13 hD sB
  refine ⟨_, rfl, x, C k, dd, t, nmK k, _, ws, rfl, ex, S.te k hk, rfl, ht, l3, fun H20 p20 s20 e20 => ?_⟩
  have vn : ∀ {G : Hp}, VzAll G ws ds → VzAll G (.str (nmK k) :: ws) (.str (nmK k) :: ds) := fun h => .cons ⟨.str _, (nm_vz k hk).1, (nm_vz k hk).2.1, (nm_vz k hk).2.2⟩ h
  refine ⟨_, .tuple (.str (nmK k) :: ds), rfl, shz_tup e20 (vn (vB.same s20)) (by rw [List.length_cons]; omega), ?_⟩
  refine ⟨_, rfl, by show 1 ≤ sizeLine; decide, fun p21 h21 => ?_⟩
  have s21 := s20.trans (same_upd (o := HO.tup [V.str (nmK k)]) h21)
  have e21 : (upd H20 p21 (.tup [V.str (nmK k)])) p21 = some (.tup [V.str (nmK k)]) := upd_same
  revert s21 e21
  clear h21
  generalize upd H20 p21 (.tup [V.str (nmK k)]) = H21
  intro s21 e21
  refine ⟨_, rfl, p12, _, rfl, .inl ⟨SqL.of (s21 _ _ gB), fun p22 h22 => ?_⟩⟩
  have s22 := s21.trans (same_upd (o := HO.tup ws) h22)
  refine catT2 (same_upd h22 _ _ e21) upd_same ?_ fun H23 p23 s23 e23 => ?_
  · have : 4 < sizeLine := by decide
    show 1 + ws.length ≤ sizeLine
    omega
  refine ⟨_, .tuple (.str (nmK k) :: ds), rfl, shz_tup e23 (vn (vB.same (s22.trans s23))) (by rw [List.length_append]; show 1 + ws.length ≤ 20; omega), ?_⟩
  refine ⟨rfl, ?_⟩
  rw [decide_eq_true rfl]
  exact go _ ((sC.trans s22).trans s23)
end
end K18
namespace K18
open PySem L2 OwE DzR
theorem k_inS {K : PySem.W.Frag} (is : List Int) {k : Nat} {t : TS} {D : Ends} {σ : L2.St} {H : Hp} (h0 : σ[1]? = some (some (.int (k : Int)))) (l : is.length ≤ 40) (y : (k : Int) ∈ is → ∀ H', Same H H' → t D σ H') (n : (k : Int) ∉ is → ∀ H', Same H H' → D.nx σ H') :
    tIfS (tTest (tOp (rIn K false) (tVar 1) (tTup (tInts is)))) t tNext D σ H := by
  refine ⟨_, h0, ints_rd is _ ⟨by rw [List.length_map]; exact Nat.le_trans l (by decide), fun p hp => ?_⟩⟩
  have s1 := same_upd (o := HO.tup (is.map V.int)) hp
  refine ⟨p, is.map V.int, rfl, .inr (SqT.of upd_same), rfl, flat_int is, _, rfl, ?_⟩
  refine ite2 (fun z => y (of_decide_eq_true ((inV_int _ _).symm.trans z)) _ s1) fun z => n (fun m => z ((inV_int _ _).trans (decide_eq_true m))) _ s1
theorem k_ifS {i : Int} {k : Nat} {t : TS} {D : Ends} {σ : L2.St} {H : Hp} (h0 : σ[1]? = some (some (.int (k : Int)))) (y : (k : Int) = i → t D σ H) (n : (k : Int) ≠ i → D.nx σ H) :
    tIfS (tTest (tOp rEq (tVar 1) (tC (V.int i)))) t tNext D σ H :=
  ⟨_, h0, rfl, _, rfl, ite2 (fun z => y (V.int.inj (of_decide_eq_true z))) fun z => n fun e => z (decide_eq_true (congrArg V.int e))⟩
section
variable {P : Program} {w : World} {K : PySem.W.Frag} {mg : Str → Option Value} {base : Heap} {C : Nat → Addr} {fC fCl fM fA fB fR fFa fFb fT : Addr} {dC dCl dM dA dB dR dFa dFb dT : FuncData}
theorem er_1 (S : ErEnv P w K mg base C fC fCl fM fA fB fR fFa fFb fT dC dCl dM dA dB dR dFa dFb dT) {g : Addr} {cdv : Value} {A : Around} {o_ : List Env} {s : Shared} {H0 : Hp} {E : XK} (hr : Room 30 (A.deeper (PyProof.Rows.envOfC "_law_error_right" (defScope sErrR) s.heap.objs.size g cdv))) :
    ∃ t, PS (cxOf CX0 P w K mg base nEr "_law_error_right" (defScope sErrR) g cdv A o_ s H0 E).nox ((defBody sErrR).getD 1 (.Pass ⟨0, 0, 0, 0⟩)) t ∧ ∀ (D : Ends) (H : Hp) (r p : Addr) (k : Nat) (vs : List V) (x3 x4 x5 : Option V) (x6 x7 x8 x9 x10 x11 x12 : Option V) (rg : Rg H r) (hp : H p = some (.lst vs)) (l : vs.length = 15) (ne : p ≠ r) (each : ∀ v ∈ vs, ∃ d, Vz (delH H r) v d),
      (∀ H' a b c da db dc, Kp r H H' → Vz H' a da → Vz H' b db → Vz H' c dc → D.nx [some (.ref r), some (.int (k : Int)), some (.ref p), some a, some b, some c, x6, x7, x8, x9, x10, x11, x12] H') → t D [some (.ref r), some (.int (k : Int)), some (.ref p), x3, x4, x5, x6, x7, x8, x9, x10, x11, x12] H := by
  refine ⟨_, (ps_par3 (i := 3) (j := 4) (l := 5) rfl scEr.nd rfl rfl rfl (by decide) (by decide) (by decide) rfl rfl rfl (pa_cons (pe_call S.GC (hr.mono (by decide)) (by rfl) S.AC.m S.AC.F.kp S.AC.b .nil pass0 (pa_cons (pv 0) (pa_cons (pv 2) pa_nil))) (pa_cons (pe_call S.GC (hr.mono (by decide)) (by rfl) S.AC.m S.AC.F.kp S.AC.b .nil pass0 (pa_cons (pv 0) (pa_cons (pv 2) pa_nil))) (pa_cons (pe_call S.GC (hr.mono (by decide)) (by rfl) S.AC.m S.AC.F.kp S.AC.b .nil pass0 (pa_cons (pv 0) (pa_cons (pv 2) pa_nil))) pa_nil))) (by rfl)), ?_⟩
  intro D H r p k vs x3 x4 x5 x6 x7 x8 x9 x10 x11 x12 rg hp l ne each go
  have n0 : vs ≠ [] := fun z => by rw [z] at l; cases l
  have lb : vs.length ≤ big := by rw [l]; decide
  refine ⟨_, rfl, _, rfl, r, .ref p, rfl, rg, .inl ⟨p, vs, rfl, hp, ne, n0, lb, fun H1 a k1 ma => ?_⟩⟩
  have hp1 := k1.1 p _ ne hp
  refine ⟨_, rfl, _, rfl, r, .ref p, rfl, k1.2 rg, .inl ⟨p, vs, rfl, hp1, ne, n0, lb, fun H2 b k2 mb => ?_⟩⟩
  have hp2 := k2.1 p _ ne hp1
  refine ⟨_, rfl, _, rfl, r, .ref p, rfl, k2.2 (k1.2 rg), .inl ⟨p, vs, rfl, hp2, ne, n0, lb, fun H3 c k3 mc => ?_⟩⟩
  have kk := (k1.trans k2).trans k3
  obtain ⟨da, va⟩ := each a ma
  obtain ⟨db, vb⟩ := each b mb
  obtain ⟨dc, vc⟩ := each c mc
  exact ⟨_, _, _, rfl, go _ _ _ _ _ _ _ kk ((va.to (mk_kp kk)).to mk_all) ((vb.to (mk_kp kk)).to mk_all) ((vc.to (mk_kp kk)).to mk_all)⟩

theorem er_2 {g : Addr} {cdv : Value} {A : Around} {o_ : List Env} {s : Shared} {H0 : Hp} {E : XK} : ∃ t, PS (cxOf CX0 P w K mg base nEr "_law_error_right" (defScope sErrR) g cdv A o_ s H0 E).nox ((defBody sErrR).getD 2 (.Pass ⟨0, 0, 0, 0⟩)) t ∧ ∀ (D : Ends) (H : Hp) (r : Addr) (k : Nat) (a b c : V) (da : PyData) (va : Vz H a da) (x2 : Option V) (x6 x7 x8 x9 x10 x11 x12 : Option V),
      (∀ H' a' da', Same H H' → Vz H' a' da' → D.nx [some (.ref r), some (.int (k : Int)), x2, some a', some b, some c, x6, x7, x8, x9, x10, x11, x12] H') → t D [some (.ref r), some (.int (k : Int)), x2, some a, some b, some c, x6, x7, x8, x9, x10, x11, x12] H := by
  refine ⟨_, (ps_if (pt_cmpR (show OpR _ (compareOp .In) (rIn K false) from op_in_seq) (pv 1) (pe_tup (pa_cons pe_int (pa_cons pe_int pa_nil))) (by rfl)) (pss_one (ps_set (i := 3) scEr.nd rfl (Or.inl rfl) (pe_ix ix_list (pe_lst (pa_cons (pe_tup (pa_cons pe_str (pa_cons pe_int (pa_cons pe_non pa_nil)))) (pa_cons (pe_tup (pa_cons pe_int (pa_cons pe_int pa_nil))) pa_nil))) (pe_op op_sub (pv 1) pe_int) (fun _ _ => rfl)))) pss_nil), ?_⟩
  intro D H r k a b c da va x2 x6 x7 x8 x9 x10 x11 x12 go
  refine k_inS [13, 14] rfl (by decide) (fun z H1 s1 => ?_) fun z H1 s1 => go H1 a da s1 (va.same s1)
  simp only [List.mem_cons, List.not_mem_nil, or_false] at z
  refine ⟨by show 3 ≤ sizeLine; decide, fun ta hta => ⟨by show 2 ≤ sizeLine; decide, fun tb htb => ⟨by show 2 ≤ sizeLine; decide, fun l hl => ?_⟩⟩⟩
  have sa := same_upd (o := HO.tup [V.str "a", .int 1, .non]) hta
  have sb := same_upd (o := HO.tup [V.int 1, .int 0]) htb
  have sl := same_upd (o := HO.lst [V.ref ta, .ref tb]) hl
  have ea := sl _ _ (sb _ _ (upd_same (H := H1) (a := ta) (o := HO.tup [V.str "a", .int 1, .non])))
  have eb := sl _ _ (upd_same (H := upd H1 ta (HO.tup [V.str "a", .int 1, .non])) (a := tb) (o := HO.tup [V.int 1, .int 0]))
  have ss := s1.trans (sa.trans (sb.trans sl))
  rcases z with z | z
  · obtain rfl : k = 13 := by omega
    exact ⟨_, rfl, _, _, rfl, rfl, l, _, _, _, rfl, rfl, SqL.of upd_same, (show atI [V.ref ta, .ref tb] ((0 : Nat) : Int) = _ from atI_nat rfl), go _ _ (.tuple [.str "a", .int 1, .none]) ss ⟨.tup ea (.cons (.str _) (.cons (.int _) (.cons .non .nil))), by decide +kernel, by decide +kernel, by decide +kernel⟩⟩
  · obtain rfl : k = 14 := by omega
    exact ⟨_, rfl, _, _, rfl, rfl, l, _, _, _, rfl, rfl, SqL.of upd_same, (show atI [V.ref ta, .ref tb] ((1 : Nat) : Int) = _ from atI_nat rfl), go _ _ (.tuple [.int 1, .int 0]) ss ⟨.tup eb (.cons (.int _) (.cons (.int _) .nil)), by decide +kernel, by decide +kernel, by decide +kernel⟩⟩

theorem er_3 {g : Addr} {cdv : Value} {A : Around} {o_ : List Env} {s : Shared} {H0 : Hp} {E : XK} : ∃ t, PS (cxOf CX0 P w K mg base nEr "_law_error_right" (defScope sErrR) g cdv A o_ s H0 E).nox ((defBody sErrR).getD 3 (.Pass ⟨0, 0, 0, 0⟩)) t ∧ ∀ (D : Ends) (H : Hp) (r : Addr) (k : Nat) (a b c : V) (da db dc : PyData) (va : Vz H a da) (vb : Vz H b db) (vc : Vz H c dc) (x2 : Option V) (x6 x7 x8 x9 x10 x11 x12 : Option V),
      (∀ H' a' b' c' da' db' dc', Same H H' → Vz H' a' da' → Vz H' b' db' → Vz H' c' dc' → D.nx [some (.ref r), some (.int (k : Int)), x2, some a', some b', some c', x6, x7, x8, x9, x10, x11, x12] H') → t D [some (.ref r), some (.int (k : Int)), x2, some a, some b, some c, x6, x7, x8, x9, x10, x11, x12] H := by
  refine ⟨_, (ps_if (pt_cmpR op_eq (pv 1) pe_int (nomark _)) (pss_one (ps_asg (pe_tup (pa_cons pe_int (pa_cons (pe_tup (pa_cons pe_str (pa_cons pe_non pa_nil))) (pa_cons (pe_tup (pa_cons pe_str (pa_cons (pe_tup (pa_cons pe_str (pa_cons pe_int pa_nil))) pa_nil))) pa_nil)))) (pg_tup rfl (pgs_cons (pg_name (i := 3) scEr.nd rfl (Or.inl rfl)) (pgs_cons (pg_name (i := 4) scEr.nd rfl (Or.inl rfl)) (pgs_cons (pg_name (i := 5) scEr.nd rfl (Or.inl rfl)) pgs_nil)))))) pss_nil), ?_⟩
  intro D H r k a b c da db dc va vb vc x2 x6 x7 x8 x9 x10 x11 x12 go
  refine k_ifS rfl (fun z => ?_) fun z => go H a b c da db dc (Same.refl H) va vb vc
  refine ⟨by show 2 ≤ sizeLine; decide, fun t1 h1 => ⟨by show 2 ≤ sizeLine; decide, fun t2 h2 => ⟨by show 2 ≤ sizeLine; decide, fun t3 h3 => ⟨by show 3 ≤ sizeLine; decide, fun t h => ?_⟩⟩⟩⟩
  have s1 := same_upd (o := HO.tup [V.str "done", .non]) h1
  have s2 := same_upd (o := HO.tup [V.str "Taken", .int 3]) h2
  have s3 := same_upd (o := HO.tup [V.str "error", .ref t2]) h3
  have s4 := same_upd (o := HO.tup [V.int 1, .ref t1, .ref t3]) h
  have e1 := s4 _ _ (s3 _ _ (s2 _ _ (upd_same (H := H) (a := t1) (o := HO.tup [V.str "done", .non]))))
  have e2 := s4 _ _ (s3 _ _ (upd_same (H := upd H t1 (HO.tup [V.str "done", .non])) (a := t2) (o := HO.tup [V.str "Taken", .int 3])))
  have e3 := s4 _ _ (upd_same (H := upd (upd H t1 (HO.tup [V.str "done", .non])) t2 (HO.tup [V.str "Taken", .int 3])) (a := t3) (o := HO.tup [V.str "error", .ref t2]))
  exact ⟨t, _, rfl, SqT.of upd_same, rfl, _, _, rfl, _, _, rfl, _, _, rfl, rfl, go _ _ _ _ (.int 1) (.tuple [.str "done", .none]) (.tuple [.str "error", .tuple [.str "Taken", .int 3]]) (s1.trans (s2.trans (s3.trans s4)))
    ⟨.int 1, by decide +kernel, by decide +kernel, by decide +kernel⟩ ⟨.tup e1 (.cons (.str _) (.cons .non .nil)), by decide +kernel, by decide +kernel, by decide +kernel⟩ ⟨.tup e3 (.cons (.str _) (.cons (.tup e2 (.cons (.str _) (.cons (.int _) .nil))) .nil)), by decide +kernel, by decide +kernel, by decide +kernel⟩⟩

theorem er_4 {g : Addr} {cdv : Value} {A : Around} {o_ : List Env} {s : Shared} {H0 : Hp} {E : XK} : ∃ t, PS (cxOf CX0 P w K mg base nEr "_law_error_right" (defScope sErrR) g cdv A o_ s H0 E).nox ((defBody sErrR).getD 4 (.Pass ⟨0, 0, 0, 0⟩)) t ∧ ∀ (D : Ends) (H : Hp) (r : Addr) (k : Nat) (a b c : V) (da : PyData) (va : Vz H a da) (x2 : Option V) (x6 x7 x8 x9 x10 x11 x12 : Option V),
      (∀ H' a' da', Same H H' → Vz H' a' da' → D.nx [some (.ref r), some (.int (k : Int)), x2, some a', some b, some c, x6, x7, x8, x9, x10, x11, x12] H') → t D [some (.ref r), some (.int (k : Int)), x2, some a, some b, some c, x6, x7, x8, x9, x10, x11, x12] H := by
  refine ⟨_, (ps_if (pt_cmpR op_eq (pv 1) pe_int (nomark _)) (pss_one (ps_set (i := 3) scEr.nd rfl (Or.inl rfl) (pe_disp (pps_cons pe_str pe_int (pps_cons pe_str pe_int pps_nil)) rfl rfl (by simp) (by decide)))) pss_nil), ?_⟩
  intro D H r k a b c da va x2 x6 x7 x8 x9 x10 x11 x12 go
  refine k_ifS rfl (fun z => ?_) fun z => go H a da (Same.refl H) va
  refine fun p4 h4 => ⟨upd_same, [(Sum.inr "-", .int 2), (Sum.inr "a", .int 0)], rfl, by decide, ?_⟩
  have s4 : Same H (upd (upd H p4 (.dK [])) p4 (.dK (mergeK [] [(Sum.inr "-", .int 2), (Sum.inr "a", .int 0)]))) := fun b o e => by
    have n := ne_of_none e h4
    rw [upd_ne n, upd_ne n]
    exact e
  have e4 : (upd (upd H p4 (.dK [])) p4 (.dK (mergeK [] [(Sum.inr "-", .int 2), (Sum.inr "a", .int 0)]))) p4 = some (.dK [(Sum.inr "-", .int 2), (Sum.inr "a", .int 0)]) := upd_same
  exact go _ _ (.dict [(.str "-", .int 2), (.str "a", .int 0)]) s4 ⟨.dic (ks := ["-", "a"]) e4 rfl (.cons (.int 2) (.cons (.int 0) .nil)), by decide +kernel, by decide +kernel, by decide +kernel⟩

def spEr : Sp := fun vs H Q _ => ∃ (r : Addr) (k : Nat), vs = [.ref r, .int (k : Int)] ∧ k < 42 ∧ Rg H r ∧ ∀ H', Kp r H H' → Q (.bl true) H'
theorem er_body : defBody sErrR = (defBody sErrR).getD 0 (.Pass ⟨0, 0, 0, 0⟩) :: (defBody sErrR).getD 1 (.Pass ⟨0, 0, 0, 0⟩) :: (defBody sErrR).getD 2 (.Pass ⟨0, 0, 0, 0⟩) :: (defBody sErrR).getD 3 (.Pass ⟨0, 0, 0, 0⟩) :: (defBody sErrR).getD 4 (.Pass ⟨0, 0, 0, 0⟩) :: (defBody sErrR).drop 5 := rfl
theorem ok_er {f : Addr} {fd : FuncData} (F : Fun K "_law_error_right" "_law_error_right" sErrR f fd) (S : ErEnv P w K mg base C fC fCl fM fA fB fR fFa fFb fT dC dCl dM dA dB dR dFa dFb dT) : FnG P w K mg base 31 f fd ["_law_rng_here", "_law_k"] spEr := by
  refine okG F scEr (fun vs H Q E h => ?_) (fun cdv A outer_ s H vs Q E gd hr h => ?_)
  · obtain ⟨r, k, rfl, _⟩ := h
    rfl
  · obtain ⟨r, k, rfl, hk, rg, go⟩ := h
    obtain ⟨t0, p0, r0⟩ := some_rd (P := P) (w := w) (K := K) (mg := mg) (base := base) (g := f) (cdv := cdv) (A := A) (o_ := outer_) (s := s) (H0 := H) (E := E)
    obtain ⟨t1, p1, r1⟩ := er_1 S (g := f) (cdv := cdv) (A := A) (o_ := outer_) (s := s) (H0 := H) (E := E) hr
    obtain ⟨t2, p2, r2⟩ := er_2 (P := P) (w := w) (K := K) (mg := mg) (base := base) (g := f) (cdv := cdv) (A := A) (o_ := outer_) (s := s) (H0 := H) (E := E)
    obtain ⟨t3, p3, r3⟩ := er_3 (P := P) (w := w) (K := K) (mg := mg) (base := base) (g := f) (cdv := cdv) (A := A) (o_ := outer_) (s := s) (H0 := H) (E := E)
    obtain ⟨t4, p4, r4⟩ := er_4 (P := P) (w := w) (K := K) (mg := mg) (base := base) (g := f) (cdv := cdv) (A := A) (o_ := outer_) (s := s) (H0 := H) (E := E)
    obtain ⟨t5, p5, r5⟩ := er_rest S (g := f) (cdv := cdv) (A := A) (o_ := outer_) (s := s) (H0 := H) (E := E) gd hr
    rw [er_body]
    refine ⟨_, pss_cons p0 (pss_cons p1 (pss_cons p2 (pss_cons p3 (pss_cons p4 p5)))), ?_⟩
    obtain ⟨x, y, hr0, hx⟩ := id rg
    refine r0 _ H r (by rw [hr0]; exact fun z => nomatch z) _ _ _ _ _ _ _ _ _ _ _ _ _ fun H1 p vs s1 hp l ne each => ?_
    refine r1 _ H1 r p k vs _ _ _ _ _ _ _ _ _ _ ((Kp.of_same s1).2 rg) hp l ne each fun H2 a b c da db dc k2 va vb vc => ?_
    refine r2 _ H2 r k a b c da va _ _ _ _ _ _ _ _ fun H3 a3 da3 s3 va3 => ?_
    refine r3 _ H3 r k a3 b c da3 db dc va3 (vb.same s3) (vc.same s3) _ _ _ _ _ _ _ _ fun H4 a4 b4 c4 da4 db4 dc4 s4 va4 vb4 vc4 => ?_
    refine r4 _ H4 r k a4 b4 c4 da4 va4 _ _ _ _ _ _ _ _ fun H5 a5 da5 s5 va5 => ?_
    refine r5 _ H5 r k hk a5 b4 c4 da5 db4 dc4 va5 (vb4.same s5) (vc4.same s5) _ _ _ _ _ _ _ _ fun H6 s6 => ?_
    exact go H6 ((Kp.of_same s1).trans (k2.trans (Kp.of_same ((s3.trans s4).trans (s5.trans s6)))))
end
end K18
namespace K18
open PySem L2 OwE DzR LamX
/-! ### what stays while the tables of code objects grow -/
mutual
theorem dz_ext {H G : Hp} (s : ExtN H G) : ∀ {v : V} {d : PyData}, Dz H v d → Dz G v d
  | _, _, .non => .non
  | _, _, .bl b => .bl b
  | _, _, .int i => .int i
  | _, _, .str x => .str x
  | _, _, .lst e a => .lst (s _ _ e (fun ps z => by cases z)) (dza_ext s a)
  | _, _, .tup e a => .tup (s _ _ e (fun ps z => by cases z)) (dza_ext s a)
  | _, _, .dic e k a => .dic (s _ _ e (fun ps z => by cases z)) k (dza_ext s a)
theorem dza_ext {H G : Hp} (s : ExtN H G) : ∀ {vs : List V} {ds : List PyData}, DzAll H vs ds → DzAll G vs ds
  | _, _, .nil => .nil
  | _, _, .cons a b => .cons (dz_ext s a) (dza_ext s b)
end
theorem Vz.ext {H G : Hp} {v : V} {d : PyData} (h : Vz H v d) (s : ExtN H G) : Vz G v d := ⟨dz_ext s h.at_, h.sh, h.len, h.dp⟩
theorem Lb.ext {C : Addr} {H H' : Hp} {a : Addr} {ys : List Str} (h : Lb C H a ys) (s : ExtN H H') : Lb C H' a ys := h.keep fun b o e c => s b o e fun ps z => by
  rcases c with ⟨xs, q⟩ | ⟨D, dx, fs, q⟩ <;> rw [q] at z <;> cases z
theorem bt_ext {K : PySem.W.Frag} {H H' : Hp} {v : V} {T : String} (h : EqO.BtV K H v T) (s : ExtN H H') : EqO.BtV K H' v T := by
  cases h with
  | non => exact .non
  | bl b => exact .bl b
  | int i => exact .int i
  | str x => exact .str x
  | lst e => exact .lst (s _ _ e fun ps z => by cases z)
  | tup e => exact .tup (s _ _ e fun ps z => by cases z)
  | dic e => exact .dic (s _ _ e fun ps z => by cases z)
  | dcT e => exact .dcT (s _ _ e fun ps z => by cases z)
  | kTup e c => exact .kTup e c
theorem tabs_upd {T : List (Addr × Str)} {H : Hp} {q : Addr} {l : List V} {o : HO} (h : Tabs T H) (e : H q = some (.lst l)) : Tabs T (upd H q o) := fun p hp => by
  obtain ⟨ps, h1, h2, h3⟩ := h p hp
  refine ⟨ps, by rw [upd_ne (fun z => by rw [z, e] at h1; cases h1)]; exact h1, h2, fun pos cv hc => ?_⟩
  obtain ⟨c, e1, e2⟩ := h3 pos cv hc
  exact ⟨c, e1, by rw [upd_ne (fun z => by rw [z, e] at e2; unfold CodeO at e2; cases e2)]; exact e2⟩
theorem ext_upd {H H' : Hp} {q : Addr} {o : HO} (s : ExtN H H') (n : ∀ u, H q = some u → ∃ ps, u = .tbl ps) : ExtN H (upd H' q o) := fun b u e m => by
  rw [upd_ne (fun z => by
    rw [z] at e
    obtain ⟨ps, y⟩ := n u e
    exact m ps y)]
  exact s b u e m
theorem cl_tup {K : PySem.W.Frag} {H : Hp} {a : Addr} {xs : List V} (e : H a = some (.tup xs)) : Cl K H (.ref a) :=
  .oth (.base (.tup e)) (kit_ty (a := "tuple") (b := "bool") (r := false) (by decide +kernel)) (kit_ty (a := "tuple") (b := "int") (r := false) (by decide +kernel)) (kit_ty (a := "tuple") (b := "str") (r := false) (by decide +kernel))
theorem cl_lst {K : PySem.W.Frag} {H : Hp} {a : Addr} {xs : List V} (e : H a = some (.lst xs)) : Cl K H (.ref a) :=
  .oth (.base (.lst e)) (kit_ty (a := "list") (b := "bool") (r := false) (by decide +kernel)) (kit_ty (a := "list") (b := "int") (r := false) (by decide +kernel)) (kit_ty (a := "list") (b := "str") (r := false) (by decide +kernel))
theorem cl_dic {K : PySem.W.Frag} {H : Hp} {a : Addr} {kvs : List (Key × V)} (e : H a = some (.dK kvs)) : Cl K H (.ref a) :=
  .oth (.base (.dK e)) (kit_ty (a := "dict") (b := "bool") (r := false) (by decide +kernel)) (kit_ty (a := "dict") (b := "int") (r := false) (by decide +kernel)) (kit_ty (a := "dict") (b := "str") (r := false) (by decide +kernel))
theorem cl_str {K : PySem.W.Frag} {H : Hp} {y : Str} (h : y.cps.toList.length ≤ 4000) : Cl K H (.str y) := by
  rw [txt_of y]
  exact .str _ h
theorem rg_ext {r : Addr} {H H' : Hp} (g : Rg H r) (s : ExtN H H') : Rg H' r := by
  obtain ⟨x, y, q, p⟩ := g
  exact ⟨x, y, s _ _ q (fun ps z => by cases z), p⟩
theorem tabs_kp {T : List (Addr × Str)} {r : Addr} {H H' : Hp} (h : Tabs T H) (g : Rg H r) (k : Kp r H H') : Tabs T H' := fun p hp => by
  obtain ⟨ps, h1, h2, h3⟩ := h p hp
  obtain ⟨x, y, q, _⟩ := g
  refine ⟨ps, k.1 _ _ (fun z => by rw [z, q] at h1; cases h1) h1, h2, fun pos cv hc => ?_⟩
  obtain ⟨c, e1, e2⟩ := h3 pos cv hc
  exact ⟨c, e1, k.1 _ _ (fun z => by rw [z, q] at e2; unfold CodeO at e2; cases e2) e2⟩
/-- a thing that is no label: shown, of a built-in class -/
structure Od (K : PySem.W.Frag) (H : Hp) (v : V) (d : PyData) : Prop where
  vz : Vz H v d
  bt : ∃ t, EqO.BtV K H v t
  s : ∀ y, v = .str y → y.cps.toList.length ≤ 4000
  n : ∀ o, v = .ref o → H o ≠ none
  okL : PyData.strOk (PyData.tuple [.str "InvalidLabel", d]).shown = true
  okN : PyData.strOk (PyData.tuple [.str "InvalidName", d]).shown = true
theorem Od.ext {K : PySem.W.Frag} {H G : Hp} {v : V} {d : PyData} (h : Od K H v d) (s : ExtN H G) : Od K G v d := by
  obtain ⟨t, b⟩ := h.bt
  refine ⟨h.vz.ext s, ⟨t, bt_ext b s⟩, h.s, fun o e z => ?_, h.okL, h.okN⟩
  subst e
  cases h.vz.at_ with
  | lst e _ => rw [s _ _ e (fun ps z => by cases z)] at z; cases z
  | tup e _ => rw [s _ _ e (fun ps z => by cases z)] at z; cases z
  | dic e _ _ => rw [s _ _ e (fun ps z => by cases z)] at z; cases z
theorem Od.same {K : PySem.W.Frag} {H G : Hp} {v : V} {d : PyData} (h : Od K H v d) (s : Same H G) : Od K G v d := h.ext (ExtN.of s)
theorem Od.cl {K : PySem.W.Frag} {H : Hp} {v : V} {d : PyData} (h : Od K H v d) : Cl K H v := by
  obtain ⟨⟨a, _, _, _⟩, _, hs, hn, _, _⟩ := h
  cases a with
  | non => exact .non
  | bl b => exact .bl b
  | int i => exact .int i
  | str x => exact cl_str (hs _ rfl)
  | lst e _ => exact cl_lst e
  | tup e _ => exact cl_tup e
  | dic e _ _ => exact cl_dic e
/-- G without the stock, the stock and the tables stand -/
structure Ex (T : List (Addr × Str)) (r : Addr) (G H : Hp) : Prop where
  e : ExtN (delH G r) H
  g : Rg H r
  t : Tabs T H
theorem Ex.refl {T : List (Addr × Str)} {r : Addr} {G : Hp} (g : Rg G r) (t : Tabs T G) : Ex T r G G := ⟨ExtN.of mk_all, g, t⟩
theorem Ex.ext {T : List (Addr × Str)} {r : Addr} {G H H' : Hp} (x : Ex T r G H) (s : ExtN H H') (t : Tabs T H') : Ex T r G H' := ⟨x.e.trans s, rg_ext x.g s, t⟩
theorem Ex.same {T : List (Addr × Str)} {r : Addr} {G H H' : Hp} (x : Ex T r G H) (s : Same H H') : Ex T r G H' := ⟨x.e.trans (ExtN.of s), rg_ext x.g (ExtN.of s), x.t.ext s⟩
theorem Ex.kp {T : List (Addr × Str)} {r : Addr} {G H H' : Hp} (x : Ex T r G H) (k : Kp r H H') : Ex T r G H' := by
  refine ⟨fun b o e n => ?_, k.2 x.g, tabs_kp x.t x.g k⟩
  have nb : b ≠ r := fun z => by
    rw [z, delH_same] at e
    cases e
  exact k.1 b o nb (x.e b o e n)
theorem Ex.trans {T : List (Addr × Str)} {r : Addr} {G H H' : Hp} (x : Ex T r G H) (y : Ex T r H H') : Ex T r G H' := by
  refine ⟨fun b o e n => ?_, y.g, y.t⟩
  have nb : b ≠ r := fun z => by
    rw [z, delH_same] at e
    cases e
  exact y.e b o (by rw [delH_ne nb]; exact x.e b o e n) n
theorem Ex.upd {T : List (Addr × Str)} {r q : Addr} {G H : Hp} {l : List V} {o : HO} (x : Ex T r G H) (n : ∀ u, G q = some u → ∃ ps, u = .tbl ps) (nr : q ≠ r) (e : H q = some (.lst l)) : Ex T r G (upd H q o) := by
  refine ⟨ext_upd x.e fun u y => n u (mk_all _ _ y), ?_, tabs_upd x.t e⟩
  obtain ⟨a, b, h, p⟩ := x.g
  exact ⟨a, b, by rw [upd_ne (Ne.symm nr)]; exact h, p⟩
/-- what is behind a draw -/
theorem Ex.del {T : List (Addr × Str)} {r : Addr} {G H : Hp} (x : Ex T r G H) : ExtN (delH G r) (delH H r) := fun b o e n => by
  have nb : b ≠ r := fun z => by
    rw [z, delH_same] at e
    cases e
  rw [delH_ne nb]
  exact x.e b o e n
/-! ### what is told of a call that is refused -/
/-- one of the three leaves, and is told -/
def EC (C : Nat → Addr) (Q : VK) : XK := fun cls d H2 => ∃ (ek : E3) (dd t : Addr) (fs : List (Str × V)) (ws : List V), cls = .ref (C ek.k) ∧ d = some dd ∧ H2 dd = some (.xd fs) ∧ List.lookup ("_told" : Str) fs = some (V.ref t) ∧ H2 t = some (.tup ws) ∧ ws.length ≤ 3 ∧
    ∀ H3 p, Same H2 H3 → H3 p = some (.tup (.str (cl4 ek.k).n :: ws)) → ∃ dt, ShZ H3 (.ref p) dt ∧ Q (.str dt.shown) H3
theorem nm_one : ∀ ek : E3, (PyData.str (cl4 ek.k).n).showable = true ∧ (PyData.str (cl4 ek.k).n).shown.length ≤ 200 ∧ (PyData.str (cl4 ek.k).n).depth ≤ 4 := fun ek => by cases ek <;> decide +kernel
theorem bad_one {C : Nat → Addr} {fld : Str} (ek : E3) {v : V} {d : PyData} {H : Hp} {Q : VK} (va : Vz H v d) (k : ∀ H3, Same H H3 → Q (.str (PyData.tuple [.str (cl4 ek.k).n, d]).shown) H3) : Bad fld (C ek.k) H v (EC C Q) :=
  fun H' dd fs s hd hx hv ⟨t, lt, ht⟩ => ⟨ek, dd, t, fs, [v], rfl, rfl, hx, lt, ht, (by show 1 ≤ 3; decide), fun H3 p s3 hp => ⟨.tuple [.str (cl4 ek.k).n, d], shz_tup hp (.cons ⟨.str _, (nm_one ek).1, (nm_one ek).2.1, (nm_one ek).2.2⟩ (.cons (va.same (s.trans s3)) .nil)) (by show 2 ≤ 20; decide), k H3 (s.trans s3)⟩⟩
theorem bad_many {C : Nat → Addr} {H : Hp} {Q : VK} (k : ∀ H3, Same H H3 → Q (.str (PyData.tuple [.str "TooMany", .str "marks", .int 4]).shown) H3) : BadM (C 40) H (.str "marks") (.int 4) (EC C Q) :=
  fun H' dd fs s hd hx h1 h2 ⟨t, lt, ht⟩ => ⟨.man, dd, t, fs, [.str "marks", .int 4], rfl, rfl, hx, lt, ht, by decide, fun H3 p s3 hp => ⟨.tuple [.str "TooMany", .str "marks", .int 4], shz_tup hp (.cons ⟨.str _, by decide +kernel, by decide +kernel, by decide +kernel⟩ (.cons ⟨.str _, by decide +kernel, by decide +kernel, by decide +kernel⟩ (.cons ⟨.int _, by decide +kernel, by decide +kernel, by decide +kernel⟩ .nil))) (by decide), k H3 (s.trans s3)⟩⟩
theorem odd_lab {K : PySem.W.Frag} {C : Nat → Addr} {v : V} {d : PyData} {H : Hp} {Q : VK} (va : Od K H v d) (k : ∀ H3, Same H H3 → Q (.str (PyData.tuple [.str "InvalidLabel", d]).shown) H3) : Odd K (C 1) H v (EC C Q) := ⟨va.bt, bad_one .lab va.vz k⟩
section
variable {P : Program} {w : World} {K : PySem.W.Frag} {mg : Str → Option Value} {base : Heap}
theorem okGC {x qual : Str} {st : Stmt} {f c : Addr} {fd : FuncData} {N ps : List Str} {k : Nat} {sp : Sp} (F : L2.Fun K x qual st f fd) (hc : fd.code = .ref c) (S : FnScope N ps (defScope st)) (len : ∀ vs H Q E, sp vs H Q E → vs.length = ps.length)
    (body : ∀ (A : Around) (o_ : List Env) (s : Shared) (H : Hp) (vs : List V) (Q : VK) (E : XK), A.guards = some [] → Room k (A.deeper (PyProof.Rows.envOfC qual (defScope st) s.heap.objs.size f (.ref c))) → sp vs H Q E →
      ∃ t, PSs (cxOf CX0 P w K mg base N qual (defScope st) f (.ref c) A o_ s H E).nox (defBody st) t ∧ t { nx := fun _ H' => Q .non H', rt := Q } (start N vs) H) : FnG P w K mg base (k + 1) f fd ps sp := by
  obtain ⟨oc, od, kV, doc, pm, an, cdv, ct, osl, rfl, lk, cok⟩ := F.ex
  obtain rfl : cdv = Value.ref c := hc
  refine ⟨len, fun A o_ s H gs us vs Q E gd hr e0 hb r hsp => ?_⟩
  have up : ∀ b o, base.get? b = some o → s.heap.get? b = some o := fun b o q => (e0.bs b o q).1
  have KX : K.In s.heap := e0.mod.kin.keeps up
  have lm : s.heap.NoLimit := e0.mod.nolimit.keeps up
  have kinds : ∀ y ∈ ps.zip us, (defScope st).names.lookup y.1 = some .local ∨ ((defScope st).names.lookup y.1 = some .cell ∧ ((cellsFrom (s.heap.objs.size + 1) (defScope st).names []).lookup y.1).isSome = true) := by
    rintro ⟨n, v⟩ hy
    cases S.par n (List.of_mem_zip hy).1 with
    | inl q => exact .inl q
    | inr q => exact .inr ⟨q, PySem.W.cellsFrom_some _ _ _ (.inl q)⟩
  apply codeAny_call_function hr.depth (KX _ _ lk) rfl S.co S.gen rfl (PySem.W.codeRec_of KX cok) (hb _ _ _ _ ?_)
  apply wpAny_newFunctionEnv_cells S.kind kinds
  rintro env rfl s1 x
  refine ⟨lm.keeps x.toInCall.keep, codeAny_func ?_⟩
  obtain ⟨t, ht, hq⟩ := body A o_ s H vs Q E gd (hr.deeper _) hsp
  have I : Inv (cxOf CX0 P w K mg base N qual (defScope st) f (.ref c) A o_ s H E) [] (start N vs) H s1 := inv_start S hr.hd e0 (len _ _ _ _ hsp) r x
  apply wpAny_mono (ht.nox.run [] s1 (start N vs) H _ I hq)
  · rintro fl s2 hs
    cases fl with
    | ret u =>
      obtain ⟨v, σ2, H2, J, rv, q⟩ := hs
      exact ⟨v, H2, J.os, J.bare, J.base, J.hok, rv, q⟩
    | next =>
      obtain ⟨σ2, H2, J, q⟩ := hs
      exact ⟨V.non, H2, J.os, J.bare, J.base, J.hok, rfl, q⟩
    | brk =>
      obtain ⟨_, _, _, q⟩ := hs
      exact q.elim
    | cont =>
      obtain ⟨_, _, _, q⟩ := hs
      exact q.elim
  · exact fun e s2 z => z
end
end K18
namespace K18
open PySem L2 OwE DzR LamX SR
/-! ### _law_refused_right: its calls -/
abbrev SI (K : PySem.W.Frag) (CL CN CM : Addr) : Sp := fun vs H Q E => ∃ ws rest, vs = ws ++ rest ∧ ws.length = ([("self" : Str)]).length ∧ rest.length ≤ sizeLine ∧ ∀ p, H p = Option.none → spInit K CL CN CM (ws ++ [V.ref p]) (upd H p (.tup rest)) Q E
/-- what _law_refused_right calls -/
structure RrEnv (P : Program) (w : World) (K : PySem.W.Frag) (mg : Str → Option Value) (base : Heap) (C : Nat → Addr) (CL fI gE gL gS gR gH pM gM gB gO gA fIO fC fT fTo c Pt : Addr) (dI dE dL dS dR dH dG dB dN dM dIO dC dT dTo : FuncData) (fN fM : Addr) (T : List (Addr × Str)) : Prop where
  SK : SysD K
  Z : Zn mg
  AC : At K mg "_law_choice" sChoice ["_law_rng_here", "_law_options"] fC dC
  GC : FnOk P w K mg base CX0 2 fC dC ["_law_rng_here", "_law_options"] (spChoice K)
  M : LabM K mg CL gE gL gS gR gH pM gM dE dL dS dR dH dG
  L : LabC K mg CL fI (C 0) fN (C 40) fM dI dN dM
  GI : FnR P w K mg base (L2.CX P w) 3 fI (SI K CL (C 0) (C 40))
  GB : FnOk P w K mg base (L2.CX P w) 4 gB dB ["self", "other"] (spBelow K CL (C 1))
  mB : Meth K CL "is_below" gB
  bB : Binds K dB ["self", "other"] []
  GO : FnR P w K mg base (L2.CX P w) 5 gO (fun vs H Q E => spTwo (· ++ ·) K CL (C 1) (C 40) (vs ++ []) H Q E)
  OB : OpO.OwnB K CL gO .BitOr
  GA : FnR P w K mg base (L2.CX P w) 5 gA (fun vs H Q E => spTwo (fun xs ys => xs.filter fun x => decide (x ∈ ys)) K CL (C 1) (C 40) (vs ++ []) H Q E)
  OA : OpO.OwnB K CL gA .BitAnd
  GIO : FnOk P w K mg base (L2.CX P w) 6 fIO dIO ["labels"] (spIO K CL (C 1))
  AIO : At K mg "in_order" sOrder ["labels"] fIO dIO
  TE : TEnv K mg C fT dT
  AT : At K mg "_law_told" sLTold ["_law_call"] fTo dTo
  TB : TabB base mg c Pt
  hm : (Pt, ("_law_refused_right.<locals>.<lambda>" : Str)) ∈ T
  hu : ∀ p ∈ T, p.1 = Pt → p.2 = "_law_refused_right.<locals>.<lambda>"
abbrev RZ : V → Hp → PyData → Prop := fun v H d => ShZ H v d
section
variable {K : PySem.W.Frag} {C : Nat → Addr} {CL : Addr} {T : List (Addr × Str)} {r : Addr} {G H : Hp} {σ : L2.St} {D : Ends} {t : XK → TE}
theorem Ex.frs (x : Ex T r G H) {q : Addr} (h : H q = none) : (∀ u, G q = some u → ∃ ps, u = .tbl ps) ∧ q ≠ r := by
  have nr : q ≠ r := fun z => by
    obtain ⟨a, b, e, _⟩ := x.g
    rw [z, e] at h
    cases h
  refine ⟨fun u e => ?_, nr⟩
  cases u with
  | tbl ps => exact ⟨ps, rfl⟩
  | _ =>
    have := x.e q _ (by rw [delH_ne nr]; exact e) fun ps z => by cases z
    rw [h] at this
    cases this
theorem call_rd {Q : VK} (x : Ex T r G H) (w : ∀ (H1 : Hp) (Qv : VK), Ex T r G H1 → ExtN H H1 → t (EC C Q) σ H1 Qv) : tLam T (TTo RZ C) t σ H Q :=
  ⟨x.t, fun H1 e1 T1 t0 ht0 Qv => w _ Qv ((x.ext e1 T1).same (same_upd ht0)) (e1.trans (ExtN.of (same_upd ht0)))⟩
theorem first_rd (y : Str) (x : Ex T r G H) (w : ∀ (H1 : Hp) (Q Qv : VK), Ex T r G H1 → (∀ H3, Same H1 H3 → Q (.str y) H3) → t (EC C Q) σ H1 Qv)
    (go : ∀ H' q, Ex T r G H' → (∀ u, G q = some u → ∃ ps, u = .tbl ps) → q ≠ r → H' q = some (.lst ([y].map V.str)) → D.nx (σ.set 7 (some (.ref q))) H') : tAsg (tLst (tCons (tLam T (TTo RZ C) t) tNil)) (gName 7) D σ H :=
  call_rd x fun H1 Qv x1 e1 => w H1 _ Qv x1 fun H3 s3 => ⟨by show 1 ≤ sizeLine; decide, fun q hq => go _ q ((x1.same s3).same (same_upd hq)) ((x1.same s3).frs hq).1 ((x1.same s3).frs hq).2 upd_same⟩
theorem app_rd {q : Addr} {L : List Str} (y : Str) (x : Ex T r G H) (hs : σ[7]? = some (some (.ref q))) (hq : H q = some (.lst (L.map V.str))) (l : L.length ≤ 20) (n : ∀ u, G q = some u → ∃ ps, u = .tbl ps) (nr : q ≠ r)
    (w : ∀ (H1 : Hp) (Q Qv : VK), Ex T r G H1 → (∀ H3, Same H1 H3 → Q (.str y) H3) → t (EC C Q) σ H1 Qv)
    (go : ∀ H', Ex T r G H' → H' q = some (.lst ((L ++ [y]).map V.str)) → D.nx σ H') : tDrop (tBM K "list" rAppend (tVar 7) (tCons (tLam T (TTo RZ C) t) tNil)) D σ H := by
  refine ⟨_, hs, .inl ⟨rfl, _, SqL.of hq⟩, call_rd x fun H1 Qv x1 e1 => w H1 _ Qv x1 fun H3 s3 => ?_⟩
  have hq3 := s3 _ _ (e1 _ _ hq fun ps z => by cases z)
  refine ⟨q, _, _, rfl, rfl, hq3, ?_, go _ ((x1.same s3).upd n nr hq3) ?_⟩
  · rw [List.length_map]
    have : 20 < sizeLine := by decide
    omega
  · rw [upd_same, List.map_append]
    rfl
/-! the wishes -/
theorem lab_oth {H : Hp} {b : Addr} {ys : List Str} (h : Lb CL H b ys) : EqO.Oth K CL H (.ref b) := let ⟨dx, fs, e⟩ := h.ins; .inr ⟨b, dx, fs, rfl, e⟩
theorem w_below {i : Nat} {a : Addr} {xs : List Str} {v : V} {d : PyData} {Q Qv : VK} {H1 : Hp} (h1 : σ[i]? = some (some (.ref a))) (h2 : σ[2]? = some (some v)) (la : Lb CL H1 a xs) (od : Od K H1 v d) (k : ∀ H3, Same H1 H3 → Q (.str (PyData.tuple [.str "InvalidLabel", d]).shown) H3) :
    tMeth CL "is_below" (spBelow K CL (C 1)) [] (EC C Q) (tVar i) (tCons (tVar 2) tNil) σ H1 Qv := by
  obtain ⟨_, _, _, dx, t, ha, _⟩ := id la
  exact ⟨.ref a, h1, a, dx, _, rfl, ha, rfl, _, h2, a, v, xs, rfl, la, .inl (odd_lab od k)⟩
theorem w_two (f : List Str → List Str → List Str) {i : Nat} {a : Addr} {xs : List Str} {v : V} {d : PyData} {Q Qv : VK} {H1 : Hp} (h1 : σ[i]? = some (some (.ref a))) (h2 : σ[2]? = some (some v)) (la : Lb CL H1 a xs) (od : Od K H1 v d) (k : ∀ H3, Same H1 H3 → Q (.str (PyData.tuple [.str "InvalidLabel", d]).shown) H3) :
    OpS.tBinS K CL (fun vs H Q E => spTwo f K CL (C 1) (C 40) (vs ++ []) H Q E) (fun _ => EC C Q) (tVar i) (tVar 2) σ H1 Qv := by
  obtain ⟨dx, fs, ha⟩ := la.ins
  exact ⟨_, h1, _, h2, a, dx, fs, rfl, ha, .inl od.bt, a, v, xs, rfl, la, .inl (odd_lab od k)⟩
/-- in_order of some labels and one that is none -/
theorem io_odd {Q Qv : VK} {H1 : Hp} {p : Addr} {xs : List V} {os : List (Option (List Str))} {v : V} {d : PyData} {n : Nat} (hp : SqL K H1 p xs ∨ SqT K H1 p xs) (l : xs.length ≤ 60) (lo : os.length = xs.length) (its : ∀ (i : Nat) v o, xs[i]? = some v → os[i]? = some o → It K CL H1 v o)
    (hv : xs[n]? = some v) (ho : os[n]? = some none) (first : ∀ j, j < n → os[j]? ≠ some none) (od : Od K H1 v d) (k : ∀ H3, Same H1 H3 → Q (.str (PyData.tuple [.str "InvalidLabel", d]).shown) H3) : spIO K CL (C 1) [.ref p] H1 Qv (EC C Q) := by
  refine ⟨p, xs, os, rfl, hp, l, lo, its, fun i u hu hn no => ?_, fun S e => ?_⟩
  · have : i = n := by
      rcases Nat.lt_trichotomy i n with z | z | z
      · exact absurd hn (first i z)
      · exact z
      · exact absurd ho (no n z)
    subst this
    rw [hv] at hu
    obtain rfl := Option.some.inj hu
    exact bad_one .lab od.vz k
  · rw [e, List.getElem?_map] at ho
    cases h : S[n]? with
    | none => rw [h] at ho; cases ho
    | some z => rw [h] at ho; cases ho
theorem w_io3 {a : Addr} {xs : List Str} {v u : V} {d d2 : PyData} {Q Qv : VK} {H1 : Hp} (h4 : σ[4]? = some (some (.ref a))) (h2 : σ[2]? = some (some v)) (h3 : σ[3]? = some (some u)) (la : Lb CL H1 a xs) (od : Od K H1 v d) (od2 : Od K H1 u d2) (k : ∀ H3, Same H1 H3 → Q (.str (PyData.tuple [.str "InvalidLabel", d]).shown) H3) :
    tCall (spIO K CL (C 1)) [] (EC C Q) (tCons (tLst (tCons (tVar 4) (tCons (tVar 2) (tCons (tVar 3) tNil)))) tNil) σ H1 Qv := by
  refine ⟨_, h4, _, h2, _, h3, by show 3 ≤ sizeLine; decide, fun p hp => ?_⟩
  have s1 := same_upd (o := HO.lst [.ref a, v, u]) hp
  obtain ⟨t, bt⟩ := (od.same s1).bt
  obtain ⟨t2, bt2⟩ := (od2.same s1).bt
  refine io_odd (n := 1) (xs := [.ref a, v, u]) (os := [some xs, none, none]) (.inl (SqL.of upd_same)) (by show 3 ≤ 60; decide) rfl (fun i y o e1 e2 => ?_) rfl rfl (fun j hj => ?_) (od.same s1) fun H3 s3 => k H3 (s1.trans s3)
  · match i, e1, e2 with
    | 0, e1, e2 => cases e1; cases e2; exact .lab (la.same s1)
    | 1, e1, e2 => cases e1; cases e2; exact .odd bt
    | 2, e1, e2 => cases e1; cases e2; exact .odd bt2
    | n + 3, e1, e2 => cases e1
  · obtain rfl : j = 0 := by omega
    exact fun z => by cases z
theorem w_io4 {a b : Addr} {xs ys : List Str} {v : V} {d : PyData} {Q Qv : VK} {H1 : Hp} (h4 : σ[4]? = some (some (.ref a))) (h5 : σ[5]? = some (some (.ref b))) (h2 : σ[2]? = some (some v)) (la : Lb CL H1 a xs) (lb : Lb CL H1 b ys) (od : Od K H1 v d) (k : ∀ H3, Same H1 H3 → Q (.str (PyData.tuple [.str "InvalidLabel", d]).shown) H3) :
    tCall (spIO K CL (C 1)) [] (EC C Q) (tCons (tTup (tCons (tVar 5) (tCons (tVar 4) (tCons (tVar 2) (tCons (tVar 5) tNil))))) tNil) σ H1 Qv := by
  refine ⟨_, h5, _, h4, _, h2, _, h5, by show 4 ≤ sizeLine; decide, fun p hp => ?_⟩
  have s1 := same_upd (o := HO.tup [.ref b, .ref a, v, .ref b]) hp
  obtain ⟨t, bt⟩ := (od.same s1).bt
  refine io_odd (n := 2) (xs := [.ref b, .ref a, v, .ref b]) (os := [some ys, some xs, none, some ys]) (.inr (SqT.of upd_same)) (by show 4 ≤ 60; decide) rfl (fun i y o e1 e2 => ?_) rfl rfl (fun j hj => ?_) (od.same s1) fun H3 s3 => k H3 (s1.trans s3)
  · match i, e1, e2 with
    | 0, e1, e2 => cases e1; cases e2; exact .lab (lb.same s1)
    | 1, e1, e2 => cases e1; cases e2; exact .lab (la.same s1)
    | 2, e1, e2 => cases e1; cases e2; exact .odd bt
    | 3, e1, e2 => cases e1; cases e2; exact .lab (lb.same s1)
    | n + 4, e1, e2 => cases e1
  · rcases (by omega : j = 0 ∨ j = 1) with rfl | rfl <;> exact fun z => by cases z
theorem asks_bad {H : Hp} {xs : List V} {v : V} {Q : VK} {E : XK} {CN CM : Addr} (cl : ∀ u ∈ xs, Cl K H u) (f : xs.find? bad = some v) (b : Bad "value" CN H v E) : Asks K CL CN CM H xs Q E :=
  ⟨cl, fun u e => by rw [f] at e; cases e; exact b, fun ts ys e nms _ => by rw [e, find_none nms] at f; cases f⟩
theorem w_make {Q Qv : VK} {H1 : Hp} {ta : TA} {xs : List V} (ht : ∀ k : List V → Hp → Prop, k xs H1 → ta σ H1 k) (few : xs.length < 60) (as : Asks K CL (C 0) (C 40) H1 xs Qv (EC C Q)) : StX.tMakeR CL (SI K CL (C 0) (C 40)) (EC C Q) ta σ H1 Qv :=
  ht _ fun za dza hza hda nea => mk_any as few hza hda nea
theorem srt_by {ts ys : List Str} (h1 : (decide ys.Nodup && PyProof.Rows.sortedS ys) = true) (h2 : ∀ y ∈ ys, y ∈ ts) (h3 : ∀ y ∈ ts, y ∈ ys) : Srt ts ys := by
  obtain ⟨a, b⟩ := Bool.and_eq_true_iff.mp h1
  exact ⟨of_decide_eq_true a, b, fun y => ⟨h2 y, h3 y⟩⟩
abbrev five : List Str := ["a", "b", "c", "d", "e"]
abbrev abc3 : List Str := ["a", "b", "c"]
theorem cl_abc {H : Hp} (x : Str) (h : isNm x = true) : Cl K H (.str x) := cl_names (ts := [x]) (by rw [List.all_cons, h]; rfl) _ List.mem_cons_self
abbrev tMany : Str := (PyData.tuple [.str "TooMany", .str "marks", .int 4]).shown
theorem w_or {a z : Addr} {xs ys : List Str} {Q Qv : VK} {H1 : Hp} (la : Lb CL H1 a xs) (lz : Lb CL H1 z ys) (s : Srt (xs ++ ys) five) (k : ∀ H3, Same H1 H3 → Q (.str tMany) H3) :
    ∃ a' dx fs, V.ref a = .ref a' ∧ H1 a' = some (.ins CL dx fs) ∧ EqO.Oth K CL H1 (.ref z) ∧ (fun vs H Q E => spTwo (· ++ ·) K CL (C 1) (C 40) (vs ++ []) H Q E) [.ref a, .ref z] H1 Qv (EC C Q) := by
  obtain ⟨dx, fs, ha⟩ := la.ins
  exact ⟨a, dx, fs, rfl, ha, lab_oth lz, a, .ref z, xs, rfl, la, .inr ⟨z, ys, five, rfl, lz, s, fun _ => bad_many k, fun l => absurd l (by decide)⟩⟩
end
end K18
namespace K18
open PySem L2 OwE DzR LamX SR TAs
section
variable {P : Program} {w : World} {K : PySem.W.Frag} {mg : Str → Option Value} {base : Heap} {C : Nat → Addr} {CL fI gE gL gS gR gH pM gM gB gO gA fIO fC fT fTo c Pt : Addr} {dI dE dL dS dR dH dG dB dN dM dIO dC dT dTo : FuncData} {fN fM : Addr} {T : List (Addr × Str)}
abbrev nRr : List Str := ["_law_rng_here", "_law_odd", "_law_wrong", "_law_other", "_law_one", "_law_two", "_law_due", "_law_told_here", "_law_bad"]
theorem scRr : FnScope nRr ["_law_rng_here"] (defScope sRefR) := ⟨rfl, rfl, rfl, by decide +kernel, rfl, by decide +kernel, by decide +kernel⟩
/-- the labels and the things that are none -/
structure Fx (K : PySem.W.Frag) (CL : Addr) (H : Hp) (a b : Addr) (ys : List Str) (wr ot : V) (dw dt : PyData) : Prop where
  la : Lb CL H a abc3
  lb : Lb CL H b ys
  w : Od K H wr dw
  o : Od K H ot dt
  y : ys ∈ ([["a"], [], ["a", "b", "c"], ["d"]] : List (List Str))
theorem Fx.ext {K : PySem.W.Frag} {CL : Addr} {H H2 : Hp} {a b : Addr} {ys : List Str} {wr ot : V} {dw dt : PyData} (f : Fx K CL H a b ys wr ot dw dt) (s : ExtN H H2) : Fx K CL H2 a b ys wr ot dw dt := ⟨f.la.ext s, f.lb.ext s, f.w.ext s, f.o.ext s, f.y⟩
theorem Lb.del {CL r : Addr} {H : Hp} {a : Addr} {ys : List Str} (h : Lb CL H a ys) (g : Rg H r) : Lb CL (delH H r) a ys := h.keep fun b o e c => (delH_ne fun z => by
  obtain ⟨x, y, q, _⟩ := g
  rw [z, q] at e
  rcases c with ⟨xs, w⟩ | ⟨D, dx, fs, w⟩ <;> rw [← Option.some.inj e] at w <;> cases w).trans e
theorem te_make {K : PySem.W.Frag} {CL CN CM : Addr} {σ : L2.St} {E : XK} {Qv : VK} {H1 : Hp} {ta : TA} {xs : List V} (ht : ∀ k : List V → Hp → Prop, k xs H1 → ta σ H1 k) (few : xs.length < 60) (as : Asks K CL CN CM H1 xs Qv E) : StX.tMakeR CL (SI K CL CN CM) E ta σ H1 Qv :=
  ht _ fun za dza hza hda nea => mk_any as few hza hda nea
theorem cmp_rd {K : PySem.W.Frag} {σ : L2.St} {H : Hp} {D : Ends} {q : Addr} {y : Str} {n : Nat} {tl : TE} (hs : σ[7]? = some (some (.ref q))) (hq : H q = some (.lst ((List.replicate n y).map V.str))) (ok : PyData.strOk y = true) (l : n ≤ 10) (ht : ∀ Q2 : VK, (∀ H2, Same H H2 → Q2 (.str y) H2) → tl σ H Q2) (go : ∀ H2, Same H H2 → D.nx σ H2) :
    tIfS (tTest (tOp (rNeD K) (tVar 7) (tOp rRep (tLst (tCons tl tNil)) (tC (V.int (n : Int)))))) (tRet (tC (.bl false))) tNext D σ H := by
  refine ⟨_, hs, ht _ fun H2 s2 => ⟨by show 1 ≤ sizeLine; decide, fun q1 hq1 => ⟨q1, (n : Int), [.str y], rfl, rfl, upd_same, by omega, by omega, ?_, fun q2 hq2 => ?_⟩⟩⟩
  · show 1 * n ≤ sizeLine
    have : 10 ≤ sizeLine := by decide
    omega
  · have s3 := s2.trans ((same_upd (o := HO.lst [V.str y]) hq1).trans (same_upd (o := HO.lst (List.replicate (Int.toNat n) [V.str y]).flatten) hq2))
    have rp : (List.replicate (Int.toNat n) [V.str y]).flatten = (List.replicate n y).map V.str := by
      rw [Int.toNat_natCast, List.map_replicate]
      clear ht l hq1 hq2 s3 hq go hs
      induction n with
      | zero => rfl
      | succ n ih => rw [List.replicate_succ, List.flatten_cons, ih, List.replicate_succ] <;> rfl
    have sh : SeqAt.shaped (.list ((List.replicate n y).map PyData.str)) = true := shL _ fun x hx => by rw [List.eq_of_mem_replicate hx]; exact ok
    refine ⟨_, _, .lst (SqL.of (s3 _ _ hq)) (dpT _), .lst (SqL.of (by rw [rp]; exact upd_same)) (dpT _), sh, sh, _, rfl, ?_⟩
    rw [eqvL, decide_eq_true rfl]
    show (if false = true then _ else _)
    rw [if_neg Bool.false_ne_true]
    exact go _ s3
abbrev tLab (d : PyData) : Str := (PyData.tuple [.str "InvalidLabel", d]).shown
abbrev tNam (d : PyData) : Str := (PyData.tuple [.str "InvalidName", d]).shown
theorem rr_a (S : RrEnv P w K mg base C CL fI gE gL gS gR gH pM gM gB gO gA fIO fC fT fTo c Pt dI dE dL dS dR dH dG dB dN dM dIO dC dT dTo fN fM T) {g : Addr} {A : Around} {o_ : List Env} {s : Shared} {H0 : Hp} {E : XK} (gd : A.guards = some []) (hr : Room 30 (A.deeper (PyProof.Rows.envOfC "_law_refused_right" (defScope sRefR) s.heap.objs.size g (.ref c)))) {rest : List Stmt} {u : TS} (pr : PSs (cxOf CX0 P w K mg base nRr "_law_refused_right" (defScope sRefR) g (.ref c) A o_ s H0 E).nox rest u) :
    ∃ t, PSs (cxOf CX0 P w K mg base nRr "_law_refused_right" (defScope sRefR) g (.ref c) A o_ s H0 E).nox ((defBody sRefR).getD 0 (.Pass ⟨0, 0, 0, 0⟩) :: (defBody sRefR).getD 1 (.Pass ⟨0, 0, 0, 0⟩) :: (defBody sRefR).getD 2 (.Pass ⟨0, 0, 0, 0⟩) :: (defBody sRefR).getD 3 (.Pass ⟨0, 0, 0, 0⟩) :: rest) t ∧ ∀ (D : Ends) (H : Hp) (r : Addr) (g0 : Rg H r) (tb : Tabs T H) (x1 x2 x3 x4 x5 x6 x7 x8 : Option V), (∀ G p a b ys wr ot dw dt, Ex T r H G → Fx K CL (delH G r) a b ys wr ot dw dt → u D [some (.ref r), some (.ref p), some wr, some ot, some (.ref a), some (.ref b), some (.str (tLab dw)), x7, x8] G) →
      t D [some (.ref r), x1, x2, x3, x4, x5, x6, x7, x8] H := by
  have un : (A.deeper (PyProof.Rows.envOfC "_law_refused_right" (defScope sRefR) s.heap.objs.size g (.ref c))).units + 200 < cLine := by have := hr.un; omega
  have un64 : (A.deeper (PyProof.Rows.envOfC "_law_refused_right" (defScope sRefR) s.heap.objs.size g (.ref c))).units + 64 < cLine := by omega
  refine ⟨_, (pss_cons (ps_set (i := 1) scRr.nd rfl (Or.inl rfl) (pe_lst (pa_cons pe_non (pa_cons pe_bl (pa_cons pe_bl (pa_cons pe_int (pa_cons pe_int (pa_cons pe_str (pa_cons pe_str (pa_cons pe_str (pa_cons pe_str (pa_cons (pe_tup pa_nil) (pa_cons (pe_tup (pa_cons pe_str pa_nil)) (pa_cons (pe_lst (pa_cons pe_str pa_nil)) (pa_cons (pe_lst pa_nil) (pa_cons pe_dnewK (pa_cons (pe_op op_pow pe_int pe_int) pa_nil)))))))))))))))))
    (pss_cons (ps_asg (pe_tup (pa_cons (pe_call S.GC (hr.mono (by decide)) (by rfl) S.AC.m S.AC.F.kp S.AC.b .nil pass0 (pa_cons (pv 0) (pa_cons (pv 1) pa_nil))) (pa_cons (pe_call S.GC (hr.mono (by decide)) (by rfl) S.AC.m S.AC.F.kp S.AC.b .nil pass0 (pa_cons (pv 0) (pa_cons (pv 1) pa_nil))) pa_nil))) (pg_tup rfl (pgs_cons (pg_name (i := 2) scRr.nd rfl (Or.inr rfl)) (pgs_cons (pg_name (i := 3) scRr.nd rfl (Or.inr rfl)) pgs_nil))))
    (pss_cons (ps_asg (pe_tup (pa_cons (StX.pe_makeR (E := E0) S.L.mkr S.GI (hr.mono (by decide)) (by rfl) S.L.m (CmS.passE L2.takes0) (pa_cons pe_str (pa_cons pe_str (pa_cons pe_str pa_nil)))) (pa_cons (pe_call S.GC (hr.mono (by decide)) (by rfl) S.AC.m S.AC.F.kp S.AC.b .nil pass0 (pa_cons (pv 0) (pa_cons (pe_lst (pa_cons (StX.pe_makeR (E := E0) S.L.mkr S.GI (hr.mono (by decide)) (by rfl) S.L.m (CmS.passE L2.takes0) (pa_cons pe_str pa_nil)) (pa_cons (pe_make0 (E := E0) S.L.mkr S.GI (hr.mono (by decide)) (by rfl) S.L.m (CmS.passE L2.takes0)) (pa_cons (StX.pe_makeR (E := E0) S.L.mkr S.GI (hr.mono (by decide)) (by rfl) S.L.m (CmS.passE L2.takes0) (pa_cons pe_str (pa_cons pe_str (pa_cons pe_str pa_nil)))) (pa_cons (StX.pe_makeR (E := E0) S.L.mkr S.GI (hr.mono (by decide)) (by rfl) S.L.m (CmS.passE L2.takes0) (pa_cons pe_str pa_nil)) pa_nil))))) pa_nil))) pa_nil))) (pg_tup rfl (pgs_cons (pg_name (i := 4) scRr.nd rfl (Or.inr rfl)) (pgs_cons (pg_name (i := 5) scRr.nd rfl (Or.inr rfl)) pgs_nil))))
    (pss_cons (ps_set (i := 6) scRr.nd rfl (Or.inl rfl) (pe_callB (show CallR (cxOf CX0 P w K mg base nRr "_law_refused_right" (defScope sRefR) g (.ref c) A o_ s H0 E).nox (.builtin "repr") rZ from call_reprZ S.SK gd un) (by rfl) S.Z.zRepr (by decide +kernel) (pa_cons (pe_tup (pa_cons pe_str (pa_cons (pv 2) pa_nil))) pa_nil)))
    pr)))), ?_⟩
  intro D H r g0 tb x1 x2 x3 x4 x5 x6 x7 x8 go
  have ner : ∀ {G : Hp} {t : Addr}, Same H G → G t = none → t ≠ r := fun {G t} sm h => (((Ex.refl g0 tb).same sm).frs h).2
  refine ⟨by show 0 ≤ sizeLine; decide, fun t1 h1 => ⟨by show 1 ≤ sizeLine; decide, fun t2 h2 => ⟨by show 1 ≤ sizeLine; decide, fun t3 h3 => ⟨by show 0 ≤ sizeLine; decide, fun t4 h4 => fun t5 h5 => ⟨_, _, rfl, rfl, ⟨by decide, by decide, by decide⟩, by show 15 ≤ sizeLine; decide, fun p hp => ?_⟩⟩⟩⟩⟩
  have s1 := same_upd (o := HO.tup []) h1
  have e1 : (upd H t1 (HO.tup [])) t1 = _ := upd_same
  revert s1 e1 h2 h3 h4 h5 hp
  generalize upd H t1 (HO.tup []) = H1
  intro h2 h3 h4 h5 hp s1 e1
  have s2 := same_upd (o := HO.tup [.str "a"]) h2
  have e2 : (upd H1 t2 (HO.tup [.str "a"])) t2 = _ := upd_same
  revert s2 e2 h3 h4 h5 hp
  generalize upd H1 t2 (HO.tup [.str "a"]) = H2
  intro h3 h4 h5 hp s2 e2
  have s3 := same_upd (o := HO.lst [.str "a"]) h3
  have e3 : (upd H2 t3 (HO.lst [.str "a"])) t3 = _ := upd_same
  revert s3 e3 h4 h5 hp
  generalize upd H2 t3 (HO.lst [.str "a"]) = H3
  intro h4 h5 hp s3 e3
  have s4 := same_upd (o := HO.lst []) h4
  have e4 : (upd H3 t4 (HO.lst [])) t4 = _ := upd_same
  revert s4 e4 h5 hp
  generalize upd H3 t4 (HO.lst []) = H4
  intro h5 hp s4 e4
  have s5 := same_upd (o := HO.dK []) h5
  have e5 : (upd H4 t5 (HO.dK [])) t5 = _ := upd_same
  revert s5 e5 hp
  generalize upd H4 t5 (HO.dK []) = H5
  intro hp s5 e5
  have s6 := same_upd (o := HO.lst [.non, .bl true, .bl false, .int 0, .int 1, .str "", .str "-", .str "a", .str "a+b", .ref t1, .ref t2, .ref t3, .ref t4, .ref t5, .int (10 ^ 30)]) hp
  have e6 : (upd H5 p (HO.lst [.non, .bl true, .bl false, .int 0, .int 1, .str "", .str "-", .str "a", .str "a+b", .ref t1, .ref t2, .ref t3, .ref t4, .ref t5, .int (10 ^ 30)])) p = some (.lst [.non, .bl true, .bl false, .int 0, .int 1, .str "", .str "-", .str "a", .str "a+b", .ref t1, .ref t2, .ref t3, .ref t4, .ref t5, .int (10 ^ 30)]) := upd_same
  have np := ner (s1.trans (s2.trans (s3.trans (s4.trans s5)))) hp
  have n5 := ner (s1.trans (s2.trans (s3.trans s4))) h5
  have n4 := ner (s1.trans (s2.trans s3)) h4
  have n3 := ner (s1.trans s2) h3
  have n2 := ner s1 h2
  have n1 := ner (Same.refl H) h1
  show gName 1 (V.ref p) _ (upd H5 p (HO.lst [.non, .bl true, .bl false, .int 0, .int 1, .str "", .str "-", .str "a", .str "a+b", .ref t1, .ref t2, .ref t3, .ref t4, .ref t5, .int (10 ^ 30)])) _
  revert s6 e6
  generalize upd H5 p (HO.lst [.non, .bl true, .bl false, .int 0, .int 1, .str "", .str "-", .str "a", .str "a+b", .ref t1, .ref t2, .ref t3, .ref t4, .ref t5, .int (10 ^ 30)]) = H6
  intro s6 e6
  have each : ∀ v ∈ ([.non, .bl true, .bl false, .int 0, .int 1, .str "", .str "-", .str "a", .str "a+b", .ref t1, .ref t2, .ref t3, .ref t4, .ref t5, .int (10 ^ 30)] : List V), ∃ d, Od K (delH H6 r) v d := by
    have e5 := (delH_ne n5).trans (s6 _ _ e5)
    have e4 := (delH_ne n4).trans (s6 _ _ (s5 _ _ e4))
    have e3 := (delH_ne n3).trans (s6 _ _ (s5 _ _ (s4 _ _ e3)))
    have e2 := (delH_ne n2).trans (s6 _ _ (s5 _ _ (s4 _ _ (s3 _ _ e2))))
    have e1 := (delH_ne n1).trans (s6 _ _ (s5 _ _ (s4 _ _ (s3 _ _ (s2 _ _ e1)))))
    intro v hv
    simp only [List.mem_cons, List.not_mem_nil, or_false] at hv
    rcases hv with rfl | rfl | rfl | rfl | rfl | rfl | rfl | rfl | rfl | rfl | rfl | rfl | rfl | rfl | rfl
    · exact ⟨.none, ⟨.non, by decide +kernel, by decide +kernel, by decide +kernel⟩, ⟨_, .non⟩, (fun y z => nomatch z), (fun o z => nomatch z), by decide +kernel, by decide +kernel⟩
    · exact ⟨(.bool true), ⟨(.bl true), by decide +kernel, by decide +kernel, by decide +kernel⟩, ⟨_, (.bl true)⟩, (fun y z => nomatch z), (fun o z => nomatch z), by decide +kernel, by decide +kernel⟩
    · exact ⟨(.bool false), ⟨(.bl false), by decide +kernel, by decide +kernel, by decide +kernel⟩, ⟨_, (.bl false)⟩, (fun y z => nomatch z), (fun o z => nomatch z), by decide +kernel, by decide +kernel⟩
    · exact ⟨(.int 0), ⟨(.int 0), by decide +kernel, by decide +kernel, by decide +kernel⟩, ⟨_, (.int 0)⟩, (fun y z => nomatch z), (fun o z => nomatch z), by decide +kernel, by decide +kernel⟩
    · exact ⟨(.int 1), ⟨(.int 1), by decide +kernel, by decide +kernel, by decide +kernel⟩, ⟨_, (.int 1)⟩, (fun y z => nomatch z), (fun o z => nomatch z), by decide +kernel, by decide +kernel⟩
    · exact ⟨.str "", ⟨.str _, by decide +kernel, by decide +kernel, by decide +kernel⟩, ⟨_, .str _⟩, (fun y z => by cases z; decide +kernel), (fun o z => nomatch z), by decide +kernel, by decide +kernel⟩
    · exact ⟨.str "-", ⟨.str _, by decide +kernel, by decide +kernel, by decide +kernel⟩, ⟨_, .str _⟩, (fun y z => by cases z; decide +kernel), (fun o z => nomatch z), by decide +kernel, by decide +kernel⟩
    · exact ⟨.str "a", ⟨.str _, by decide +kernel, by decide +kernel, by decide +kernel⟩, ⟨_, .str _⟩, (fun y z => by cases z; decide +kernel), (fun o z => nomatch z), by decide +kernel, by decide +kernel⟩
    · exact ⟨.str "a+b", ⟨.str _, by decide +kernel, by decide +kernel, by decide +kernel⟩, ⟨_, .str _⟩, (fun y z => by cases z; decide +kernel), (fun o z => nomatch z), by decide +kernel, by decide +kernel⟩
    · exact ⟨.tuple [], ⟨.tup e1 .nil, by decide +kernel, by decide +kernel, by decide +kernel⟩, ⟨_, .tup e1⟩, (fun y z => nomatch z), (fun o z => by cases z; rw [e1]; exact fun y => nomatch y), by decide +kernel, by decide +kernel⟩
    · exact ⟨.tuple [.str "a"], ⟨.tup e2 (.cons (.str _) .nil), by decide +kernel, by decide +kernel, by decide +kernel⟩, ⟨_, .tup e2⟩, (fun y z => nomatch z), (fun o z => by cases z; rw [e2]; exact fun y => nomatch y), by decide +kernel, by decide +kernel⟩
    · exact ⟨.list [.str "a"], ⟨.lst e3 (.cons (.str _) .nil), by decide +kernel, by decide +kernel, by decide +kernel⟩, ⟨_, .lst e3⟩, (fun y z => nomatch z), (fun o z => by cases z; rw [e3]; exact fun y => nomatch y), by decide +kernel, by decide +kernel⟩
    · exact ⟨.list [], ⟨.lst e4 .nil, by decide +kernel, by decide +kernel, by decide +kernel⟩, ⟨_, .lst e4⟩, (fun y z => nomatch z), (fun o z => by cases z; rw [e4]; exact fun y => nomatch y), by decide +kernel, by decide +kernel⟩
    · exact ⟨.dict [], ⟨.dic (ks := []) e5 rfl .nil, by decide +kernel, by decide +kernel, by decide +kernel⟩, ⟨_, .dic e5⟩, (fun y z => nomatch z), (fun o z => by cases z; rw [e5]; exact fun y => nomatch y), by decide +kernel, by decide +kernel⟩
    · exact ⟨.int (10 ^ 30), ⟨.int _, by decide +kernel, by decide +kernel, by decide +kernel⟩, ⟨_, .int _⟩, (fun y z => nomatch z), (fun o z => nomatch z), by decide +kernel, by decide +kernel⟩
  have k6 : Kp r H H6 := Kp.of_same (s1.trans (s2.trans (s3.trans (s4.trans (s5.trans s6)))))
  have n0 : ([.non, .bl true, .bl false, .int 0, .int 1, .str "", .str "-", .str "a", .str "a+b", .ref t1, .ref t2, .ref t3, .ref t4, .ref t5, .int (10 ^ 30)] : List V) ≠ [] := fun z => nomatch z
  have lb : ([.non, .bl true, .bl false, .int 0, .int 1, .str "", .str "-", .str "a", .str "a+b", .ref t1, .ref t2, .ref t3, .ref t4, .ref t5, .int (10 ^ 30)] : List V).length ≤ big := (by show 15 ≤ big; decide)
  generalize ([.non, .bl true, .bl false, .int 0, .int 1, .str "", .str "-", .str "a", .str "a+b", .ref t1, .ref t2, .ref t3, .ref t4, .ref t5, .int (10 ^ 30)] : List V) = vs at e6 each n0 lb
  clear s1 s2 s3 s4 s5 s6 e1 e2 e3 e4 e5 h1 h2 h3 h4 h5 hp n1 n2 n3 n4 n5
  have g6 := k6.2 g0
  refine ⟨_, rfl, _, rfl, r, .ref p, rfl, g6, .inl ⟨p, vs, rfl, e6, np, n0, lb, fun H7 wr k7 m7 => ?_⟩⟩
  have e7 := k7.1 p _ np e6
  refine ⟨_, rfl, _, rfl, r, .ref p, rfl, k7.2 g6, .inl ⟨p, vs, rfl, e7, np, n0, lb, fun H8 ot k8 m8 => ?_⟩⟩
  refine ⟨by show 2 ≤ sizeLine; decide, fun t9 h9 => ?_⟩
  obtain ⟨dw, ow⟩ := each wr m7
  obtain ⟨dt, oo⟩ := each ot m8
  have k9 := (k7.trans k8).trans (Kp.of_same (same_upd (o := HO.tup [wr, ot]) h9))
  have e9 : (upd H8 t9 (.tup [wr, ot])) t9 = some (.tup [wr, ot]) := upd_same
  revert k9 e9
  generalize upd H8 t9 (.tup [wr, ot]) = H9
  intro k9 e9
  have ow := ow.ext (ExtN.of (mk_kp k9))
  have oo := oo.ext (ExtN.of (mk_kp k9))
  have k9 := k6.trans k9
  have g9 := k9.2 g0
  refine ⟨t9, _, rfl, SqT.of e9, rfl, _, _, rfl, _, _, rfl, rfl, ?_⟩
  clear e9 e7 k7 k8 h9 m7 m8 each e6 g6 k6 n0 lb np
  dsimp only [tSeq, tAsg, tTup, tCons]
  refine te_make (xs := abc3.map V.str) ?_ (by decide) ?_
  · exact fun k h => h
  refine asks0 (ts := abc3) (by decide +kernel) (srt_by (by decide +kernel) (fun y h => h) (fun y h => h)) (by decide) fun H10 a s10 _ la => ?_
  refine ⟨_, rfl, ?_⟩
  try dsimp only [tLst, tCons]
  refine te_make (xs := (["a"] : List Str).map V.str) ?_ (by decide) ?_
  · exact fun k h => h
  refine asks0 (ts := ["a"]) (by decide +kernel) (srt_by (by decide +kernel) (fun y h => h) (fun y h => h)) (by decide) fun H11 z1 s11 _ l1 => ?_
  try dsimp only [tLst, tCons]
  refine te_make (xs := ([] : List Str).map V.str) ?_ (by decide) ?_
  · exact fun k h => h
  refine asks0 (ts := []) (by decide +kernel) (srt_by (by decide +kernel) (fun y h => h) (fun y h => h)) (by decide) fun H12 z2 s12 _ l2 => ?_
  try dsimp only [tLst, tCons]
  refine te_make (xs := (["c", "b", "a"] : List Str).map V.str) ?_ (by decide) ?_
  · exact fun k h => h
  refine asks0 (ts := ["c", "b", "a"]) (ys := abc3) (by decide +kernel) (srt_by (by decide +kernel) (by decide +kernel) (by decide +kernel)) (by decide) fun H13 z3 s13 _ l3 => ?_
  try dsimp only [tLst, tCons]
  refine te_make (xs := (["d"] : List Str).map V.str) ?_ (by decide) ?_
  · exact fun k h => h
  refine asks0 (ts := ["d"]) (by decide +kernel) (srt_by (by decide +kernel) (fun y h => h) (fun y h => h)) (by decide) fun H14 z4 s14 _ l4 => ?_
  refine ⟨by show 4 ≤ sizeLine; decide, fun q hq => ?_⟩
  have s15 := same_upd (o := HO.lst [.ref z1, .ref z2, .ref z3, .ref z4]) hq
  have s1 := s10.trans (s11.trans (s12.trans (s13.trans (s14.trans s15))))
  have nq : q ≠ r := (((Ex.refl g0 tb).kp (k9.trans (Kp.of_same (s10.trans (s11.trans (s12.trans (s13.trans s14))))))).frs hq).2
  have la := la.same (s11.trans (s12.trans (s13.trans (s14.trans s15))))
  have l1 := l1.same (s12.trans (s13.trans (s14.trans s15)))
  have l2 := l2.same (s13.trans (s14.trans s15))
  have l3 := l3.same (s14.trans s15)
  have l4 := l4.same s15
  have e15 : (upd H14 q (.lst [.ref z1, .ref z2, .ref z3, .ref z4])) q = some (.lst [.ref z1, .ref z2, .ref z3, .ref z4]) := upd_same
  clear s10 s11 s12 s13 s14 s15 hq
  revert s1 la l1 l2 l3 l4 e15
  generalize upd H14 q (.lst [.ref z1, .ref z2, .ref z3, .ref z4]) = H15
  intro s1 la l1 l2 l3 l4 e15
  have k15 := k9.trans (Kp.of_same s1)
  have g15 := k15.2 g0
  refine ⟨r, .ref q, rfl, g15, .inl ⟨q, _, rfl, e15, nq, (fun z => nomatch z), (by show 4 ≤ big; decide), fun H16 bv k16 mb => ?_⟩⟩
  obtain ⟨b, ys, rfl, lb, hy⟩ : ∃ (b : Addr) (ys : List Str), bv = .ref b ∧ Lb CL H15 b ys ∧ ys ∈ ([["a"], [], ["a", "b", "c"], ["d"]] : List (List Str)) := by
    simp only [List.mem_cons, List.not_mem_nil, or_false] at mb
    rcases mb with rfl | rfl | rfl | rfl
    · exact ⟨_, _, rfl, l1, by simp⟩
    · exact ⟨_, _, rfl, l2, by simp⟩
    · exact ⟨_, _, rfl, l3, by simp⟩
    · exact ⟨_, _, rfl, l4, by simp⟩
  refine ⟨by show 2 ≤ sizeLine; decide, fun t17 h17 => ?_⟩
  have k17 := k16.trans (Kp.of_same (same_upd (o := HO.tup [V.ref a, .ref b]) h17))
  have e17 : (upd H16 t17 (.tup [V.ref a, .ref b])) t17 = some (.tup [V.ref a, .ref b]) := upd_same
  clear h17
  revert k17 e17
  generalize upd H16 t17 (.tup [V.ref a, .ref b]) = H17
  intro k17 e17
  refine ⟨t17, _, rfl, SqT.of e17, rfl, _, _, rfl, _, _, rfl, rfl, ?_⟩
  refine ⟨_, rfl, by show 2 ≤ sizeLine; decide, fun t18 h18 => ?_⟩
  have k18 := k17.trans (Kp.of_same (same_upd (o := HO.tup [V.str "InvalidLabel", wr]) h18))
  have e18 : (upd H17 t18 (.tup [V.str "InvalidLabel", wr])) t18 = some (.tup [V.str "InvalidLabel", wr]) := upd_same
  clear h18
  revert k18 e18
  generalize upd H17 t18 (.tup [V.str "InvalidLabel", wr]) = H18
  intro k18 e18
  have kw := (Kp.of_same s1).trans k18
  have ow := ow.ext (ExtN.of (mk_kp kw))
  have oo := oo.ext (ExtN.of (mk_kp kw))
  have la := (la.del g15).ext (ExtN.of (mk_kp k18))
  have lb := (lb.del g15).ext (ExtN.of (mk_kp k18))
  refine ⟨_, .tuple [.str "InvalidLabel", dw], rfl, shz_tup e18 (.cons ⟨.str _, by decide +kernel, by decide +kernel, by decide +kernel⟩ (.cons (ow.vz.to mk_all) .nil)) (by show 2 ≤ 20; decide), ?_⟩
  exact go H18 p a b ys wr ot dw dt ((Ex.refl g0 tb).kp (k15.trans k18)) ⟨la, lb, ow, oo, hy⟩
end
end K18
namespace K18
open PySem L2 OwE DzR LamX SR TAs
section
variable {P : Program} {w : World} {K : PySem.W.Frag} {mg : Str → Option Value} {base : Heap} {C : Nat → Addr} {CL fI gE gL gS gR gH pM gM gB gO gA fIO fC fT fTo c Pt : Addr} {dI dE dL dS dR dH dG dB dN dM dIO dC dT dTo : FuncData} {fN fM : Addr} {T : List (Addr × Str)}
theorem rr_b (S : RrEnv P w K mg base C CL fI gE gL gS gR gH pM gM gB gO gA fIO fC fT fTo c Pt dI dE dL dS dR dH dG dB dN dM dIO dC dT dTo fN fM T) {g : Addr} {A : Around} {o_ : List Env} {s : Shared} {H0 : Hp} {E : XK} (gd : A.guards = some []) (hr : Room 30 (A.deeper (PyProof.Rows.envOfC "_law_refused_right" (defScope sRefR) s.heap.objs.size g (.ref c)))) {rest : List Stmt} {u : TS} (pr : PSs (cxOf CX0 P w K mg base nRr "_law_refused_right" (defScope sRefR) g (.ref c) A o_ s H0 E).nox rest u) :
    ∃ t, PSs (cxOf CX0 P w K mg base nRr "_law_refused_right" (defScope sRefR) g (.ref c) A o_ s H0 E).nox ((defBody sRefR).getD 4 (.Pass ⟨0, 0, 0, 0⟩) :: (defBody sRefR).getD 5 (.Pass ⟨0, 0, 0, 0⟩) :: (defBody sRefR).getD 6 (.Pass ⟨0, 0, 0, 0⟩) :: (defBody sRefR).getD 7 (.Pass ⟨0, 0, 0, 0⟩) :: (defBody sRefR).getD 8 (.Pass ⟨0, 0, 0, 0⟩) :: (defBody sRefR).getD 9 (.Pass ⟨0, 0, 0, 0⟩) :: (defBody sRefR).getD 10 (.Pass ⟨0, 0, 0, 0⟩) :: (defBody sRefR).getD 11 (.Pass ⟨0, 0, 0, 0⟩) :: rest) t ∧ ∀ (D : Ends) (G : Hp) (r p a b : Addr) (g0 : Rg G r) (tb : Tabs T G) (ys : List Str) (wr ot : V) (dw dt : PyData) (fa : Fx K CL (delH G r) a b ys wr ot dw dt) (x7 x8 : Option V), (∀ H x7', Ex T r G H → u D [some (.ref r), some (.ref p), some wr, some ot, some (.ref a), some (.ref b), some (.str (tLab dw)), some x7', x8] H) →
      t D [some (.ref r), some (.ref p), some wr, some ot, some (.ref a), some (.ref b), some (.str (tLab dw)), x7, x8] G := by
  have un : (A.deeper (PyProof.Rows.envOfC "_law_refused_right" (defScope sRefR) s.heap.objs.size g (.ref c))).units + 200 < cLine := by have := hr.un; omega
  have un64 : (A.deeper (PyProof.Rows.envOfC "_law_refused_right" (defScope sRefR) s.heap.objs.size g (.ref c))).units + 64 < cLine := by omega
  obtain ⟨⟨⟨oc, od, kW, doc, pm, an, cdv, ct, osl, rfl, lk, hcd⟩, kp⟩, bT, mT⟩ := S.AT
  have un9 : ((A.deeper (PyProof.Rows.envOfC "_law_refused_right" (defScope sRefR) s.heap.objs.size g (.ref c))).deeper (PyProof.Rows.envOfC "_law_told" (defScope sLTold) 0 fTo cdv)).units + 200 < cLine := by
    have := hr.un
    show (A.deeper (PyProof.Rows.envOfC "_law_refused_right" (defScope sRefR) s.heap.objs.size g (.ref c))).units + 3 + 200 < cLine
    omega
  have hT : ∀ s2 : Shared, L2H.RoomH 1 ((cxOf CX0 P w K mg base nRr "_law_refused_right" (defScope sRefR) g (.ref c) A o_ s H0 E).nox.A.deeper (PyProof.Rows.envOfC "_law_told" (defScope sLTold) s2.heap.objs.size fTo cdv)) := fun s2 => L2H.roomH_of ((hr.mono (j := 2) (by decide)).deeper _)
  have RP : ∀ (s2 : Shared) (H2 : Hp), CallR ((cxOf C8.CX0 P w K mg base nTo "_law_told" (defScope sLTold) fTo cdv (cxOf CX0 P w K mg base nRr "_law_refused_right" (defScope sRefR) g (.ref c) A o_ s H0 E).nox.A (cxOf CX0 P w K mg base nRr "_law_refused_right" (defScope sRefR) g (.ref c) A o_ s H0 E).nox.stack s2 H2 C8.E0).nox) (.builtin "repr") (rShow RZ) := fun s2 H2 => call_reprZ S.SK gd un9
  refine ⟨_, (pss_cons (ps_set (i := 7) scRr.nd rfl (Or.inl rfl) (pe_lst (pa_cons (pe_lamcall (T := T) (k := 8) (Ng := nTo) (TT := TTo RZ C) (by rfl) mT kp lk hcd bT scTo rfl (Or.inl rfl) (told_gives S.TE hT RP) S.TB rfl S.hm S.hu (hr.mono (by decide)) (by apply lamS_by; show lamSB (defScope sRefR) _ = true; decide +kernel) rfl (fun _ _ _ _ _ => rfl)
          (t := fun E => tCall (spIO K CL (C 1)) [] E (tCons (tLst (tCons (tVar 4) (tCons (tVar 2) (tCons (tVar 3) tNil)))) tNil)) (fun A2 o2 s2 H2 E2 f2 c2 hr2 => pe_call (E := E2) S.GIO (hr2.mono (by decide)) (by rfl) S.AIO.m S.AIO.F.kp S.AIO.b .nil (CmS.passE (takes_of rfl rfl rfl rfl)) (pa_cons (pe_lst (pa_cons (pv 4) (pa_cons (pv 2) (pa_cons (pv 3) pa_nil)))) pa_nil))) pa_nil)))
    (pss_cons (ps_expr (pe_bm PySem.F.plainAttrs_list PySem.F.slot_list_append PySem.F.type_list_append mt_append (pv 7) (pa_cons (pe_lamcall (T := T) (k := 8) (Ng := nTo) (TT := TTo RZ C) (by rfl) mT kp lk hcd bT scTo rfl (Or.inl rfl) (told_gives S.TE hT RP) S.TB rfl S.hm S.hu (hr.mono (by decide)) (by apply lamS_by; show lamSB (defScope sRefR) _ = true; decide +kernel) rfl (fun _ _ _ _ _ => rfl)
          (t := fun E => tCall (spIO K CL (C 1)) [] E (tCons (tTup (tCons (tVar 5) (tCons (tVar 4) (tCons (tVar 2) (tCons (tVar 5) tNil))))) tNil)) (fun A2 o2 s2 H2 E2 f2 c2 hr2 => pe_call (E := E2) S.GIO (hr2.mono (by decide)) (by rfl) S.AIO.m S.AIO.F.kp S.AIO.b .nil (CmS.passE (takes_of rfl rfl rfl rfl)) (pa_cons (pe_tup (pa_cons (pv 5) (pa_cons (pv 4) (pa_cons (pv 2) (pa_cons (pv 5) pa_nil))))) pa_nil))) pa_nil)))
    (pss_cons (ps_expr (pe_bm PySem.F.plainAttrs_list PySem.F.slot_list_append PySem.F.type_list_append mt_append (pv 7) (pa_cons (pe_lamcall (T := T) (k := 8) (Ng := nTo) (TT := TTo RZ C) (by rfl) mT kp lk hcd bT scTo rfl (Or.inl rfl) (told_gives S.TE hT RP) S.TB rfl S.hm S.hu (hr.mono (by decide)) (by apply lamS_by; show lamSB (defScope sRefR) _ = true; decide +kernel) rfl (fun _ _ _ _ _ => rfl)
          (t := fun E => tMeth CL "is_below" (spBelow K CL (C 1)) [] E (tVar 4) (tCons (tVar 2) tNil)) (fun A2 o2 s2 H2 E2 f2 c2 hr2 => pe_meth (E := E2) (pv 4) S.M.cl S.mB S.GB (hr2.mono (by decide)) S.bB .nil (CmS.passE (takes_of rfl rfl rfl rfl)) (pa_cons (pv 2) pa_nil))) pa_nil)))
    (pss_cons (ps_expr (pe_bm PySem.F.plainAttrs_list PySem.F.slot_list_append PySem.F.type_list_append mt_append (pv 7) (pa_cons (pe_lamcall (T := T) (k := 8) (Ng := nTo) (TT := TTo RZ C) (by rfl) mT kp lk hcd bT scTo rfl (Or.inl rfl) (told_gives S.TE hT RP) S.TB rfl S.hm S.hu (hr.mono (by decide)) (by apply lamS_by; show lamSB (defScope sRefR) _ = true; decide +kernel) rfl (fun _ _ _ _ _ => rfl)
          (t := fun E => tMeth CL "is_below" (spBelow K CL (C 1)) [] E (tVar 5) (tCons (tVar 2) tNil)) (fun A2 o2 s2 H2 E2 f2 c2 hr2 => pe_meth (E := E2) (pv 5) S.M.cl S.mB S.GB (hr2.mono (by decide)) S.bB .nil (CmS.passE (takes_of rfl rfl rfl rfl)) (pa_cons (pv 2) pa_nil))) pa_nil)))
    (pss_cons (ps_expr (pe_bm PySem.F.plainAttrs_list PySem.F.slot_list_append PySem.F.type_list_append mt_append (pv 7) (pa_cons (pe_lamcall (T := T) (k := 8) (Ng := nTo) (TT := TTo RZ C) (by rfl) mT kp lk hcd bT scTo rfl (Or.inl rfl) (told_gives S.TE hT RP) S.TB rfl S.hm S.hu (hr.mono (by decide)) (by apply lamS_by; show lamSB (defScope sRefR) _ = true; decide +kernel) rfl (fun _ _ _ _ _ => rfl)
          (t := fun E => OpS.tBinS K CL (fun vs H Q E => spTwo (· ++ ·) K CL (C 1) (C 40) (vs ++ []) H Q E) (fun _ => E) (tVar 4) (tVar 2)) (fun A2 o2 s2 H2 E2 f2 c2 hr2 => OpS.pe_binS (E := fun _ => E2) S.OB S.M.O S.GO (hr2.mono (by decide)) (fun σ => passAt (takes_of rfl rfl rfl rfl) σ) (pv 4) (pv 2))) pa_nil)))
    (pss_cons (ps_expr (pe_bm PySem.F.plainAttrs_list PySem.F.slot_list_append PySem.F.type_list_append mt_append (pv 7) (pa_cons (pe_lamcall (T := T) (k := 8) (Ng := nTo) (TT := TTo RZ C) (by rfl) mT kp lk hcd bT scTo rfl (Or.inl rfl) (told_gives S.TE hT RP) S.TB rfl S.hm S.hu (hr.mono (by decide)) (by apply lamS_by; show lamSB (defScope sRefR) _ = true; decide +kernel) rfl (fun _ _ _ _ _ => rfl)
          (t := fun E => OpS.tBinS K CL (fun vs H Q E => spTwo (fun xs ys => xs.filter fun x => decide (x ∈ ys)) K CL (C 1) (C 40) (vs ++ []) H Q E) (fun _ => E) (tVar 5) (tVar 2)) (fun A2 o2 s2 H2 E2 f2 c2 hr2 => OpS.pe_binS (E := fun _ => E2) S.OA S.M.O S.GA (hr2.mono (by decide)) (fun σ => passAt (takes_of rfl rfl rfl rfl) σ) (pv 5) (pv 2))) pa_nil)))
    (pss_cons (ps_expr (pe_bm PySem.F.plainAttrs_list PySem.F.slot_list_append PySem.F.type_list_append mt_append (pv 7) (pa_cons (pe_lamcall (T := T) (k := 8) (Ng := nTo) (TT := TTo RZ C) (by rfl) mT kp lk hcd bT scTo rfl (Or.inl rfl) (told_gives S.TE hT RP) S.TB rfl S.hm S.hu (hr.mono (by decide)) (by apply lamS_by; show lamSB (defScope sRefR) _ = true; decide +kernel) rfl (fun _ _ _ _ _ => rfl)
          (t := fun E => OpS.tBinS K CL (fun vs H Q E => spTwo (fun xs ys => xs.filter fun x => decide (x ∈ ys)) K CL (C 1) (C 40) (vs ++ []) H Q E) (fun _ => E) (tVar 4) (tVar 2)) (fun A2 o2 s2 H2 E2 f2 c2 hr2 => OpS.pe_binS (E := fun _ => E2) S.OA S.M.O S.GA (hr2.mono (by decide)) (fun σ => passAt (takes_of rfl rfl rfl rfl) σ) (pv 4) (pv 2))) pa_nil)))
    (pss_cons (ps_if (pt_cmpR (op_neD un64) (pv 7) (pe_op op_rep (pe_lst (pa_cons (pv 6) pa_nil)) pe_int) (nomark _)) (pss_one (ps_ret pe_bl)) pss_nil)
    pr)))))))), ?_⟩
  intro D G r p a b g0 tb ys wr ot dw dt fa x7 x8 go
  have X0 : Ex T r G G := Ex.refl g0 tb
  have f : ∀ {H : Hp}, Ex T r G H → Fx K CL H a b ys wr ot dw dt := fun x => fa.ext x.e
  refine first_rd (tLab dw) X0 (fun H1 Q Qv x k => w_io3 rfl rfl rfl (f x).la (f x).w (f x).o k) fun G1 q x1 n nr h1 => ?_
  refine app_rd (L := List.replicate 1 (tLab dw)) (tLab dw) x1 rfl h1 (by rw [List.length_replicate]; decide) n nr (fun H1 Q Qv x k => w_io4 rfl rfl rfl (f x).la (f x).lb (f x).w k) fun G2 x2 h2 => ?_
  refine app_rd (L := List.replicate 2 (tLab dw)) (tLab dw) x2 rfl h2 (by rw [List.length_replicate]; decide) n nr (fun H1 Q Qv x k => w_below rfl rfl (f x).la (f x).w k) fun G3 x3 h3 => ?_
  refine app_rd (L := List.replicate 3 (tLab dw)) (tLab dw) x3 rfl h3 (by rw [List.length_replicate]; decide) n nr (fun H1 Q Qv x k => w_below rfl rfl (f x).lb (f x).w k) fun G4 x4 h4 => ?_
  refine app_rd (L := List.replicate 4 (tLab dw)) (tLab dw) x4 rfl h4 (by rw [List.length_replicate]; decide) n nr (fun H1 Q Qv x k => w_two _ rfl rfl (f x).la (f x).w k) fun G5 x5 h5 => ?_
  refine app_rd (L := List.replicate 5 (tLab dw)) (tLab dw) x5 rfl h5 (by rw [List.length_replicate]; decide) n nr (fun H1 Q Qv x k => w_two _ rfl rfl (f x).lb (f x).w k) fun G6 x6 h6 => ?_
  refine app_rd (L := List.replicate 6 (tLab dw)) (tLab dw) x6 rfl h6 (by rw [List.length_replicate]; decide) n nr (fun H1 Q Qv x k => w_two _ rfl rfl (f x).la (f x).w k) fun G7 x9 h7 => ?_
  exact cmp_rd (n := 7) rfl h7 fa.w.okL (by decide) (fun Q2 k => ⟨_, rfl, k _ (Same.refl _)⟩) fun H2 s2 => go H2 _ (x9.same s2)
end
end K18
namespace K18
open PySem L2 OwE DzR LamX SR TAs
section
variable {P : Program} {w : World} {K : PySem.W.Frag} {mg : Str → Option Value} {base : Heap} {C : Nat → Addr} {CL fI gE gL gS gR gH pM gM gB gO gA fIO fC fT fTo c Pt : Addr} {dI dE dL dS dR dH dG dB dN dM dIO dC dT dTo : FuncData} {fN fM : Addr} {T : List (Addr × Str)}
theorem rr_c (S : RrEnv P w K mg base C CL fI gE gL gS gR gH pM gM gB gO gA fIO fC fT fTo c Pt dI dE dL dS dR dH dG dB dN dM dIO dC dT dTo fN fM T) {g : Addr} {A : Around} {o_ : List Env} {s : Shared} {H0 : Hp} {E : XK} (gd : A.guards = some []) (hr : Room 30 (A.deeper (PyProof.Rows.envOfC "_law_refused_right" (defScope sRefR) s.heap.objs.size g (.ref c)))) {rest : List Stmt} {u : TS} (pr : PSs (cxOf CX0 P w K mg base nRr "_law_refused_right" (defScope sRefR) g (.ref c) A o_ s H0 E).nox rest u) :
    ∃ t, PSs (cxOf CX0 P w K mg base nRr "_law_refused_right" (defScope sRefR) g (.ref c) A o_ s H0 E).nox ((defBody sRefR).getD 12 (.Pass ⟨0, 0, 0, 0⟩) :: (defBody sRefR).getD 13 (.Pass ⟨0, 0, 0, 0⟩) :: (defBody sRefR).getD 14 (.Pass ⟨0, 0, 0, 0⟩) :: (defBody sRefR).getD 15 (.Pass ⟨0, 0, 0, 0⟩) :: (defBody sRefR).getD 16 (.Pass ⟨0, 0, 0, 0⟩) :: rest) t ∧ ∀ (D : Ends) (G : Hp) (r p a b : Addr) (g0 : Rg G r) (tb : Tabs T G) (ys : List Str) (wr ot : V) (dw dt : PyData) (fa : Fx K CL (delH G r) a b ys wr ot dw dt) (x6 : V) (x7 x8 : Option V), (∀ H x7' x8', Ex T r G H → u D [some (.ref r), some (.ref p), some wr, some ot, some (.ref a), some (.ref b), some x6, some x7', some x8'] H) →
      t D [some (.ref r), some (.ref p), some wr, some ot, some (.ref a), some (.ref b), some x6, x7, x8] G := by
  have un : (A.deeper (PyProof.Rows.envOfC "_law_refused_right" (defScope sRefR) s.heap.objs.size g (.ref c))).units + 200 < cLine := by have := hr.un; omega
  have un64 : (A.deeper (PyProof.Rows.envOfC "_law_refused_right" (defScope sRefR) s.heap.objs.size g (.ref c))).units + 64 < cLine := by omega
  obtain ⟨⟨⟨oc, od, kW, doc, pm, an, cdv, ct, osl, rfl, lk, hcd⟩, kp⟩, bT, mT⟩ := S.AT
  have un9 : ((A.deeper (PyProof.Rows.envOfC "_law_refused_right" (defScope sRefR) s.heap.objs.size g (.ref c))).deeper (PyProof.Rows.envOfC "_law_told" (defScope sLTold) 0 fTo cdv)).units + 200 < cLine := by
    have := hr.un
    show (A.deeper (PyProof.Rows.envOfC "_law_refused_right" (defScope sRefR) s.heap.objs.size g (.ref c))).units + 3 + 200 < cLine
    omega
  have hT : ∀ s2 : Shared, L2H.RoomH 1 ((cxOf CX0 P w K mg base nRr "_law_refused_right" (defScope sRefR) g (.ref c) A o_ s H0 E).nox.A.deeper (PyProof.Rows.envOfC "_law_told" (defScope sLTold) s2.heap.objs.size fTo cdv)) := fun s2 => L2H.roomH_of ((hr.mono (j := 2) (by decide)).deeper _)
  have RP : ∀ (s2 : Shared) (H2 : Hp), CallR ((cxOf C8.CX0 P w K mg base nTo "_law_told" (defScope sLTold) fTo cdv (cxOf CX0 P w K mg base nRr "_law_refused_right" (defScope sRefR) g (.ref c) A o_ s H0 E).nox.A (cxOf CX0 P w K mg base nRr "_law_refused_right" (defScope sRefR) g (.ref c) A o_ s H0 E).nox.stack s2 H2 C8.E0).nox) (.builtin "repr") (rShow RZ) := fun s2 H2 => call_reprZ S.SK gd un9
  refine ⟨_, (pss_cons (ps_set (i := 8) scRr.nd rfl (Or.inr rfl) (pe_call S.GC (hr.mono (by decide)) (by rfl) S.AC.m S.AC.F.kp S.AC.b .nil pass0 (pa_cons (pv 0) (pa_cons (pe_lst (pa_cons pe_str (pa_cons pe_str (pa_cons pe_non (pa_cons pe_int (pa_cons pe_bl (pa_cons pe_str (pa_cons (pe_tup (pa_cons pe_str pa_nil)) (pa_cons (pe_lst pa_nil) (pa_cons pe_dnewK (pa_cons pe_str pa_nil))))))))))) pa_nil))))
    (pss_cons (ps_set (i := 7) scRr.nd rfl (Or.inl rfl) (pe_lst (pa_cons (pe_lamcall (T := T) (k := 8) (Ng := nTo) (TT := TTo RZ C) (by rfl) mT kp lk hcd bT scTo rfl (Or.inl rfl) (told_gives S.TE hT RP) S.TB rfl S.hm S.hu (hr.mono (by decide)) (by apply lamS_by; show lamSB (defScope sRefR) _ = true; decide +kernel) rfl (fun _ _ _ _ _ => rfl)
          (t := fun E => StX.tMakeR CL (SI K CL (C 0) (C 40)) E (tCons (tC (.str "a")) (tCons (tC (.str "b")) (tCons (tC (.str "c")) (tCons (tC (.str "d")) (tCons (tC (.str "e")) (tCons (tVar 8) (tCons (tVar 3) tNil)))))))) (fun A2 o2 s2 H2 E2 f2 c2 hr2 => StX.pe_makeR (E := E2) S.L.mkr S.GI (hr2.mono (by decide)) (by rfl) S.L.m (CmS.passE (takes_of rfl rfl rfl rfl)) (pa_cons pe_str (pa_cons pe_str (pa_cons pe_str (pa_cons pe_str (pa_cons pe_str (pa_cons (pv 8) (pa_cons (pv 3) pa_nil))))))))) pa_nil)))
    (pss_cons (ps_expr (pe_bm PySem.F.plainAttrs_list PySem.F.slot_list_append PySem.F.type_list_append mt_append (pv 7) (pa_cons (pe_lamcall (T := T) (k := 8) (Ng := nTo) (TT := TTo RZ C) (by rfl) mT kp lk hcd bT scTo rfl (Or.inl rfl) (told_gives S.TE hT RP) S.TB rfl S.hm S.hu (hr.mono (by decide)) (by apply lamS_by; show lamSB (defScope sRefR) _ = true; decide +kernel) rfl (fun _ _ _ _ _ => rfl)
          (t := fun E => StX.tMakeR CL (SI K CL (C 0) (C 40)) E (tCons (tVar 8) (tCons (tVar 2) tNil))) (fun A2 o2 s2 H2 E2 f2 c2 hr2 => StX.pe_makeR (E := E2) S.L.mkr S.GI (hr2.mono (by decide)) (by rfl) S.L.m (CmS.passE (takes_of rfl rfl rfl rfl)) (pa_cons (pv 8) (pa_cons (pv 2) pa_nil)))) pa_nil)))
    (pss_cons (ps_expr (pe_bm PySem.F.plainAttrs_list PySem.F.slot_list_append PySem.F.type_list_append mt_append (pv 7) (pa_cons (pe_lamcall (T := T) (k := 8) (Ng := nTo) (TT := TTo RZ C) (by rfl) mT kp lk hcd bT scTo rfl (Or.inl rfl) (told_gives S.TE hT RP) S.TB rfl S.hm S.hu (hr.mono (by decide)) (by apply lamS_by; show lamSB (defScope sRefR) _ = true; decide +kernel) rfl (fun _ _ _ _ _ => rfl)
          (t := fun E => StX.tMakeR CL (SI K CL (C 0) (C 40)) E (tCons (tC (.str "a")) (tCons (tC (.str "a")) (tCons (tC (.str "a")) (tCons (tC (.str "a")) (tCons (tC (.str "a")) (tCons (tC (.str "a")) (tCons (tVar 8) tNil)))))))) (fun A2 o2 s2 H2 E2 f2 c2 hr2 => StX.pe_makeR (E := E2) S.L.mkr S.GI (hr2.mono (by decide)) (by rfl) S.L.m (CmS.passE (takes_of rfl rfl rfl rfl)) (pa_cons pe_str (pa_cons pe_str (pa_cons pe_str (pa_cons pe_str (pa_cons pe_str (pa_cons pe_str (pa_cons (pv 8) pa_nil))))))))) pa_nil)))
    (pss_cons (ps_if (pt_cmpR (op_neD un64) (pv 7) (pe_op op_rep (pe_lst (pa_cons (pe_callB (show CallR (cxOf CX0 P w K mg base nRr "_law_refused_right" (defScope sRefR) g (.ref c) A o_ s H0 E).nox (.builtin "repr") rZ from call_reprZ S.SK gd un) (by rfl) S.Z.zRepr (by decide +kernel) (pa_cons (pe_tup (pa_cons pe_str (pa_cons (pv 8) pa_nil))) pa_nil)) pa_nil)) pe_int) (nomark _)) (pss_one (ps_ret pe_bl)) pss_nil)
    pr))))), ?_⟩
  intro D G r p a b g0 tb ys wr ot dw dt fa x6 x7 x8 go
  refine ⟨_, rfl, by show 1 ≤ sizeLine; decide, fun t1 h1 => ⟨by show 0 ≤ sizeLine; decide, fun t2 h2 => fun t3 h3 => ⟨by show 10 ≤ sizeLine; decide, fun p1 hp => ?_⟩⟩⟩
  have ner : ∀ {G2 : Hp} {t : Addr}, Same G G2 → G2 t = none → t ≠ r := fun {G2 t} sm h => (((Ex.refl g0 tb).same sm).frs h).2
  have s1 := same_upd (o := HO.tup [.str "a"]) h1
  have e1 : (upd G t1 (HO.tup [.str "a"])) t1 = _ := upd_same
  revert s1 e1 h2 h3 hp
  generalize upd G t1 (HO.tup [.str "a"]) = H1
  intro h2 h3 hp s1 e1
  have s2 := same_upd (o := HO.lst []) h2
  have e2 : (upd H1 t2 (HO.lst [])) t2 = _ := upd_same
  revert s2 e2 h3 hp
  generalize upd H1 t2 (HO.lst []) = H2
  intro h3 hp s2 e2
  have s3 := same_upd (o := HO.dK []) h3
  have e3 : (upd H2 t3 (HO.dK [])) t3 = _ := upd_same
  revert s3 e3 hp
  generalize upd H2 t3 (HO.dK []) = H3
  intro hp s3 e3
  have s4 := same_upd (o := HO.lst [.str "A", .str "", .non, .int 0, .bl true, .str "ninechars", .ref t1, .ref t2, .ref t3, .str "a+b"]) hp
  have e4 : (upd H3 p1 (HO.lst [.str "A", .str "", .non, .int 0, .bl true, .str "ninechars", .ref t1, .ref t2, .ref t3, .str "a+b"])) p1 = some (.lst [.str "A", .str "", .non, .int 0, .bl true, .str "ninechars", .ref t1, .ref t2, .ref t3, .str "a+b"]) := upd_same
  have np := ner (s1.trans (s2.trans s3)) hp
  have n3 := ner (s1.trans s2) h3
  have n2 := ner s1 h2
  have n1 := ner (Same.refl G) h1
  revert s4 e4
  generalize upd H3 p1 (HO.lst [.str "A", .str "", .non, .int 0, .bl true, .str "ninechars", .ref t1, .ref t2, .ref t3, .str "a+b"]) = H4
  intro s4 e4
  have each : ∀ v ∈ ([.str "A", .str "", .non, .int 0, .bl true, .str "ninechars", .ref t1, .ref t2, .ref t3, .str "a+b"] : List V), ∃ d, Od K (delH H4 r) v d ∧ nameV v = false := by
    have e3 := (delH_ne n3).trans (s4 _ _ e3)
    have e2 := (delH_ne n2).trans (s4 _ _ (s3 _ _ e2))
    have e1 := (delH_ne n1).trans (s4 _ _ (s3 _ _ (s2 _ _ e1)))
    intro v hv
    simp only [List.mem_cons, List.not_mem_nil, or_false] at hv
    rcases hv with rfl | rfl | rfl | rfl | rfl | rfl | rfl | rfl | rfl | rfl
    · exact ⟨.str "A", ⟨⟨.str _, by decide +kernel, by decide +kernel, by decide +kernel⟩, ⟨_, .str _⟩, (fun y z => by cases z; decide +kernel), (fun o z => nomatch z), by decide +kernel, by decide +kernel⟩, by decide +kernel⟩
    · exact ⟨.str "", ⟨⟨.str _, by decide +kernel, by decide +kernel, by decide +kernel⟩, ⟨_, .str _⟩, (fun y z => by cases z; decide +kernel), (fun o z => nomatch z), by decide +kernel, by decide +kernel⟩, by decide +kernel⟩
    · exact ⟨.none, ⟨⟨.non, by decide +kernel, by decide +kernel, by decide +kernel⟩, ⟨_, .non⟩, (fun y z => nomatch z), (fun o z => nomatch z), by decide +kernel, by decide +kernel⟩, by decide +kernel⟩
    · exact ⟨(.int 0), ⟨⟨(.int 0), by decide +kernel, by decide +kernel, by decide +kernel⟩, ⟨_, (.int 0)⟩, (fun y z => nomatch z), (fun o z => nomatch z), by decide +kernel, by decide +kernel⟩, by decide +kernel⟩
    · exact ⟨(.bool true), ⟨⟨(.bl true), by decide +kernel, by decide +kernel, by decide +kernel⟩, ⟨_, (.bl true)⟩, (fun y z => nomatch z), (fun o z => nomatch z), by decide +kernel, by decide +kernel⟩, by decide +kernel⟩
    · exact ⟨.str "ninechars", ⟨⟨.str _, by decide +kernel, by decide +kernel, by decide +kernel⟩, ⟨_, .str _⟩, (fun y z => by cases z; decide +kernel), (fun o z => nomatch z), by decide +kernel, by decide +kernel⟩, by decide +kernel⟩
    · exact ⟨.tuple [.str "a"], ⟨⟨.tup e1 (.cons (.str _) .nil), by decide +kernel, by decide +kernel, by decide +kernel⟩, ⟨_, .tup e1⟩, (fun y z => nomatch z), (fun o z => by cases z; rw [e1]; exact fun y => nomatch y), by decide +kernel, by decide +kernel⟩, rfl⟩
    · exact ⟨.list [], ⟨⟨.lst e2 .nil, by decide +kernel, by decide +kernel, by decide +kernel⟩, ⟨_, .lst e2⟩, (fun y z => nomatch z), (fun o z => by cases z; rw [e2]; exact fun y => nomatch y), by decide +kernel, by decide +kernel⟩, rfl⟩
    · exact ⟨.dict [], ⟨⟨.dic (ks := []) e3 rfl .nil, by decide +kernel, by decide +kernel, by decide +kernel⟩, ⟨_, .dic e3⟩, (fun y z => nomatch z), (fun o z => by cases z; rw [e3]; exact fun y => nomatch y), by decide +kernel, by decide +kernel⟩, rfl⟩
    · exact ⟨.str "a+b", ⟨⟨.str _, by decide +kernel, by decide +kernel, by decide +kernel⟩, ⟨_, .str _⟩, (fun y z => by cases z; decide +kernel), (fun o z => nomatch z), by decide +kernel, by decide +kernel⟩, by decide +kernel⟩
  have ss := s1.trans (s2.trans (s3.trans s4))
  refine ⟨r, .ref p1, rfl, (Kp.of_same ss).2 g0, .inl ⟨p1, _, rfl, e4, np, (fun z => nomatch z), (by show 10 ≤ big; decide), fun G1 bd k1 mb => ?_⟩⟩
  obtain ⟨db, ob, nb⟩ := each bd mb
  have ob := ob.ext (ExtN.of (mk_kp k1))
  have x1 : Ex T r G G1 := ((Ex.refl g0 tb).same ss).kp k1
  have fa := fa.ext x1.del
  clear each mb k1 e1 e2 e3 e4 s1 s2 s3 s4 ss n1 n2 n3 np h1 h2 h3 hp
  have X0 : Ex T r G1 G1 := Ex.refl x1.g x1.t
  have f : ∀ {H : Hp}, Ex T r G1 H → Fx K CL H a b ys wr ot dw dt := fun x => fa.ext x.e
  have fb : ∀ {H : Hp}, Ex T r G1 H → Od K H bd db := fun x => ob.ext x.e
  have ab : ∀ x ∈ (["a", "b", "c", "d", "e"] : List Str), ∀ {H : Hp}, Cl K H (.str x) := fun x hx {H} => cl_names (K := K) (H := H) (ts := five) (by decide +kernel) _ (List.mem_map.mpr ⟨x, hx, rfl⟩)
  refine first_rd (tNam db) X0 (fun H1 Q Qv x k => w_make (xs := [.str "a", .str "b", .str "c", .str "d", .str "e", bd, ot]) (fun k2 h => ⟨_, rfl, _, rfl, h⟩) (by show 7 < 60; decide) (asks_bad (fun u hu => ?_) (find_first (i := 5) rfl (by show (List.all [V.str "a", .str "b", .str "c", .str "d", .str "e"] nameV) = true; decide +kernel) nb) (bad_one .nam (fb x).vz k))) fun G2 q x2 n nr h2 => ?_
  · simp only [List.mem_cons, List.not_mem_nil, or_false] at hu
    rcases hu with rfl | rfl | rfl | rfl | rfl | rfl | rfl
    · exact ab _ (by decide +kernel)
    · exact ab _ (by decide +kernel)
    · exact ab _ (by decide +kernel)
    · exact ab _ (by decide +kernel)
    · exact ab _ (by decide +kernel)
    · exact (fb x).cl
    · exact (f x).o.cl
  refine app_rd (L := List.replicate 1 (tNam db)) (tNam db) x2 rfl h2 (by rw [List.length_replicate]; decide) n nr (fun H1 Q Qv x k => w_make (xs := [bd, wr]) (fun k2 h => ⟨_, rfl, _, rfl, h⟩) (by show 2 < 60; decide) (asks_bad (fun u hu => ?_) (find_first (i := 0) rfl rfl nb) (bad_one .nam (fb x).vz k))) fun G3 x3 h3 => ?_
  · simp only [List.mem_cons, List.not_mem_nil, or_false] at hu
    rcases hu with rfl | rfl
    · exact (fb x).cl
    · exact (f x).w.cl
  refine app_rd (L := List.replicate 2 (tNam db)) (tNam db) x3 rfl h3 (by rw [List.length_replicate]; decide) n nr (fun H1 Q Qv x k => w_make (xs := [.str "a", .str "a", .str "a", .str "a", .str "a", .str "a", bd]) (fun k2 h => ⟨_, rfl, h⟩) (by show 7 < 60; decide) (asks_bad (fun u hu => ?_) (find_first (i := 6) rfl (by show (List.all [V.str "a", .str "a", .str "a", .str "a", .str "a", .str "a"] nameV) = true; decide +kernel) nb) (bad_one .nam (fb x).vz k))) fun G4 x4 h4 => ?_
  · simp only [List.mem_cons, List.not_mem_nil, or_false] at hu
    rcases hu with rfl | rfl | rfl | rfl | rfl | rfl | rfl
    · exact ab _ (by decide +kernel)
    · exact ab _ (by decide +kernel)
    · exact ab _ (by decide +kernel)
    · exact ab _ (by decide +kernel)
    · exact ab _ (by decide +kernel)
    · exact ab _ (by decide +kernel)
    · exact (fb x).cl
  exact cmp_rd (n := 3) rfl h4 ob.okN (by decide) (fun Q2 k => ⟨_, rfl, by show 2 ≤ sizeLine; decide, fun t ht => ⟨_, .tuple [.str "InvalidName", db], rfl, shz_tup upd_same (.cons ⟨.str _, by decide +kernel, by decide +kernel, by decide +kernel⟩ (.cons ((fb x4).vz.same (same_upd ht)) .nil)) (by show 2 ≤ 20; decide), k _ (same_upd ht)⟩⟩) fun H2 s2 => go H2 _ _ (x1.trans (x4.same s2))
theorem rr_d (S : RrEnv P w K mg base C CL fI gE gL gS gR gH pM gM gB gO gA fIO fC fT fTo c Pt dI dE dL dS dR dH dG dB dN dM dIO dC dT dTo fN fM T) {g : Addr} {A : Around} {o_ : List Env} {s : Shared} {H0 : Hp} {E : XK} (gd : A.guards = some []) (hr : Room 30 (A.deeper (PyProof.Rows.envOfC "_law_refused_right" (defScope sRefR) s.heap.objs.size g (.ref c)))) {rest : List Stmt} {u : TS} (pr : PSs (cxOf CX0 P w K mg base nRr "_law_refused_right" (defScope sRefR) g (.ref c) A o_ s H0 E).nox rest u) :
    ∃ t, PSs (cxOf CX0 P w K mg base nRr "_law_refused_right" (defScope sRefR) g (.ref c) A o_ s H0 E).nox ((defBody sRefR).getD 17 (.Pass ⟨0, 0, 0, 0⟩) :: (defBody sRefR).getD 18 (.Pass ⟨0, 0, 0, 0⟩) :: (defBody sRefR).getD 19 (.Pass ⟨0, 0, 0, 0⟩) :: (defBody sRefR).getD 20 (.Pass ⟨0, 0, 0, 0⟩) :: rest) t ∧ ∀ (D : Ends) (G : Hp) (r p a b : Addr) (g0 : Rg G r) (tb : Tabs T G) (ys : List Str) (wr ot : V) (dw dt : PyData) (fa : Fx K CL (delH G r) a b ys wr ot dw dt) (x6 x8 : V) (x7 : Option V), (∀ H x7', Ex T r G H → u D [some (.ref r), some (.ref p), some wr, some ot, some (.ref a), some (.ref b), some x6, some x7', some x8] H) →
      t D [some (.ref r), some (.ref p), some wr, some ot, some (.ref a), some (.ref b), some x6, x7, some x8] G := by
  have un : (A.deeper (PyProof.Rows.envOfC "_law_refused_right" (defScope sRefR) s.heap.objs.size g (.ref c))).units + 200 < cLine := by have := hr.un; omega
  have un64 : (A.deeper (PyProof.Rows.envOfC "_law_refused_right" (defScope sRefR) s.heap.objs.size g (.ref c))).units + 64 < cLine := by omega
  obtain ⟨⟨⟨oc, od, kW, doc, pm, an, cdv, ct, osl, rfl, lk, hcd⟩, kp⟩, bT, mT⟩ := S.AT
  have un9 : ((A.deeper (PyProof.Rows.envOfC "_law_refused_right" (defScope sRefR) s.heap.objs.size g (.ref c))).deeper (PyProof.Rows.envOfC "_law_told" (defScope sLTold) 0 fTo cdv)).units + 200 < cLine := by
    have := hr.un
    show (A.deeper (PyProof.Rows.envOfC "_law_refused_right" (defScope sRefR) s.heap.objs.size g (.ref c))).units + 3 + 200 < cLine
    omega
  have hT : ∀ s2 : Shared, L2H.RoomH 1 ((cxOf CX0 P w K mg base nRr "_law_refused_right" (defScope sRefR) g (.ref c) A o_ s H0 E).nox.A.deeper (PyProof.Rows.envOfC "_law_told" (defScope sLTold) s2.heap.objs.size fTo cdv)) := fun s2 => L2H.roomH_of ((hr.mono (j := 2) (by decide)).deeper _)
  have RP : ∀ (s2 : Shared) (H2 : Hp), CallR ((cxOf C8.CX0 P w K mg base nTo "_law_told" (defScope sLTold) fTo cdv (cxOf CX0 P w K mg base nRr "_law_refused_right" (defScope sRefR) g (.ref c) A o_ s H0 E).nox.A (cxOf CX0 P w K mg base nRr "_law_refused_right" (defScope sRefR) g (.ref c) A o_ s H0 E).nox.stack s2 H2 C8.E0).nox) (.builtin "repr") (rShow RZ) := fun s2 H2 => call_reprZ S.SK gd un9
  refine ⟨_, (pss_cons (ps_set (i := 7) scRr.nd rfl (Or.inl rfl) (pe_lst (pa_cons (pe_lamcall (T := T) (k := 8) (Ng := nTo) (TT := TTo RZ C) (by rfl) mT kp lk hcd bT scTo rfl (Or.inl rfl) (told_gives S.TE hT RP) S.TB rfl S.hm S.hu (hr.mono (by decide)) (by apply lamS_by; show lamSB (defScope sRefR) _ = true; decide +kernel) rfl (fun _ _ _ _ _ => rfl)
          (t := fun E => StX.tMakeR CL (SI K CL (C 0) (C 40)) E (tCons (tC (.str "e")) (tCons (tC (.str "a")) (tCons (tC (.str "b")) (tCons (tC (.str "c")) (tCons (tC (.str "d")) (tCons (tC (.str "a")) tNil))))))) (fun A2 o2 s2 H2 E2 f2 c2 hr2 => StX.pe_makeR (E := E2) S.L.mkr S.GI (hr2.mono (by decide)) (by rfl) S.L.m (CmS.passE (takes_of rfl rfl rfl rfl)) (pa_cons pe_str (pa_cons pe_str (pa_cons pe_str (pa_cons pe_str (pa_cons pe_str (pa_cons pe_str pa_nil)))))))) pa_nil)))
    (pss_cons (ps_expr (pe_bm PySem.F.plainAttrs_list PySem.F.slot_list_append PySem.F.type_list_append mt_append (pv 7) (pa_cons (pe_lamcall (T := T) (k := 8) (Ng := nTo) (TT := TTo RZ C) (by rfl) mT kp lk hcd bT scTo rfl (Or.inl rfl) (told_gives S.TE hT RP) S.TB rfl S.hm S.hu (hr.mono (by decide)) (by apply lamS_by; show lamSB (defScope sRefR) _ = true; decide +kernel) rfl (fun _ _ _ _ _ => rfl)
          (t := fun E => OpS.tBinS K CL (fun vs H Q E => spTwo (· ++ ·) K CL (C 1) (C 40) (vs ++ []) H Q E) (fun _ => E) (tVar 4) (StX.tMakeR CL (SI K CL (C 0) (C 40)) E (tCons (tC (.str "d")) (tCons (tC (.str "e")) tNil)))) (fun A2 o2 s2 H2 E2 f2 c2 hr2 => OpS.pe_binS (E := fun _ => E2) S.OB S.M.O S.GO (hr2.mono (by decide)) (fun σ => passAt (takes_of rfl rfl rfl rfl) σ) (pv 4) (StX.pe_makeR (E := E2) S.L.mkr S.GI (hr2.mono (by decide)) (by rfl) S.L.m (CmS.passE (takes_of rfl rfl rfl rfl)) (pa_cons pe_str (pa_cons pe_str pa_nil))))) pa_nil)))
    (pss_cons (ps_expr (pe_bm PySem.F.plainAttrs_list PySem.F.slot_list_append PySem.F.type_list_append mt_append (pv 7) (pa_cons (pe_lamcall (T := T) (k := 8) (Ng := nTo) (TT := TTo RZ C) (by rfl) mT kp lk hcd bT scTo rfl (Or.inl rfl) (told_gives S.TE hT RP) S.TB rfl S.hm S.hu (hr.mono (by decide)) (by apply lamS_by; show lamSB (defScope sRefR) _ = true; decide +kernel) rfl (fun _ _ _ _ _ => rfl)
          (t := fun E => OpS.tBinS K CL (fun vs H Q E => spTwo (· ++ ·) K CL (C 1) (C 40) (vs ++ []) H Q E) (fun _ => E) (OpS.tBinS K CL (fun vs H Q E => spTwo (· ++ ·) K CL (C 1) (C 40) (vs ++ []) H Q E) (fun _ => E) (StX.tMakeR CL (SI K CL (C 0) (C 40)) E (tCons (tC (.str "d")) (tCons (tC (.str "e")) tNil))) (tVar 4)) (tVar 5)) (fun A2 o2 s2 H2 E2 f2 c2 hr2 => OpS.pe_binS (E := fun _ => E2) S.OB S.M.O S.GO (hr2.mono (by decide)) (fun σ => passAt (takes_of rfl rfl rfl rfl) σ) (OpS.pe_binS (E := fun _ => E2) S.OB S.M.O S.GO (hr2.mono (by decide)) (fun σ => passAt (takes_of rfl rfl rfl rfl) σ) (StX.pe_makeR (E := E2) S.L.mkr S.GI (hr2.mono (by decide)) (by rfl) S.L.m (CmS.passE (takes_of rfl rfl rfl rfl)) (pa_cons pe_str (pa_cons pe_str pa_nil))) (pv 4)) (pv 5))) pa_nil)))
    (pss_cons (ps_if (pt_cmpR (op_neD un64) (pv 7) (pe_op op_rep (pe_lst (pa_cons (pe_callB (show CallR (cxOf CX0 P w K mg base nRr "_law_refused_right" (defScope sRefR) g (.ref c) A o_ s H0 E).nox (.builtin "repr") rZ from call_reprZ S.SK gd un) (by rfl) S.Z.zRepr (by decide +kernel) (pa_cons (pe_tup (pa_cons pe_str (pa_cons pe_str (pa_cons pe_int pa_nil)))) pa_nil)) pa_nil)) pe_int) (nomark _)) (pss_one (ps_ret pe_bl)) pss_nil)
    pr)))), ?_⟩
  intro D G r p a b g0 tb ys wr ot dw dt fa x6 x8 x7 go
  have X0 : Ex T r G G := Ex.refl g0 tb
  have f : ∀ {H : Hp}, Ex T r G H → Fx K CL H a b ys wr ot dw dt := fun x => fa.ext x.e
  have de : ∀ {σ : L2.St} {H : Hp} {Q Qv : VK} (k : ∀ H2 z, Same H H2 → Lb CL H2 z ["d", "e"] → Qv (.ref z) H2), StX.tMakeR CL (SI K CL (C 0) (C 40)) (EC C Q) (tCons (tC (.str "d")) (tCons (tC (.str "e")) tNil)) σ H Qv := fun {σ H Q Qv} k =>
    te_make (xs := (["d", "e"] : List Str).map V.str) (fun k2 h => h) (by decide) (asks0 (ts := ["d", "e"]) (by decide +kernel) (srt_by (by decide +kernel) (fun y h => h) (fun y h => h)) (by decide) fun H2 z s _ lz => k H2 z s lz)
  refine first_rd tMany X0 (fun H1 Q Qv x k => w_make (xs := (["e", "a", "b", "c", "d", "a"] : List Str).map V.str) (fun k2 h => h) (by decide) (asksM (ts := ["e", "a", "b", "c", "d", "a"]) (zs := five) (by decide +kernel) (srt_by (by decide +kernel) (by decide +kernel) (by decide +kernel)) (fun _ => bad_many k) fun l => absurd l (by decide))) fun G2 q x2 n nr h2 => ?_
  refine app_rd (L := List.replicate 1 tMany) tMany x2 rfl h2 (by rw [List.length_replicate]; decide) n nr (fun H1 Q Qv x k => ⟨_, rfl, de fun H2 z s lz => w_or ((f x).la.same s) lz (srt_by (by decide +kernel) (by decide +kernel) (by decide +kernel)) fun H3 s3 => k H3 (s.trans s3)⟩) fun G3 x3 h3 => ?_
  refine app_rd (L := List.replicate 2 tMany) tMany x3 rfl h3 (by rw [List.length_replicate]; decide) n nr (fun H1 Q Qv x k => by
    dsimp only [OpS.tBinS]
    exact de fun H2 z s lz => ⟨_, rfl, w_or lz ((f x).la.same s) (srt_by (by decide +kernel) (by decide +kernel) (by decide +kernel)) fun H3 s3 => k H3 (s.trans s3)⟩) fun G4 x4 h4 => ?_
  exact cmp_rd (n := 3) rfl h4 (by decide +kernel) (by decide) (fun Q2 k => ⟨by show 3 ≤ sizeLine; decide, fun t ht => ⟨_, .tuple [.str "TooMany", .str "marks", .int 4], rfl, shz_tup upd_same (.cons ⟨.str _, by decide +kernel, by decide +kernel, by decide +kernel⟩ (.cons ⟨.str _, by decide +kernel, by decide +kernel, by decide +kernel⟩ (.cons ⟨.int _, by decide +kernel, by decide +kernel, by decide +kernel⟩ .nil))) (by decide), k _ (same_upd ht)⟩⟩) fun H2 s2 => go H2 _ (x4.same s2)
end
end K18
namespace K18
open PySem L2 OwE DzR LamX SR TAs
section
variable {P : Program} {w : World} {K : PySem.W.Frag} {mg : Str → Option Value} {base : Heap} {C : Nat → Addr} {CL fI gE gL gS gR gH pM gM gB gO gA fIO fC fT fTo c Pt : Addr} {dI dE dL dS dR dH dG dB dN dM dIO dC dT dTo : FuncData} {fN fM : Addr} {T : List (Addr × Str)}
theorem rr_e (S : RrEnv P w K mg base C CL fI gE gL gS gR gH pM gM gB gO gA fIO fC fT fTo c Pt dI dE dL dS dR dH dG dB dN dM dIO dC dT dTo fN fM T) {g : Addr} {A : Around} {o_ : List Env} {s : Shared} {H0 : Hp} {E : XK} (gd : A.guards = some []) (hr : Room 30 (A.deeper (PyProof.Rows.envOfC "_law_refused_right" (defScope sRefR) s.heap.objs.size g (.ref c)))) :
    ∃ t, PSs (cxOf CX0 P w K mg base nRr "_law_refused_right" (defScope sRefR) g (.ref c) A o_ s H0 E).nox ((defBody sRefR).drop 21) t ∧ ∀ (D : Ends) (G : Hp) (r p a b : Addr) (ys : List Str) (wr ot : V) (dw dt : PyData) (fa : Fx K CL G a b ys wr ot dw dt) (x6 x7 x8 : V), (∀ H, Same G H → D.rt (.bl true) H) →
      t D [some (.ref r), some (.ref p), some wr, some ot, some (.ref a), some (.ref b), some x6, some x7, some x8] G := by
  have un : (A.deeper (PyProof.Rows.envOfC "_law_refused_right" (defScope sRefR) s.heap.objs.size g (.ref c))).units + 200 < cLine := by have := hr.un; omega
  have un64 : (A.deeper (PyProof.Rows.envOfC "_law_refused_right" (defScope sRefR) s.heap.objs.size g (.ref c))).units + 64 < cLine := by omega
  have GG : FnOk P w K mg base CX0 1 gM dG ["self"] (getSp CL "_marks") := ok_get S.M
  have GLe : FnR P w K mg base CX0 1 gL (fun vs H Q E => spLen CL (vs ++ []) H Q E) := (ok_len S.M S.Z).raw S.M.bL .nil
  have GSt : FnR P w K mg base CX0 1 gS (fun vs H Q E => spStr CL (vs ++ []) H Q E) := (ok_str S.M S.Z).raw S.M.bS .nil
  refine ⟨_, (pss_cons (ps_ret (pe_cmpR (op_eqD un64) (pe_lst (pa_cons (pe_prop (E := E0) (pv 4) S.M.cl S.M.pr GG (hr.mono (by decide)) S.M.bM .nil pass0 rfl) (pa_cons (pe_callTy (EqO.call_strO S.M.fS S.M.iS GSt (E := E0) (hr.mono (by decide)) pass0) (by rfl) S.Z.zStr (by decide +kernel) (pa_cons (pv 5) pa_nil)) pa_nil))) (pe_lst (pa_cons (pe_tup (pa_cons pe_str (pa_cons pe_str (pa_cons pe_str pa_nil)))) (pa_cons (pe_ifExp (pt_cmpR op_gt (pe_callB (EqO.call_lenO S.M.fL S.M.iL GLe (E := E0) (hr.mono (by decide)) pass0) (by rfl) S.Z.zLen PySem.boot_len (pa_cons (pv 5) pa_nil)) pe_int (nomark _)) (pe_join pe_str (pe_prop (E := E0) (pv 5) S.M.cl S.M.pr GG (hr.mono (by decide)) S.M.bM .nil pass0 rfl)) pe_str) pa_nil))) (nomark _)))
    pss_nil), ?_⟩
  intro D G r p a b ys wr ot dw dt fa x6 x7 x8 go
  obtain ⟨na, la4, sa, dxa, ta, ha, hta⟩ := id fa.la
  obtain ⟨nb, lb4, sb, dxb, tb, hb, htb⟩ := id fa.lb
  refine ⟨.ref a, rfl, a, dxa, _, rfl, ha, a, dxa, _, .ref ta, rfl, ha, rfl, ?_⟩
  refine ⟨_, rfl, b, dxb, _, rfl, hb, b, ys, rfl, fa.lb, ltext ys, rfl, by show 2 ≤ sizeLine; decide, fun q1 h1 => ?_⟩
  have s1 := same_upd (o := HO.lst [V.ref ta, .str (ltext ys)]) h1
  have e1 : (upd G q1 (.lst [V.ref ta, .str (ltext ys)])) q1 = some (.lst [V.ref ta, .str (ltext ys)]) := upd_same
  revert s1 e1
  generalize upd G q1 (.lst [V.ref ta, .str (ltext ys)]) = H1
  intro s1 e1
  refine ⟨by show 3 ≤ sizeLine; decide, fun t2 h2 => ?_⟩
  have s2 := s1.trans (same_upd (o := HO.tup [V.str "a", .str "b", .str "c"]) h2)
  have f1 := same_upd (o := HO.tup [V.str "a", .str "b", .str "c"]) h2 _ _ e1
  have e2 : (upd H1 t2 (.tup [V.str "a", .str "b", .str "c"])) t2 = some (.tup (abc3.map V.str)) := upd_same
  clear e1 h2
  revert s2 f1 e2
  generalize upd H1 t2 (.tup [V.str "a", .str "b", .str "c"]) = H2
  intro s2 f1 e2
  have fin : ∀ q3, H2 q3 = none → rEqD K (.ref q1) (.ref q3) (upd H2 q3 (.lst [V.ref t2, .str (ltext ys)])) D.rt := fun q3 h3 => by
    have s3 := same_upd (o := HO.lst [V.ref t2, .str (ltext ys)]) h3
    have dt : ∀ {H' : Hp} {q t : Addr}, H' q = some (.lst [V.ref t, .str (ltext ys)]) → H' t = some (.tup (abc3.map V.str)) → Dp K H' (.ref q) (.list [.tuple (abc3.map PyData.str), .str (ltext ys)]) := fun h1 h2 => .lst (SqL.of h1) (.cons (.tup (SqT.of h2) (dpT abc3)) (.cons (.str _) .nil))
    have sh : SeqAt.shaped (.list [.tuple (abc3.map PyData.str), .str (ltext ys)]) = true ∧ PyData.eqv (.list [.tuple (abc3.map PyData.str), .str (ltext ys)]) (.list [.tuple (abc3.map PyData.str), .str (ltext ys)]) = true := by
      have := fa.y
      simp only [List.mem_cons, List.not_mem_nil, or_false] at this
      rcases this with rfl | rfl | rfl | rfl <;> decide +kernel
    refine ⟨_, _, dt (s3 _ _ f1) (s3 _ _ (s2 _ _ hta)), dt upd_same (s3 _ _ e2), sh.1, sh.1, ?_⟩
    rw [sh.2]
    exact go _ (s2.trans s3)
  have hy : (¬ (0 < (ys.length : Int)) → ltext ys = "-") ∧ (0 < (ys.length : Int) → Txt.join "+" ys = ltext ys) ∧ (List.map (fun x => x.length) ys).sum + ys.length * ("+" : Str).length ≤ 16777216 := by
    have := fa.y
    simp only [List.mem_cons, List.not_mem_nil, or_false] at this
    rcases this with rfl | rfl | rfl | rfl <;> decide +kernel
  refine ⟨_, rfl, b, dxb, _, rfl, s2 _ _ hb, b, ys, rfl, fa.lb.same s2, ys.length, rfl, by omega, _, _, rfl, rfl, _, rfl, ite2 (fun z => ?_) (fun z => ?_)⟩
  · have z : 0 < (ys.length : Int) := of_decide_eq_true z
    refine ⟨⟨_, rfl⟩, .ref b, rfl, b, dxb, _, rfl, s2 _ _ hb, b, dxb, _, .ref tb, rfl, s2 _ _ hb, rfl, "+", tb, ys, rfl, rfl, .inr (SqT.of (s2 _ _ htb)), hy.2.2, ?_⟩
    rw [hy.2.1 z]
    exact ⟨by show 2 ≤ sizeLine; decide, fin⟩
  · have z : ¬ 0 < (ys.length : Int) := fun y => z (decide_eq_true y)
    have e := hy.1 z
    rw [e] at fin
    exact ⟨by show 2 ≤ sizeLine; decide, fin⟩
/-- all but the tables and the stock -/
def spRr (T : List (Addr × Str)) : Sp := fun vs H Q _ => ∃ r : Addr, vs = [.ref r] ∧ Rg H r ∧ Tabs T H ∧ ∀ H', Ex T r H H' → Q (.bl true) H'
theorem rr_body : defBody sRefR = (defBody sRefR).getD 0 (.Pass ⟨0, 0, 0, 0⟩) :: (defBody sRefR).getD 1 (.Pass ⟨0, 0, 0, 0⟩) :: (defBody sRefR).getD 2 (.Pass ⟨0, 0, 0, 0⟩) :: (defBody sRefR).getD 3 (.Pass ⟨0, 0, 0, 0⟩) :: (defBody sRefR).getD 4 (.Pass ⟨0, 0, 0, 0⟩) :: (defBody sRefR).getD 5 (.Pass ⟨0, 0, 0, 0⟩) :: (defBody sRefR).getD 6 (.Pass ⟨0, 0, 0, 0⟩) :: (defBody sRefR).getD 7 (.Pass ⟨0, 0, 0, 0⟩) :: (defBody sRefR).getD 8 (.Pass ⟨0, 0, 0, 0⟩) :: (defBody sRefR).getD 9 (.Pass ⟨0, 0, 0, 0⟩) :: (defBody sRefR).getD 10 (.Pass ⟨0, 0, 0, 0⟩) :: (defBody sRefR).getD 11 (.Pass ⟨0, 0, 0, 0⟩) :: (defBody sRefR).getD 12 (.Pass ⟨0, 0, 0, 0⟩) :: (defBody sRefR).getD 13 (.Pass ⟨0, 0, 0, 0⟩) :: (defBody sRefR).getD 14 (.Pass ⟨0, 0, 0, 0⟩) :: (defBody sRefR).getD 15 (.Pass ⟨0, 0, 0, 0⟩) :: (defBody sRefR).getD 16 (.Pass ⟨0, 0, 0, 0⟩) :: (defBody sRefR).getD 17 (.Pass ⟨0, 0, 0, 0⟩) :: (defBody sRefR).getD 18 (.Pass ⟨0, 0, 0, 0⟩) :: (defBody sRefR).getD 19 (.Pass ⟨0, 0, 0, 0⟩) :: (defBody sRefR).getD 20 (.Pass ⟨0, 0, 0, 0⟩) :: (defBody sRefR).drop 21 := rfl
theorem ok_rr {f : Addr} {fd : FuncData} (F : L2.Fun K "_law_refused_right" "_law_refused_right" sRefR f fd) (hc : fd.code = .ref c) (S : RrEnv P w K mg base C CL fI gE gL gS gR gH pM gM gB gO gA fIO fC fT fTo c Pt dI dE dL dS dR dH dG dB dN dM dIO dC dT dTo fN fM T) : FnG P w K mg base 31 f fd ["_law_rng_here"] (spRr T) := by
  refine okGC F hc scRr (fun vs H Q E h => ?_) (fun A outer_ s H vs Q E gd hr h => ?_)
  · obtain ⟨r, rfl, _⟩ := h
    rfl
  · obtain ⟨r, rfl, rg, tb, go⟩ := h
    obtain ⟨t5, p5, r5⟩ := rr_e S (g := f) (A := A) (o_ := outer_) (s := s) (H0 := H) (E := E) gd hr
    obtain ⟨t4, p4, r4⟩ := rr_d S (g := f) (A := A) (o_ := outer_) (s := s) (H0 := H) (E := E) gd hr p5
    obtain ⟨t3, p3, r3⟩ := rr_c S (g := f) (A := A) (o_ := outer_) (s := s) (H0 := H) (E := E) gd hr p4
    obtain ⟨t2, p2, r2⟩ := rr_b S (g := f) (A := A) (o_ := outer_) (s := s) (H0 := H) (E := E) gd hr p3
    obtain ⟨t1, p1, r1⟩ := rr_a S (g := f) (A := A) (o_ := outer_) (s := s) (H0 := H) (E := E) gd hr p2
    rw [rr_body]
    refine ⟨_, p1, ?_⟩
    refine r1 _ H r rg tb _ _ _ _ _ _ _ _ fun G1 p a b ys wr ot dw dt x1 fa => ?_
    refine r2 _ G1 r p a b x1.g x1.t ys wr ot dw dt fa _ _ fun G2 x7 x2 => ?_
    refine r3 _ G2 r p a b x2.g x2.t ys wr ot dw dt (fa.ext x2.del) _ _ _ fun G3 x7' x8' x3 => ?_
    have f3 := (fa.ext x2.del).ext x3.del
    refine r4 _ G3 r p a b x3.g x3.t ys wr ot dw dt f3 _ _ _ fun G4 x7'' x4 => ?_
    refine r5 _ G4 r p a b ys wr ot dw dt (f3.ext x4.e) _ _ _ fun H9 s9 => ?_
    exact go H9 ((((x1.trans x2).trans x3).trans x4).same s9)
end
end K18
namespace K18
open PySem L2 PySem.Spec PyProof.Rows LamX
open L2 (St)
theorem sq_ext {K : PySem.W.Frag} {H H' : Hp} {a : Addr} {xs : List V} (h : SqL K H a xs) (s : ExtN H H') : SqL K H' a xs := by
  rcases h with (h | ⟨o, h⟩) | h
  · exact .inl (.inl (s _ _ h (fun ps z => by cases z)))
  · exact .inl (.inr ⟨o, s _ _ h (fun ps z => by cases z)⟩)
  · exact .inr h
/-- a round of a list that stands on new ground -/
theorem ex_new {T : List (Addr × Str)} {r : Addr} {H H1 H2 : Hp} (s : ExtN H H1) (n : H r = none) (k : Ex T r H1 H2) : ExtN H H2 := fun b o e t => k.e b o (by rw [delH_ne (ne_of_none e n)]; exact s b o e t) t
section
variable {P : Program} {w : World} {K : PySem.W.Frag} {mg : Str → Option Value} {base : Heap}
/-! ### law -/
def spLaw (K : PySem.W.Frag) (T : List (Addr × Str)) : Sp := fun vs H Q _ => ∃ (a : Addr) (ns : List Int), vs = [.ref a] ∧ SqL K H a (ns.map V.int) ∧ ns.length ≤ 63 ∧ Tabs T H ∧ ∀ H', Q (.bl true) H'
abbrev nLaw : List Str := ["_law_script", "_law_k", "_law_rng_here", "_law_j", "_law_turn"]
theorem scLaw : FnScope nLaw ["_law_script"] (defScope sLaw) := ⟨rfl, rfl, rfl, by decide +kernel, rfl, by decide +kernel, by decide +kernel⟩
theorem ok_law {T : List (Addr × Str)} {f fR fE fT : Addr} {fd dR dE dT : FuncData} (F : L2.Fun K "law" "law" sLaw f fd) (B : BEnv mg) (AR : At K mg "_law_rng" sRng ["_law_script", "_law_k"] fR dR) (AE : At K mg "_law_error_right" sErrR ["_law_rng_here", "_law_k"] fE dE) (GE : FnG P w K mg base 31 fE dE ["_law_rng_here", "_law_k"] spEr)
    (AT : At K mg "_law_refused_right" sRefR ["_law_rng_here"] fT dT) (GT : FnG P w K mg base 31 fT dT ["_law_rng_here"] (spRr T)) :
    FnG P w K mg base 33 f fd ["_law_script"] (spLaw K T) := by
  have GR : FnOk P w K mg base CX0 1 fR dR ["_law_script", "_law_k"] (spRng K) := ok_rng AR.F B
  refine okG F scLaw (fun vs H Q E h => ?_) (fun cdv A outer_ s H vs Q E gd hr h => ?_)
  · obtain ⟨a, ns, rfl, _⟩ := h
    rfl
  · obtain ⟨a, ns, rfl, hS, hlen, hT, k⟩ := h
    have hr1 := hr.mono (j := 1) (by decide)
    have hr31 := hr.mono (j := 31) (by decide)
    refine ⟨_, pss_cons (ps_for PassesOwn.never rfl (pi_range1 (by rfl) B.zRange (pa_cons (pe_callB (call_max2 rfl) (by rfl) B.zMax (by decide +kernel) (pa_cons pe_int (pa_cons (pe_callB (call_min2 rfl) (by rfl) B.zMin (by decide +kernel) (pa_cons (pe_callB call_len_seq (by rfl) B.zLen PySem.boot_len (pa_cons (pv 0) pa_nil)) (pa_cons pe_int pa_nil))) pa_nil))) pa_nil)) (pg_name (i := 1) scLaw.nd rfl (Or.inl rfl))
        (pss_cons (ps_set (i := 2) scLaw.nd rfl (Or.inr rfl) (pe_call GR hr1 (by rfl) AR.m AR.F.kp AR.b .nil pass0 (pa_cons (pv 0) (pa_cons (pv 1) pa_nil))))
        (pss_cons (ps_if (pt_not (pt_val (pe_callB (cr_all rfl) (by rfl) B.zAll (by decide +kernel) (pa_cons (pe_lc (own := [("_law_j", 3)]) (g := gName 3) (tt := tYes) rfl scLaw.nd (pi_range1 (by rfl) B.zRange (pa_cons pe_int pa_nil)) (blkOk_by (N := nLaw) (sc := defScope sLaw) (by decide +kernel)) (fun _ _ _ _ _ => pg_name (i := 3) scLaw.nd rfl (Or.inl rfl)) (fun _ _ _ _ _ => pts_nil)
          (fun _ _ _ _ _ => pe_callG GE gd hr31 (by rfl) AE.m AE.F.kp AE.b (pa_cons (pv 2) (pa_cons (pv 3) pa_nil)))) pa_nil)))) (pss_one (ps_ret pe_bl)) pss_nil)
        (pss_one (ps_if (pt_not (pt_val (pe_callB (cr_all rfl) (by rfl) B.zAll (by decide +kernel) (pa_cons (pe_lc (own := [("_law_turn", 4)]) (g := gName 4) (tt := tYes) rfl scLaw.nd (pi_range1 (by rfl) B.zRange (pa_cons pe_int pa_nil)) (blkOk_by (N := nLaw) (sc := defScope sLaw) (by decide +kernel)) (fun _ _ _ _ _ => pg_name (i := 4) scLaw.nd rfl (Or.inl rfl)) (fun _ _ _ _ _ => pts_nil)
          (fun _ _ _ _ _ => pe_callG GT gd hr31 (by rfl) AT.m AT.F.kp AT.b (pa_cons (pv 2) pa_nil))) pa_nil)))) (pss_one (ps_ret pe_bl)) pss_nil)))))
      (pss_one (ps_ret pe_bl)), ?_⟩
    have hsl : sizeLine = 16777216 := sizeLine_eq
    refine ⟨_, rfl, a, _, rfl, .inl hS, _, _, rfl, _, _, rfl, ?_⟩
    rw [List.length_map]
    have hj : 1 ≤ (if (if (4 : Int) < (ns.length : Int) then (4 : Int) else (ns.length : Int)) > 1 then (if (4 : Int) < (ns.length : Int) then (4 : Int) else (ns.length : Int)) else 1) ∧ (if (if (4 : Int) < (ns.length : Int) then (4 : Int) else (ns.length : Int)) > 1 then (if (4 : Int) < (ns.length : Int) then (4 : Int) else (ns.length : Int)) else 1) ≤ 8 := by
      constructor <;> split <;> split <;> omega
    refine ⟨_, rfl, by omega, by omega, ?_⟩
    generalize (if (if (4 : Int) < (ns.length : Int) then (4 : Int) else (ns.length : Int)) > 1 then (if (4 : Int) < (ns.length : Int) then (4 : Int) else (ns.length : Int)) else 1) = j at hj
    show ∃ W, _
    refine for_range (lo := 0) (n := j.toNat) (fun i σ H' => ∃ t1 t2 t3 t4 : Option V, σ = [some (.ref a), t1, t2, t3, t4] ∧ ExtN H H' ∧ Tabs T H') ⟨_, _, _, _, rfl, ExtN.refl H, hT⟩ ?_ ?_
    · rintro i σ H1 hi ⟨t1, t2, t3, t4, rfl, s1, T1⟩
      refine ⟨_, rfl, _, rfl, a, ns, i, ?_, sq_ext hS s1, by omega, fun H2 r s2 hr0 g2 => ?_⟩
      · show [V.ref a, V.int (0 + (i : Int))] = [V.ref a, V.int (i : Int)]
        rw [Int.zero_add]
      have x2 : Ex T r H2 H2 := Ex.refl g2 (T1.ext s2)
      have nw : H1 r = none := hr0
      refine ⟨_, rfl, by decide, by decide, fun D hD => ?_⟩
      have fD := x2.frs hD
      refine lc_range (lo := 0) (n := 42) (fun i H2a => Ex T r H2 H2a ∧ H2a D = some (.lst ((List.replicate i true).map V.bl))) ⟨x2.same (same_upd hD), upd_same⟩ ?_ ?_
      · rintro i3 H3 hi3 ⟨x3, hL⟩
        refine ⟨rfl, _, rfl, _, rfl, r, i3, ?_, by omega, x3.g, fun H4 k4 => ?_⟩
        · show [V.ref r, V.int (0 + (i3 : Int))] = [V.ref r, V.int (i3 : Int)]
          rw [Int.zero_add]
        have hL4 := k4.1 D _ fD.2 hL
        refine ⟨_, hL4, ?_, (x3.kp k4).upd fD.1 fD.2 hL4, ?_⟩
        · rw [List.length_map, List.length_replicate]
          omega
        · rw [upd_same, List.replicate_succ', List.map_append]
          rfl
      rintro H5 ⟨x5, hL5⟩
      refine ⟨D, _, rfl, SqL.of hL5, ?_⟩
      have e3 : (List.replicate 42 true).all id = true := by simp
      rw [e3]
      refine ⟨_, rfl, ?_⟩
      show (if false = true then _ else _)
      rw [if_neg Bool.false_ne_true]
      refine ⟨_, rfl, by decide, by decide, fun D2 hD2 => ?_⟩
      have fD2 := x5.frs hD2
      refine lc_range (lo := 0) (n := 4) (fun i H2a => Ex T r H2 H2a ∧ H2a D2 = some (.lst ((List.replicate i true).map V.bl))) ⟨x5.same (same_upd hD2), upd_same⟩ ?_ ?_
      · rintro i3 H3 hi3 ⟨x3, hL⟩
        refine ⟨rfl, _, rfl, r, rfl, x3.g, x3.t, fun H4 k4 => ?_⟩
        have hL4 := k4.e D2 _ (by rw [delH_ne fD2.2]; exact hL) fun ps z => by cases z
        refine ⟨_, hL4, ?_, (x3.trans k4).upd fD2.1 fD2.2 hL4, ?_⟩
        · rw [List.length_map, List.length_replicate]
          omega
        · rw [upd_same, List.replicate_succ', List.map_append]
          rfl
      rintro H6 ⟨x6, hL6⟩
      refine ⟨D2, _, rfl, SqL.of hL6, ?_⟩
      have e4 : (List.replicate 4 true).all id = true := by simp
      rw [e4]
      refine ⟨_, rfl, ?_⟩
      show (if false = true then _ else _)
      rw [if_neg Bool.false_ne_true]
      exact ⟨_, _, _, _, rfl, s1.trans (ex_new (ExtN.of s2) nw x6), x6.t⟩
    · rintro σ H2 ⟨t1, t2, t3, t4, rfl, s2, T2⟩
      exact k H2
end
/-! ### the law's call, where nothing is being shown -/
abbrev boxed (us : List Value) : Obj := { cls := .type "list", data := .seq us.toArray }
abbrev tab0 : Obj := { cls := .none, data := .fields #[] }
section
variable {P : Program} {w : World} {K : PySem.W.Frag} {mg mb : Str → Option Value} {k : Nat} {fa a : Addr} {fd : FuncData} {x : Str} {sp : Sp} {t : Shared} {us : List Value} {zs : List Int} {cs : List (Addr × Addr)}
/-- the module __builtins__ as a name of the main module -/
def BM (mg : Str → Option Value) (h : Heap) : Prop := ∃ (bm : Addr) (ob : Obj), mg "__builtins__" = some (.ref bm) ∧ bm ≠ builtinsNs ∧ h.get? bm = some ob ∧ ob.cls = .type "module" ∧ ob.dict = some builtinsNs ∧ ob.data = .plain
structure TabsOk (K : PySem.W.Frag) (cs : List (Addr × Addr)) (h : Heap) : Prop where
  g : ∀ p ∈ cs, h.get? p.2 = some tab0
  k : ∀ p ∈ cs, K.lookup p.2 = none
  c : ∀ p ∈ cs, PySem.W.CodeHd h p.1 p.2
theorem TabsOk.at {h : Heap} (T : TabsOk K cs h) {b : Addr} (m : b ∈ cs.map (·.2)) : h.get? b = some tab0 ∧ K.lookup b = none := by
  obtain ⟨p, hp, rfl⟩ := List.mem_map.mp m
  exact ⟨T.g p hp, T.k p hp⟩
theorem run_at {H : Hp} (one : ∀ b, H b = none ∨ (b = a ∧ H b = some (.frz (boxed us) (.lst (zs.map V.int)))) ∨ (b ∈ cs.map (·.2) ∧ H b = some (.tbl #[])))
    (tbs : ∀ p ∈ cs, H p.2 = some (.tbl #[])) (TO : TabsOk K cs t.heap) (hbm : BM mg t.heap) (own : H a ≠ none → K.lookup a = none) (seq : SqL K H a (zs.map V.int)) (hok : HOk P w H t.heap)
    (KX : K.In t.heap) (g1 : t.heap.Ns mainGlobals mg) (g2 : t.heap.Ns builtinsNs mb) (g3 : ∀ y : Str, y ≠ "__name__" → mb y = bootBuiltins y) (lim : t.heap.NoLimit) (hg : t.gens = #[]) (ha : t.heap.get? a = some (boxed us)) (hr : Room k callerA)
    (F : ∀ base : Heap, K.In base → base.Ns mainGlobals mg → (∀ p ∈ cs, TabB base mg p.1 p.2) → FnG P w K mg base k fa fd [x] sp) (bd : ∀ (s : Shared) (u : Value), BindsTo s fd ⟨[u], []⟩ [(x, u)])
    (hsp : ∀ H' : Hp, (∀ p ∈ cs, H' p.2 = some (.tbl #[])) → SqL K H' a (zs.map V.int) → sp [.ref a] H' (fun v _ => v = .bl true) E0) :
    codeAny (model P w) callerA (.call (.ref fa) ⟨[.ref a], []⟩) (fun r s' => r = .ok (.ret (.bool true)) ∧ OldK t.heap s'.heap ∧ s'.os = t.os ∧ AllBare s'.gens) t := by
  -- an object that is neither a sequence nor an empty table stands in the hidden heap, too
  have stay : ∀ {b : Addr} {o : Obj}, t.heap.get? b = some o → o ≠ boxed us → o ≠ tab0 → (hidT t.heap H).get? b = some o := by
    intro b o e n1 n2
    refine hidT_get e ?_
    rcases one b with z | ⟨rfl, _⟩ | ⟨m, _⟩
    · exact z
    · rw [ha] at e
      exact absurd (Option.some.inj e).symm n1
    · rw [(TO.at m).1] at e
      exact absurd (Option.some.inj e).symm n2
  have still : ∀ {b : Addr} {m : Str → Option Value}, t.heap.Ns b m → (hidT t.heap H).Ns b m := by
    rintro b m ⟨o, es, ep, e, d, rest⟩
    refine ⟨o, es, ep, stay e (fun z => ?_) (fun z => ?_), d, rest⟩
    · rw [z] at d
      cases d
    · rw [z] at d
      cases d
  have kin : K.In (hidT t.heap H) := fun b o e => hidT_get (KX b o e) (by
    rcases one b with z | ⟨rfl, z⟩ | ⟨m, _⟩
    · exact z
    · have := own (by rw [z]; exact fun q => nomatch q)
      rw [this] at e
      cases e
    · rw [(TO.at m).2] at e
      cases e)
  have TB : ∀ p ∈ cs, TabB (hidT t.heap H) mg p.1 p.2 := by
    intro p hp
    refine ⟨?_, ?_, fun z => ?_⟩
    · obtain ⟨o, vs, file, tf, flags, tg, inF, text, tt, e1, r1, r2, r3, rest⟩ := TO.c p hp
      refine ⟨o, vs, file, tf, flags, tg, inF, text, tt, stay e1 (fun z => ?_) (fun z => ?_), r1, r2, r3, rest⟩
      · rw [z] at r2
        cases r2
      · rw [z] at r2
        cases r2
        simp at r3
    · obtain ⟨bm, ob, b1, b2, b3, b4, b5, b6⟩ := hbm
      have no : ∀ {o : Obj} {es : Array DictEntry} {ep : Nat}, t.heap.get? mainGlobals = some o → o.data = .dict es ep → bm ≠ mainGlobals := fun e d q => by
        rw [q, e] at b3
        rw [Option.some.inj b3, b6] at d
        cases d
      obtain ⟨og, eg, pg, e, hd, _⟩ := id g1
      refine ⟨bm, ob, b1, b2, no e hd, (fun q => ?_), stay b3 (fun z => ?_) (fun z => ?_), b4, b5, b6⟩
      · rw [q, TO.g p hp] at b3
        rw [← Option.some.inj b3] at b6
        cases b6
      · rw [z] at b6
        cases b6
      · rw [z] at b6
        cases b6
    · obtain ⟨og, eg, pg, e, hd, _⟩ := id g1
      rw [z, TO.g p hp] at e
      rw [← Option.some.inj e] at hd
      cases hd
  obtain ⟨mc, l1, l2⟩ := lim
  have env : Env0 P w K mg (hidT t.heap H) callerA [] t H :=
    { frames := rfl, mod := ⟨kin, still g1, ⟨mb, still g2, g3⟩, ⟨mc, still l1, l2⟩⟩, bs := fun b o e => of_hidT e, bsz := Nat.le_of_eq (hidT_size _ _), funs := trivial, frf := fun b hb => absurd (show b ∈ ([] : List Addr) from hb) List.not_mem_nil, hok := hok, bare := .of_eq hg }
  apply codeAny_mono ((F _ kin (still g1) TB).run callerA [] t H ⟨[.ref a], []⟩ [.ref a] [.ref a] (fun v _ => v = .bl true) E0 rfl hr env (bd t (.ref a)) (.cons rfl .nil) (hsp H tbs seq))
  rintro (e | fl) s2 h
  · exact h.elim
  cases fl with
  | ret u =>
    obtain ⟨v, H2, os, bare, un, hok2, rv, rfl⟩ := h
    cases (show u = Value.bool true from rv)
    have more : ∀ b, b ∈ cs.map (·.2) → ∃ ps : Array Value, s2.heap.get? b = some { cls := .none, data := .fields ps } := fun b m => by
      obtain ⟨p, hp, rfl⟩ := List.mem_map.mp m
      obtain ⟨ps, z⟩ := un.tbls p.2 #[] (tbs p hp)
      exact ⟨_, hok2 p.2 _ z⟩
    have rest : ∀ b o, b ∉ cs.map (·.2) → t.heap.get? b = some o → s2.heap.get? b = some o := fun b o n e => by
      rcases one b with z | ⟨rfl, z⟩ | ⟨m, _⟩
      · exact un.keep b o e z (fun y => absurd (show b ∈ ([] : List Addr) from y) List.not_mem_nil) (by simp)
      · have y1 := (hok _ _ z).1
        have y2 := (hok2 _ _ (un.frzs _ _ _ z)).1
        rw [e] at y1
        cases y1
        exact y2
      · exact absurd m n
    refine ⟨rfl, ⟨fun b o e => ?_, fun b o e => ?_⟩, os, bare⟩
    · by_cases m : b ∈ cs.map (·.2)
      · obtain ⟨ps, z⟩ := more b m
        obtain ⟨p, hp, rfl⟩ := List.mem_map.mp m
        rw [TO.g p hp] at e
        cases e
        exact .inr (.inl ⟨((TO.c p hp).tab (TO.g p hp)).isCodeTable, rfl, #[], ps, rfl, by rw [Array.empty_append]; exact z⟩)
      · exact .inl (rest b o m e)
    · by_cases m : b ∈ cs.map (·.2)
      · exact (more b m).elim fun ps z => ⟨_, z⟩
      · exact ⟨o, rest b o m e⟩
  | next => exact False.elim h
  | brk => exact False.elim h
  | cont => exact False.elim h
/-- what is tracked when the law begins: the script, where it isn't of the head, and the tables -/
def begun (K : PySem.W.Frag) (cs : List (Addr × Addr)) (a : Addr) (us : List Value) (zs : List Int) : Hp := fun b =>
  if b ∈ cs.map (·.2) then some (.tbl #[]) else if b = a ∧ K.lookup a = none then some (.frz (boxed us) (.lst (zs.map V.int))) else none
theorem run_law (TO : TabsOk K cs t.heap) (hbm : BM mg t.heap) (KX : K.In t.heap) (g1 : t.heap.Ns mainGlobals mg) (g2 : t.heap.Ns builtinsNs mb) (g3 : ∀ y : Str, y ≠ "__name__" → mb y = bootBuiltins y) (lim : t.heap.NoLimit) (hg : t.gens = #[]) (ha : t.heap.get? a = some (boxed us)) (hi : IntsAre us zs) (hl : zs.length ≤ sizeLine) (hr : Room k callerA)
    (F : ∀ base : Heap, K.In base → base.Ns mainGlobals mg → (∀ p ∈ cs, TabB base mg p.1 p.2) → FnG P w K mg base k fa fd [x] sp) (bd : ∀ (s : Shared) (u : Value), BindsTo s fd ⟨[u], []⟩ [(x, u)])
    (hsp : ∀ H' : Hp, (∀ p ∈ cs, H' p.2 = some (.tbl #[])) → SqL K H' a (zs.map V.int) → sp [.ref a] H' (fun v _ => v = .bl true) E0) :
    codeAny (model P w) callerA (.call (.ref fa) ⟨[.ref a], []⟩) (fun r s' => r = .ok (.ret (.bool true)) ∧ OldK t.heap s'.heap ∧ s'.os = t.os ∧ AllBare s'.gens) t := by
  have rv : Vals (zs.map V.int) us := vals_ints hi
  have na : a ∉ cs.map (·.2) := fun m => by
    have e := (TO.at m).1
    rw [ha] at e
    have d : Data.seq us.toArray _ = Data.fields #[] := congrArg Obj.data (Option.some.inj e)
    cases d
  have one : ∀ b, begun K cs a us zs b = none ∨ (b = a ∧ begun K cs a us zs b = some (.frz (boxed us) (.lst (zs.map V.int)))) ∨ (b ∈ cs.map (·.2) ∧ begun K cs a us zs b = some (.tbl #[])) := fun b => by
    unfold begun
    by_cases m : b ∈ cs.map (·.2)
    · exact .inr (.inr ⟨m, if_pos m⟩)
    · rw [if_neg m]
      by_cases e : b = a ∧ K.lookup a = none
      · exact .inr (.inl ⟨e.1, if_pos e⟩)
      · exact .inl (if_neg e)
  refine run_at (H := begun K cs a us zs) (us := us) (zs := zs) one (fun p hp => ?_) TO hbm (fun z => ?_) ?_ (fun b u z => ?_) KX g1 g2 g3 lim hg ha hr F bd hsp
  · unfold begun
    exact if_pos (List.mem_map.mpr ⟨p, hp, rfl⟩)
  · unfold begun at z
    rw [if_neg na] at z
    by_cases e : a = a ∧ K.lookup a = none
    · exact e.2
    · rw [if_neg e] at z
      exact absurd rfl z
  · cases hk : K.lookup a with
    | none =>
      refine .inl (.inr ⟨boxed us, ?_⟩)
      unfold begun
      rw [if_neg na, if_pos ⟨rfl, hk⟩]
    | some o =>
      have e := KX a o hk
      rw [ha] at e
      cases e
      exact .inr ⟨_, us.toArray, _, hk, rfl, rfl, rfl, by rw [List.size_toArray, hi.length]; exact hl, by simpa using rv⟩
  · rcases one b with e | ⟨rfl, e⟩ | ⟨m, e⟩
    · rw [e] at z
      cases z
    · rw [e] at z
      cases z
      exact ⟨ha, by rw [List.length_map]; exact hl, us, _, rv, ha⟩
    · rw [e] at z
      cases z
      exact (TO.at m).1
end
theorem walk {l : PySem.W.OpenLaw} {q : Program} {loose : List Str} {XP : (Str → Option Value) → Heap → Prop} {YP : World → Heap → Prop} {d : DefRec} {K : Params → PySem.W.Frag} (hn : l.most = some 63) (hdf : d.params.defaults = [])
    (hY : ∀ (w : World) (h : Heap), YP w h → (K w.params).In h)
    (F : ∀ (w : World) (mg : Str → Option Value) (fa : Addr) (h : Heap), YP w h → (K w.params).In h → h.Ns mainGlobals mg → mg d.name = some (.ref fa) → BM mg h →
      ∃ (fd : FuncData) (cs : List (Addr × Addr)) (T : List (Addr × Str)), TabsOk (K w.params) cs h ∧ (∀ p ∈ T, p.1 ∈ cs.map (·.2)) ∧ (∀ (s : Shared) (u : Value), BindsTo s fd ⟨[u], []⟩ [("_law_script", u)]) ∧
        ∀ base : Heap, (K w.params).In base → base.Ns mainGlobals mg → (∀ p ∈ cs, TabB base mg p.1 p.2) → FnG l.prog w (K w.params) mg base 33 fa fd ["_law_script"] (spLaw (K w.params) T)) :
    PySem.W.WalkO q loose XP YP l.row.toRowW d [] (fun f vs => PySem.call f vs) := by
  apply Att.attach_call hn hdf
  intro w s0 s1 mg mb fa o pm cd doc a vs ns G Y ho hd hcd hmg hobj hints hlen hg
  have KX := hY w _ Y
  obtain ⟨fd, cs, T, TO, hT, hb, hF⟩ := F w mg fa _ Y KX G.T.g hmg G.T.bmain
  refine run_law TO G.T.bmain KX G.T.g G.T.b G.T.builtins G.T.nolimit hg hobj hints (Nat.le_trans hlen (by decide)) ⟨rfl, by decide, by decide⟩ hF hb fun H tb hS => ⟨a, ns, rfl, hS, hlen, fun p hp => ?_, fun _ => rfl⟩
  obtain ⟨c, hc, e⟩ := List.mem_map.mp (hT p hp)
  exact TabS.nil (by rw [← e]; exact tb c hc)
end K18
namespace K18
open PySem L2 OwE
/-! ### the end: what the top has left -/
theorem exm_to {K : PySem.W.Frag} {C D : Addr} {b : Bool} (x : PySem.W.subIn K (.ref D) (.type "BaseException") = some true) (i : PySem.W.isClsIn K D = true) (t : PySem.W.typeIn K (.ref D) = some (.type "type")) (s : PySem.W.subIn K (.ref C) (.ref D) = some b) : PySem.W.exmOne K (.ref C) (.ref D) = some b := by
  have i' : (PySem.W.clsIn K D).isSome = true := i
  have g : ((PySem.W.clsIn K D).isSome && PySem.W.typeIn K (.ref D) == some (.type "type")) = true := by rw [i', t] <;> rfl
  unfold PySem.W.exmOne
  rw [if_pos (by rw [x] <;> rfl)]
  show (if ((PySem.W.clsIn K D).isSome && PySem.W.typeIn K (.ref D) == some (.type "type")) = true then PySem.W.subIn K (.ref C) (.ref D) else none) = some b
  rw [if_pos g]
  exact s
theorem kit_blt {K : PySem.W.Frag} {C : Addr} {T : String} {b : Bool} (m : PySem.W.kitMeta T = true) (s : PySem.W.subIn K (.ref C) (.type T) = some b) : PySem.W.kitOne K (.ref C) (.type T) = some b := by
  unfold PySem.W.kitOne
  rw [if_neg (fun z => by cases z)]
  show (if PySem.W.kitMeta T = true then PySem.W.subIn K (.ref C) (.type T) else none) = some b
  rw [if_pos m]
  exact s
theorem kit_self {K : PySem.W.Frag} {D : Addr} : PySem.W.kitOne K (.ref D) (.ref D) = some true := by
  unfold PySem.W.kitOne
  exact if_pos (beq_self_eq_true _)
theorem nf_of {K : PySem.W.Frag} {T : String} {D : Addr} (s : PySem.W.subIn K (.type T) (.ref D) = some false) : PySem.W.notFirst K D (.type T) = true := by
  unfold PySem.W.notFirst
  rw [s]
  exact Bool.or_true _
theorem kit_tyref {K : PySem.W.Frag} {T : String} {D : Addr} {b : Bool} (i : PySem.W.isClsIn K D = true) (t : PySem.W.typeIn K (.ref D) = some (.type "type")) (s : PySem.W.subIn K (.type T) (.ref D) = some b) : PySem.W.kitOne K (.type T) (.ref D) = some b := by
  have i' : (PySem.W.clsIn K D).isSome = true := i
  have g : ((PySem.W.clsIn K D).isSome && PySem.W.typeIn K (.ref D) == some (.type "type")) = true := by rw [i', t] <;> rfl
  unfold PySem.W.kitOne
  rw [if_neg (fun z => by cases z)]
  show (if ((PySem.W.clsIn K D).isSome && PySem.W.typeIn K (.ref D) == some (.type "type")) = true then PySem.W.subIn K (.type T) (.ref D) else none) = some b
  rw [if_pos g]
  exact s
theorem at_mk {K : PySem.W.Frag} {h : Heap} {mg : Str → Option Value} {x : Str} {st : Stmt} {ps : List Str} {f : Addr} {fd : FuncData} (X : K.In h) (G : h.Ns mainGlobals mg) (a : PySem.W.nsIn K mainGlobals x = some (some (.ref f))) (F : Fun K x x st f fd)
    (b : ∀ (kV doc pm : Value) (an : Option Addr) (cdv ct : Value) (us : List Value), us.length = ps.length → bindArgs (PySem.W.fnOf x x (defArgs st) (defBody st) (defScope st) .none kV doc pm an cdv ct) ⟨us, []⟩ = pure (ps.zip us)) : At K mg x st ps f fd := ⟨F, F.binds b, PySem.W.mg_of X G a⟩
abbrev sIn0 : Stmt := inClass (top 4) 0
abbrev sIn1 : Stmt := inClass (top 5) 0
abbrev sIn2 : Stmt := inClass (top 6) 0
abbrev sIn3 : Stmt := inClass (top 7) 0
abbrev sIn4 : Stmt := inClass (top 8) 0
abbrev sIn5 : Stmt := inClass (top 9) 0
abbrev sIn6 : Stmt := inClass (top 10) 0
abbrev sIn7 : Stmt := inClass (top 11) 0
abbrev sIn8 : Stmt := inClass (top 12) 0
abbrev sIn9 : Stmt := inClass (top 13) 0
abbrev sIn10 : Stmt := inClass (top 14) 0
abbrev sIn11 : Stmt := inClass (top 15) 0
abbrev sIn12 : Stmt := inClass (top 16) 0
abbrev sIn13 : Stmt := inClass (top 17) 0
abbrev sIn14 : Stmt := inClass (top 18) 0
abbrev sIn15 : Stmt := inClass (top 20) 0
abbrev sIn16 : Stmt := inClass (top 21) 0
abbrev sIn17 : Stmt := inClass (top 22) 0
abbrev sIn18 : Stmt := inClass (top 23) 0
abbrev sIn19 : Stmt := inClass (top 24) 0
abbrev sIn20 : Stmt := inClass (top 25) 0
abbrev sIn21 : Stmt := inClass (top 26) 0
abbrev sIn22 : Stmt := inClass (top 27) 0
abbrev sIn23 : Stmt := inClass (top 28) 0
abbrev sIn24 : Stmt := inClass (top 30) 0
abbrev sIn25 : Stmt := inClass (top 31) 0
abbrev sIn26 : Stmt := inClass (top 32) 0
abbrev sIn27 : Stmt := inClass (top 33) 0
abbrev sIn28 : Stmt := inClass (top 34) 0
abbrev sIn29 : Stmt := inClass (top 35) 0
abbrev sIn30 : Stmt := inClass (top 36) 0
abbrev sIn31 : Stmt := inClass (top 37) 0
abbrev sIn32 : Stmt := inClass (top 38) 0
abbrev sIn33 : Stmt := inClass (top 39) 0
abbrev sIn34 : Stmt := inClass (top 40) 0
abbrev sIn35 : Stmt := inClass (top 41) 0
abbrev sIn36 : Stmt := inClass (top 42) 0
abbrev sIn37 : Stmt := inClass (top 43) 0
abbrev sIn38 : Stmt := inClass (top 44) 0
abbrev sIn39 : Stmt := inClass (top 45) 0
abbrev sIn40 : Stmt := inClass (top 47) 0
abbrev sIn41 : Stmt := inClass (top 48) 0
theorem mro_eq : ∀ f : Fa, K18T0.mroT f.b = f.mro := fun f => by cases f <;> rfl
/-- what the built-ins are that no instance is of -/
def noT : Fa → List String
  | .val => ["LookupError", "RuntimeError", "ArithmeticError"]
  | .look => ["ValueError", "RuntimeError", "ArithmeticError", "KeyError", "IndexError"]
  | .run => ["ValueError", "LookupError", "ArithmeticError"]
  | .arith => ["ValueError", "LookupError", "RuntimeError", "ZeroDivisionError", "OverflowError"]
/-- a class as the head tells it -/
structure OwnX (K : PySem.W.Frag) (fa : Fa) (cn : Str) (ns : List Str) (C f : Addr) : Prop where
  o : EXv.ExF K C fa.mro fa.nw
  iC : PySem.W.findIn K (.ref C) "__init__" = some (some (.ref f))
  tI : PySem.W.typeIn K (.ref f) = some (.type "function")
  no : ∀ n ∈ ("_told" : Str) :: ns, PySem.W.findIn K (.ref C) n = some none
  one : PySem.W.kitOne K (.ref C) (.type fa.b) = some true
  any : PySem.W.kitAny K (.ref C) ((noT fa).map Value.type) = some false
  te : TeC K C cn
theorem own_ok {K : PySem.W.Frag} (fa : Fa) {b nw : String} {no : List String} {cn : Str} {ns : List Str} {C f : Addr} (e1 : b = fa.b) (e2 : nw = fa.nw) (e3 : no = noT fa) (hn : PySem.W.specialIn K (.builtin "object.__class__") "__get__" = some (some (.builtin "getset_descriptor.__get__"))) (ht : PySem.W.takesIn K (.builtin "object.__class__") = some true) (h : K18T0.ownT K b nw ns no C f = true) (hx : K18T0.excT K C = true) (hm : K18T0.nameT K cn C = true) : OwnX K fa cn ns C f := by
  subst e1 e2 e3
  unfold K18T0.ownT at h
  rw [mro_eq] at h
  obtain ⟨h1, h⟩ := K18T0.ba h
  obtain ⟨h2, h⟩ := K18T0.ba h
  obtain ⟨h3, h⟩ := K18T0.ba h
  obtain ⟨h4, h⟩ := K18T0.ba h
  obtain ⟨h5, h⟩ := K18T0.ba h
  obtain ⟨h6, h⟩ := K18T0.ba h
  obtain ⟨h7, h⟩ := K18T0.ba h
  obtain ⟨h8, h⟩ := K18T0.ba h
  obtain ⟨h9, h10⟩ := K18T0.ba h
  unfold K18T0.excT at hx
  obtain ⟨x1, hx⟩ := K18T0.ba hx
  obtain ⟨x2, hx⟩ := K18T0.ba hx
  obtain ⟨x3, hx⟩ := K18T0.ba hx
  obtain ⟨x4, hx⟩ := K18T0.ba hx
  obtain ⟨x5, x6⟩ := K18T0.ba hx
  obtain ⟨n1, n2, tk, n3⟩ := K18T0.name_ok hm
  have no : ∀ n ∈ ("_told" : Str) :: ns, PySem.W.findIn K (.ref C) n = some none := fun n m => of_decide_eq_true (List.all_eq_true.mp h8 n m)
  exact ⟨⟨h1, h2, x4, of_decide_eq_true h3, of_decide_eq_true x3, of_decide_eq_true h4, h5⟩, of_decide_eq_true h6, of_decide_eq_true h7, no, of_decide_eq_true h9, of_decide_eq_true h10,
    ⟨⟨of_decide_eq_true x1, of_decide_eq_true x2, of_decide_eq_true x3, x4, of_decide_eq_true x5, hn, ht, of_decide_eq_true x6⟩, ⟨tk, ⟨n1, n2, of_decide_eq_true h4, n3⟩⟩, no _ List.mem_cons_self⟩⟩
theorem own_mk {K : PySem.W.Frag} {mg : Str → Option Value} {fa : Fa} {cn q : Str} {ns : List Str} {st : Stmt} {C f : Addr} {fd : FuncData} (x : OwnX K fa cn ns C f) (m : mg cn = some (.ref C)) (e : q = cn ++ ".__init__") (F : L2.Fun K "__init__" q st f fd) (b : Binds K fd ("self" :: ns) []) : Own K mg fa cn ns st C f fd :=
  ⟨x.o, x.iC, x.tI, fun n h => NoAttr.taker (x.no n (List.mem_cons_of_mem _ h)), NoAttr.taker (x.no _ List.mem_cons_self), m, e ▸ F, b⟩
theorem exp_is : ∀ k, k < 42 → ∀ j, j < 46 → K18T0.expT k j = isK k j := by decide +kernel
theorem walkE {l : PySem.W.OpenLaw} {q : Program} {loose : List Str} {XP : (Str → Option Value) → Heap → Prop} {YP : World → Heap → Prop} {d : DefRec} (hn : l.most = some 63) (hdf : d.params.defaults = [])
    (F : ∀ (w : World) (mg : Str → Option Value) (fa : Addr) (h : Heap), YP w h → h.Ns mainGlobals mg → mg d.name = some (.ref fa) → BM mg h →
      ∃ (K : PySem.W.Frag) (fd : FuncData) (cs : List (Addr × Addr)) (T : List (Addr × Str)), K.In h ∧ TabsOk K cs h ∧ (∀ p ∈ T, p.1 ∈ cs.map (·.2)) ∧ (∀ (s : Shared) (u : Value), BindsTo s fd ⟨[u], []⟩ [("_law_script", u)]) ∧
        ∀ base : Heap, K.In base → base.Ns mainGlobals mg → (∀ p ∈ cs, LamX.TabB base mg p.1 p.2) → FnG l.prog w K mg base 33 fa fd ["_law_script"] (spLaw K T)) :
    PySem.W.WalkO q loose XP YP l.row.toRowW d [] (fun f vs => PySem.call f vs) := by
  apply Att.attach_call hn hdf
  intro w s0 s1 mg mb fa o pm cd doc a vs ns G Y ho hd hcd hmg hobj hints hlen hg
  obtain ⟨K, fd, cs, T, KX, TO, hT, hb, hF⟩ := F w mg fa _ Y G.T.g hmg G.T.bmain
  refine run_law TO G.T.bmain KX G.T.g G.T.b G.T.builtins G.T.nolimit hg hobj hints (Nat.le_trans hlen (by decide)) ⟨rfl, by decide, by decide⟩ hF hb fun H tb hS => ⟨a, ns, rfl, hS, hlen, fun p hp => ?_, fun _ => rfl⟩
  obtain ⟨c, hc, e⟩ := List.mem_map.mp (hT p hp)
  exact LamX.TabS.nil (by rw [← e]; exact tb c hc)
end K18
namespace K18
open PySem L2
theorem all_mk {P : Program} {w : World} {K : PySem.W.Frag} {h : Heap} {mg : Str → Option Value} {fa : Addr} (X : K.In h) (G : h.Ns mainGlobals mg) (hfa : mg "law" = some (.ref fa)) (hbm : BM mg h) (pf : ((P.main.file : Str) == "/claim/cut.py") = true) (pt : (P.main.scope.names.lookup ("super" : Str)).isSome = false)
    {f0 f1 f2 f3 f4 f5 f6 f7 f8 f9 f10 f11 f12 f13 f14 f15 f16 f17 f18 f19 f20 f21 f22 f23 : Addr} {d0 d1 d2 d3 d4 d5 d6 d7 d8 d9 d10 d11 d12 d13 d14 d15 d16 d17 d18 d19 d20 d21 d22 d23 : FuncData} {C fL gE gL gS gR gH pM gM gI gO gA cR Pt CK0 CK1 CK2 CK3 CK4 CK5 CK6 CK7 CK8 CK9 CK10 CK11 CK12 CK13 CK14 CK15 CK16 CK17 CK18 CK19 CK20 CK21 CK22 CK23 CK24 CK25 CK26 CK27 CK28 CK29 CK30 CK31 CK32 CK33 CK34 CK35 CK36 CK37 CK38 CK39 CK40 CK41 CK42 CK43 CK44 CK45 fK0 fK1 fK2 fK3 fK4 fK5 fK6 fK7 fK8 fK9 fK10 fK11 fK12 fK13 fK14 fK15 fK16 fK17 fK18 fK19 fK20 fK21 fK22 fK23 fK24 fK25 fK26 fK27 fK28 fK29 fK30 fK31 fK32 fK33 fK34 fK35 fK36 fK37 fK38 fK39 fK40 fK41 : Addr} {dL0 dE dLn dS dR dH dG dI dO dA dK0 dK1 dK2 dK3 dK4 dK5 dK6 dK7 dK8 dK9 dK10 dK11 dK12 dK13 dK14 dK15 dK16 dK17 dK18 dK19 dK20 dK21 dK22 dK23 dK24 dK25 dK26 dK27 dK28 dK29 dK30 dK31 dK32 dK33 dK34 dK35 dK36 dK37 dK38 dK39 dK40 dK41 : FuncData} {tM tL tk : Tok}
    {nm q nmb q2 : Str} {N N2 : Addr} {bs bm bs2 bm2 : List Value} {sn sn2 : List Str} {sub sub2 : List Value} {ab ab2 : Bool} {col col2 : Option Bool} {dd dd2 : Option Addr} {k0 k1 k2 k3 k5 j0 j1 j2 j3 j5 : Option Value}
    (a0 : PySem.W.nsIn K mainGlobals "told_error" = some (some (.ref f0)))
    (F0 : L2.Fun K "told_error" "told_error" sTold f0 d0)
    (a1 : PySem.W.nsIn K mainGlobals "is_name" = some (some (.ref f1)))
    (F1 : L2.Fun K "is_name" "is_name" sIsName f1 d1)
    (a2 : PySem.W.nsIn K mainGlobals "check_label" = some (some (.ref f2)))
    (F2 : L2.Fun K "check_label" "check_label" sCheck f2 d2)
    (a3 : PySem.W.nsIn K mainGlobals "marks_rank" = some (some (.ref f3)))
    (F3 : L2.Fun K "marks_rank" "marks_rank" sRank f3 d3)
    (a4 : PySem.W.nsIn K mainGlobals "label_rank" = some (some (.ref f4)))
    (F4 : L2.Fun K "label_rank" "label_rank" sLRank f4 d4)
    (a5 : PySem.W.nsIn K mainGlobals "in_order" = some (some (.ref f5)))
    (F5 : L2.Fun K "in_order" "in_order" sOrder f5 d5)
    (a6 : PySem.W.nsIn K mainGlobals "_law_rng" = some (some (.ref f6)))
    (F6 : L2.Fun K "_law_rng" "_law_rng" sRng f6 d6)
    (a7 : PySem.W.nsIn K mainGlobals "_law_draw" = some (some (.ref f7)))
    (F7 : L2.Fun K "_law_draw" "_law_draw" sDraw f7 d7)
    (a8 : PySem.W.nsIn K mainGlobals "_law_choice" = some (some (.ref f8)))
    (F8 : L2.Fun K "_law_choice" "_law_choice" sChoice f8 d8)
    (a9 : PySem.W.nsIn K mainGlobals "_law_invalid" = some (some (.ref f9)))
    (F9 : L2.Fun K "_law_invalid" "_law_invalid" sInvalid f9 d9)
    (a10 : PySem.W.nsIn K mainGlobals "_law_missing" = some (some (.ref f10)))
    (F10 : L2.Fun K "_law_missing" "_law_missing" sMissing f10 d10)
    (a11 : PySem.W.nsIn K mainGlobals "_law_state" = some (some (.ref f11)))
    (F11 : L2.Fun K "_law_state" "_law_state" sState f11 d11)
    (a12 : PySem.W.nsIn K mainGlobals "_law_limit" = some (some (.ref f12)))
    (F12 : L2.Fun K "_law_limit" "_law_limit" sLimit f12 d12)
    (a13 : PySem.W.nsIn K mainGlobals "_law_made" = some (some (.ref f13)))
    (F13 : L2.Fun K "_law_made" "_law_made" sMade f13 d13)
    (a14 : PySem.W.nsIn K mainGlobals "_law_first_flags" = some (some (.ref f14)))
    (F14 : L2.Fun K "_law_first_flags" "_law_first_flags" sFlagsA f14 d14)
    (a15 : PySem.W.nsIn K mainGlobals "_law_second_flags" = some (some (.ref f15)))
    (F15 : L2.Fun K "_law_second_flags" "_law_second_flags" sFlagsB f15 d15)
    (a16 : PySem.W.nsIn K mainGlobals "_law_classes" = some (some (.ref f16)))
    (F16 : L2.Fun K "_law_classes" "_law_classes" sClasses f16 d16)
    (a17 : PySem.W.nsIn K mainGlobals "_law_first_attributes" = some (some (.ref f17)))
    (F17 : L2.Fun K "_law_first_attributes" "_law_first_attributes" sAttrA f17 d17)
    (a18 : PySem.W.nsIn K mainGlobals "_law_second_attributes" = some (some (.ref f18)))
    (F18 : L2.Fun K "_law_second_attributes" "_law_second_attributes" sAttrB f18 d18)
    (a19 : PySem.W.nsIn K mainGlobals "_law_base_right" = some (some (.ref f19)))
    (F19 : L2.Fun K "_law_base_right" "_law_base_right" sBaseR f19 d19)
    (a20 : PySem.W.nsIn K mainGlobals "_law_error_right" = some (some (.ref f20)))
    (F20 : L2.Fun K "_law_error_right" "_law_error_right" sErrR f20 d20)
    (a21 : PySem.W.nsIn K mainGlobals "_law_told" = some (some (.ref f21)))
    (F21 : L2.Fun K "_law_told" "_law_told" sLTold f21 d21)
    (a22 : PySem.W.nsIn K mainGlobals "_law_refused_right" = some (some (.ref f22)))
    (F22 : L2.Fun K "_law_refused_right" "_law_refused_right" sRefR f22 d22)
    (a23 : PySem.W.nsIn K mainGlobals "law" = some (some (.ref f23)))
    (F23 : L2.Fun K "law" "law" sLaw f23 d23)
    (zlen : PySem.W.nsIn K mainGlobals "len" = some none)
    (zabs : PySem.W.nsIn K mainGlobals "abs" = some none)
    (zmax : PySem.W.nsIn K mainGlobals "max" = some none)
    (zmin : PySem.W.nsIn K mainGlobals "min" = some none)
    (zint : PySem.W.nsIn K mainGlobals "int" = some none)
    (zdivmod : PySem.W.nsIn K mainGlobals "divmod" = some none)
    (zrange : PySem.W.nsIn K mainGlobals "range" = some none)
    (zall : PySem.W.nsIn K mainGlobals "all" = some none)
    (zisinstance : PySem.W.nsIn K mainGlobals "isinstance" = some none)
    (zstr : PySem.W.nsIn K mainGlobals "str" = some none)
    (zbool : PySem.W.nsIn K mainGlobals "bool" = some none)
    (zrepr : PySem.W.nsIn K mainGlobals "repr" = some none)
    (ztuple : PySem.W.nsIn K mainGlobals "tuple" = some none)
    (zset : PySem.W.nsIn K mainGlobals "set" = some none)
    (zsorted : PySem.W.nsIn K mainGlobals "sorted" = some none)
    (zlist : PySem.W.nsIn K mainGlobals "list" = some none)
    (zValueError : PySem.W.nsIn K mainGlobals "ValueError" = some none)
    (zLookupError : PySem.W.nsIn K mainGlobals "LookupError" = some none)
    (zRuntimeError : PySem.W.nsIn K mainGlobals "RuntimeError" = some none)
    (zArithmeticError : PySem.W.nsIn K mainGlobals "ArithmeticError" = some none)
    (zKeyError : PySem.W.nsIn K mainGlobals "KeyError" = some none)
    (zIndexError : PySem.W.nsIn K mainGlobals "IndexError" = some none)
    (zZeroDivisionError : PySem.W.nsIn K mainGlobals "ZeroDivisionError" = some none)
    (zOverflowError : PySem.W.nsIn K mainGlobals "OverflowError" = some none)
    (mM : PySem.W.nsIn K mainGlobals "MOST_LETTERS" = some (some (.int 8 tM)))
    (mL : PySem.W.nsIn K mainGlobals "LETTERS" = some (some (.str "abcdefghijklmnopqrstuvwxyz" tL)))
    (cC : PySem.W.nsIn K mainGlobals "Label" = some (some (.ref C)))
    (cmk : PySem.W.makesIn K C = true)
    (cin : PySem.W.findIn K (.ref C) "__init__" = some (some (.ref fL)))
    (cfn : PySem.W.isFn K (.ref fL) = true)
    (ckp : PySem.W.keepIn K (.ref C) = true)
    (cpg : PySem.W.plainGet K C Str.empty = true)
    (chd : PySem.W.hasDictIn K C = true)
    (cpo : PySem.W.plainOver K C = true)
    (csa : PySem.W.findIn K (.ref C) "__setattr__" = some (some (.builtin "object.__setattr__")))
    (crd : PySem.W.readsIn K C (.type "type") = true)
    (cga : PySem.W.specialIn K (.ref C) "__getattribute__" = some (some (.builtin "type.__getattribute__")))
    (cmo : PySem.W.findCls K (.ref C) (.type "type") "MOST" = some (.val (.int 4 tk)))
    (cn1 : PySem.W.findIn K (.ref C) "_marks" = some none)
    (cn2 : PySem.W.findIn K (.ref C) "_text" = some none)
    (cic : PySem.W.isClsIn K C = true)
    (cty : PySem.W.typeIn K (.ref C) = some (.type "type"))
    (FL : L2.Fun K "__init__" "Label.__init__" sInit fL dL0)
    (cgE : PySem.W.findIn K (.ref C) "__eq__" = some (some (.ref gE)))
    (igE : PySem.W.isFn K (.ref gE) = true)
    (FgE : L2.Fun K "__eq__" "Label.__eq__" sEq gE dE)
    (cgL : PySem.W.findIn K (.ref C) "__len__" = some (some (.ref gL)))
    (igL : PySem.W.isFn K (.ref gL) = true)
    (FgL : L2.Fun K "__len__" "Label.__len__" sLen gL dLn)
    (cgS : PySem.W.findIn K (.ref C) "__str__" = some (some (.ref gS)))
    (igS : PySem.W.isFn K (.ref gS) = true)
    (FgS : L2.Fun K "__str__" "Label.__str__" sStr gS dS)
    (cgR : PySem.W.findIn K (.ref C) "__repr__" = some (some (.ref gR)))
    (igR : PySem.W.isFn K (.ref gR) = true)
    (FgR : L2.Fun K "__repr__" "Label.__repr__" sRepr gR dR)
    (cgH : PySem.W.findIn K (.ref C) "__contains__" = some (some (.ref gH)))
    (igH : PySem.W.isFn K (.ref gH) = true)
    (FgH : L2.Fun K "__contains__" "Label.__contains__" sHas gH dH)
    (cgI : PySem.W.findIn K (.ref C) "is_below" = some (some (.ref gI)))
    (igI : PySem.W.isFn K (.ref gI) = true)
    (FgI : L2.Fun K "is_below" "Label.is_below" sBelow gI dI)
    (kgI : PySem.W.keepIn K (.ref gI) = true)
    (cgO : PySem.W.findIn K (.ref C) "__or__" = some (some (.ref gO)))
    (igO : PySem.W.isFn K (.ref gO) = true)
    (FgO : L2.Fun K "__or__" "Label.__or__" sOrM gO dO)
    (cgA : PySem.W.findIn K (.ref C) "__and__" = some (some (.ref gA)))
    (igA : PySem.W.isFn K (.ref gA) = true)
    (FgA : L2.Fun K "__and__" "Label.__and__" sAndM gA dA)
    (sfC : PySem.W.selfFirst K C = true)
    (rrO : PySem.W.findIn K (.ref C) "__ror__" = some none)
    (rrA : PySem.W.findIn K (.ref C) "__rand__" = some none)
    (hfoONoneType : (PySem.W.findIn K (.type "NoneType") "__or__").isSome = true)
    (hfoObool : (PySem.W.findIn K (.type "bool") "__or__").isSome = true)
    (hfoOint : (PySem.W.findIn K (.type "int") "__or__").isSome = true)
    (hfoOstr : (PySem.W.findIn K (.type "str") "__or__").isSome = true)
    (hfoOlist : (PySem.W.findIn K (.type "list") "__or__").isSome = true)
    (hfoOtuple : (PySem.W.findIn K (.type "tuple") "__or__").isSome = true)
    (hfoOdict : (PySem.W.findIn K (.type "dict") "__or__").isSome = true)
    (hroONoneType : (PySem.W.findIn K (.type "NoneType") "__ror__").isSome = true)
    (hroObool : (PySem.W.findIn K (.type "bool") "__ror__").isSome = true)
    (hroOint : (PySem.W.findIn K (.type "int") "__ror__").isSome = true)
    (hroOstr : (PySem.W.findIn K (.type "str") "__ror__").isSome = true)
    (hroOlist : (PySem.W.findIn K (.type "list") "__ror__").isSome = true)
    (hroOtuple : (PySem.W.findIn K (.type "tuple") "__ror__").isSome = true)
    (hroOdict : (PySem.W.findIn K (.type "dict") "__ror__").isSome = true)
    (hfoANoneType : (PySem.W.findIn K (.type "NoneType") "__and__").isSome = true)
    (hfoAbool : (PySem.W.findIn K (.type "bool") "__and__").isSome = true)
    (hfoAint : (PySem.W.findIn K (.type "int") "__and__").isSome = true)
    (hfoAstr : (PySem.W.findIn K (.type "str") "__and__").isSome = true)
    (hfoAlist : (PySem.W.findIn K (.type "list") "__and__").isSome = true)
    (hfoAtuple : (PySem.W.findIn K (.type "tuple") "__and__").isSome = true)
    (hfoAdict : (PySem.W.findIn K (.type "dict") "__and__").isSome = true)
    (hroANoneType : (PySem.W.findIn K (.type "NoneType") "__rand__").isSome = true)
    (hroAbool : (PySem.W.findIn K (.type "bool") "__rand__").isSome = true)
    (hroAint : (PySem.W.findIn K (.type "int") "__rand__").isSome = true)
    (hroAstr : (PySem.W.findIn K (.type "str") "__rand__").isSome = true)
    (hroAlist : (PySem.W.findIn K (.type "list") "__rand__").isSome = true)
    (hroAtuple : (PySem.W.findIn K (.type "tuple") "__rand__").isSome = true)
    (hroAdict : (PySem.W.findIn K (.type "dict") "__rand__").isSome = true)
    (cne : PySem.W.findIn K (.ref C) "__ne__" = some (some (.builtin "object.__ne__")))
    (cob : PySem.W.subIn K (.ref C) (.type "object") = some true)
    (sNoneType : PySem.W.subIn K (.ref C) (.type "NoneType") = some false)
    (uNoneType : PySem.W.subIn K (.type "NoneType") (.ref C) = some false)
    (sbool : PySem.W.subIn K (.ref C) (.type "bool") = some false)
    (ubool : PySem.W.subIn K (.type "bool") (.ref C) = some false)
    (sint : PySem.W.subIn K (.ref C) (.type "int") = some false)
    (uint : PySem.W.subIn K (.type "int") (.ref C) = some false)
    (sstr : PySem.W.subIn K (.ref C) (.type "str") = some false)
    (ustr : PySem.W.subIn K (.type "str") (.ref C) = some false)
    (slist : PySem.W.subIn K (.ref C) (.type "list") = some false)
    (ulist : PySem.W.subIn K (.type "list") (.ref C) = some false)
    (stuple : PySem.W.subIn K (.ref C) (.type "tuple") = some false)
    (utuple : PySem.W.subIn K (.type "tuple") (.ref C) = some false)
    (sdict : PySem.W.subIn K (.ref C) (.type "dict") = some false)
    (udict : PySem.W.subIn K (.type "dict") (.ref C) = some false)
    (cpM : PySem.W.findIn K (.ref C) "marks" = some (some (.ref pM)))
    (pg : PySem.W.specialIn K (.ref pM) "__get__" = some (some (.builtin "property.__get__")))
    (ptk : PySem.W.takesIn K (.ref pM) = some true)
    (pr : ∃ rest, PySem.W.recIn K pM "property" = some (.ref gM :: rest))
    (cha : PySem.W.findIn K (.ref C) "__class__" = some (some (.builtin "object.__class__")))
    (hn : PySem.W.specialIn K (.builtin "object.__class__") "__get__" = some (some (.builtin "getset_descriptor.__get__")))
    (ht : PySem.W.takesIn K (.builtin "object.__class__") = some true)
    (chm : PySem.W.mroIn K C (.type "object") = some true)
    (FgM : L2.Fun K "marks" "Label.marks" sGetM gM dG)
    (aK0 : PySem.W.nsIn K mainGlobals "InvalidName" = some (some (.ref CK0)))
    (iK0 : PySem.W.findIn K (.ref CK0) "__init__" = some (some (.ref fK0)))
    (FK0 : L2.Fun K "__init__" "InvalidName.__init__" sIn0 fK0 dK0)
    (oK0 : K18T0.ownT K "ValueError" "ValueError.__new__" ["value"] ["LookupError", "RuntimeError", "ArithmeticError"] CK0 fK0 = true)
    (xK0 : K18T0.excT K CK0 = true)
    (nK0 : K18T0.nameT K "InvalidName" CK0 = true)
    (aK1 : PySem.W.nsIn K mainGlobals "InvalidLabel" = some (some (.ref CK1)))
    (iK1 : PySem.W.findIn K (.ref CK1) "__init__" = some (some (.ref fK1)))
    (FK1 : L2.Fun K "__init__" "InvalidLabel.__init__" sIn1 fK1 dK1)
    (oK1 : K18T0.ownT K "ValueError" "ValueError.__new__" ["value"] ["LookupError", "RuntimeError", "ArithmeticError"] CK1 fK1 = true)
    (xK1 : K18T0.excT K CK1 = true)
    (nK1 : K18T0.nameT K "InvalidLabel" CK1 = true)
    (aK2 : PySem.W.nsIn K mainGlobals "InvalidText" = some (some (.ref CK2)))
    (iK2 : PySem.W.findIn K (.ref CK2) "__init__" = some (some (.ref fK2)))
    (FK2 : L2.Fun K "__init__" "InvalidText.__init__" sIn2 fK2 dK2)
    (oK2 : K18T0.ownT K "ValueError" "ValueError.__new__" ["problem"] ["LookupError", "RuntimeError", "ArithmeticError"] CK2 fK2 = true)
    (xK2 : K18T0.excT K CK2 = true)
    (nK2 : K18T0.nameT K "InvalidText" CK2 = true)
    (aK3 : PySem.W.nsIn K mainGlobals "InvalidRow" = some (some (.ref CK3)))
    (iK3 : PySem.W.findIn K (.ref CK3) "__init__" = some (some (.ref fK3)))
    (FK3 : L2.Fun K "__init__" "InvalidRow.__init__" sIn3 fK3 dK3)
    (oK3 : K18T0.ownT K "ValueError" "ValueError.__new__" ["value"] ["LookupError", "RuntimeError", "ArithmeticError"] CK3 fK3 = true)
    (xK3 : K18T0.excT K CK3 = true)
    (nK3 : K18T0.nameT K "InvalidRow" CK3 = true)
    (aK4 : PySem.W.nsIn K mainGlobals "InvalidKey" = some (some (.ref CK4)))
    (iK4 : PySem.W.findIn K (.ref CK4) "__init__" = some (some (.ref fK4)))
    (FK4 : L2.Fun K "__init__" "InvalidKey.__init__" sIn4 fK4 dK4)
    (oK4 : K18T0.ownT K "ValueError" "ValueError.__new__" ["value"] ["LookupError", "RuntimeError", "ArithmeticError"] CK4 fK4 = true)
    (xK4 : K18T0.excT K CK4 = true)
    (nK4 : K18T0.nameT K "InvalidKey" CK4 = true)
    (aK5 : PySem.W.nsIn K mainGlobals "InvalidColumns" = some (some (.ref CK5)))
    (iK5 : PySem.W.findIn K (.ref CK5) "__init__" = some (some (.ref fK5)))
    (FK5 : L2.Fun K "__init__" "InvalidColumns.__init__" sIn5 fK5 dK5)
    (oK5 : K18T0.ownT K "ValueError" "ValueError.__new__" ["position"] ["LookupError", "RuntimeError", "ArithmeticError"] CK5 fK5 = true)
    (xK5 : K18T0.excT K CK5 = true)
    (nK5 : K18T0.nameT K "InvalidColumns" CK5 = true)
    (aK6 : PySem.W.nsIn K mainGlobals "InvalidRule" = some (some (.ref CK6)))
    (iK6 : PySem.W.findIn K (.ref CK6) "__init__" = some (some (.ref fK6)))
    (FK6 : L2.Fun K "__init__" "InvalidRule.__init__" sIn6 fK6 dK6)
    (oK6 : K18T0.ownT K "ValueError" "ValueError.__new__" ["rule"] ["LookupError", "RuntimeError", "ArithmeticError"] CK6 fK6 = true)
    (xK6 : K18T0.excT K CK6 = true)
    (nK6 : K18T0.nameT K "InvalidRule" CK6 = true)
    (aK7 : PySem.W.nsIn K mainGlobals "InvalidSource" = some (some (.ref CK7)))
    (iK7 : PySem.W.findIn K (.ref CK7) "__init__" = some (some (.ref fK7)))
    (FK7 : L2.Fun K "__init__" "InvalidSource.__init__" sIn7 fK7 dK7)
    (oK7 : K18T0.ownT K "ValueError" "ValueError.__new__" ["value"] ["LookupError", "RuntimeError", "ArithmeticError"] CK7 fK7 = true)
    (xK7 : K18T0.excT K CK7 = true)
    (nK7 : K18T0.nameT K "InvalidSource" CK7 = true)
    (aK8 : PySem.W.nsIn K mainGlobals "InvalidEntry" = some (some (.ref CK8)))
    (iK8 : PySem.W.findIn K (.ref CK8) "__init__" = some (some (.ref fK8)))
    (FK8 : L2.Fun K "__init__" "InvalidEntry.__init__" sIn8 fK8 dK8)
    (oK8 : K18T0.ownT K "ValueError" "ValueError.__new__" ["value"] ["LookupError", "RuntimeError", "ArithmeticError"] CK8 fK8 = true)
    (xK8 : K18T0.excT K CK8 = true)
    (nK8 : K18T0.nameT K "InvalidEntry" CK8 = true)
    (aK9 : PySem.W.nsIn K mainGlobals "InvalidCount" = some (some (.ref CK9)))
    (iK9 : PySem.W.findIn K (.ref CK9) "__init__" = some (some (.ref fK9)))
    (FK9 : L2.Fun K "__init__" "InvalidCount.__init__" sIn9 fK9 dK9)
    (oK9 : K18T0.ownT K "ValueError" "ValueError.__new__" ["value"] ["LookupError", "RuntimeError", "ArithmeticError"] CK9 fK9 = true)
    (xK9 : K18T0.excT K CK9 = true)
    (nK9 : K18T0.nameT K "InvalidCount" CK9 = true)
    (aK10 : PySem.W.nsIn K mainGlobals "InvalidCommand" = some (some (.ref CK10)))
    (iK10 : PySem.W.findIn K (.ref CK10) "__init__" = some (some (.ref fK10)))
    (FK10 : L2.Fun K "__init__" "InvalidCommand.__init__" sIn10 fK10 dK10)
    (oK10 : K18T0.ownT K "ValueError" "ValueError.__new__" ["value"] ["LookupError", "RuntimeError", "ArithmeticError"] CK10 fK10 = true)
    (xK10 : K18T0.excT K CK10 = true)
    (nK10 : K18T0.nameT K "InvalidCommand" CK10 = true)
    (aK11 : PySem.W.nsIn K mainGlobals "InvalidLine" = some (some (.ref CK11)))
    (iK11 : PySem.W.findIn K (.ref CK11) "__init__" = some (some (.ref fK11)))
    (FK11 : L2.Fun K "__init__" "InvalidLine.__init__" sIn11 fK11 dK11)
    (oK11 : K18T0.ownT K "ValueError" "ValueError.__new__" ["value"] ["LookupError", "RuntimeError", "ArithmeticError"] CK11 fK11 = true)
    (xK11 : K18T0.excT K CK11 = true)
    (nK11 : K18T0.nameT K "InvalidLine" CK11 = true)
    (aK12 : PySem.W.nsIn K mainGlobals "InvalidEvent" = some (some (.ref CK12)))
    (iK12 : PySem.W.findIn K (.ref CK12) "__init__" = some (some (.ref fK12)))
    (FK12 : L2.Fun K "__init__" "InvalidEvent.__init__" sIn12 fK12 dK12)
    (oK12 : K18T0.ownT K "ValueError" "ValueError.__new__" ["value"] ["LookupError", "RuntimeError", "ArithmeticError"] CK12 fK12 = true)
    (xK12 : K18T0.excT K CK12 = true)
    (nK12 : K18T0.nameT K "InvalidEvent" CK12 = true)
    (aK13 : PySem.W.nsIn K mainGlobals "WrongValues" = some (some (.ref CK13)))
    (iK13 : PySem.W.findIn K (.ref CK13) "__init__" = some (some (.ref fK13)))
    (FK13 : L2.Fun K "__init__" "WrongValues.__init__" sIn13 fK13 dK13)
    (oK13 : K18T0.ownT K "ValueError" "ValueError.__new__" ["wrong"] ["LookupError", "RuntimeError", "ArithmeticError"] CK13 fK13 = true)
    (xK13 : K18T0.excT K CK13 = true)
    (nK13 : K18T0.nameT K "WrongValues" CK13 = true)
    (aK14 : PySem.W.nsIn K mainGlobals "WrongSort" = some (some (.ref CK14)))
    (iK14 : PySem.W.findIn K (.ref CK14) "__init__" = some (some (.ref fK14)))
    (FK14 : L2.Fun K "__init__" "WrongSort.__init__" sIn14 fK14 dK14)
    (oK14 : K18T0.ownT K "ValueError" "ValueError.__new__" ["place"] ["LookupError", "RuntimeError", "ArithmeticError"] CK14 fK14 = true)
    (xK14 : K18T0.excT K CK14 = true)
    (nK14 : K18T0.nameT K "WrongSort" CK14 = true)
    (aK15 : PySem.W.nsIn K mainGlobals "UnknownSource" = some (some (.ref CK15)))
    (iK15 : PySem.W.findIn K (.ref CK15) "__init__" = some (some (.ref fK15)))
    (FK15 : L2.Fun K "__init__" "UnknownSource.__init__" sIn15 fK15 dK15)
    (oK15 : K18T0.ownT K "LookupError" "LookupError.__new__" ["source"] ["ValueError", "RuntimeError", "ArithmeticError", "KeyError", "IndexError"] CK15 fK15 = true)
    (xK15 : K18T0.excT K CK15 = true)
    (nK15 : K18T0.nameT K "UnknownSource" CK15 = true)
    (aK16 : PySem.W.nsIn K mainGlobals "UnknownColumn" = some (some (.ref CK16)))
    (iK16 : PySem.W.findIn K (.ref CK16) "__init__" = some (some (.ref fK16)))
    (FK16 : L2.Fun K "__init__" "UnknownColumn.__init__" sIn16 fK16 dK16)
    (oK16 : K18T0.ownT K "LookupError" "LookupError.__new__" ["column"] ["ValueError", "RuntimeError", "ArithmeticError", "KeyError", "IndexError"] CK16 fK16 = true)
    (xK16 : K18T0.excT K CK16 = true)
    (nK16 : K18T0.nameT K "UnknownColumn" CK16 = true)
    (aK17 : PySem.W.nsIn K mainGlobals "UnknownKind" = some (some (.ref CK17)))
    (iK17 : PySem.W.findIn K (.ref CK17) "__init__" = some (some (.ref fK17)))
    (FK17 : L2.Fun K "__init__" "UnknownKind.__init__" sIn17 fK17 dK17)
    (oK17 : K18T0.ownT K "LookupError" "LookupError.__new__" ["kind"] ["ValueError", "RuntimeError", "ArithmeticError", "KeyError", "IndexError"] CK17 fK17 = true)
    (xK17 : K18T0.excT K CK17 = true)
    (nK17 : K18T0.nameT K "UnknownKind" CK17 = true)
    (aK18 : PySem.W.nsIn K mainGlobals "UnknownEntry" = some (some (.ref CK18)))
    (iK18 : PySem.W.findIn K (.ref CK18) "__init__" = some (some (.ref fK18)))
    (FK18 : L2.Fun K "__init__" "UnknownEntry.__init__" sIn18 fK18 dK18)
    (oK18 : K18T0.ownT K "LookupError" "LookupError.__new__" ["name"] ["ValueError", "RuntimeError", "ArithmeticError", "KeyError", "IndexError"] CK18 fK18 = true)
    (xK18 : K18T0.excT K CK18 = true)
    (nK18 : K18T0.nameT K "UnknownEntry" CK18 = true)
    (aK19 : PySem.W.nsIn K mainGlobals "NoEntry" = some (some (.ref CK19)))
    (iK19 : PySem.W.findIn K (.ref CK19) "__init__" = some (some (.ref fK19)))
    (FK19 : L2.Fun K "__init__" "NoEntry.__init__" sIn19 fK19 dK19)
    (oK19 : K18T0.ownT K "LookupError" "LookupError.__new__" ["key"] ["ValueError", "RuntimeError", "ArithmeticError", "KeyError", "IndexError"] CK19 fK19 = true)
    (xK19 : K18T0.excT K CK19 = true)
    (nK19 : K18T0.nameT K "NoEntry" CK19 = true)
    (aK20 : PySem.W.nsIn K mainGlobals "NoRow" = some (some (.ref CK20)))
    (iK20 : PySem.W.findIn K (.ref CK20) "__init__" = some (some (.ref fK20)))
    (FK20 : L2.Fun K "__init__" "NoRow.__init__" sIn20 fK20 dK20)
    (oK20 : K18T0.ownT K "LookupError" "LookupError.__new__" ["key"] ["ValueError", "RuntimeError", "ArithmeticError", "KeyError", "IndexError"] CK20 fK20 = true)
    (xK20 : K18T0.excT K CK20 = true)
    (nK20 : K18T0.nameT K "NoRow" CK20 = true)
    (aK21 : PySem.W.nsIn K mainGlobals "NoMemo" = some (some (.ref CK21)))
    (iK21 : PySem.W.findIn K (.ref CK21) "__init__" = some (some (.ref fK21)))
    (FK21 : L2.Fun K "__init__" "NoMemo.__init__" sIn21 fK21 dK21)
    (oK21 : K18T0.ownT K "LookupError" "LookupError.__new__" ["view"] ["ValueError", "RuntimeError", "ArithmeticError", "KeyError", "IndexError"] CK21 fK21 = true)
    (xK21 : K18T0.excT K CK21 = true)
    (nK21 : K18T0.nameT K "NoMemo" CK21 = true)
    (aK22 : PySem.W.nsIn K mainGlobals "UnknownUser" = some (some (.ref CK22)))
    (iK22 : PySem.W.findIn K (.ref CK22) "__init__" = some (some (.ref fK22)))
    (FK22 : L2.Fun K "__init__" "UnknownUser.__init__" sIn22 fK22 dK22)
    (oK22 : K18T0.ownT K "LookupError" "LookupError.__new__" ["name"] ["ValueError", "RuntimeError", "ArithmeticError", "KeyError", "IndexError"] CK22 fK22 = true)
    (xK22 : K18T0.excT K CK22 = true)
    (nK22 : K18T0.nameT K "UnknownUser" CK22 = true)
    (aK23 : PySem.W.nsIn K mainGlobals "UnknownOffer" = some (some (.ref CK23)))
    (iK23 : PySem.W.findIn K (.ref CK23) "__init__" = some (some (.ref fK23)))
    (FK23 : L2.Fun K "__init__" "UnknownOffer.__init__" sIn23 fK23 dK23)
    (oK23 : K18T0.ownT K "LookupError" "LookupError.__new__" ["number"] ["ValueError", "RuntimeError", "ArithmeticError", "KeyError", "IndexError"] CK23 fK23 = true)
    (xK23 : K18T0.excT K CK23 = true)
    (nK23 : K18T0.nameT K "UnknownOffer" CK23 = true)
    (aK24 : PySem.W.nsIn K mainGlobals "NameTaken" = some (some (.ref CK24)))
    (iK24 : PySem.W.findIn K (.ref CK24) "__init__" = some (some (.ref fK24)))
    (FK24 : L2.Fun K "__init__" "NameTaken.__init__" sIn24 fK24 dK24)
    (oK24 : K18T0.ownT K "RuntimeError" "RuntimeError.__new__" ["name"] ["ValueError", "LookupError", "ArithmeticError"] CK24 fK24 = true)
    (xK24 : K18T0.excT K CK24 = true)
    (nK24 : K18T0.nameT K "NameTaken" CK24 = true)
    (aK25 : PySem.W.nsIn K mainGlobals "Taken" = some (some (.ref CK25)))
    (iK25 : PySem.W.findIn K (.ref CK25) "__init__" = some (some (.ref fK25)))
    (FK25 : L2.Fun K "__init__" "Taken.__init__" sIn25 fK25 dK25)
    (oK25 : K18T0.ownT K "RuntimeError" "RuntimeError.__new__" ["key"] ["ValueError", "LookupError", "ArithmeticError"] CK25 fK25 = true)
    (xK25 : K18T0.excT K CK25 = true)
    (nK25 : K18T0.nameT K "Taken" CK25 = true)
    (aK26 : PySem.W.nsIn K mainGlobals "Waiting" = some (some (.ref CK26)))
    (iK26 : PySem.W.findIn K (.ref CK26) "__init__" = some (some (.ref fK26)))
    (FK26 : L2.Fun K "__init__" "Waiting.__init__" sIn26 fK26 dK26)
    (oK26 : K18T0.ownT K "RuntimeError" "RuntimeError.__new__" ["key"] ["ValueError", "LookupError", "ArithmeticError"] CK26 fK26 = true)
    (xK26 : K18T0.excT K CK26 = true)
    (nK26 : K18T0.nameT K "Waiting" CK26 = true)
    (aK27 : PySem.W.nsIn K mainGlobals "Missing" = some (some (.ref CK27)))
    (iK27 : PySem.W.findIn K (.ref CK27) "__init__" = some (some (.ref fK27)))
    (FK27 : L2.Fun K "__init__" "Missing.__init__" sIn27 fK27 dK27)
    (oK27 : K18T0.ownT K "RuntimeError" "RuntimeError.__new__" ["reference", "key"] ["ValueError", "LookupError", "ArithmeticError"] CK27 fK27 = true)
    (xK27 : K18T0.excT K CK27 = true)
    (nK27 : K18T0.nameT K "Missing" CK27 = true)
    (aK28 : PySem.W.nsIn K mainGlobals "Broken" = some (some (.ref CK28)))
    (iK28 : PySem.W.findIn K (.ref CK28) "__init__" = some (some (.ref fK28)))
    (FK28 : L2.Fun K "__init__" "Broken.__init__" sIn28 fK28 dK28)
    (oK28 : K18T0.ownT K "RuntimeError" "RuntimeError.__new__" ["check", "key"] ["ValueError", "LookupError", "ArithmeticError"] CK28 fK28 = true)
    (xK28 : K18T0.excT K CK28 = true)
    (nK28 : K18T0.nameT K "Broken" CK28 = true)
    (aK29 : PySem.W.nsIn K mainGlobals "Restricted" = some (some (.ref CK29)))
    (iK29 : PySem.W.findIn K (.ref CK29) "__init__" = some (some (.ref fK29)))
    (FK29 : L2.Fun K "__init__" "Restricted.__init__" sIn29 fK29 dK29)
    (oK29 : K18T0.ownT K "RuntimeError" "RuntimeError.__new__" ["reference", "key"] ["ValueError", "LookupError", "ArithmeticError"] CK29 fK29 = true)
    (xK29 : K18T0.excT K CK29 = true)
    (nK29 : K18T0.nameT K "Restricted" CK29 = true)
    (aK30 : PySem.W.nsIn K mainGlobals "InUse" = some (some (.ref CK30)))
    (iK30 : PySem.W.findIn K (.ref CK30) "__init__" = some (some (.ref fK30)))
    (FK30 : L2.Fun K "__init__" "InUse.__init__" sIn30 fK30 dK30)
    (oK30 : K18T0.ownT K "RuntimeError" "RuntimeError.__new__" ["kind", "name"] ["ValueError", "LookupError", "ArithmeticError"] CK30 fK30 = true)
    (xK30 : K18T0.excT K CK30 = true)
    (nK30 : K18T0.nameT K "InUse" CK30 = true)
    (aK31 : PySem.W.nsIn K mainGlobals "WouldSuspend" = some (some (.ref CK31)))
    (iK31 : PySem.W.findIn K (.ref CK31) "__init__" = some (some (.ref fK31)))
    (FK31 : L2.Fun K "__init__" "WouldSuspend.__init__" sIn31 fK31 dK31)
    (oK31 : K18T0.ownT K "RuntimeError" "RuntimeError.__new__" ["source", "key"] ["ValueError", "LookupError", "ArithmeticError"] CK31 fK31 = true)
    (xK31 : K18T0.excT K CK31 = true)
    (nK31 : K18T0.nameT K "WouldSuspend" CK31 = true)
    (aK32 : PySem.W.nsIn K mainGlobals "ReplayDiffers" = some (some (.ref CK32)))
    (iK32 : PySem.W.findIn K (.ref CK32) "__init__" = some (some (.ref fK32)))
    (FK32 : L2.Fun K "__init__" "ReplayDiffers.__init__" sIn32 fK32 dK32)
    (oK32 : K18T0.ownT K "RuntimeError" "RuntimeError.__new__" ["position", "was", "now"] ["ValueError", "LookupError", "ArithmeticError"] CK32 fK32 = true)
    (xK32 : K18T0.excT K CK32 = true)
    (nK32 : K18T0.nameT K "ReplayDiffers" CK32 = true)
    (aK33 : PySem.W.nsIn K mainGlobals "InTransaction" = some (some (.ref CK33)))
    (iK33 : PySem.W.findIn K (.ref CK33) "__init__" = some (some (.ref fK33)))
    (FK33 : L2.Fun K "__init__" "InTransaction.__init__" sIn33 fK33 dK33)
    (oK33 : K18T0.ownT K "RuntimeError" "RuntimeError.__new__" ["session"] ["ValueError", "LookupError", "ArithmeticError"] CK33 fK33 = true)
    (xK33 : K18T0.excT K CK33 = true)
    (nK33 : K18T0.nameT K "InTransaction" CK33 = true)
    (aK34 : PySem.W.nsIn K mainGlobals "NoTransaction" = some (some (.ref CK34)))
    (iK34 : PySem.W.findIn K (.ref CK34) "__init__" = some (some (.ref fK34)))
    (FK34 : L2.Fun K "__init__" "NoTransaction.__init__" sIn34 fK34 dK34)
    (oK34 : K18T0.ownT K "RuntimeError" "RuntimeError.__new__" ["session"] ["ValueError", "LookupError", "ArithmeticError"] CK34 fK34 = true)
    (xK34 : K18T0.excT K CK34 = true)
    (nK34 : K18T0.nameT K "NoTransaction" CK34 = true)
    (aK35 : PySem.W.nsIn K mainGlobals "SessionEnded" = some (some (.ref CK35)))
    (iK35 : PySem.W.findIn K (.ref CK35) "__init__" = some (some (.ref fK35)))
    (FK35 : L2.Fun K "__init__" "SessionEnded.__init__" sIn35 fK35 dK35)
    (oK35 : K18T0.ownT K "RuntimeError" "RuntimeError.__new__" ["session"] ["ValueError", "LookupError", "ArithmeticError"] CK35 fK35 = true)
    (xK35 : K18T0.excT K CK35 = true)
    (nK35 : K18T0.nameT K "SessionEnded" CK35 = true)
    (aK36 : PySem.W.nsIn K mainGlobals "OwnOffer" = some (some (.ref CK36)))
    (iK36 : PySem.W.findIn K (.ref CK36) "__init__" = some (some (.ref fK36)))
    (FK36 : L2.Fun K "__init__" "OwnOffer.__init__" sIn36 fK36 dK36)
    (oK36 : K18T0.ownT K "RuntimeError" "RuntimeError.__new__" ["number"] ["ValueError", "LookupError", "ArithmeticError"] CK36 fK36 = true)
    (xK36 : K18T0.excT K CK36 = true)
    (nK36 : K18T0.nameT K "OwnOffer" CK36 = true)
    (aK37 : PySem.W.nsIn K mainGlobals "NotAllowed" = some (some (.ref CK37)))
    (iK37 : PySem.W.findIn K (.ref CK37) "__init__" = some (some (.ref fK37)))
    (FK37 : L2.Fun K "__init__" "NotAllowed.__init__" sIn37 fK37 dK37)
    (oK37 : K18T0.ownT K "RuntimeError" "RuntimeError.__new__" ["mark"] ["ValueError", "LookupError", "ArithmeticError"] CK37 fK37 = true)
    (xK37 : K18T0.excT K CK37 = true)
    (nK37 : K18T0.nameT K "NotAllowed" CK37 = true)
    (aK38 : PySem.W.nsIn K mainGlobals "OutOfSequence" = some (some (.ref CK38)))
    (iK38 : PySem.W.findIn K (.ref CK38) "__init__" = some (some (.ref fK38)))
    (FK38 : L2.Fun K "__init__" "OutOfSequence.__init__" sIn38 fK38 dK38)
    (oK38 : K18T0.ownT K "RuntimeError" "RuntimeError.__new__" ["number"] ["ValueError", "LookupError", "ArithmeticError"] CK38 fK38 = true)
    (xK38 : K18T0.excT K CK38 = true)
    (nK38 : K18T0.nameT K "OutOfSequence" CK38 = true)
    (aK39 : PySem.W.nsIn K mainGlobals "Behind" = some (some (.ref CK39)))
    (iK39 : PySem.W.findIn K (.ref CK39) "__init__" = some (some (.ref fK39)))
    (FK39 : L2.Fun K "__init__" "Behind.__init__" sIn39 fK39 dK39)
    (oK39 : K18T0.ownT K "RuntimeError" "RuntimeError.__new__" ["cut"] ["ValueError", "LookupError", "ArithmeticError"] CK39 fK39 = true)
    (xK39 : K18T0.excT K CK39 = true)
    (nK39 : K18T0.nameT K "Behind" CK39 = true)
    (aK40 : PySem.W.nsIn K mainGlobals "TooMany" = some (some (.ref CK40)))
    (iK40 : PySem.W.findIn K (.ref CK40) "__init__" = some (some (.ref fK40)))
    (FK40 : L2.Fun K "__init__" "TooMany.__init__" sIn40 fK40 dK40)
    (oK40 : K18T0.ownT K "ArithmeticError" "ArithmeticError.__new__" ["kind", "limit"] ["ValueError", "LookupError", "RuntimeError", "ZeroDivisionError", "OverflowError"] CK40 fK40 = true)
    (xK40 : K18T0.excT K CK40 = true)
    (nK40 : K18T0.nameT K "TooMany" CK40 = true)
    (aK41 : PySem.W.nsIn K mainGlobals "TooDear" = some (some (.ref CK41)))
    (iK41 : PySem.W.findIn K (.ref CK41) "__init__" = some (some (.ref fK41)))
    (FK41 : L2.Fun K "__init__" "TooDear.__init__" sIn41 fK41 dK41)
    (oK41 : K18T0.ownT K "ArithmeticError" "ArithmeticError.__new__" ["limit"] ["ValueError", "LookupError", "RuntimeError", "ZeroDivisionError", "OverflowError"] CK41 fK41 = true)
    (xK41 : K18T0.excT K CK41 = true)
    (nK41 : K18T0.nameT K "TooDear" CK41 = true)
    (aK42 : PySem.W.nsIn K mainGlobals "InvalidError" = some (some (.ref CK42)))
    (aK43 : PySem.W.nsIn K mainGlobals "MissingError" = some (some (.ref CK43)))
    (aK44 : PySem.W.nsIn K mainGlobals "StateError" = some (some (.ref CK44)))
    (aK45 : PySem.W.nsIn K mainGlobals "LimitError" = some (some (.ref CK45)))
    (kK0 : K18T0.kitRow K CK0 0 0 [CK0, CK1, CK2, CK3, CK4, CK5, CK6, CK7, CK8, CK9, CK10, CK11, CK12, CK13, CK14, CK15, CK16, CK17, CK18, CK19, CK20, CK21, CK22, CK23, CK24, CK25, CK26, CK27, CK28, CK29, CK30, CK31, CK32, CK33, CK34, CK35, CK36, CK37, CK38, CK39, CK40, CK41, CK42, CK43, CK44, CK45] = true)
    (kK1 : K18T0.kitRow K CK1 1 0 [CK0, CK1, CK2, CK3, CK4, CK5, CK6, CK7, CK8, CK9, CK10, CK11, CK12, CK13, CK14, CK15, CK16, CK17, CK18, CK19, CK20, CK21, CK22, CK23, CK24, CK25, CK26, CK27, CK28, CK29, CK30, CK31, CK32, CK33, CK34, CK35, CK36, CK37, CK38, CK39, CK40, CK41, CK42, CK43, CK44, CK45] = true)
    (kK2 : K18T0.kitRow K CK2 2 0 [CK0, CK1, CK2, CK3, CK4, CK5, CK6, CK7, CK8, CK9, CK10, CK11, CK12, CK13, CK14, CK15, CK16, CK17, CK18, CK19, CK20, CK21, CK22, CK23, CK24, CK25, CK26, CK27, CK28, CK29, CK30, CK31, CK32, CK33, CK34, CK35, CK36, CK37, CK38, CK39, CK40, CK41, CK42, CK43, CK44, CK45] = true)
    (kK3 : K18T0.kitRow K CK3 3 0 [CK0, CK1, CK2, CK3, CK4, CK5, CK6, CK7, CK8, CK9, CK10, CK11, CK12, CK13, CK14, CK15, CK16, CK17, CK18, CK19, CK20, CK21, CK22, CK23, CK24, CK25, CK26, CK27, CK28, CK29, CK30, CK31, CK32, CK33, CK34, CK35, CK36, CK37, CK38, CK39, CK40, CK41, CK42, CK43, CK44, CK45] = true)
    (kK4 : K18T0.kitRow K CK4 4 0 [CK0, CK1, CK2, CK3, CK4, CK5, CK6, CK7, CK8, CK9, CK10, CK11, CK12, CK13, CK14, CK15, CK16, CK17, CK18, CK19, CK20, CK21, CK22, CK23, CK24, CK25, CK26, CK27, CK28, CK29, CK30, CK31, CK32, CK33, CK34, CK35, CK36, CK37, CK38, CK39, CK40, CK41, CK42, CK43, CK44, CK45] = true)
    (kK5 : K18T0.kitRow K CK5 5 0 [CK0, CK1, CK2, CK3, CK4, CK5, CK6, CK7, CK8, CK9, CK10, CK11, CK12, CK13, CK14, CK15, CK16, CK17, CK18, CK19, CK20, CK21, CK22, CK23, CK24, CK25, CK26, CK27, CK28, CK29, CK30, CK31, CK32, CK33, CK34, CK35, CK36, CK37, CK38, CK39, CK40, CK41, CK42, CK43, CK44, CK45] = true)
    (kK6 : K18T0.kitRow K CK6 6 0 [CK0, CK1, CK2, CK3, CK4, CK5, CK6, CK7, CK8, CK9, CK10, CK11, CK12, CK13, CK14, CK15, CK16, CK17, CK18, CK19, CK20, CK21, CK22, CK23, CK24, CK25, CK26, CK27, CK28, CK29, CK30, CK31, CK32, CK33, CK34, CK35, CK36, CK37, CK38, CK39, CK40, CK41, CK42, CK43, CK44, CK45] = true)
    (kK7 : K18T0.kitRow K CK7 7 0 [CK0, CK1, CK2, CK3, CK4, CK5, CK6, CK7, CK8, CK9, CK10, CK11, CK12, CK13, CK14, CK15, CK16, CK17, CK18, CK19, CK20, CK21, CK22, CK23, CK24, CK25, CK26, CK27, CK28, CK29, CK30, CK31, CK32, CK33, CK34, CK35, CK36, CK37, CK38, CK39, CK40, CK41, CK42, CK43, CK44, CK45] = true)
    (kK8 : K18T0.kitRow K CK8 8 0 [CK0, CK1, CK2, CK3, CK4, CK5, CK6, CK7, CK8, CK9, CK10, CK11, CK12, CK13, CK14, CK15, CK16, CK17, CK18, CK19, CK20, CK21, CK22, CK23, CK24, CK25, CK26, CK27, CK28, CK29, CK30, CK31, CK32, CK33, CK34, CK35, CK36, CK37, CK38, CK39, CK40, CK41, CK42, CK43, CK44, CK45] = true)
    (kK9 : K18T0.kitRow K CK9 9 0 [CK0, CK1, CK2, CK3, CK4, CK5, CK6, CK7, CK8, CK9, CK10, CK11, CK12, CK13, CK14, CK15, CK16, CK17, CK18, CK19, CK20, CK21, CK22, CK23, CK24, CK25, CK26, CK27, CK28, CK29, CK30, CK31, CK32, CK33, CK34, CK35, CK36, CK37, CK38, CK39, CK40, CK41, CK42, CK43, CK44, CK45] = true)
    (kK10 : K18T0.kitRow K CK10 10 0 [CK0, CK1, CK2, CK3, CK4, CK5, CK6, CK7, CK8, CK9, CK10, CK11, CK12, CK13, CK14, CK15, CK16, CK17, CK18, CK19, CK20, CK21, CK22, CK23, CK24, CK25, CK26, CK27, CK28, CK29, CK30, CK31, CK32, CK33, CK34, CK35, CK36, CK37, CK38, CK39, CK40, CK41, CK42, CK43, CK44, CK45] = true)
    (kK11 : K18T0.kitRow K CK11 11 0 [CK0, CK1, CK2, CK3, CK4, CK5, CK6, CK7, CK8, CK9, CK10, CK11, CK12, CK13, CK14, CK15, CK16, CK17, CK18, CK19, CK20, CK21, CK22, CK23, CK24, CK25, CK26, CK27, CK28, CK29, CK30, CK31, CK32, CK33, CK34, CK35, CK36, CK37, CK38, CK39, CK40, CK41, CK42, CK43, CK44, CK45] = true)
    (kK12 : K18T0.kitRow K CK12 12 0 [CK0, CK1, CK2, CK3, CK4, CK5, CK6, CK7, CK8, CK9, CK10, CK11, CK12, CK13, CK14, CK15, CK16, CK17, CK18, CK19, CK20, CK21, CK22, CK23, CK24, CK25, CK26, CK27, CK28, CK29, CK30, CK31, CK32, CK33, CK34, CK35, CK36, CK37, CK38, CK39, CK40, CK41, CK42, CK43, CK44, CK45] = true)
    (kK13 : K18T0.kitRow K CK13 13 0 [CK0, CK1, CK2, CK3, CK4, CK5, CK6, CK7, CK8, CK9, CK10, CK11, CK12, CK13, CK14, CK15, CK16, CK17, CK18, CK19, CK20, CK21, CK22, CK23, CK24, CK25, CK26, CK27, CK28, CK29, CK30, CK31, CK32, CK33, CK34, CK35, CK36, CK37, CK38, CK39, CK40, CK41, CK42, CK43, CK44, CK45] = true)
    (kK14 : K18T0.kitRow K CK14 14 0 [CK0, CK1, CK2, CK3, CK4, CK5, CK6, CK7, CK8, CK9, CK10, CK11, CK12, CK13, CK14, CK15, CK16, CK17, CK18, CK19, CK20, CK21, CK22, CK23, CK24, CK25, CK26, CK27, CK28, CK29, CK30, CK31, CK32, CK33, CK34, CK35, CK36, CK37, CK38, CK39, CK40, CK41, CK42, CK43, CK44, CK45] = true)
    (kK15 : K18T0.kitRow K CK15 15 0 [CK0, CK1, CK2, CK3, CK4, CK5, CK6, CK7, CK8, CK9, CK10, CK11, CK12, CK13, CK14, CK15, CK16, CK17, CK18, CK19, CK20, CK21, CK22, CK23, CK24, CK25, CK26, CK27, CK28, CK29, CK30, CK31, CK32, CK33, CK34, CK35, CK36, CK37, CK38, CK39, CK40, CK41, CK42, CK43, CK44, CK45] = true)
    (kK16 : K18T0.kitRow K CK16 16 0 [CK0, CK1, CK2, CK3, CK4, CK5, CK6, CK7, CK8, CK9, CK10, CK11, CK12, CK13, CK14, CK15, CK16, CK17, CK18, CK19, CK20, CK21, CK22, CK23, CK24, CK25, CK26, CK27, CK28, CK29, CK30, CK31, CK32, CK33, CK34, CK35, CK36, CK37, CK38, CK39, CK40, CK41, CK42, CK43, CK44, CK45] = true)
    (kK17 : K18T0.kitRow K CK17 17 0 [CK0, CK1, CK2, CK3, CK4, CK5, CK6, CK7, CK8, CK9, CK10, CK11, CK12, CK13, CK14, CK15, CK16, CK17, CK18, CK19, CK20, CK21, CK22, CK23, CK24, CK25, CK26, CK27, CK28, CK29, CK30, CK31, CK32, CK33, CK34, CK35, CK36, CK37, CK38, CK39, CK40, CK41, CK42, CK43, CK44, CK45] = true)
    (kK18 : K18T0.kitRow K CK18 18 0 [CK0, CK1, CK2, CK3, CK4, CK5, CK6, CK7, CK8, CK9, CK10, CK11, CK12, CK13, CK14, CK15, CK16, CK17, CK18, CK19, CK20, CK21, CK22, CK23, CK24, CK25, CK26, CK27, CK28, CK29, CK30, CK31, CK32, CK33, CK34, CK35, CK36, CK37, CK38, CK39, CK40, CK41, CK42, CK43, CK44, CK45] = true)
    (kK19 : K18T0.kitRow K CK19 19 0 [CK0, CK1, CK2, CK3, CK4, CK5, CK6, CK7, CK8, CK9, CK10, CK11, CK12, CK13, CK14, CK15, CK16, CK17, CK18, CK19, CK20, CK21, CK22, CK23, CK24, CK25, CK26, CK27, CK28, CK29, CK30, CK31, CK32, CK33, CK34, CK35, CK36, CK37, CK38, CK39, CK40, CK41, CK42, CK43, CK44, CK45] = true)
    (kK20 : K18T0.kitRow K CK20 20 0 [CK0, CK1, CK2, CK3, CK4, CK5, CK6, CK7, CK8, CK9, CK10, CK11, CK12, CK13, CK14, CK15, CK16, CK17, CK18, CK19, CK20, CK21, CK22, CK23, CK24, CK25, CK26, CK27, CK28, CK29, CK30, CK31, CK32, CK33, CK34, CK35, CK36, CK37, CK38, CK39, CK40, CK41, CK42, CK43, CK44, CK45] = true)
    (kK21 : K18T0.kitRow K CK21 21 0 [CK0, CK1, CK2, CK3, CK4, CK5, CK6, CK7, CK8, CK9, CK10, CK11, CK12, CK13, CK14, CK15, CK16, CK17, CK18, CK19, CK20, CK21, CK22, CK23, CK24, CK25, CK26, CK27, CK28, CK29, CK30, CK31, CK32, CK33, CK34, CK35, CK36, CK37, CK38, CK39, CK40, CK41, CK42, CK43, CK44, CK45] = true)
    (kK22 : K18T0.kitRow K CK22 22 0 [CK0, CK1, CK2, CK3, CK4, CK5, CK6, CK7, CK8, CK9, CK10, CK11, CK12, CK13, CK14, CK15, CK16, CK17, CK18, CK19, CK20, CK21, CK22, CK23, CK24, CK25, CK26, CK27, CK28, CK29, CK30, CK31, CK32, CK33, CK34, CK35, CK36, CK37, CK38, CK39, CK40, CK41, CK42, CK43, CK44, CK45] = true)
    (kK23 : K18T0.kitRow K CK23 23 0 [CK0, CK1, CK2, CK3, CK4, CK5, CK6, CK7, CK8, CK9, CK10, CK11, CK12, CK13, CK14, CK15, CK16, CK17, CK18, CK19, CK20, CK21, CK22, CK23, CK24, CK25, CK26, CK27, CK28, CK29, CK30, CK31, CK32, CK33, CK34, CK35, CK36, CK37, CK38, CK39, CK40, CK41, CK42, CK43, CK44, CK45] = true)
    (kK24 : K18T0.kitRow K CK24 24 0 [CK0, CK1, CK2, CK3, CK4, CK5, CK6, CK7, CK8, CK9, CK10, CK11, CK12, CK13, CK14, CK15, CK16, CK17, CK18, CK19, CK20, CK21, CK22, CK23, CK24, CK25, CK26, CK27, CK28, CK29, CK30, CK31, CK32, CK33, CK34, CK35, CK36, CK37, CK38, CK39, CK40, CK41, CK42, CK43, CK44, CK45] = true)
    (kK25 : K18T0.kitRow K CK25 25 0 [CK0, CK1, CK2, CK3, CK4, CK5, CK6, CK7, CK8, CK9, CK10, CK11, CK12, CK13, CK14, CK15, CK16, CK17, CK18, CK19, CK20, CK21, CK22, CK23, CK24, CK25, CK26, CK27, CK28, CK29, CK30, CK31, CK32, CK33, CK34, CK35, CK36, CK37, CK38, CK39, CK40, CK41, CK42, CK43, CK44, CK45] = true)
    (kK26 : K18T0.kitRow K CK26 26 0 [CK0, CK1, CK2, CK3, CK4, CK5, CK6, CK7, CK8, CK9, CK10, CK11, CK12, CK13, CK14, CK15, CK16, CK17, CK18, CK19, CK20, CK21, CK22, CK23, CK24, CK25, CK26, CK27, CK28, CK29, CK30, CK31, CK32, CK33, CK34, CK35, CK36, CK37, CK38, CK39, CK40, CK41, CK42, CK43, CK44, CK45] = true)
    (kK27 : K18T0.kitRow K CK27 27 0 [CK0, CK1, CK2, CK3, CK4, CK5, CK6, CK7, CK8, CK9, CK10, CK11, CK12, CK13, CK14, CK15, CK16, CK17, CK18, CK19, CK20, CK21, CK22, CK23, CK24, CK25, CK26, CK27, CK28, CK29, CK30, CK31, CK32, CK33, CK34, CK35, CK36, CK37, CK38, CK39, CK40, CK41, CK42, CK43, CK44, CK45] = true)
    (kK28 : K18T0.kitRow K CK28 28 0 [CK0, CK1, CK2, CK3, CK4, CK5, CK6, CK7, CK8, CK9, CK10, CK11, CK12, CK13, CK14, CK15, CK16, CK17, CK18, CK19, CK20, CK21, CK22, CK23, CK24, CK25, CK26, CK27, CK28, CK29, CK30, CK31, CK32, CK33, CK34, CK35, CK36, CK37, CK38, CK39, CK40, CK41, CK42, CK43, CK44, CK45] = true)
    (kK29 : K18T0.kitRow K CK29 29 0 [CK0, CK1, CK2, CK3, CK4, CK5, CK6, CK7, CK8, CK9, CK10, CK11, CK12, CK13, CK14, CK15, CK16, CK17, CK18, CK19, CK20, CK21, CK22, CK23, CK24, CK25, CK26, CK27, CK28, CK29, CK30, CK31, CK32, CK33, CK34, CK35, CK36, CK37, CK38, CK39, CK40, CK41, CK42, CK43, CK44, CK45] = true)
    (kK30 : K18T0.kitRow K CK30 30 0 [CK0, CK1, CK2, CK3, CK4, CK5, CK6, CK7, CK8, CK9, CK10, CK11, CK12, CK13, CK14, CK15, CK16, CK17, CK18, CK19, CK20, CK21, CK22, CK23, CK24, CK25, CK26, CK27, CK28, CK29, CK30, CK31, CK32, CK33, CK34, CK35, CK36, CK37, CK38, CK39, CK40, CK41, CK42, CK43, CK44, CK45] = true)
    (kK31 : K18T0.kitRow K CK31 31 0 [CK0, CK1, CK2, CK3, CK4, CK5, CK6, CK7, CK8, CK9, CK10, CK11, CK12, CK13, CK14, CK15, CK16, CK17, CK18, CK19, CK20, CK21, CK22, CK23, CK24, CK25, CK26, CK27, CK28, CK29, CK30, CK31, CK32, CK33, CK34, CK35, CK36, CK37, CK38, CK39, CK40, CK41, CK42, CK43, CK44, CK45] = true)
    (kK32 : K18T0.kitRow K CK32 32 0 [CK0, CK1, CK2, CK3, CK4, CK5, CK6, CK7, CK8, CK9, CK10, CK11, CK12, CK13, CK14, CK15, CK16, CK17, CK18, CK19, CK20, CK21, CK22, CK23, CK24, CK25, CK26, CK27, CK28, CK29, CK30, CK31, CK32, CK33, CK34, CK35, CK36, CK37, CK38, CK39, CK40, CK41, CK42, CK43, CK44, CK45] = true)
    (kK33 : K18T0.kitRow K CK33 33 0 [CK0, CK1, CK2, CK3, CK4, CK5, CK6, CK7, CK8, CK9, CK10, CK11, CK12, CK13, CK14, CK15, CK16, CK17, CK18, CK19, CK20, CK21, CK22, CK23, CK24, CK25, CK26, CK27, CK28, CK29, CK30, CK31, CK32, CK33, CK34, CK35, CK36, CK37, CK38, CK39, CK40, CK41, CK42, CK43, CK44, CK45] = true)
    (kK34 : K18T0.kitRow K CK34 34 0 [CK0, CK1, CK2, CK3, CK4, CK5, CK6, CK7, CK8, CK9, CK10, CK11, CK12, CK13, CK14, CK15, CK16, CK17, CK18, CK19, CK20, CK21, CK22, CK23, CK24, CK25, CK26, CK27, CK28, CK29, CK30, CK31, CK32, CK33, CK34, CK35, CK36, CK37, CK38, CK39, CK40, CK41, CK42, CK43, CK44, CK45] = true)
    (kK35 : K18T0.kitRow K CK35 35 0 [CK0, CK1, CK2, CK3, CK4, CK5, CK6, CK7, CK8, CK9, CK10, CK11, CK12, CK13, CK14, CK15, CK16, CK17, CK18, CK19, CK20, CK21, CK22, CK23, CK24, CK25, CK26, CK27, CK28, CK29, CK30, CK31, CK32, CK33, CK34, CK35, CK36, CK37, CK38, CK39, CK40, CK41, CK42, CK43, CK44, CK45] = true)
    (kK36 : K18T0.kitRow K CK36 36 0 [CK0, CK1, CK2, CK3, CK4, CK5, CK6, CK7, CK8, CK9, CK10, CK11, CK12, CK13, CK14, CK15, CK16, CK17, CK18, CK19, CK20, CK21, CK22, CK23, CK24, CK25, CK26, CK27, CK28, CK29, CK30, CK31, CK32, CK33, CK34, CK35, CK36, CK37, CK38, CK39, CK40, CK41, CK42, CK43, CK44, CK45] = true)
    (kK37 : K18T0.kitRow K CK37 37 0 [CK0, CK1, CK2, CK3, CK4, CK5, CK6, CK7, CK8, CK9, CK10, CK11, CK12, CK13, CK14, CK15, CK16, CK17, CK18, CK19, CK20, CK21, CK22, CK23, CK24, CK25, CK26, CK27, CK28, CK29, CK30, CK31, CK32, CK33, CK34, CK35, CK36, CK37, CK38, CK39, CK40, CK41, CK42, CK43, CK44, CK45] = true)
    (kK38 : K18T0.kitRow K CK38 38 0 [CK0, CK1, CK2, CK3, CK4, CK5, CK6, CK7, CK8, CK9, CK10, CK11, CK12, CK13, CK14, CK15, CK16, CK17, CK18, CK19, CK20, CK21, CK22, CK23, CK24, CK25, CK26, CK27, CK28, CK29, CK30, CK31, CK32, CK33, CK34, CK35, CK36, CK37, CK38, CK39, CK40, CK41, CK42, CK43, CK44, CK45] = true)
    (kK39 : K18T0.kitRow K CK39 39 0 [CK0, CK1, CK2, CK3, CK4, CK5, CK6, CK7, CK8, CK9, CK10, CK11, CK12, CK13, CK14, CK15, CK16, CK17, CK18, CK19, CK20, CK21, CK22, CK23, CK24, CK25, CK26, CK27, CK28, CK29, CK30, CK31, CK32, CK33, CK34, CK35, CK36, CK37, CK38, CK39, CK40, CK41, CK42, CK43, CK44, CK45] = true)
    (kK40 : K18T0.kitRow K CK40 40 0 [CK0, CK1, CK2, CK3, CK4, CK5, CK6, CK7, CK8, CK9, CK10, CK11, CK12, CK13, CK14, CK15, CK16, CK17, CK18, CK19, CK20, CK21, CK22, CK23, CK24, CK25, CK26, CK27, CK28, CK29, CK30, CK31, CK32, CK33, CK34, CK35, CK36, CK37, CK38, CK39, CK40, CK41, CK42, CK43, CK44, CK45] = true)
    (kK41 : K18T0.kitRow K CK41 41 0 [CK0, CK1, CK2, CK3, CK4, CK5, CK6, CK7, CK8, CK9, CK10, CK11, CK12, CK13, CK14, CK15, CK16, CK17, CK18, CK19, CK20, CK21, CK22, CK23, CK24, CK25, CK26, CK27, CK28, CK29, CK30, CK31, CK32, CK33, CK34, CK35, CK36, CK37, CK38, CK39, CK40, CK41, CK42, CK43, CK44, CK45] = true)
    (sysm : K18T0.sysT K = true)
    (nlC : K.lookup CK0 = some (PySem.excClassObj nm q CK0 N bs bm true sn sub ab col dd k0 k1 k2 k3 k5 "ValueError.__new__"))
    (nbC : PySem.HandSPX.refsVE bm = true)
    (llC : K.lookup CK1 = some (PySem.excClassObj nmb q2 CK1 N2 bs2 bm2 true sn2 sub2 ab2 col2 dd2 j0 j1 j2 j3 j5 "ValueError.__new__"))
    (lbC : PySem.HandSPX.refsVE bm2 = true)
    (emll : PySem.W.exmOne K (.ref CK1) (.ref CK1) = some true)
    (emnl : PySem.W.exmOne K (.ref CK0) (.ref CK1) = some false)
    (emnn : PySem.W.exmOne K (.ref CK0) (.ref CK0) = some true)
    (emml : PySem.W.exmOne K (.ref CK40) (.ref CK1) = some false)
    (emmn : PySem.W.exmOne K (.ref CK40) (.ref CK0) = some false)
    (emmm : PySem.W.exmOne K (.ref CK40) (.ref CK40) = some true)
    (hcR : d22.code = .ref cR)
    (cH : PySem.W.codeHdIn K cR Pt = true)
    (hPt : h.get? Pt = some tab0)
    (nP : K.lookup Pt = none) :
    ∃ (fd : FuncData) (cs : List (Addr × Addr)) (T : List (Addr × Str)), TabsOk K cs h ∧ (∀ p ∈ T, p.1 ∈ cs.map (·.2)) ∧ (∀ (s : Shared) (u : Value), BindsTo s fd ⟨[u], []⟩ [("_law_script", u)]) ∧ ∀ base : Heap, K.In base → base.Ns mainGlobals mg → (∀ p ∈ cs, LamX.TabB base mg p.1 p.2) → FnG P w K mg base 33 fa fd ["_law_script"] (spLaw K T) := by
  have e := hfa.symm.trans (PySem.W.mg_of X G a23)
  cases e
  have A0 : At K mg "told_error" sTold ["error"] f0 d0 := at_mk X G a0 F0 fun _ _ _ _ _ _ us hl => match us, hl with | [_], _ => rfl
  have A1 : At K mg "is_name" sIsName ["value"] f1 d1 := at_mk X G a1 F1 fun _ _ _ _ _ _ us hl => match us, hl with | [_], _ => rfl
  have A2 : At K mg "check_label" sCheck ["value"] f2 d2 := at_mk X G a2 F2 fun _ _ _ _ _ _ us hl => match us, hl with | [_], _ => rfl
  have A3 : At K mg "marks_rank" sRank ["marks"] f3 d3 := at_mk X G a3 F3 fun _ _ _ _ _ _ us hl => match us, hl with | [_], _ => rfl
  have A4 : At K mg "label_rank" sLRank ["label"] f4 d4 := at_mk X G a4 F4 fun _ _ _ _ _ _ us hl => match us, hl with | [_], _ => rfl
  have A5 : At K mg "in_order" sOrder ["labels"] f5 d5 := at_mk X G a5 F5 fun _ _ _ _ _ _ us hl => match us, hl with | [_], _ => rfl
  have A6 : At K mg "_law_rng" sRng ["_law_script", "_law_k"] f6 d6 := at_mk X G a6 F6 fun _ _ _ _ _ _ us hl => match us, hl with | [_, _], _ => rfl
  have A7 : At K mg "_law_draw" sDraw ["_law_rng_here", "_law_many"] f7 d7 := at_mk X G a7 F7 fun _ _ _ _ _ _ us hl => match us, hl with | [_, _], _ => rfl
  have A8 : At K mg "_law_choice" sChoice ["_law_rng_here", "_law_options"] f8 d8 := at_mk X G a8 F8 fun _ _ _ _ _ _ us hl => match us, hl with | [_, _], _ => rfl
  have A9 : At K mg "_law_invalid" sInvalid ["_law_k", "_law_one", "_law_two", "_law_three"] f9 d9 := at_mk X G a9 F9 fun _ _ _ _ _ _ us hl => match us, hl with | [_, _, _, _], _ => rfl
  have A10 : At K mg "_law_missing" sMissing ["_law_k", "_law_one", "_law_two", "_law_three"] f10 d10 := at_mk X G a10 F10 fun _ _ _ _ _ _ us hl => match us, hl with | [_, _, _, _], _ => rfl
  have A11 : At K mg "_law_state" sState ["_law_k", "_law_one", "_law_two", "_law_three"] f11 d11 := at_mk X G a11 F11 fun _ _ _ _ _ _ us hl => match us, hl with | [_, _, _, _], _ => rfl
  have A12 : At K mg "_law_limit" sLimit ["_law_k", "_law_one", "_law_two", "_law_three"] f12 d12 := at_mk X G a12 F12 fun _ _ _ _ _ _ us hl => match us, hl with | [_, _, _, _], _ => rfl
  have A13 : At K mg "_law_made" sMade ["_law_k", "_law_one", "_law_two", "_law_three"] f13 d13 := at_mk X G a13 F13 fun _ _ _ _ _ _ us hl => match us, hl with | [_, _, _, _], _ => rfl
  have A14 : At K mg "_law_first_flags" sFlagsA ["_law_e"] f14 d14 := at_mk X G a14 F14 fun _ _ _ _ _ _ us hl => match us, hl with | [_], _ => rfl
  have A15 : At K mg "_law_second_flags" sFlagsB ["_law_e"] f15 d15 := at_mk X G a15 F15 fun _ _ _ _ _ _ us hl => match us, hl with | [_], _ => rfl
  have A16 : At K mg "_law_classes" sClasses [] f16 d16 := at_mk X G a16 F16 fun _ _ _ _ _ _ us hl => match us, hl with | [], _ => rfl
  have A17 : At K mg "_law_first_attributes" sAttrA ["_law_k", "_law_e"] f17 d17 := at_mk X G a17 F17 fun _ _ _ _ _ _ us hl => match us, hl with | [_, _], _ => rfl
  have A18 : At K mg "_law_second_attributes" sAttrB ["_law_k", "_law_e"] f18 d18 := at_mk X G a18 F18 fun _ _ _ _ _ _ us hl => match us, hl with | [_, _], _ => rfl
  have A19 : At K mg "_law_base_right" sBaseR ["_law_k", "_law_e"] f19 d19 := at_mk X G a19 F19 fun _ _ _ _ _ _ us hl => match us, hl with | [_, _], _ => rfl
  have A20 : At K mg "_law_error_right" sErrR ["_law_rng_here", "_law_k"] f20 d20 := at_mk X G a20 F20 fun _ _ _ _ _ _ us hl => match us, hl with | [_, _], _ => rfl
  have A21 : At K mg "_law_told" sLTold ["_law_call"] f21 d21 := at_mk X G a21 F21 fun _ _ _ _ _ _ us hl => match us, hl with | [_], _ => rfl
  have A22 : At K mg "_law_refused_right" sRefR ["_law_rng_here"] f22 d22 := at_mk X G a22 F22 fun _ _ _ _ _ _ us hl => match us, hl with | [_], _ => rfl
  have B : BEnv mg := ⟨(PySem.W.mg_none_of X G zlen), (PySem.W.mg_none_of X G zabs), (PySem.W.mg_none_of X G zmax), (PySem.W.mg_none_of X G zmin), (PySem.W.mg_none_of X G zint), (PySem.W.mg_none_of X G zdivmod), (PySem.W.mg_none_of X G zrange), (PySem.W.mg_none_of X G zall)⟩
  have Z : Zn mg := ⟨(PySem.W.mg_none_of X G zisinstance), (PySem.W.mg_none_of X G zbool), (PySem.W.mg_none_of X G zint), (PySem.W.mg_none_of X G zstr), (PySem.W.mg_none_of X G zabs), (PySem.W.mg_none_of X G zlen), (PySem.W.mg_none_of X G zall), (PySem.W.mg_none_of X G zrepr)⟩
  have x0 := K18.own_ok (cn := "InvalidName") .val rfl rfl rfl hn ht oK0 xK0 nK0
  have w0 : OwE.Own K mg .val "InvalidName" ["value"] (inClass (top 4) 0) CK0 fK0 dK0 := own_mk x0 (PySem.W.mg_of X G aK0) (by decide +kernel) FK0 (FK0.binds fun _ _ _ _ _ _ us hl => match us, hl with | [_, _], _ => rfl)
  have x1 := K18.own_ok (cn := "InvalidLabel") .val rfl rfl rfl hn ht oK1 xK1 nK1
  have w1 : OwE.Own K mg .val "InvalidLabel" ["value"] (inClass (top 5) 0) CK1 fK1 dK1 := own_mk x1 (PySem.W.mg_of X G aK1) (by decide +kernel) FK1 (FK1.binds fun _ _ _ _ _ _ us hl => match us, hl with | [_, _], _ => rfl)
  have x2 := K18.own_ok (cn := "InvalidText") .val rfl rfl rfl hn ht oK2 xK2 nK2
  have w2 : OwE.Own K mg .val "InvalidText" ["problem"] (inClass (top 6) 0) CK2 fK2 dK2 := own_mk x2 (PySem.W.mg_of X G aK2) (by decide +kernel) FK2 (FK2.binds fun _ _ _ _ _ _ us hl => match us, hl with | [_, _], _ => rfl)
  have x3 := K18.own_ok (cn := "InvalidRow") .val rfl rfl rfl hn ht oK3 xK3 nK3
  have w3 : OwE.Own K mg .val "InvalidRow" ["value"] (inClass (top 7) 0) CK3 fK3 dK3 := own_mk x3 (PySem.W.mg_of X G aK3) (by decide +kernel) FK3 (FK3.binds fun _ _ _ _ _ _ us hl => match us, hl with | [_, _], _ => rfl)
  have x4 := K18.own_ok (cn := "InvalidKey") .val rfl rfl rfl hn ht oK4 xK4 nK4
  have w4 : OwE.Own K mg .val "InvalidKey" ["value"] (inClass (top 8) 0) CK4 fK4 dK4 := own_mk x4 (PySem.W.mg_of X G aK4) (by decide +kernel) FK4 (FK4.binds fun _ _ _ _ _ _ us hl => match us, hl with | [_, _], _ => rfl)
  have x5 := K18.own_ok (cn := "InvalidColumns") .val rfl rfl rfl hn ht oK5 xK5 nK5
  have w5 : OwE.Own K mg .val "InvalidColumns" ["position"] (inClass (top 9) 0) CK5 fK5 dK5 := own_mk x5 (PySem.W.mg_of X G aK5) (by decide +kernel) FK5 (FK5.binds fun _ _ _ _ _ _ us hl => match us, hl with | [_, _], _ => rfl)
  have x6 := K18.own_ok (cn := "InvalidRule") .val rfl rfl rfl hn ht oK6 xK6 nK6
  have w6 : OwE.Own K mg .val "InvalidRule" ["rule"] (inClass (top 10) 0) CK6 fK6 dK6 := own_mk x6 (PySem.W.mg_of X G aK6) (by decide +kernel) FK6 (FK6.binds fun _ _ _ _ _ _ us hl => match us, hl with | [_, _], _ => rfl)
  have x7 := K18.own_ok (cn := "InvalidSource") .val rfl rfl rfl hn ht oK7 xK7 nK7
  have w7 : OwE.Own K mg .val "InvalidSource" ["value"] (inClass (top 11) 0) CK7 fK7 dK7 := own_mk x7 (PySem.W.mg_of X G aK7) (by decide +kernel) FK7 (FK7.binds fun _ _ _ _ _ _ us hl => match us, hl with | [_, _], _ => rfl)
  have x8 := K18.own_ok (cn := "InvalidEntry") .val rfl rfl rfl hn ht oK8 xK8 nK8
  have w8 : OwE.Own K mg .val "InvalidEntry" ["value"] (inClass (top 12) 0) CK8 fK8 dK8 := own_mk x8 (PySem.W.mg_of X G aK8) (by decide +kernel) FK8 (FK8.binds fun _ _ _ _ _ _ us hl => match us, hl with | [_, _], _ => rfl)
  have x9 := K18.own_ok (cn := "InvalidCount") .val rfl rfl rfl hn ht oK9 xK9 nK9
  have w9 : OwE.Own K mg .val "InvalidCount" ["value"] (inClass (top 13) 0) CK9 fK9 dK9 := own_mk x9 (PySem.W.mg_of X G aK9) (by decide +kernel) FK9 (FK9.binds fun _ _ _ _ _ _ us hl => match us, hl with | [_, _], _ => rfl)
  have x10 := K18.own_ok (cn := "InvalidCommand") .val rfl rfl rfl hn ht oK10 xK10 nK10
  have w10 : OwE.Own K mg .val "InvalidCommand" ["value"] (inClass (top 14) 0) CK10 fK10 dK10 := own_mk x10 (PySem.W.mg_of X G aK10) (by decide +kernel) FK10 (FK10.binds fun _ _ _ _ _ _ us hl => match us, hl with | [_, _], _ => rfl)
  have x11 := K18.own_ok (cn := "InvalidLine") .val rfl rfl rfl hn ht oK11 xK11 nK11
  have w11 : OwE.Own K mg .val "InvalidLine" ["value"] (inClass (top 15) 0) CK11 fK11 dK11 := own_mk x11 (PySem.W.mg_of X G aK11) (by decide +kernel) FK11 (FK11.binds fun _ _ _ _ _ _ us hl => match us, hl with | [_, _], _ => rfl)
  have x12 := K18.own_ok (cn := "InvalidEvent") .val rfl rfl rfl hn ht oK12 xK12 nK12
  have w12 : OwE.Own K mg .val "InvalidEvent" ["value"] (inClass (top 16) 0) CK12 fK12 dK12 := own_mk x12 (PySem.W.mg_of X G aK12) (by decide +kernel) FK12 (FK12.binds fun _ _ _ _ _ _ us hl => match us, hl with | [_, _], _ => rfl)
  have x13 := K18.own_ok (cn := "WrongValues") .val rfl rfl rfl hn ht oK13 xK13 nK13
  have w13 : OwE.Own K mg .val "WrongValues" ["wrong"] (inClass (top 17) 0) CK13 fK13 dK13 := own_mk x13 (PySem.W.mg_of X G aK13) (by decide +kernel) FK13 (FK13.binds fun _ _ _ _ _ _ us hl => match us, hl with | [_, _], _ => rfl)
  have x14 := K18.own_ok (cn := "WrongSort") .val rfl rfl rfl hn ht oK14 xK14 nK14
  have w14 : OwE.Own K mg .val "WrongSort" ["place"] (inClass (top 18) 0) CK14 fK14 dK14 := own_mk x14 (PySem.W.mg_of X G aK14) (by decide +kernel) FK14 (FK14.binds fun _ _ _ _ _ _ us hl => match us, hl with | [_, _], _ => rfl)
  have x15 := K18.own_ok (cn := "UnknownSource") .look rfl rfl rfl hn ht oK15 xK15 nK15
  have w15 : OwE.Own K mg .look "UnknownSource" ["source"] (inClass (top 20) 0) CK15 fK15 dK15 := own_mk x15 (PySem.W.mg_of X G aK15) (by decide +kernel) FK15 (FK15.binds fun _ _ _ _ _ _ us hl => match us, hl with | [_, _], _ => rfl)
  have x16 := K18.own_ok (cn := "UnknownColumn") .look rfl rfl rfl hn ht oK16 xK16 nK16
  have w16 : OwE.Own K mg .look "UnknownColumn" ["column"] (inClass (top 21) 0) CK16 fK16 dK16 := own_mk x16 (PySem.W.mg_of X G aK16) (by decide +kernel) FK16 (FK16.binds fun _ _ _ _ _ _ us hl => match us, hl with | [_, _], _ => rfl)
  have x17 := K18.own_ok (cn := "UnknownKind") .look rfl rfl rfl hn ht oK17 xK17 nK17
  have w17 : OwE.Own K mg .look "UnknownKind" ["kind"] (inClass (top 22) 0) CK17 fK17 dK17 := own_mk x17 (PySem.W.mg_of X G aK17) (by decide +kernel) FK17 (FK17.binds fun _ _ _ _ _ _ us hl => match us, hl with | [_, _], _ => rfl)
  have x18 := K18.own_ok (cn := "UnknownEntry") .look rfl rfl rfl hn ht oK18 xK18 nK18
  have w18 : OwE.Own K mg .look "UnknownEntry" ["name"] (inClass (top 23) 0) CK18 fK18 dK18 := own_mk x18 (PySem.W.mg_of X G aK18) (by decide +kernel) FK18 (FK18.binds fun _ _ _ _ _ _ us hl => match us, hl with | [_, _], _ => rfl)
  have x19 := K18.own_ok (cn := "NoEntry") .look rfl rfl rfl hn ht oK19 xK19 nK19
  have w19 : OwE.Own K mg .look "NoEntry" ["key"] (inClass (top 24) 0) CK19 fK19 dK19 := own_mk x19 (PySem.W.mg_of X G aK19) (by decide +kernel) FK19 (FK19.binds fun _ _ _ _ _ _ us hl => match us, hl with | [_, _], _ => rfl)
  have x20 := K18.own_ok (cn := "NoRow") .look rfl rfl rfl hn ht oK20 xK20 nK20
  have w20 : OwE.Own K mg .look "NoRow" ["key"] (inClass (top 25) 0) CK20 fK20 dK20 := own_mk x20 (PySem.W.mg_of X G aK20) (by decide +kernel) FK20 (FK20.binds fun _ _ _ _ _ _ us hl => match us, hl with | [_, _], _ => rfl)
  have x21 := K18.own_ok (cn := "NoMemo") .look rfl rfl rfl hn ht oK21 xK21 nK21
  have w21 : OwE.Own K mg .look "NoMemo" ["view"] (inClass (top 26) 0) CK21 fK21 dK21 := own_mk x21 (PySem.W.mg_of X G aK21) (by decide +kernel) FK21 (FK21.binds fun _ _ _ _ _ _ us hl => match us, hl with | [_, _], _ => rfl)
  have x22 := K18.own_ok (cn := "UnknownUser") .look rfl rfl rfl hn ht oK22 xK22 nK22
  have w22 : OwE.Own K mg .look "UnknownUser" ["name"] (inClass (top 27) 0) CK22 fK22 dK22 := own_mk x22 (PySem.W.mg_of X G aK22) (by decide +kernel) FK22 (FK22.binds fun _ _ _ _ _ _ us hl => match us, hl with | [_, _], _ => rfl)
  have x23 := K18.own_ok (cn := "UnknownOffer") .look rfl rfl rfl hn ht oK23 xK23 nK23
  have w23 : OwE.Own K mg .look "UnknownOffer" ["number"] (inClass (top 28) 0) CK23 fK23 dK23 := own_mk x23 (PySem.W.mg_of X G aK23) (by decide +kernel) FK23 (FK23.binds fun _ _ _ _ _ _ us hl => match us, hl with | [_, _], _ => rfl)
  have x24 := K18.own_ok (cn := "NameTaken") .run rfl rfl rfl hn ht oK24 xK24 nK24
  have w24 : OwE.Own K mg .run "NameTaken" ["name"] (inClass (top 30) 0) CK24 fK24 dK24 := own_mk x24 (PySem.W.mg_of X G aK24) (by decide +kernel) FK24 (FK24.binds fun _ _ _ _ _ _ us hl => match us, hl with | [_, _], _ => rfl)
  have x25 := K18.own_ok (cn := "Taken") .run rfl rfl rfl hn ht oK25 xK25 nK25
  have w25 : OwE.Own K mg .run "Taken" ["key"] (inClass (top 31) 0) CK25 fK25 dK25 := own_mk x25 (PySem.W.mg_of X G aK25) (by decide +kernel) FK25 (FK25.binds fun _ _ _ _ _ _ us hl => match us, hl with | [_, _], _ => rfl)
  have x26 := K18.own_ok (cn := "Waiting") .run rfl rfl rfl hn ht oK26 xK26 nK26
  have w26 : OwE.Own K mg .run "Waiting" ["key"] (inClass (top 32) 0) CK26 fK26 dK26 := own_mk x26 (PySem.W.mg_of X G aK26) (by decide +kernel) FK26 (FK26.binds fun _ _ _ _ _ _ us hl => match us, hl with | [_, _], _ => rfl)
  have x27 := K18.own_ok (cn := "Missing") .run rfl rfl rfl hn ht oK27 xK27 nK27
  have w27 : OwE.Own K mg .run "Missing" ["reference", "key"] (inClass (top 33) 0) CK27 fK27 dK27 := own_mk x27 (PySem.W.mg_of X G aK27) (by decide +kernel) FK27 (FK27.binds fun _ _ _ _ _ _ us hl => match us, hl with | [_, _, _], _ => rfl)
  have x28 := K18.own_ok (cn := "Broken") .run rfl rfl rfl hn ht oK28 xK28 nK28
  have w28 : OwE.Own K mg .run "Broken" ["check", "key"] (inClass (top 34) 0) CK28 fK28 dK28 := own_mk x28 (PySem.W.mg_of X G aK28) (by decide +kernel) FK28 (FK28.binds fun _ _ _ _ _ _ us hl => match us, hl with | [_, _, _], _ => rfl)
  have x29 := K18.own_ok (cn := "Restricted") .run rfl rfl rfl hn ht oK29 xK29 nK29
  have w29 : OwE.Own K mg .run "Restricted" ["reference", "key"] (inClass (top 35) 0) CK29 fK29 dK29 := own_mk x29 (PySem.W.mg_of X G aK29) (by decide +kernel) FK29 (FK29.binds fun _ _ _ _ _ _ us hl => match us, hl with | [_, _, _], _ => rfl)
  have x30 := K18.own_ok (cn := "InUse") .run rfl rfl rfl hn ht oK30 xK30 nK30
  have w30 : OwE.Own K mg .run "InUse" ["kind", "name"] (inClass (top 36) 0) CK30 fK30 dK30 := own_mk x30 (PySem.W.mg_of X G aK30) (by decide +kernel) FK30 (FK30.binds fun _ _ _ _ _ _ us hl => match us, hl with | [_, _, _], _ => rfl)
  have x31 := K18.own_ok (cn := "WouldSuspend") .run rfl rfl rfl hn ht oK31 xK31 nK31
  have w31 : OwE.Own K mg .run "WouldSuspend" ["source", "key"] (inClass (top 37) 0) CK31 fK31 dK31 := own_mk x31 (PySem.W.mg_of X G aK31) (by decide +kernel) FK31 (FK31.binds fun _ _ _ _ _ _ us hl => match us, hl with | [_, _, _], _ => rfl)
  have x32 := K18.own_ok (cn := "ReplayDiffers") .run rfl rfl rfl hn ht oK32 xK32 nK32
  have w32 : OwE.Own K mg .run "ReplayDiffers" ["position", "was", "now"] (inClass (top 38) 0) CK32 fK32 dK32 := own_mk x32 (PySem.W.mg_of X G aK32) (by decide +kernel) FK32 (FK32.binds fun _ _ _ _ _ _ us hl => match us, hl with | [_, _, _, _], _ => rfl)
  have x33 := K18.own_ok (cn := "InTransaction") .run rfl rfl rfl hn ht oK33 xK33 nK33
  have w33 : OwE.Own K mg .run "InTransaction" ["session"] (inClass (top 39) 0) CK33 fK33 dK33 := own_mk x33 (PySem.W.mg_of X G aK33) (by decide +kernel) FK33 (FK33.binds fun _ _ _ _ _ _ us hl => match us, hl with | [_, _], _ => rfl)
  have x34 := K18.own_ok (cn := "NoTransaction") .run rfl rfl rfl hn ht oK34 xK34 nK34
  have w34 : OwE.Own K mg .run "NoTransaction" ["session"] (inClass (top 40) 0) CK34 fK34 dK34 := own_mk x34 (PySem.W.mg_of X G aK34) (by decide +kernel) FK34 (FK34.binds fun _ _ _ _ _ _ us hl => match us, hl with | [_, _], _ => rfl)
  have x35 := K18.own_ok (cn := "SessionEnded") .run rfl rfl rfl hn ht oK35 xK35 nK35
  have w35 : OwE.Own K mg .run "SessionEnded" ["session"] (inClass (top 41) 0) CK35 fK35 dK35 := own_mk x35 (PySem.W.mg_of X G aK35) (by decide +kernel) FK35 (FK35.binds fun _ _ _ _ _ _ us hl => match us, hl with | [_, _], _ => rfl)
  have x36 := K18.own_ok (cn := "OwnOffer") .run rfl rfl rfl hn ht oK36 xK36 nK36
  have w36 : OwE.Own K mg .run "OwnOffer" ["number"] (inClass (top 42) 0) CK36 fK36 dK36 := own_mk x36 (PySem.W.mg_of X G aK36) (by decide +kernel) FK36 (FK36.binds fun _ _ _ _ _ _ us hl => match us, hl with | [_, _], _ => rfl)
  have x37 := K18.own_ok (cn := "NotAllowed") .run rfl rfl rfl hn ht oK37 xK37 nK37
  have w37 : OwE.Own K mg .run "NotAllowed" ["mark"] (inClass (top 43) 0) CK37 fK37 dK37 := own_mk x37 (PySem.W.mg_of X G aK37) (by decide +kernel) FK37 (FK37.binds fun _ _ _ _ _ _ us hl => match us, hl with | [_, _], _ => rfl)
  have x38 := K18.own_ok (cn := "OutOfSequence") .run rfl rfl rfl hn ht oK38 xK38 nK38
  have w38 : OwE.Own K mg .run "OutOfSequence" ["number"] (inClass (top 44) 0) CK38 fK38 dK38 := own_mk x38 (PySem.W.mg_of X G aK38) (by decide +kernel) FK38 (FK38.binds fun _ _ _ _ _ _ us hl => match us, hl with | [_, _], _ => rfl)
  have x39 := K18.own_ok (cn := "Behind") .run rfl rfl rfl hn ht oK39 xK39 nK39
  have w39 : OwE.Own K mg .run "Behind" ["cut"] (inClass (top 45) 0) CK39 fK39 dK39 := own_mk x39 (PySem.W.mg_of X G aK39) (by decide +kernel) FK39 (FK39.binds fun _ _ _ _ _ _ us hl => match us, hl with | [_, _], _ => rfl)
  have x40 := K18.own_ok (cn := "TooMany") .arith rfl rfl rfl hn ht oK40 xK40 nK40
  have w40 : OwE.Own K mg .arith "TooMany" ["kind", "limit"] (inClass (top 47) 0) CK40 fK40 dK40 := own_mk x40 (PySem.W.mg_of X G aK40) (by decide +kernel) FK40 (FK40.binds fun _ _ _ _ _ _ us hl => match us, hl with | [_, _, _], _ => rfl)
  have x41 := K18.own_ok (cn := "TooDear") .arith rfl rfl rfl hn ht oK41 xK41 nK41
  have w41 : OwE.Own K mg .arith "TooDear" ["limit"] (inClass (top 48) 0) CK41 fK41 dK41 := own_mk x41 (PySem.W.mg_of X G aK41) (by decide +kernel) FK41 (FK41.binds fun _ _ _ _ _ _ us hl => match us, hl with | [_, _], _ => rfl)
  obtain ⟨Cf, eC⟩ : ∃ c, c = (fun k => ([CK0, CK1, CK2, CK3, CK4, CK5, CK6, CK7, CK8, CK9, CK10, CK11, CK12, CK13, CK14, CK15, CK16, CK17, CK18, CK19, CK20, CK21, CK22, CK23, CK24, CK25, CK26, CK27, CK28, CK29, CK30, CK31, CK32, CK33, CK34, CK35, CK36, CK37, CK38, CK39, CK40, CK41] : List Addr).getD k 0) := ⟨_, rfl⟩
  obtain ⟨Df, eD⟩ : ∃ c, c = (fun k => ([CK0, CK1, CK2, CK3, CK4, CK5, CK6, CK7, CK8, CK9, CK10, CK11, CK12, CK13, CK14, CK15, CK16, CK17, CK18, CK19, CK20, CK21, CK22, CK23, CK24, CK25, CK26, CK27, CK28, CK29, CK30, CK31, CK32, CK33, CK34, CK35, CK36, CK37, CK38, CK39, CK40, CK41, CK42, CK43, CK44, CK45] : List Addr).getD k 0) := ⟨_, rfl⟩
  have T42 : C42 K mg Cf (fun k => ([fK0, fK1, fK2, fK3, fK4, fK5, fK6, fK7, fK8, fK9, fK10, fK11, fK12, fK13, fK14, fK15, fK16, fK17, fK18, fK19, fK20, fK21, fK22, fK23, fK24, fK25, fK26, fK27, fK28, fK29, fK30, fK31, fK32, fK33, fK34, fK35, fK36, fK37, fK38, fK39, fK40, fK41] : List Addr).getD k 0) (fun k => ([dK0, dK1, dK2, dK3, dK4, dK5, dK6, dK7, dK8, dK9, dK10, dK11, dK12, dK13, dK14, dK15, dK16, dK17, dK18, dK19, dK20, dK21, dK22, dK23, dK24, dK25, dK26, dK27, dK28, dK29, dK30, dK31, dK32, dK33, dK34, dK35, dK36, dK37, dK38, dK39, dK40, dK41] : List FuncData).getD k dK0) := by
    subst eC
    exact ⟨fun k hk => match k, hk with | 0, _ => w0 | 1, _ => w1 | 2, _ => w2 | 3, _ => w3 | 4, _ => w4 | 5, _ => w5 | 6, _ => w6 | 7, _ => w7 | 8, _ => w8 | 9, _ => w9 | 10, _ => w10 | 11, _ => w11 | 12, _ => w12 | 13, _ => w13 | 14, _ => w14 | 15, _ => w15 | 16, _ => w16 | 17, _ => w17 | 18, _ => w18 | 19, _ => w19 | 20, _ => w20 | 21, _ => w21 | 22, _ => w22 | 23, _ => w23 | 24, _ => w24 | 25, _ => w25 | 26, _ => w26 | 27, _ => w27 | 28, _ => w28 | 29, _ => w29 | 30, _ => w30 | 31, _ => w31 | 32, _ => w32 | 33, _ => w33 | 34, _ => w34 | 35, _ => w35 | 36, _ => w36 | 37, _ => w37 | 38, _ => w38 | 39, _ => w39 | 40, _ => w40 | 41, _ => w41 | n + 42, hk => absurd hk (by omega)⟩
  have tes : ∀ k, k < 42 → TeC K (Cf k) (cl4 k).n := by
    subst eC
    exact fun k hk => match k, hk with | 0, _ => x0.te | 1, _ => x1.te | 2, _ => x2.te | 3, _ => x3.te | 4, _ => x4.te | 5, _ => x5.te | 6, _ => x6.te | 7, _ => x7.te | 8, _ => x8.te | 9, _ => x9.te | 10, _ => x10.te | 11, _ => x11.te | 12, _ => x12.te | 13, _ => x13.te | 14, _ => x14.te | 15, _ => x15.te | 16, _ => x16.te | 17, _ => x17.te | 18, _ => x18.te | 19, _ => x19.te | 20, _ => x20.te | 21, _ => x21.te | 22, _ => x22.te | 23, _ => x23.te | 24, _ => x24.te | 25, _ => x25.te | 26, _ => x26.te | 27, _ => x27.te | 28, _ => x28.te | 29, _ => x29.te | 30, _ => x30.te | 31, _ => x31.te | 32, _ => x32.te | 33, _ => x33.te | 34, _ => x34.te | 35, _ => x35.te | 36, _ => x36.te | 37, _ => x37.te | 38, _ => x38.te | 39, _ => x39.te | 40, _ => x40.te | 41, _ => x41.te | n + 42, hk => absurd hk (by omega)
  have nos : ∀ k, k < 42 → ∀ n ∈ (cl4 k).ns, PySem.W.findIn K (.ref (Cf k)) n = some none := by
    subst eC
    exact fun k hk => match k, hk with | 0, _ => fun n h => x0.no n (List.mem_cons_of_mem _ h) | 1, _ => fun n h => x1.no n (List.mem_cons_of_mem _ h) | 2, _ => fun n h => x2.no n (List.mem_cons_of_mem _ h) | 3, _ => fun n h => x3.no n (List.mem_cons_of_mem _ h) | 4, _ => fun n h => x4.no n (List.mem_cons_of_mem _ h) | 5, _ => fun n h => x5.no n (List.mem_cons_of_mem _ h) | 6, _ => fun n h => x6.no n (List.mem_cons_of_mem _ h) | 7, _ => fun n h => x7.no n (List.mem_cons_of_mem _ h) | 8, _ => fun n h => x8.no n (List.mem_cons_of_mem _ h) | 9, _ => fun n h => x9.no n (List.mem_cons_of_mem _ h) | 10, _ => fun n h => x10.no n (List.mem_cons_of_mem _ h) | 11, _ => fun n h => x11.no n (List.mem_cons_of_mem _ h) | 12, _ => fun n h => x12.no n (List.mem_cons_of_mem _ h) | 13, _ => fun n h => x13.no n (List.mem_cons_of_mem _ h) | 14, _ => fun n h => x14.no n (List.mem_cons_of_mem _ h) | 15, _ => fun n h => x15.no n (List.mem_cons_of_mem _ h) | 16, _ => fun n h => x16.no n (List.mem_cons_of_mem _ h) | 17, _ => fun n h => x17.no n (List.mem_cons_of_mem _ h) | 18, _ => fun n h => x18.no n (List.mem_cons_of_mem _ h) | 19, _ => fun n h => x19.no n (List.mem_cons_of_mem _ h) | 20, _ => fun n h => x20.no n (List.mem_cons_of_mem _ h) | 21, _ => fun n h => x21.no n (List.mem_cons_of_mem _ h) | 22, _ => fun n h => x22.no n (List.mem_cons_of_mem _ h) | 23, _ => fun n h => x23.no n (List.mem_cons_of_mem _ h) | 24, _ => fun n h => x24.no n (List.mem_cons_of_mem _ h) | 25, _ => fun n h => x25.no n (List.mem_cons_of_mem _ h) | 26, _ => fun n h => x26.no n (List.mem_cons_of_mem _ h) | 27, _ => fun n h => x27.no n (List.mem_cons_of_mem _ h) | 28, _ => fun n h => x28.no n (List.mem_cons_of_mem _ h) | 29, _ => fun n h => x29.no n (List.mem_cons_of_mem _ h) | 30, _ => fun n h => x30.no n (List.mem_cons_of_mem _ h) | 31, _ => fun n h => x31.no n (List.mem_cons_of_mem _ h) | 32, _ => fun n h => x32.no n (List.mem_cons_of_mem _ h) | 33, _ => fun n h => x33.no n (List.mem_cons_of_mem _ h) | 34, _ => fun n h => x34.no n (List.mem_cons_of_mem _ h) | 35, _ => fun n h => x35.no n (List.mem_cons_of_mem _ h) | 36, _ => fun n h => x36.no n (List.mem_cons_of_mem _ h) | 37, _ => fun n h => x37.no n (List.mem_cons_of_mem _ h) | 38, _ => fun n h => x38.no n (List.mem_cons_of_mem _ h) | 39, _ => fun n h => x39.no n (List.mem_cons_of_mem _ h) | 40, _ => fun n h => x40.no n (List.mem_cons_of_mem _ h) | 41, _ => fun n h => x41.no n (List.mem_cons_of_mem _ h) | n + 42, hk => absurd hk (by omega)
  have ones : ∀ k, k < 42 → PySem.W.kitOne K (.ref (Cf k)) (.type (cl4 k).fa.b) = some true := by
    subst eC
    exact fun k hk => match k, hk with | 0, _ => x0.one | 1, _ => x1.one | 2, _ => x2.one | 3, _ => x3.one | 4, _ => x4.one | 5, _ => x5.one | 6, _ => x6.one | 7, _ => x7.one | 8, _ => x8.one | 9, _ => x9.one | 10, _ => x10.one | 11, _ => x11.one | 12, _ => x12.one | 13, _ => x13.one | 14, _ => x14.one | 15, _ => x15.one | 16, _ => x16.one | 17, _ => x17.one | 18, _ => x18.one | 19, _ => x19.one | 20, _ => x20.one | 21, _ => x21.one | 22, _ => x22.one | 23, _ => x23.one | 24, _ => x24.one | 25, _ => x25.one | 26, _ => x26.one | 27, _ => x27.one | 28, _ => x28.one | 29, _ => x29.one | 30, _ => x30.one | 31, _ => x31.one | 32, _ => x32.one | 33, _ => x33.one | 34, _ => x34.one | 35, _ => x35.one | 36, _ => x36.one | 37, _ => x37.one | 38, _ => x38.one | 39, _ => x39.one | 40, _ => x40.one | 41, _ => x41.one | n + 42, hk => absurd hk (by omega)
  have anys : ∀ k, k < 42 → PySem.W.kitAny K (.ref (Cf k)) ((noT (cl4 k).fa).map Value.type) = some false := by
    subst eC
    exact fun k hk => match k, hk with | 0, _ => x0.any | 1, _ => x1.any | 2, _ => x2.any | 3, _ => x3.any | 4, _ => x4.any | 5, _ => x5.any | 6, _ => x6.any | 7, _ => x7.any | 8, _ => x8.any | 9, _ => x9.any | 10, _ => x10.any | 11, _ => x11.any | 12, _ => x12.any | 13, _ => x13.any | 14, _ => x14.any | 15, _ => x15.any | 16, _ => x16.any | 17, _ => x17.any | 18, _ => x18.any | 19, _ => x19.any | 20, _ => x20.any | 21, _ => x21.any | 22, _ => x22.any | 23, _ => x23.any | 24, _ => x24.any | 25, _ => x25.any | 26, _ => x26.any | 27, _ => x27.any | 28, _ => x28.any | 29, _ => x29.any | 30, _ => x30.any | 31, _ => x31.any | 32, _ => x32.any | 33, _ => x33.any | 34, _ => x34.any | 35, _ => x35.any | 36, _ => x36.any | 37, _ => x37.any | 38, _ => x38.any | 39, _ => x39.any | 40, _ => x40.any | 41, _ => x41.any | n + 42, hk => absurd hk (by omega)
  have rows : ∀ k, k < 42 → K18T0.kitRow K (Cf k) k 0 [CK0, CK1, CK2, CK3, CK4, CK5, CK6, CK7, CK8, CK9, CK10, CK11, CK12, CK13, CK14, CK15, CK16, CK17, CK18, CK19, CK20, CK21, CK22, CK23, CK24, CK25, CK26, CK27, CK28, CK29, CK30, CK31, CK32, CK33, CK34, CK35, CK36, CK37, CK38, CK39, CK40, CK41, CK42, CK43, CK44, CK45] = true := by
    subst eC
    exact fun k hk => match k, hk with | 0, _ => kK0 | 1, _ => kK1 | 2, _ => kK2 | 3, _ => kK3 | 4, _ => kK4 | 5, _ => kK5 | 6, _ => kK6 | 7, _ => kK7 | 8, _ => kK8 | 9, _ => kK9 | 10, _ => kK10 | 11, _ => kK11 | 12, _ => kK12 | 13, _ => kK13 | 14, _ => kK14 | 15, _ => kK15 | 16, _ => kK16 | 17, _ => kK17 | 18, _ => kK18 | 19, _ => kK19 | 20, _ => kK20 | 21, _ => kK21 | 22, _ => kK22 | 23, _ => kK23 | 24, _ => kK24 | 25, _ => kK25 | 26, _ => kK26 | 27, _ => kK27 | 28, _ => kK28 | 29, _ => kK29 | 30, _ => kK30 | 31, _ => kK31 | 32, _ => kK32 | 33, _ => kK33 | 34, _ => kK34 | 35, _ => kK35 | 36, _ => kK36 | 37, _ => kK37 | 38, _ => kK38 | 39, _ => kK39 | 40, _ => kK40 | 41, _ => kK41 | n + 42, hk => absurd hk (by omega)
  have mgs : ∀ j x, words46[j]? = some x → mg x = some (.ref (Df j)) := by
    subst eD
    exact fun j x h => match j, h with | 0, h => (Option.some.inj h) ▸ (PySem.W.mg_of X G aK0) | 1, h => (Option.some.inj h) ▸ (PySem.W.mg_of X G aK1) | 2, h => (Option.some.inj h) ▸ (PySem.W.mg_of X G aK2) | 3, h => (Option.some.inj h) ▸ (PySem.W.mg_of X G aK3) | 4, h => (Option.some.inj h) ▸ (PySem.W.mg_of X G aK4) | 5, h => (Option.some.inj h) ▸ (PySem.W.mg_of X G aK5) | 6, h => (Option.some.inj h) ▸ (PySem.W.mg_of X G aK6) | 7, h => (Option.some.inj h) ▸ (PySem.W.mg_of X G aK7) | 8, h => (Option.some.inj h) ▸ (PySem.W.mg_of X G aK8) | 9, h => (Option.some.inj h) ▸ (PySem.W.mg_of X G aK9) | 10, h => (Option.some.inj h) ▸ (PySem.W.mg_of X G aK10) | 11, h => (Option.some.inj h) ▸ (PySem.W.mg_of X G aK11) | 12, h => (Option.some.inj h) ▸ (PySem.W.mg_of X G aK12) | 13, h => (Option.some.inj h) ▸ (PySem.W.mg_of X G aK13) | 14, h => (Option.some.inj h) ▸ (PySem.W.mg_of X G aK14) | 15, h => (Option.some.inj h) ▸ (PySem.W.mg_of X G aK15) | 16, h => (Option.some.inj h) ▸ (PySem.W.mg_of X G aK16) | 17, h => (Option.some.inj h) ▸ (PySem.W.mg_of X G aK17) | 18, h => (Option.some.inj h) ▸ (PySem.W.mg_of X G aK18) | 19, h => (Option.some.inj h) ▸ (PySem.W.mg_of X G aK19) | 20, h => (Option.some.inj h) ▸ (PySem.W.mg_of X G aK20) | 21, h => (Option.some.inj h) ▸ (PySem.W.mg_of X G aK21) | 22, h => (Option.some.inj h) ▸ (PySem.W.mg_of X G aK22) | 23, h => (Option.some.inj h) ▸ (PySem.W.mg_of X G aK23) | 24, h => (Option.some.inj h) ▸ (PySem.W.mg_of X G aK24) | 25, h => (Option.some.inj h) ▸ (PySem.W.mg_of X G aK25) | 26, h => (Option.some.inj h) ▸ (PySem.W.mg_of X G aK26) | 27, h => (Option.some.inj h) ▸ (PySem.W.mg_of X G aK27) | 28, h => (Option.some.inj h) ▸ (PySem.W.mg_of X G aK28) | 29, h => (Option.some.inj h) ▸ (PySem.W.mg_of X G aK29) | 30, h => (Option.some.inj h) ▸ (PySem.W.mg_of X G aK30) | 31, h => (Option.some.inj h) ▸ (PySem.W.mg_of X G aK31) | 32, h => (Option.some.inj h) ▸ (PySem.W.mg_of X G aK32) | 33, h => (Option.some.inj h) ▸ (PySem.W.mg_of X G aK33) | 34, h => (Option.some.inj h) ▸ (PySem.W.mg_of X G aK34) | 35, h => (Option.some.inj h) ▸ (PySem.W.mg_of X G aK35) | 36, h => (Option.some.inj h) ▸ (PySem.W.mg_of X G aK36) | 37, h => (Option.some.inj h) ▸ (PySem.W.mg_of X G aK37) | 38, h => (Option.some.inj h) ▸ (PySem.W.mg_of X G aK38) | 39, h => (Option.some.inj h) ▸ (PySem.W.mg_of X G aK39) | 40, h => (Option.some.inj h) ▸ (PySem.W.mg_of X G aK40) | 41, h => (Option.some.inj h) ▸ (PySem.W.mg_of X G aK41) | 42, h => (Option.some.inj h) ▸ (PySem.W.mg_of X G aK42) | 43, h => (Option.some.inj h) ▸ (PySem.W.mg_of X G aK43) | 44, h => (Option.some.inj h) ▸ (PySem.W.mg_of X G aK44) | 45, h => (Option.some.inj h) ▸ (PySem.W.mg_of X G aK45) | n + 46, h => nomatch h
  have kits : ∀ k j, k < 42 → j < 46 → PySem.W.kitOne K (.ref (Cf k)) (.ref (Df j)) = some (isK k j) := fun k j hk hj => by
    subst eD
    have l : j < [CK0, CK1, CK2, CK3, CK4, CK5, CK6, CK7, CK8, CK9, CK10, CK11, CK12, CK13, CK14, CK15, CK16, CK17, CK18, CK19, CK20, CK21, CK22, CK23, CK24, CK25, CK26, CK27, CK28, CK29, CK30, CK31, CK32, CK33, CK34, CK35, CK36, CK37, CK38, CK39, CK40, CK41, CK42, CK43, CK44, CK45].length := hj
    have := K18T0.row_ok _ 0 (rows k hk) j _ (List.getElem?_eq_getElem l)
    rw [Nat.zero_add, exp_is k hk j hj] at this
    have e : ([CK0, CK1, CK2, CK3, CK4, CK5, CK6, CK7, CK8, CK9, CK10, CK11, CK12, CK13, CK14, CK15, CK16, CK17, CK18, CK19, CK20, CK21, CK22, CK23, CK24, CK25, CK26, CK27, CK28, CK29, CK30, CK31, CK32, CK33, CK34, CK35, CK36, CK37, CK38, CK39, CK40, CK41, CK42, CK43, CK44, CK45] : List Addr)[j] = ([CK0, CK1, CK2, CK3, CK4, CK5, CK6, CK7, CK8, CK9, CK10, CK11, CK12, CK13, CK14, CK15, CK16, CK17, CK18, CK19, CK20, CK21, CK22, CK23, CK24, CK25, CK26, CK27, CK28, CK29, CK30, CK31, CK32, CK33, CK34, CK35, CK36, CK37, CK38, CK39, CK40, CK41, CK42, CK43, CK44, CK45] : List Addr).getD j 0 := List.getElem_eq_getD 0
    rw [e] at this
    exact this
  have K6 : K46 K mg Cf Df := ⟨tes, mgs, kits, (PySem.W.mg_none_of X G zisinstance), nos⟩
  have KB : KBs K mg Cf := by
    refine ⟨?_, ones, fun k h => ?_, fun k h1 h2 => ?_, fun k h1 h2 => ?_, fun k h1 h2 => ?_⟩
    · simp only [List.forall_mem_cons]
      exact ⟨(PySem.W.mg_none_of X G zValueError), (PySem.W.mg_none_of X G zLookupError), (PySem.W.mg_none_of X G zRuntimeError), (PySem.W.mg_none_of X G zArithmeticError), (PySem.W.mg_none_of X G zKeyError), (PySem.W.mg_none_of X G zIndexError), (PySem.W.mg_none_of X G zZeroDivisionError), (PySem.W.mg_none_of X G zOverflowError), fun _ z => nomatch z⟩
    · have e : noT (cl4 k).fa = ["LookupError", "RuntimeError", "ArithmeticError"] := (by decide +kernel : ∀ k, k < 15 → noT (cl4 k).fa = ["LookupError", "RuntimeError", "ArithmeticError"]) k h
      have := anys k (by omega)
      rw [e] at this
      exact this
    · have e : noT (cl4 k).fa = ["ValueError", "RuntimeError", "ArithmeticError", "KeyError", "IndexError"] := (by decide +kernel : ∀ k, k < 24 → 15 ≤ k → noT (cl4 k).fa = ["ValueError", "RuntimeError", "ArithmeticError", "KeyError", "IndexError"]) k h2 h1
      have := anys k (by omega)
      rw [e] at this
      exact this
    · have e : noT (cl4 k).fa = ["ValueError", "LookupError", "ArithmeticError"] := (by decide +kernel : ∀ k, k < 40 → 24 ≤ k → noT (cl4 k).fa = ["ValueError", "LookupError", "ArithmeticError"]) k h2 h1
      have := anys k (by omega)
      rw [e] at this
      exact this
    · have e : noT (cl4 k).fa = ["ValueError", "LookupError", "RuntimeError", "ZeroDivisionError", "OverflowError"] := (by decide +kernel : ∀ k, k < 42 → 40 ≤ k → noT (cl4 k).fa = ["ValueError", "LookupError", "RuntimeError", "ZeroDivisionError", "OverflowError"]) k h2 h1
      have := anys k h2
      rw [e] at this
      exact this
  have TE : TEnv K mg Cf f0 d0 := by
    refine ⟨tes, fun e => ?_, ?_, ?_, ?_, ?_, ?_, ?_, A0, (PySem.W.mg_none_of X G zrepr)⟩
    · subst eC
      cases e
      · exact (PySem.W.mg_of X G aK1)
      · exact (PySem.W.mg_of X G aK0)
      · exact (PySem.W.mg_of X G aK40)
    all_goals subst eC
    · exact emll
    · exact emnl
    · exact emnn
    · exact emml
    · exact emmn
    · exact emmm
  have IN : IK K mg CK0 fK0 dK0 := { o := ⟨⟨nm, q, N, bs, bm, sn, sub, ab, col, dd, k0, k1, k2, k3, k5, nlC, nbC⟩, x0.o.setA, x0.o.exc, x0.o.typ, x0.o.keep⟩, iC := x0.iC, tI := x0.tI, n1 := x0.no _ (List.mem_cons_of_mem _ List.mem_cons_self), n2 := x0.no _ List.mem_cons_self, m := (PySem.W.mg_of X G aK0), F := FK0, b := (FK0.binds fun _ _ _ _ _ _ us hl => match us, hl with | [_, _], _ => rfl) }
  have IL1 : IL K mg CK1 fK1 dK1 := { o := ⟨⟨nmb, q2, N2, bs2, bm2, sn2, sub2, ab2, col2, dd2, j0, j1, j2, j3, j5, llC, lbC⟩, x1.o.setA, x1.o.exc, x1.o.typ, x1.o.keep⟩, iC := x1.iC, tI := x1.tI, n1 := x1.no _ (List.mem_cons_of_mem _ List.mem_cons_self), n2 := x1.no _ List.mem_cons_self, m := (PySem.W.mg_of X G aK1), F := FK1, b := (FK1.binds fun _ _ _ _ _ _ us hl => match us, hl with | [_, _], _ => rfl) }
  have IMm : IM K mg CK40 fK40 dK40 := { o := ⟨x40.o.made, x40.o.over, x40.o.dct, x40.o.setA, x40.o.exc, x40.o.typ, x40.o.keep⟩, iC := x40.iC, tI := x40.tI, t1 := NoAttr.taker (x40.no "kind" (by simp)), t2 := NoAttr.taker (x40.no "limit" (by simp)), t3 := NoAttr.taker (x40.no _ List.mem_cons_self), m := (PySem.W.mg_of X G aK40), F := FK40, b := (FK40.binds fun _ _ _ _ _ _ us hl => match us, hl with | [_, _, _], _ => rfl) }
  have CL : Cls K C := ⟨cpg, chd, cpo, csa⟩
  have CR : ClX.CRead K C (.type "type") := ⟨crd, cga⟩
  have LC : LabC K mg C fL CK0 fK0 CK40 fK40 dL0 dK0 dK40 := { mkr := ⟨cmk, cin, cfn, ckp⟩, cl := CL, m := (PySem.W.mg_of X G cC), rd := ⟨_, tk, CR, ⟨cmo, ⟨_, rfl⟩⟩⟩, n1 := cn1, n2 := cn2, F := FL, N := IN, M := IMm }
  have kt : ∀ T ∈ ["NoneType", "bool", "int", "str", "list", "tuple", "dict"], PySem.W.kitOne K (.type T) (.ref C) = some false := by
    simp only [List.forall_mem_cons]
    exact ⟨kit_tyref cic cty uNoneType, kit_tyref cic cty ubool, kit_tyref cic cty uint, kit_tyref cic cty ustr, kit_tyref cic cty ulist, kit_tyref cic cty utuple, kit_tyref cic cty udict, fun _ z => nomatch z⟩
  have sb : ∀ T ∈ ["NoneType", "bool", "int", "str", "list", "tuple", "dict"], PySem.W.subIn K (.ref C) (.type T) = some false ∧ PySem.W.notFirst K C (.type T) = true := by
    simp only [List.forall_mem_cons]
    exact ⟨⟨sNoneType, nf_of uNoneType⟩, ⟨sbool, nf_of ubool⟩, ⟨sint, nf_of uint⟩, ⟨sstr, nf_of ustr⟩, ⟨slist, nf_of ulist⟩, ⟨stuple, nf_of utuple⟩, ⟨sdict, nf_of udict⟩, fun _ z => nomatch z⟩
  have LM : LabM K mg C gE gL gS gR gH pM gM dE dLn dS dR dH dG := { cl := CL, n1 := cn1, n2 := cn2, m := (PySem.W.mg_of X G cC), E := FgE, O := ⟨cgE, igE, cne, cob, sb⟩, L := FgL, fL := cgL, iL := igL, S := FgS, fS := cgS, iS := igS, R := FgR, fR := cgR, iR := igR, H := FgH, fH := cgH, iH := igH, M := FgM, pr := ⟨cpM, pg, ptk, pr⟩, bE := (FgE.binds fun _ _ _ _ _ _ us hl => match us, hl with | [_, _], _ => rfl), bL := (FgL.binds fun _ _ _ _ _ _ us hl => match us, hl with | [_], _ => rfl), bS := (FgS.binds fun _ _ _ _ _ _ us hl => match us, hl with | [_], _ => rfl), bR := (FgR.binds fun _ _ _ _ _ _ us hl => match us, hl with | [_], _ => rfl), bH := (FgH.binds fun _ _ _ _ _ _ us hl => match us, hl with | [_, _], _ => rfl), bM := (FgM.binds fun _ _ _ _ _ _ us hl => match us, hl with | [_], _ => rfl), kt := kt, kc := kit_self, ca := cha, cn := hn, ct := ht, cm := chm }
  have OB : OpO.OwnB K C gO .BitOr := by
    have e1 : PySem.dunder (Operator.BitOr).info.2 = "__or__" := by decide +kernel
    have e2 : PySem.dunderR (Operator.BitOr).info.2 = "__ror__" := by decide +kernel
    refine ⟨sfC, by rw [e1]; exact cgO, igO, by rw [e2]; exact rrO, ?_⟩
    rw [e1, e2]
    simp only [List.forall_mem_cons]
    exact ⟨⟨Option.isSome_iff_exists.mp hfoONoneType, Option.isSome_iff_exists.mp hroONoneType, uNoneType⟩, ⟨Option.isSome_iff_exists.mp hfoObool, Option.isSome_iff_exists.mp hroObool, ubool⟩, ⟨Option.isSome_iff_exists.mp hfoOint, Option.isSome_iff_exists.mp hroOint, uint⟩, ⟨Option.isSome_iff_exists.mp hfoOstr, Option.isSome_iff_exists.mp hroOstr, ustr⟩, ⟨Option.isSome_iff_exists.mp hfoOlist, Option.isSome_iff_exists.mp hroOlist, ulist⟩, ⟨Option.isSome_iff_exists.mp hfoOtuple, Option.isSome_iff_exists.mp hroOtuple, utuple⟩, ⟨Option.isSome_iff_exists.mp hfoOdict, Option.isSome_iff_exists.mp hroOdict, udict⟩, fun _ z => nomatch z⟩
  have OA : OpO.OwnB K C gA .BitAnd := by
    have e1 : PySem.dunder (Operator.BitAnd).info.2 = "__and__" := by decide +kernel
    have e2 : PySem.dunderR (Operator.BitAnd).info.2 = "__rand__" := by decide +kernel
    refine ⟨sfC, by rw [e1]; exact cgA, igA, by rw [e2]; exact rrA, ?_⟩
    rw [e1, e2]
    simp only [List.forall_mem_cons]
    exact ⟨⟨Option.isSome_iff_exists.mp hfoANoneType, Option.isSome_iff_exists.mp hroANoneType, uNoneType⟩, ⟨Option.isSome_iff_exists.mp hfoAbool, Option.isSome_iff_exists.mp hroAbool, ubool⟩, ⟨Option.isSome_iff_exists.mp hfoAint, Option.isSome_iff_exists.mp hroAint, uint⟩, ⟨Option.isSome_iff_exists.mp hfoAstr, Option.isSome_iff_exists.mp hroAstr, ustr⟩, ⟨Option.isSome_iff_exists.mp hfoAlist, Option.isSome_iff_exists.mp hroAlist, ulist⟩, ⟨Option.isSome_iff_exists.mp hfoAtuple, Option.isSome_iff_exists.mp hroAtuple, utuple⟩, ⟨Option.isSome_iff_exists.mp hfoAdict, Option.isSome_iff_exists.mp hroAdict, udict⟩, fun _ z => nomatch z⟩
  have bL : ∀ (s : Shared) (u : Value), BindsTo s d23 ⟨[u], []⟩ [("_law_script", u)] := by
    obtain ⟨oc, od, kV, doc, pm, an, cdv, ct, osl, rfl, lk, hcd⟩ := F23.ex
    exact fun s u => .of_eq rfl
  have bI : Binds K dI ["self", "other"] [] := (FgI.binds fun _ _ _ _ _ _ us hl => match us, hl with | [_, _], _ => rfl)
  have bO : Binds K dO ["self", "other"] [] := (FgO.binds fun _ _ _ _ _ _ us hl => match us, hl with | [_, _], _ => rfl)
  have bA : Binds K dA ["self", "other"] [] := (FgA.binds fun _ _ _ _ _ _ us hl => match us, hl with | [_, _], _ => rfl)
  have TO : TabsOk K [(cR, Pt)] h := ⟨fun p hp => by rw [List.mem_singleton.mp hp]; exact hPt, fun p hp => by rw [List.mem_singleton.mp hp]; exact nP, fun p hp => by rw [List.mem_singleton.mp hp]; exact PySem.W.codeHd_of_K X cH⟩
  refine ⟨d23, [(cR, Pt)], [(Pt, "_law_refused_right.<locals>.<lambda>")], TO, fun p hp => by rw [List.mem_singleton.mp hp]; exact List.mem_cons_self, bL, fun base XB GB TBs => ?_⟩
  have GC : FnOk P w K mg base CX0 2 f8 d8 ["_law_rng_here", "_law_options"] (spChoice K) := ok_choice F8 B A7
  have GCl : FnOk P w K mg base CX0 1 f16 d16 [] spCls := ok_cls F16
  have GMd : FnOk P w K mg base CX0 4 f13 d13 ["_law_k", "_law_one", "_law_two", "_law_three"] (spMk4 Cf 0 42) := ok_made F13 T42 A9 A10 A11 A12
  have GAa : FnOk P w K mg base CX0 1 f17 d17 ["_law_k", "_law_e"] (spAt Cf 0 24) := ok_atA F17 K6
  have GAb : FnOk P w K mg base CX0 1 f18 d18 ["_law_k", "_law_e"] (spAt Cf 24 42) := ok_atB F18 K6
  have GBr : FnOk P w K mg base CX0 1 f19 d19 ["_law_k", "_law_e"] (spBr Cf) := ok_br F19 K6 KB
  have GFa : FnOk P w K mg base CX0 1 f14 d14 ["_law_e"] (spFl Cf (List.range 24)) := ok_flA F14 K6
  have GFb : FnOk P w K mg base CX0 1 f15 d15 ["_law_e"] (spFl Cf ((List.range 22).map (24 + ·))) := ok_flB F15 K6
  have GT : FnOk P w K mg base CX0 1 f0 d0 ["error"] (spTe K) := ok_te F0
  have SK := K18T0.sys_ok sysm
  have SE : ErEnv P w K mg base Cf f8 f16 f13 f17 f18 f19 f14 f15 f0 d8 d16 d13 d17 d18 d19 d14 d15 d0 := { SK := SK, Z := Z, zT := (PySem.W.mg_none_of X G ztuple), AC := A8, GC := GC, ACl := A16, GCl := GCl, AM := A13, GM := GMd, AA := A17, GA := GAa, AB := A18, GB := GAb, AR := A19, GR := GBr, AFa := A14, GFa := GFa, AFb := A15, GFb := GFb, AT := A0, GT := GT, te := tes }
  have GIn := ok_init (P := P) (w := w) (base := base) LC Z (PySem.W.mg_none_of X G ztuple) (PySem.W.mg_none_of X G zset) (PySem.W.mg_none_of X G zsorted) (PySem.W.mg_of X G mM) (PySem.W.mg_of X G mL) A1
  have GBe : FnOk P w K mg base (L2.CX P w) 4 gI dI ["self", "other"] (spBelow K C CK1) := ok_below FgI A2 IL1 LM Z
  have GOr : FnR P w K mg base (L2.CX P w) 5 gO (fun vs H Q E => spTwo (· ++ ·) K C CK1 CK40 (vs ++ []) H Q E) := (ok_or FgO A2 IL1 LM Z LC GIn).raw bO .nil
  have GAn : FnR P w K mg base (L2.CX P w) 5 gA (fun vs H Q E => spTwo (fun xs ys => xs.filter fun x => decide (x ∈ ys)) K C CK1 CK40 (vs ++ []) H Q E) := (ok_and FgA A2 IL1 LM Z LC GIn).raw bA .nil
  have GIO : FnOk P w K mg base (L2.CX P w) 6 f5 d5 ["labels"] (spIO K C CK1) := ok_inorder F5 LM Z (PySem.W.mg_none_of X G ztuple) (PySem.W.mg_none_of X G zlist) (PySem.W.mg_none_of X G zsorted) A2 A3 A4 IL1
  have e0 : CK0 = Cf 0 := by rw [eC]; rfl
  have e1 : CK1 = Cf 1 := by rw [eC]; rfl
  have e40 : CK40 = Cf 40 := by rw [eC]; rfl
  rw [e0, e40] at LC GIn
  rw [e1] at GBe GIO
  rw [e1, e40] at GOr GAn
  have SR : RrEnv P w K mg base Cf C fL gE gL gS gR gH pM gM gI gO gA f5 f8 f0 f21 cR Pt dL0 dE dLn dS dR dH dG dI dK0 dK40 d5 d8 d0 d21 fK0 fK40 [(Pt, "_law_refused_right.<locals>.<lambda>")] := { SK := SK, Z := Z, AC := A8, GC := GC, M := LM, L := LC, GI := GIn, GB := GBe, mB := ⟨cgI, igI, kgI⟩, bB := bI, GO := GOr, OB := OB, GA := GAn, OA := OA, GIO := GIO, AIO := A5, TE := TE, AT := A21, TB := TBs (cR, Pt) List.mem_cons_self, hm := List.mem_cons_self, hu := fun p hp _ => by rw [List.mem_singleton.mp hp] }
  exact ok_law F23 B A6 A20 (ok_er F20 SE) A22 (ok_rr F22 hcR SR)
end K18
namespace K18
open PySem L2
open PySem.Spec PyProof.Rows
open Hd in
theorem facts {P : Program} {w : World} {K : PySem.W.Frag} {h : Heap} {mg : Str → Option Value} {fa : Addr} (X : K.In h) (G : h.Ns mainGlobals mg) (hfa : mg "law" = some (.ref fa)) (hbm : BM mg h) (pf : ((P.main.file : Str) == "/claim/cut.py") = true) (pt : (P.main.scope.names.lookup ("super" : Str)).isSome = false) (c : Hy.Says ck fns tabs w K) (tp : ∀ P ∈ tps, h.get? P = some Hy.tabO) :
    ∃ (fd : FuncData) (cs : List (Addr × Addr)) (T : List (Addr × Str)), TabsOk K cs h ∧ (∀ p ∈ T, p.1 ∈ cs.map (·.2)) ∧ (∀ (s : Shared) (u : Value), BindsTo s fd ⟨[u], []⟩ [("_law_script", u)]) ∧ ∀ base : Heap, K.In base → base.Ns mainGlobals mg → (∀ p ∈ cs, LamX.TabB base mg p.1 p.2) → FnG P w K mg base 33 fa fd ["_law_script"] (spLaw K T) := by
  have a0 : PySem.W.nsIn K mainGlobals "told_error" = some (some (.ref (v_f0 K))) := of_decide_eq_true (c.test 0 0 (l := ck0) (b := t0) rfl rfl)
  obtain ⟨d0, F0, d0_c⟩ := c.defn 0 (a := v_f0) (x := "told_error") (q := "told_error") (st := sTold) rfl
  have a1 : PySem.W.nsIn K mainGlobals "is_name" = some (some (.ref (v_f1 K))) := of_decide_eq_true (c.test 0 1 (l := ck0) (b := t1) rfl rfl)
  obtain ⟨d1, F1, d1_c⟩ := c.defn 1 (a := v_f1) (x := "is_name") (q := "is_name") (st := sIsName) rfl
  have a2 : PySem.W.nsIn K mainGlobals "check_label" = some (some (.ref (v_f2 K))) := of_decide_eq_true (c.test 0 2 (l := ck0) (b := t2) rfl rfl)
  obtain ⟨d2, F2, d2_c⟩ := c.defn 2 (a := v_f2) (x := "check_label") (q := "check_label") (st := sCheck) rfl
  have a3 : PySem.W.nsIn K mainGlobals "marks_rank" = some (some (.ref (v_f3 K))) := of_decide_eq_true (c.test 0 3 (l := ck0) (b := t3) rfl rfl)
  obtain ⟨d3, F3, d3_c⟩ := c.defn 3 (a := v_f3) (x := "marks_rank") (q := "marks_rank") (st := sRank) rfl
  have a4 : PySem.W.nsIn K mainGlobals "label_rank" = some (some (.ref (v_f4 K))) := of_decide_eq_true (c.test 0 4 (l := ck0) (b := t4) rfl rfl)
  obtain ⟨d4, F4, d4_c⟩ := c.defn 4 (a := v_f4) (x := "label_rank") (q := "label_rank") (st := sLRank) rfl
  have a5 : PySem.W.nsIn K mainGlobals "in_order" = some (some (.ref (v_f5 K))) := of_decide_eq_true (c.test 0 5 (l := ck0) (b := t5) rfl rfl)
  obtain ⟨d5, F5, d5_c⟩ := c.defn 5 (a := v_f5) (x := "in_order") (q := "in_order") (st := sOrder) rfl
  have a6 : PySem.W.nsIn K mainGlobals "_law_rng" = some (some (.ref (v_f6 K))) := of_decide_eq_true (c.test 0 6 (l := ck0) (b := t6) rfl rfl)
  obtain ⟨d6, F6, d6_c⟩ := c.defn 6 (a := v_f6) (x := "_law_rng") (q := "_law_rng") (st := sRng) rfl
  have a7 : PySem.W.nsIn K mainGlobals "_law_draw" = some (some (.ref (v_f7 K))) := of_decide_eq_true (c.test 0 7 (l := ck0) (b := t7) rfl rfl)
  obtain ⟨d7, F7, d7_c⟩ := c.defn 7 (a := v_f7) (x := "_law_draw") (q := "_law_draw") (st := sDraw) rfl
  have a8 : PySem.W.nsIn K mainGlobals "_law_choice" = some (some (.ref (v_f8 K))) := of_decide_eq_true (c.test 0 8 (l := ck0) (b := t8) rfl rfl)
  obtain ⟨d8, F8, d8_c⟩ := c.defn 8 (a := v_f8) (x := "_law_choice") (q := "_law_choice") (st := sChoice) rfl
  have a9 : PySem.W.nsIn K mainGlobals "_law_invalid" = some (some (.ref (v_f9 K))) := of_decide_eq_true (c.test 0 9 (l := ck0) (b := t9) rfl rfl)
  obtain ⟨d9, F9, d9_c⟩ := c.defn 9 (a := v_f9) (x := "_law_invalid") (q := "_law_invalid") (st := sInvalid) rfl
  have a10 : PySem.W.nsIn K mainGlobals "_law_missing" = some (some (.ref (v_f10 K))) := of_decide_eq_true (c.test 0 10 (l := ck0) (b := t10) rfl rfl)
  obtain ⟨d10, F10, d10_c⟩ := c.defn 10 (a := v_f10) (x := "_law_missing") (q := "_law_missing") (st := sMissing) rfl
  have a11 : PySem.W.nsIn K mainGlobals "_law_state" = some (some (.ref (v_f11 K))) := of_decide_eq_true (c.test 0 11 (l := ck0) (b := t11) rfl rfl)
  obtain ⟨d11, F11, d11_c⟩ := c.defn 11 (a := v_f11) (x := "_law_state") (q := "_law_state") (st := sState) rfl
  have a12 : PySem.W.nsIn K mainGlobals "_law_limit" = some (some (.ref (v_f12 K))) := of_decide_eq_true (c.test 0 12 (l := ck0) (b := t12) rfl rfl)
  obtain ⟨d12, F12, d12_c⟩ := c.defn 12 (a := v_f12) (x := "_law_limit") (q := "_law_limit") (st := sLimit) rfl
  have a13 : PySem.W.nsIn K mainGlobals "_law_made" = some (some (.ref (v_f13 K))) := of_decide_eq_true (c.test 0 13 (l := ck0) (b := t13) rfl rfl)
  obtain ⟨d13, F13, d13_c⟩ := c.defn 13 (a := v_f13) (x := "_law_made") (q := "_law_made") (st := sMade) rfl
  have a14 : PySem.W.nsIn K mainGlobals "_law_first_flags" = some (some (.ref (v_f14 K))) := of_decide_eq_true (c.test 0 14 (l := ck0) (b := t14) rfl rfl)
  obtain ⟨d14, F14, d14_c⟩ := c.defn 14 (a := v_f14) (x := "_law_first_flags") (q := "_law_first_flags") (st := sFlagsA) rfl
  have a15 : PySem.W.nsIn K mainGlobals "_law_second_flags" = some (some (.ref (v_f15 K))) := of_decide_eq_true (c.test 0 15 (l := ck0) (b := t15) rfl rfl)
  obtain ⟨d15, F15, d15_c⟩ := c.defn 15 (a := v_f15) (x := "_law_second_flags") (q := "_law_second_flags") (st := sFlagsB) rfl
  have a16 : PySem.W.nsIn K mainGlobals "_law_classes" = some (some (.ref (v_f16 K))) := of_decide_eq_true (c.test 0 16 (l := ck0) (b := t16) rfl rfl)
  obtain ⟨d16, F16, d16_c⟩ := c.defn 16 (a := v_f16) (x := "_law_classes") (q := "_law_classes") (st := sClasses) rfl
  have a17 : PySem.W.nsIn K mainGlobals "_law_first_attributes" = some (some (.ref (v_f17 K))) := of_decide_eq_true (c.test 0 17 (l := ck0) (b := t17) rfl rfl)
  obtain ⟨d17, F17, d17_c⟩ := c.defn 17 (a := v_f17) (x := "_law_first_attributes") (q := "_law_first_attributes") (st := sAttrA) rfl
  have a18 : PySem.W.nsIn K mainGlobals "_law_second_attributes" = some (some (.ref (v_f18 K))) := of_decide_eq_true (c.test 0 18 (l := ck0) (b := t18) rfl rfl)
  obtain ⟨d18, F18, d18_c⟩ := c.defn 18 (a := v_f18) (x := "_law_second_attributes") (q := "_law_second_attributes") (st := sAttrB) rfl
  have a19 : PySem.W.nsIn K mainGlobals "_law_base_right" = some (some (.ref (v_f19 K))) := of_decide_eq_true (c.test 0 19 (l := ck0) (b := t19) rfl rfl)
  obtain ⟨d19, F19, d19_c⟩ := c.defn 19 (a := v_f19) (x := "_law_base_right") (q := "_law_base_right") (st := sBaseR) rfl
  have a20 : PySem.W.nsIn K mainGlobals "_law_error_right" = some (some (.ref (v_f20 K))) := of_decide_eq_true (c.test 1 0 (l := ck1) (b := t20) rfl rfl)
  obtain ⟨d20, F20, d20_c⟩ := c.defn 20 (a := v_f20) (x := "_law_error_right") (q := "_law_error_right") (st := sErrR) rfl
  have a21 : PySem.W.nsIn K mainGlobals "_law_told" = some (some (.ref (v_f21 K))) := of_decide_eq_true (c.test 1 1 (l := ck1) (b := t21) rfl rfl)
  obtain ⟨d21, F21, d21_c⟩ := c.defn 21 (a := v_f21) (x := "_law_told") (q := "_law_told") (st := sLTold) rfl
  have a22 : PySem.W.nsIn K mainGlobals "_law_refused_right" = some (some (.ref (v_f22 K))) := of_decide_eq_true (c.test 1 2 (l := ck1) (b := t22) rfl rfl)
  obtain ⟨d22, F22, d22_c⟩ := c.defn 22 (a := v_f22) (x := "_law_refused_right") (q := "_law_refused_right") (st := sRefR) rfl
  have a23 : PySem.W.nsIn K mainGlobals "law" = some (some (.ref (v_f23 K))) := of_decide_eq_true (c.test 1 3 (l := ck1) (b := t23) rfl rfl)
  obtain ⟨d23, F23, d23_c⟩ := c.defn 23 (a := v_f23) (x := "law") (q := "law") (st := sLaw) rfl
  have zlen : PySem.W.nsIn K mainGlobals "len" = some none := of_decide_eq_true (c.test 1 4 (l := ck1) (b := t24) rfl rfl)
  have zabs : PySem.W.nsIn K mainGlobals "abs" = some none := of_decide_eq_true (c.test 1 5 (l := ck1) (b := t25) rfl rfl)
  have zmax : PySem.W.nsIn K mainGlobals "max" = some none := of_decide_eq_true (c.test 1 6 (l := ck1) (b := t26) rfl rfl)
  have zmin : PySem.W.nsIn K mainGlobals "min" = some none := of_decide_eq_true (c.test 1 7 (l := ck1) (b := t27) rfl rfl)
  have zint : PySem.W.nsIn K mainGlobals "int" = some none := of_decide_eq_true (c.test 1 8 (l := ck1) (b := t28) rfl rfl)
  have zdivmod : PySem.W.nsIn K mainGlobals "divmod" = some none := of_decide_eq_true (c.test 1 9 (l := ck1) (b := t29) rfl rfl)
  have zrange : PySem.W.nsIn K mainGlobals "range" = some none := of_decide_eq_true (c.test 1 10 (l := ck1) (b := t30) rfl rfl)
  have zall : PySem.W.nsIn K mainGlobals "all" = some none := of_decide_eq_true (c.test 1 11 (l := ck1) (b := t31) rfl rfl)
  have zisinstance : PySem.W.nsIn K mainGlobals "isinstance" = some none := of_decide_eq_true (c.test 1 12 (l := ck1) (b := t32) rfl rfl)
  have zstr : PySem.W.nsIn K mainGlobals "str" = some none := of_decide_eq_true (c.test 1 13 (l := ck1) (b := t33) rfl rfl)
  have zbool : PySem.W.nsIn K mainGlobals "bool" = some none := of_decide_eq_true (c.test 1 14 (l := ck1) (b := t34) rfl rfl)
  have zrepr : PySem.W.nsIn K mainGlobals "repr" = some none := of_decide_eq_true (c.test 1 15 (l := ck1) (b := t35) rfl rfl)
  have ztuple : PySem.W.nsIn K mainGlobals "tuple" = some none := of_decide_eq_true (c.test 1 16 (l := ck1) (b := t36) rfl rfl)
  have zset : PySem.W.nsIn K mainGlobals "set" = some none := of_decide_eq_true (c.test 1 17 (l := ck1) (b := t37) rfl rfl)
  have zsorted : PySem.W.nsIn K mainGlobals "sorted" = some none := of_decide_eq_true (c.test 1 18 (l := ck1) (b := t38) rfl rfl)
  have zlist : PySem.W.nsIn K mainGlobals "list" = some none := of_decide_eq_true (c.test 1 19 (l := ck1) (b := t39) rfl rfl)
  have zValueError : PySem.W.nsIn K mainGlobals "ValueError" = some none := of_decide_eq_true (c.test 2 0 (l := ck2) (b := t40) rfl rfl)
  have zLookupError : PySem.W.nsIn K mainGlobals "LookupError" = some none := of_decide_eq_true (c.test 2 1 (l := ck2) (b := t41) rfl rfl)
  have zRuntimeError : PySem.W.nsIn K mainGlobals "RuntimeError" = some none := of_decide_eq_true (c.test 2 2 (l := ck2) (b := t42) rfl rfl)
  have zArithmeticError : PySem.W.nsIn K mainGlobals "ArithmeticError" = some none := of_decide_eq_true (c.test 2 3 (l := ck2) (b := t43) rfl rfl)
  have zKeyError : PySem.W.nsIn K mainGlobals "KeyError" = some none := of_decide_eq_true (c.test 2 4 (l := ck2) (b := t44) rfl rfl)
  have zIndexError : PySem.W.nsIn K mainGlobals "IndexError" = some none := of_decide_eq_true (c.test 2 5 (l := ck2) (b := t45) rfl rfl)
  have zZeroDivisionError : PySem.W.nsIn K mainGlobals "ZeroDivisionError" = some none := of_decide_eq_true (c.test 2 6 (l := ck2) (b := t46) rfl rfl)
  have zOverflowError : PySem.W.nsIn K mainGlobals "OverflowError" = some none := of_decide_eq_true (c.test 2 7 (l := ck2) (b := t47) rfl rfl)
  have mM : PySem.W.nsIn K mainGlobals "MOST_LETTERS" = some (some (.int 8 (v_tM K))) := of_decide_eq_true (c.test 2 8 (l := ck2) (b := t48) rfl rfl)
  have mL : PySem.W.nsIn K mainGlobals "LETTERS" = some (some (.str "abcdefghijklmnopqrstuvwxyz" (v_tL K))) := of_decide_eq_true (c.test 2 9 (l := ck2) (b := t49) rfl rfl)
  have cC : PySem.W.nsIn K mainGlobals "Label" = some (some (.ref (v_C K))) := of_decide_eq_true (c.test 2 10 (l := ck2) (b := t50) rfl rfl)
  have cmk : PySem.W.makesIn K (v_C K) = true := c.test 2 11 (l := ck2) (b := t51) rfl rfl
  have cin : PySem.W.findIn K (.ref (v_C K)) "__init__" = some (some (.ref (v_fL K))) := of_decide_eq_true (c.test 2 12 (l := ck2) (b := t52) rfl rfl)
  have cfn : PySem.W.isFn K (.ref (v_fL K)) = true := c.test 2 13 (l := ck2) (b := t53) rfl rfl
  have ckp : PySem.W.keepIn K (.ref (v_C K)) = true := c.test 2 14 (l := ck2) (b := t54) rfl rfl
  have cpg : PySem.W.plainGet K (v_C K) Str.empty = true := c.test 2 15 (l := ck2) (b := t55) rfl rfl
  have chd : PySem.W.hasDictIn K (v_C K) = true := c.test 2 16 (l := ck2) (b := t56) rfl rfl
  have cpo : PySem.W.plainOver K (v_C K) = true := c.test 2 17 (l := ck2) (b := t57) rfl rfl
  have csa : PySem.W.findIn K (.ref (v_C K)) "__setattr__" = some (some (.builtin "object.__setattr__")) := of_decide_eq_true (c.test 2 18 (l := ck2) (b := t58) rfl rfl)
  have crd : PySem.W.readsIn K (v_C K) (.type "type") = true := c.test 2 19 (l := ck2) (b := t59) rfl rfl
  have cga : PySem.W.specialIn K (.ref (v_C K)) "__getattribute__" = some (some (.builtin "type.__getattribute__")) := of_decide_eq_true (c.test 3 0 (l := ck3) (b := t60) rfl rfl)
  have cmo : PySem.W.findCls K (.ref (v_C K)) (.type "type") "MOST" = some (.val (.int 4 (v_tk K))) := Hx.cvB_ok (c.test 3 1 (l := ck3) (b := t61) rfl rfl)
  have cn1 : PySem.W.findIn K (.ref (v_C K)) "_marks" = some none := of_decide_eq_true (c.test 3 2 (l := ck3) (b := t62) rfl rfl)
  have cn2 : PySem.W.findIn K (.ref (v_C K)) "_text" = some none := of_decide_eq_true (c.test 3 3 (l := ck3) (b := t63) rfl rfl)
  have cic : PySem.W.isClsIn K (v_C K) = true := c.test 3 4 (l := ck3) (b := t64) rfl rfl
  have cty : PySem.W.typeIn K (.ref (v_C K)) = some (.type "type") := of_decide_eq_true (c.test 3 5 (l := ck3) (b := t65) rfl rfl)
  obtain ⟨dL0, FL, dL0_c⟩ := c.defn 24 (a := v_fL) (x := "__init__") (q := "Label.__init__") (st := sInit) rfl
  have cgE : PySem.W.findIn K (.ref (v_C K)) "__eq__" = some (some (.ref (v_gE K))) := of_decide_eq_true (c.test 3 6 (l := ck3) (b := t66) rfl rfl)
  have igE : PySem.W.isFn K (.ref (v_gE K)) = true := c.test 3 7 (l := ck3) (b := t67) rfl rfl
  obtain ⟨dE, FgE, dE_c⟩ := c.defn 25 (a := v_gE) (x := "__eq__") (q := "Label.__eq__") (st := sEq) rfl
  have cgL : PySem.W.findIn K (.ref (v_C K)) "__len__" = some (some (.ref (v_gL K))) := of_decide_eq_true (c.test 3 8 (l := ck3) (b := t68) rfl rfl)
  have igL : PySem.W.isFn K (.ref (v_gL K)) = true := c.test 3 9 (l := ck3) (b := t69) rfl rfl
  obtain ⟨dLn, FgL, dLn_c⟩ := c.defn 26 (a := v_gL) (x := "__len__") (q := "Label.__len__") (st := sLen) rfl
  have cgS : PySem.W.findIn K (.ref (v_C K)) "__str__" = some (some (.ref (v_gS K))) := of_decide_eq_true (c.test 3 10 (l := ck3) (b := t70) rfl rfl)
  have igS : PySem.W.isFn K (.ref (v_gS K)) = true := c.test 3 11 (l := ck3) (b := t71) rfl rfl
  obtain ⟨dS, FgS, dS_c⟩ := c.defn 27 (a := v_gS) (x := "__str__") (q := "Label.__str__") (st := sStr) rfl
  have cgR : PySem.W.findIn K (.ref (v_C K)) "__repr__" = some (some (.ref (v_gR K))) := of_decide_eq_true (c.test 3 12 (l := ck3) (b := t72) rfl rfl)
  have igR : PySem.W.isFn K (.ref (v_gR K)) = true := c.test 3 13 (l := ck3) (b := t73) rfl rfl
  obtain ⟨dR, FgR, dR_c⟩ := c.defn 28 (a := v_gR) (x := "__repr__") (q := "Label.__repr__") (st := sRepr) rfl
  have cgH : PySem.W.findIn K (.ref (v_C K)) "__contains__" = some (some (.ref (v_gH K))) := of_decide_eq_true (c.test 3 14 (l := ck3) (b := t74) rfl rfl)
  have igH : PySem.W.isFn K (.ref (v_gH K)) = true := c.test 3 15 (l := ck3) (b := t75) rfl rfl
  obtain ⟨dH, FgH, dH_c⟩ := c.defn 29 (a := v_gH) (x := "__contains__") (q := "Label.__contains__") (st := sHas) rfl
  have cgI : PySem.W.findIn K (.ref (v_C K)) "is_below" = some (some (.ref (v_gI K))) := of_decide_eq_true (c.test 3 16 (l := ck3) (b := t76) rfl rfl)
  have igI : PySem.W.isFn K (.ref (v_gI K)) = true := c.test 3 17 (l := ck3) (b := t77) rfl rfl
  obtain ⟨dI, FgI, dI_c⟩ := c.defn 30 (a := v_gI) (x := "is_below") (q := "Label.is_below") (st := sBelow) rfl
  have kgI : PySem.W.keepIn K (.ref (v_gI K)) = true := c.test 3 18 (l := ck3) (b := t78) rfl rfl
  have cgO : PySem.W.findIn K (.ref (v_C K)) "__or__" = some (some (.ref (v_gO K))) := of_decide_eq_true (c.test 3 19 (l := ck3) (b := t79) rfl rfl)
  have igO : PySem.W.isFn K (.ref (v_gO K)) = true := c.test 4 0 (l := ck4) (b := t80) rfl rfl
  obtain ⟨dO, FgO, dO_c⟩ := c.defn 31 (a := v_gO) (x := "__or__") (q := "Label.__or__") (st := sOrM) rfl
  have cgA : PySem.W.findIn K (.ref (v_C K)) "__and__" = some (some (.ref (v_gA K))) := of_decide_eq_true (c.test 4 1 (l := ck4) (b := t81) rfl rfl)
  have igA : PySem.W.isFn K (.ref (v_gA K)) = true := c.test 4 2 (l := ck4) (b := t82) rfl rfl
  obtain ⟨dA, FgA, dA_c⟩ := c.defn 32 (a := v_gA) (x := "__and__") (q := "Label.__and__") (st := sAndM) rfl
  have sfC : PySem.W.selfFirst K (v_C K) = true := c.test 4 3 (l := ck4) (b := t83) rfl rfl
  have rrO : PySem.W.findIn K (.ref (v_C K)) "__ror__" = some none := of_decide_eq_true (c.test 4 4 (l := ck4) (b := t84) rfl rfl)
  have rrA : PySem.W.findIn K (.ref (v_C K)) "__rand__" = some none := of_decide_eq_true (c.test 4 5 (l := ck4) (b := t85) rfl rfl)
  have hfoONoneType : (PySem.W.findIn K (.type "NoneType") "__or__").isSome = true := c.test 4 6 (l := ck4) (b := t86) rfl rfl
  have hfoObool : (PySem.W.findIn K (.type "bool") "__or__").isSome = true := c.test 4 7 (l := ck4) (b := t87) rfl rfl
  have hfoOint : (PySem.W.findIn K (.type "int") "__or__").isSome = true := c.test 4 8 (l := ck4) (b := t88) rfl rfl
  have hfoOstr : (PySem.W.findIn K (.type "str") "__or__").isSome = true := c.test 4 9 (l := ck4) (b := t89) rfl rfl
  have hfoOlist : (PySem.W.findIn K (.type "list") "__or__").isSome = true := c.test 4 10 (l := ck4) (b := t90) rfl rfl
  have hfoOtuple : (PySem.W.findIn K (.type "tuple") "__or__").isSome = true := c.test 4 11 (l := ck4) (b := t91) rfl rfl
  have hfoOdict : (PySem.W.findIn K (.type "dict") "__or__").isSome = true := c.test 4 12 (l := ck4) (b := t92) rfl rfl
  have hroONoneType : (PySem.W.findIn K (.type "NoneType") "__ror__").isSome = true := c.test 4 13 (l := ck4) (b := t93) rfl rfl
  have hroObool : (PySem.W.findIn K (.type "bool") "__ror__").isSome = true := c.test 4 14 (l := ck4) (b := t94) rfl rfl
  have hroOint : (PySem.W.findIn K (.type "int") "__ror__").isSome = true := c.test 4 15 (l := ck4) (b := t95) rfl rfl
  have hroOstr : (PySem.W.findIn K (.type "str") "__ror__").isSome = true := c.test 4 16 (l := ck4) (b := t96) rfl rfl
  have hroOlist : (PySem.W.findIn K (.type "list") "__ror__").isSome = true := c.test 4 17 (l := ck4) (b := t97) rfl rfl
  have hroOtuple : (PySem.W.findIn K (.type "tuple") "__ror__").isSome = true := c.test 4 18 (l := ck4) (b := t98) rfl rfl
  have hroOdict : (PySem.W.findIn K (.type "dict") "__ror__").isSome = true := c.test 4 19 (l := ck4) (b := t99) rfl rfl
  have hfoANoneType : (PySem.W.findIn K (.type "NoneType") "__and__").isSome = true := c.test 5 0 (l := ck5) (b := t100) rfl rfl
  have hfoAbool : (PySem.W.findIn K (.type "bool") "__and__").isSome = true := c.test 5 1 (l := ck5) (b := t101) rfl rfl
  have hfoAint : (PySem.W.findIn K (.type "int") "__and__").isSome = true := c.test 5 2 (l := ck5) (b := t102) rfl rfl
  have hfoAstr : (PySem.W.findIn K (.type "str") "__and__").isSome = true := c.test 5 3 (l := ck5) (b := t103) rfl rfl
  have hfoAlist : (PySem.W.findIn K (.type "list") "__and__").isSome = true := c.test 5 4 (l := ck5) (b := t104) rfl rfl
  have hfoAtuple : (PySem.W.findIn K (.type "tuple") "__and__").isSome = true := c.test 5 5 (l := ck5) (b := t105) rfl rfl
  have hfoAdict : (PySem.W.findIn K (.type "dict") "__and__").isSome = true := c.test 5 6 (l := ck5) (b := t106) rfl rfl
  have hroANoneType : (PySem.W.findIn K (.type "NoneType") "__rand__").isSome = true := c.test 5 7 (l := ck5) (b := t107) rfl rfl
  have hroAbool : (PySem.W.findIn K (.type "bool") "__rand__").isSome = true := c.test 5 8 (l := ck5) (b := t108) rfl rfl
  have hroAint : (PySem.W.findIn K (.type "int") "__rand__").isSome = true := c.test 5 9 (l := ck5) (b := t109) rfl rfl
  have hroAstr : (PySem.W.findIn K (.type "str") "__rand__").isSome = true := c.test 5 10 (l := ck5) (b := t110) rfl rfl
  have hroAlist : (PySem.W.findIn K (.type "list") "__rand__").isSome = true := c.test 5 11 (l := ck5) (b := t111) rfl rfl
  have hroAtuple : (PySem.W.findIn K (.type "tuple") "__rand__").isSome = true := c.test 5 12 (l := ck5) (b := t112) rfl rfl
  have hroAdict : (PySem.W.findIn K (.type "dict") "__rand__").isSome = true := c.test 5 13 (l := ck5) (b := t113) rfl rfl
  have cne : PySem.W.findIn K (.ref (v_C K)) "__ne__" = some (some (.builtin "object.__ne__")) := of_decide_eq_true (c.test 5 14 (l := ck5) (b := t114) rfl rfl)
  have cob : PySem.W.subIn K (.ref (v_C K)) (.type "object") = some true := of_decide_eq_true (c.test 5 15 (l := ck5) (b := t115) rfl rfl)
  have sNoneType : PySem.W.subIn K (.ref (v_C K)) (.type "NoneType") = some false := of_decide_eq_true (c.test 5 16 (l := ck5) (b := t116) rfl rfl)
  have uNoneType : PySem.W.subIn K (.type "NoneType") (.ref (v_C K)) = some false := of_decide_eq_true (c.test 5 17 (l := ck5) (b := t117) rfl rfl)
  have sbool : PySem.W.subIn K (.ref (v_C K)) (.type "bool") = some false := of_decide_eq_true (c.test 5 18 (l := ck5) (b := t118) rfl rfl)
  have ubool : PySem.W.subIn K (.type "bool") (.ref (v_C K)) = some false := of_decide_eq_true (c.test 5 19 (l := ck5) (b := t119) rfl rfl)
  have sint : PySem.W.subIn K (.ref (v_C K)) (.type "int") = some false := of_decide_eq_true (c.test 6 0 (l := ck6) (b := t120) rfl rfl)
  have uint : PySem.W.subIn K (.type "int") (.ref (v_C K)) = some false := of_decide_eq_true (c.test 6 1 (l := ck6) (b := t121) rfl rfl)
  have sstr : PySem.W.subIn K (.ref (v_C K)) (.type "str") = some false := of_decide_eq_true (c.test 6 2 (l := ck6) (b := t122) rfl rfl)
  have ustr : PySem.W.subIn K (.type "str") (.ref (v_C K)) = some false := of_decide_eq_true (c.test 6 3 (l := ck6) (b := t123) rfl rfl)
  have slist : PySem.W.subIn K (.ref (v_C K)) (.type "list") = some false := of_decide_eq_true (c.test 6 4 (l := ck6) (b := t124) rfl rfl)
  have ulist : PySem.W.subIn K (.type "list") (.ref (v_C K)) = some false := of_decide_eq_true (c.test 6 5 (l := ck6) (b := t125) rfl rfl)
  have stuple : PySem.W.subIn K (.ref (v_C K)) (.type "tuple") = some false := of_decide_eq_true (c.test 6 6 (l := ck6) (b := t126) rfl rfl)
  have utuple : PySem.W.subIn K (.type "tuple") (.ref (v_C K)) = some false := of_decide_eq_true (c.test 6 7 (l := ck6) (b := t127) rfl rfl)
  have sdict : PySem.W.subIn K (.ref (v_C K)) (.type "dict") = some false := of_decide_eq_true (c.test 6 8 (l := ck6) (b := t128) rfl rfl)
  have udict : PySem.W.subIn K (.type "dict") (.ref (v_C K)) = some false := of_decide_eq_true (c.test 6 9 (l := ck6) (b := t129) rfl rfl)
  have cpM : PySem.W.findIn K (.ref (v_C K)) "marks" = some (some (.ref (v_pM K))) := of_decide_eq_true (c.test 6 10 (l := ck6) (b := t130) rfl rfl)
  have pg : PySem.W.specialIn K (.ref (v_pM K)) "__get__" = some (some (.builtin "property.__get__")) := of_decide_eq_true (c.test 6 11 (l := ck6) (b := t131) rfl rfl)
  have ptk : PySem.W.takesIn K (.ref (v_pM K)) = some true := of_decide_eq_true (c.test 6 12 (l := ck6) (b := t132) rfl rfl)
  have pr := Hx.pgB_ok (c.test 6 13 (l := ck6) (b := t133) rfl rfl)
  have cha : PySem.W.findIn K (.ref (v_C K)) "__class__" = some (some (.builtin "object.__class__")) := of_decide_eq_true (c.test 6 14 (l := ck6) (b := t134) rfl rfl)
  have hn : PySem.W.specialIn K (.builtin "object.__class__") "__get__" = some (some (.builtin "getset_descriptor.__get__")) := of_decide_eq_true (c.test 6 15 (l := ck6) (b := t135) rfl rfl)
  have ht : PySem.W.takesIn K (.builtin "object.__class__") = some true := of_decide_eq_true (c.test 6 16 (l := ck6) (b := t136) rfl rfl)
  have chm : PySem.W.mroIn K (v_C K) (.type "object") = some true := of_decide_eq_true (c.test 6 17 (l := ck6) (b := t137) rfl rfl)
  obtain ⟨dG, FgM, dG_c⟩ := c.defn 33 (a := v_gM) (x := "marks") (q := "Label.marks") (st := sGetM) rfl
  have aK0 : PySem.W.nsIn K mainGlobals "InvalidName" = some (some (.ref (v_CK0 K))) := of_decide_eq_true (c.test 6 18 (l := ck6) (b := t138) rfl rfl)
  have iK0 : PySem.W.findIn K (.ref (v_CK0 K)) "__init__" = some (some (.ref (v_fK0 K))) := of_decide_eq_true (c.test 6 19 (l := ck6) (b := t139) rfl rfl)
  obtain ⟨dK0, FK0, dK0_c⟩ := c.defn 34 (a := v_fK0) (x := "__init__") (q := "InvalidName.__init__") (st := sIn0) rfl
  have oK0 : K18T0.ownT K "ValueError" "ValueError.__new__" ["value"] ["LookupError", "RuntimeError", "ArithmeticError"] (v_CK0 K) (v_fK0 K) = true := c.test 7 0 (l := ck7) (b := t140) rfl rfl
  have xK0 : K18T0.excT K (v_CK0 K) = true := c.test 7 1 (l := ck7) (b := t141) rfl rfl
  have nK0 : K18T0.nameT K "InvalidName" (v_CK0 K) = true := c.test 7 2 (l := ck7) (b := t142) rfl rfl
  have aK1 : PySem.W.nsIn K mainGlobals "InvalidLabel" = some (some (.ref (v_CK1 K))) := of_decide_eq_true (c.test 7 3 (l := ck7) (b := t143) rfl rfl)
  have iK1 : PySem.W.findIn K (.ref (v_CK1 K)) "__init__" = some (some (.ref (v_fK1 K))) := of_decide_eq_true (c.test 7 4 (l := ck7) (b := t144) rfl rfl)
  obtain ⟨dK1, FK1, dK1_c⟩ := c.defn 35 (a := v_fK1) (x := "__init__") (q := "InvalidLabel.__init__") (st := sIn1) rfl
  have oK1 : K18T0.ownT K "ValueError" "ValueError.__new__" ["value"] ["LookupError", "RuntimeError", "ArithmeticError"] (v_CK1 K) (v_fK1 K) = true := c.test 7 5 (l := ck7) (b := t145) rfl rfl
  have xK1 : K18T0.excT K (v_CK1 K) = true := c.test 7 6 (l := ck7) (b := t146) rfl rfl
  have nK1 : K18T0.nameT K "InvalidLabel" (v_CK1 K) = true := c.test 7 7 (l := ck7) (b := t147) rfl rfl
  have aK2 : PySem.W.nsIn K mainGlobals "InvalidText" = some (some (.ref (v_CK2 K))) := of_decide_eq_true (c.test 7 8 (l := ck7) (b := t148) rfl rfl)
  have iK2 : PySem.W.findIn K (.ref (v_CK2 K)) "__init__" = some (some (.ref (v_fK2 K))) := of_decide_eq_true (c.test 7 9 (l := ck7) (b := t149) rfl rfl)
  obtain ⟨dK2, FK2, dK2_c⟩ := c.defn 36 (a := v_fK2) (x := "__init__") (q := "InvalidText.__init__") (st := sIn2) rfl
  have oK2 : K18T0.ownT K "ValueError" "ValueError.__new__" ["problem"] ["LookupError", "RuntimeError", "ArithmeticError"] (v_CK2 K) (v_fK2 K) = true := c.test 7 10 (l := ck7) (b := t150) rfl rfl
  have xK2 : K18T0.excT K (v_CK2 K) = true := c.test 7 11 (l := ck7) (b := t151) rfl rfl
  have nK2 : K18T0.nameT K "InvalidText" (v_CK2 K) = true := c.test 7 12 (l := ck7) (b := t152) rfl rfl
  have aK3 : PySem.W.nsIn K mainGlobals "InvalidRow" = some (some (.ref (v_CK3 K))) := of_decide_eq_true (c.test 7 13 (l := ck7) (b := t153) rfl rfl)
  have iK3 : PySem.W.findIn K (.ref (v_CK3 K)) "__init__" = some (some (.ref (v_fK3 K))) := of_decide_eq_true (c.test 7 14 (l := ck7) (b := t154) rfl rfl)
  obtain ⟨dK3, FK3, dK3_c⟩ := c.defn 37 (a := v_fK3) (x := "__init__") (q := "InvalidRow.__init__") (st := sIn3) rfl
  have oK3 : K18T0.ownT K "ValueError" "ValueError.__new__" ["value"] ["LookupError", "RuntimeError", "ArithmeticError"] (v_CK3 K) (v_fK3 K) = true := c.test 7 15 (l := ck7) (b := t155) rfl rfl
  have xK3 : K18T0.excT K (v_CK3 K) = true := c.test 7 16 (l := ck7) (b := t156) rfl rfl
  have nK3 : K18T0.nameT K "InvalidRow" (v_CK3 K) = true := c.test 7 17 (l := ck7) (b := t157) rfl rfl
  have aK4 : PySem.W.nsIn K mainGlobals "InvalidKey" = some (some (.ref (v_CK4 K))) := of_decide_eq_true (c.test 7 18 (l := ck7) (b := t158) rfl rfl)
  have iK4 : PySem.W.findIn K (.ref (v_CK4 K)) "__init__" = some (some (.ref (v_fK4 K))) := of_decide_eq_true (c.test 7 19 (l := ck7) (b := t159) rfl rfl)
  obtain ⟨dK4, FK4, dK4_c⟩ := c.defn 38 (a := v_fK4) (x := "__init__") (q := "InvalidKey.__init__") (st := sIn4) rfl
  have oK4 : K18T0.ownT K "ValueError" "ValueError.__new__" ["value"] ["LookupError", "RuntimeError", "ArithmeticError"] (v_CK4 K) (v_fK4 K) = true := c.test 8 0 (l := ck8) (b := t160) rfl rfl
  have xK4 : K18T0.excT K (v_CK4 K) = true := c.test 8 1 (l := ck8) (b := t161) rfl rfl
  have nK4 : K18T0.nameT K "InvalidKey" (v_CK4 K) = true := c.test 8 2 (l := ck8) (b := t162) rfl rfl
  have aK5 : PySem.W.nsIn K mainGlobals "InvalidColumns" = some (some (.ref (v_CK5 K))) := of_decide_eq_true (c.test 8 3 (l := ck8) (b := t163) rfl rfl)
  have iK5 : PySem.W.findIn K (.ref (v_CK5 K)) "__init__" = some (some (.ref (v_fK5 K))) := of_decide_eq_true (c.test 8 4 (l := ck8) (b := t164) rfl rfl)
  obtain ⟨dK5, FK5, dK5_c⟩ := c.defn 39 (a := v_fK5) (x := "__init__") (q := "InvalidColumns.__init__") (st := sIn5) rfl
  have oK5 : K18T0.ownT K "ValueError" "ValueError.__new__" ["position"] ["LookupError", "RuntimeError", "ArithmeticError"] (v_CK5 K) (v_fK5 K) = true := c.test 8 5 (l := ck8) (b := t165) rfl rfl
  have xK5 : K18T0.excT K (v_CK5 K) = true := c.test 8 6 (l := ck8) (b := t166) rfl rfl
  have nK5 : K18T0.nameT K "InvalidColumns" (v_CK5 K) = true := c.test 8 7 (l := ck8) (b := t167) rfl rfl
  have aK6 : PySem.W.nsIn K mainGlobals "InvalidRule" = some (some (.ref (v_CK6 K))) := of_decide_eq_true (c.test 8 8 (l := ck8) (b := t168) rfl rfl)
  have iK6 : PySem.W.findIn K (.ref (v_CK6 K)) "__init__" = some (some (.ref (v_fK6 K))) := of_decide_eq_true (c.test 8 9 (l := ck8) (b := t169) rfl rfl)
  obtain ⟨dK6, FK6, dK6_c⟩ := c.defn 40 (a := v_fK6) (x := "__init__") (q := "InvalidRule.__init__") (st := sIn6) rfl
  have oK6 : K18T0.ownT K "ValueError" "ValueError.__new__" ["rule"] ["LookupError", "RuntimeError", "ArithmeticError"] (v_CK6 K) (v_fK6 K) = true := c.test 8 10 (l := ck8) (b := t170) rfl rfl
  have xK6 : K18T0.excT K (v_CK6 K) = true := c.test 8 11 (l := ck8) (b := t171) rfl rfl
  have nK6 : K18T0.nameT K "InvalidRule" (v_CK6 K) = true := c.test 8 12 (l := ck8) (b := t172) rfl rfl
  have aK7 : PySem.W.nsIn K mainGlobals "InvalidSource" = some (some (.ref (v_CK7 K))) := of_decide_eq_true (c.test 8 13 (l := ck8) (b := t173) rfl rfl)
  have iK7 : PySem.W.findIn K (.ref (v_CK7 K)) "__init__" = some (some (.ref (v_fK7 K))) := of_decide_eq_true (c.test 8 14 (l := ck8) (b := t174) rfl rfl)
  obtain ⟨dK7, FK7, dK7_c⟩ := c.defn 41 (a := v_fK7) (x := "__init__") (q := "InvalidSource.__init__") (st := sIn7) rfl
  have oK7 : K18T0.ownT K "ValueError" "ValueError.__new__" ["value"] ["LookupError", "RuntimeError", "ArithmeticError"] (v_CK7 K) (v_fK7 K) = true := c.test 8 15 (l := ck8) (b := t175) rfl rfl
  have xK7 : K18T0.excT K (v_CK7 K) = true := c.test 8 16 (l := ck8) (b := t176) rfl rfl
  have nK7 : K18T0.nameT K "InvalidSource" (v_CK7 K) = true := c.test 8 17 (l := ck8) (b := t177) rfl rfl
  have aK8 : PySem.W.nsIn K mainGlobals "InvalidEntry" = some (some (.ref (v_CK8 K))) := of_decide_eq_true (c.test 8 18 (l := ck8) (b := t178) rfl rfl)
  have iK8 : PySem.W.findIn K (.ref (v_CK8 K)) "__init__" = some (some (.ref (v_fK8 K))) := of_decide_eq_true (c.test 8 19 (l := ck8) (b := t179) rfl rfl)
  obtain ⟨dK8, FK8, dK8_c⟩ := c.defn 42 (a := v_fK8) (x := "__init__") (q := "InvalidEntry.__init__") (st := sIn8) rfl
  have oK8 : K18T0.ownT K "ValueError" "ValueError.__new__" ["value"] ["LookupError", "RuntimeError", "ArithmeticError"] (v_CK8 K) (v_fK8 K) = true := c.test 9 0 (l := ck9) (b := t180) rfl rfl
  have xK8 : K18T0.excT K (v_CK8 K) = true := c.test 9 1 (l := ck9) (b := t181) rfl rfl
  have nK8 : K18T0.nameT K "InvalidEntry" (v_CK8 K) = true := c.test 9 2 (l := ck9) (b := t182) rfl rfl
  have aK9 : PySem.W.nsIn K mainGlobals "InvalidCount" = some (some (.ref (v_CK9 K))) := of_decide_eq_true (c.test 9 3 (l := ck9) (b := t183) rfl rfl)
  have iK9 : PySem.W.findIn K (.ref (v_CK9 K)) "__init__" = some (some (.ref (v_fK9 K))) := of_decide_eq_true (c.test 9 4 (l := ck9) (b := t184) rfl rfl)
  obtain ⟨dK9, FK9, dK9_c⟩ := c.defn 43 (a := v_fK9) (x := "__init__") (q := "InvalidCount.__init__") (st := sIn9) rfl
  have oK9 : K18T0.ownT K "ValueError" "ValueError.__new__" ["value"] ["LookupError", "RuntimeError", "ArithmeticError"] (v_CK9 K) (v_fK9 K) = true := c.test 9 5 (l := ck9) (b := t185) rfl rfl
  have xK9 : K18T0.excT K (v_CK9 K) = true := c.test 9 6 (l := ck9) (b := t186) rfl rfl
  have nK9 : K18T0.nameT K "InvalidCount" (v_CK9 K) = true := c.test 9 7 (l := ck9) (b := t187) rfl rfl
  have aK10 : PySem.W.nsIn K mainGlobals "InvalidCommand" = some (some (.ref (v_CK10 K))) := of_decide_eq_true (c.test 9 8 (l := ck9) (b := t188) rfl rfl)
  have iK10 : PySem.W.findIn K (.ref (v_CK10 K)) "__init__" = some (some (.ref (v_fK10 K))) := of_decide_eq_true (c.test 9 9 (l := ck9) (b := t189) rfl rfl)
  obtain ⟨dK10, FK10, dK10_c⟩ := c.defn 44 (a := v_fK10) (x := "__init__") (q := "InvalidCommand.__init__") (st := sIn10) rfl
  have oK10 : K18T0.ownT K "ValueError" "ValueError.__new__" ["value"] ["LookupError", "RuntimeError", "ArithmeticError"] (v_CK10 K) (v_fK10 K) = true := c.test 9 10 (l := ck9) (b := t190) rfl rfl
  have xK10 : K18T0.excT K (v_CK10 K) = true := c.test 9 11 (l := ck9) (b := t191) rfl rfl
  have nK10 : K18T0.nameT K "InvalidCommand" (v_CK10 K) = true := c.test 9 12 (l := ck9) (b := t192) rfl rfl
  have aK11 : PySem.W.nsIn K mainGlobals "InvalidLine" = some (some (.ref (v_CK11 K))) := of_decide_eq_true (c.test 9 13 (l := ck9) (b := t193) rfl rfl)
  have iK11 : PySem.W.findIn K (.ref (v_CK11 K)) "__init__" = some (some (.ref (v_fK11 K))) := of_decide_eq_true (c.test 9 14 (l := ck9) (b := t194) rfl rfl)
  obtain ⟨dK11, FK11, dK11_c⟩ := c.defn 45 (a := v_fK11) (x := "__init__") (q := "InvalidLine.__init__") (st := sIn11) rfl
  have oK11 : K18T0.ownT K "ValueError" "ValueError.__new__" ["value"] ["LookupError", "RuntimeError", "ArithmeticError"] (v_CK11 K) (v_fK11 K) = true := c.test 9 15 (l := ck9) (b := t195) rfl rfl
  have xK11 : K18T0.excT K (v_CK11 K) = true := c.test 9 16 (l := ck9) (b := t196) rfl rfl
  have nK11 : K18T0.nameT K "InvalidLine" (v_CK11 K) = true := c.test 9 17 (l := ck9) (b := t197) rfl rfl
  have aK12 : PySem.W.nsIn K mainGlobals "InvalidEvent" = some (some (.ref (v_CK12 K))) := of_decide_eq_true (c.test 9 18 (l := ck9) (b := t198) rfl rfl)
  have iK12 : PySem.W.findIn K (.ref (v_CK12 K)) "__init__" = some (some (.ref (v_fK12 K))) := of_decide_eq_true (c.test 9 19 (l := ck9) (b := t199) rfl rfl)
  obtain ⟨dK12, FK12, dK12_c⟩ := c.defn 46 (a := v_fK12) (x := "__init__") (q := "InvalidEvent.__init__") (st := sIn12) rfl
  have oK12 : K18T0.ownT K "ValueError" "ValueError.__new__" ["value"] ["LookupError", "RuntimeError", "ArithmeticError"] (v_CK12 K) (v_fK12 K) = true := c.test 10 0 (l := ck10) (b := t200) rfl rfl
  have xK12 : K18T0.excT K (v_CK12 K) = true := c.test 10 1 (l := ck10) (b := t201) rfl rfl
  have nK12 : K18T0.nameT K "InvalidEvent" (v_CK12 K) = true := c.test 10 2 (l := ck10) (b := t202) rfl rfl
  have aK13 : PySem.W.nsIn K mainGlobals "WrongValues" = some (some (.ref (v_CK13 K))) := of_decide_eq_true (c.test 10 3 (l := ck10) (b := t203) rfl rfl)
  have iK13 : PySem.W.findIn K (.ref (v_CK13 K)) "__init__" = some (some (.ref (v_fK13 K))) := of_decide_eq_true (c.test 10 4 (l := ck10) (b := t204) rfl rfl)
  obtain ⟨dK13, FK13, dK13_c⟩ := c.defn 47 (a := v_fK13) (x := "__init__") (q := "WrongValues.__init__") (st := sIn13) rfl
  have oK13 : K18T0.ownT K "ValueError" "ValueError.__new__" ["wrong"] ["LookupError", "RuntimeError", "ArithmeticError"] (v_CK13 K) (v_fK13 K) = true := c.test 10 5 (l := ck10) (b := t205) rfl rfl
  have xK13 : K18T0.excT K (v_CK13 K) = true := c.test 10 6 (l := ck10) (b := t206) rfl rfl
  have nK13 : K18T0.nameT K "WrongValues" (v_CK13 K) = true := c.test 10 7 (l := ck10) (b := t207) rfl rfl
  have aK14 : PySem.W.nsIn K mainGlobals "WrongSort" = some (some (.ref (v_CK14 K))) := of_decide_eq_true (c.test 10 8 (l := ck10) (b := t208) rfl rfl)
  have iK14 : PySem.W.findIn K (.ref (v_CK14 K)) "__init__" = some (some (.ref (v_fK14 K))) := of_decide_eq_true (c.test 10 9 (l := ck10) (b := t209) rfl rfl)
  obtain ⟨dK14, FK14, dK14_c⟩ := c.defn 48 (a := v_fK14) (x := "__init__") (q := "WrongSort.__init__") (st := sIn14) rfl
  have oK14 : K18T0.ownT K "ValueError" "ValueError.__new__" ["place"] ["LookupError", "RuntimeError", "ArithmeticError"] (v_CK14 K) (v_fK14 K) = true := c.test 10 10 (l := ck10) (b := t210) rfl rfl
  have xK14 : K18T0.excT K (v_CK14 K) = true := c.test 10 11 (l := ck10) (b := t211) rfl rfl
  have nK14 : K18T0.nameT K "WrongSort" (v_CK14 K) = true := c.test 10 12 (l := ck10) (b := t212) rfl rfl
  have aK15 : PySem.W.nsIn K mainGlobals "UnknownSource" = some (some (.ref (v_CK15 K))) := of_decide_eq_true (c.test 10 13 (l := ck10) (b := t213) rfl rfl)
  have iK15 : PySem.W.findIn K (.ref (v_CK15 K)) "__init__" = some (some (.ref (v_fK15 K))) := of_decide_eq_true (c.test 10 14 (l := ck10) (b := t214) rfl rfl)
  obtain ⟨dK15, FK15, dK15_c⟩ := c.defn 49 (a := v_fK15) (x := "__init__") (q := "UnknownSource.__init__") (st := sIn15) rfl
  have oK15 : K18T0.ownT K "LookupError" "LookupError.__new__" ["source"] ["ValueError", "RuntimeError", "ArithmeticError", "KeyError", "IndexError"] (v_CK15 K) (v_fK15 K) = true := c.test 10 15 (l := ck10) (b := t215) rfl rfl
  have xK15 : K18T0.excT K (v_CK15 K) = true := c.test 10 16 (l := ck10) (b := t216) rfl rfl
  have nK15 : K18T0.nameT K "UnknownSource" (v_CK15 K) = true := c.test 10 17 (l := ck10) (b := t217) rfl rfl
  have aK16 : PySem.W.nsIn K mainGlobals "UnknownColumn" = some (some (.ref (v_CK16 K))) := of_decide_eq_true (c.test 10 18 (l := ck10) (b := t218) rfl rfl)
  have iK16 : PySem.W.findIn K (.ref (v_CK16 K)) "__init__" = some (some (.ref (v_fK16 K))) := of_decide_eq_true (c.test 10 19 (l := ck10) (b := t219) rfl rfl)
  obtain ⟨dK16, FK16, dK16_c⟩ := c.defn 50 (a := v_fK16) (x := "__init__") (q := "UnknownColumn.__init__") (st := sIn16) rfl
  have oK16 : K18T0.ownT K "LookupError" "LookupError.__new__" ["column"] ["ValueError", "RuntimeError", "ArithmeticError", "KeyError", "IndexError"] (v_CK16 K) (v_fK16 K) = true := c.test 11 0 (l := ck11) (b := t220) rfl rfl
  have xK16 : K18T0.excT K (v_CK16 K) = true := c.test 11 1 (l := ck11) (b := t221) rfl rfl
  have nK16 : K18T0.nameT K "UnknownColumn" (v_CK16 K) = true := c.test 11 2 (l := ck11) (b := t222) rfl rfl
  have aK17 : PySem.W.nsIn K mainGlobals "UnknownKind" = some (some (.ref (v_CK17 K))) := of_decide_eq_true (c.test 11 3 (l := ck11) (b := t223) rfl rfl)
  have iK17 : PySem.W.findIn K (.ref (v_CK17 K)) "__init__" = some (some (.ref (v_fK17 K))) := of_decide_eq_true (c.test 11 4 (l := ck11) (b := t224) rfl rfl)
  obtain ⟨dK17, FK17, dK17_c⟩ := c.defn 51 (a := v_fK17) (x := "__init__") (q := "UnknownKind.__init__") (st := sIn17) rfl
  have oK17 : K18T0.ownT K "LookupError" "LookupError.__new__" ["kind"] ["ValueError", "RuntimeError", "ArithmeticError", "KeyError", "IndexError"] (v_CK17 K) (v_fK17 K) = true := c.test 11 5 (l := ck11) (b := t225) rfl rfl
  have xK17 : K18T0.excT K (v_CK17 K) = true := c.test 11 6 (l := ck11) (b := t226) rfl rfl
  have nK17 : K18T0.nameT K "UnknownKind" (v_CK17 K) = true := c.test 11 7 (l := ck11) (b := t227) rfl rfl
  have aK18 : PySem.W.nsIn K mainGlobals "UnknownEntry" = some (some (.ref (v_CK18 K))) := of_decide_eq_true (c.test 11 8 (l := ck11) (b := t228) rfl rfl)
  have iK18 : PySem.W.findIn K (.ref (v_CK18 K)) "__init__" = some (some (.ref (v_fK18 K))) := of_decide_eq_true (c.test 11 9 (l := ck11) (b := t229) rfl rfl)
  obtain ⟨dK18, FK18, dK18_c⟩ := c.defn 52 (a := v_fK18) (x := "__init__") (q := "UnknownEntry.__init__") (st := sIn18) rfl
  have oK18 : K18T0.ownT K "LookupError" "LookupError.__new__" ["name"] ["ValueError", "RuntimeError", "ArithmeticError", "KeyError", "IndexError"] (v_CK18 K) (v_fK18 K) = true := c.test 11 10 (l := ck11) (b := t230) rfl rfl
  have xK18 : K18T0.excT K (v_CK18 K) = true := c.test 11 11 (l := ck11) (b := t231) rfl rfl
  have nK18 : K18T0.nameT K "UnknownEntry" (v_CK18 K) = true := c.test 11 12 (l := ck11) (b := t232) rfl rfl
  have aK19 : PySem.W.nsIn K mainGlobals "NoEntry" = some (some (.ref (v_CK19 K))) := of_decide_eq_true (c.test 11 13 (l := ck11) (b := t233) rfl rfl)
  have iK19 : PySem.W.findIn K (.ref (v_CK19 K)) "__init__" = some (some (.ref (v_fK19 K))) := of_decide_eq_true (c.test 11 14 (l := ck11) (b := t234) rfl rfl)
  obtain ⟨dK19, FK19, dK19_c⟩ := c.defn 53 (a := v_fK19) (x := "__init__") (q := "NoEntry.__init__") (st := sIn19) rfl
  have oK19 : K18T0.ownT K "LookupError" "LookupError.__new__" ["key"] ["ValueError", "RuntimeError", "ArithmeticError", "KeyError", "IndexError"] (v_CK19 K) (v_fK19 K) = true := c.test 11 15 (l := ck11) (b := t235) rfl rfl
  have xK19 : K18T0.excT K (v_CK19 K) = true := c.test 11 16 (l := ck11) (b := t236) rfl rfl
  have nK19 : K18T0.nameT K "NoEntry" (v_CK19 K) = true := c.test 11 17 (l := ck11) (b := t237) rfl rfl
  have aK20 : PySem.W.nsIn K mainGlobals "NoRow" = some (some (.ref (v_CK20 K))) := of_decide_eq_true (c.test 11 18 (l := ck11) (b := t238) rfl rfl)
  have iK20 : PySem.W.findIn K (.ref (v_CK20 K)) "__init__" = some (some (.ref (v_fK20 K))) := of_decide_eq_true (c.test 11 19 (l := ck11) (b := t239) rfl rfl)
  obtain ⟨dK20, FK20, dK20_c⟩ := c.defn 54 (a := v_fK20) (x := "__init__") (q := "NoRow.__init__") (st := sIn20) rfl
  have oK20 : K18T0.ownT K "LookupError" "LookupError.__new__" ["key"] ["ValueError", "RuntimeError", "ArithmeticError", "KeyError", "IndexError"] (v_CK20 K) (v_fK20 K) = true := c.test 12 0 (l := ck12) (b := t240) rfl rfl
  have xK20 : K18T0.excT K (v_CK20 K) = true := c.test 12 1 (l := ck12) (b := t241) rfl rfl
  have nK20 : K18T0.nameT K "NoRow" (v_CK20 K) = true := c.test 12 2 (l := ck12) (b := t242) rfl rfl
  have aK21 : PySem.W.nsIn K mainGlobals "NoMemo" = some (some (.ref (v_CK21 K))) := of_decide_eq_true (c.test 12 3 (l := ck12) (b := t243) rfl rfl)
  have iK21 : PySem.W.findIn K (.ref (v_CK21 K)) "__init__" = some (some (.ref (v_fK21 K))) := of_decide_eq_true (c.test 12 4 (l := ck12) (b := t244) rfl rfl)
  obtain ⟨dK21, FK21, dK21_c⟩ := c.defn 55 (a := v_fK21) (x := "__init__") (q := "NoMemo.__init__") (st := sIn21) rfl
  have oK21 : K18T0.ownT K "LookupError" "LookupError.__new__" ["view"] ["ValueError", "RuntimeError", "ArithmeticError", "KeyError", "IndexError"] (v_CK21 K) (v_fK21 K) = true := c.test 12 5 (l := ck12) (b := t245) rfl rfl
  have xK21 : K18T0.excT K (v_CK21 K) = true := c.test 12 6 (l := ck12) (b := t246) rfl rfl
  have nK21 : K18T0.nameT K "NoMemo" (v_CK21 K) = true := c.test 12 7 (l := ck12) (b := t247) rfl rfl
  have aK22 : PySem.W.nsIn K mainGlobals "UnknownUser" = some (some (.ref (v_CK22 K))) := of_decide_eq_true (c.test 12 8 (l := ck12) (b := t248) rfl rfl)
  have iK22 : PySem.W.findIn K (.ref (v_CK22 K)) "__init__" = some (some (.ref (v_fK22 K))) := of_decide_eq_true (c.test 12 9 (l := ck12) (b := t249) rfl rfl)
  obtain ⟨dK22, FK22, dK22_c⟩ := c.defn 56 (a := v_fK22) (x := "__init__") (q := "UnknownUser.__init__") (st := sIn22) rfl
  have oK22 : K18T0.ownT K "LookupError" "LookupError.__new__" ["name"] ["ValueError", "RuntimeError", "ArithmeticError", "KeyError", "IndexError"] (v_CK22 K) (v_fK22 K) = true := c.test 12 10 (l := ck12) (b := t250) rfl rfl
  have xK22 : K18T0.excT K (v_CK22 K) = true := c.test 12 11 (l := ck12) (b := t251) rfl rfl
  have nK22 : K18T0.nameT K "UnknownUser" (v_CK22 K) = true := c.test 12 12 (l := ck12) (b := t252) rfl rfl
  have aK23 : PySem.W.nsIn K mainGlobals "UnknownOffer" = some (some (.ref (v_CK23 K))) := of_decide_eq_true (c.test 12 13 (l := ck12) (b := t253) rfl rfl)
  have iK23 : PySem.W.findIn K (.ref (v_CK23 K)) "__init__" = some (some (.ref (v_fK23 K))) := of_decide_eq_true (c.test 12 14 (l := ck12) (b := t254) rfl rfl)
  obtain ⟨dK23, FK23, dK23_c⟩ := c.defn 57 (a := v_fK23) (x := "__init__") (q := "UnknownOffer.__init__") (st := sIn23) rfl
  have oK23 : K18T0.ownT K "LookupError" "LookupError.__new__" ["number"] ["ValueError", "RuntimeError", "ArithmeticError", "KeyError", "IndexError"] (v_CK23 K) (v_fK23 K) = true := c.test 12 15 (l := ck12) (b := t255) rfl rfl
  have xK23 : K18T0.excT K (v_CK23 K) = true := c.test 12 16 (l := ck12) (b := t256) rfl rfl
  have nK23 : K18T0.nameT K "UnknownOffer" (v_CK23 K) = true := c.test 12 17 (l := ck12) (b := t257) rfl rfl
  have aK24 : PySem.W.nsIn K mainGlobals "NameTaken" = some (some (.ref (v_CK24 K))) := of_decide_eq_true (c.test 12 18 (l := ck12) (b := t258) rfl rfl)
  have iK24 : PySem.W.findIn K (.ref (v_CK24 K)) "__init__" = some (some (.ref (v_fK24 K))) := of_decide_eq_true (c.test 12 19 (l := ck12) (b := t259) rfl rfl)
  obtain ⟨dK24, FK24, dK24_c⟩ := c.defn 58 (a := v_fK24) (x := "__init__") (q := "NameTaken.__init__") (st := sIn24) rfl
  have oK24 : K18T0.ownT K "RuntimeError" "RuntimeError.__new__" ["name"] ["ValueError", "LookupError", "ArithmeticError"] (v_CK24 K) (v_fK24 K) = true := c.test 13 0 (l := ck13) (b := t260) rfl rfl
  have xK24 : K18T0.excT K (v_CK24 K) = true := c.test 13 1 (l := ck13) (b := t261) rfl rfl
  have nK24 : K18T0.nameT K "NameTaken" (v_CK24 K) = true := c.test 13 2 (l := ck13) (b := t262) rfl rfl
  have aK25 : PySem.W.nsIn K mainGlobals "Taken" = some (some (.ref (v_CK25 K))) := of_decide_eq_true (c.test 13 3 (l := ck13) (b := t263) rfl rfl)
  have iK25 : PySem.W.findIn K (.ref (v_CK25 K)) "__init__" = some (some (.ref (v_fK25 K))) := of_decide_eq_true (c.test 13 4 (l := ck13) (b := t264) rfl rfl)
  obtain ⟨dK25, FK25, dK25_c⟩ := c.defn 59 (a := v_fK25) (x := "__init__") (q := "Taken.__init__") (st := sIn25) rfl
  have oK25 : K18T0.ownT K "RuntimeError" "RuntimeError.__new__" ["key"] ["ValueError", "LookupError", "ArithmeticError"] (v_CK25 K) (v_fK25 K) = true := c.test 13 5 (l := ck13) (b := t265) rfl rfl
  have xK25 : K18T0.excT K (v_CK25 K) = true := c.test 13 6 (l := ck13) (b := t266) rfl rfl
  have nK25 : K18T0.nameT K "Taken" (v_CK25 K) = true := c.test 13 7 (l := ck13) (b := t267) rfl rfl
  have aK26 : PySem.W.nsIn K mainGlobals "Waiting" = some (some (.ref (v_CK26 K))) := of_decide_eq_true (c.test 13 8 (l := ck13) (b := t268) rfl rfl)
  have iK26 : PySem.W.findIn K (.ref (v_CK26 K)) "__init__" = some (some (.ref (v_fK26 K))) := of_decide_eq_true (c.test 13 9 (l := ck13) (b := t269) rfl rfl)
  obtain ⟨dK26, FK26, dK26_c⟩ := c.defn 60 (a := v_fK26) (x := "__init__") (q := "Waiting.__init__") (st := sIn26) rfl
  have oK26 : K18T0.ownT K "RuntimeError" "RuntimeError.__new__" ["key"] ["ValueError", "LookupError", "ArithmeticError"] (v_CK26 K) (v_fK26 K) = true := c.test 13 10 (l := ck13) (b := t270) rfl rfl
  have xK26 : K18T0.excT K (v_CK26 K) = true := c.test 13 11 (l := ck13) (b := t271) rfl rfl
  have nK26 : K18T0.nameT K "Waiting" (v_CK26 K) = true := c.test 13 12 (l := ck13) (b := t272) rfl rfl
  have aK27 : PySem.W.nsIn K mainGlobals "Missing" = some (some (.ref (v_CK27 K))) := of_decide_eq_true (c.test 13 13 (l := ck13) (b := t273) rfl rfl)
  have iK27 : PySem.W.findIn K (.ref (v_CK27 K)) "__init__" = some (some (.ref (v_fK27 K))) := of_decide_eq_true (c.test 13 14 (l := ck13) (b := t274) rfl rfl)
  obtain ⟨dK27, FK27, dK27_c⟩ := c.defn 61 (a := v_fK27) (x := "__init__") (q := "Missing.__init__") (st := sIn27) rfl
  have oK27 : K18T0.ownT K "RuntimeError" "RuntimeError.__new__" ["reference", "key"] ["ValueError", "LookupError", "ArithmeticError"] (v_CK27 K) (v_fK27 K) = true := c.test 13 15 (l := ck13) (b := t275) rfl rfl
  have xK27 : K18T0.excT K (v_CK27 K) = true := c.test 13 16 (l := ck13) (b := t276) rfl rfl
  have nK27 : K18T0.nameT K "Missing" (v_CK27 K) = true := c.test 13 17 (l := ck13) (b := t277) rfl rfl
  have aK28 : PySem.W.nsIn K mainGlobals "Broken" = some (some (.ref (v_CK28 K))) := of_decide_eq_true (c.test 13 18 (l := ck13) (b := t278) rfl rfl)
  have iK28 : PySem.W.findIn K (.ref (v_CK28 K)) "__init__" = some (some (.ref (v_fK28 K))) := of_decide_eq_true (c.test 13 19 (l := ck13) (b := t279) rfl rfl)
  obtain ⟨dK28, FK28, dK28_c⟩ := c.defn 62 (a := v_fK28) (x := "__init__") (q := "Broken.__init__") (st := sIn28) rfl
  have oK28 : K18T0.ownT K "RuntimeError" "RuntimeError.__new__" ["check", "key"] ["ValueError", "LookupError", "ArithmeticError"] (v_CK28 K) (v_fK28 K) = true := c.test 14 0 (l := ck14) (b := t280) rfl rfl
  have xK28 : K18T0.excT K (v_CK28 K) = true := c.test 14 1 (l := ck14) (b := t281) rfl rfl
  have nK28 : K18T0.nameT K "Broken" (v_CK28 K) = true := c.test 14 2 (l := ck14) (b := t282) rfl rfl
  have aK29 : PySem.W.nsIn K mainGlobals "Restricted" = some (some (.ref (v_CK29 K))) := of_decide_eq_true (c.test 14 3 (l := ck14) (b := t283) rfl rfl)
  have iK29 : PySem.W.findIn K (.ref (v_CK29 K)) "__init__" = some (some (.ref (v_fK29 K))) := of_decide_eq_true (c.test 14 4 (l := ck14) (b := t284) rfl rfl)
  obtain ⟨dK29, FK29, dK29_c⟩ := c.defn 63 (a := v_fK29) (x := "__init__") (q := "Restricted.__init__") (st := sIn29) rfl
  have oK29 : K18T0.ownT K "RuntimeError" "RuntimeError.__new__" ["reference", "key"] ["ValueError", "LookupError", "ArithmeticError"] (v_CK29 K) (v_fK29 K) = true := c.test 14 5 (l := ck14) (b := t285) rfl rfl
  have xK29 : K18T0.excT K (v_CK29 K) = true := c.test 14 6 (l := ck14) (b := t286) rfl rfl
  have nK29 : K18T0.nameT K "Restricted" (v_CK29 K) = true := c.test 14 7 (l := ck14) (b := t287) rfl rfl
  have aK30 : PySem.W.nsIn K mainGlobals "InUse" = some (some (.ref (v_CK30 K))) := of_decide_eq_true (c.test 14 8 (l := ck14) (b := t288) rfl rfl)
  have iK30 : PySem.W.findIn K (.ref (v_CK30 K)) "__init__" = some (some (.ref (v_fK30 K))) := of_decide_eq_true (c.test 14 9 (l := ck14) (b := t289) rfl rfl)
  obtain ⟨dK30, FK30, dK30_c⟩ := c.defn 64 (a := v_fK30) (x := "__init__") (q := "InUse.__init__") (st := sIn30) rfl
  have oK30 : K18T0.ownT K "RuntimeError" "RuntimeError.__new__" ["kind", "name"] ["ValueError", "LookupError", "ArithmeticError"] (v_CK30 K) (v_fK30 K) = true := c.test 14 10 (l := ck14) (b := t290) rfl rfl
  have xK30 : K18T0.excT K (v_CK30 K) = true := c.test 14 11 (l := ck14) (b := t291) rfl rfl
  have nK30 : K18T0.nameT K "InUse" (v_CK30 K) = true := c.test 14 12 (l := ck14) (b := t292) rfl rfl
  have aK31 : PySem.W.nsIn K mainGlobals "WouldSuspend" = some (some (.ref (v_CK31 K))) := of_decide_eq_true (c.test 14 13 (l := ck14) (b := t293) rfl rfl)
  have iK31 : PySem.W.findIn K (.ref (v_CK31 K)) "__init__" = some (some (.ref (v_fK31 K))) := of_decide_eq_true (c.test 14 14 (l := ck14) (b := t294) rfl rfl)
  obtain ⟨dK31, FK31, dK31_c⟩ := c.defn 65 (a := v_fK31) (x := "__init__") (q := "WouldSuspend.__init__") (st := sIn31) rfl
  have oK31 : K18T0.ownT K "RuntimeError" "RuntimeError.__new__" ["source", "key"] ["ValueError", "LookupError", "ArithmeticError"] (v_CK31 K) (v_fK31 K) = true := c.test 14 15 (l := ck14) (b := t295) rfl rfl
  have xK31 : K18T0.excT K (v_CK31 K) = true := c.test 14 16 (l := ck14) (b := t296) rfl rfl
  have nK31 : K18T0.nameT K "WouldSuspend" (v_CK31 K) = true := c.test 14 17 (l := ck14) (b := t297) rfl rfl
  have aK32 : PySem.W.nsIn K mainGlobals "ReplayDiffers" = some (some (.ref (v_CK32 K))) := of_decide_eq_true (c.test 14 18 (l := ck14) (b := t298) rfl rfl)
  have iK32 : PySem.W.findIn K (.ref (v_CK32 K)) "__init__" = some (some (.ref (v_fK32 K))) := of_decide_eq_true (c.test 14 19 (l := ck14) (b := t299) rfl rfl)
  obtain ⟨dK32, FK32, dK32_c⟩ := c.defn 66 (a := v_fK32) (x := "__init__") (q := "ReplayDiffers.__init__") (st := sIn32) rfl
  have oK32 : K18T0.ownT K "RuntimeError" "RuntimeError.__new__" ["position", "was", "now"] ["ValueError", "LookupError", "ArithmeticError"] (v_CK32 K) (v_fK32 K) = true := c.test 15 0 (l := ck15) (b := t300) rfl rfl
  have xK32 : K18T0.excT K (v_CK32 K) = true := c.test 15 1 (l := ck15) (b := t301) rfl rfl
  have nK32 : K18T0.nameT K "ReplayDiffers" (v_CK32 K) = true := c.test 15 2 (l := ck15) (b := t302) rfl rfl
  have aK33 : PySem.W.nsIn K mainGlobals "InTransaction" = some (some (.ref (v_CK33 K))) := of_decide_eq_true (c.test 15 3 (l := ck15) (b := t303) rfl rfl)
  have iK33 : PySem.W.findIn K (.ref (v_CK33 K)) "__init__" = some (some (.ref (v_fK33 K))) := of_decide_eq_true (c.test 15 4 (l := ck15) (b := t304) rfl rfl)
  obtain ⟨dK33, FK33, dK33_c⟩ := c.defn 67 (a := v_fK33) (x := "__init__") (q := "InTransaction.__init__") (st := sIn33) rfl
  have oK33 : K18T0.ownT K "RuntimeError" "RuntimeError.__new__" ["session"] ["ValueError", "LookupError", "ArithmeticError"] (v_CK33 K) (v_fK33 K) = true := c.test 15 5 (l := ck15) (b := t305) rfl rfl
  have xK33 : K18T0.excT K (v_CK33 K) = true := c.test 15 6 (l := ck15) (b := t306) rfl rfl
  have nK33 : K18T0.nameT K "InTransaction" (v_CK33 K) = true := c.test 15 7 (l := ck15) (b := t307) rfl rfl
  have aK34 : PySem.W.nsIn K mainGlobals "NoTransaction" = some (some (.ref (v_CK34 K))) := of_decide_eq_true (c.test 15 8 (l := ck15) (b := t308) rfl rfl)
  have iK34 : PySem.W.findIn K (.ref (v_CK34 K)) "__init__" = some (some (.ref (v_fK34 K))) := of_decide_eq_true (c.test 15 9 (l := ck15) (b := t309) rfl rfl)
  obtain ⟨dK34, FK34, dK34_c⟩ := c.defn 68 (a := v_fK34) (x := "__init__") (q := "NoTransaction.__init__") (st := sIn34) rfl
  have oK34 : K18T0.ownT K "RuntimeError" "RuntimeError.__new__" ["session"] ["ValueError", "LookupError", "ArithmeticError"] (v_CK34 K) (v_fK34 K) = true := c.test 15 10 (l := ck15) (b := t310) rfl rfl
  have xK34 : K18T0.excT K (v_CK34 K) = true := c.test 15 11 (l := ck15) (b := t311) rfl rfl
  have nK34 : K18T0.nameT K "NoTransaction" (v_CK34 K) = true := c.test 15 12 (l := ck15) (b := t312) rfl rfl
  have aK35 : PySem.W.nsIn K mainGlobals "SessionEnded" = some (some (.ref (v_CK35 K))) := of_decide_eq_true (c.test 15 13 (l := ck15) (b := t313) rfl rfl)
  have iK35 : PySem.W.findIn K (.ref (v_CK35 K)) "__init__" = some (some (.ref (v_fK35 K))) := of_decide_eq_true (c.test 15 14 (l := ck15) (b := t314) rfl rfl)
  obtain ⟨dK35, FK35, dK35_c⟩ := c.defn 69 (a := v_fK35) (x := "__init__") (q := "SessionEnded.__init__") (st := sIn35) rfl
  have oK35 : K18T0.ownT K "RuntimeError" "RuntimeError.__new__" ["session"] ["ValueError", "LookupError", "ArithmeticError"] (v_CK35 K) (v_fK35 K) = true := c.test 15 15 (l := ck15) (b := t315) rfl rfl
  have xK35 : K18T0.excT K (v_CK35 K) = true := c.test 15 16 (l := ck15) (b := t316) rfl rfl
  have nK35 : K18T0.nameT K "SessionEnded" (v_CK35 K) = true := c.test 15 17 (l := ck15) (b := t317) rfl rfl
  have aK36 : PySem.W.nsIn K mainGlobals "OwnOffer" = some (some (.ref (v_CK36 K))) := of_decide_eq_true (c.test 15 18 (l := ck15) (b := t318) rfl rfl)
  have iK36 : PySem.W.findIn K (.ref (v_CK36 K)) "__init__" = some (some (.ref (v_fK36 K))) := of_decide_eq_true (c.test 15 19 (l := ck15) (b := t319) rfl rfl)
  obtain ⟨dK36, FK36, dK36_c⟩ := c.defn 70 (a := v_fK36) (x := "__init__") (q := "OwnOffer.__init__") (st := sIn36) rfl
  have oK36 : K18T0.ownT K "RuntimeError" "RuntimeError.__new__" ["number"] ["ValueError", "LookupError", "ArithmeticError"] (v_CK36 K) (v_fK36 K) = true := c.test 16 0 (l := ck16) (b := t320) rfl rfl
  have xK36 : K18T0.excT K (v_CK36 K) = true := c.test 16 1 (l := ck16) (b := t321) rfl rfl
  have nK36 : K18T0.nameT K "OwnOffer" (v_CK36 K) = true := c.test 16 2 (l := ck16) (b := t322) rfl rfl
  have aK37 : PySem.W.nsIn K mainGlobals "NotAllowed" = some (some (.ref (v_CK37 K))) := of_decide_eq_true (c.test 16 3 (l := ck16) (b := t323) rfl rfl)
  have iK37 : PySem.W.findIn K (.ref (v_CK37 K)) "__init__" = some (some (.ref (v_fK37 K))) := of_decide_eq_true (c.test 16 4 (l := ck16) (b := t324) rfl rfl)
  obtain ⟨dK37, FK37, dK37_c⟩ := c.defn 71 (a := v_fK37) (x := "__init__") (q := "NotAllowed.__init__") (st := sIn37) rfl
  have oK37 : K18T0.ownT K "RuntimeError" "RuntimeError.__new__" ["mark"] ["ValueError", "LookupError", "ArithmeticError"] (v_CK37 K) (v_fK37 K) = true := c.test 16 5 (l := ck16) (b := t325) rfl rfl
  have xK37 : K18T0.excT K (v_CK37 K) = true := c.test 16 6 (l := ck16) (b := t326) rfl rfl
  have nK37 : K18T0.nameT K "NotAllowed" (v_CK37 K) = true := c.test 16 7 (l := ck16) (b := t327) rfl rfl
  have aK38 : PySem.W.nsIn K mainGlobals "OutOfSequence" = some (some (.ref (v_CK38 K))) := of_decide_eq_true (c.test 16 8 (l := ck16) (b := t328) rfl rfl)
  have iK38 : PySem.W.findIn K (.ref (v_CK38 K)) "__init__" = some (some (.ref (v_fK38 K))) := of_decide_eq_true (c.test 16 9 (l := ck16) (b := t329) rfl rfl)
  obtain ⟨dK38, FK38, dK38_c⟩ := c.defn 72 (a := v_fK38) (x := "__init__") (q := "OutOfSequence.__init__") (st := sIn38) rfl
  have oK38 : K18T0.ownT K "RuntimeError" "RuntimeError.__new__" ["number"] ["ValueError", "LookupError", "ArithmeticError"] (v_CK38 K) (v_fK38 K) = true := c.test 16 10 (l := ck16) (b := t330) rfl rfl
  have xK38 : K18T0.excT K (v_CK38 K) = true := c.test 16 11 (l := ck16) (b := t331) rfl rfl
  have nK38 : K18T0.nameT K "OutOfSequence" (v_CK38 K) = true := c.test 16 12 (l := ck16) (b := t332) rfl rfl
  have aK39 : PySem.W.nsIn K mainGlobals "Behind" = some (some (.ref (v_CK39 K))) := of_decide_eq_true (c.test 16 13 (l := ck16) (b := t333) rfl rfl)
  have iK39 : PySem.W.findIn K (.ref (v_CK39 K)) "__init__" = some (some (.ref (v_fK39 K))) := of_decide_eq_true (c.test 16 14 (l := ck16) (b := t334) rfl rfl)
  obtain ⟨dK39, FK39, dK39_c⟩ := c.defn 73 (a := v_fK39) (x := "__init__") (q := "Behind.__init__") (st := sIn39) rfl
  have oK39 : K18T0.ownT K "RuntimeError" "RuntimeError.__new__" ["cut"] ["ValueError", "LookupError", "ArithmeticError"] (v_CK39 K) (v_fK39 K) = true := c.test 16 15 (l := ck16) (b := t335) rfl rfl
  have xK39 : K18T0.excT K (v_CK39 K) = true := c.test 16 16 (l := ck16) (b := t336) rfl rfl
  have nK39 : K18T0.nameT K "Behind" (v_CK39 K) = true := c.test 16 17 (l := ck16) (b := t337) rfl rfl
  have aK40 : PySem.W.nsIn K mainGlobals "TooMany" = some (some (.ref (v_CK40 K))) := of_decide_eq_true (c.test 16 18 (l := ck16) (b := t338) rfl rfl)
  have iK40 : PySem.W.findIn K (.ref (v_CK40 K)) "__init__" = some (some (.ref (v_fK40 K))) := of_decide_eq_true (c.test 16 19 (l := ck16) (b := t339) rfl rfl)
  obtain ⟨dK40, FK40, dK40_c⟩ := c.defn 74 (a := v_fK40) (x := "__init__") (q := "TooMany.__init__") (st := sIn40) rfl
  have oK40 : K18T0.ownT K "ArithmeticError" "ArithmeticError.__new__" ["kind", "limit"] ["ValueError", "LookupError", "RuntimeError", "ZeroDivisionError", "OverflowError"] (v_CK40 K) (v_fK40 K) = true := c.test 17 0 (l := ck17) (b := t340) rfl rfl
  have xK40 : K18T0.excT K (v_CK40 K) = true := c.test 17 1 (l := ck17) (b := t341) rfl rfl
  have nK40 : K18T0.nameT K "TooMany" (v_CK40 K) = true := c.test 17 2 (l := ck17) (b := t342) rfl rfl
  have aK41 : PySem.W.nsIn K mainGlobals "TooDear" = some (some (.ref (v_CK41 K))) := of_decide_eq_true (c.test 17 3 (l := ck17) (b := t343) rfl rfl)
  have iK41 : PySem.W.findIn K (.ref (v_CK41 K)) "__init__" = some (some (.ref (v_fK41 K))) := of_decide_eq_true (c.test 17 4 (l := ck17) (b := t344) rfl rfl)
  obtain ⟨dK41, FK41, dK41_c⟩ := c.defn 75 (a := v_fK41) (x := "__init__") (q := "TooDear.__init__") (st := sIn41) rfl
  have oK41 : K18T0.ownT K "ArithmeticError" "ArithmeticError.__new__" ["limit"] ["ValueError", "LookupError", "RuntimeError", "ZeroDivisionError", "OverflowError"] (v_CK41 K) (v_fK41 K) = true := c.test 17 5 (l := ck17) (b := t345) rfl rfl
  have xK41 : K18T0.excT K (v_CK41 K) = true := c.test 17 6 (l := ck17) (b := t346) rfl rfl
  have nK41 : K18T0.nameT K "TooDear" (v_CK41 K) = true := c.test 17 7 (l := ck17) (b := t347) rfl rfl
  have aK42 : PySem.W.nsIn K mainGlobals "InvalidError" = some (some (.ref (v_CK42 K))) := of_decide_eq_true (c.test 17 8 (l := ck17) (b := t348) rfl rfl)
  have aK43 : PySem.W.nsIn K mainGlobals "MissingError" = some (some (.ref (v_CK43 K))) := of_decide_eq_true (c.test 17 9 (l := ck17) (b := t349) rfl rfl)
  have aK44 : PySem.W.nsIn K mainGlobals "StateError" = some (some (.ref (v_CK44 K))) := of_decide_eq_true (c.test 17 10 (l := ck17) (b := t350) rfl rfl)
  have aK45 : PySem.W.nsIn K mainGlobals "LimitError" = some (some (.ref (v_CK45 K))) := of_decide_eq_true (c.test 17 11 (l := ck17) (b := t351) rfl rfl)
  have kK0 : K18T0.kitRow K (v_CK0 K) 0 0 [(v_CK0 K), (v_CK1 K), (v_CK2 K), (v_CK3 K), (v_CK4 K), (v_CK5 K), (v_CK6 K), (v_CK7 K), (v_CK8 K), (v_CK9 K), (v_CK10 K), (v_CK11 K), (v_CK12 K), (v_CK13 K), (v_CK14 K), (v_CK15 K), (v_CK16 K), (v_CK17 K), (v_CK18 K), (v_CK19 K), (v_CK20 K), (v_CK21 K), (v_CK22 K), (v_CK23 K), (v_CK24 K), (v_CK25 K), (v_CK26 K), (v_CK27 K), (v_CK28 K), (v_CK29 K), (v_CK30 K), (v_CK31 K), (v_CK32 K), (v_CK33 K), (v_CK34 K), (v_CK35 K), (v_CK36 K), (v_CK37 K), (v_CK38 K), (v_CK39 K), (v_CK40 K), (v_CK41 K), (v_CK42 K), (v_CK43 K), (v_CK44 K), (v_CK45 K)] = true := c.test 17 12 (l := ck17) (b := t352) rfl rfl
  have kK1 : K18T0.kitRow K (v_CK1 K) 1 0 [(v_CK0 K), (v_CK1 K), (v_CK2 K), (v_CK3 K), (v_CK4 K), (v_CK5 K), (v_CK6 K), (v_CK7 K), (v_CK8 K), (v_CK9 K), (v_CK10 K), (v_CK11 K), (v_CK12 K), (v_CK13 K), (v_CK14 K), (v_CK15 K), (v_CK16 K), (v_CK17 K), (v_CK18 K), (v_CK19 K), (v_CK20 K), (v_CK21 K), (v_CK22 K), (v_CK23 K), (v_CK24 K), (v_CK25 K), (v_CK26 K), (v_CK27 K), (v_CK28 K), (v_CK29 K), (v_CK30 K), (v_CK31 K), (v_CK32 K), (v_CK33 K), (v_CK34 K), (v_CK35 K), (v_CK36 K), (v_CK37 K), (v_CK38 K), (v_CK39 K), (v_CK40 K), (v_CK41 K), (v_CK42 K), (v_CK43 K), (v_CK44 K), (v_CK45 K)] = true := c.test 17 13 (l := ck17) (b := t353) rfl rfl
  have kK2 : K18T0.kitRow K (v_CK2 K) 2 0 [(v_CK0 K), (v_CK1 K), (v_CK2 K), (v_CK3 K), (v_CK4 K), (v_CK5 K), (v_CK6 K), (v_CK7 K), (v_CK8 K), (v_CK9 K), (v_CK10 K), (v_CK11 K), (v_CK12 K), (v_CK13 K), (v_CK14 K), (v_CK15 K), (v_CK16 K), (v_CK17 K), (v_CK18 K), (v_CK19 K), (v_CK20 K), (v_CK21 K), (v_CK22 K), (v_CK23 K), (v_CK24 K), (v_CK25 K), (v_CK26 K), (v_CK27 K), (v_CK28 K), (v_CK29 K), (v_CK30 K), (v_CK31 K), (v_CK32 K), (v_CK33 K), (v_CK34 K), (v_CK35 K), (v_CK36 K), (v_CK37 K), (v_CK38 K), (v_CK39 K), (v_CK40 K), (v_CK41 K), (v_CK42 K), (v_CK43 K), (v_CK44 K), (v_CK45 K)] = true := c.test 17 14 (l := ck17) (b := t354) rfl rfl
  have kK3 : K18T0.kitRow K (v_CK3 K) 3 0 [(v_CK0 K), (v_CK1 K), (v_CK2 K), (v_CK3 K), (v_CK4 K), (v_CK5 K), (v_CK6 K), (v_CK7 K), (v_CK8 K), (v_CK9 K), (v_CK10 K), (v_CK11 K), (v_CK12 K), (v_CK13 K), (v_CK14 K), (v_CK15 K), (v_CK16 K), (v_CK17 K), (v_CK18 K), (v_CK19 K), (v_CK20 K), (v_CK21 K), (v_CK22 K), (v_CK23 K), (v_CK24 K), (v_CK25 K), (v_CK26 K), (v_CK27 K), (v_CK28 K), (v_CK29 K), (v_CK30 K), (v_CK31 K), (v_CK32 K), (v_CK33 K), (v_CK34 K), (v_CK35 K), (v_CK36 K), (v_CK37 K), (v_CK38 K), (v_CK39 K), (v_CK40 K), (v_CK41 K), (v_CK42 K), (v_CK43 K), (v_CK44 K), (v_CK45 K)] = true := c.test 17 15 (l := ck17) (b := t355) rfl rfl
  have kK4 : K18T0.kitRow K (v_CK4 K) 4 0 [(v_CK0 K), (v_CK1 K), (v_CK2 K), (v_CK3 K), (v_CK4 K), (v_CK5 K), (v_CK6 K), (v_CK7 K), (v_CK8 K), (v_CK9 K), (v_CK10 K), (v_CK11 K), (v_CK12 K), (v_CK13 K), (v_CK14 K), (v_CK15 K), (v_CK16 K), (v_CK17 K), (v_CK18 K), (v_CK19 K), (v_CK20 K), (v_CK21 K), (v_CK22 K), (v_CK23 K), (v_CK24 K), (v_CK25 K), (v_CK26 K), (v_CK27 K), (v_CK28 K), (v_CK29 K), (v_CK30 K), (v_CK31 K), (v_CK32 K), (v_CK33 K), (v_CK34 K), (v_CK35 K), (v_CK36 K), (v_CK37 K), (v_CK38 K), (v_CK39 K), (v_CK40 K), (v_CK41 K), (v_CK42 K), (v_CK43 K), (v_CK44 K), (v_CK45 K)] = true := c.test 17 16 (l := ck17) (b := t356) rfl rfl
  have kK5 : K18T0.kitRow K (v_CK5 K) 5 0 [(v_CK0 K), (v_CK1 K), (v_CK2 K), (v_CK3 K), (v_CK4 K), (v_CK5 K), (v_CK6 K), (v_CK7 K), (v_CK8 K), (v_CK9 K), (v_CK10 K), (v_CK11 K), (v_CK12 K), (v_CK13 K), (v_CK14 K), (v_CK15 K), (v_CK16 K), (v_CK17 K), (v_CK18 K), (v_CK19 K), (v_CK20 K), (v_CK21 K), (v_CK22 K), (v_CK23 K), (v_CK24 K), (v_CK25 K), (v_CK26 K), (v_CK27 K), (v_CK28 K), (v_CK29 K), (v_CK30 K), (v_CK31 K), (v_CK32 K), (v_CK33 K), (v_CK34 K), (v_CK35 K), (v_CK36 K), (v_CK37 K), (v_CK38 K), (v_CK39 K), (v_CK40 K), (v_CK41 K), (v_CK42 K), (v_CK43 K), (v_CK44 K), (v_CK45 K)] = true := c.test 17 17 (l := ck17) (b := t357) rfl rfl
  have kK6 : K18T0.kitRow K (v_CK6 K) 6 0 [(v_CK0 K), (v_CK1 K), (v_CK2 K), (v_CK3 K), (v_CK4 K), (v_CK5 K), (v_CK6 K), (v_CK7 K), (v_CK8 K), (v_CK9 K), (v_CK10 K), (v_CK11 K), (v_CK12 K), (v_CK13 K), (v_CK14 K), (v_CK15 K), (v_CK16 K), (v_CK17 K), (v_CK18 K), (v_CK19 K), (v_CK20 K), (v_CK21 K), (v_CK22 K), (v_CK23 K), (v_CK24 K), (v_CK25 K), (v_CK26 K), (v_CK27 K), (v_CK28 K), (v_CK29 K), (v_CK30 K), (v_CK31 K), (v_CK32 K), (v_CK33 K), (v_CK34 K), (v_CK35 K), (v_CK36 K), (v_CK37 K), (v_CK38 K), (v_CK39 K), (v_CK40 K), (v_CK41 K), (v_CK42 K), (v_CK43 K), (v_CK44 K), (v_CK45 K)] = true := c.test 17 18 (l := ck17) (b := t358) rfl rfl
  have kK7 : K18T0.kitRow K (v_CK7 K) 7 0 [(v_CK0 K), (v_CK1 K), (v_CK2 K), (v_CK3 K), (v_CK4 K), (v_CK5 K), (v_CK6 K), (v_CK7 K), (v_CK8 K), (v_CK9 K), (v_CK10 K), (v_CK11 K), (v_CK12 K), (v_CK13 K), (v_CK14 K), (v_CK15 K), (v_CK16 K), (v_CK17 K), (v_CK18 K), (v_CK19 K), (v_CK20 K), (v_CK21 K), (v_CK22 K), (v_CK23 K), (v_CK24 K), (v_CK25 K), (v_CK26 K), (v_CK27 K), (v_CK28 K), (v_CK29 K), (v_CK30 K), (v_CK31 K), (v_CK32 K), (v_CK33 K), (v_CK34 K), (v_CK35 K), (v_CK36 K), (v_CK37 K), (v_CK38 K), (v_CK39 K), (v_CK40 K), (v_CK41 K), (v_CK42 K), (v_CK43 K), (v_CK44 K), (v_CK45 K)] = true := c.test 17 19 (l := ck17) (b := t359) rfl rfl
  have kK8 : K18T0.kitRow K (v_CK8 K) 8 0 [(v_CK0 K), (v_CK1 K), (v_CK2 K), (v_CK3 K), (v_CK4 K), (v_CK5 K), (v_CK6 K), (v_CK7 K), (v_CK8 K), (v_CK9 K), (v_CK10 K), (v_CK11 K), (v_CK12 K), (v_CK13 K), (v_CK14 K), (v_CK15 K), (v_CK16 K), (v_CK17 K), (v_CK18 K), (v_CK19 K), (v_CK20 K), (v_CK21 K), (v_CK22 K), (v_CK23 K), (v_CK24 K), (v_CK25 K), (v_CK26 K), (v_CK27 K), (v_CK28 K), (v_CK29 K), (v_CK30 K), (v_CK31 K), (v_CK32 K), (v_CK33 K), (v_CK34 K), (v_CK35 K), (v_CK36 K), (v_CK37 K), (v_CK38 K), (v_CK39 K), (v_CK40 K), (v_CK41 K), (v_CK42 K), (v_CK43 K), (v_CK44 K), (v_CK45 K)] = true := c.test 18 0 (l := ck18) (b := t360) rfl rfl
  have kK9 : K18T0.kitRow K (v_CK9 K) 9 0 [(v_CK0 K), (v_CK1 K), (v_CK2 K), (v_CK3 K), (v_CK4 K), (v_CK5 K), (v_CK6 K), (v_CK7 K), (v_CK8 K), (v_CK9 K), (v_CK10 K), (v_CK11 K), (v_CK12 K), (v_CK13 K), (v_CK14 K), (v_CK15 K), (v_CK16 K), (v_CK17 K), (v_CK18 K), (v_CK19 K), (v_CK20 K), (v_CK21 K), (v_CK22 K), (v_CK23 K), (v_CK24 K), (v_CK25 K), (v_CK26 K), (v_CK27 K), (v_CK28 K), (v_CK29 K), (v_CK30 K), (v_CK31 K), (v_CK32 K), (v_CK33 K), (v_CK34 K), (v_CK35 K), (v_CK36 K), (v_CK37 K), (v_CK38 K), (v_CK39 K), (v_CK40 K), (v_CK41 K), (v_CK42 K), (v_CK43 K), (v_CK44 K), (v_CK45 K)] = true := c.test 18 1 (l := ck18) (b := t361) rfl rfl
  have kK10 : K18T0.kitRow K (v_CK10 K) 10 0 [(v_CK0 K), (v_CK1 K), (v_CK2 K), (v_CK3 K), (v_CK4 K), (v_CK5 K), (v_CK6 K), (v_CK7 K), (v_CK8 K), (v_CK9 K), (v_CK10 K), (v_CK11 K), (v_CK12 K), (v_CK13 K), (v_CK14 K), (v_CK15 K), (v_CK16 K), (v_CK17 K), (v_CK18 K), (v_CK19 K), (v_CK20 K), (v_CK21 K), (v_CK22 K), (v_CK23 K), (v_CK24 K), (v_CK25 K), (v_CK26 K), (v_CK27 K), (v_CK28 K), (v_CK29 K), (v_CK30 K), (v_CK31 K), (v_CK32 K), (v_CK33 K), (v_CK34 K), (v_CK35 K), (v_CK36 K), (v_CK37 K), (v_CK38 K), (v_CK39 K), (v_CK40 K), (v_CK41 K), (v_CK42 K), (v_CK43 K), (v_CK44 K), (v_CK45 K)] = true := c.test 18 2 (l := ck18) (b := t362) rfl rfl
  have kK11 : K18T0.kitRow K (v_CK11 K) 11 0 [(v_CK0 K), (v_CK1 K), (v_CK2 K), (v_CK3 K), (v_CK4 K), (v_CK5 K), (v_CK6 K), (v_CK7 K), (v_CK8 K), (v_CK9 K), (v_CK10 K), (v_CK11 K), (v_CK12 K), (v_CK13 K), (v_CK14 K), (v_CK15 K), (v_CK16 K), (v_CK17 K), (v_CK18 K), (v_CK19 K), (v_CK20 K), (v_CK21 K), (v_CK22 K), (v_CK23 K), (v_CK24 K), (v_CK25 K), (v_CK26 K), (v_CK27 K), (v_CK28 K), (v_CK29 K), (v_CK30 K), (v_CK31 K), (v_CK32 K), (v_CK33 K), (v_CK34 K), (v_CK35 K), (v_CK36 K), (v_CK37 K), (v_CK38 K), (v_CK39 K), (v_CK40 K), (v_CK41 K), (v_CK42 K), (v_CK43 K), (v_CK44 K), (v_CK45 K)] = true := c.test 18 3 (l := ck18) (b := t363) rfl rfl
  have kK12 : K18T0.kitRow K (v_CK12 K) 12 0 [(v_CK0 K), (v_CK1 K), (v_CK2 K), (v_CK3 K), (v_CK4 K), (v_CK5 K), (v_CK6 K), (v_CK7 K), (v_CK8 K), (v_CK9 K), (v_CK10 K), (v_CK11 K), (v_CK12 K), (v_CK13 K), (v_CK14 K), (v_CK15 K), (v_CK16 K), (v_CK17 K), (v_CK18 K), (v_CK19 K), (v_CK20 K), (v_CK21 K), (v_CK22 K), (v_CK23 K), (v_CK24 K), (v_CK25 K), (v_CK26 K), (v_CK27 K), (v_CK28 K), (v_CK29 K), (v_CK30 K), (v_CK31 K), (v_CK32 K), (v_CK33 K), (v_CK34 K), (v_CK35 K), (v_CK36 K), (v_CK37 K), (v_CK38 K), (v_CK39 K), (v_CK40 K), (v_CK41 K), (v_CK42 K), (v_CK43 K), (v_CK44 K), (v_CK45 K)] = true := c.test 18 4 (l := ck18) (b := t364) rfl rfl
  have kK13 : K18T0.kitRow K (v_CK13 K) 13 0 [(v_CK0 K), (v_CK1 K), (v_CK2 K), (v_CK3 K), (v_CK4 K), (v_CK5 K), (v_CK6 K), (v_CK7 K), (v_CK8 K), (v_CK9 K), (v_CK10 K), (v_CK11 K), (v_CK12 K), (v_CK13 K), (v_CK14 K), (v_CK15 K), (v_CK16 K), (v_CK17 K), (v_CK18 K), (v_CK19 K), (v_CK20 K), (v_CK21 K), (v_CK22 K), (v_CK23 K), (v_CK24 K), (v_CK25 K), (v_CK26 K), (v_CK27 K), (v_CK28 K), (v_CK29 K), (v_CK30 K), (v_CK31 K), (v_CK32 K), (v_CK33 K), (v_CK34 K), (v_CK35 K), (v_CK36 K), (v_CK37 K), (v_CK38 K), (v_CK39 K), (v_CK40 K), (v_CK41 K), (v_CK42 K), (v_CK43 K), (v_CK44 K), (v_CK45 K)] = true := c.test 18 5 (l := ck18) (b := t365) rfl rfl
  have kK14 : K18T0.kitRow K (v_CK14 K) 14 0 [(v_CK0 K), (v_CK1 K), (v_CK2 K), (v_CK3 K), (v_CK4 K), (v_CK5 K), (v_CK6 K), (v_CK7 K), (v_CK8 K), (v_CK9 K), (v_CK10 K), (v_CK11 K), (v_CK12 K), (v_CK13 K), (v_CK14 K), (v_CK15 K), (v_CK16 K), (v_CK17 K), (v_CK18 K), (v_CK19 K), (v_CK20 K), (v_CK21 K), (v_CK22 K), (v_CK23 K), (v_CK24 K), (v_CK25 K), (v_CK26 K), (v_CK27 K), (v_CK28 K), (v_CK29 K), (v_CK30 K), (v_CK31 K), (v_CK32 K), (v_CK33 K), (v_CK34 K), (v_CK35 K), (v_CK36 K), (v_CK37 K), (v_CK38 K), (v_CK39 K), (v_CK40 K), (v_CK41 K), (v_CK42 K), (v_CK43 K), (v_CK44 K), (v_CK45 K)] = true := c.test 18 6 (l := ck18) (b := t366) rfl rfl
  have kK15 : K18T0.kitRow K (v_CK15 K) 15 0 [(v_CK0 K), (v_CK1 K), (v_CK2 K), (v_CK3 K), (v_CK4 K), (v_CK5 K), (v_CK6 K), (v_CK7 K), (v_CK8 K), (v_CK9 K), (v_CK10 K), (v_CK11 K), (v_CK12 K), (v_CK13 K), (v_CK14 K), (v_CK15 K), (v_CK16 K), (v_CK17 K), (v_CK18 K), (v_CK19 K), (v_CK20 K), (v_CK21 K), (v_CK22 K), (v_CK23 K), (v_CK24 K), (v_CK25 K), (v_CK26 K), (v_CK27 K), (v_CK28 K), (v_CK29 K), (v_CK30 K), (v_CK31 K), (v_CK32 K), (v_CK33 K), (v_CK34 K), (v_CK35 K), (v_CK36 K), (v_CK37 K), (v_CK38 K), (v_CK39 K), (v_CK40 K), (v_CK41 K), (v_CK42 K), (v_CK43 K), (v_CK44 K), (v_CK45 K)] = true := c.test 18 7 (l := ck18) (b := t367) rfl rfl
  have kK16 : K18T0.kitRow K (v_CK16 K) 16 0 [(v_CK0 K), (v_CK1 K), (v_CK2 K), (v_CK3 K), (v_CK4 K), (v_CK5 K), (v_CK6 K), (v_CK7 K), (v_CK8 K), (v_CK9 K), (v_CK10 K), (v_CK11 K), (v_CK12 K), (v_CK13 K), (v_CK14 K), (v_CK15 K), (v_CK16 K), (v_CK17 K), (v_CK18 K), (v_CK19 K), (v_CK20 K), (v_CK21 K), (v_CK22 K), (v_CK23 K), (v_CK24 K), (v_CK25 K), (v_CK26 K), (v_CK27 K), (v_CK28 K), (v_CK29 K), (v_CK30 K), (v_CK31 K), (v_CK32 K), (v_CK33 K), (v_CK34 K), (v_CK35 K), (v_CK36 K), (v_CK37 K), (v_CK38 K), (v_CK39 K), (v_CK40 K), (v_CK41 K), (v_CK42 K), (v_CK43 K), (v_CK44 K), (v_CK45 K)] = true := c.test 18 8 (l := ck18) (b := t368) rfl rfl
  have kK17 : K18T0.kitRow K (v_CK17 K) 17 0 [(v_CK0 K), (v_CK1 K), (v_CK2 K), (v_CK3 K), (v_CK4 K), (v_CK5 K), (v_CK6 K), (v_CK7 K), (v_CK8 K), (v_CK9 K), (v_CK10 K), (v_CK11 K), (v_CK12 K), (v_CK13 K), (v_CK14 K), (v_CK15 K), (v_CK16 K), (v_CK17 K), (v_CK18 K), (v_CK19 K), (v_CK20 K), (v_CK21 K), (v_CK22 K), (v_CK23 K), (v_CK24 K), (v_CK25 K), (v_CK26 K), (v_CK27 K), (v_CK28 K), (v_CK29 K), (v_CK30 K), (v_CK31 K), (v_CK32 K), (v_CK33 K), (v_CK34 K), (v_CK35 K), (v_CK36 K), (v_CK37 K), (v_CK38 K), (v_CK39 K), (v_CK40 K), (v_CK41 K), (v_CK42 K), (v_CK43 K), (v_CK44 K), (v_CK45 K)] = true := c.test 18 9 (l := ck18) (b := t369) rfl rfl
  have kK18 : K18T0.kitRow K (v_CK18 K) 18 0 [(v_CK0 K), (v_CK1 K), (v_CK2 K), (v_CK3 K), (v_CK4 K), (v_CK5 K), (v_CK6 K), (v_CK7 K), (v_CK8 K), (v_CK9 K), (v_CK10 K), (v_CK11 K), (v_CK12 K), (v_CK13 K), (v_CK14 K), (v_CK15 K), (v_CK16 K), (v_CK17 K), (v_CK18 K), (v_CK19 K), (v_CK20 K), (v_CK21 K), (v_CK22 K), (v_CK23 K), (v_CK24 K), (v_CK25 K), (v_CK26 K), (v_CK27 K), (v_CK28 K), (v_CK29 K), (v_CK30 K), (v_CK31 K), (v_CK32 K), (v_CK33 K), (v_CK34 K), (v_CK35 K), (v_CK36 K), (v_CK37 K), (v_CK38 K), (v_CK39 K), (v_CK40 K), (v_CK41 K), (v_CK42 K), (v_CK43 K), (v_CK44 K), (v_CK45 K)] = true := c.test 18 10 (l := ck18) (b := t370) rfl rfl
  have kK19 : K18T0.kitRow K (v_CK19 K) 19 0 [(v_CK0 K), (v_CK1 K), (v_CK2 K), (v_CK3 K), (v_CK4 K), (v_CK5 K), (v_CK6 K), (v_CK7 K), (v_CK8 K), (v_CK9 K), (v_CK10 K), (v_CK11 K), (v_CK12 K), (v_CK13 K), (v_CK14 K), (v_CK15 K), (v_CK16 K), (v_CK17 K), (v_CK18 K), (v_CK19 K), (v_CK20 K), (v_CK21 K), (v_CK22 K), (v_CK23 K), (v_CK24 K), (v_CK25 K), (v_CK26 K), (v_CK27 K), (v_CK28 K), (v_CK29 K), (v_CK30 K), (v_CK31 K), (v_CK32 K), (v_CK33 K), (v_CK34 K), (v_CK35 K), (v_CK36 K), (v_CK37 K), (v_CK38 K), (v_CK39 K), (v_CK40 K), (v_CK41 K), (v_CK42 K), (v_CK43 K), (v_CK44 K), (v_CK45 K)] = true := c.test 18 11 (l := ck18) (b := t371) rfl rfl
  have kK20 : K18T0.kitRow K (v_CK20 K) 20 0 [(v_CK0 K), (v_CK1 K), (v_CK2 K), (v_CK3 K), (v_CK4 K), (v_CK5 K), (v_CK6 K), (v_CK7 K), (v_CK8 K), (v_CK9 K), (v_CK10 K), (v_CK11 K), (v_CK12 K), (v_CK13 K), (v_CK14 K), (v_CK15 K), (v_CK16 K), (v_CK17 K), (v_CK18 K), (v_CK19 K), (v_CK20 K), (v_CK21 K), (v_CK22 K), (v_CK23 K), (v_CK24 K), (v_CK25 K), (v_CK26 K), (v_CK27 K), (v_CK28 K), (v_CK29 K), (v_CK30 K), (v_CK31 K), (v_CK32 K), (v_CK33 K), (v_CK34 K), (v_CK35 K), (v_CK36 K), (v_CK37 K), (v_CK38 K), (v_CK39 K), (v_CK40 K), (v_CK41 K), (v_CK42 K), (v_CK43 K), (v_CK44 K), (v_CK45 K)] = true := c.test 18 12 (l := ck18) (b := t372) rfl rfl
  have kK21 : K18T0.kitRow K (v_CK21 K) 21 0 [(v_CK0 K), (v_CK1 K), (v_CK2 K), (v_CK3 K), (v_CK4 K), (v_CK5 K), (v_CK6 K), (v_CK7 K), (v_CK8 K), (v_CK9 K), (v_CK10 K), (v_CK11 K), (v_CK12 K), (v_CK13 K), (v_CK14 K), (v_CK15 K), (v_CK16 K), (v_CK17 K), (v_CK18 K), (v_CK19 K), (v_CK20 K), (v_CK21 K), (v_CK22 K), (v_CK23 K), (v_CK24 K), (v_CK25 K), (v_CK26 K), (v_CK27 K), (v_CK28 K), (v_CK29 K), (v_CK30 K), (v_CK31 K), (v_CK32 K), (v_CK33 K), (v_CK34 K), (v_CK35 K), (v_CK36 K), (v_CK37 K), (v_CK38 K), (v_CK39 K), (v_CK40 K), (v_CK41 K), (v_CK42 K), (v_CK43 K), (v_CK44 K), (v_CK45 K)] = true := c.test 18 13 (l := ck18) (b := t373) rfl rfl
  have kK22 : K18T0.kitRow K (v_CK22 K) 22 0 [(v_CK0 K), (v_CK1 K), (v_CK2 K), (v_CK3 K), (v_CK4 K), (v_CK5 K), (v_CK6 K), (v_CK7 K), (v_CK8 K), (v_CK9 K), (v_CK10 K), (v_CK11 K), (v_CK12 K), (v_CK13 K), (v_CK14 K), (v_CK15 K), (v_CK16 K), (v_CK17 K), (v_CK18 K), (v_CK19 K), (v_CK20 K), (v_CK21 K), (v_CK22 K), (v_CK23 K), (v_CK24 K), (v_CK25 K), (v_CK26 K), (v_CK27 K), (v_CK28 K), (v_CK29 K), (v_CK30 K), (v_CK31 K), (v_CK32 K), (v_CK33 K), (v_CK34 K), (v_CK35 K), (v_CK36 K), (v_CK37 K), (v_CK38 K), (v_CK39 K), (v_CK40 K), (v_CK41 K), (v_CK42 K), (v_CK43 K), (v_CK44 K), (v_CK45 K)] = true := c.test 18 14 (l := ck18) (b := t374) rfl rfl
  have kK23 : K18T0.kitRow K (v_CK23 K) 23 0 [(v_CK0 K), (v_CK1 K), (v_CK2 K), (v_CK3 K), (v_CK4 K), (v_CK5 K), (v_CK6 K), (v_CK7 K), (v_CK8 K), (v_CK9 K), (v_CK10 K), (v_CK11 K), (v_CK12 K), (v_CK13 K), (v_CK14 K), (v_CK15 K), (v_CK16 K), (v_CK17 K), (v_CK18 K), (v_CK19 K), (v_CK20 K), (v_CK21 K), (v_CK22 K), (v_CK23 K), (v_CK24 K), (v_CK25 K), (v_CK26 K), (v_CK27 K), (v_CK28 K), (v_CK29 K), (v_CK30 K), (v_CK31 K), (v_CK32 K), (v_CK33 K), (v_CK34 K), (v_CK35 K), (v_CK36 K), (v_CK37 K), (v_CK38 K), (v_CK39 K), (v_CK40 K), (v_CK41 K), (v_CK42 K), (v_CK43 K), (v_CK44 K), (v_CK45 K)] = true := c.test 18 15 (l := ck18) (b := t375) rfl rfl
  have kK24 : K18T0.kitRow K (v_CK24 K) 24 0 [(v_CK0 K), (v_CK1 K), (v_CK2 K), (v_CK3 K), (v_CK4 K), (v_CK5 K), (v_CK6 K), (v_CK7 K), (v_CK8 K), (v_CK9 K), (v_CK10 K), (v_CK11 K), (v_CK12 K), (v_CK13 K), (v_CK14 K), (v_CK15 K), (v_CK16 K), (v_CK17 K), (v_CK18 K), (v_CK19 K), (v_CK20 K), (v_CK21 K), (v_CK22 K), (v_CK23 K), (v_CK24 K), (v_CK25 K), (v_CK26 K), (v_CK27 K), (v_CK28 K), (v_CK29 K), (v_CK30 K), (v_CK31 K), (v_CK32 K), (v_CK33 K), (v_CK34 K), (v_CK35 K), (v_CK36 K), (v_CK37 K), (v_CK38 K), (v_CK39 K), (v_CK40 K), (v_CK41 K), (v_CK42 K), (v_CK43 K), (v_CK44 K), (v_CK45 K)] = true := c.test 18 16 (l := ck18) (b := t376) rfl rfl
  have kK25 : K18T0.kitRow K (v_CK25 K) 25 0 [(v_CK0 K), (v_CK1 K), (v_CK2 K), (v_CK3 K), (v_CK4 K), (v_CK5 K), (v_CK6 K), (v_CK7 K), (v_CK8 K), (v_CK9 K), (v_CK10 K), (v_CK11 K), (v_CK12 K), (v_CK13 K), (v_CK14 K), (v_CK15 K), (v_CK16 K), (v_CK17 K), (v_CK18 K), (v_CK19 K), (v_CK20 K), (v_CK21 K), (v_CK22 K), (v_CK23 K), (v_CK24 K), (v_CK25 K), (v_CK26 K), (v_CK27 K), (v_CK28 K), (v_CK29 K), (v_CK30 K), (v_CK31 K), (v_CK32 K), (v_CK33 K), (v_CK34 K), (v_CK35 K), (v_CK36 K), (v_CK37 K), (v_CK38 K), (v_CK39 K), (v_CK40 K), (v_CK41 K), (v_CK42 K), (v_CK43 K), (v_CK44 K), (v_CK45 K)] = true := c.test 18 17 (l := ck18) (b := t377) rfl rfl
  have kK26 : K18T0.kitRow K (v_CK26 K) 26 0 [(v_CK0 K), (v_CK1 K), (v_CK2 K), (v_CK3 K), (v_CK4 K), (v_CK5 K), (v_CK6 K), (v_CK7 K), (v_CK8 K), (v_CK9 K), (v_CK10 K), (v_CK11 K), (v_CK12 K), (v_CK13 K), (v_CK14 K), (v_CK15 K), (v_CK16 K), (v_CK17 K), (v_CK18 K), (v_CK19 K), (v_CK20 K), (v_CK21 K), (v_CK22 K), (v_CK23 K), (v_CK24 K), (v_CK25 K), (v_CK26 K), (v_CK27 K), (v_CK28 K), (v_CK29 K), (v_CK30 K), (v_CK31 K), (v_CK32 K), (v_CK33 K), (v_CK34 K), (v_CK35 K), (v_CK36 K), (v_CK37 K), (v_CK38 K), (v_CK39 K), (v_CK40 K), (v_CK41 K), (v_CK42 K), (v_CK43 K), (v_CK44 K), (v_CK45 K)] = true := c.test 18 18 (l := ck18) (b := t378) rfl rfl
  have kK27 : K18T0.kitRow K (v_CK27 K) 27 0 [(v_CK0 K), (v_CK1 K), (v_CK2 K), (v_CK3 K), (v_CK4 K), (v_CK5 K), (v_CK6 K), (v_CK7 K), (v_CK8 K), (v_CK9 K), (v_CK10 K), (v_CK11 K), (v_CK12 K), (v_CK13 K), (v_CK14 K), (v_CK15 K), (v_CK16 K), (v_CK17 K), (v_CK18 K), (v_CK19 K), (v_CK20 K), (v_CK21 K), (v_CK22 K), (v_CK23 K), (v_CK24 K), (v_CK25 K), (v_CK26 K), (v_CK27 K), (v_CK28 K), (v_CK29 K), (v_CK30 K), (v_CK31 K), (v_CK32 K), (v_CK33 K), (v_CK34 K), (v_CK35 K), (v_CK36 K), (v_CK37 K), (v_CK38 K), (v_CK39 K), (v_CK40 K), (v_CK41 K), (v_CK42 K), (v_CK43 K), (v_CK44 K), (v_CK45 K)] = true := c.test 18 19 (l := ck18) (b := t379) rfl rfl
  have kK28 : K18T0.kitRow K (v_CK28 K) 28 0 [(v_CK0 K), (v_CK1 K), (v_CK2 K), (v_CK3 K), (v_CK4 K), (v_CK5 K), (v_CK6 K), (v_CK7 K), (v_CK8 K), (v_CK9 K), (v_CK10 K), (v_CK11 K), (v_CK12 K), (v_CK13 K), (v_CK14 K), (v_CK15 K), (v_CK16 K), (v_CK17 K), (v_CK18 K), (v_CK19 K), (v_CK20 K), (v_CK21 K), (v_CK22 K), (v_CK23 K), (v_CK24 K), (v_CK25 K), (v_CK26 K), (v_CK27 K), (v_CK28 K), (v_CK29 K), (v_CK30 K), (v_CK31 K), (v_CK32 K), (v_CK33 K), (v_CK34 K), (v_CK35 K), (v_CK36 K), (v_CK37 K), (v_CK38 K), (v_CK39 K), (v_CK40 K), (v_CK41 K), (v_CK42 K), (v_CK43 K), (v_CK44 K), (v_CK45 K)] = true := c.test 19 0 (l := ck19) (b := t380) rfl rfl
  have kK29 : K18T0.kitRow K (v_CK29 K) 29 0 [(v_CK0 K), (v_CK1 K), (v_CK2 K), (v_CK3 K), (v_CK4 K), (v_CK5 K), (v_CK6 K), (v_CK7 K), (v_CK8 K), (v_CK9 K), (v_CK10 K), (v_CK11 K), (v_CK12 K), (v_CK13 K), (v_CK14 K), (v_CK15 K), (v_CK16 K), (v_CK17 K), (v_CK18 K), (v_CK19 K), (v_CK20 K), (v_CK21 K), (v_CK22 K), (v_CK23 K), (v_CK24 K), (v_CK25 K), (v_CK26 K), (v_CK27 K), (v_CK28 K), (v_CK29 K), (v_CK30 K), (v_CK31 K), (v_CK32 K), (v_CK33 K), (v_CK34 K), (v_CK35 K), (v_CK36 K), (v_CK37 K), (v_CK38 K), (v_CK39 K), (v_CK40 K), (v_CK41 K), (v_CK42 K), (v_CK43 K), (v_CK44 K), (v_CK45 K)] = true := c.test 19 1 (l := ck19) (b := t381) rfl rfl
  have kK30 : K18T0.kitRow K (v_CK30 K) 30 0 [(v_CK0 K), (v_CK1 K), (v_CK2 K), (v_CK3 K), (v_CK4 K), (v_CK5 K), (v_CK6 K), (v_CK7 K), (v_CK8 K), (v_CK9 K), (v_CK10 K), (v_CK11 K), (v_CK12 K), (v_CK13 K), (v_CK14 K), (v_CK15 K), (v_CK16 K), (v_CK17 K), (v_CK18 K), (v_CK19 K), (v_CK20 K), (v_CK21 K), (v_CK22 K), (v_CK23 K), (v_CK24 K), (v_CK25 K), (v_CK26 K), (v_CK27 K), (v_CK28 K), (v_CK29 K), (v_CK30 K), (v_CK31 K), (v_CK32 K), (v_CK33 K), (v_CK34 K), (v_CK35 K), (v_CK36 K), (v_CK37 K), (v_CK38 K), (v_CK39 K), (v_CK40 K), (v_CK41 K), (v_CK42 K), (v_CK43 K), (v_CK44 K), (v_CK45 K)] = true := c.test 19 2 (l := ck19) (b := t382) rfl rfl
  have kK31 : K18T0.kitRow K (v_CK31 K) 31 0 [(v_CK0 K), (v_CK1 K), (v_CK2 K), (v_CK3 K), (v_CK4 K), (v_CK5 K), (v_CK6 K), (v_CK7 K), (v_CK8 K), (v_CK9 K), (v_CK10 K), (v_CK11 K), (v_CK12 K), (v_CK13 K), (v_CK14 K), (v_CK15 K), (v_CK16 K), (v_CK17 K), (v_CK18 K), (v_CK19 K), (v_CK20 K), (v_CK21 K), (v_CK22 K), (v_CK23 K), (v_CK24 K), (v_CK25 K), (v_CK26 K), (v_CK27 K), (v_CK28 K), (v_CK29 K), (v_CK30 K), (v_CK31 K), (v_CK32 K), (v_CK33 K), (v_CK34 K), (v_CK35 K), (v_CK36 K), (v_CK37 K), (v_CK38 K), (v_CK39 K), (v_CK40 K), (v_CK41 K), (v_CK42 K), (v_CK43 K), (v_CK44 K), (v_CK45 K)] = true := c.test 19 3 (l := ck19) (b := t383) rfl rfl
  have kK32 : K18T0.kitRow K (v_CK32 K) 32 0 [(v_CK0 K), (v_CK1 K), (v_CK2 K), (v_CK3 K), (v_CK4 K), (v_CK5 K), (v_CK6 K), (v_CK7 K), (v_CK8 K), (v_CK9 K), (v_CK10 K), (v_CK11 K), (v_CK12 K), (v_CK13 K), (v_CK14 K), (v_CK15 K), (v_CK16 K), (v_CK17 K), (v_CK18 K), (v_CK19 K), (v_CK20 K), (v_CK21 K), (v_CK22 K), (v_CK23 K), (v_CK24 K), (v_CK25 K), (v_CK26 K), (v_CK27 K), (v_CK28 K), (v_CK29 K), (v_CK30 K), (v_CK31 K), (v_CK32 K), (v_CK33 K), (v_CK34 K), (v_CK35 K), (v_CK36 K), (v_CK37 K), (v_CK38 K), (v_CK39 K), (v_CK40 K), (v_CK41 K), (v_CK42 K), (v_CK43 K), (v_CK44 K), (v_CK45 K)] = true := c.test 19 4 (l := ck19) (b := t384) rfl rfl
  have kK33 : K18T0.kitRow K (v_CK33 K) 33 0 [(v_CK0 K), (v_CK1 K), (v_CK2 K), (v_CK3 K), (v_CK4 K), (v_CK5 K), (v_CK6 K), (v_CK7 K), (v_CK8 K), (v_CK9 K), (v_CK10 K), (v_CK11 K), (v_CK12 K), (v_CK13 K), (v_CK14 K), (v_CK15 K), (v_CK16 K), (v_CK17 K), (v_CK18 K), (v_CK19 K), (v_CK20 K), (v_CK21 K), (v_CK22 K), (v_CK23 K), (v_CK24 K), (v_CK25 K), (v_CK26 K), (v_CK27 K), (v_CK28 K), (v_CK29 K), (v_CK30 K), (v_CK31 K), (v_CK32 K), (v_CK33 K), (v_CK34 K), (v_CK35 K), (v_CK36 K), (v_CK37 K), (v_CK38 K), (v_CK39 K), (v_CK40 K), (v_CK41 K), (v_CK42 K), (v_CK43 K), (v_CK44 K), (v_CK45 K)] = true := c.test 19 5 (l := ck19) (b := t385) rfl rfl
  have kK34 : K18T0.kitRow K (v_CK34 K) 34 0 [(v_CK0 K), (v_CK1 K), (v_CK2 K), (v_CK3 K), (v_CK4 K), (v_CK5 K), (v_CK6 K), (v_CK7 K), (v_CK8 K), (v_CK9 K), (v_CK10 K), (v_CK11 K), (v_CK12 K), (v_CK13 K), (v_CK14 K), (v_CK15 K), (v_CK16 K), (v_CK17 K), (v_CK18 K), (v_CK19 K), (v_CK20 K), (v_CK21 K), (v_CK22 K), (v_CK23 K), (v_CK24 K), (v_CK25 K), (v_CK26 K), (v_CK27 K), (v_CK28 K), (v_CK29 K), (v_CK30 K), (v_CK31 K), (v_CK32 K), (v_CK33 K), (v_CK34 K), (v_CK35 K), (v_CK36 K), (v_CK37 K), (v_CK38 K), (v_CK39 K), (v_CK40 K), (v_CK41 K), (v_CK42 K), (v_CK43 K), (v_CK44 K), (v_CK45 K)] = true := c.test 19 6 (l := ck19) (b := t386) rfl rfl
  have kK35 : K18T0.kitRow K (v_CK35 K) 35 0 [(v_CK0 K), (v_CK1 K), (v_CK2 K), (v_CK3 K), (v_CK4 K), (v_CK5 K), (v_CK6 K), (v_CK7 K), (v_CK8 K), (v_CK9 K), (v_CK10 K), (v_CK11 K), (v_CK12 K), (v_CK13 K), (v_CK14 K), (v_CK15 K), (v_CK16 K), (v_CK17 K), (v_CK18 K), (v_CK19 K), (v_CK20 K), (v_CK21 K), (v_CK22 K), (v_CK23 K), (v_CK24 K), (v_CK25 K), (v_CK26 K), (v_CK27 K), (v_CK28 K), (v_CK29 K), (v_CK30 K), (v_CK31 K), (v_CK32 K), (v_CK33 K), (v_CK34 K), (v_CK35 K), (v_CK36 K), (v_CK37 K), (v_CK38 K), (v_CK39 K), (v_CK40 K), (v_CK41 K), (v_CK42 K), (v_CK43 K), (v_CK44 K), (v_CK45 K)] = true := c.test 19 7 (l := ck19) (b := t387) rfl rfl
  have kK36 : K18T0.kitRow K (v_CK36 K) 36 0 [(v_CK0 K), (v_CK1 K), (v_CK2 K), (v_CK3 K), (v_CK4 K), (v_CK5 K), (v_CK6 K), (v_CK7 K), (v_CK8 K), (v_CK9 K), (v_CK10 K), (v_CK11 K), (v_CK12 K), (v_CK13 K), (v_CK14 K), (v_CK15 K), (v_CK16 K), (v_CK17 K), (v_CK18 K), (v_CK19 K), (v_CK20 K), (v_CK21 K), (v_CK22 K), (v_CK23 K), (v_CK24 K), (v_CK25 K), (v_CK26 K), (v_CK27 K), (v_CK28 K), (v_CK29 K), (v_CK30 K), (v_CK31 K), (v_CK32 K), (v_CK33 K), (v_CK34 K), (v_CK35 K), (v_CK36 K), (v_CK37 K), (v_CK38 K), (v_CK39 K), (v_CK40 K), (v_CK41 K), (v_CK42 K), (v_CK43 K), (v_CK44 K), (v_CK45 K)] = true := c.test 19 8 (l := ck19) (b := t388) rfl rfl
  have kK37 : K18T0.kitRow K (v_CK37 K) 37 0 [(v_CK0 K), (v_CK1 K), (v_CK2 K), (v_CK3 K), (v_CK4 K), (v_CK5 K), (v_CK6 K), (v_CK7 K), (v_CK8 K), (v_CK9 K), (v_CK10 K), (v_CK11 K), (v_CK12 K), (v_CK13 K), (v_CK14 K), (v_CK15 K), (v_CK16 K), (v_CK17 K), (v_CK18 K), (v_CK19 K), (v_CK20 K), (v_CK21 K), (v_CK22 K), (v_CK23 K), (v_CK24 K), (v_CK25 K), (v_CK26 K), (v_CK27 K), (v_CK28 K), (v_CK29 K), (v_CK30 K), (v_CK31 K), (v_CK32 K), (v_CK33 K), (v_CK34 K), (v_CK35 K), (v_CK36 K), (v_CK37 K), (v_CK38 K), (v_CK39 K), (v_CK40 K), (v_CK41 K), (v_CK42 K), (v_CK43 K), (v_CK44 K), (v_CK45 K)] = true := c.test 19 9 (l := ck19) (b := t389) rfl rfl
  have kK38 : K18T0.kitRow K (v_CK38 K) 38 0 [(v_CK0 K), (v_CK1 K), (v_CK2 K), (v_CK3 K), (v_CK4 K), (v_CK5 K), (v_CK6 K), (v_CK7 K), (v_CK8 K), (v_CK9 K), (v_CK10 K), (v_CK11 K), (v_CK12 K), (v_CK13 K), (v_CK14 K), (v_CK15 K), (v_CK16 K), (v_CK17 K), (v_CK18 K), (v_CK19 K), (v_CK20 K), (v_CK21 K), (v_CK22 K), (v_CK23 K), (v_CK24 K), (v_CK25 K), (v_CK26 K), (v_CK27 K), (v_CK28 K), (v_CK29 K), (v_CK30 K), (v_CK31 K), (v_CK32 K), (v_CK33 K), (v_CK34 K), (v_CK35 K), (v_CK36 K), (v_CK37 K), (v_CK38 K), (v_CK39 K), (v_CK40 K), (v_CK41 K), (v_CK42 K), (v_CK43 K), (v_CK44 K), (v_CK45 K)] = true := c.test 19 10 (l := ck19) (b := t390) rfl rfl
  have kK39 : K18T0.kitRow K (v_CK39 K) 39 0 [(v_CK0 K), (v_CK1 K), (v_CK2 K), (v_CK3 K), (v_CK4 K), (v_CK5 K), (v_CK6 K), (v_CK7 K), (v_CK8 K), (v_CK9 K), (v_CK10 K), (v_CK11 K), (v_CK12 K), (v_CK13 K), (v_CK14 K), (v_CK15 K), (v_CK16 K), (v_CK17 K), (v_CK18 K), (v_CK19 K), (v_CK20 K), (v_CK21 K), (v_CK22 K), (v_CK23 K), (v_CK24 K), (v_CK25 K), (v_CK26 K), (v_CK27 K), (v_CK28 K), (v_CK29 K), (v_CK30 K), (v_CK31 K), (v_CK32 K), (v_CK33 K), (v_CK34 K), (v_CK35 K), (v_CK36 K), (v_CK37 K), (v_CK38 K), (v_CK39 K), (v_CK40 K), (v_CK41 K), (v_CK42 K), (v_CK43 K), (v_CK44 K), (v_CK45 K)] = true := c.test 19 11 (l := ck19) (b := t391) rfl rfl
  have kK40 : K18T0.kitRow K (v_CK40 K) 40 0 [(v_CK0 K), (v_CK1 K), (v_CK2 K), (v_CK3 K), (v_CK4 K), (v_CK5 K), (v_CK6 K), (v_CK7 K), (v_CK8 K), (v_CK9 K), (v_CK10 K), (v_CK11 K), (v_CK12 K), (v_CK13 K), (v_CK14 K), (v_CK15 K), (v_CK16 K), (v_CK17 K), (v_CK18 K), (v_CK19 K), (v_CK20 K), (v_CK21 K), (v_CK22 K), (v_CK23 K), (v_CK24 K), (v_CK25 K), (v_CK26 K), (v_CK27 K), (v_CK28 K), (v_CK29 K), (v_CK30 K), (v_CK31 K), (v_CK32 K), (v_CK33 K), (v_CK34 K), (v_CK35 K), (v_CK36 K), (v_CK37 K), (v_CK38 K), (v_CK39 K), (v_CK40 K), (v_CK41 K), (v_CK42 K), (v_CK43 K), (v_CK44 K), (v_CK45 K)] = true := c.test 19 12 (l := ck19) (b := t392) rfl rfl
  have kK41 : K18T0.kitRow K (v_CK41 K) 41 0 [(v_CK0 K), (v_CK1 K), (v_CK2 K), (v_CK3 K), (v_CK4 K), (v_CK5 K), (v_CK6 K), (v_CK7 K), (v_CK8 K), (v_CK9 K), (v_CK10 K), (v_CK11 K), (v_CK12 K), (v_CK13 K), (v_CK14 K), (v_CK15 K), (v_CK16 K), (v_CK17 K), (v_CK18 K), (v_CK19 K), (v_CK20 K), (v_CK21 K), (v_CK22 K), (v_CK23 K), (v_CK24 K), (v_CK25 K), (v_CK26 K), (v_CK27 K), (v_CK28 K), (v_CK29 K), (v_CK30 K), (v_CK31 K), (v_CK32 K), (v_CK33 K), (v_CK34 K), (v_CK35 K), (v_CK36 K), (v_CK37 K), (v_CK38 K), (v_CK39 K), (v_CK40 K), (v_CK41 K), (v_CK42 K), (v_CK43 K), (v_CK44 K), (v_CK45 K)] = true := c.test 19 13 (l := ck19) (b := t393) rfl rfl
  have sysm : K18T0.sysT K = true := c.test 19 14 (l := ck19) (b := t394) rfl rfl
  obtain ⟨nm, q, N, bs, bm, sn, sub, ab, col, dd, k0, k1, k2, k3, k5, nlC, refs_bm⟩ := Hx.exW_ok (c.test 19 15 (l := ck19) (b := t395) rfl rfl)
  have nbC := refs_bm
  obtain ⟨nmb, q2, N2, bs2, bm2, sn2, sub2, ab2, col2, dd2, j0, j1, j2, j3, j5, llC, refs_bm2⟩ := Hx.exW_ok (c.test 19 16 (l := ck19) (b := t396) rfl rfl)
  have lbC := refs_bm2
  have emll : PySem.W.exmOne K (.ref (v_CK1 K)) (.ref (v_CK1 K)) = some true := of_decide_eq_true (c.test 19 17 (l := ck19) (b := t397) rfl rfl)
  have emnl : PySem.W.exmOne K (.ref (v_CK0 K)) (.ref (v_CK1 K)) = some false := of_decide_eq_true (c.test 19 18 (l := ck19) (b := t398) rfl rfl)
  have emnn : PySem.W.exmOne K (.ref (v_CK0 K)) (.ref (v_CK0 K)) = some true := of_decide_eq_true (c.test 19 19 (l := ck19) (b := t399) rfl rfl)
  have emml : PySem.W.exmOne K (.ref (v_CK40 K)) (.ref (v_CK1 K)) = some false := of_decide_eq_true (c.test 20 0 (l := ck20) (b := t400) rfl rfl)
  have emmn : PySem.W.exmOne K (.ref (v_CK40 K)) (.ref (v_CK0 K)) = some false := of_decide_eq_true (c.test 20 1 (l := ck20) (b := t401) rfl rfl)
  have emmm : PySem.W.exmOne K (.ref (v_CK40 K)) (.ref (v_CK40 K)) = some true := of_decide_eq_true (c.test 20 2 (l := ck20) (b := t402) rfl rfl)
  have hcR : d22.code = .ref (v_cR K) := d22_c.trans (of_decide_eq_true (c.test 20 3 (l := ck20) (b := t403) rfl rfl))
  have cH : PySem.W.codeHdIn K (v_cR K) (v_Pt K) = true := c.test 20 4 (l := ck20) (b := t404) rfl rfl
  have hPt : h.get? (v_Pt K) = some tab0 := tp _ (of_decide_eq_true (c.test 20 5 (l := ck20) (b := t405) rfl rfl))
  have nP : K.lookup (v_Pt K) = none := Option.isNone_iff_eq_none.mp (c.test 20 6 (l := ck20) (b := t406) rfl rfl)
  exact all_mk X G hfa hbm pf pt a0 F0 a1 F1 a2 F2 a3 F3 a4 F4 a5 F5 a6 F6 a7 F7 a8 F8 a9 F9 a10 F10 a11 F11 a12 F12 a13 F13 a14 F14 a15 F15 a16 F16 a17 F17 a18 F18 a19 F19 a20 F20 a21 F21 a22 F22 a23 F23 zlen zabs zmax zmin zint zdivmod zrange zall zisinstance zstr zbool zrepr ztuple zset zsorted zlist zValueError zLookupError zRuntimeError zArithmeticError zKeyError zIndexError zZeroDivisionError zOverflowError mM mL cC cmk cin cfn ckp cpg chd cpo csa crd cga cmo cn1 cn2 cic cty FL cgE igE FgE cgL igL FgL cgS igS FgS cgR igR FgR cgH igH FgH cgI igI FgI kgI cgO igO FgO cgA igA FgA sfC rrO rrA hfoONoneType hfoObool hfoOint hfoOstr hfoOlist hfoOtuple hfoOdict hroONoneType hroObool hroOint hroOstr hroOlist hroOtuple hroOdict hfoANoneType hfoAbool hfoAint hfoAstr hfoAlist hfoAtuple hfoAdict hroANoneType hroAbool hroAint hroAstr hroAlist hroAtuple hroAdict cne cob sNoneType uNoneType sbool ubool sint uint sstr ustr slist ulist stuple utuple sdict udict cpM pg ptk pr cha hn ht chm FgM aK0 iK0 FK0 oK0 xK0 nK0 aK1 iK1 FK1 oK1 xK1 nK1 aK2 iK2 FK2 oK2 xK2 nK2 aK3 iK3 FK3 oK3 xK3 nK3 aK4 iK4 FK4 oK4 xK4 nK4 aK5 iK5 FK5 oK5 xK5 nK5 aK6 iK6 FK6 oK6 xK6 nK6 aK7 iK7 FK7 oK7 xK7 nK7 aK8 iK8 FK8 oK8 xK8 nK8 aK9 iK9 FK9 oK9 xK9 nK9 aK10 iK10 FK10 oK10 xK10 nK10 aK11 iK11 FK11 oK11 xK11 nK11 aK12 iK12 FK12 oK12 xK12 nK12 aK13 iK13 FK13 oK13 xK13 nK13 aK14 iK14 FK14 oK14 xK14 nK14 aK15 iK15 FK15 oK15 xK15 nK15 aK16 iK16 FK16 oK16 xK16 nK16 aK17 iK17 FK17 oK17 xK17 nK17 aK18 iK18 FK18 oK18 xK18 nK18 aK19 iK19 FK19 oK19 xK19 nK19 aK20 iK20 FK20 oK20 xK20 nK20 aK21 iK21 FK21 oK21 xK21 nK21 aK22 iK22 FK22 oK22 xK22 nK22 aK23 iK23 FK23 oK23 xK23 nK23 aK24 iK24 FK24 oK24 xK24 nK24 aK25 iK25 FK25 oK25 xK25 nK25 aK26 iK26 FK26 oK26 xK26 nK26 aK27 iK27 FK27 oK27 xK27 nK27 aK28 iK28 FK28 oK28 xK28 nK28 aK29 iK29 FK29 oK29 xK29 nK29 aK30 iK30 FK30 oK30 xK30 nK30 aK31 iK31 FK31 oK31 xK31 nK31 aK32 iK32 FK32 oK32 xK32 nK32 aK33 iK33 FK33 oK33 xK33 nK33 aK34 iK34 FK34 oK34 xK34 nK34 aK35 iK35 FK35 oK35 xK35 nK35 aK36 iK36 FK36 oK36 xK36 nK36 aK37 iK37 FK37 oK37 xK37 nK37 aK38 iK38 FK38 oK38 xK38 nK38 aK39 iK39 FK39 oK39 xK39 nK39 aK40 iK40 FK40 oK40 xK40 nK40 aK41 iK41 FK41 oK41 xK41 nK41 aK42 aK43 aK44 aK45 kK0 kK1 kK2 kK3 kK4 kK5 kK6 kK7 kK8 kK9 kK10 kK11 kK12 kK13 kK14 kK15 kK16 kK17 kK18 kK19 kK20 kK21 kK22 kK23 kK24 kK25 kK26 kK27 kK28 kK29 kK30 kK31 kK32 kK33 kK34 kK35 kK36 kK37 kK38 kK39 kK40 kK41 sysm nlC nbC llC lbC emll emnl emnn emml emmn emmm hcR cH hPt nP
end K18
open PySem PySem.W PySem.Calls PyProof.Rows in
set_option maxRecDepth 100000 in
set_option maxHeartbeats 0 in
theorem PySem.Challenge.cw_aboveless_k18_errors_and_sequences_holds : PySem.Challenge.rw_aboveless_k18_errors_and_sequences.Holds := by
  w_on; o_law
  refine HandSHeadRun.head_any (r := OpenLaw.row PySem.Challenge.rw_aboveless_k18_errors_and_sequences) (q := K18.Hd.qv) (H := K18.Hd.hk) (ob := K18.Hd.ob) (M := 30000) (loose := K18.Hd.loose) (d := HandSHeadRun.topDef (OpenLaw.row PySem.Challenge.rw_aboveless_k18_errors_and_sequences).prog 77) (kwd := []) K18.Hd.ob_eq
    (by kernel_rfl) (fun s => by kernel_rfl) K18.Hd.run (by kernel_rfl) (by kernel_rfl) (by kernel_rfl) (by rfl) (by first | assumption | decide +kernel) (by decide +kernel) ⟨rfl, rfl, rfl, rfl, rfl, by decide +kernel⟩ ?hw ?hc
  case hw => w_witness2
  case hc =>
    refine K18.walkE (l := PySem.Challenge.rw_aboveless_k18_errors_and_sequences) rfl (by kernel_rfl) ?F
    intro w mg fa h Y G hmg0 hbm
    obtain ⟨K, KX, c, tp⟩ := Y
    have hmg : mg ("law" : PySem.Str) = some (.ref fa) := by
      have e : (HandSHeadRun.topDef (OpenLaw.row PySem.Challenge.rw_aboveless_k18_errors_and_sequences).prog 77).name = ("law" : PySem.Str) := by kernel_rfl
      rw [← e]
      exact hmg0
    obtain ⟨fd, cs, T, TO, hT, hb, hF⟩ := K18.facts (P := (PySem.Challenge.rw_aboveless_k18_errors_and_sequences).prog) (w := w) KX G hmg hbm (by kernel_rfl) (by kernel_rfl) c tp
    exact ⟨K, fd, cs, T, KX, TO, hT, hb, hF⟩
