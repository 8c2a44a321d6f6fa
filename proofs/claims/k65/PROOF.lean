import PyProof.Rows.All
import Wide.All
import OpenK.AllK
import Wide.FinOn
import KE.GoesMore
import HandS.ForMost
import HandS.Codes
import HandS.IsInst
import HandS.Walk
import HandS.Flow
import HandS.Style
import HandS.Set
import HandS.SetFor
import HandS.Strs
import HandS.DictComp
import HandS.Property
import HandS.Conv
import HandS.More
import HandS.TupLen
import HandS.DictTup
import HandS.OwnEq
import HandS.Nested
import HandS.NestedK
import HandS.EndTab
import HandS.Head2
import HandS.HeadHook4
import HandS.HeadWalk
import HandS.Exc
import KE.KDictCopyH
import KE.KDictKeyed
import KE.SortData
import HandS.TupMul
import HandS.TupAny
import HandS.MakeKwOnly
import HandS.NoneIn
import HandS.IsInst
import HandS.Conv
import HandS.Text
import HandS.Wide
import HandS.ExcOwn
import HandS.WordsExc
import HandS.ExcInit
import HandS.ExcField
import HandS.TryOnly
import HandS.TryMany
import HandS.RaiseMore
import KE.KExcIs
import PySem.Challenge.RW_slipstold_k65_turned_scripts
set_option Elab.async false
set_option linter.all false
set_option maxRecDepth 100000
set_option maxHeartbeats 4000000
/-! What the top leaves, read by one run in the kernel: a list of tests, the defs' parts, the empty tables. -/
namespace Hz
open PySem PySem.Spec PyProof.Rows L2 He
abbrev Fr := PySem.W.Frag
/-- where a def is found -/
inductive At where
  | g (x : Str)
  | m (C x : Str)
  | p (C x : Str)
def At.a (K : Fr) : At → Addr
  | .g x => ga K x
  | .m C x => ma K (ga K C) x
  | .p C x => (match PySem.W.recIn K (ma K (ga K C) x) "property" with
    | some (.ref f :: _) => f
    | _ => 0)
/-- a def's parts as they are written -/
structure De where
  at_ : At
  nm : Str
  qn : Str
  ps : Arguments
  bd : List Stmt
  sc : Scope
def look (K : Fr) (a : Addr) : Option FuncData := match K.lookup a with
  | some ⟨_, _, .func fd, _⟩ => some fd
  | _ => none
def parts (K : Fr) (d : De) : FnW := (look K (d.at_.a K)).map fun fd => (fd.name, fd.qualname, fd.params, fd.body, fd.scope, fd.globals, fd.closure, fd.builtins)
def De.parts (d : De) : FnW := some (d.nm, d.qn, d.ps, .stmts d.bd, d.sc, mainGlobals, [], builtinsNs)
def bare : Value → Bool
  | .none => true
  | _ => false
def De.ok (K : Fr) (d : De) : Bool := match look K (d.at_.a K) with
  | some fd => PySem.W.codeIn K fd.code d.qn && bare fd.defaults
  | none => false
/-- its code object, the table of that, its dict of defaults by name -/
def refA : Value → Addr
  | .ref c => c
  | _ => 0
def cd (K : Fr) (p : At) : Addr := match look K (p.a K) with
  | some fd => refA fd.code
  | none => 0
def kw (K : Fr) (p : At) : Addr := match look K (p.a K) with
  | some fd => refA fd.kwdefaults
  | none => 0
def tb (K : Fr) (p : At) : Addr := tabOf K (cd K p)
theorem look_ok {K : Fr} {a : Addr} {fd : FuncData} (h : look K a = some fd) : ∃ oc od sl, K.lookup a = some ⟨oc, od, .func fd, sl⟩ := by
  unfold look at h
  cases q : K.lookup a with
  | none => rw [q] at h; cases h
  | some o =>
    obtain ⟨oc, od, dt, sl⟩ := o
    rw [q] at h
    cases dt with
    | func z => cases h; exact ⟨oc, od, sl, rfl⟩
    | _ => cases h
theorem codeRef {K : Fr} {v : Value} {q : Str} (h : PySem.W.codeIn K v q = true) : v = .ref (refA v) := by
  cases v with
  | ref c => rfl
  | _ => cases h
theorem bare_ok {v : Value} (h : bare v = true) : v = .none := by
  cases v with
  | none => rfl
  | _ => cases h
theorem de_ok {K : Fr} {d : De} (e : parts K d = d.parts) (c : d.ok K = true) : ∃ oc od kV dc pm an ct sl,
    K.lookup (d.at_.a K) = some ⟨oc, od, .func (PySem.W.fnOf d.nm d.qn d.ps d.bd d.sc .none kV dc pm an (.ref (cd K d.at_)) ct), sl⟩ ∧ PySem.W.codeIn K (.ref (cd K d.at_)) d.qn = true ∧ refA kV = kw K d.at_ := by
  unfold De.ok at c
  unfold parts at e
  cases q : look K (d.at_.a K) with
  | none => rw [q] at c; cases c
  | some fd =>
    rw [q] at c e
    obtain ⟨c1, c2⟩ := Bool.and_eq_true_iff.mp c
    obtain ⟨oc, od, sl, lk⟩ := look_ok q
    obtain ⟨n1, n2, n3, n4, n5, n6, n7, n8, n9, n10, n11, n12, n13, n14, n15⟩ := fd
    have e2 : ((n1, n2, n3, n4, n5, n6, n7, n15) : Str × Str × Arguments × FuncBody × Scope × Addr × List (Str × Addr) × Addr) = (d.nm, d.qn, d.ps, .stmts d.bd, d.sc, mainGlobals, [], builtinsNs) := Option.some.inj e
    simp only [Prod.mk.injEq] at e2
    obtain ⟨h1, h2, h3, h4, h5, h6, h7, h8⟩ := e2
    subst h1 h2 h3 h4 h5 h6 h7 h8
    have hc : n13 = .ref (cd K d.at_) := by
      have z : cd K d.at_ = refA n13 := by unfold cd; rw [q]
      rw [z]
      exact codeRef c1
    have hk : refA n9 = kw K d.at_ := by unfold kw; rw [q]
    have h8 : n8 = .none := bare_ok c2
    subst h8
    have c1 : PySem.W.codeIn K n13 d.qn = true := c1
    rw [hc] at lk c1
    exact ⟨oc, od, n9, n10, n11, n12, n14, sl, lk, c1, hk⟩
/-! ### single tests -/
def isO (a b : Option (Option Value)) : Bool := decide (a = b)
theorem isO_ok {a b : Option (Option Value)} (h : isO a b = true) : a = b := of_decide_eq_true h
def isB (a : Option Bool) (b : Bool) : Bool := decide (a = some b)
theorem isB_ok {a : Option Bool} {b : Bool} (h : isB a b = true) : a = some b := of_decide_eq_true h
def isV (a : Option Value) (v : Value) : Bool := decide (a = some v)
theorem isV_ok {a : Option Value} {v : Value} (h : isV a v = true) : a = some v := of_decide_eq_true h
/-- an exception class over ValueError -/
def excC (K : Fr) (C : Addr) : Bool := match K.lookup C with
  | some ⟨.type "type", _, .cls cd, sl⟩ => (match cd.mro, sl.toList with
    | .ref D :: bm, [_, _, _, _, some (.builtin n), _] => decide (D = C) && (decide (n = "ValueError.__new__") && (!cd.hasDel && (cd.hasDict && PySem.HandSPX.refsVE bm)))
    | _, _ => false)
  | _ => false
theorem excC_ok {K : Fr} {C : Addr} (h : excC K C = true) : ∃ nm q N bs bm sn sub ab col dd k0 k1 k2 k3 k5, K.lookup C = some (excClassObj nm q C N bs bm true sn sub ab col dd k0 k1 k2 k3 k5 "ValueError.__new__") ∧ PySem.HandSPX.refsVE bm = true := by
  unfold excC at h
  split at h
  · rename_i dd cd sl lk
    split at h
    · rename_i D bm x0 x1 x2 x3 n x5 em es
      simp only [Bool.and_eq_true, decide_eq_true_eq, Bool.not_eq_true'] at h
      obtain ⟨h1, h2, h3, h4, h5⟩ := h
      subst h1 h2
      obtain ⟨nm, bs, mro, N, q, hd, sn, sub, ab, col, dl⟩ := cd
      have em : mro = .ref D :: bm := em
      have h3 : dl = false := h3
      have h4 : hd = true := h4
      subst em h3 h4
      have es2 : sl = #[x0, x1, x2, x3, some (.builtin "ValueError.__new__"), x5] := by
        apply Array.ext'
        exact es
      subst es2
      exact ⟨nm, q, N, bs, bm, sn, sub, ab, col, dd, x0, x1, x2, x3, x5, lk, h5⟩
    · cases h
  · cases h
def intO (a : Option (Option Value)) (i : Int) : Bool := match a with
  | some (some (.int j _)) => decide (j = i)
  | _ => false
theorem intO_ok {a : Option (Option Value)} {i : Int} (h : intO a i = true) : ∃ t, a = some (some (.int i t)) := by
  cases a with
  | none => cases h
  | some o =>
    cases o with
    | none => cases h
    | some v =>
      cases v with
      | int j t => exact ⟨t, by rw [show j = i from of_decide_eq_true h]⟩
      | _ => cases h
/-! ### the hook -/
/-- what is looked at: the module's names, the functions' code and defaults, the classes' names, the properties' functions -/
def vals (es : List DictEntry) : List Addr := es.foldr (fun e r => match e.val with
  | .ref a => a :: r
  | _ => r) []
def refs (vs : List Value) : List Addr := vs.foldr (fun v r => match v with
  | .ref a => a :: r
  | _ => r) []
def isProp : Value → Bool
  | .type n => decide (n = "property")
  | _ => false
def ahead (o : Obj) : List Addr := match o.data with
  | .dict es _ => vals es.toList
  | .func fd => refs [fd.code, fd.kwdefaults]
  | .cls c => [c.ns]
  | .fields vs => (match isProp o.cls with
    | true => refs vs.toList
    | false => [])
  | _ => []
def layer (g : Addr → Option Obj) : List Addr → List Addr
  | [] => []
  | a :: r => (match g a with
    | some o => ahead o
    | none => []) ++ layer g r
def reach (g : Addr → Option Obj) : Nat → List Addr → List Addr
  | 0, l => l
  | n + 1, l => l ++ reach g n (layer g l)
structure Told (es : List (Fr → Bool)) (fn : List De) (tf : List At) (h : Heap) (K : Fr) : Prop where
  ts : ∀ e ∈ es, e K = true
  ok : ∀ d ∈ fn, d.ok K = true
  pt : fn.map (parts K) = fn.map De.parts
  hd : ∀ p ∈ tf, PySem.W.codeHdIn K (cd K p) (tb K p) = true
  no : ∀ p ∈ tf, K.lookup (tb K p) = none
  em : ∀ p ∈ tf, h.get? (tb K p) = some { cls := .none, data := .fields #[] }
abbrev Seen : Type := Bool × List FnW
def tabs (g : Addr → Option Obj) (tf : List At) (K : Fr) : Bool := tf.all fun p => PySem.W.codeHdIn K (cd K p) (tb K p) && (match g (tb K p) with
  | some o => emptyTab o
  | none => false)
def seeK (es : List (Fr → Bool)) (fn : List De) (tf : List At) (g : Addr → Option Obj) (K : Fr) : Seen := (es.all (fun e => e K) && (fn.all (fun d => d.ok K) && tabs g tf K), fn.map (parts K))
def see (n : Nat) (es : List (Fr → Bool)) (fn : List De) (tf : List At) (g : Addr → Option Obj) : Seen := seeK es fn tf g (frT g (reach g n [mainGlobals]))
def due (fn : List De) : Seen := (true, fn.map De.parts)
theorem told_of {n : Nat} {es : List (Fr → Bool)} {fn : List De} {tf : List At} {h : Heap} (e : see n es fn tf h.get? = due fn) : Told es fn tf h (frT h.get? (reach h.get? n [mainGlobals])) := by
  have e2 : fn.map (parts (frT h.get? (reach h.get? n [mainGlobals]))) = fn.map De.parts := congrArg (fun z : Seen => z.2) e
  have e1 : (es.all (fun e => e (frT h.get? (reach h.get? n [mainGlobals]))) && (fn.all (fun d => d.ok (frT h.get? (reach h.get? n [mainGlobals]))) && tabs h.get? tf (frT h.get? (reach h.get? n [mainGlobals])))) = true := congrArg (fun z : Seen => z.1) e
  obtain ⟨h1, e3⟩ := Bool.and_eq_true_iff.mp e1
  obtain ⟨h2, h3⟩ := Bool.and_eq_true_iff.mp e3
  have key : ∀ p ∈ tf, PySem.W.codeHdIn (frT h.get? (reach h.get? n [mainGlobals])) (cd (frT h.get? (reach h.get? n [mainGlobals])) p) (tb (frT h.get? (reach h.get? n [mainGlobals])) p) = true ∧ ∃ o, h.get? (tb (frT h.get? (reach h.get? n [mainGlobals])) p) = some o ∧ emptyTab o = true := fun p hp => by
    obtain ⟨h4, h5⟩ := Bool.and_eq_true_iff.mp (List.all_eq_true.mp h3 p hp)
    refine ⟨h4, ?_⟩
    cases q : h.get? (tb (frT h.get? (reach h.get? n [mainGlobals])) p) with
    | none => rw [q] at h5; cases h5
    | some o => rw [q] at h5; exact ⟨o, rfl, h5⟩
  exact ⟨fun e he => List.all_eq_true.mp h1 e he, fun d hd => List.all_eq_true.mp h2 d hd, e2, fun p hp => (key p hp).1,
    fun p hp => (key p hp).2.elim fun o z => frT_none z.1 z.2, fun p hp => (key p hp).2.elim fun o z => by rw [z.1, emptyTab_eq z.2]⟩
def hook (n : Nat) (es : List (Fr → Bool)) (fn : List De) (tf : List At) : PySem.W.Hook where
  α := Seen
  obs := fun s => see n es fn tf s.heap.get?
  val := fun _ => due fn
  says := fun _ h => ∃ K : Fr, K.In h ∧ Told es fn tf h K
  of := fun _ _ e => ⟨_, frT_in, told_of e⟩
  keeps := fun _ _ _ ⟨K, hK, c⟩ k => ⟨K, PySem.W.Frag.In.keeps hK k, { c with em := fun p hp => k _ _ (c.em p hp) }⟩
def ob (n : Nat) (es : List (Fr → Bool)) (fn : List De) (tf : List At) (s : PySem.W.SharedT) : Seen := see n es fn tf (HandSHeadRun.getT s)
theorem ob_eq (n : Nat) (es : List (Fr → Bool)) (fn : List De) (tf : List At) (s : PySem.W.SharedT) : ob n es fn tf s = (hook n es fn tf).obs s.abs := by
  have e : HandSHeadRun.getT s = s.abs.heap.get? := funext fun a => HandSHeadRun.getT_eq s a
  show see n es fn tf (HandSHeadRun.getT s) = see n es fn tf s.abs.heap.get?
  rw [e]
section
variable {es : List (Fr → Bool)} {fn : List De} {tf : List At} {h : Heap} {K : Fr}
theorem Told.t (c : Told es fn tf h K) (i : Nat) {e : Fr → Bool} (z : es[i]? = some e) : e K = true := c.ts e (List.mem_of_getElem? z)
theorem Told.d (c : Told es fn tf h K) (i : Nat) {d : De} (z : fn[i]? = some d) : ∃ oc od kV dc pm an ct sl,
    K.lookup (d.at_.a K) = some ⟨oc, od, .func (PySem.W.fnOf d.nm d.qn d.ps d.bd d.sc .none kV dc pm an (.ref (cd K d.at_)) ct), sl⟩ ∧ PySem.W.codeIn K (.ref (cd K d.at_)) d.qn = true ∧ refA kV = kw K d.at_ := by
  have e2 : (fn.map (parts K))[i]? = (fn.map De.parts)[i]? := by rw [c.pt]
  rw [List.getElem?_map, List.getElem?_map, z] at e2
  exact de_ok (Option.some.inj e2) (c.ok d (List.mem_of_getElem? z))
end
end Hz
namespace Sv
open PySem PySem.Spec PyProof.Rows L2
def topS (i : Nat) : Stmt := PySem.Challenge.pw_slipstold_k65_turned_scripts.main.body.getD i (.Pass ⟨0, 0, 0, 0⟩)
abbrev sBadScript___init__ : Stmt := L2.inClass (topS 2) 0
abbrev sTooMany___init__ : Stmt := L2.inClass (topS 3) 0
abbrev sis_integer : Stmt := topS 6
abbrev sis_integer_between : Stmt := topS 7
abbrev sis_name : Stmt := topS 10
abbrev scheck_script : Stmt := topS 13
abbrev sbad_edit_place : Stmt := topS 14
abbrev sis_edit : Stmt := topS 15
abbrev sturned : Stmt := topS 19
abbrev s_law_same : Stmt := topS 21
abbrev s_law_box : Stmt := topS 22
abbrev s_law_take : Stmt := topS 23
abbrev s_law_name : Stmt := topS 24
abbrev s_law_edit : Stmt := topS 25
abbrev s_law_edits : Stmt := topS 26
abbrev s_law_bad : Stmt := topS 27
abbrev s_law_spoilt : Stmt := topS 28
abbrev slaw : Stmt := topS 29
end Sv
namespace Sv
open PySem PySem.Spec PyProof.Rows L2
open C8 (fnBody fnArgs fnScope)
/-! ### the top, run once -/
def Zts : List (Hz.Fr → Bool) := [
  fun K => Hz.isO (PySem.W.nsIn K mainGlobals "is_integer") (some (some (.ref (Hz.At.a K (.g "is_integer"))))),
  fun K => PySem.W.keepIn K (.ref (Hz.At.a K (.g "is_integer"))),
  fun K => Hz.isO (PySem.W.nsIn K mainGlobals "is_integer_between") (some (some (.ref (Hz.At.a K (.g "is_integer_between"))))),
  fun K => PySem.W.keepIn K (.ref (Hz.At.a K (.g "is_integer_between"))),
  fun K => Hz.isO (PySem.W.nsIn K mainGlobals "is_name") (some (some (.ref (Hz.At.a K (.g "is_name"))))),
  fun K => PySem.W.keepIn K (.ref (Hz.At.a K (.g "is_name"))),
  fun K => Hz.isO (PySem.W.nsIn K mainGlobals "check_script") (some (some (.ref (Hz.At.a K (.g "check_script"))))),
  fun K => PySem.W.keepIn K (.ref (Hz.At.a K (.g "check_script"))),
  fun K => Hz.isO (PySem.W.nsIn K mainGlobals "bad_edit_place") (some (some (.ref (Hz.At.a K (.g "bad_edit_place"))))),
  fun K => PySem.W.keepIn K (.ref (Hz.At.a K (.g "bad_edit_place"))),
  fun K => Hz.isO (PySem.W.nsIn K mainGlobals "is_edit") (some (some (.ref (Hz.At.a K (.g "is_edit"))))),
  fun K => PySem.W.keepIn K (.ref (Hz.At.a K (.g "is_edit"))),
  fun K => Hz.isO (PySem.W.nsIn K mainGlobals "turned") (some (some (.ref (Hz.At.a K (.g "turned"))))),
  fun K => PySem.W.keepIn K (.ref (Hz.At.a K (.g "turned"))),
  fun K => Hz.isO (PySem.W.nsIn K mainGlobals "_law_same") (some (some (.ref (Hz.At.a K (.g "_law_same"))))),
  fun K => PySem.W.keepIn K (.ref (Hz.At.a K (.g "_law_same"))),
  fun K => Hz.isO (PySem.W.nsIn K mainGlobals "_law_box") (some (some (.ref (Hz.At.a K (.g "_law_box"))))),
  fun K => PySem.W.keepIn K (.ref (Hz.At.a K (.g "_law_box"))),
  fun K => Hz.isO (PySem.W.nsIn K mainGlobals "_law_take") (some (some (.ref (Hz.At.a K (.g "_law_take"))))),
  fun K => PySem.W.keepIn K (.ref (Hz.At.a K (.g "_law_take"))),
  fun K => Hz.isO (PySem.W.nsIn K mainGlobals "_law_name") (some (some (.ref (Hz.At.a K (.g "_law_name"))))),
  fun K => PySem.W.keepIn K (.ref (Hz.At.a K (.g "_law_name"))),
  fun K => Hz.isO (PySem.W.nsIn K mainGlobals "_law_edit") (some (some (.ref (Hz.At.a K (.g "_law_edit"))))),
  fun K => PySem.W.keepIn K (.ref (Hz.At.a K (.g "_law_edit"))),
  fun K => Hz.isO (PySem.W.nsIn K mainGlobals "_law_edits") (some (some (.ref (Hz.At.a K (.g "_law_edits"))))),
  fun K => PySem.W.keepIn K (.ref (Hz.At.a K (.g "_law_edits"))),
  fun K => Hz.isO (PySem.W.nsIn K mainGlobals "_law_bad") (some (some (.ref (Hz.At.a K (.g "_law_bad"))))),
  fun K => PySem.W.keepIn K (.ref (Hz.At.a K (.g "_law_bad"))),
  fun K => Hz.isO (PySem.W.nsIn K mainGlobals "_law_spoilt") (some (some (.ref (Hz.At.a K (.g "_law_spoilt"))))),
  fun K => PySem.W.keepIn K (.ref (Hz.At.a K (.g "_law_spoilt"))),
  fun K => Hz.isO (PySem.W.nsIn K mainGlobals "law") (some (some (.ref (Hz.At.a K (.g "law"))))),
  fun K => PySem.W.keepIn K (.ref (Hz.At.a K (.g "law"))),
  fun K => Hz.isO (PySem.W.nsIn K mainGlobals "isinstance") (some none),
  fun K => Hz.isO (PySem.W.nsIn K mainGlobals "int") (some none),
  fun K => Hz.isO (PySem.W.nsIn K mainGlobals "bool") (some none),
  fun K => Hz.isO (PySem.W.nsIn K mainGlobals "str") (some none),
  fun K => Hz.isO (PySem.W.nsIn K mainGlobals "len") (some none),
  fun K => Hz.isO (PySem.W.nsIn K mainGlobals "all") (some none),
  fun K => Hz.isO (PySem.W.nsIn K mainGlobals "list") (some none),
  fun K => Hz.isO (PySem.W.nsIn K mainGlobals "tuple") (some none),
  fun K => Hz.isO (PySem.W.nsIn K mainGlobals "enumerate") (some none),
  fun K => Hz.isO (PySem.W.nsIn K mainGlobals "range") (some none),
  fun K => Hz.isO (PySem.W.nsIn K mainGlobals "abs") (some none),
  fun K => Hz.isO (PySem.W.nsIn K mainGlobals "ValueError") (some none),
  fun K => Hz.isO (PySem.W.nsIn K mainGlobals "min") (some none),
  fun K => Hz.intO (PySem.W.nsIn K mainGlobals "LONGEST_NAME") 8,
  fun K => Hz.intO (PySem.W.nsIn K mainGlobals "LONGEST_SCRIPT") 5000,
  fun K => Hz.intO (PySem.W.nsIn K mainGlobals "MOST_TURNS") 8,
  fun K => Hz.intO (PySem.W.nsIn K mainGlobals "LONGEST_RESULT") 5000,
  fun K => Hz.isO (PySem.W.nsIn K mainGlobals "SlipError") (some (some (.ref (He.ga K "SlipError")))),
  fun K => Hz.excC K (He.ga K "SlipError"),
  fun K => Hz.isO (PySem.W.findIn K (.ref (He.ga K "SlipError")) "__setattr__") (some (some (.builtin "object.__setattr__"))),
  fun K => Hz.isB (PySem.W.subIn K (.ref (He.ga K "SlipError")) (.type "BaseException")) true,
  fun K => Hz.isV (PySem.W.typeIn K (.ref (He.ga K "SlipError"))) (.type "type"),
  fun K => PySem.W.keepIn K (.ref (He.ga K "SlipError")),
  fun K => Hz.isO (PySem.W.findIn K (.ref (He.ga K "SlipError")) "__getattribute__") (some (some (.builtin "BaseException.__getattribute__"))),
  fun K => Hz.isO (PySem.W.findIn K (.ref (He.ga K "SlipError")) "__getattr__") (some none),
  fun K => PySem.W.hasDictIn K (He.ga K "SlipError"),
  fun K => (PySem.W.clsIn K (He.ga K "SlipError")).isSome,
  fun K => Hz.isO (PySem.W.findIn K (.ref (He.ga K "SlipError")) "__class__") (some (some (.builtin "object.__class__"))),
  fun K => Hz.isO (PySem.W.specialIn K (.builtin "object.__class__") "__get__") (some (some (.builtin "getset_descriptor.__get__"))),
  fun K => Hz.isB (PySem.W.takesIn K (.builtin "object.__class__")) true,
  fun K => Hz.isB (PySem.W.mroIn K (He.ga K "SlipError") (.type "object")) true,
  fun K => PySem.W.excIn K (He.ga K "SlipError") [.type "ValueError", .type "Exception", .type "BaseException", .type "object"] "ValueError.__new__",
  fun K => Hz.isO (PySem.W.nsIn K mainGlobals "BadScript") (some (some (.ref (He.ga K "BadScript")))),
  fun K => Hz.excC K (He.ga K "BadScript"),
  fun K => Hz.isO (PySem.W.findIn K (.ref (He.ga K "BadScript")) "__setattr__") (some (some (.builtin "object.__setattr__"))),
  fun K => Hz.isB (PySem.W.subIn K (.ref (He.ga K "BadScript")) (.type "BaseException")) true,
  fun K => Hz.isV (PySem.W.typeIn K (.ref (He.ga K "BadScript"))) (.type "type"),
  fun K => PySem.W.keepIn K (.ref (He.ga K "BadScript")),
  fun K => Hz.isO (PySem.W.findIn K (.ref (He.ga K "BadScript")) "__getattribute__") (some (some (.builtin "BaseException.__getattribute__"))),
  fun K => Hz.isO (PySem.W.findIn K (.ref (He.ga K "BadScript")) "__getattr__") (some none),
  fun K => PySem.W.hasDictIn K (He.ga K "BadScript"),
  fun K => (PySem.W.clsIn K (He.ga K "BadScript")).isSome,
  fun K => Hz.isO (PySem.W.findIn K (.ref (He.ga K "BadScript")) "__class__") (some (some (.builtin "object.__class__"))),
  fun K => Hz.isB (PySem.W.mroIn K (He.ga K "BadScript") (.type "object")) true,
  fun K => Hz.isO (PySem.W.findIn K (.ref (He.ga K "BadScript")) "__init__") (some (some (.ref (Hz.At.a K (.m "BadScript" "__init__"))))),
  fun K => Hz.isV (PySem.W.typeIn K (.ref (Hz.At.a K (.m "BadScript" "__init__")))) (.type "function"),
  fun K => Hz.isO (PySem.W.findIn K (.ref (He.ga K "BadScript")) "place") (some none),
  fun K => Hz.isO (PySem.W.nsIn K mainGlobals "TooMany") (some (some (.ref (He.ga K "TooMany")))),
  fun K => Hz.excC K (He.ga K "TooMany"),
  fun K => Hz.isO (PySem.W.findIn K (.ref (He.ga K "TooMany")) "__setattr__") (some (some (.builtin "object.__setattr__"))),
  fun K => Hz.isB (PySem.W.subIn K (.ref (He.ga K "TooMany")) (.type "BaseException")) true,
  fun K => Hz.isV (PySem.W.typeIn K (.ref (He.ga K "TooMany"))) (.type "type"),
  fun K => PySem.W.keepIn K (.ref (He.ga K "TooMany")),
  fun K => Hz.isO (PySem.W.findIn K (.ref (He.ga K "TooMany")) "__getattribute__") (some (some (.builtin "BaseException.__getattribute__"))),
  fun K => Hz.isO (PySem.W.findIn K (.ref (He.ga K "TooMany")) "__getattr__") (some none),
  fun K => PySem.W.hasDictIn K (He.ga K "TooMany"),
  fun K => (PySem.W.clsIn K (He.ga K "TooMany")).isSome,
  fun K => Hz.isO (PySem.W.findIn K (.ref (He.ga K "TooMany")) "__class__") (some (some (.builtin "object.__class__"))),
  fun K => Hz.isB (PySem.W.mroIn K (He.ga K "TooMany") (.type "object")) true,
  fun K => Hz.isO (PySem.W.findIn K (.ref (He.ga K "TooMany")) "__init__") (some (some (.ref (Hz.At.a K (.m "TooMany" "__init__"))))),
  fun K => Hz.isV (PySem.W.typeIn K (.ref (Hz.At.a K (.m "TooMany" "__init__")))) (.type "function"),
  fun K => Hz.isO (PySem.W.findIn K (.ref (He.ga K "TooMany")) "limit") (some none),
  fun K => Hz.isO (PySem.W.nsIn K mainGlobals "NoNumber") (some (some (.ref (He.ga K "NoNumber")))),
  fun K => Hz.excC K (He.ga K "NoNumber"),
  fun K => Hz.isO (PySem.W.findIn K (.ref (He.ga K "NoNumber")) "__setattr__") (some (some (.builtin "object.__setattr__"))),
  fun K => Hz.isB (PySem.W.subIn K (.ref (He.ga K "NoNumber")) (.type "BaseException")) true,
  fun K => Hz.isV (PySem.W.typeIn K (.ref (He.ga K "NoNumber"))) (.type "type"),
  fun K => PySem.W.keepIn K (.ref (He.ga K "NoNumber")),
  fun K => Hz.isO (PySem.W.findIn K (.ref (He.ga K "NoNumber")) "__getattribute__") (some (some (.builtin "BaseException.__getattribute__"))),
  fun K => Hz.isO (PySem.W.findIn K (.ref (He.ga K "NoNumber")) "__getattr__") (some none),
  fun K => PySem.W.hasDictIn K (He.ga K "NoNumber"),
  fun K => (PySem.W.clsIn K (He.ga K "NoNumber")).isSome,
  fun K => Hz.isO (PySem.W.findIn K (.ref (He.ga K "NoNumber")) "__class__") (some (some (.builtin "object.__class__"))),
  fun K => Hz.isB (PySem.W.mroIn K (He.ga K "NoNumber") (.type "object")) true,
  fun K => PySem.W.excIn K (He.ga K "NoNumber") [.type "ValueError", .type "Exception", .type "BaseException", .type "object"] "ValueError.__new__",
  fun K => Hz.isB (PySem.W.exmOne K (.ref (He.ga K "TooMany")) (.ref (He.ga K "TooMany"))) true,
  fun K => Hz.isB (PySem.W.exmOne K (.ref (He.ga K "BadScript")) (.ref (He.ga K "BadScript"))) true,
  fun K => Hz.isB (PySem.W.kitOne K (.ref (He.ga K "BadScript")) (.ref (He.ga K "SlipError"))) true,
  fun K => Hz.isB (PySem.W.kitOne K (.ref (He.ga K "BadScript")) (.type "ValueError")) true,
  fun K => Hz.isB (PySem.W.kitOne K (.ref (He.ga K "BadScript")) (.ref (He.ga K "TooMany"))) false]
def Zf0 : Hz.De := ⟨(.g "is_integer"), "is_integer", "is_integer", fnArgs sis_integer, fnBody sis_integer, fnScope sis_integer⟩
def Zf1 : Hz.De := ⟨(.g "is_integer_between"), "is_integer_between", "is_integer_between", fnArgs sis_integer_between, fnBody sis_integer_between, fnScope sis_integer_between⟩
def Zf2 : Hz.De := ⟨(.g "is_name"), "is_name", "is_name", fnArgs sis_name, fnBody sis_name, fnScope sis_name⟩
def Zf3 : Hz.De := ⟨(.g "check_script"), "check_script", "check_script", fnArgs scheck_script, fnBody scheck_script, fnScope scheck_script⟩
def Zf4 : Hz.De := ⟨(.g "bad_edit_place"), "bad_edit_place", "bad_edit_place", fnArgs sbad_edit_place, fnBody sbad_edit_place, fnScope sbad_edit_place⟩
def Zf5 : Hz.De := ⟨(.g "is_edit"), "is_edit", "is_edit", fnArgs sis_edit, fnBody sis_edit, fnScope sis_edit⟩
def Zf6 : Hz.De := ⟨(.g "turned"), "turned", "turned", fnArgs sturned, fnBody sturned, fnScope sturned⟩
def Zf7 : Hz.De := ⟨(.g "_law_same"), "_law_same", "_law_same", fnArgs s_law_same, fnBody s_law_same, fnScope s_law_same⟩
def Zf8 : Hz.De := ⟨(.g "_law_box"), "_law_box", "_law_box", fnArgs s_law_box, fnBody s_law_box, fnScope s_law_box⟩
def Zf9 : Hz.De := ⟨(.g "_law_take"), "_law_take", "_law_take", fnArgs s_law_take, fnBody s_law_take, fnScope s_law_take⟩
def Zf10 : Hz.De := ⟨(.g "_law_name"), "_law_name", "_law_name", fnArgs s_law_name, fnBody s_law_name, fnScope s_law_name⟩
def Zf11 : Hz.De := ⟨(.g "_law_edit"), "_law_edit", "_law_edit", fnArgs s_law_edit, fnBody s_law_edit, fnScope s_law_edit⟩
def Zf12 : Hz.De := ⟨(.g "_law_edits"), "_law_edits", "_law_edits", fnArgs s_law_edits, fnBody s_law_edits, fnScope s_law_edits⟩
def Zf13 : Hz.De := ⟨(.g "_law_bad"), "_law_bad", "_law_bad", fnArgs s_law_bad, fnBody s_law_bad, fnScope s_law_bad⟩
def Zf14 : Hz.De := ⟨(.g "_law_spoilt"), "_law_spoilt", "_law_spoilt", fnArgs s_law_spoilt, fnBody s_law_spoilt, fnScope s_law_spoilt⟩
def Zf15 : Hz.De := ⟨(.g "law"), "law", "law", fnArgs slaw, fnBody slaw, fnScope slaw⟩
def Zf16 : Hz.De := ⟨(.m "BadScript" "__init__"), "__init__", "BadScript.__init__", fnArgs sBadScript___init__, fnBody sBadScript___init__, fnScope sBadScript___init__⟩
def Zf17 : Hz.De := ⟨(.m "TooMany" "__init__"), "__init__", "TooMany.__init__", fnArgs sTooMany___init__, fnBody sTooMany___init__, fnScope sTooMany___init__⟩
def Zfn : List Hz.De := [Zf0, Zf1, Zf2, Zf3, Zf4, Zf5, Zf6, Zf7, Zf8, Zf9, Zf10, Zf11, Zf12, Zf13, Zf14, Zf15, Zf16, Zf17]
def Ztf : List Hz.At := []
def Zl0 : List PySem.Str := ["SlipError", "BadScript", "TooMany", "NoNumber", "is_integer", "is_integer_between", "LONGEST_NAME", "is_name", "LONGEST_SCRIPT", "check_script", "bad_edit_place", "is_edit", "MOST_TURNS", "LONGEST_RESULT", "turned", "_law_same", "_law_box", "_law_take", "_law_name", "_law_edit"]
def Zl1 : List PySem.Str := ["_law_edits", "_law_bad", "_law_spoilt"]
def Zloose : List PySem.Str := Zl0 ++ Zl1
abbrev ZR : PySem.W.OpenRow := PySem.W.OpenLaw.row PySem.Challenge.rw_slipstold_k65_turned_scripts
theorem Zrun (w : World) : HandSHeadRun.RunEq ZR (PySem.W.view ZR.prog [29]) (Hz.hook 5 Zts Zfn Ztf) (Hz.ob 5 Zts Zfn Ztf) 6000 Zloose w := by
  intro os
  kernel_rfl
end Sv
/-! The verifier's own layer over HandS: defs by bundles, purses, names. -/
namespace Sv
open PySem PySem.Spec PyProof.Rows L2
open C8 (Cal Mak Met cal0 mak0 met0 pe_c pe_mk pe_mt pe_mt0 fnBody fnArgs fnScope scC fnScope_by pe_gc InsC call_isC)
/-! ### defs -/
/-- a def of the module that stands under its name, no default -/
structure Dn (K : PySem.W.Frag) (mg : Str → Option Value) (x : Str) (st : Stmt) (ps : List Str) : Prop where
  ex : ∃ f fd, C8.Def K mg x st f fd ∧ Binds K fd ps []
theorem dn_mk {K : PySem.W.Frag} {mg : Str → Option Value} {h : Heap} (X : K.In h) (G : h.Ns mainGlobals mg) {x : Str} {st : Stmt} {ps : List Str} {f : Addr} {oc : Value} {od an : Option Addr} {sl : Array (Option Value)} {kV dc pm cd ct : Value}
    (a : PySem.W.nsIn K mainGlobals x = some (some (.ref f))) (l : K.lookup f = some ⟨oc, od, .func (PySem.W.fnOf x x (fnArgs st) (fnBody st) (fnScope st) .none kV dc pm an cd ct), sl⟩) (c : PySem.W.codeIn K cd x = true) (k : PySem.W.keepIn K (.ref f) = true)
    (hb : ∀ (kV doc pm : Value) (an : Option Addr) (cdv ct : Value) (us : List Value), us.length = ps.length → bindArgs (PySem.W.fnOf x x (fnArgs st) (fnBody st) (fnScope st) .none kV doc pm an cdv ct) ⟨us, []⟩ = pure (ps.zip us)) : Dn K mg x st ps := by
  have F : C8.Fun K x x st f (PySem.W.fnOf x x (fnArgs st) (fnBody st) (fnScope st) .none kV dc pm an cd ct) := ⟨oc, od, .none, kV, dc, pm, an, cd, ct, sl, rfl, l, c⟩
  exact ⟨f, _, ⟨F, PySem.W.mg_of X G a, k⟩, F.binds rfl hb⟩
section
variable {P : Program} {w : World} {K : PySem.W.Frag} {mg : Str → Option Value} {base : Heap}
theorem Dn.cal {x : Str} {st : Stmt} {N ps : List Str} {k : Nat} {sp : Sp} (D : Dn K mg x st ps) (S : FnScope N ps (fnScope st)) (len : ∀ vs H Q E, sp vs H Q E → vs.length = ps.length)
    (hbody : ∀ (f : Addr) (cdv : Value) (A : Around) (outer : List Env) (s : Shared) (H : Hp) (vs : List V) (Q : VK) (E : XK), Room k (A.deeper (envOfC x (fnScope st) s.heap.objs.size f cdv)) → sp vs H Q E →
      ∃ t, PSs (cxOf C8.CX0 P w K mg base N x (fnScope st) f cdv A outer s H E).nox (fnBody st) t ∧ t { nx := fun _ H' => Q .non H', rt := Q } (start N vs) H) : Cal P w K mg base (k + 1) x sp [] := by
  obtain ⟨f, fd, F, b⟩ := D.ex
  exact cal0 F b .nil S len (hbody f)
theorem Cal.mono {x : Str} {sp : Sp} {dvs : List V} {j k : Nat} (C : Cal P w K mg base j x sp dvs) (h : j ≤ k) : Cal P w K mg base k x sp dvs := by
  obtain ⟨f, fd, ps, ds, F, a, b, c, d⟩ := C.ex
  exact ⟨f, fd, ps, ds, F.mono h, a, b, c, d⟩
/-- a promise that asks more and gives less -/
theorem Cal.imp {x : Str} {sp sp' : Sp} {dvs : List V} {k : Nat} (C : Cal P w K mg base k x sp dvs) (h : ∀ vs H Q E, sp' vs H Q E → sp vs H Q E) : Cal P w K mg base k x sp' dvs := by
  obtain ⟨f, fd, ps, ds, F, a, b, c, d⟩ := C.ex
  exact ⟨f, fd, ps, ds, F.imp h, a, b, c, d⟩
end
/-! ### rules with the written part K named (for comprehensions: their blocks) -/
/-! ### a join: what holds behind a statement is said -/
/-! ### heaps -/
theorem same_upd {H : Hp} {p : Addr} {o : HO} (h : H p = none) : Same H (upd H p o) := fun b x e => by
  rw [upd_ne (ne_of_none e h)]
  exact e
theorem _root_.L2.Same.upd {H H1 : Hp} {p : Addr} {o : HO} (s : Same H H1) (h : H1 p = none) : Same H (upd H1 p o) := s.trans (same_upd h)
theorem _root_.L2.Same.seqT {K : PySem.W.Frag} {H H' : Hp} {a : Addr} {xs : List V} (e : Same H H') (h : SqT K H a xs) : SqT K H' a xs := by
  rcases h with (h | ⟨o, h⟩) | h
  · exact .inl (.inl (e _ _ h))
  · exact .inl (.inr ⟨o, e _ _ h⟩)
  · exact .inr h
/-- all but p and g is as it was -/
def Keep (p g : Addr) (H H' : Hp) : Prop := ∀ b, b ≠ p → b ≠ g → ∀ o, H b = some o → H' b = some o
theorem Keep.refl (p g : Addr) (H : Hp) : Keep p g H H := fun _ _ _ _ h => h
theorem Keep.trans {p g : Addr} {H H1 H2 : Hp} (a : Keep p g H H1) (b : Keep p g H1 H2) : Keep p g H H2 := fun c h1 h2 o e => b c h1 h2 o (a c h1 h2 o e)
theorem Keep.of_same {p g : Addr} {H H' : Hp} (a : Same H H') : Keep p g H H' := fun c _ _ o e => a c o e
theorem Keep.upd {p g a : Addr} {H H1 : Hp} {o : HO} (k : Keep p g H H1) (h : H1 a = none) : Keep p g H (L2.upd H1 a o) := k.trans (.of_same (same_upd h))
theorem not_two {α : Type} {x : α} {o : Option α} (h : o = none) (h' : o = some x) : False := by
  rw [h] at h'
  cases h'
/-! ### the purse of numbers -/
structure Purse (H : Hp) (p c g : Addr) (n : Nat) : Prop where
  ex : ∃ (cs gs : List Int) (k : Int), H p = some (.lst [.ref c, .ref g, .int k]) ∧ H c = some (.lst (cs.map V.int)) ∧ H g = some (.lst (gs.map V.int)) ∧ cs.length = gs.length ∧ 0 < cs.length ∧ (∀ z ∈ gs, 0 ≤ z) ∧ 0 ≤ k ∧ k ≤ (n : Int)
  pc : p ≠ c
  pg : p ≠ g
  cg : c ≠ g
theorem Purse.mono {H : Hp} {p c g : Addr} {m n : Nat} (P : Purse H p c g m) (h : m ≤ n) : Purse H p c g n := by
  obtain ⟨⟨cs, gs, k, a⟩, b⟩ := P
  exact ⟨⟨cs, gs, k, a.1, a.2.1, a.2.2.1, a.2.2.2.1, a.2.2.2.2.1, a.2.2.2.2.2.1, a.2.2.2.2.2.2.1, by have := a.2.2.2.2.2.2.2; omega⟩, by assumption, by assumption, by assumption⟩
theorem Purse.same {H H' : Hp} {p c g : Addr} {n : Nat} (P : Purse H p c g n) (s : Same H H') : Purse H' p c g n := by
  obtain ⟨⟨cs, gs, k, h1, h2, h3, r⟩, b1, b2, b3⟩ := P
  exact ⟨⟨cs, gs, k, s _ _ h1, s _ _ h2, s _ _ h3, r⟩, b1, b2, b3⟩
theorem Purse.at_p {H : Hp} {p c g : Addr} {n : Nat} (P : Purse H p c g n) : ∃ o, H p = some o := by
  obtain ⟨⟨_, _, _, h, _⟩, _⟩ := P
  exact ⟨_, h⟩
theorem Purse.at_g {H : Hp} {p c g : Addr} {n : Nat} (P : Purse H p c g n) : ∃ o, H g = some o := by
  obtain ⟨⟨_, _, _, _, _, h, _⟩, _⟩ := P
  exact ⟨_, h⟩
/-- a new address is neither of the purse's two lists that change -/
theorem Purse.new {H : Hp} {p c g a : Addr} {n : Nat} (P : Purse H p c g n) (h : H a = none) : a ≠ p ∧ a ≠ g := by
  obtain ⟨o, hp⟩ := P.at_p
  obtain ⟨u, hg⟩ := P.at_g
  exact ⟨fun e => not_two h (e ▸ hp), fun e => not_two h (e ▸ hg)⟩
theorem ixN_in {n : Nat} {i : Int} (h0 : 0 ≤ i) (h : i < (n : Int)) : ixN n i = some i.toNat := by
  unfold ixN
  rw [if_pos h0, if_pos h]
end Sv
namespace Sv
open PySem PySem.Spec PyProof.Rows L2
/-! ### sets of texts: made of a list or a tuple, counted, sorted -/
def txK (e : Int × Value) : Str := match e.2 with | .str x _ => x | _ => Str.empty
def TxE (w : World) (e : Int × Value) : Prop := ∃ x tk, e.2 = Value.str x tk ∧ e.1 = hashStr w x
/-- the set's members are M, in some order -/
def TxS (w : World) (h : Heap) (a : Addr) (M : List Str) : Prop := ∃ o es ep t, h.get? a = some o ∧ o.ExactSet ∧ o.data = .set es ep t ∧ (∀ e ∈ es.toList, TxE w e) ∧ (es.toList.map txK).Perm M ∧ M.Nodup ∧
  es.size < scanBound ∧ t.fits es.size = true ∧ Ris t.place.toList ∧ (w.params.followText "set-order" = true ∨ t.led = true)
section
variable {P : Program} {w : World} {A : Around} {E : Value → Shared → Prop} {s : Shared} {a : Addr} {M : List Str}
theorem TxS.at {h h' : Heap} (R : TxS w h a M) (k : ∀ o, h.get? a = some o → h'.get? a = some o) : TxS w h' a M := by
  obtain ⟨o, es, ep, t, ho, r⟩ := R
  exact ⟨o, es, ep, t, k o ho, r⟩
end
end Sv
namespace Sv
open PySem PySem.Spec PyProof.Rows L2
theorem iteD {c A B : Prop} [Decidable c] (hc : c) (h : A) : if c then A else B := by
  rw [if_pos hc]
  exact h
theorem iteN {c A B : Prop} [Decidable c] (hc : ¬ c) (h : B) : if c then A else B := by
  rw [if_neg hc]
  exact h
/-! ### walks over what is a list or a tuple -/
/-- enumerate's making over a tuple: two new objects, the tuple's iterator and the enumeration over it -/
def enT (h : Heap) (t : Addr) : Heap := (h.push { cls := .type "tuple_iterator", data := .fields #[.ref t, .int 0 0] }).push { cls := .type "enumerate", data := .fields #[.none, .bool false, .ref h.objs.size, rawInt 0, .none, .none] }
theorem enT_keep {h : Heap} {t b : Addr} {o : Obj} (e : h.get? b = some o) : (enT h t).get? b = some o := Heap.get?_push_of_some _ (Heap.get?_push_of_some _ e)
theorem enT_it (h : Heap) (t : Addr) : (enT h t).IsTupleIter h.objs.size t 0 := ⟨_, Heap.get?_push_of_some _ (Heap.get?_push_size _ rfl), rfl, rfl⟩
theorem enT_en (h : Heap) (t : Addr) : IsEnum (enT h t) (h.objs.size + 1) h.objs.size 0 .none := by
  have q := Heap.get?_push_size (h.push { cls := .type "tuple_iterator", data := .fields #[.ref t, .int 0 0] }) (o := { cls := .type "enumerate", data := .fields #[.none, .bool false, .ref h.objs.size, rawInt 0, .none, .none] }) rfl
  rwa [Heap.size_push] at q
theorem enT_made (t : Addr) (its : Array Value) (n : Nat) (d : Option Addr) (sl : Array (Option Value)) : Meets (Builtin.«enumerate.__new__» ⟨[.type "enumerate", .ref t], []⟩) (fun _ R s =>
      s.heap.get? t = some ⟨.type "tuple", d, .seq its n, sl⟩ ∧ R (.ok (.ret (.ref (s.heap.push { cls := .type "tuple_iterator", data := .fields #[.ref t, .int 0 0] }).objs.size))) { s with heap := enT s.heap t }) := .of_wp fun prog w A R s h => by
  rcases s with ⟨hp, g, dr, tk, os⟩
  rcases h with ⟨ht, hR⟩
  have sub := sub_enumerate
  have it : Heap.IsTuple (Shared.heap ⟨hp, g, dr, tk, os⟩) t its := ⟨_, ht, rfl, n, rfl⟩
  wp_walk using AutoSeq1.wpAny_loadPart' ht
  refine wpAny_stack_any fun _ => wpAny_pure ?_
  split
  · rename_i c _ _ _ _ _
    rcases c == Value.type "enumerate" with _ | _ <;> (wp_walk using AutoSeq1.wpAny_loadPart' ht, wpAny_pyIter_tuple it; exact ⟨_, rfl, hR⟩)
  · wp_walk using AutoSeq1.wpAny_loadPart' ht, wpAny_pyIter_tuple it; exact ⟨_, rfl, hR⟩
theorem enT_call {prog : Program} {w : World} {A : Around} {E : Value → Shared → Prop} {s : Shared} {t : Addr} {its : Array Value} {Q : Value → Shared → Prop} (ht : s.heap.IsTuple t its) (hQ : Q (.ref (s.heap.objs.size + 1)) { s with heap := enT s.heap t }) :
    wpAny (model prog w) A (call (.type "enumerate") [.ref t]) Q E s := by
  obtain ⟨⟨c, d, dt, sl⟩, e, rfl, n, rfl⟩ := ht
  have z : (s.heap.push { cls := .type "tuple_iterator", data := .fields #[.ref t, .int 0 0] }).objs.size = s.heap.objs.size + 1 := Heap.size_push ..
  refine callType_new F.called_enumerate (by decide) (F.typeCall_enumerate_1 _) (F.newCall_enumerate_1 _) (fun ob => F.args_object_init_2 ob _) F.entry_enumerate_new (enT_made t its n d sl) ⟨e, ?_⟩
  rw [z]
  exact ⟨⟨_, enT_en s.heap t, rfl⟩, hQ⟩
theorem enT_done {prog : Program} {w : World} {A : Around} {E : Value → Shared → Prop} {s : Shared} {e it t : Addr} {i : Nat} {c : Int} {its : Array Value} {old : Value} {Q : Option Value → Shared → Prop} (hd : A.handled = none) (hI : s.heap.IsTupleIter it t i) (hT : s.heap.IsTuple t its) (no : its[i]? = none)
    (hE : IsEnum s.heap e it c old) (hQ : ∀ h', Heap.ExtBut it s.heap h' → Q none { s with heap := h' }) : wpAny (model prog w) A (pyNext (.ref e)) Q E s := by
  have ty : s.TypeIs (.ref e) "enumerate" := ⟨_, hE, rfl⟩
  unfold pyNext
  refine wpAny_bind (wpAny_attempt (wpAny_callSpecial?_slot (name := Str.ofString "__next__") ty F.slot_enumerate_next (wpAny_call_entry F.slot_enumerate_next ty F.entry_enumerate_next ?_ (F.args_enumerate_next_1 _))))
  show wpAny _ _ (field (.ref e) 2 >>= _) _ _ _
  refine wpAny_bind (wpAny_field hE rfl (x := .ref it) rfl (wpAny_bind (wpAny_nextOf_tuple_end hd hI hT no fun h' x k ⟨o, ho, hc⟩ => ?_)))
  exact wpAny_bind (wpAny_isInstance (T := "StopIteration") (b := true) ⟨o, ho, hc⟩ isSubtype_stop (wpAny_pure (hQ h' k)))
/-- the tuple at a, each item in a new pair -/
def IteT (K : PySem.W.Frag) (a : Addr) : It where
  go := fun i H => ∃ (xs : List V) (x : V), SqT K H a xs ∧ xs[i]? = some x
  yld := fun i H v H' => ∃ T x, v = .ref T ∧ H T = none ∧ H' = upd H T (.tup [.int (i : Nat), x]) ∧ ∀ xs, SqT K H a xs → xs[i]? = some x
  stop := fun i H => ∃ xs : List V, SqT K H a xs ∧ xs.length ≤ i
theorem enT_turn {P : Program} {w : World} {K : PySem.W.Frag} {elts : List Expr} {kk : Nat} {tpos : Pos} (a e it : Addr) (ea : e ≠ a) (ia : a ≠ it) :
    Turn P w K (.Tuple elts kk tpos) (IteT K a) [e, it] e (fun i h => (∃ old, IsEnum h e it ((i : Nat) : Int) old) ∧ h.IsTupleIter it a i ∧ e ≠ it) := by
  refine ⟨List.mem_cons_self, fun i h st b hb => ?_, fun i h h' st k => ?_, ?_, ?_, fun A i s Q E st h => ?_⟩
  · rcases st with ⟨⟨_, hE⟩, ⟨_, hI, _, hD⟩, _⟩
    simp only [List.mem_cons, List.not_mem_nil, or_false] at hb
    rcases hb with rfl | rfl
    · exact ⟨_, hE, fun _ q => by cases q⟩
    · exact ⟨_, hI, fun _ q => by rw [hD] at q; cases q⟩
  · rcases st with ⟨⟨old, hE⟩, hI, ne⟩
    exact ⟨⟨old, k e List.mem_cons_self _ hE⟩, hI.at fun o q => k it (List.mem_cons_of_mem _ List.mem_cons_self) o q, ne⟩
  · rintro X rfl rfl rfl hc i pins s σ H E I hf ⟨⟨old, hE⟩, hI, ne⟩ ⟨xs, x, hq, hx⟩
    obtain ⟨its, rv, p, _⟩ := I.tuple hq
    obtain ⟨u, hu, ru⟩ := rv.get hx
    have le : e < s.heap.objs.size := Heap.lt_size hE
    have li : it < s.heap.objs.size := by rcases hI with ⟨_, q, _⟩; exact Heap.lt_size q
    have inside : i < its.toArray.size := by simpa using (List.getElem?_eq_some_iff.mp hu).1
    have far : e ∉ [it, a] := by simp only [List.mem_cons, List.not_mem_nil, or_false, not_or]; exact ⟨ne, ea⟩
    refine wpAny_pyNext_enum_itemD (Draws.tuple (A := X.A.in1) (I.ok.hd hc) it a ia its.toArray) hE ⟨hI, p⟩ inside ne far fun x' h' tk hP hO hS hN hZ hK => ?_
    obtain rfl : x' = u := Option.some.inj ((show its[i]? = some x' by simpa using hP).symm.trans hu)
    refine ⟨_, rfl, wpAny_letOwnedTupleGo_enum (s := { s with heap := h', toks := tk + 1 }) hO fun h2 hE2 sb => ?_⟩
    have at2 := (sb.2 _ (Nat.ne_of_gt le)).trans hN
    have ob : ObjOk X.prog X.w (upd H s.heap.objs.size (.tup [.int (i : Nat), x])) h2 s.heap.objs.size (.tup [.int (i : Nat), x]) := ⟨by show 2 ≤ sizeLine; decide, _, .cons ⟨_, rfl⟩ (.cons ru .nil), _, at2, rfl, _, rfl⟩
    have J : Inv X pins σ (upd H s.heap.objs.size (.tup [.int (i : Nat), x])) { s with heap := h2, toks := tk + 1 } := by
      refine I.turnedNew (ch := [e, it]) (fun b o nb q => ?_) hf (Nat.le_refl _) ob
      simp only [List.mem_cons, List.not_mem_nil, or_false, not_or] at nb
      exact (sb.2 b nb.1).trans (hK b o nb.1 nb.2 q)
    refine ⟨.ref s.heap.objs.size, _, J, rfl, ⟨_, x, rfl, I.hok.fresh (Nat.le_refl _), rfl, fun ys hy => I.tuple_inj hy hq ▸ hx⟩, ⟨⟨x', ?_⟩, hS.1.at fun o q => (sb.2 it ne.symm).trans q, ne⟩, fun b hb => ?_⟩
    · rw [Int.natCast_succ]
      exact hE2
    · have lb : b < s.heap.objs.size := by
        simp only [List.mem_cons, List.not_mem_nil, or_false] at hb
        rcases hb with rfl | rfl <;> assumption
      exact (upd_ne (Nat.ne_of_lt lb)).trans (hf b hb).1
  · rintro X rfl rfl rfl hc i pins s σ H E I hf ⟨⟨old, hE⟩, hI, ne⟩ ⟨xs, hq, hx⟩
    obtain ⟨its, rv, p, _⟩ := I.tuple hq
    obtain ⟨q0, q1, q2, q3, q4, q5⟩ := hf it (List.mem_cons_of_mem _ List.mem_cons_self)
    have le := rv.length
    exact enT_done (I.ok.hd hc) hI p (by simp; omega) hE fun h' k => ⟨rfl, I.turned (t' := s.toks) (fun b o nb q => k b o nb q) q0 q1 q3 q4 q5⟩
  · rcases st with ⟨⟨_, hE⟩, _⟩
    exact wpAny_pyIter_enum hE h
section
variable {K : PySem.W.Frag} {a : Addr} {xs : List V} {X : Cx}
theorem walk_enumT : Walk (IteT K a) xs.length (fun H => SqT K H a xs) (YPair (fun i => some (.int (i : Nat))) (fun i => xs[i]?)) where
  goes := fun i _ hi q => ⟨xs, xs[i], q, List.getElem?_eq_getElem hi⟩
  stops := fun _ q => ⟨xs, q, Nat.le_refl _⟩
  yields := fun i _ _ _ _ q ⟨T, x, h1, h2, h3, h4⟩ => ⟨T, _, x, h1, h2, h3, rfl, h4 xs q⟩
/-- new iterators of the frame -/
theorem fp_new {pins : List (Addr × Obj)} {σ : L2.St} {H : Hp} {s : Shared} (I : Inv X pins σ H s) {b : Addr} (h : s.heap.objs.size ≤ b) : FpOk X pins H b := I.fpOk h (I.hok.fresh h)
end
end Sv
namespace Sv
open PySem PySem.Spec PyProof.Rows L2
open NdefX (NTab TabN TabsN NF FnO)
open LamX (CodeO ExtN TabB)
/-! ### tables of code objects: a def that holds defs fills its own when it is first called -/
class Tbs where
  T : List NTab
  /-- the world of the law -/
  w : World
def NoT : HO → Prop
  | .tbl _ => False
  | _ => True
/-- what stands for ever -/
def Imm : HO → Prop
  | .tup _ => True
  | .ext _ => True
  | _ => False
/-- lists and dicts -/
def Mtb : HO → Prop
  | .lst _ => True
  | .dK _ => True
  | .dT _ => True
  | .ins _ _ _ => True
  | .frz _ _ => True
  | _ => False
theorem NoT.of {o : HO} (h : ∀ ps, o ≠ .tbl ps) : NoT o := by
  cases o <;> first | exact True.intro | exact (h _ rfl).elim
theorem Imm.noT {o : HO} (h : Imm o) : NoT o := by
  cases o <;> first | exact True.intro | exact h.elim
section
variable [Tb : Tbs] {H H1 H2 H' : Hp} {a : Addr} {o u : HO}
def TOk (H : Hp) : Prop := TabsN Tb.T H
theorem TOk.stay (t : TOk H) (k1 : ∀ b ps, H b = some (.tbl ps) → H' b = some (.tbl ps)) (k2 : ∀ b φ, H b = some (.ext φ) → H' b = some (.ext φ)) : TOk H' := fun p hp => by
  obtain ⟨ps, h1, h2, h3⟩ := t p hp
  refine ⟨ps, k1 _ _ h1, h2, fun pos cv hc => ?_⟩
  obtain ⟨c, e1, e2⟩ := h3 pos cv hc
  exact ⟨c, e1, k2 _ _ e2⟩
theorem TOk.same (t : TOk H) (s : Same H H') : TOk H' := t.stay (fun b ps e => s b _ e) fun b φ e => s b _ e
theorem TOk.new (t : TOk H) (n : H a = none) : TOk (upd H a o) := t.same fun b x e => by rw [upd_ne (ne_of_none e n)]; exact e
theorem Mtb.noT (h : Mtb o) : NoT o := by cases o <;> first | exact True.intro | exact h.elim
theorem Mtb.nimm (h : Mtb o) : ¬ Imm o := fun z => by cases o <;> first | exact h.elim | exact z.elim
/-- neither a table nor a thing told by its one object -/
def Wr : HO → Prop
  | .tbl _ => False
  | .ext _ => False
  | _ => True
theorem Wr.noT (h : Wr o) : NoT o := by cases o <;> first | exact True.intro | exact h.elim
theorem Mtb.wr (h : Mtb o) : Wr o := by cases o <;> first | exact True.intro | exact h.elim
theorem TOk.write (t : TOk H) (h : H a = some u) (w : Wr u) : TOk (upd H a o) := by
  refine t.stay (fun b ps e => ?_) fun b φ e => ?_
  · rw [upd_ne fun z => by rw [z, h] at e; cases e; exact w]; exact e
  · rw [upd_ne fun z => by rw [z, h] at e; cases e; exact w]; exact e
/-- what is there stays there -/
def Nw (H H' : Hp) : Prop := ∀ b, H' b = none → H b = none
theorem Nw.refl (H : Hp) : Nw H H := fun _ h => h
theorem Nw.trans (x : Nw H H1) (y : Nw H1 H2) : Nw H H2 := fun b h => x b (y b h)
theorem Nw.of (s : Same H H') : Nw H H' := fun b e => by
  cases q : H b with
  | none => rfl
  | some o => rw [s b o q] at e; cases e
theorem Nw.non (x : Nw H H') {b : Addr} (e : H' b = none) : H b = none := x b e
theorem Nw.new (x : Nw H H1) (_ : H1 a = none) : Nw H (upd H1 a o) := fun b e => x b (by
  by_cases z : b = a
  · rw [z, upd_same] at e; cases e
  · rwa [upd_ne z] at e)
theorem Nw.write (x : Nw H H1) (_ : H1 a = some u) (_ : NoT u) : Nw H (upd H1 a o) := fun b e => x b (by
  by_cases z : b = a
  · rw [z, upd_same] at e; cases e
  · rwa [upd_ne z] at e)
/-- all but the tables is as it was -/
structure Sam (H H' : Hp) : Prop where
  e : ∀ b o, H b = some o → NoT o → H' b = some o
  t : TOk H → TOk H'
  n : Nw H H'
theorem Sam.refl (H : Hp) : Sam H H := ⟨fun _ _ h _ => h, id, .refl H⟩
theorem Sam.trans (a : Sam H H1) (b : Sam H1 H2) : Sam H H2 := ⟨fun c o h n => b.e c o (a.e c o h n) n, fun t => b.t (a.t t), a.n.trans b.n⟩
theorem Sam.of (s : Same H H') : Sam H H' := ⟨fun b o h _ => s b o h, fun t => t.same s, .of s⟩
theorem Sam.k (s : Sam H H') {b : Addr} {o : HO} (h : H b = some o) (n : NoT o := by exact True.intro) : H' b = some o := s.e b o h n
theorem Sam.ext (s : Sam H H') : ExtN H H' := fun b o h n => s.e b o h (.of n)
theorem Sam.upd (s : Sam H H1) (n : H1 a = none) : Sam H (L2.upd H1 a o) := s.trans (.of (same_upd n))
theorem Sam.seq {K : PySem.W.Frag} {xs : List V} (s : Sam H H') (h : SqL K H a xs) : SqL K H' a xs := by
  rcases h with (h | ⟨o, h⟩) | h
  · exact .inl (.inl (s.k h))
  · exact .inl (.inr ⟨o, s.k h⟩)
  · exact .inr h
theorem Sam.seqT {K : PySem.W.Frag} {xs : List V} (s : Sam H H') (h : SqT K H a xs) : SqT K H' a xs := by
  rcases h with (h | ⟨o, h⟩) | h
  · exact .inl (.inl (s.k h))
  · exact .inl (.inr ⟨o, s.k h⟩)
  · exact .inr h
/-- all but p and g, and the tables -/
structure Kee (p g : Addr) (H H' : Hp) : Prop where
  e : ∀ b, b ≠ p → b ≠ g → ∀ o, H b = some o → NoT o → H' b = some o
  t : TOk H → TOk H'
  n : Nw H H'
theorem Kee.trans {p g : Addr} (a : Kee p g H H1) (b : Kee p g H1 H2) : Kee p g H H2 := ⟨fun c h1 h2 o h n => b.e c h1 h2 o (a.e c h1 h2 o h n) n, fun t => b.t (a.t t), a.n.trans b.n⟩
theorem Kee.of {p c g : Addr} {n m : Nat} (k : Keep p g H H') (P : Purse H p c g n) (P' : Purse H' p c g m) : Kee p g H H' := by
  obtain ⟨⟨_, _, _, k1, _, k3, _⟩, _⟩ := P'
  obtain ⟨⟨cs, gs, z, h1, h2, h3, _⟩, _⟩ := P
  refine ⟨fun b e1 e2 o h _ => k b e1 e2 o h, fun t => t.stay (fun b ps e => ?_) fun b φ e => ?_, fun b => ?_⟩
  · exact k b (fun z => by rw [z, h1] at e; cases e) (fun z => by rw [z, h3] at e; cases e) _ e
  · exact k b (fun z => by rw [z, h1] at e; cases e) (fun z => by rw [z, h3] at e; cases e) _ e
  · intro e
    cases q : H b with
    | none => rfl
    | some u =>
      by_cases e1 : b = p
      · rw [e1, k1] at e; cases e
      · by_cases e2 : b = g
        · rw [e2, k3] at e; cases e
        · rw [k b e1 e2 u q] at e; cases e
end
end Sv
namespace Sv
open PySem PySem.Spec PyProof.Rows L2
open NdefX (NTab TabN TabsN NF FnO)
open LamX (CodeO ExtN TabB)
/-! ### data: what a value stands for, whatever the addresses -/
/-- the kind of a dict's keys: ints and texts, or tuples of these, or nested tuples (None among them) -/
inductive Kd where
  | k | t | x
inductive Dt where
  | non | bl (b : Bool) | int (i : Int) | str (x : Str) | ty (n : String)
  | tup (xs : List Dt) | tupc (xs : List Dt) | lst (xs : List Dt) | dic (T : Kd) (kvs : List (Dt × Dt)) | ins (C : Addr) (fs : List (Str × Dt))
  /-- a function made within a def, with what it captured -/
  | fn (G : NF) (es : List Dt)
/-! keys of any depth -/
mutual
def nkD : Dt → Option NestedKey
  | .non => some .none
  | .bl b => some (.num (if b = true then 1 else 0))
  | .int i => some (.num i)
  | .str x => some (.text x)
  | .tup xs => (nkL xs).map .tup
  | _ => none
def nkL : List Dt → Option (List NestedKey)
  | [] => some []
  | x :: xs => match nkD x, nkL xs with
    | some k, some ks => some (k :: ks)
    | _, _ => none
end
/-- how the entries of such a dict stand in the heap -/
def xEnt (w : World) (x : NestedKey × Addr × Value) : DictEntry := ⟨x.1.hash w, .ref x.2.1, x.2.2⟩
def XRel (xs : List (NestedKey × Addr × V)) (us : List (NestedKey × Addr × Value)) : Prop := Paired (fun (p : NestedKey × Addr × V) (q : NestedKey × Addr × Value) => p.1 = q.1 ∧ p.2.1 = q.2.1 ∧ RelV p.2.2 q.2.2) xs us
/-- a dict whose keys are nested tuples -/
def XOb [Tb : Tbs] (a : Addr) (xs : List (NestedKey × Addr × V)) : HO := .ext fun h => xs.length ≤ sizeLine ∧ (a == sysModules) = false ∧ ∃ us, XRel xs us ∧ ∃ o es ep, h.get? a = some o ∧ o.ExactDict ∧ o.data = .dict es ep ∧ es.toList = us.map (xEnt Tb.w) ∧ (us.map (·.1)).Nodup
def kD : Key → Dt
  | .inl i => .int i
  | .inr x => .str x
def ktD (k : List Key) : Dt := .tup (k.map kD)
/-- the cell at c, as its object is -/
def CellO (c : Addr) (o : Obj) : HO := .ext fun h => h.get? c = some o
def frees (G : NF) : List Str := (G.scope.names.filter fun y => y.2 == .free).map (·.1)
/-- the cells of a function hold these values; F0: the frozen part without them -/
structure CapOk (F F0 : Hp) (G : NF) (vs : List V) : Prop where
  len : vs.length = (frees G).length
  at_ : ∀ (i : Nat) (y : Str), (frees G)[i]? = some y → ∃ c o u v, G.cl.lookup y = some c ∧ F c = some (CellO c o) ∧ o.data = .cell (some u) ∧ vs[i]? = some v ∧ RelV v u
  all : ∀ (y : Str) (c : Addr), G.cl.lookup y = some c → F0 c = none ∧ ∃ o u, F c = some (CellO c o) ∧ o.data = .cell (some u)
  inj : ∀ x y c, G.cl.lookup x = some c → G.cl.lookup y = some c → x = y
theorem CapOk.mono {F F' F0 : Hp} {G : NF} {vs : List V} (s : Same F F') (c : CapOk F F0 G vs) : CapOk F' F0 G vs :=
  ⟨c.len, fun i y e => let ⟨c, o, u, v, h1, h2, h3⟩ := c.at_ i y e; ⟨c, o, u, v, h1, s _ _ h2, h3⟩, fun y a e => let ⟨n, o, u, h, d⟩ := c.all y a e; ⟨n, o, u, s _ _ h, d⟩, c.inj⟩
mutual
/-- v stands for d over the part F of the heap (F is never changed) -/
inductive Is [Tb : Tbs] (K : PySem.W.Frag) : Hp → V → Dt → Prop where
  | non {F : Hp} : Is K F .non .non
  | bl {F : Hp} (b : Bool) : Is K F (.bl b) (.bl b)
  | int {F : Hp} (i : Int) : Is K F (.int i) (.int i)
  | str {F : Hp} (x : Str) : Is K F (.str x) (.str x)
  | ty {F : Hp} (n : String) : Is K F (.ty n) (.ty n)
  | tup {F : Hp} {a : Addr} {vs : List V} {xs : List Dt} (h : F a = some (.tup vs)) (r : IsL K F vs xs) : Is K F (.ref a) (.tup xs)
  /-- a tuple that stands in the module -/
  | tupc {F : Hp} {a : Addr} {vs : List V} {xs : List Dt} (h : SqT K (fun _ => none) a vs) (r : IsL K F vs xs) : Is K F (.ref a) (.tupc xs)
  | lst {F : Hp} {a : Addr} {vs : List V} {xs : List Dt} (h : F a = some (.lst vs)) (r : IsL K F vs xs) : Is K F (.ref a) (.lst xs)
  | dK {F : Hp} {a : Addr} {kvs : List (Key × V)} {ds : List (Dt × Dt)} (h : F a = some (.dK kvs)) (r : IsK K F kvs ds) : Is K F (.ref a) (.dic .k ds)
  | dT {F : Hp} {a : Addr} {kvs : List (List Key × V)} {ds : List (Dt × Dt)} (h : F a = some (.dT kvs)) (r : IsT K F kvs ds) : Is K F (.ref a) (.dic .t ds)
  | dX {F : Hp} {a : Addr} {ob : Obj} {kvs : List (NestedKey × Addr × V)} {ds : List (Dt × Dt)} (h : F a = some (.frz ob (XOb a kvs))) (r : IsX K F kvs ds) : Is K F (.ref a) (.dic .x ds)
  | ins {F : Hp} {a C dx : Addr} {fs : List (Str × V)} {ds : List (Str × Dt)} (h : F a = some (.ins C dx fs)) (r : IsF K F fs ds) : Is K F (.ref a) (.ins C ds)
  | fn {F F0 : Hp} {f : Addr} {G : NF} {vs : List V} {es : List Dt} (h : F f = some (FnO f G)) (hc : F G.c = some (CodeO G.c G.qual)) (s : Same F0 F) (c : CapOk F F0 G vs) (r : IsL K F0 vs es) : Is K F (.ref f) (.fn G es)
inductive IsL [Tb : Tbs] (K : PySem.W.Frag) : Hp → List V → List Dt → Prop where
  | nil {F : Hp} : IsL K F [] []
  | cons {F : Hp} {v : V} {d : Dt} {vs : List V} {ds : List Dt} (h : Is K F v d) (r : IsL K F vs ds) : IsL K F (v :: vs) (d :: ds)
inductive IsK [Tb : Tbs] (K : PySem.W.Frag) : Hp → List (Key × V) → List (Dt × Dt) → Prop where
  | nil {F : Hp} : IsK K F [] []
  | cons {F : Hp} {k : Key} {v : V} {d : Dt} {vs : List (Key × V)} {ds : List (Dt × Dt)} (h : Is K F v d) (r : IsK K F vs ds) : IsK K F ((k, v) :: vs) ((kD k, d) :: ds)
inductive IsT [Tb : Tbs] (K : PySem.W.Frag) : Hp → List (List Key × V) → List (Dt × Dt) → Prop where
  | nil {F : Hp} : IsT K F [] []
  | cons {F : Hp} {k : List Key} {v : V} {d : Dt} {vs : List (List Key × V)} {ds : List (Dt × Dt)} (h : Is K F v d) (r : IsT K F vs ds) : IsT K F ((k, v) :: vs) ((ktD k, d) :: ds)
inductive IsX [Tb : Tbs] (K : PySem.W.Frag) : Hp → List (NestedKey × Addr × V) → List (Dt × Dt) → Prop where
  | nil {F : Hp} : IsX K F [] []
  | cons {F : Hp} {k : NestedKey} {q : Addr} {v : V} {y d : Dt} {vs : List (NestedKey × Addr × V)} {ds : List (Dt × Dt)} (hk : nkD y = some k) (dp : k.depth ≤ 8) (hq : Is K F (.ref q) y) (h : Is K F v d) (r : IsX K F vs ds) : IsX K F ((k, q, v) :: vs) ((y, d) :: ds)
inductive IsF [Tb : Tbs] (K : PySem.W.Frag) : Hp → List (Str × V) → List (Str × Dt) → Prop where
  | nil {F : Hp} : IsF K F [] []
  | cons {F : Hp} {k : Str} {v : V} {d : Dt} {vs : List (Str × V)} {ds : List (Str × Dt)} (h : Is K F v d) (r : IsF K F vs ds) : IsF K F ((k, v) :: vs) ((k, d) :: ds)
end
section
variable [Tb : Tbs] {K : PySem.W.Frag} {F F' H : Hp}
mutual
theorem Is.mono (s : Same F F') : ∀ {v : V} {d : Dt}, Is K F v d → Is K F' v d
  | _, _, .non => .non
  | _, _, .bl b => .bl b
  | _, _, .int i => .int i
  | _, _, .str x => .str x
  | _, _, .ty n => .ty n
  | _, _, .tup h r => .tup (s _ _ h) (r.mono s)
  | _, _, .tupc h r => .tupc h (r.mono s)
  | _, _, .lst h r => .lst (s _ _ h) (r.mono s)
  | _, _, .dK h r => .dK (s _ _ h) (r.mono s)
  | _, _, .dT h r => .dT (s _ _ h) (r.mono s)
  | _, _, .dX h r => .dX (s _ _ h) (r.mono s)
  | _, _, .ins h r => .ins (s _ _ h) (r.mono s)
  | _, _, .fn h hc s0 c r => .fn (s _ _ h) (s _ _ hc) (s0.trans s) (c.mono s) r
theorem IsL.mono (s : Same F F') : ∀ {v : List V} {d : List Dt}, IsL K F v d → IsL K F' v d
  | _, _, .nil => .nil
  | _, _, .cons h r => .cons (h.mono s) (r.mono s)
theorem IsK.mono (s : Same F F') : ∀ {v : List (Key × V)} {d : List (Dt × Dt)}, IsK K F v d → IsK K F' v d
  | _, _, .nil => .nil
  | _, _, .cons h r => .cons (h.mono s) (r.mono s)
theorem IsT.mono (s : Same F F') : ∀ {v : List (List Key × V)} {d : List (Dt × Dt)}, IsT K F v d → IsT K F' v d
  | _, _, .nil => .nil
  | _, _, .cons h r => .cons (h.mono s) (r.mono s)
theorem IsX.mono (s : Same F F') : ∀ {v : List (NestedKey × Addr × V)} {d : List (Dt × Dt)}, IsX K F v d → IsX K F' v d
  | _, _, .nil => .nil
  | _, _, .cons k p q h r => .cons k p (q.mono s) (h.mono s) (r.mono s)
theorem IsF.mono (s : Same F F') : ∀ {v : List (Str × V)} {d : List (Str × Dt)}, IsF K F v d → IsF K F' v d
  | _, _, .nil => .nil
  | _, _, .cons h r => .cons (h.mono s) (r.mono s)
end
theorem IsL.length : ∀ {vs : List V} {ds : List Dt}, IsL K F vs ds → vs.length = ds.length
  | _, _, .nil => rfl
  | _, _, .cons _ r => by rw [List.length_cons, List.length_cons, r.length]
theorem IsL.get : ∀ {vs : List V} {ds : List Dt} {i : Nat} {v : V}, IsL K F vs ds → vs[i]? = some v → ∃ d, ds[i]? = some d ∧ Is K F v d
  | _, _, _, _, .nil, e => by simp at e
  | _, _, 0, _, .cons h _, e => by simp at e; subst e; exact ⟨_, rfl, h⟩
  | _, _, i + 1, v, .cons _ r, e => by
    obtain ⟨d, h1, h2⟩ := IsL.get (i := i) (v := v) r (by simpa using e)
    exact ⟨d, by simpa using h1, h2⟩
theorem IsL.at {vs : List V} {ds : List Dt} {i : Nat} {d : Dt} (r : IsL K F vs ds) (e : ds[i]? = some d) : ∃ v, vs[i]? = some v ∧ Is K F v d := by
  have h : i < vs.length := by rw [r.length]; exact (List.getElem?_eq_some_iff.mp e).1
  obtain ⟨d', h1, h2⟩ := r.get (List.getElem?_eq_getElem h)
  rw [e] at h1
  cases h1
  exact ⟨_, List.getElem?_eq_getElem h, h2⟩
theorem IsL.app : ∀ {vs ws : List V} {ds es : List Dt}, IsL K F vs ds → IsL K F ws es → IsL K F (vs ++ ws) (ds ++ es)
  | _, _, _, _, .nil, s => s
  | _, _, _, _, .cons h r, s => .cons h (r.app s)
theorem IsL.snoc {vs : List V} {ds : List Dt} {v : V} {d : Dt} (r : IsL K F vs ds) (h : Is K F v d) : IsL K F (vs ++ [v]) (ds ++ [d]) := r.app (.cons h .nil)
theorem IsL.take : ∀ (n : Nat) {vs : List V} {ds : List Dt}, IsL K F vs ds → IsL K F (vs.take n) (ds.take n)
  | 0, _, _, _ => .nil
  | _ + 1, _, _, .nil => .nil
  | n + 1, _, _, .cons h r => .cons h (r.take n)
theorem IsL.drop : ∀ (n : Nat) {vs : List V} {ds : List Dt}, IsL K F vs ds → IsL K F (vs.drop n) (ds.drop n)
  | 0, _, _, r => r
  | _ + 1, _, _, .nil => .nil
  | n + 1, _, _, .cons _ r => r.drop n
theorem IsL.set : ∀ {vs : List V} {ds : List Dt} (i : Nat) {v : V} {d : Dt}, IsL K F vs ds → Is K F v d → IsL K F (vs.set i v) (ds.set i d)
  | _, _, _, _, _, .nil, _ => .nil
  | _, _, 0, _, _, .cons _ r, h => .cons h r
  | _, _, i + 1, _, _, .cons g r, h => .cons g (r.set i h)
theorem IsL.strs_inv : ∀ {L : List Str} {vs : List V}, IsL K F vs (L.map Dt.str) → vs = L.map V.str
  | [], _, .nil => rfl
  | _ :: _, _, .cons (.str _) r => by rw [IsL.strs_inv r]; rfl
theorem IsL.ints : ∀ (L : List Int), IsL K F (L.map V.int) (L.map Dt.int)
  | [] => .nil
  | s :: L => .cons (.int s) (IsL.ints L)
theorem IsL.bls_inv : ∀ {L : List Bool} {vs : List V}, IsL K F vs (L.map Dt.bl) → vs = L.map V.bl
  | [], _, .nil => rfl
  | _ :: _, _, .cons (.bl _) r => by rw [IsL.bls_inv r]; rfl
theorem IsK.length : ∀ {vs : List (Key × V)} {ds : List (Dt × Dt)}, IsK K F vs ds → vs.length = ds.length
  | _, _, .nil => rfl
  | _, _, .cons _ r => by rw [List.length_cons, List.length_cons, r.length]
theorem IsT.length : ∀ {vs : List (List Key × V)} {ds : List (Dt × Dt)}, IsT K F vs ds → vs.length = ds.length
  | _, _, .nil => rfl
  | _, _, .cons _ r => by rw [List.length_cons, List.length_cons, r.length]
theorem IsF.lookup {f : Str} : ∀ {vs : List (Str × V)} {ds : List (Str × Dt)} {d : Dt}, IsF K F vs ds → ds.lookup f = some d → ∃ v, vs.lookup f = some v ∧ Is K F v d
  | _, _, _, .nil, e => by cases e
  | _, _, d, .cons (k := k) (v := v) h r, e => by
    rw [List.lookup_cons] at e ⊢
    by_cases hk : (f == k) = true
    · simp only [hk] at e ⊢
      cases e
      exact ⟨v, rfl, h⟩
    · simp only [hk] at e ⊢
      exact r.lookup e
/-! inversion -/
theorem Is.tup_inv {v : V} {xs : List Dt} (h : Is K F v (.tup xs)) : ∃ a vs, v = .ref a ∧ F a = some (.tup vs) ∧ IsL K F vs xs := by cases h with | tup h r => exact ⟨_, _, rfl, h, r⟩
theorem sqT_none {a : Addr} {vs : List V} (h : SqT K (fun _ => none) a vs) : SqT K H a vs := by
  rcases h with (h | ⟨o, h⟩) | h
  · cases h
  · cases h
  · exact .inr h
theorem Is.tupc_inv {v : V} {xs : List Dt} (h : Is K F v (.tupc xs)) : ∃ a vs, v = .ref a ∧ (∀ H, SqT K H a vs) ∧ IsL K F vs xs := by cases h with | tupc h r => exact ⟨_, _, rfl, fun _ => sqT_none h, r⟩
theorem Is.lst_inv {v : V} {xs : List Dt} (h : Is K F v (.lst xs)) : ∃ a vs, v = .ref a ∧ F a = some (.lst vs) ∧ IsL K F vs xs := by cases h with | lst h r => exact ⟨_, _, rfl, h, r⟩
end
/-! ### the frozen part of the heap -/
def DicO : HO → Prop
  | .dK _ => True
  | .dT _ => True
  | _ => False
theorem DicO.noT {o : HO} (h : DicO o) : NoT o := by cases o <;> first | exact True.intro | exact h.elim
/-- H bears F; the dicts of L are locked by loops -/
structure Low (L : Addr → Option Obj) (F H : Hp) : Prop where
  at_ : ∀ a o, F a = some o → (L a = none ∧ H a = some o) ∨ ∃ ob, L a = some ob ∧ DicO o ∧ H a = some (.frz ob o)
  dom : ∀ a ob, L a = some ob → ∃ o, F a = some o
  nt : ∀ a o, F a = some o → NoT o
section
variable {L : Addr → Option Obj} {K : PySem.W.Frag} {F F' H H' : Hp} {a : Addr}
theorem Low.rd {o : HO} (w : Low L F H) (h : F a = some o) : Rd H a o := by
  rcases w.at_ a o h with ⟨_, e⟩ | ⟨ob, _, _, e⟩
  · exact .inl e
  · exact .inr ⟨ob, e⟩
theorem Low.nd {o : HO} (w : Low L F H) (h : F a = some o) (n : ¬ DicO o) : H a = some o := by
  rcases w.at_ a o h with ⟨_, e⟩ | ⟨ob, _, d, e⟩
  · exact e
  · exact (n d).elim
theorem Low.ex {o : HO} (w : Low L F H) (h : F a = some o) : ∃ u, H a = some u := (w.rd h).elim (fun e => ⟨_, e⟩) fun ⟨_, e⟩ => ⟨_, e⟩
theorem Low.new {o : HO} (w : Low L F H) (n : F a = none) (nt : NoT o) : Low L (upd F a o) (upd H a o) := by
  have la : L a = none := by
    cases e : L a with
    | none => rfl
    | some ob => obtain ⟨u, hu⟩ := w.dom a ob e; rw [n] at hu; cases hu
  refine ⟨fun b u h => ?_, fun b ob h => ?_, fun b u h => ?_⟩
  · by_cases hb : b = a
    · subst hb
      rw [upd_same] at h ⊢
      cases h
      exact .inl ⟨la, rfl⟩
    · rw [upd_ne hb] at h ⊢
      exact w.at_ b u h
  · have ne : b ≠ a := fun z => by rw [z, la] at h; cases h
    rw [upd_ne ne]
    exact w.dom b ob h
  · by_cases hb : b = a
    · rw [hb, upd_same] at h
      cases h
      exact nt
    · rw [upd_ne hb] at h
      exact w.nt b u h
/-- a cell outside changes -/
theorem Low.off {o : HO} (w : Low L F H) (n : F a = none) : Low L F (upd H a o) :=
  ⟨fun b u h => by rw [upd_ne (ne_of_none h n)]; exact w.at_ b u h, w.dom, w.nt⟩
/-- a cell outside is added -/
theorem Low.add {o : HO} (w : Low L F H) (n : F a = none) (h : H a = some o) (nt : NoT o) : Low L (upd F a o) H := by
  have e : upd H a o = H := by
    funext b
    by_cases hb : b = a
    · subst hb
      rw [upd_same, h]
    · rw [upd_ne hb]
  have := w.new (o := o) n nt
  rwa [e] at this
end
/-! ### slots -/
inductive Sl where
  /-- unknown, or unbound -/
  | un
  /-- it stands for d, whatever comes -/
  | fz (d : Dt)
  /-- a list of its own, a dict of its own (T: keys are tuples) -/
  | ol (a : Addr) (xs : List Dt)
  | od (a : Addr) (T : Kd) (kvs : List (Dt × Dt))
  /-- the purse, n numbers drawn -/
  | pu (p c g : Addr) (n : Nat)
  /-- a function made here -/
  | nd (f : Addr) (G : NF) (js : List Nat)
  /-- an instance of its own, of the class C -/
  | oi (a : Addr) (C : Addr) (fs : List (Str × Dt))
  /-- the exception that a suite holds: its dict, its fields -/
  | ex (a : Addr) (d : Option Addr) (fs : List (Str × Dt))
abbrev DEnv := List Sl
def adr : Sl → List Addr
  | .ol a _ => [a]
  | .od a _ _ => [a]
  | .pu p c g _ => [p, c, g]
  | .oi a _ _ => [a]
  | _ => []
def SlOk [Tb : Tbs] (K : PySem.W.Frag) (F H : Hp) : Sl → Option V → Prop
  | .un, _ => True
  | .fz d, o => ∃ v, o = some v ∧ Is K F v d
  | .ol a xs, o => o = some (.ref a) ∧ ∃ vs, H a = some (.lst vs) ∧ IsL K F vs xs
  | .od a .t kvs, o => o = some (.ref a) ∧ ∃ vs, H a = some (.dT vs) ∧ IsT K F vs kvs
  | .od a .k kvs, o => o = some (.ref a) ∧ ∃ vs, H a = some (.dK vs) ∧ IsK K F vs kvs
  | .od a .x kvs, o => o = some (.ref a) ∧ ∃ vs ob, H a = some (.frz ob (XOb a vs)) ∧ IsX K F vs kvs
  | .pu p c g n, o => o = some (.ref p) ∧ Purse H p c g n
  | .nd f G _, o => o = some (.ref f) ∧ F f = some (FnO f G) ∧ F G.c = some (CodeO G.c G.qual)
  | .oi a C fs, o => o = some (.ref a) ∧ ∃ dx vs, H a = some (.ins C dx vs) ∧ IsF K F vs fs
  | .ex a d fs, o => o = some (.ref a) ∧ ∀ dd, d = some dd → ∃ vs, F dd = some (.xd vs) ∧ IsF K F vs fs
/-- where a def began -/
structure Anc where
  K : PySem.W.Frag
  H : Hp
  F : Hp
  L : Addr → Option Obj
  pg : List Addr
structure LowT [Tbs] (L : Addr → Option Obj) (F H : Hp) : Prop extends Low L F H where
  tk : TOk H
instance [Tbs] {L : Addr → Option Obj} {F H : Hp} : Coe (LowT L F H) (Low L F H) := ⟨LowT.toLow⟩
/-- what is set aside: the dicts that are locked, cells that no name owns and that nothing here changes -/
structure Lk where
  l : Addr → Option Obj
  x : Addr → Option HO
/-- the state: F frozen, L set aside, the slots ε -/
structure Rep [Tbs] (A : Anc) (L : Lk) (F : Hp) (ε : DEnv) (σ : L2.St) (H : Hp) : Prop where
  len : ε.length = σ.length
  low : Low L.l F H
  val : ∀ (i : Nat) (s : Sl), ε[i]? = some s → SlOk A.K F H s (σ[i]?).join
  off : ∀ (i : Nat) (s : Sl) (a : Addr), ε[i]? = some s → a ∈ adr s → F a = none ∧ ∃ o, H a = some o
  dis : ∀ (i j : Nat) (s t : Sl) (a : Addr), ε[i]? = some s → ε[j]? = some t → a ∈ adr s → a ∈ adr t → i = j
  keep : ∀ (b : Addr) (o : HO), b ∉ A.pg → A.H b = some o → NoT o → L.l b = A.L b → H b = some o
  newF : ∀ (b : Addr) (o : HO), F b = some o → A.F b = some o ∨ A.H b = none ∨ Imm o
  newO : ∀ (i : Nat) (s : Sl) (a : Addr), ε[i]? = some s → a ∈ adr s → (A.H a = none ∧ a ∉ A.pg) ∨ ∃ p c g n, s = .pu p c g n
  lk : ∀ (b : Addr) (ob : Obj), A.L b = some ob → L.l b = some ob
  pgs : ∀ b ∈ A.pg, ∃ o, H b = some o
  pup : ∀ (i : Nat) (p c g : Addr) (n : Nat), ε[i]? = some (.pu p c g n) → p ∈ A.pg ∧ g ∈ A.pg
  hid : ∀ (a : Addr) (o : HO), L.x a = some o → H a = some o ∧ F a = none ∧ A.H a = none ∧ a ∉ A.pg ∧ ¬ Imm o ∧ NoT o
  hds : ∀ (i : Nat) (s : Sl) (a : Addr), ε[i]? = some s → a ∈ adr s → L.x a = none
  tab : TOk H
  nw : Nw A.H H
theorem Rep.lowT [Tbs] {A : Anc} {L : Lk} {F H : Hp} {ε : DEnv} {σ : L2.St} (R : Rep A L F ε σ H) : LowT L.l F H := ⟨R.low, R.tab⟩
theorem SlOk.mono [Tbs] {K : PySem.W.Frag} {F F' H : Hp} (s : Same F F') : ∀ {x : Sl} {o : Option V}, SlOk K F H x o → SlOk K F' H x o
  | .un, _, _ => True.intro
  | .fz _, _, ⟨v, e, h⟩ => ⟨v, e, h.mono s⟩
  | .ol _ _, _, ⟨e, vs, h, r⟩ => ⟨e, vs, h, r.mono s⟩
  | .od _ .t _, _, ⟨e, h⟩ => ⟨e, let ⟨vs, h, r⟩ := h; ⟨vs, h, r.mono s⟩⟩
  | .od _ .k _, _, ⟨e, h⟩ => ⟨e, let ⟨vs, h, r⟩ := h; ⟨vs, h, r.mono s⟩⟩
  | .od _ .x _, _, ⟨e, vs, ob, h, r⟩ => ⟨e, vs, ob, h, r.mono s⟩
  | .pu _ _ _ _, _, h => h
  | .nd _ _ _, _, ⟨e, h, c⟩ => ⟨e, s _ _ h, s _ _ c⟩
  | .oi _ _ _, _, ⟨e, dx, vs, h, r⟩ => ⟨e, dx, vs, h, r.mono s⟩
  | .ex _ _ _, _, ⟨e, h⟩ => ⟨e, fun dd q => let ⟨vs, h1, r⟩ := h dd q; ⟨vs, s _ _ h1, r.mono s⟩⟩
/-- the slot's own cells are as they were -/
theorem SlOk.keep [Tbs] {K : PySem.W.Frag} {F H H' : Hp} : ∀ {x : Sl} {o : Option V}, (∀ a ∈ adr x, ∀ u, H a = some u → H' a = some u) → SlOk K F H x o → SlOk K F H' x o
  | .un, _, _, _ => True.intro
  | .fz _, _, _, h => h
  | .ol a _, _, k, ⟨e, vs, h, r⟩ => ⟨e, vs, k a (by simp [adr]) _ h, r⟩
  | .od a .t _, _, k, ⟨e, h⟩ => ⟨e, let ⟨vs, h, r⟩ := h; ⟨vs, k a (by simp [adr]) _ h, r⟩⟩
  | .od a .k _, _, k, ⟨e, h⟩ => ⟨e, let ⟨vs, h, r⟩ := h; ⟨vs, k a (by simp [adr]) _ h, r⟩⟩
  | .od a .x _, _, k, ⟨e, vs, ob, h, r⟩ => ⟨e, vs, ob, k a (by simp [adr]) _ h, r⟩
  | .pu p c g n, _, k, ⟨e, h⟩ => by
    obtain ⟨⟨cs, gs, z, h1, h2, h3, r⟩, b1, b2, b3⟩ := h
    exact ⟨e, ⟨⟨cs, gs, z, k p (by simp [adr]) _ h1, k c (by simp [adr]) _ h2, k g (by simp [adr]) _ h3, r⟩, b1, b2, b3⟩⟩
  | .nd _ _ _, _, _, h => h
  | .oi a _ _, _, k, ⟨e, dx, vs, h, r⟩ => ⟨e, dx, vs, k a (by simp [adr]) _ h, r⟩
  | .ex _ _ _, _, _, h => h
end Sv
namespace Sv
open PySem PySem.Spec PyProof.Rows L2
variable [Tb : Tbs]
section
variable {A : Anc} {L : Lk} {F F' H : Hp} {ε : DEnv} {σ : L2.St}
theorem same_of {F : Hp} {a : Addr} {o : HO} (n : F a = none) : Same F (upd F a o) := fun b u e => by rw [upd_ne (ne_of_none e n)]; exact e
theorem Rep.Fn (R : Rep A L F ε σ H) {p : Addr} (h : H p = none) : F p = none := by
  cases e : F p with
  | none => rfl
  | some o => obtain ⟨u, hu⟩ := R.low.ex e; rw [h] at hu; cases hu
theorem Rep.ALn (R : Rep A L F ε σ H) {p : Addr} (h : L.l p = none) : A.L p = none := by
  cases e : A.L p with
  | none => rfl
  | some o => rw [R.lk p o e] at h; cases h
theorem Rep.fresh (R : Rep A L F ε σ H) {p : Addr} (h : H p = none) : A.H p = none := R.nw.non h
theorem Rep.offn (R : Rep A L F ε σ H) {p : Addr} (h : H p = none) : ∀ (i : Nat) (s : Sl), ε[i]? = some s → p ∉ adr s := fun i s e m => by
  obtain ⟨_, u, hu⟩ := R.off i s p e m
  rw [h] at hu
  cases hu
theorem Rep.xn (R : Rep A L F ε σ H) {p : Addr} (h : H p = none) : L.x p = none := by
  cases e : L.x p with
  | none => rfl
  | some o => have := (R.hid p o e).1; rw [h] at this; cases this
/-- a new cell, frozen at once -/
theorem Rep.new (R : Rep A L F ε σ H) {p : Addr} (o : HO) (h : H p = none) (nt : NoT o := by exact True.intro) : Rep A L (upd F p o) ε σ (upd H p o) := by
  have fn := R.Fn h
  have s := same_of (o := o) fn
  refine ⟨R.len, R.low.new fn nt, fun i x e => ?_, fun i x a e m => ?_, R.dis, fun b u np e n l => ?_, fun b u e => ?_, R.newO, R.lk, fun b hb => ?_, R.pup, fun a u e => ?_, R.hds, R.tab.new h, R.nw.new h⟩
  · refine (SlOk.mono s (R.val i x e)).keep fun a m u hu => ?_
    rw [upd_ne (ne_of_none hu h)]
    exact hu
  · obtain ⟨h1, u, h2⟩ := R.off i x a e m
    have ne : a ≠ p := ne_of_none h2 h
    exact ⟨by rw [upd_ne ne]; exact h1, u, by rw [upd_ne ne]; exact h2⟩
  · have q := R.keep b u np e n l
    rw [upd_ne (ne_of_none q h)]
    exact q
  · by_cases hb : b = p
    · subst hb
      exact .inr (.inl (R.fresh h))
    · rw [upd_ne hb] at e
      exact R.newF b u e
  · obtain ⟨u, hu⟩ := R.pgs b hb
    exact ⟨u, by rw [upd_ne (ne_of_none hu h)]; exact hu⟩
  · obtain ⟨h1, h2, h3⟩ := R.hid a u e
    have ne : a ≠ p := ne_of_none h1 h
    exact ⟨by rw [upd_ne ne]; exact h1, by rw [upd_ne ne]; exact h2, h3⟩
/-- a new cell, not frozen -/
theorem Rep.newOff (R : Rep A L F ε σ H) {p : Addr} (o : HO) (h : H p = none) : Rep A L F ε σ (upd H p o) := by
  refine ⟨R.len, R.low.off (R.Fn h), fun i x e => ?_, fun i x a e m => ?_, R.dis, fun b u np e n l => ?_, R.newF, R.newO, R.lk, fun b hb => ?_, R.pup, fun a u e => ?_, R.hds, R.tab.new h, R.nw.new h⟩
  · refine (R.val i x e).keep fun a m u hu => ?_
    rw [upd_ne (ne_of_none hu h)]
    exact hu
  · obtain ⟨h1, u, h2⟩ := R.off i x a e m
    exact ⟨h1, u, by rw [upd_ne (ne_of_none h2 h)]; exact h2⟩
  · have q := R.keep b u np e n l
    rw [upd_ne (ne_of_none q h)]
    exact q
  · obtain ⟨u, hu⟩ := R.pgs b hb
    exact ⟨u, by rw [upd_ne (ne_of_none hu h)]; exact hu⟩
  · obtain ⟨h1, h2, h3⟩ := R.hid a u e
    exact ⟨by rw [upd_ne (ne_of_none h1 h)]; exact h1, h2, h3⟩
/-- a cell that no slot owns -/
structure Own (A : Anc) (L : Lk) (F : Hp) (ε : DEnv) (a : Addr) : Prop where
  nf : F a = none
  nh : A.H a = none
  np : a ∉ A.pg
  nx : L.x a = none
  ns : ∀ (i : Nat) (s : Sl), ε[i]? = some s → a ∉ adr s
theorem Rep.npg (R : Rep A L F ε σ H) {p : Addr} (h : H p = none) : p ∉ A.pg := fun z => by obtain ⟨u, hu⟩ := R.pgs p z; rw [h] at hu; cases hu
theorem Rep.own (R : Rep A L F ε σ H) {p : Addr} (h : H p = none) : Own A L F ε p := ⟨R.Fn h, R.fresh h, R.npg h, R.xn h, R.offn h⟩
/-- .. is frozen -/
theorem Rep.frz (R : Rep A L F ε σ H) {a : Addr} {o : HO} (w : Own A L F ε a) (h : H a = some o) (nt : NoT o := by exact True.intro) : Rep A L (upd F a o) ε σ H := by
  refine ⟨R.len, R.low.add w.nf h nt, fun i x e => SlOk.mono (same_of w.nf) (R.val i x e), fun i x b e m => ?_, R.dis, R.keep, fun b u e => ?_, R.newO, R.lk, R.pgs, R.pup, fun b u e => ?_, R.hds, R.tab, R.nw⟩
  · obtain ⟨h1, h2⟩ := R.off i x b e m
    exact ⟨by rw [upd_ne (fun (z : b = a) => w.ns i x e (z ▸ m))]; exact h1, h2⟩
  · by_cases hb : b = a
    · subst hb
      exact .inr (.inl w.nh)
    · rw [upd_ne hb] at e
      exact R.newF b u e
  · obtain ⟨h1, h2, h3⟩ := R.hid b u e
    exact ⟨h1, by rw [upd_ne (fun z => by rw [z, w.nx] at e; cases e)]; exact h2, h3⟩
theorem join_set {i : Nat} {v : V} (h : i < σ.length) : ((σ.set i (some v))[i]?).join = some v := by rw [List.getElem?_set_self h]; rfl
/-- a slot gets a frozen value -/
theorem Rep.set (R : Rep A L F ε σ H) {i : Nat} {v : V} {d : Dt} (hi : i < ε.length) (h : Is A.K F v d) : Rep A L F (ε.set i (.fz d)) (σ.set i (some v)) H := by
  have at_ : ∀ (j : Nat) (s : Sl), (ε.set i (.fz d))[j]? = some s → (j = i ∧ s = .fz d) ∨ j ≠ i ∧ ε[j]? = some s := fun j s e => by
    by_cases hj : j = i
    · subst hj
      rw [List.getElem?_set_self hi] at e
      exact .inl ⟨rfl, (Option.some.inj e).symm⟩
    · rw [List.getElem?_set_ne (Ne.symm hj)] at e
      exact .inr ⟨hj, e⟩
  refine ⟨by rw [List.length_set, List.length_set]; exact R.len, R.low, fun j s e => ?_, fun j s a e m => ?_, fun j k s t a e f m n => ?_, R.keep, R.newF, fun j s a e m => ?_, R.lk, R.pgs, fun j p c g n e => ?_, R.hid, fun j s a e m => ?_, R.tab, R.nw⟩
  · rcases at_ j s e with ⟨rfl, rfl⟩ | ⟨ne, e⟩
    · exact ⟨v, join_set (by rw [← R.len]; exact hi), h⟩
    · rw [List.getElem?_set_ne (Ne.symm ne)]
      exact R.val j s e
  · rcases at_ j s e with ⟨rfl, rfl⟩ | ⟨ne, e⟩
    · cases m
    · exact R.off j s a e m
  · rcases at_ j s e with ⟨rfl, rfl⟩ | ⟨_, e⟩
    · cases m
    · rcases at_ k t f with ⟨rfl, rfl⟩ | ⟨_, f⟩
      · cases n
      · exact R.dis j k s t a e f m n
  · rcases at_ j s e with ⟨rfl, rfl⟩ | ⟨_, e⟩
    · cases m
    · exact R.newO j s a e m
  · rcases at_ j _ e with ⟨_, z⟩ | ⟨_, e⟩
    · cases z
    · exact R.pup j p c g n e
  · rcases at_ j s e with ⟨rfl, rfl⟩ | ⟨_, e⟩
    · cases m
    · exact R.hds j s a e m
/-- a slot gets an own thing: its cells were no slot's -/
theorem Rep.setOwn (R : Rep A L F ε σ H) {i : Nat} {v : V} {x : Sl} (hi : i < ε.length) (hx : ∀ p c g n, x ≠ .pu p c g n) (ok : SlOk A.K F H x (some v)) (w : ∀ a ∈ adr x, Own A L F ε a ∧ ∃ o, H a = some o) : Rep A L F (ε.set i x) (σ.set i (some v)) H := by
  have at_ : ∀ (j : Nat) (s : Sl), (ε.set i x)[j]? = some s → (j = i ∧ s = x) ∨ j ≠ i ∧ ε[j]? = some s := fun j s e => by
    by_cases hj : j = i
    · subst hj
      rw [List.getElem?_set_self hi] at e
      exact .inl ⟨rfl, (Option.some.inj e).symm⟩
    · rw [List.getElem?_set_ne (Ne.symm hj)] at e
      exact .inr ⟨hj, e⟩
  refine ⟨by rw [List.length_set, List.length_set]; exact R.len, R.low, fun j s e => ?_, fun j s a e m => ?_, fun j k s t a e f m n => ?_, R.keep, R.newF, fun j s a e m => ?_, R.lk, R.pgs, fun j p c g n e => ?_, R.hid, fun j s a e m => ?_, R.tab, R.nw⟩
  · rcases at_ j s e with ⟨rfl, rfl⟩ | ⟨ne, e⟩
    · rw [join_set (by rw [← R.len]; exact hi)]; exact ok
    · rw [List.getElem?_set_ne (Ne.symm ne)]
      exact R.val j s e
  · rcases at_ j s e with ⟨rfl, rfl⟩ | ⟨ne, e⟩
    · exact ⟨(w a m).1.nf, (w a m).2⟩
    · exact R.off j s a e m
  · rcases at_ j s e with ⟨ej, es⟩ | ⟨_, e'⟩
    · rcases at_ k t f with ⟨ek, et⟩ | ⟨_, f'⟩
      · rw [ej, ek]
      · exact ((w a (es ▸ m)).1.ns k t f' n).elim
    · rcases at_ k t f with ⟨ek, et⟩ | ⟨_, f'⟩
      · exact ((w a (et ▸ n)).1.ns j s e' m).elim
      · exact R.dis j k s t a e' f' m n
  · rcases at_ j s e with ⟨rfl, rfl⟩ | ⟨_, e⟩
    · exact .inl ⟨(w a m).1.nh, (w a m).1.np⟩
    · exact R.newO j s a e m
  · rcases at_ j _ e with ⟨_, z⟩ | ⟨_, e⟩
    · exact (hx _ _ _ _ z.symm).elim
    · exact R.pup j p c g n e
  · rcases at_ j s e with ⟨rfl, rfl⟩ | ⟨_, e⟩
    · exact (w a m).1.nx
    · exact R.hds j s a e m
/-- the slot's word alone changes (its cells are let go) -/
theorem Rep.letGo (R : Rep A L F ε σ H) {i : Nat} {x : Sl} (ok : ∀ s, ε[i]? = some s → SlOk A.K F H x (σ[i]?).join) (w : adr x = []) : Rep A L F (ε.set i x) σ H := by
  have at_ : ∀ (j : Nat) (s : Sl), (ε.set i x)[j]? = some s → (j = i ∧ s = x ∧ ∃ s', ε[i]? = some s') ∨ j ≠ i ∧ ε[j]? = some s := fun j s e => by
    by_cases hj : j = i
    · subst hj
      have hi : j < ε.length := by
        have := (List.getElem?_eq_some_iff.mp e).1
        rwa [List.length_set] at this
      rw [List.getElem?_set_self hi] at e
      exact .inl ⟨rfl, (Option.some.inj e).symm, _, List.getElem?_eq_getElem hi⟩
    · rw [List.getElem?_set_ne (Ne.symm hj)] at e
      exact .inr ⟨hj, e⟩
  refine ⟨by rw [List.length_set]; exact R.len, R.low, fun j s e => ?_, fun j s a e m => ?_, fun j k s t a e f m n => ?_, R.keep, R.newF, fun j s a e m => ?_, R.lk, R.pgs, fun j p c g n e => ?_, R.hid, fun j s a e m => ?_, R.tab, R.nw⟩
  · rcases at_ j s e with ⟨rfl, rfl, s', e'⟩ | ⟨ne, e⟩
    · exact ok s' e'
    · exact R.val j s e
  · rcases at_ j s e with ⟨rfl, rfl, _⟩ | ⟨ne, e⟩
    · rw [w] at m; cases m
    · exact R.off j s a e m
  · rcases at_ j s e with ⟨rfl, rfl, _⟩ | ⟨_, e⟩
    · rw [w] at m; cases m
    · rcases at_ k t f with ⟨rfl, rfl, _⟩ | ⟨_, f⟩
      · rw [w] at n; cases n
      · exact R.dis j k s t a e f m n
  · rcases at_ j s e with ⟨rfl, rfl, _⟩ | ⟨_, e⟩
    · rw [w] at m; cases m
    · exact R.newO j s a e m
  · rcases at_ j _ e with ⟨_, z, _⟩ | ⟨_, e⟩
    · rw [← z] at w; cases w
    · exact R.pup j p c g n e
  · rcases at_ j s e with ⟨rfl, rfl, _⟩ | ⟨_, e⟩
    · rw [w] at m; cases m
    · exact R.hds j s a e m
/-- behind letting go, the cell is nobody's -/
theorem Rep.ownOf (R : Rep A L F ε σ H) {i : Nat} {s x : Sl} {a : Addr} (e : ε[i]? = some s) (m : a ∈ adr s) (np : ∀ p c g n, s ≠ .pu p c g n) (w : adr x = []) : Own A L F (ε.set i x) a := by
  have nn := (R.newO i s a e m).resolve_right fun ⟨p, c, g, n, z⟩ => np p c g n z
  refine ⟨(R.off i s a e m).1, nn.1, nn.2, R.hds i s a e m, fun j t f n => ?_⟩
  by_cases hj : j = i
  · subst hj
    have hi : j < ε.length := (List.getElem?_eq_some_iff.mp e).1
    rw [List.getElem?_set_self hi] at f
    cases f
    rw [w] at n
    cases n
  · rw [List.getElem?_set_ne (Ne.symm hj)] at f
    exact hj (R.dis j i t s a f e n m)
/-- what a slot owns is a list or a dict -/
theorem Rep.mut (R : Rep A L F ε σ H) {i : Nat} {s : Sl} {a : Addr} (e : ε[i]? = some s) (m : a ∈ adr s) : ∃ u, H a = some u ∧ Mtb u := by
  have ok := R.val i s e
  cases s with
  | un => cases m
  | fz d => cases m
  | nd f G js => cases m
  | ex b d fs => cases m
  | oi b C fs =>
    obtain ⟨_, dx, vs, h2, _⟩ := ok
    rw [List.mem_singleton.mp m]
    exact ⟨_, h2, True.intro⟩
  | ol b ys =>
    obtain ⟨_, vs, h2, _⟩ := ok
    rw [List.mem_singleton.mp m]
    exact ⟨_, h2, True.intro⟩
  | od b T kvs =>
    rw [List.mem_singleton.mp m]
    cases T with
    | k => obtain ⟨_, vs, h2, _⟩ := ok; exact ⟨_, h2, True.intro⟩
    | t => obtain ⟨_, vs, h2, _⟩ := ok; exact ⟨_, h2, True.intro⟩
    | x => obtain ⟨_, vs, ob, h2, _⟩ := ok; exact ⟨_, h2, True.intro⟩
  | pu p c g n =>
    obtain ⟨_, ⟨cs, gs, z, q1, q2, q3, _⟩, _⟩ := ok
    simp only [adr, List.mem_cons, List.not_mem_nil, or_false] at m
    rcases m with rfl | rfl | rfl
    · exact ⟨_, q1, True.intro⟩
    · exact ⟨_, q2, True.intro⟩
    · exact ⟨_, q3, True.intro⟩
theorem Rep.nimm (R : Rep A L F ε σ H) {i : Nat} {s : Sl} {a : Addr} (e : ε[i]? = some s) (m : a ∈ adr s) : ∀ o, H a = some o → ¬ Imm o := fun o h => by
  obtain ⟨u, hu, w⟩ := R.mut e m
  rw [h] at hu
  cases hu
  exact w.nimm
theorem Rep.mut_nt (R : Rep A L F ε σ H) {i : Nat} {s : Sl} {a : Addr} (e : ε[i]? = some s) (m : a ∈ adr s) {o : HO} (h : H a = some o) : NoT o := by
  obtain ⟨u, hu, w⟩ := R.mut e m
  rw [h] at hu
  cases hu
  exact w.noT
/-- an own list or dict changes -/
theorem Rep.write (R : Rep A L F ε σ H) {i : Nat} {s x : Sl} {a : Addr} {o : HO} (e : ε[i]? = some s) (ha : adr s = [a]) (hx : adr x = [a]) (ok : SlOk A.K F (upd H a o) x (σ[i]?).join) (np : ∀ p c g n, s ≠ .pu p c g n) : Rep A L F (ε.set i x) σ (upd H a o) := by
  have hi : i < ε.length := (List.getElem?_eq_some_iff.mp e).1
  have ma : a ∈ adr s := by rw [ha]; exact List.mem_singleton.mpr rfl
  obtain ⟨fa, u0, hu0⟩ := R.off i s a e ma
  have at_ : ∀ (j : Nat) (t : Sl), (ε.set i x)[j]? = some t → (j = i ∧ t = x) ∨ j ≠ i ∧ ε[j]? = some t := fun j t f => by
    by_cases hj : j = i
    · subst hj
      rw [List.getElem?_set_self hi] at f
      exact .inl ⟨rfl, (Option.some.inj f).symm⟩
    · rw [List.getElem?_set_ne (Ne.symm hj)] at f
      exact .inr ⟨hj, f⟩
  have ne : ∀ (j : Nat) (t : Sl), j ≠ i → ε[j]? = some t → ∀ b ∈ adr t, b ≠ a := fun j t hj f b m z => hj (R.dis j i t s a f e (z ▸ m) ma)
  refine ⟨by rw [List.length_set]; exact R.len, R.low.off fa, fun j t f => ?_, fun j t b f m => ?_, fun j k t t' b f f' m n => ?_, fun b u nb hb nt l => ?_, R.newF, fun j t b f m => ?_, R.lk, fun b hb => ?_, fun j p c g n f => ?_, fun b u hb => ?_, fun j t b f m => ?_, (let ⟨_, hu, w⟩ := R.mut e ma; R.tab.write hu w.wr), (let ⟨_, hu, w⟩ := R.mut e ma; R.nw.write hu w.noT)⟩
  · rcases at_ j t f with ⟨rfl, rfl⟩ | ⟨hj, f⟩
    · exact ok
    · exact (R.val j t f).keep fun b m u hu => by rw [upd_ne (ne j t hj f b m)]; exact hu
  · rcases at_ j t f with ⟨rfl, rfl⟩ | ⟨hj, f⟩
    · rw [hx] at m
      rw [List.mem_singleton.mp m]
      exact ⟨fa, o, upd_same⟩
    · obtain ⟨h1, u, h2⟩ := R.off j t b f m
      exact ⟨h1, u, by rw [upd_ne (ne j t hj f b m)]; exact h2⟩
  · have m' : ∀ (j : Nat) (t : Sl), (ε.set i x)[j]? = some t → b ∈ adr t → ∃ t', ε[j]? = some t' ∧ b ∈ adr t' := fun j t f m => by
      rcases at_ j t f with ⟨rfl, rfl⟩ | ⟨_, f⟩
      · exact ⟨s, e, by rw [ha, ← hx]; exact m⟩
      · exact ⟨t, f, m⟩
    obtain ⟨t1, f1, m1⟩ := m' j t f m
    obtain ⟨t2, f2, m2⟩ := m' k t' f' n
    exact R.dis j k t1 t2 b f1 f2 m1 m2
  · have q := R.keep b u nb hb nt l
    refine (upd_ne fun z => ?_).trans q
    have := ((R.newO i s a e ma).resolve_right fun ⟨p, c, g, n, z⟩ => np p c g n z).1
    rw [← z, hb] at this
    cases this
  · rcases at_ j t f with ⟨rfl, rfl⟩ | ⟨_, f⟩
    · rw [hx] at m
      rw [List.mem_singleton.mp m]
      exact .inl ((R.newO j s a e ma).resolve_right fun ⟨p, c, g, n, z⟩ => np p c g n z)
    · exact R.newO j t b f m
  · obtain ⟨u, hu⟩ := R.pgs b hb
    by_cases hb' : b = a
    · exact ⟨o, by rw [hb', upd_same]⟩
    · exact ⟨u, by rw [upd_ne hb']; exact hu⟩
  · rcases at_ j _ f with ⟨_, z⟩ | ⟨_, f⟩
    · rw [← z] at hx; cases hx
    · exact R.pup j p c g n f
  · obtain ⟨h1, h2⟩ := R.hid b u hb
    exact ⟨by rw [upd_ne (fun z => by rw [z, R.hds i s a e ma] at hb; cases hb)]; exact h1, h2⟩
  · rcases at_ j t f with ⟨rfl, rfl⟩ | ⟨_, f⟩
    · rw [hx] at m
      rw [List.mem_singleton.mp m]
      exact R.hds j s a e ma
    · exact R.hds j t b f m
/-- a slot is forgotten -/
theorem Rep.weak (R : Rep A L F ε σ H) {σ' : L2.St} (i : Nat) (hl : σ'.length = σ.length) (h : ∀ j, j ≠ i → σ'[j]? = σ[j]?) : Rep A L F (ε.set i .un) σ' H := by
  have R1 := R.letGo (i := i) (x := .un) (fun _ _ => True.intro) rfl
  refine ⟨by rw [R1.len, hl], R1.low, fun j s e => ?_, R1.off, R1.dis, R1.keep, R1.newF, R1.newO, R1.lk, R1.pgs, R1.pup, R1.hid, R1.hds, R1.tab, R1.nw⟩
  by_cases hj : j = i
  · subst hj
    have hi : j < ε.length := by
      have := (List.getElem?_eq_some_iff.mp e).1
      rwa [List.length_set] at this
    rw [List.getElem?_set_self hi] at e
    cases e
    trivial
  · rw [h j hj]
    exact R1.val j s e
end
/-! ### what an expression gives -/
inductive Res where
  | fz (d : Dt) | ol (xs : List Dt) | od (T : Kd) (kvs : List (Dt × Dt))
  /-- a tuple: first a list of its own, then what is frozen -/
  | tp (xs : List Dt) (ds : List Dt)
def Res.d : Res → Dt
  | .fz d => d
  | .ol xs => .lst xs
  | .od T kvs => .dic T kvs
  | .tp xs ds => .tup (.lst xs :: ds)
def dicOk (K : PySem.W.Frag) (F H : Hp) (a : Addr) : Kd → List (Dt × Dt) → Prop
  | .t, kvs => ∃ vs, H a = some (.dT vs) ∧ IsT K F vs kvs
  | .k, kvs => ∃ vs, H a = some (.dK vs) ∧ IsK K F vs kvs
  | .x, kvs => ∃ vs ob, H a = some (.frz ob (XOb a vs)) ∧ IsX K F vs kvs
def ROk (A : Anc) (L : Lk) (F : Hp) (ε : DEnv) (H : Hp) (v : V) : Res → Prop
  | .fz d => Is A.K F v d
  | .ol xs => ∃ a vs, v = .ref a ∧ Own A L F ε a ∧ H a = some (.lst vs) ∧ IsL A.K F vs xs
  | .od T kvs => ∃ a, v = .ref a ∧ Own A L F ε a ∧ dicOk A.K F H a T kvs
  | .tp xs ds => ∃ p a us vs, v = .ref p ∧ F p = some (.tup (.ref a :: vs)) ∧ Own A L F ε a ∧ H a = some (.lst us) ∧ IsL A.K F us xs ∧ IsL A.K F vs ds
section
variable {A : Anc} {L : Lk} {F F' H : Hp} {ε : DEnv} {σ : L2.St}
theorem dicOk.ex {K : PySem.W.Frag} {a : Addr} {T : Kd} {kvs : List (Dt × Dt)} (h : dicOk K F H a T kvs) : ∃ o, H a = some o ∧ Mtb o ∧ ∀ F', Same F F' → F' a = some o → Is K F' (.ref a) (.dic T kvs) := by
  cases T with
  | t => obtain ⟨vs, h, r⟩ := h; exact ⟨_, h, trivial, fun F' s e => .dT e (r.mono s)⟩
  | k => obtain ⟨vs, h, r⟩ := h; exact ⟨_, h, trivial, fun F' s e => .dK e (r.mono s)⟩
  | x => obtain ⟨vs, ob, h, r⟩ := h; exact ⟨_, h, trivial, fun F' s e => .dX e (r.mono s)⟩
/-- a result is frozen -/
theorem Rep.frzR (R : Rep A L F ε σ H) {v : V} {r : Res} (h : ROk A L F ε H v r) : ∃ F', Same F F' ∧ Rep A L F' ε σ H ∧ Is A.K F' v r.d := by
  cases r with
  | fz d => exact ⟨F, Same.refl F, R, h⟩
  | ol xs =>
    obtain ⟨a, vs, rfl, w, ha, r⟩ := h
    exact ⟨_, same_of w.nf, R.frz w ha, .lst upd_same (r.mono (same_of w.nf))⟩
  | od T kvs =>
    obtain ⟨a, rfl, w, k⟩ := h
    obtain ⟨o, ha, dd, f⟩ := k.ex
    exact ⟨_, same_of w.nf, R.frz w ha dd.noT, f _ (same_of w.nf) upd_same⟩
  | tp xs ds =>
    obtain ⟨p, a, us, vs, rfl, hp, w, ha, r, r'⟩ := h
    have s := same_of (o := HO.lst us) w.nf
    exact ⟨_, s, R.frz w ha, .tup (s _ _ hp) (.cons (.lst upd_same (r.mono s)) (r'.mono s))⟩
end
end Sv
namespace Sv
open PySem PySem.Spec PyProof.Rows L2
variable [Tb : Tbs]
/-! ### readings over data -/
abbrev GE := DEnv → (DEnv → Dt → Prop) → Prop
abbrev GR := DEnv → (DEnv → Res → Prop) → Prop
abbrev GT := DEnv → (DEnv → Bool → Prop) → Prop
abbrev GA := DEnv → (DEnv → List Dt → Prop) → Prop
def tE (A : Anc) (g : GE) : TE := fun σ H Q => ∃ L F ε P, Rep A L F ε σ H ∧ g ε P ∧ ∀ F' ε' H' v d, Same F F' → Rep A L F' ε' σ H' → Is A.K F' v d → P ε' d → Q v H'
def tR (A : Anc) (g : GR) : TE := fun σ H Q => ∃ L F ε P, Rep A L F ε σ H ∧ g ε P ∧ ∀ F' ε' H' v r, Same F F' → Rep A L F' ε' σ H' → ROk A L F' ε' H' v r → P ε' r → Q v H'
def tT (A : Anc) (g : GT) : TT := fun σ H Q => ∃ L F ε P, Rep A L F ε σ H ∧ g ε P ∧ ∀ F' ε' H' b, Same F F' → Rep A L F' ε' σ H' → P ε' b → Q b H'
def tAs (A : Anc) (g : GA) : TA := fun σ H Q => ∃ L F ε P, Rep A L F ε σ H ∧ g ε P ∧ ∀ F' ε' H' vs ds, Same F F' → Rep A L F' ε' σ H' → IsL A.K F' vs ds → P ε' ds → Q vs H'
theorem _root_.L2.PE.weak {X : Cx} {e : Expr} {t t' : TE} (h : PE X e t) (w : ∀ σ H Q, t' σ H Q → t σ H Q) : PE X e t' := ⟨fun pins s σ H Q I q => h.run pins s σ H Q I (w _ _ _ q)⟩
theorem _root_.L2.PT.weak {X : Cx} {e : Expr} {t t' : TT} (h : PT X e t) (w : ∀ σ H Q, t' σ H Q → t σ H Q) : PT X e t' := ⟨fun pins s σ H Q I q => h.run pins s σ H Q I (w _ _ _ q)⟩
theorem _root_.L2.PA.weak {X : Cx} {e : List Expr} {t t' : TA} (h : PA X e t) (w : ∀ σ H Q, t' σ H Q → t σ H Q) : PA X e t' := ⟨fun pos pins s σ H Q I q => h.run pos pins s σ H Q I (w _ _ _ q)⟩
abbrev XE (A : Anc) (X : Cx) (e : Expr) (g : GE) : Prop := PE X e (tE A g)
abbrev XR (A : Anc) (X : Cx) (e : Expr) (g : GR) : Prop := PE X e (tR A g)
abbrev XT (A : Anc) (X : Cx) (e : Expr) (g : GT) : Prop := PT X e (tT A g)
abbrev XA (A : Anc) (X : Cx) (es : List Expr) (g : GA) : Prop := PA X es (tAs A g)
section
variable {A : Anc} {X : Cx} {L : Lk} {F F' H : Hp} {ε : DEnv} {σ : L2.St} {e : Expr}
theorem join_some {o : Option (Option V)} {v : V} (h : o.join = some v) : o = some (some v) := by
  cases o with
  | none => cases h
  | some x => cases x with
    | none => cases h
    | some y => cases h; rfl
/-! names -/
def rdS (ε : DEnv) (i : Nat) : Option Dt := match ε[i]? with
  | some (.fz d) => some d
  | some (.ol _ xs) => some (.lst xs)
  | some (.od _ T kvs) => some (.dic T kvs)
  | _ => none
def frz1 : Sl → Sl
  | .ol _ xs => .fz (.lst xs)
  | .od _ T kvs => .fz (.dic T kvs)
  | s => s
def fzS : DEnv → Nat → DEnv
  | [], _ => []
  | s :: ε, 0 => frz1 s :: ε
  | s :: ε, i + 1 => s :: fzS ε i
theorem fzS_def : ∀ (ε : DEnv) (i : Nat), fzS ε i = match ε[i]? with
    | some (.ol _ xs) => ε.set i (.fz (.lst xs))
    | some (.od _ T kvs) => ε.set i (.fz (.dic T kvs))
    | _ => ε
  | [], _ => rfl
  | s :: ε, 0 => by cases s <;> rfl
  | s :: ε, i + 1 => by
    show s :: fzS ε i = _
    rw [fzS_def ε i, List.getElem?_cons_succ]
    cases ε[i]? with
    | none => rfl
    | some x => cases x <;> rfl
theorem Rep.frzSlot (R : Rep A L F ε σ H) (i : Nat) : ∃ F', Same F F' ∧ Rep A L F' (fzS ε i) σ H ∧ ∀ d, rdS ε i = some d → ∃ v, σ[i]? = some (some v) ∧ Is A.K F' v d := by
  cases e : ε[i]? with
  | none => exact ⟨F, Same.refl F, by rw [fzS_def, e]; exact R, fun d h => by unfold rdS at h; rw [e] at h; cases h⟩
  | some s =>
    have ok := R.val i s e
    have own : ∀ (a : Addr) (o : HO) (d : Dt), adr s = [a] → (∀ p c g n, s ≠ .pu p c g n) → (σ[i]?).join = some (.ref a) → H a = some o → NoT o → Is A.K (upd F a o) (.ref a) d → fzS ε i = ε.set i (.fz d) → rdS ε i = some d →
        ∃ F', Same F F' ∧ Rep A L F' (fzS ε i) σ H ∧ ∀ d, rdS ε i = some d → ∃ v, σ[i]? = some (some v) ∧ Is A.K F' v d := fun a o d ha np hv ho nt hd h1 h2 => by
      have m : a ∈ adr s := by rw [ha]; exact List.mem_singleton.mpr rfl
      have R1 := R.letGo (i := i) (x := .un) (fun _ _ => True.intro) rfl
      have w := R.ownOf (x := .un) e m np rfl
      have R2 := R1.frz w ho nt
      have R3 := R2.letGo (i := i) (x := .fz d) (fun _ _ => ⟨_, hv, hd⟩) rfl
      rw [List.set_set] at R3
      refine ⟨_, same_of w.nf, by rw [h1]; exact R3, fun d' h => ?_⟩
      rw [h2] at h
      cases h
      exact ⟨_, join_some hv, hd⟩
    cases s with
    | un => exact ⟨F, Same.refl F, by rw [fzS_def, e]; exact R, fun d h => by unfold rdS at h; rw [e] at h; cases h⟩
    | fz d =>
      refine ⟨F, Same.refl F, by rw [fzS_def, e]; exact R, fun d' h => ?_⟩
      unfold rdS at h
      rw [e] at h
      cases h
      obtain ⟨v, h1, h2⟩ := ok
      exact ⟨v, join_some h1, h2⟩
    | ol a xs =>
      obtain ⟨h1, vs, h2, h3⟩ := ok
      have nf := (R.off i _ a e (List.mem_singleton.mpr rfl)).1
      exact own a _ (.lst xs) rfl (fun _ _ _ _ z => nomatch z) h1 h2 True.intro (.lst upd_same (h3.mono (same_of nf))) (by rw [fzS_def, e]) (by unfold rdS; rw [e])
    | od a T kvs =>
      have nf := (R.off i _ a e (List.mem_singleton.mpr rfl)).1
      obtain ⟨h1, h2⟩ : (σ[i]?).join = some (.ref a) ∧ dicOk A.K F H a T kvs := by cases T <;> exact ok
      obtain ⟨o, ho, dd, f⟩ := h2.ex
      exact own a o (.dic T kvs) rfl (fun _ _ _ _ z => nomatch z) h1 ho dd.noT (f _ (same_of nf) upd_same) (by rw [fzS_def, e]) (by unfold rdS; rw [e])
    | pu p c g n => exact ⟨F, Same.refl F, by rw [fzS_def, e]; exact R, fun d h => by unfold rdS at h; rw [e] at h; cases h⟩
    | nd f G js => exact ⟨F, Same.refl F, by rw [fzS_def, e]; exact R, fun d h => by unfold rdS at h; rw [e] at h; cases h⟩
    | oi a C fs => exact ⟨F, Same.refl F, by rw [fzS_def, e]; exact R, fun d h => by unfold rdS at h; rw [e] at h; cases h⟩
    | ex a d fs => exact ⟨F, Same.refl F, by rw [fzS_def, e]; exact R, fun d h => by unfold rdS at h; rw [e] at h; cases h⟩
def gV (i : Nat) : GE := fun ε P => ∃ d, rdS ε i = some d ∧ P (fzS ε i) d
theorem xe_v {i : Nat} (h : PE X e (tVar i)) : XE A X e (gV i) := h.weak fun σ H Q ⟨L, F, ε, P, R, ⟨d, hd, p⟩, k⟩ => by
  obtain ⟨F', s, R', f⟩ := R.frzSlot i
  obtain ⟨v, hv, is⟩ := f d hd
  exact ⟨v, hv, k F' _ H v d s R' is p⟩
/-- .. handed on whole (returned): an own thing stays one, the name is forgotten -/
def rdR (ε : DEnv) (i : Nat) : Option Res := match ε[i]? with
  | some (.fz d) => some (.fz d)
  | some (.ol _ xs) => some (.ol xs)
  | some (.od _ T kvs) => some (.od T kvs)
  | _ => none
def gVR (i : Nat) : GR := fun ε P => ∃ r, rdR ε i = some r ∧ P (ε.set i .un) r
theorem xr_v {i : Nat} (h : PE X e (tVar i)) : XR A X e (gVR i) := h.weak fun σ H Q ⟨L, F, ε, P, R, ⟨r, hr, p⟩, k⟩ => by
  have R1 := R.letGo (i := i) (x := .un) (fun _ _ => True.intro) rfl
  unfold rdR at hr
  cases e : ε[i]? with
  | none => rw [e] at hr; cases hr
  | some s =>
    rw [e] at hr
    have ok := R.val i s e
    cases s with
    | un => cases hr
    | pu p c g n => cases hr
    | nd f G js => cases hr
    | oi a C fs => cases hr
    | ex a d fs => cases hr
    | fz d =>
      cases hr
      obtain ⟨v, h1, h2⟩ := ok
      exact ⟨v, join_some h1, k F _ H v (.fz d) (Same.refl F) R1 h2 p⟩
    | ol a xs =>
      cases hr
      obtain ⟨h1, vs, h2, h3⟩ := ok
      exact ⟨_, join_some h1, k F _ H (.ref a) (.ol xs) (Same.refl F) R1 ⟨a, vs, rfl, R.ownOf e (List.mem_singleton.mpr rfl) (fun _ _ _ _ z => nomatch z) rfl, h2, h3⟩ p⟩
    | od a T kvs =>
      cases hr
      obtain ⟨h1, h2⟩ : (σ[i]?).join = some (.ref a) ∧ dicOk A.K F H a T kvs := by cases T <;> exact ok
      exact ⟨_, join_some h1, k F _ H (.ref a) (.od T kvs) (Same.refl F) R1 ⟨a, rfl, R.ownOf e (List.mem_singleton.mpr rfl) (fun _ _ _ _ z => nomatch z) rfl, h2⟩ p⟩
/-- a result read as data -/
def gRE (g : GR) : GE := fun ε P => g ε fun ε' r => P ε' r.d
theorem xe_r {g : GR} (h : XR A X e g) : XE A X e (gRE g) := h.weak fun σ H Q ⟨L, F, ε, P, R, hg, k⟩ => ⟨L, F, ε, _, R, hg, fun F' ε' H' v r s R' ok p => by
  obtain ⟨F2, s2, R2, is⟩ := R'.frzR ok
  exact k F2 ε' H' v r.d (s.trans s2) R2 is p⟩
def gER (g : GE) : GR := fun ε P => g ε fun ε' d => P ε' (.fz d)
theorem xr_e {g : GE} (h : XE A X e g) : XR A X e (gER g) := h.weak fun σ H Q ⟨L, F, ε, P, R, hg, k⟩ => ⟨L, F, ε, _, R, hg, fun F' ε' H' v d s R' ok p => k F' ε' H' v (.fz d) s R' ok p⟩
/-! constants -/
def gC (d : Dt) : GE := fun ε P => P ε d
theorem xe_c {v : V} (d : Dt) (h : PE X e (tC v)) (hd : ∀ F, Is A.K F v d) : XE A X e (gC d) := h.weak fun σ H Q ⟨L, F, ε, P, R, p, k⟩ => k F ε H v d (Same.refl F) R (hd F) p
theorem xe_int {i : Int} {j pos} : XE A X (.Constant (.int i) j pos) (gC (.int i)) := xe_c _ pe_int fun _ => .int i
theorem xe_bl {i : Bool} {j pos} : XE A X (.Constant (.bool i) j pos) (gC (.bl i)) := xe_c _ pe_bl fun _ => .bl i
theorem xe_str {i : Str} {j pos} : XE A X (.Constant (.str i) j pos) (gC (.str i)) := xe_c _ pe_str fun _ => .str i
theorem xe_non {j pos} : XE A X (.Constant .none j pos) (gC .non) := xe_c _ pe_non fun _ => .non
theorem xe_gi {x : Str} {pos : Pos} {i : Int} (hg : Gl X x) (h : ∃ u, X.mg x = some u ∧ RelV (.int i) u) (hd : (x == ("__debug__" : Str)) = false := by decide) : XE A X (.Name x pos) (gC (.int i)) := xe_c _ (C8.pe_gc hg h hd) fun _ => .int i
/-! two operands -/
abbrev R3 := Dt → Dt → Dt → Prop
/-- a rule of two values, read over data: the answer is flat -/
def OpD (K : PySem.W.Frag) (r : R2) (f : R3) : Prop := ∀ (L : Addr → Option Obj) F H v u x y z Q, Low L F H → Is K F v x → Is K F u y → f x y z → (∀ w, Is K F w z → Q w H) → r v u H Q
def g2 (f : R3) (ga gb : GE) : GE := fun ε P => ga ε fun ε1 x => gb ε1 fun ε2 y => ∃ z, f x y z ∧ P ε2 z
theorem t2_weak {r : R2} {f : R3} {ga gb : GE} (hf : OpD A.K r f) : ∀ σ H Q, tE A (g2 f ga gb) σ H Q → tOp r (tE A ga) (tE A gb) σ H Q := fun σ H Q ⟨L, F, ε, P, R, hg, k⟩ =>
  ⟨L, F, ε, _, R, hg, fun F1 ε1 H1 v x s1 R1 i1 q1 => ⟨L, F1, ε1, _, R1, q1, fun F2 ε2 H2 u y s2 R2 i2 ⟨z, hz, p⟩ =>
    hf L.l F2 H2 v u x y z Q R2.low (i1.mono s2) i2 hz fun w iw => k F2 ε2 H2 w z (s1.trans s2) R2 iw p⟩⟩
theorem xe_op {a b : Expr} {op : Operator} {pos : Pos} {r : R2} {f : R3} {ga gb : GE} (ho : OpR X (binaryOp op) r) (hf : OpD A.K r f) (ha : XE A X a ga) (hb : XE A X b gb) : XE A X (.BinOp a op b pos) (g2 f ga gb) := (pe_op ho ha hb).weak (t2_weak hf)
theorem xe_cmp {a b : Expr} {op : CmpOp} {pos : Pos} {r : R2} {f : R3} {ga gb : GE} (ho : OpR X (compareOp op) r) (hf : OpD A.K r f) (ha : XE A X a ga) (hb : XE A X b gb) (hm : behindInMarks op b = false) : XE A X (.Compare a [op] [b] pos) (g2 f ga gb) := (pe_cmpR ho ha hb hm).weak (t2_weak hf)
/-- a test from a value -/
def gB (g : GE) : GT := fun ε P => g ε fun ε' d => ∃ b, d = .bl b ∧ P ε' b
theorem tB_weak {g : GE} : ∀ σ H Q, tT A (gB g) σ H Q → tTest (tE A g) σ H Q := fun σ H Q ⟨L, F, ε, P, R, hg, k⟩ => ⟨L, F, ε, _, R, hg, fun F' ε' H' v d s R' i ⟨b, e, p⟩ => by
  subst e
  cases i
  exact ⟨b, rfl, k F' ε' H' b s R' p⟩⟩
theorem xt_cmp {a b : Expr} {op : CmpOp} {pos : Pos} {r : R2} {f : R3} {ga gb : GE} (ho : OpR X (compareOp op) r) (hf : OpD A.K r f) (ha : XE A X a ga) (hb : XE A X b gb) (hm : behindInMarks op b = false) : XT A X (.Compare a [op] [b] pos) (gB (g2 f ga gb)) :=
  (pt_cmpR ho ha hb hm).weak fun σ H Q h => by
    obtain ⟨L, F, ε, P, R, hg, k⟩ := h
    exact ⟨L, F, ε, _, R, hg, fun F1 ε1 H1 v x s1 R1 i1 q1 => ⟨L, F1, ε1, _, R1, q1, fun F2 ε2 H2 u y s2 R2 i2 ⟨z, hz, b, ez, p⟩ =>
      hf L.l F2 H2 v u x y z _ R2.low (i1.mono s2) i2 hz fun w iw => by
        subst ez
        cases iw
        exact ⟨b, rfl, k F2 ε2 H2 b (s1.trans s2) R2 p⟩⟩⟩
theorem xt_val {g : GE} (h : XE A X e g) (he : ∀ whole, isTrue e X.env whole = (do let v ← whole; standAt e.pos; holding [v] (truthy v)) := by intro _; rfl) : XT A X e (gB g) := (pt_val h he).weak tB_weak
def fI (p : Int → Int → Prop) (g : Int → Int → Dt) : R3 := fun x y z => ∃ i j, x = .int i ∧ y = .int j ∧ p i j ∧ z = g i j
def fI0 (g : Int → Int → Dt) : R3 := fun x y z => ∃ i j, x = .int i ∧ y = .int j ∧ z = g i j
theorem od_I0 {K : PySem.W.Frag} {g : Int → Int → V} {g' : Int → Int → Dt} (h : ∀ F i j, Is K F (g i j) (g' i j)) : OpD K (rI0 g) (fI0 g') := fun L F H v u x y z Q _ iv iu ⟨i, j, ex, ey, ez⟩ k => by
  subst ex ey ez
  cases iv
  cases iu
  exact ⟨i, j, rfl, rfl, k _ (h F i j)⟩
theorem od_I {K : PySem.W.Frag} {C : Int → Int → Prop} {g : Int → Int → V} {g' : Int → Int → Dt} (h : ∀ F i j, Is K F (g i j) (g' i j)) : OpD K (rI C g) (fI C g') := fun L F H v u x y z Q _ iv iu ⟨i, j, ex, ey, c, ez⟩ k => by
  subst ex ey ez
  cases iv
  cases iu
  exact ⟨i, j, rfl, rfl, c, k _ (h F i j)⟩
/-! equality and membership of flat things -/
def flatD : Dt → Bool
  | .non => true
  | .bl _ => true
  | .int _ => true
  | .str _ => true
  | _ => false
def vOf : Dt → V
  | .bl b => .bl b
  | .int i => .int i
  | .str x => .str x
  | _ => .non
theorem Is.vOf {K : PySem.W.Frag} {v : V} {d : Dt} (h : Is K F v d) (f : flatD d = true) : v = vOf d := by cases h <;> first | rfl | cases f
def eqF (x y : Dt) : Bool := eqV (vOf x) (vOf y)
def inF (x : Dt) (ys : List Dt) : Bool := ys.any fun y => eqF y x
def itemsD : Dt → Option (List Dt)
  | .lst xs => some xs
  | .tup xs => some xs
  | .tupc xs => some xs
  | _ => none
/-- == of ints, texts, None, bools -/
def fEq : R3 := fun x y z => flatD x = true ∧ flatD y = true ∧ scal (vOf x) (vOf y) = true ∧ z = .bl (decide (vOf x = vOf y))
def fNe : R3 := fun x y z => flatD x = true ∧ flatD y = true ∧ scal (vOf x) (vOf y) = true ∧ z = .bl (!decide (vOf x = vOf y))
theorem od_eq {K : PySem.W.Frag} : OpD K rEq fEq := fun L F H v u x y z Q _ iv iu ⟨fx, fy, sc, ez⟩ k => by
  subst ez
  rw [iv.vOf fx, iu.vOf fy]
  exact ⟨sc, k _ (.bl _)⟩
theorem od_ne {K : PySem.W.Frag} : OpD K rNe fNe := fun L F H v u x y z Q _ iv iu ⟨fx, fy, sc, ez⟩ k => by
  subst ez
  rw [iv.vOf fx, iu.vOf fy]
  exact ⟨sc, k _ (.bl _)⟩
theorem flatL {K : PySem.W.Frag} : ∀ {vs : List V} {ds : List Dt}, IsL K F vs ds → ds.all flatD = true → vs = ds.map vOf ∧ vs.all flatV = true
  | _, _, .nil, _ => ⟨rfl, rfl⟩
  | _, _, .cons (v := v) (d := d) h r, f => by
    rw [List.all_cons, Bool.and_eq_true] at f
    obtain ⟨h1, h2⟩ := flatL r f.2
    have e := h.vOf f.1
    refine ⟨by rw [h1, e]; rfl, ?_⟩
    rw [List.all_cons, h2, Bool.and_true, e]
    cases d <;> first | rfl | cases f.1
theorem itemsD_sq {K : PySem.W.Frag} {v : V} {y : Dt} {ys : List Dt} {l : Addr → Option Obj} (w : Low l F H) (i : Is K F v y) (h : itemsD y = some ys) : ∃ a vs, v = .ref a ∧ (SqL K H a vs ∨ SqT K H a vs) ∧ IsL K F vs ys := by
  cases y <;> cases h
  · obtain ⟨a, vs, e, h, r⟩ := i.tup_inv
    exact ⟨a, vs, e, .inr (SqT.of (w.nd h fun z => z)), r⟩
  · obtain ⟨a, vs, e, h, r⟩ := i.tupc_inv
    exact ⟨a, vs, e, .inr (h H), r⟩
  · obtain ⟨a, vs, e, h, r⟩ := i.lst_inv
    exact ⟨a, vs, e, .inl (SqL.of (w.nd h fun z => z)), r⟩
def isNon : Dt → Bool
  | .non => true
  | _ => false
def fIsN : R3 := fun x y z => y = .non ∧ z = .bl (isNon x)
def fNotN : R3 := fun x y z => y = .non ∧ z = .bl (!isNon x)
theorem Is.non_iff {K : PySem.W.Frag} {v : V} {d : Dt} (i : Is K F v d) : decide (v = V.non) = isNon d := by cases i <;> rfl
theorem od_isN {K : PySem.W.Frag} : OpD K (fun x y H Q => y = .non ∧ Q (.bl (decide (x = .non))) H) fIsN := fun L F H v u x y z Q _ iv iu ⟨ey, ez⟩ k => by
  subst ey ez
  cases iu
  refine ⟨rfl, ?_⟩
  rw [iv.non_iff]
  exact k _ (.bl _)
theorem od_notN {K : PySem.W.Frag} : OpD K (fun x y H Q => y = .non ∧ Q (.bl (!decide (x = .non))) H) fNotN := fun L F H v u x y z Q _ iv iu ⟨ey, ez⟩ k => by
  subst ey ez
  cases iu
  refine ⟨rfl, ?_⟩
  rw [iv.non_iff]
  exact k _ (.bl _)
def fEqS : R3 := fun x y z => ∃ a b : Str, x = .str a ∧ y = .str b ∧ z = .bl (decide (a = b))
def fNeS : R3 := fun x y z => ∃ a b : Str, x = .str a ∧ y = .str b ∧ z = .bl (!decide (a = b))
def fEqI : R3 := fun x y z => ∃ a b : Int, x = .int a ∧ y = .int b ∧ z = .bl (decide (a = b))
def fNeI : R3 := fun x y z => ∃ a b : Int, x = .int a ∧ y = .int b ∧ z = .bl (!decide (a = b))
theorem dec_str (a b : Str) : decide (V.str a = V.str b) = decide (a = b) := by
  by_cases h : a = b
  · rw [decide_eq_true h, decide_eq_true (by rw [h])]
  · rw [decide_eq_false h, decide_eq_false fun z => h (V.str.inj z)]
theorem dec_int (a b : Int) : decide (V.int a = V.int b) = decide (a = b) := by
  by_cases h : a = b
  · rw [decide_eq_true h, decide_eq_true (by rw [h])]
  · rw [decide_eq_false h, decide_eq_false fun z => h (V.int.inj z)]
theorem od_eqS {K : PySem.W.Frag} : OpD K rEq fEqS := fun L F H v u x y z Q lo iv iu ⟨a, b, ex, ey, ez⟩ k => by
  subst ex ey ez
  cases iv
  cases iu
  refine ⟨rfl, ?_⟩
  rw [dec_str]
  exact k _ (.bl _)
theorem od_neS {K : PySem.W.Frag} : OpD K rNe fNeS := fun L F H v u x y z Q lo iv iu ⟨a, b, ex, ey, ez⟩ k => by
  subst ex ey ez
  cases iv
  cases iu
  refine ⟨rfl, ?_⟩
  rw [dec_str]
  exact k _ (.bl _)
theorem od_eqI {K : PySem.W.Frag} : OpD K rEq fEqI := fun L F H v u x y z Q lo iv iu ⟨a, b, ex, ey, ez⟩ k => by
  subst ex ey ez
  cases iv
  cases iu
  refine ⟨rfl, ?_⟩
  rw [dec_int]
  exact k _ (.bl _)
theorem od_neI {K : PySem.W.Frag} : OpD K rNe fNeI := fun L F H v u x y z Q lo iv iu ⟨a, b, ex, ey, ez⟩ k => by
  subst ex ey ez
  cases iv
  cases iu
  refine ⟨rfl, ?_⟩
  rw [dec_int]
  exact k _ (.bl _)
/-! a < b < c -/
def gChain (f f' : R3) (ga gb gc : GE) : GE := fun ε P => ga ε fun ε1 x => gb ε1 fun ε2 y => ∃ k, f x y (.bl k) ∧ if k = true then gc ε2 fun ε3 u => ∃ z, f' y u z ∧ P ε3 z else P ε2 (.bl false)
theorem chain_weak {r r' : R2} {f f' : R3} {ga gb gc : GE} (hf : OpD A.K r f) (hf' : OpD A.K r' f') : ∀ σ H Q, tE A (gChain f f' ga gb gc) σ H Q → tChain r r' (tE A ga) (tE A gb) (tE A gc) σ H Q := fun σ H Q ⟨L, F, ε, P, R, hg, k⟩ =>
  ⟨L, F, ε, _, R, hg, fun F1 ε1 H1 v x s1 R1 i1 q1 => ⟨L, F1, ε1, _, R1, q1, fun F2 ε2 H2 u y s2 R2 i2 ⟨b, hb, q2⟩ =>
    hf L.l F2 H2 v u x y _ _ R2.low (i1.mono s2) i2 hb fun w iw => by
      cases iw
      refine ⟨b, rfl, ?_⟩
      cases b with
      | true => exact ⟨L, F2, ε2, _, R2, q2, fun F3 ε3 H3 t c s3 R3 i3 ⟨z, hz, p⟩ => hf' L.l F3 H3 u t y c z Q R3.low (i2.mono s3) i3 hz fun w iw => k F3 ε3 H3 w z ((s1.trans s2).trans s3) R3 iw p⟩
      | false => exact k F2 ε2 H2 _ _ (s1.trans s2) R2 (.bl false) q2⟩⟩
theorem xe_chain {r r' : R2} {f f' : R3} {ga gb gc : GE} (hf : OpD A.K r f) (hf' : OpD A.K r' f') (h : PE X e (tChain r r' (tE A ga) (tE A gb) (tE A gc))) : XE A X e (gChain f f' ga gb gc) := h.weak (chain_weak hf hf')
theorem xt_chain {r r' : R2} {f f' : R3} {ga gb gc : GE} (hf : OpD A.K r f) (hf' : OpD A.K r' f') (h : PT X e (tTest (tChain r r' (tE A ga) (tE A gb) (tE A gc)))) : XT A X e (gB (gChain f f' ga gb gc)) := h.weak fun σ H Q q => chain_weak hf hf' σ H _ (by
  obtain ⟨L, F, ε, P, R, hg, k⟩ := q
  exact ⟨L, F, ε, _, R, hg, fun F' ε' H' v d s R' i ⟨b, e, p⟩ => by
    subst e
    cases i
    exact ⟨b, rfl, k F' ε' H' b s R' p⟩⟩)
/-! and, or, not, if else -/
variable {a b c : Expr} {rest : List Expr} {pos : Pos}
def gAnd (ga gb : GE) : GE := fun ε P => ga ε fun ε1 x => ∃ k, x = .bl k ∧ if k = true then gb ε1 P else P ε1 (.bl false)
def gNot (ga : GE) : GE := fun ε P => ga ε fun ε1 x => ∃ k, x = .bl k ∧ P ε1 (.bl (!k))
theorem xe_one {op} {g : GE} (h : XE A X a g) : XE A X (.BoolOp op [a] pos) g := pe_one h
theorem xe_and {ga gb : GE} (ha : XE A X a ga) (hb : XE A X (.BoolOp .And (b :: rest) pos) gb) : XE A X (.BoolOp .And (a :: b :: rest) pos) (gAnd ga gb) := (pe_and ha hb).weak fun σ H Q ⟨L, F, ε, P, R, hg, k⟩ =>
  ⟨L, F, ε, _, R, hg, fun F1 ε1 H1 v x s1 R1 i1 ⟨c, ex, q⟩ => by
    subst ex
    cases i1
    refine ⟨c, rfl, ?_⟩
    cases c with
    | true => exact ⟨L, F1, ε1, P, R1, q, fun F2 ε2 H2 v2 d2 s2 R2 i2 p2 => k F2 ε2 H2 v2 d2 (s1.trans s2) R2 i2 p2⟩
    | false => exact k F1 ε1 H1 _ _ s1 R1 (.bl false) q⟩
theorem xe_not {ga : GE} (ha : XE A X a ga) : XE A X (.UnaryOp .Not a pos) (gNot ga) := (pe_not ha).weak fun σ H Q ⟨L, F, ε, P, R, hg, k⟩ =>
  ⟨L, F, ε, _, R, hg, fun F1 ε1 H1 v x s1 R1 i1 ⟨c, ex, q⟩ => by
    subst ex
    cases i1
    exact ⟨c, rfl, k F1 ε1 H1 _ _ s1 R1 (.bl _) q⟩⟩
def gTAnd (t u : GT) : GT := fun ε P => t ε fun ε1 c => if c = true then u ε1 P else P ε1 false
def gTOr (t u : GT) : GT := fun ε P => t ε fun ε1 c => if c = true then P ε1 true else u ε1 P
def gTNot (t : GT) : GT := fun ε P => t ε fun ε1 c => P ε1 (!c)
abbrev XW (A : Anc) (X : Cx) (e : Expr) (g : GT) : Prop := PW X e (tT A g)
theorem _root_.L2.PW.weak {e : Expr} {t t' : TT} (h : PW X e t) (w : ∀ σ H Q, t' σ H Q → t σ H Q) : PW X e t' := ⟨fun wh pins s σ H Q I q => h.run wh pins s σ H Q I (w _ _ _ q)⟩
theorem xw_and1 {g : GT} (h : XT A X a g) : XW A X (.BoolOp .And [a] pos) g := pw_and1 h
theorem xw_or1 {g : GT} (h : XT A X a g) : XW A X (.BoolOp .Or [a] pos) g := pw_or1 h
theorem xw_and {ga gb : GT} (ha : XT A X a ga) (hb : XW A X (.BoolOp .And (b :: rest) pos) gb) : XW A X (.BoolOp .And (a :: b :: rest) pos) (gTAnd ga gb) := (pw_and ha hb).weak fun σ H Q ⟨L, F, ε, P, R, hg, k⟩ =>
  ⟨L, F, ε, _, R, hg, fun F1 ε1 H1 c s1 R1 q => by
    cases c with
    | true => exact ⟨L, F1, ε1, P, R1, q, fun F2 ε2 H2 b2 s2 R2 p2 => k F2 ε2 H2 b2 (s1.trans s2) R2 p2⟩
    | false => exact k F1 ε1 H1 _ s1 R1 q⟩
theorem xw_or {ga gb : GT} (ha : XT A X a ga) (hb : XW A X (.BoolOp .Or (b :: rest) pos) gb) : XW A X (.BoolOp .Or (a :: b :: rest) pos) (gTOr ga gb) := (pw_or ha hb).weak fun σ H Q ⟨L, F, ε, P, R, hg, k⟩ =>
  ⟨L, F, ε, _, R, hg, fun F1 ε1 H1 c s1 R1 q => by
    cases c with
    | false => exact ⟨L, F1, ε1, P, R1, q, fun F2 ε2 H2 b2 s2 R2 p2 => k F2 ε2 H2 b2 (s1.trans s2) R2 p2⟩
    | true => exact k F1 ε1 H1 _ s1 R1 q⟩
theorem xt_not {ga : GT} (ha : XT A X a ga) : XT A X (.UnaryOp .Not a pos) (gTNot ga) := (pt_not ha).weak fun σ H Q ⟨L, F, ε, P, R, hg, k⟩ => ⟨L, F, ε, _, R, hg, fun F1 ε1 H1 c s1 R1 q => k F1 ε1 H1 _ s1 R1 q⟩
/-! arguments, tuples, lists -/
def aNil : GA := fun ε P => P ε []
def aCons (g : GE) (r : GA) : GA := fun ε P => g ε fun ε1 d => r ε1 fun ε2 ds => P ε2 (d :: ds)
theorem xa_nil : XA A X [] aNil := pa_nil.weak fun σ H Q ⟨L, F, ε, P, R, hg, k⟩ => k F ε H [] [] (Same.refl F) R .nil hg
theorem xa_cons {es : List Expr} {g : GE} {r : GA} (ha : XE A X e g) (hr : XA A X es r) (hs : starEach (e :: es) X.env = (false, eval e X.env) :: starEach es X.env := by rfl) : XA A X (e :: es) (aCons g r) := (pa_cons ha hr hs).weak fun σ H Q ⟨L, F, ε, P, R, hg, k⟩ =>
  ⟨L, F, ε, _, R, hg, fun F1 ε1 H1 v d s1 R1 i1 q => ⟨L, F1, ε1, _, R1, q, fun F2 ε2 H2 vs ds s2 R2 i2 p => k F2 ε2 H2 (v :: vs) (d :: ds) (s1.trans s2) R2 (.cons (i1.mono s2) i2) p⟩⟩
def gTupD (g : GA) : GE := fun ε P => g ε fun ε1 ds => ds.length ≤ 1000 ∧ P ε1 (.tup ds)
theorem small1 {n : Nat} (h : n ≤ 1000) : n ≤ sizeLine := Nat.le_trans h (Nat.le_trans (by decide) (show 100000 ≤ sizeLine by decide))
theorem xe_tup {es : List Expr} {x1} {g : GA} (h : XA A X es g) : XE A X (.Tuple es x1 pos) (gTupD g) := (pe_tup h).weak fun σ H Q ⟨L, F, ε, P, R, hg, k⟩ =>
  ⟨L, F, ε, _, R, hg, fun F1 ε1 H1 vs ds s1 R1 i1 ⟨l, q⟩ => ⟨by rw [i1.length]; exact small1 l, fun p np => k _ ε1 _ (.ref p) (.tup ds) (s1.trans (same_of (R1.Fn np))) (R1.new _ np) (.tup upd_same (i1.mono (same_of (R1.Fn np)))) q⟩⟩
def gLstD (g : GA) : GR := fun ε P => g ε fun ε1 ds => ds.length ≤ 1000 ∧ P ε1 (.ol ds)
theorem xr_lst {es : List Expr} {g : GA} (h : XA A X es g) : XR A X (.List es pos) (gLstD g) := (pe_lst h).weak fun σ H Q ⟨L, F, ε, P, R, hg, k⟩ =>
  ⟨L, F, ε, _, R, hg, fun F1 ε1 H1 vs ds s1 R1 i1 ⟨l, q⟩ => ⟨by rw [i1.length]; exact small1 l, fun p np => k _ ε1 _ (.ref p) (.ol ds) s1 (R1.newOff _ np) ⟨p, vs, rfl, R1.own np, upd_same, i1⟩ q⟩⟩
end
end Sv
namespace Sv
open PySem PySem.Spec PyProof.Rows L2
variable [Tb : Tbs]
/-! ### dicts whose keys are nested tuples, over the heap -/
mutual
/-- v is the nested key k, by the tuples of H -/
inductive NKV (H : Hp) : V → NestedKey → Prop where
  | non : NKV H .non .none
  | bl (b : Bool) : NKV H (.bl b) (.num (if b = true then 1 else 0))
  | int (i : Int) : NKV H (.int i) (.num i)
  | str (x : Str) : NKV H (.str x) (.text x)
  | tup {q : Addr} {vs : List V} {ks : List NestedKey} (h : H q = some (.tup vs)) (r : NKL H vs ks) : NKV H (.ref q) (.tup ks)
inductive NKL (H : Hp) : List V → List NestedKey → Prop where
  | nil : NKL H [] []
  | cons {v : V} {k : NestedKey} {vs : List V} {ks : List NestedKey} (h : NKV H v k) (r : NKL H vs ks) : NKL H (v :: vs) (k :: ks)
end
section
variable {P : Program} {w : World} {H : Hp} {h : Heap}
mutual
theorem nkv_is (ok : HOk P w H h) : ∀ {v : V} {k : NestedKey} {u : Value}, NKV H v k → RelV v u → NestedIs h k u
  | _, _, _, .non, r => by cases r; exact .none
  | _, _, _, .bl b, r => by cases r; exact .bool rfl
  | _, _, _, .int i, r => by obtain ⟨t, rfl⟩ := r; exact .int i t
  | _, _, _, .str x, r => by obtain ⟨t, rfl⟩ := r; exact .text x t
  | _, _, _, .tup (q := q) (vs := vs) e m, r => by
    cases r
    obtain ⟨_, its, rv, o, h1, h2, n, h3⟩ := (show ObjOk P w H h q (.tup vs) from ok _ _ e)
    exact .tup h1 h2 h3 (by simpa using nkl_is ok m rv)
theorem nkl_is (ok : HOk P w H h) : ∀ {vs : List V} {ks : List NestedKey} {us : List Value}, NKL H vs ks → Vals vs us → NestedAll h ks us
  | _, _, _, .nil, r => by cases r; exact .nil
  | _, _, _, .cons x m, r => by cases r with | cons a b => exact .cons (nkv_is ok x a) (nkl_is ok m b)
end
/-- the keys of such a dict stand -/
def XWf (H : Hp) (xs : List (NestedKey × Addr × V)) : Prop := ∀ x ∈ xs, NKV H (.ref x.2.1) x.1 ∧ x.1.depth ≤ 8
def XKey (H : Hp) (y : V) (k : NestedKey) (q : Addr) : Prop := y = .ref q ∧ NKV H (.ref q) k ∧ k.depth ≤ 8
theorem XKey.is {y : V} {k : NestedKey} {q : Addr} (x : XKey H y k q) (ok : HOk P w H h) : (nestedKind P w).is h k q := ⟨nkv_is ok x.2.1 rfl, x.2.2⟩
def xAt (xs : List (NestedKey × Addr × V)) (k : NestedKey) : Option V := (xs.find? fun x => decide (x.1 = k)).map (·.2.2)
def xPut (xs : List (NestedKey × Addr × V)) (k : NestedKey) (q : Addr) (v : V) : List (NestedKey × Addr × V) :=
  if (xAt xs k).isSome = true then xs.map fun x => if x.1 = k then (x.1, x.2.1, v) else x else xs ++ [(k, q, v)]
theorem XRel.at_ {xs : List (NestedKey × Addr × V)} {us : List (NestedKey × Addr × Value)} (r : XRel xs us) (k : NestedKey) : RelO (xAt xs k) ((atKey us k).map (·.2)) := by
  unfold XRel at r
  induction r with
  | nil => exact True.intro
  | @cons p q ps qs m t ih =>
    obtain ⟨e1, _, e3⟩ := m
    by_cases e : p.1 = k
    · have g : q.1 = k := e1 ▸ e
      rw [show xAt (p :: ps) k = some p.2.2 by simp [xAt, e], show atKey (q :: qs) k = some q.2 by simp [atKey, g]]
      exact e3
    · have g : ¬ q.1 = k := fun z => e (by rw [e1]; exact z)
      rw [show xAt (p :: ps) k = xAt ps k by simp [xAt, e], show atKey (q :: qs) k = atKey qs k by simp [atKey, g]]
      exact ih
theorem relO_some {o : Option V} {u : Option Value} (r : RelO o u) : o.isSome = u.isSome := by
  cases o <;> cases u <;> first | rfl | exact r.elim
theorem XRel.put {xs : List (NestedKey × Addr × V)} {us : List (NestedKey × Addr × Value)} (r : XRel xs us) (k : NestedKey) (q : Addr) {v : V} {u : Value} (rv : RelV v u) : XRel (xPut xs k q v) (storedH us k q u) := by
  have e : (xAt xs k).isSome = (atKey us k).isSome := by
    rw [relO_some (r.at_ k), Option.isSome_map]
  unfold xPut storedH
  rw [e]
  by_cases g : (atKey us k).isSome = true
  · rw [if_pos g, if_pos g]
    unfold XRel at r ⊢
    induction r with
    | nil => exact .nil
    | @cons p y ps ys m t ih =>
      clear e g
      rw [List.map_cons, List.map_cons]
      obtain ⟨e1, e2, e3⟩ := m
      have rest : ∀ {ps : List (NestedKey × Addr × V)} {ys : List (NestedKey × Addr × Value)}, Paired (fun (p : NestedKey × Addr × V) (q : NestedKey × Addr × Value) => p.1 = q.1 ∧ p.2.1 = q.2.1 ∧ RelV p.2.2 q.2.2) ps ys →
          Paired (fun (p : NestedKey × Addr × V) (q : NestedKey × Addr × Value) => p.1 = q.1 ∧ p.2.1 = q.2.1 ∧ RelV p.2.2 q.2.2) (ps.map fun x => if x.1 = k then (x.1, x.2.1, v) else x) (ys.map (putAt k u)) := fun {ps ys} t => by
        induction t with
        | nil => exact .nil
        | @cons p y ps ys m t ih =>
          rw [List.map_cons, List.map_cons]
          obtain ⟨e1, e2, e3⟩ := m
          refine .cons ?_ ih
          unfold putAt
          by_cases e : p.1 = k
          · rw [if_pos e, if_pos (show y.1 = k from e1 ▸ e)]; exact ⟨e1, e2, rv⟩
          · rw [if_neg e, if_neg (show ¬ y.1 = k from fun z => e (e1.trans z))]; exact ⟨e1, e2, e3⟩
      refine .cons ?_ (rest t)
      unfold putAt
      by_cases e : p.1 = k
      · rw [if_pos e, if_pos (show y.1 = k from e1 ▸ e)]; exact ⟨e1, e2, rv⟩
      · rw [if_neg e, if_neg (show ¬ y.1 = k from fun z => e (e1.trans z))]; exact ⟨e1, e2, e3⟩
  · rw [if_neg g, if_neg g]
    exact Paired.snoc r ⟨rfl, rfl, rv⟩
theorem xPut_len {xs : List (NestedKey × Addr × V)} {k : NestedKey} {q : Addr} {v : V} : (xPut xs k q v).length ≤ xs.length + 1 := by
  unfold xPut
  split
  · rw [List.length_map]; omega
  · rw [List.length_append]; exact Nat.le_refl _
theorem ent_eq (hw : w = Tb.w) (us : List (NestedKey × Addr × Value)) : us.map (entryOfKey (nestedKind P w)) = us.map (xEnt Tb.w) := by
  rw [← hw]
  rfl
theorem xo_of {a : Addr} {ob : Obj} {xs : List (NestedKey × Addr × V)} (hw : w = Tb.w) (ok : HOk P w H h) (e : H a = some (.frz ob (XOb a xs))) (wf : XWf H xs) :
    xs.length ≤ sizeLine ∧ (a == sysModules) = false ∧ ∃ us, XRel xs us ∧ h.DictOfH (nestedKind P w) a us := by
  obtain ⟨_, ⟨z, hd, us, rel, o, es, ep, h1, h2, h3, h4, h5⟩, _⟩ := (show ObjOk P w H h a (.frz ob (XOb a xs)) from ok a _ e)
  refine ⟨z, hd, us, rel, o, es, ep, h1, h2, h3, h4.trans (ent_eq hw us).symm, ?_, h5⟩
  have all : ∀ {ps : List (NestedKey × Addr × V)} {ys : List (NestedKey × Addr × Value)}, Paired (fun (p : NestedKey × Addr × V) (q : NestedKey × Addr × Value) => p.1 = q.1 ∧ p.2.1 = q.2.1 ∧ RelV p.2.2 q.2.2) ps ys → XWf H ps → ∀ x ∈ ys, (nestedKind P w).is h x.1 x.2.1 := fun {ps ys} t => by
    induction t with
    | nil => intro _ x hx; exact nomatch hx
    | @cons p y ps ys m t ih =>
      intro f x hx
      obtain ⟨e1, e2, _⟩ := m
      rcases List.mem_cons.mp hx with rfl | hx
      · obtain ⟨g1, g2⟩ := f p List.mem_cons_self
        rw [e1, e2] at g1
        rw [e1] at g2
        exact ⟨nkv_is ok g1 rfl, g2⟩
      · exact ih (fun z hz => f z (List.mem_cons_of_mem _ hz)) x hx
  exact all rel wf
theorem xo_new {a : Addr} {xs : List (NestedKey × Addr × V)} {us : List (NestedKey × Addr × Value)} (hw : w = Tb.w) (z : xs.length ≤ sizeLine) (hd : (a == sysModules) = false) (rel : XRel xs us) (dd : h.DictOfH (nestedKind P w) a us) : ObjOk P w H h a (XOb a xs) := by
  obtain ⟨o, es, ep, h1, h2, h3, h4, _, h5⟩ := dd
  exact ⟨⟨z, hd, us, rel, o, es, ep, h1, h2, h3, h4.trans (ent_eq hw us), h5⟩, ⟨o, h1⟩, fun _ _ ⟨z, hd, us, rel, o, es, ep, h1, r⟩ k => ⟨z, hd, us, rel, o, es, ep, k o h1, r⟩⟩
end
/-- what the dict at a holds at y, whatever its kind -/
def XGet (H : Hp) (a : Addr) (y : V) (o : Option V) : Prop := ∃ ob xs k q, H a = some (.frz ob (XOb a xs)) ∧ XWf H xs ∧ XKey H y k q ∧ o = xAt xs k
def UGet (H : Hp) (a : Addr) (y : V) (o : Option V) : Prop := DGet H a y o ∨ XGet H a y o
def UIs (H : Hp) (a : Addr) : Prop := IsD H a ∨ ∃ ob xs, H a = some (.frz ob (XOb a xs)) ∧ XWf H xs
section
variable {X : Cx} {pins : List (Addr × Obj)} {σ : L2.St} {H : Hp} {s : Shared} {a : Addr} {y v d : V} {u r : Value} {o : Option V} {A : Around} {E : Value → Shared → Prop}
theorem nest_room (hu : A.units + 64 < cLine) : (nestedKind X.prog X.w).room A.in1 := by
  show A.in1.units + 8 < cLine
  have : A.in1.units = A.units + 1 := rfl
  omega
theorem u_item {Q : Value → Shared → Prop} (hw : X.w = Tb.w) (hu : A.units + 64 < cLine) (I : Inv X pins σ H s) (g : UGet H a y (some v)) (ry : RelV y u) (h : ∀ w' s', Inv X pins σ H s' → RelV v w' → Q w' s') : wpAny (model X.prog X.w) A (getItem (.ref a) u) Q E s := by
  rcases g with g | ⟨ob, xs, k, q, e, wf, ky, l⟩
  · exact d_getItem (by omega) I g ry h
  · obtain ⟨z, hd, us, rel, dd⟩ := xo_of hw I.hok e wf
    have ky2 := ky.is I.hok
    obtain ⟨rfl, _⟩ := ky
    cases (show u = Value.ref q from ry)
    have ra := rel.at_ k
    rw [← l] at ra
    cases hp : atKey us k with
    | none => rw [hp] at ra; exact ra.elim
    | some p =>
      rw [hp] at ra
      exact wpAny_getItem_heap (nest_room hu) ky2 dd hp (h _ _ (I.tok _) ra)
theorem u_type (hw : X.w = Tb.w) (I : Inv X pins σ H s) (g : UIs H a) : s.TypeIs (.ref a) "dict" ∧ (∀ b, Value.ref a = .ref b → ∃ ob, s.heap.get? b = some ob ∧ ob.dict = none) := by
  rcases g with g | ⟨ob, xs, e, wf⟩
  · exact ⟨(isD_at I g).1, (isD_at I g).2.1⟩
  · obtain ⟨z, hd, us, rel, dd⟩ := xo_of hw I.hok e wf
    refine ⟨dd.typeIs, fun b m => ?_⟩
    cases m
    obtain ⟨o1, _, _, h1, h2, _⟩ := dd
    exact ⟨o1, h1, h2.2.1⟩
theorem UGet.isD (g : UGet H a y o) : UIs H a := by
  rcases g with (⟨kvs, k, e, _⟩ | ⟨kvs, k, b, e, _⟩) | ⟨ob, xs, k, q, e, wf, _⟩
  · exact .inl (.inl ⟨kvs, e⟩)
  · exact .inl (.inr ⟨kvs, e⟩)
  · exact .inr ⟨ob, xs, e, wf⟩
/-- a[y] = v -/
theorem x_put {ob : Obj} {xs : List (NestedKey × Addr × V)} {k : NestedKey} {q : Addr} {Q : Unit → Shared → Prop} (hw : X.w = Tb.w) (hu : A.units + 64 < cLine) (I : Inv X pins σ H s) (e : H a = some (.frz ob (XOb a xs))) (wf : XWf H xs) (ky : XKey H y k q) (len : xs.length < sizeLine)
    (nf : ∀ o' u', X.H_0 a ≠ some (.frz o' u')) (ry : RelV y u) (rv : RelV v r) (h : ∀ ob' s', Inv X pins σ (upd H a (.frz ob' (XOb a (xPut xs k q v)))) s' → Q () s') : wpAny (model X.prog X.w) A (setItem (.ref a) u r) Q E s := by
  obtain ⟨z, hd, us, rel, dd⟩ := xo_of hw I.hok e wf
  have ky2 := ky.is I.hok
  obtain ⟨rfl, _⟩ := ky
  cases (show u = Value.ref q from ry)
  have lu : us.length = xs.length := (Paired.length rel).symm
  refine wpAny_setItem_heap (hsz := by rw [lu]; omega) (nest_room hu) ky2 dd fun h' dd' hs => ?_
  have I1 := I.unlock e nf
  have ne : ∃ o1, h'.get? a = some o1 := let ⟨o1, _, _, g, _⟩ := dd'; ⟨o1, g⟩
  have lz : (xPut xs k q v).length ≤ sizeLine := Nat.le_trans xPut_len len
  have I2 : Inv X pins σ (upd (upd H a (XOb a xs)) a (XOb a (xPut xs k q v))) { s with heap := h', toks := s.toks + (nestedKind X.prog X.w).draws k } :=
    I1.write (x := a) (e := a) (by rw [upd_same]; exact True.intro) (.inl rfl) (fun b o1 hb g => (hs.2 b hb).trans g) ne (xo_new hw lz hd (rel.put k q rv) dd')
  rw [upd_upd] at I2
  obtain ⟨od, I3⟩ := I2.lock upd_same True.intro
  rw [upd_upd] at I3
  exact h od _ I3
end
/-! readings and rules -/
def tUGet (td ty : TE) : TE := fun σ H Q => td σ H fun x H1 => ty σ H1 fun y H2 => ∃ a v, x = .ref a ∧ UGet H2 a y (some v) ∧ Q v H2
def sUPut (X : Cx) (td ty tv : TE) : TS := fun D σ H => tv σ H fun v H1 => td σ H1 fun x H2 => ty σ H2 fun y H3 => ∃ a, x = .ref a ∧ ((∃ H4, DPut H3 a y v H4 ∧ D.nx σ H4) ∨
  ∃ ob xs k q, H3 a = some (.frz ob (XOb a xs)) ∧ XWf H3 xs ∧ XKey H3 y k q ∧ xs.length < sizeLine ∧ (∀ o' u', X.H_0 a ≠ some (.frz o' u')) ∧ ∀ ob', D.nx σ (upd H3 a (.frz ob' (XOb a (xPut xs k q v)))))
section
variable {X : Cx} {o i e value : Expr} {pos pos' apos cpos : Pos} {td ty tv : TE}
theorem pe_uget (hu : X.A.units + 64 < cLine) (ho : PE X o td) (hi : PE X i ty) (hs : NoSl i) (hw : X.w = Tb.w) : PE X (.Subscript o i pos) (tUGet td ty) := ⟨fun pins s σ H Q I h =>
  subD_of PySem.F.slot_dict_getitem.lookup hs (thn (ho.run pins s σ H _ I h) fun u s1 ⟨x, H1, I1, rx, q1⟩ => thn (hi.run pins s1 σ H1 _ I1 q1) fun iv s2 ⟨y, H2, I2, ry, a, v, ex, g, q2⟩ => by
    subst ex
    cases (show u = Value.ref a from rx)
    exact ⟨(u_type hw I2 g.isD).1, u_item hw hu I2 g ry fun w' s3 I3 rw' => ⟨v, H2, I3, rw', q2⟩⟩)⟩
theorem ps_uput (hu : X.A.units + 64 < cLine) (ho : PE X o td) (hi : PE X i ty) (hv : PE X value tv) (hs : swapsWith value (some (.Subscript o i pos')) pos.line X.env = pure false) (hw : X.w = Tb.w := by exact rfl) :
    PS X (.Assign [.Subscript o i pos'] value pos) (sUPut X td ty tv) := ⟨fun pins s σ H D I h =>
  wpAny_Assign_Subscript (thn (hv.run pins s σ H _ I h) fun r s1 ⟨v, H1, I1, rv, q1⟩ => thn (ho.run pins s1 σ H1 _ I1 q1) fun u s2 ⟨x, H2, I2, rx, q2⟩ => thn (hi.run pins s2 σ H2 _ I2 q2) fun iv s3 ⟨y, H3, I3, ry, a, ex, q3⟩ => by
    subst ex
    cases (show u = Value.ref a from rx)
    rcases q3 with ⟨H4, g, q4⟩ | ⟨ob, xs, k, q, e, wf, ky, len, nf, q4⟩
    · exact d_setItem (by omega) I3 g ry rv fun s4 I4 => ⟨σ, H4, I4, q4⟩
    · exact x_put hw hu I3 e wf ky len nf ry rv fun ob' s4 I4 => ⟨σ, _, I4, q4 ob'⟩) hs⟩
end
/-! what stands for a nested key -/
section
variable {K : PySem.W.Frag} {F H : Hp} {l : Addr → Option Obj}
theorem nkL_cons {x : Dt} {xs : List Dt} {ks : List NestedKey} (e : nkL (x :: xs) = some ks) : ∃ k js, nkD x = some k ∧ nkL xs = some js ∧ ks = k :: js := by
  have e : (match nkD x, nkL xs with | some k, some ks => some (k :: ks) | _, _ => none) = some ks := e
  cases e1 : nkD x with
  | none => rw [e1] at e; cases e
  | some k =>
    cases e2 : nkL xs with
    | none => rw [e1, e2] at e; cases e
    | some js => rw [e1, e2] at e; cases e; exact ⟨k, js, rfl, rfl, rfl⟩
mutual
theorem nkv_of (lo : Low l F H) : ∀ (y : Dt) {v : V} {k : NestedKey}, Is K F v y → nkD y = some k → NKV H v k
  | .non, _, _, i, e => by cases i; cases e; exact .non
  | .bl b, _, _, i, e => by cases i; cases e; exact .bl b
  | .int j, _, _, i, e => by cases i; cases e; exact .int j
  | .str x, _, _, i, e => by cases i; cases e; exact .str x
  | .tup xs, _, _, i, e => by
    obtain ⟨q, vs, rfl, h, r⟩ := i.tup_inv
    obtain ⟨ks, e2, rfl⟩ := Option.map_eq_some_iff.mp (show (nkL xs).map NestedKey.tup = some _ from e)
    exact .tup (lo.nd h fun z => z) (nkl_of lo xs r e2)
  | .ty _, _, _, _, e => nomatch e
  | .tupc _, _, _, _, e => nomatch e
  | .lst _, _, _, _, e => nomatch e
  | .dic _ _, _, _, _, e => nomatch e
  | .ins _ _, _, _, _, e => nomatch e
  | .fn _ _, _, _, _, e => nomatch e
theorem nkl_of (lo : Low l F H) : ∀ (xs : List Dt) {vs : List V} {ks : List NestedKey}, IsL K F vs xs → nkL xs = some ks → NKL H vs ks
  | [], _, _, i, e => by cases i; cases e; exact .nil
  | x :: xs, _, _, i, e => by
    cases i with
    | cons a r =>
      have e : (match nkD x, nkL xs with | some k, some ks => some (k :: ks) | _, _ => none) = some _ := e
      cases e1 : nkD x with
      | none => rw [e1] at e; cases e
      | some k =>
        cases e2 : nkL xs with
        | none => rw [e1, e2] at e; cases e
        | some ks =>
          rw [e1, e2] at e
          cases e
          exact .cons (nkv_of lo x a e1) (nkl_of lo xs r e2)
end
theorem isX_wf (lo : Low l F H) : ∀ {vs : List (NestedKey × Addr × V)} {ds : List (Dt × Dt)}, IsX K F vs ds → XWf H vs
  | _, _, .nil => fun _ h => nomatch h
  | _, _, .cons hk dp hq h r => fun x hx => by
    rcases List.mem_cons.mp hx with rfl | hx
    · exact ⟨nkv_of lo _ hq hk, dp⟩
    · exact isX_wf lo r x hx
end
end Sv
namespace Sv
open PySem PySem.Spec PyProof.Rows L2
variable [Tb : Tbs]
/-! ### containers as they are read -/
/-- what stands at v now is d (its items are frozen) -/
def Ct (K : PySem.W.Frag) (F H : Hp) (v : V) : Dt → Prop
  | .lst xs => ∃ a vs, v = .ref a ∧ SqL K H a vs ∧ IsL K F vs xs
  | .tup xs => ∃ a vs, v = .ref a ∧ SqT K H a vs ∧ IsL K F vs xs
  | .tupc xs => ∃ a vs, v = .ref a ∧ SqT K H a vs ∧ IsL K F vs xs
  | .dic .k kvs => ∃ a vs, v = .ref a ∧ Rd H a (.dK vs) ∧ IsK K F vs kvs
  | .dic .t kvs => ∃ a vs, v = .ref a ∧ Rd H a (.dT vs) ∧ IsT K F vs kvs
  | .dic .x kvs => ∃ a ob vs, v = .ref a ∧ H a = some (.frz ob (XOb a vs)) ∧ XWf H vs ∧ IsX K F vs kvs
  | d => Is K F v d
section
variable {A : Anc} {X : Cx} {L : Lk} {K : PySem.W.Frag} {F F' H : Hp} {ε : DEnv} {σ : L2.St} {e : Expr}
theorem Is.ct {l : Addr → Option Obj} {v : V} {d : Dt} (w : Low l F H) (i : Is K F v d) : Ct K F H v d := by
  cases i with
  | lst h r => exact ⟨_, _, rfl, SqL.of (w.nd h fun z => z), r⟩
  | tup h r => exact ⟨_, _, rfl, SqT.of (w.nd h fun z => z), r⟩
  | tupc h r => exact ⟨_, _, rfl, sqT_none h, r⟩
  | dK h r => exact ⟨_, _, rfl, w.rd h, r⟩
  | dT h r => exact ⟨_, _, rfl, w.rd h, r⟩
  | dX h r => exact ⟨_, _, _, rfl, w.nd h fun z => z, isX_wf w r, r⟩
  | non => exact .non
  | bl b => exact .bl b
  | int i => exact .int i
  | str x => exact .str x
  | ty n => exact .ty n
  | ins h r => exact .ins h r
  | fn h hc s c r => exact .fn h hc s c r
theorem Rep.ct (R : Rep A L F ε σ H) {i : Nat} {v : V} {d : Dt} (hv : σ[i]? = some (some v)) (h : rdS ε i = some d) : Ct A.K F H v d := by
  unfold rdS at h
  cases e : ε[i]? with
  | none => rw [e] at h; cases h
  | some s =>
    rw [e] at h
    have ok := R.val i s e
    rw [hv] at ok
    cases s with
    | un => cases h
    | pu p c g n => cases h
    | nd f G js => cases h
    | oi a C fs => cases h
    | ex a d fs => cases h
    | fz d' =>
      cases h
      obtain ⟨v', h1, h2⟩ := ok
      cases h1
      exact h2.ct R.low
    | ol a xs =>
      cases h
      obtain ⟨h1, vs, h2, h3⟩ := ok
      cases h1
      exact ⟨a, vs, rfl, SqL.of h2, h3⟩
    | od a T kvs =>
      cases h
      cases T with
      | k =>
        obtain ⟨h1, vs, h2, h3⟩ := ok
        cases h1
        exact ⟨a, vs, rfl, .inl h2, h3⟩
      | t =>
        obtain ⟨h1, vs, h2, h3⟩ := ok
        cases h1
        exact ⟨a, vs, rfl, .inl h2, h3⟩
      | x =>
        obtain ⟨h1, vs, ob, h2, h3⟩ := ok
        cases h1
        exact ⟨a, ob, vs, rfl, h2, isX_wf R.low h3, h3⟩
theorem rdS_val (R : Rep A L F ε σ H) {i : Nat} {d : Dt} (h : rdS ε i = some d) : ∃ v, σ[i]? = some (some v) := by
  obtain ⟨_, _, _, f⟩ := R.frzSlot i
  obtain ⟨v, hv, _⟩ := f d h
  exact ⟨v, hv⟩
abbrev Rdr := DEnv → Option Dt
abbrev GK := DEnv → (DEnv → Rdr → Prop) → Prop
def tK (A : Anc) (g : GK) : TE := fun σ H Q => ∃ L F ε P, Rep A L F ε σ H ∧ g ε P ∧ ∀ F' ε' H' v ρ, Same F F' → Rep A L F' ε' σ H' → (∀ F2 ε2 H2 d, Same F' F2 → Rep A L F2 ε2 σ H2 → ρ ε2 = some d → Ct A.K F2 H2 v d) → P ε' ρ → Q v H'
abbrev XV (A : Anc) (X : Cx) (e : Expr) (g : GK) : Prop := PE X e (tK A g)
def gKE (g : GE) : GK := fun ε P => g ε fun ε' d => P ε' fun _ => some d
theorem xk_e {g : GE} (h : XE A X e g) : XV A X e (gKE g) := h.weak fun σ H Q ⟨L, F, ε, P, R, hg, k⟩ => ⟨L, F, ε, _, R, hg, fun F' ε' H' v d s R' i p => k F' ε' H' v _ s R' (fun F2 ε2 H2 d' s2 R2 ed => by
  cases ed
  exact (i.mono s2).ct R2.low) p⟩
/-- a name: it is not frozen by being read -/
def gKV (i : Nat) : GK := fun ε P => ∃ d, rdS ε i = some d ∧ P ε fun ε2 => rdS ε2 i
theorem xk_v {i : Nat} (h : PE X e (tVar i)) : XV A X e (gKV i) := h.weak fun σ H Q ⟨L, F, ε, P, R, ⟨d, hd, p⟩, k⟩ => by
  obtain ⟨v, hv⟩ := rdS_val R hd
  exact ⟨v, hv, k F ε H v _ (Same.refl F) R (fun F2 ε2 H2 d' s2 R2 ed => R2.ct hv ed) p⟩
/-! o[i] of a list, a tuple -/
def fIx : R3 := fun x y z => ∃ xs i, itemsD x = some xs ∧ y = .int i ∧ atI xs i = some z
theorem atI_is {vs : List V} {xs : List Dt} {i : Int} {z : Dt} (r : IsL K F vs xs) (h : atI xs i = some z) : ∃ v, atI vs i = some v ∧ Is K F v z := by
  unfold atI at h ⊢
  rw [r.length]
  cases e : ixN xs.length i with
  | none => rw [e] at h; cases h
  | some j =>
    rw [e] at h
    exact r.at h
theorem ct_ix {v w : V} {x y z : Dt} {Q : VK} (c : Ct K F H v x) (i : Is K F w y) (h : fIx x y z) (k : ∀ u, Is K F u z → Q u H) : rIx K v w H Q := by
  obtain ⟨xs, j, ex, ey, ez⟩ := h
  subst ey
  cases i
  cases x <;> cases ex
  · obtain ⟨a, vs, rfl, hs, r⟩ := c
    obtain ⟨u, hu, iu⟩ := atI_is r ez
    exact .inr (.inl ⟨a, vs, j, u, rfl, rfl, hs, hu, k u iu⟩)
  · obtain ⟨a, vs, rfl, hs, r⟩ := c
    obtain ⟨u, hu, iu⟩ := atI_is r ez
    exact .inr (.inl ⟨a, vs, j, u, rfl, rfl, hs, hu, k u iu⟩)
  · obtain ⟨a, vs, rfl, hs, r⟩ := c
    obtain ⟨u, hu, iu⟩ := atI_is r ez
    exact .inl ⟨a, vs, j, u, rfl, rfl, hs, hu, k u iu⟩
/-- a container and a value -/
def g2K (f : R3) (gk : GK) (gb : GE) : GE := fun ε P => gk ε fun ε1 ρ => gb ε1 fun ε2 y => ∃ d z, ρ ε2 = some d ∧ f d y z ∧ P ε2 z
theorem xe_2K {a b o : Expr} {t : TE} {r : R2} {f : R3} {gk : GK} {gb : GE} (h : PE X o t) (ht : ∀ σ H Q, tOp r (tK A gk) (tE A gb) σ H Q → t σ H Q) (hf : ∀ F H v w x y z Q, Ct A.K F H v x → Is A.K F w y → f x y z → (∀ u, Is A.K F u z → Q u H) → r v w H Q) :
    XE A X o (g2K f gk gb) := h.weak fun σ H Q ⟨L, F, ε, P, R, hg, k⟩ => ht σ H Q ⟨L, F, ε, _, R, hg, fun F1 ε1 H1 v ρ s1 R1 c1 q1 => ⟨L, F1, ε1, _, R1, q1, fun F2 ε2 H2 w y s2 R2 i2 ⟨d, z, hd, hz, p⟩ =>
      hf F2 H2 v w d y z Q (c1 F2 ε2 H2 d s2 R2 hd) i2 hz fun u iu => k F2 ε2 H2 u z (s1.trans s2) R2 iu p⟩⟩
theorem xe_ix {a b : Expr} {pos : Pos} {gk : GK} {gb : GE} (ha : XV A X a gk) (hb : XE A X b gb) (hs : PlainIx b) (hK : X.K = A.K := by rfl) : XE A X (.Subscript a b pos) (g2K fIx gk gb) :=
  xe_2K (a := a) (b := b) (pe_ix ix_seq ha hb hs) (fun _ _ _ h => h) fun F H v w x y z Q c i h k => by rw [hK]; exact ct_ix c i h k
/-! dicts -/
mutual
def eqK : Dt → Dt → Bool
  | .int a, .int b => decide (a = b)
  | .str a, .str b => decide (a = b)
  | .tup xs, .tup ys => eqFL xs ys
  | .non, .non => true
  | .bl a, .bl b => decide (a = b)
  | .bl a, .int j => decide ((if a = true then (1 : Int) else 0) = j)
  | .int i, .bl b => decide (i = if b = true then (1 : Int) else 0)
  | _, _ => false
def eqFL : List Dt → List Dt → Bool
  | [], [] => true
  | x :: xs, y :: ys => eqK x y && eqFL xs ys
  | _, _ => false
end
theorem eqK_k (a b : Key) : eqK (kD a) (kD b) = decide (a = b) := by
  cases a with
  | inl i => cases b with
    | inl j =>
      show decide (i = j) = _
      by_cases h : i = j
      · rw [h, decide_eq_true rfl, decide_eq_true rfl]
      · rw [decide_eq_false h, decide_eq_false fun z => h (Sum.inl.inj z)]
    | inr y => exact (decide_eq_false fun z => nomatch z).symm
  | inr x => cases b with
    | inl j => exact (decide_eq_false fun z => nomatch z).symm
    | inr y =>
      show decide (x = y) = _
      by_cases h : x = y
      · rw [h, decide_eq_true rfl, decide_eq_true rfl]
      · rw [decide_eq_false h, decide_eq_false fun z => h (Sum.inr.inj z)]
theorem eqFL_map : ∀ a b : List Key, eqFL (a.map kD) (b.map kD) = decide (a = b)
  | [], [] => rfl
  | [], _ :: _ => rfl
  | _ :: _, [] => rfl
  | x :: xs, y :: ys => by
    show (eqK (kD x) (kD y) && eqFL (xs.map kD) (ys.map kD)) = _
    rw [eqK_k, eqFL_map]
    by_cases h : x = y
    · by_cases h2 : xs = ys
      · rw [h, h2]
        simp
      · rw [decide_eq_false h2, Bool.and_false, decide_eq_false fun z => h2 (List.cons.inj z).2]
    · rw [decide_eq_false h, Bool.false_and, decide_eq_false fun z => h (List.cons.inj z).1]
theorem eqK_t (a b : List Key) : eqK (ktD a) (ktD b) = decide (a = b) := eqFL_map a b
mutual
theorem eqK_beq : ∀ (x y : Dt) {a b : NestedKey}, nkD x = some a → nkD y = some b → eqK x y = NestedKey.beq a b
  | .non, y, a, b, h1, h2 => by
    cases h1
    cases y with
    | tup ys => obtain ⟨ks, _, rfl⟩ := Option.map_eq_some_iff.mp (show (nkL ys).map NestedKey.tup = some b from h2); rfl
    | _ => cases h2 <;> rfl
  | .bl c, y, a, b, h1, h2 => by
    cases h1
    cases y with
    | tup ys => obtain ⟨ks, _, rfl⟩ := Option.map_eq_some_iff.mp (show (nkL ys).map NestedKey.tup = some b from h2); rfl
    | bl d => cases h2; cases c <;> cases d <;> rfl
    | _ => cases h2 <;> rfl
  | .int i, y, a, b, h1, h2 => by
    cases h1
    cases y with
    | tup ys => obtain ⟨ks, _, rfl⟩ := Option.map_eq_some_iff.mp (show (nkL ys).map NestedKey.tup = some b from h2); rfl
    | _ => cases h2 <;> rfl
  | .str x, y, a, b, h1, h2 => by
    cases h1
    cases y with
    | tup ys => obtain ⟨ks, _, rfl⟩ := Option.map_eq_some_iff.mp (show (nkL ys).map NestedKey.tup = some b from h2); rfl
    | _ => cases h2 <;> rfl
  | .tup xs, y, a, b, h1, h2 => by
    obtain ⟨js, e1, rfl⟩ := Option.map_eq_some_iff.mp (show (nkL xs).map NestedKey.tup = some a from h1)
    cases y with
    | tup ys =>
      obtain ⟨ks, e2, rfl⟩ := Option.map_eq_some_iff.mp (show (nkL ys).map NestedKey.tup = some b from h2)
      exact eqFL_beq xs ys e1 e2
    | _ => cases h2 <;> rfl
  | .ty _, _, _, _, e, _ => nomatch e
  | .tupc _, _, _, _, e, _ => nomatch e
  | .lst _, _, _, _, e, _ => nomatch e
  | .dic _ _, _, _, _, e, _ => nomatch e
  | .ins _ _, _, _, _, e, _ => nomatch e
  | .fn _ _, _, _, _, e, _ => nomatch e
theorem eqFL_beq : ∀ (xs ys : List Dt) {as bs : List NestedKey}, nkL xs = some as → nkL ys = some bs → eqFL xs ys = NestedKey.beqAll as bs
  | [], [], _, _, h1, h2 => by cases h1; cases h2; rfl
  | [], y :: ys, _, _, h1, h2 => by
    cases h1
    obtain ⟨k, ks, _, _, rfl⟩ := nkL_cons h2
    rfl
  | x :: xs, [], _, _, h1, h2 => by
    cases h2
    obtain ⟨k, ks, _, _, rfl⟩ := nkL_cons h1
    rfl
  | x :: xs, y :: ys, _, _, h1, h2 => by
    obtain ⟨k, ks, e1, e2, rfl⟩ := nkL_cons h1
    obtain ⟨j, js, g1, g2, rfl⟩ := nkL_cons h2
    show (eqK x y && eqFL xs ys) = (NestedKey.beq k j && NestedKey.beqAll ks js)
    rw [eqK_beq x y e1 g1, eqFL_beq xs ys e2 g2]
end
theorem eqK_nk {x y : Dt} {a b : NestedKey} (h1 : nkD x = some a) (h2 : nkD y = some b) : eqK x y = decide (a = b) := by rw [NestedKey.decide_eq]; exact eqK_beq x y h1 h2
def lookD (kvs : List (Dt × Dt)) (y : Dt) : Option Dt := (kvs.find? fun p => eqK p.1 y).map (·.2)
def putD (kvs : List (Dt × Dt)) (y d : Dt) : List (Dt × Dt) := if (kvs.any fun p => eqK p.1 y) = true then kvs.map (fun p => if eqK p.1 y = true then (p.1, d) else p) else kvs ++ [(y, d)]
def KeyOk : Kd → Dt → Prop
  | .k, y => ∃ k, y = kD k
  | .t, y => ∃ k, y = ktD k
  | .x, y => ∃ ks, nkD y = some (.tup ks) ∧ (NestedKey.tup ks).depth ≤ 8
theorem IsK.look : ∀ {vs : List (Key × V)} {ds : List (Dt × Dt)} (k : Key), IsK K F vs ds → (valV vs k = none ∧ lookD ds (kD k) = none) ∨ ∃ v d, valV vs k = some v ∧ lookD ds (kD k) = some d ∧ Is K F v d
  | _, _, k, .nil => .inl ⟨rfl, rfl⟩
  | _, _, k, .cons (k := j) (v := v) (d := d) (vs := vs) (ds := ds) h r => by
    unfold valV lookD
    rw [List.find?_cons, List.find?_cons]
    show (_ ∧ Option.map _ (match eqK (kD j) (kD k) with | true => _ | false => _) = none) ∨ ∃ v' d', _ ∧ Option.map _ (match eqK (kD j) (kD k) with | true => _ | false => _) = some d' ∧ _
    rw [eqK_k]
    by_cases e : j = k
    · rw [decide_eq_true e]
      exact .inr ⟨v, d, rfl, rfl, h⟩
    · rw [decide_eq_false e]
      exact r.look k
theorem IsT.look : ∀ {vs : List (List Key × V)} {ds : List (Dt × Dt)} (k : List Key), IsT K F vs ds → (valV vs k = none ∧ lookD ds (ktD k) = none) ∨ ∃ v d, valV vs k = some v ∧ lookD ds (ktD k) = some d ∧ Is K F v d
  | _, _, k, .nil => .inl ⟨rfl, rfl⟩
  | _, _, k, .cons (k := j) (v := v) (d := d) (vs := vs) (ds := ds) h r => by
    unfold valV lookD
    rw [List.find?_cons, List.find?_cons]
    show (_ ∧ Option.map _ (match eqK (ktD j) (ktD k) with | true => _ | false => _) = none) ∨ ∃ v' d', _ ∧ Option.map _ (match eqK (ktD j) (ktD k) with | true => _ | false => _) = some d' ∧ _
    rw [eqK_t]
    by_cases e : j = k
    · rw [decide_eq_true e]
      exact .inr ⟨v, d, rfl, rfl, h⟩
    · rw [decide_eq_false e]
      exact r.look k
theorem IsX.look : ∀ {vs : List (NestedKey × Addr × V)} {ds : List (Dt × Dt)} {y : Dt} {k : NestedKey}, nkD y = some k → IsX K F vs ds → (xAt vs k = none ∧ lookD ds y = none) ∨ ∃ v d, xAt vs k = some v ∧ lookD ds y = some d ∧ Is K F v d
  | _, _, y, k, hy, .nil => .inl ⟨rfl, rfl⟩
  | _, _, y, k, hy, .cons (k := j) (q := q) (v := v) (y := z) (d := d) (vs := vs) (ds := ds) hk dp hq h r => by
    unfold xAt lookD
    rw [List.find?_cons, List.find?_cons]
    show (_ ∧ Option.map _ (match eqK z y with | true => _ | false => _) = none) ∨ ∃ v' d', _ ∧ Option.map _ (match eqK z y with | true => _ | false => _) = some d' ∧ _
    rw [eqK_nk hk hy]
    by_cases e : j = k
    · rw [decide_eq_true e]
      exact .inr ⟨v, d, rfl, rfl, h⟩
    · rw [decide_eq_false e]
      exact r.look hy
theorem IsX.any {y : Dt} {k : NestedKey} (hy : nkD y = some k) : ∀ {vs : List (NestedKey × Addr × V)} {ds : List (Dt × Dt)}, IsX K F vs ds → (xAt vs k).isSome = ds.any fun p => eqK p.1 y
  | _, _, .nil => rfl
  | _, _, .cons (k := j) (v := v) (q := q) (vs := vs) hk dp hq h r => by
    rw [List.any_cons, ← r.any hy, eqK_nk hk hy]
    unfold xAt
    rw [List.find?_cons]
    show (Option.map _ (match decide (j = k) with | true => _ | false => _)).isSome = _
    by_cases e : j = k
    · rw [decide_eq_true e]; rfl
    · rw [decide_eq_false e]; rfl
theorem IsX.map {y : Dt} {k : NestedKey} (hy : nkD y = some k) {v : V} {d : Dt} (i : Is K F v d) : ∀ {vs : List (NestedKey × Addr × V)} {ds : List (Dt × Dt)}, IsX K F vs ds → IsX K F (vs.map fun x => if x.1 = k then (x.1, x.2.1, v) else x) (ds.map fun p => if eqK p.1 y = true then (p.1, d) else p)
  | _, _, .nil => .nil
  | _, _, .cons (k := j) hk dp hq h r => by
    rw [List.map_cons, List.map_cons]
    rw [eqK_nk hk hy]
    by_cases e : j = k
    · rw [if_pos e, decide_eq_true e, if_pos rfl]
      exact .cons hk dp hq i (r.map hy i)
    · rw [if_neg e, decide_eq_false e, if_neg (by decide)]
      exact .cons hk dp hq h (r.map hy i)
theorem IsX.app : ∀ {vs ws : List (NestedKey × Addr × V)} {ds es : List (Dt × Dt)}, IsX K F vs ds → IsX K F ws es → IsX K F (vs ++ ws) (ds ++ es)
  | _, _, _, _, .nil, s => s
  | _, _, _, _, .cons k p q h r, s => .cons k p q h (r.app s)
theorem IsX.put {vs : List (NestedKey × Addr × V)} {ds : List (Dt × Dt)} (r : IsX K F vs ds) {y : Dt} {k : NestedKey} {q : Addr} (hy : nkD y = some k) (dp : k.depth ≤ 8) (hq : Is K F (.ref q) y) {v : V} {d : Dt} (i : Is K F v d) : IsX K F (xPut vs k q v) (putD ds y d) := by
  unfold xPut putD
  rw [r.any hy]
  by_cases h : (ds.any fun p => eqK p.1 y) = true
  · rw [if_pos h, if_pos h]
    exact r.map hy i
  · rw [if_neg h, if_neg h]
    exact r.app (.cons hy dp hq i .nil)
theorem IsX.length : ∀ {vs : List (NestedKey × Addr × V)} {ds : List (Dt × Dt)}, IsX K F vs ds → vs.length = ds.length
  | _, _, .nil => rfl
  | _, _, .cons _ _ _ _ r => by rw [List.length_cons, List.length_cons, r.length]
theorem IsK.any : ∀ {vs : List (Key × V)} {ds : List (Dt × Dt)} (k : Key), IsK K F vs ds → (vs.any fun kv => decide (kv.1 = k)) = ds.any fun p => eqK p.1 (kD k)
  | _, _, k, .nil => rfl
  | _, _, k, .cons h r => by rw [List.any_cons, List.any_cons, r.any k, eqK_k]
theorem IsT.any : ∀ {vs : List (List Key × V)} {ds : List (Dt × Dt)} (k : List Key), IsT K F vs ds → (vs.any fun kv => decide (kv.1 = k)) = ds.any fun p => eqK p.1 (ktD k)
  | _, _, k, .nil => rfl
  | _, _, k, .cons h r => by rw [List.any_cons, List.any_cons, r.any k, eqK_t]
theorem IsK.map (k : Key) {v : V} {d : Dt} (i : Is K F v d) : ∀ {vs : List (Key × V)} {ds : List (Dt × Dt)}, IsK K F vs ds → IsK K F (vs.map fun kv => if kv.1 = k then (kv.1, v) else kv) (ds.map fun p => if eqK p.1 (kD k) = true then (p.1, d) else p)
  | _, _, .nil => .nil
  | _, _, .cons (k := j) h r => by
    rw [List.map_cons, List.map_cons]
    show IsK K F ((if j = k then _ else _) :: _) ((if eqK (kD j) (kD k) = true then _ else _) :: _)
    rw [eqK_k]
    by_cases e : j = k
    · rw [if_pos e, decide_eq_true e, if_pos rfl]
      exact .cons i (r.map k i)
    · rw [if_neg e, decide_eq_false e, if_neg (by decide)]
      exact .cons h (r.map k i)
theorem IsT.map (k : List Key) {v : V} {d : Dt} (i : Is K F v d) : ∀ {vs : List (List Key × V)} {ds : List (Dt × Dt)}, IsT K F vs ds → IsT K F (vs.map fun kv => if kv.1 = k then (kv.1, v) else kv) (ds.map fun p => if eqK p.1 (ktD k) = true then (p.1, d) else p)
  | _, _, .nil => .nil
  | _, _, .cons (k := j) h r => by
    rw [List.map_cons, List.map_cons]
    show IsT K F ((if j = k then _ else _) :: _) ((if eqK (ktD j) (ktD k) = true then _ else _) :: _)
    rw [eqK_t]
    by_cases e : j = k
    · rw [if_pos e, decide_eq_true e, if_pos rfl]
      exact .cons i (r.map k i)
    · rw [if_neg e, decide_eq_false e, if_neg (by decide)]
      exact .cons h (r.map k i)
theorem IsK.app : ∀ {vs ws : List (Key × V)} {ds es : List (Dt × Dt)}, IsK K F vs ds → IsK K F ws es → IsK K F (vs ++ ws) (ds ++ es)
  | _, _, _, _, .nil, s => s
  | _, _, _, _, .cons h r, s => .cons h (r.app s)
theorem IsT.app : ∀ {vs ws : List (List Key × V)} {ds es : List (Dt × Dt)}, IsT K F vs ds → IsT K F ws es → IsT K F (vs ++ ws) (ds ++ es)
  | _, _, _, _, .nil, s => s
  | _, _, _, _, .cons h r, s => .cons h (r.app s)
theorem IsK.put {vs : List (Key × V)} {ds : List (Dt × Dt)} (r : IsK K F vs ds) (k : Key) {v : V} {d : Dt} (i : Is K F v d) : IsK K F (putK vs k v) (putD ds (kD k) d) := by
  unfold putK putD
  rw [r.any k]
  by_cases h : (ds.any fun p => eqK p.1 (kD k)) = true
  · rw [if_pos h, if_pos h]
    exact r.map k i
  · rw [if_neg h, if_neg h]
    exact r.app (.cons i .nil)
theorem IsT.put {vs : List (List Key × V)} {ds : List (Dt × Dt)} (r : IsT K F vs ds) (k : List Key) {v : V} {d : Dt} (i : Is K F v d) : IsT K F (putK vs k v) (putD ds (ktD k) d) := by
  unfold putK putD
  rw [r.any k]
  by_cases h : (ds.any fun p => eqK p.1 (ktD k)) = true
  · rw [if_pos h, if_pos h]
    exact r.map k i
  · rw [if_neg h, if_neg h]
    exact r.app (.cons i .nil)
theorem kV_isD {k : Key} {v : V} (i : Is K F v (kD k)) : v = kV k := by
  cases k with
  | inl j => cases i; rfl
  | inr x => cases i; rfl
theorem kVs_is : ∀ {ks : List Key} {vs : List V}, IsL K F vs (ks.map kD) → vs = ks.map kV
  | [], _, .nil => rfl
  | _ :: _, _, .cons h r => by rw [kV_isD h, kVs_is r]; rfl
/-- a key that was laid as a tuple -/
theorem key_t {k : List Key} {w : V} {l : Addr → Option Obj} (lo : Low l F H) (i : Is K F w (ktD k)) : ∃ b, w = .ref b ∧ H b = some (.tup (k.map kV)) := by
  obtain ⟨b, vs, e, h, r⟩ := i.tup_inv
  rw [kVs_is r] at h
  exact ⟨b, e, lo.nd h fun z => z⟩
/-- a key that may be asked for: flat, or a tuple that was laid here -/
def KeyAt (H : Hp) : Kd → Dt → V → Prop
  | .k, y, w => ∃ k, y = kD k ∧ w = kV k
  | .t, y, w => ∃ k b, y = ktD k ∧ w = .ref b ∧ H b = some (.tup (k.map kV))
  | .x, y, w => ∃ k q, nkD y = some k ∧ XKey H w k q
theorem keyAt {T : Kd} {y : Dt} {w : V} {l : Addr → Option Obj} (lo : Low l F H) (i : Is K F w y) (h : KeyOk T y) : KeyAt H T y w := by
  cases T with
  | k => obtain ⟨k, rfl⟩ := h; exact ⟨k, rfl, kV_isD i⟩
  | t => obtain ⟨k, rfl⟩ := h; obtain ⟨b, e, hb⟩ := key_t lo i; exact ⟨k, b, rfl, e, hb⟩
  | x =>
    obtain ⟨ks, e, dp⟩ := h
    have nk := nkv_of lo y i e
    cases nk with
    | tup h r => exact ⟨_, _, e, rfl, .tup h r, dp⟩
theorem ct_get {v w : V} {T : Kd} {kvs : List (Dt × Dt)} {y : Dt} (c : Ct K F H v (.dic T kvs)) (ka : KeyAt H T y w) : ∃ a o, v = .ref a ∧ UGet H a w o ∧ ((o = none ∧ lookD kvs y = none) ∨ ∃ u d, o = some u ∧ lookD kvs y = some d ∧ Is K F u d) := by
  cases T with
  | k =>
    obtain ⟨a, vs, rfl, hr, r⟩ := c
    obtain ⟨k, rfl, rfl⟩ := ka
    exact ⟨a, valV vs k, rfl, .inl (.inl ⟨vs, k, hr, rfl, rfl⟩), r.look k⟩
  | t =>
    obtain ⟨a, vs, rfl, hr, r⟩ := c
    obtain ⟨k, b, rfl, rfl, hb⟩ := ka
    exact ⟨a, valV vs k, rfl, .inl (.inr ⟨vs, k, b, hr, rfl, hb, rfl⟩), r.look k⟩
  | x =>
    obtain ⟨a, ob, vs, rfl, hr, wf, r⟩ := c
    obtain ⟨k, q, hy, ky⟩ := ka
    exact ⟨a, xAt vs k, rfl, .inr ⟨ob, vs, k, q, hr, wf, ky, rfl⟩, r.look hy⟩
/-! d[k], d.get(k), k in d -/
def fDix : R3 := fun x y z => ∃ T kvs, x = .dic T kvs ∧ KeyOk T y ∧ lookD kvs y = some z
theorem xe_dix {a b : Expr} {pos : Pos} {gk : GK} {gb : GE} (hu : X.A.units + 64 < cLine) (ha : XV A X a gk) (hb : XE A X b gb) (hs : NoSl b) (hw : X.w = Tb.w := by exact rfl) : XE A X (.Subscript a b pos) (g2K fDix gk gb) :=
  (pe_uget hu ha hb hs hw).weak fun σ H Q ⟨L, F, ε, P, R, hg, k⟩ => ⟨L, F, ε, _, R, hg, fun F1 ε1 H1 v ρ s1 R1 c1 q1 => ⟨L, F1, ε1, _, R1, q1, fun F2 ε2 H2 w y s2 R2 i2 ⟨d, z, hd, ⟨T, kvs, ed, ko, hz⟩, p⟩ => by
    subst ed
    obtain ⟨a, o, rfl, g, c⟩ := ct_get (c1 F2 ε2 H2 _ s2 R2 hd) (keyAt R2.low i2 ko)
    rcases c with ⟨_, n⟩ | ⟨u, d, rfl, hd2, iu⟩
    · rw [n] at hz; cases hz
    · rw [hd2] at hz
      cases hz
      exact ⟨a, u, rfl, g, k F2 ε2 H2 u _ (s1.trans s2) R2 iu p⟩⟩⟩
theorem _root_.L2.PC.weak {op : CmpOp} {a b : Expr} {t t' : TE} (h : PC X op a b t) (w : ∀ σ H Q, t' σ H Q → t σ H Q) : PC X op a b t' := ⟨fun pins s σ H Q I q => h.run pins s σ H Q I (w _ _ _ q)⟩
/-! x in a list or tuple of flat things -/
def gIn (neg : Bool) (gb : GE) (gk : GK) : GE := fun ε P => gb ε fun ε1 y => gk ε1 fun ε2 ρ => ∃ d ys, ρ ε2 = some d ∧ itemsD d = some ys ∧ flatD y = true ∧ ys.all flatD = true ∧ P ε2 (.bl (if neg then !inF y ys else inF y ys))
theorem ct_seq {v : V} {d : Dt} {ys : List Dt} (c : Ct K F H v d) (h : itemsD d = some ys) : ∃ a vs, v = .ref a ∧ (SqL K H a vs ∨ SqT K H a vs) ∧ IsL K F vs ys := by
  cases d <;> cases h
  · obtain ⟨a, vs, e, h, r⟩ := c; exact ⟨a, vs, e, .inr h, r⟩
  · obtain ⟨a, vs, e, h, r⟩ := c; exact ⟨a, vs, e, .inr h, r⟩
  · obtain ⟨a, vs, e, h, r⟩ := c; exact ⟨a, vs, e, .inl h, r⟩
theorem in_weak {neg : Bool} {gk : GK} {gb : GE} : ∀ σ H Q, tE A (gIn neg gb gk) σ H Q → tOp (rIn A.K neg) (tE A gb) (tK A gk) σ H Q := fun σ H Q ⟨L, F, ε, P, R, hg, k⟩ => ⟨L, F, ε, _, R, hg, fun F1 ε1 H1 w y s1 R1 i1 q1 => ⟨L, F1, ε1, _, R1, q1, fun F2 ε2 H2 v ρ s2 R2 c2 ⟨d, ys, hd, hi, fy, fl, p⟩ => by
    obtain ⟨a, vs, rfl, hs, r⟩ := ct_seq (c2 F2 ε2 H2 _ (Same.refl F2) R2 hd) hi
    obtain ⟨h1, h2⟩ := flatL r fl
    have e := i1.vOf fy
    refine ⟨a, vs, rfl, hs, ?_, h2, ?_⟩
    · rw [e]
      cases y <;> first | rfl | cases fy
    · have ei : inV w vs = inF y ys := by
        unfold inV inF eqF
        rw [h1, e, List.any_map]
        rfl
      rw [ei]
      exact k F2 ε2 H2 _ _ (s1.trans s2) R2 (.bl _) p⟩⟩
theorem xe_in {a b : Expr} {pos : Pos} {gk : GK} {gb : GE} (hb : XE A X a gb) (hk : XV A X b gk) (h1 : behindInMarks .In b = false := by rfl) (hK : X.K = A.K := by rfl) : XE A X (.Compare a [.In] [b] pos) (gIn false gb gk) := (pe_cmpR op_in_seq hb hk h1).weak fun σ H Q h => by rw [hK]; exact in_weak σ H Q h
theorem gB_of {g : GE} {t : TE} {e : Expr} (h : PT X e (tTest t)) (w : ∀ σ H Q, tE A g σ H Q → t σ H Q) : XT A X e (gB g) := h.weak fun σ H Q q => w _ _ _ (by
  obtain ⟨L, F, ε, P, R, hg, k⟩ := q
  exact ⟨L, F, ε, _, R, hg, fun F' ε' H' v d s R' i ⟨b, e, p⟩ => by
    subst e
    cases i
    exact ⟨b, rfl, k F' ε' H' b s R' p⟩⟩)
theorem xt_notin {a b : Expr} {pos : Pos} {gk : GK} {gb : GE} (hb : XE A X a gb) (hk : XV A X b gk) (h1 : behindInMarks .NotIn b = false := by rfl) (hK : X.K = A.K := by rfl) : XT A X (.Compare a [.NotIn] [b] pos) (gB (gIn true gb gk)) := gB_of (pt_cmpR op_notIn_seq hb hk h1) fun σ H Q h => by rw [hK]; exact in_weak σ H Q h
/-! len -/
def lenD : Dt → Option Nat
  | .lst xs => some xs.length
  | .tup xs => some xs.length
  | .tupc xs => some xs.length
  | .dic _ kvs => some kvs.length
  | .str x => if x.length ≤ sizeLine then some x.length else none
  | _ => none
def rLenA (K : PySem.W.Frag) : List V → Hp → VK → Prop := fun xs H Q => (∃ p ys, xs = [.ref p] ∧ (SqL K H p ys ∨ SqT K H p ys) ∧ Q (.int ys.length) H) ∨ (∃ p kvs, xs = [.ref p] ∧ Rd H p (.dK kvs) ∧ Q (.int kvs.length) H) ∨
  (∃ p kvs, xs = [.ref p] ∧ Rd H p (.dT kvs) ∧ Q (.int kvs.length) H) ∨ (∃ p ob kvs, xs = [.ref p] ∧ H p = some (.frz ob (XOb p kvs)) ∧ XWf H kvs ∧ Q (.int kvs.length) H) ∨ ∃ z, xs = [.str z] ∧ z.length ≤ sizeLine ∧ Q (.int z.length) H
theorem call_lenKR : CallR X (.builtin "len") (fun xs H Q => ∃ p kvs, xs = [V.ref p] ∧ Rd H p (.dK kvs) ∧ Q (.int kvs.length) H) := by
  intro pins s σ H xs us Q I r h
  obtain ⟨a, kvs, rfl, ha, q⟩ := h
  obtain ⟨u, rfl, ru⟩ := vals1 r
  cases ru
  exact d_len I ha fun t s' I' => ⟨.int kvs.length, H, I', ⟨t, rfl⟩, q⟩
theorem call_lenTR : CallR X (.builtin "len") (fun xs H Q => ∃ p kvs, xs = [V.ref p] ∧ Rd H p (.dT kvs) ∧ Q (.int kvs.length) H) := by
  intro pins s σ H xs us Q I r h
  obtain ⟨p, kvs, rfl, hp, q⟩ := h
  obtain ⟨u, rfl, rx⟩ := vals1 r
  obtain rfl : u = .ref p := rx
  obtain ⟨z, hd, ys, rel, dd⟩ := dt_rd I.hok hp
  have hl : kvs.length = ys.length := Paired.length rel
  refine call_len_dictH hd dd (by rw [← hl]; rw [sizeLine_eq] at z; omega) ?_
  rw [← hl]
  exact ⟨.int ((kvs.length : Nat) : Int), H, I.tok _, ⟨_, rfl⟩, q⟩
theorem call_lenXR (hw : X.w = Tb.w) : CallR X (.builtin "len") (fun xs H Q => ∃ p ob kvs, xs = [V.ref p] ∧ H p = some (.frz ob (XOb p kvs)) ∧ XWf H kvs ∧ Q (.int kvs.length) H) := by
  intro pins s σ H xs us Q I r h
  obtain ⟨p, ob, kvs, rfl, hp, wf, q⟩ := h
  obtain ⟨u, rfl, rx⟩ := vals1 r
  cases (show u = Value.ref p from rx)
  obtain ⟨z, hd, ys, rel, dd⟩ := xo_of hw I.hok hp wf
  have hl : kvs.length = ys.length := Paired.length rel
  refine call_len_dictH hd dd (by rw [← hl]; rw [sizeLine_eq] at z; omega) ?_
  rw [← hl]
  exact ⟨.int ((kvs.length : Nat) : Int), H, I.tok _, ⟨_, rfl⟩, q⟩
theorem call_lenA (hw : X.w = Tb.w := by exact rfl) : CallR X (.builtin "len") (rLenA X.K) := call_len_seq.or (call_lenKR.or (call_lenTR.or ((call_lenXR hw).or call_len_str)))
def gLen (gk : GK) : GE := fun ε P => gk ε fun ε1 ρ => ∃ d n, ρ ε1 = some d ∧ lenD d = some n ∧ P ε1 (.int (n : Nat))
theorem xe_len {gk : GK} (h : PE X e (tCB (rLenA X.K) (tCons (tK A gk) tNil))) (hK : X.K = A.K := by rfl) : XE A X e (gLen gk) :=
  h.weak fun σ H Q ⟨L, F, ε, P, R, hg, k⟩ => ⟨L, F, ε, _, R, hg, fun F1 ε1 H1 v ρ s1 R1 c1 ⟨d, n, hd, hn, p⟩ => by
    have c := c1 F1 ε1 H1 d (Same.refl F1) R1 hd
    have fin : ∀ m : Nat, m = n → Q (.int m) H1 := fun m e => by subst e; exact k F1 ε1 H1 _ _ s1 R1 (.int _) p
    show rLenA X.K [v] H1 Q
    rw [hK]
    cases d <;> try cases hn
    · rename_i z
      replace hn : (if z.length ≤ sizeLine then some z.length else none) = some n := hn
      cases c
      by_cases hz : z.length ≤ sizeLine
      · rw [if_pos hz] at hn
        exact .inr (.inr (.inr (.inr ⟨_, rfl, hz, fin _ (Option.some.inj hn)⟩)))
      · rw [if_neg hz] at hn; cases hn
    · obtain ⟨a, vs, rfl, h, r⟩ := c; exact .inl ⟨a, vs, rfl, .inr h, fin _ r.length⟩
    · obtain ⟨a, vs, rfl, h, r⟩ := c; exact .inl ⟨a, vs, rfl, .inr h, fin _ r.length⟩
    · obtain ⟨a, vs, rfl, h, r⟩ := c; exact .inl ⟨a, vs, rfl, .inl h, fin _ r.length⟩
    · rename_i T kvs
      cases T with
      | k => obtain ⟨a, vs, rfl, h, r⟩ := c; exact .inr (.inl ⟨a, vs, rfl, h, fin _ r.length⟩)
      | t => obtain ⟨a, vs, rfl, h, r⟩ := c; exact .inr (.inr (.inl ⟨a, vs, rfl, h, fin _ r.length⟩))
      | x => obtain ⟨a, ob, vs, rfl, h, wf, r⟩ := c; exact .inr (.inr (.inr (.inl ⟨a, ob, vs, rfl, h, wf, fin _ r.length⟩)))⟩
/-! fields -/
end
end Sv
namespace Sv
open PySem PySem.Spec PyProof.Rows L2
variable [Tb : Tbs]
/-! ### defs over data -/
/-- what a def that changes nothing promises: from the arguments, what is wanted of its result -/
abbrev FS := List Dt → (Res → Prop) → Prop
/-- a result behind a call: what is no part of F' is new -/
def RNew (K : PySem.W.Frag) (F' H H' : Hp) (v : V) : Res → Prop
  | .fz d => Is K F' v d
  | .ol xs => ∃ a vs, v = .ref a ∧ F' a = none ∧ H a = none ∧ H' a = some (.lst vs) ∧ IsL K F' vs xs
  | .od T kvs => ∃ a, v = .ref a ∧ F' a = none ∧ H a = none ∧ dicOk K F' H' a T kvs
  | .tp xs ds => ∃ p a us vs, v = .ref p ∧ F' p = some (.tup (.ref a :: vs)) ∧ F' a = none ∧ H a = none ∧ H' a = some (.lst us) ∧ IsL K F' us xs ∧ IsL K F' vs ds
/-- how a call leaves the heap -/
structure Left (L : Addr → Option Obj) (F H F' H' : Hp) : Prop where
  f : Same F F'
  h : Sam H H'
  low : Low L F' H'
  new : ∀ b o, F' b = some o → F b = some o ∨ H b = none ∨ Imm o ∧ ∃ u, H b = some u ∧ (NoT u → u = o)
def spD (K : PySem.W.Frag) (fs : FS) : Sp := fun vs H Q _ => ∃ L F ds P, LowT L F H ∧ IsL K F vs ds ∧ fs ds P ∧ ∀ F' H' v r, Left L F H F' H' → RNew K F' H H' v r → P r → Q v H'
section
variable {A : Anc} {X : Cx} {L : Lk} {K : PySem.W.Frag} {F F' H H' : Hp} {ε : DEnv} {σ : L2.St} {e : Expr}
theorem Rep.left (R : Rep A L F ε σ H) (l : Left L.l F H F' H') : Rep A L F' ε σ H' := by
  refine ⟨R.len, l.low, fun i x e => (SlOk.mono l.f (R.val i x e)).keep fun a m u hu => l.h.e a u hu (R.mut_nt e m hu), fun i x a e m => ?_, R.dis, fun b u np e n k => l.h.e b u (R.keep b u np e n k) n, fun b u e => ?_, R.newO, R.lk, fun b hb => ?_, R.pup, fun a u e => ?_, R.hds, l.h.t R.tab, R.nw.trans l.h.n⟩
  · obtain ⟨h1, u, h2⟩ := R.off i x a e m
    refine ⟨?_, u, l.h.e a u h2 (R.mut_nt e m h2)⟩
    cases q : F' a with
    | none => rfl
    | some o =>
      rcases l.new a o q with z | z | ⟨z, u', z2, z3⟩
      · rw [h1] at z; cases z
      · rw [h2] at z; cases z
      · exact (R.nimm e m o (z3 (R.mut_nt e m z2) ▸ z2) z).elim
  · rcases l.new b u e with z | z | ⟨z, _⟩
    · exact R.newF b u z
    · exact .inr (.inl (R.fresh z))
    · exact .inr (.inr z)
  · cases q : H' b with
    | some u => exact ⟨u, rfl⟩
    | none => obtain ⟨u, hu⟩ := R.pgs b hb; rw [l.h.n.non q] at hu; cases hu
  · obtain ⟨h1, h2, h3⟩ := R.hid a u e
    refine ⟨l.h.e a u h1 h3.2.2.2, ?_, h3⟩
    cases q : F' a with
    | none => rfl
    | some o =>
      rcases l.new a o q with z | z | ⟨z, u', z2, z3⟩
      · rw [h2] at z; cases z
      · rw [h1] at z; cases z
      · rw [h1] at z2
        cases z2
        exact (h3.2.2.1 (z3 h3.2.2.2 ▸ z)).elim
theorem Rep.res (R : Rep A L F ε σ H) {v : V} {r : Res} (h : RNew A.K F' H H' v r) : ROk A L F' ε H' v r := by
  cases r with
  | fz d => exact h
  | ol xs =>
    obtain ⟨a, vs, rfl, h1, h2, h3, h4⟩ := h
    exact ⟨a, vs, rfl, ⟨h1, R.fresh h2, R.npg h2, R.xn h2, R.offn h2⟩, h3, h4⟩
  | od T kvs =>
    obtain ⟨a, rfl, h1, h2, h3⟩ := h
    exact ⟨a, rfl, ⟨h1, R.fresh h2, R.npg h2, R.xn h2, R.offn h2⟩, h3⟩
  | tp xs ds =>
    obtain ⟨p, a, us, vs, rfl, hp, h1, h2, h3, r, r'⟩ := h
    exact ⟨p, a, us, vs, rfl, hp, ⟨h1, R.fresh h2, R.npg h2, R.xn h2, R.offn h2⟩, h3, r, r'⟩
def gCall (fs : FS) (ga : GA) : GR := fun ε P => ga ε fun ε1 ds => fs ds (P ε1)
theorem xr_c {fs : FS} {ga : GA} (h : PE X e (tCall (spD A.K fs) [] C8.E0 (tAs A ga))) : XR A X e (gCall fs ga) := h.weak fun σ H Q ⟨L, F, ε, P, R, hg, k⟩ => ⟨L, F, ε, _, R, hg, fun F1 ε1 H1 vs ds s1 R1 i1 q => by
  show spD A.K fs (vs ++ []) H1 Q C8.E0
  rw [List.append_nil]
  exact ⟨L.l, F1, ds, _, R1.lowT, i1, q, fun F2 H2 v r l n p => k F2 ε1 H2 v r (s1.trans l.f) (R1.left l) (R1.res n) p⟩⟩
/-! ### defs that draw -/
end
end Sv
namespace Sv
open PySem PySem.Spec PyProof.Rows L2
variable [Tb : Tbs]
/-! ### statements over data -/
structure DEnds where
  nx : DEnv → Prop
  rt : DEnv → Res → Prop
  bk : DEnv → Prop := fun _ => False
  ct : DEnv → Prop := fun _ => False
abbrev KS := DEnds → DEnv → Prop
def tS (A : Anc) (k : KS) : TS := fun D σ H => ∃ L F ε E, Rep A L F ε σ H ∧ k E ε ∧ (∀ F' ε' σ' H', Same F F' → Rep A L F' ε' σ' H' → E.nx ε' → D.nx σ' H') ∧ (∀ F' ε' σ' H' v r, Same F F' → Rep A L F' ε' σ' H' → ROk A L F' ε' H' v r → E.rt ε' r → D.rt v H') ∧
  (∀ F' ε' σ' H', Same F F' → Rep A L F' ε' σ' H' → E.bk ε' → D.bk σ' H') ∧ ∀ F' ε' σ' H', Same F F' → Rep A L F' ε' σ' H' → E.ct ε' → D.ct σ' H'
abbrev XS (A : Anc) (X : Cx) (st : Stmt) (k : KS) : Prop := PS X st (tS A k)
abbrev XSs (A : Anc) (X : Cx) (sts : List Stmt) (k : KS) : Prop := PSs X sts (tS A k)
section
variable {A : Anc} {X : Cx} {L : Lk} {F F' H : Hp} {ε : DEnv} {σ : L2.St} {e : Expr} {st : Stmt} {rest : List Stmt} {k k' : KS} {pos : Pos}
theorem _root_.L2.PS.weak {t t' : TS} (h : PS X st t) (w : ∀ D σ H, t' D σ H → t D σ H) : PS X st t' := ⟨fun pins s σ H D I q => h.run pins s σ H D I (w _ _ _ q)⟩
theorem _root_.L2.PSs.weak {t t' : TS} (h : PSs X rest t) (w : ∀ D σ H, t' D σ H → t D σ H) : PSs X rest t' := ⟨fun pins s σ H D I q => h.run pins s σ H D I (w _ _ _ q)⟩
def kNext : KS := fun E ε => E.nx ε
def kSeq (k k' : KS) : KS := fun E ε => k { E with nx := k' E } ε
theorem xss_nil : XSs A X [] kNext := pss_nil.weak fun D σ H ⟨L, F, ε, E, R, h, n, _⟩ => n F ε σ H (Same.refl F) R h
theorem xss_cons (h1 : XS A X st k) (h2 : XSs A X rest k') : XSs A X (st :: rest) (kSeq k k') := (pss_cons h1 h2).weak fun D σ H ⟨L, F, ε, E, R, h, n, r, b, c⟩ =>
  ⟨L, F, ε, _, R, h, fun F' ε' σ' H' s' R' q => ⟨L, F', ε', E, R', q, fun F2 ε2 σ2 H2 s2 => n F2 ε2 σ2 H2 (s'.trans s2), fun F2 ε2 σ2 H2 v x s2 => r F2 ε2 σ2 H2 v x (s'.trans s2), fun F2 ε2 σ2 H2 s2 => b F2 ε2 σ2 H2 (s'.trans s2), fun F2 ε2 σ2 H2 s2 => c F2 ε2 σ2 H2 (s'.trans s2)⟩, r, b, c⟩
theorem xss_one (h : XS A X st k) : XSs A X [st] k := (pss_one h).weak fun _ _ _ q => q
def kRet (g : GR) : KS := fun E ε => g ε E.rt
theorem xs_ret {g : GR} (h : XR A X e g) : XS A X (.Return (some e) pos) (kRet g) := (ps_ret h).weak fun D σ H ⟨L, F, ε, E, R, hg, n, r, b, c⟩ => ⟨L, F, ε, _, R, hg, fun F' ε' H' v x s R' ok p => r F' ε' σ H' v x s R' ok p⟩
def kDrop (g : GR) : KS := fun E ε => g ε fun ε' _ => E.nx ε'
theorem xs_expr {g : GR} (h : XR A X e g) (hs : swapsWith e none pos.line X.env = pure false := by rfl) : XS A X (.Expr e pos) (kDrop g) := (ps_expr h hs).weak fun D σ H ⟨L, F, ε, E, R, hg, n, r, b, c⟩ => ⟨L, F, ε, _, R, hg, fun F' ε' H' v x s R' ok p => n F' ε' σ H' s R' p⟩
def kIf (t : GT) (k k' : KS) : KS := fun E ε => t ε fun ε' b => if b = true then k E ε' else k' E ε'
theorem xs_if {c : Expr} {a b : List Stmt} {t : GT} (hc : XT A X c t) (ha : XSs A X a k) (hb : XSs A X b k') : XS A X (.If c a b pos) (kIf t k k') := (ps_if hc ha hb).weak fun D σ H ⟨L, F, ε, E, R, hg, n, r, b, c⟩ =>
  ⟨L, F, ε, _, R, hg, fun F' ε' H' v s R' p => by
    cases v with
    | true => exact ⟨L, F', ε', E, R', p, fun F2 ε2 σ2 H2 s2 => n F2 ε2 σ2 H2 (s.trans s2), fun F2 ε2 σ2 H2 v x s2 => r F2 ε2 σ2 H2 v x (s.trans s2), fun F2 ε2 σ2 H2 s2 => b F2 ε2 σ2 H2 (s.trans s2), fun F2 ε2 σ2 H2 s2 => c F2 ε2 σ2 H2 (s.trans s2)⟩
    | false => exact ⟨L, F', ε', E, R', p, fun F2 ε2 σ2 H2 s2 => n F2 ε2 σ2 H2 (s.trans s2), fun F2 ε2 σ2 H2 v x s2 => r F2 ε2 σ2 H2 v x (s.trans s2), fun F2 ε2 σ2 H2 s2 => b F2 ε2 σ2 H2 (s.trans s2), fun F2 ε2 σ2 H2 s2 => c F2 ε2 σ2 H2 (s.trans s2)⟩⟩
/-- a join: what holds behind it is said -/
def kCut (k : KS) : KS := fun E ε => ∃ J : DEnv → Prop, k { E with nx := J } ε ∧ ∀ ε', J ε' → E.nx ε'
theorem xs_cut (h : XS A X st k) : XS A X st (kCut k) := h.weak fun D σ H ⟨L, F, ε, E, R, ⟨J, h1, h2⟩, n, r, b, c⟩ => ⟨L, F, ε, _, R, h1, fun F' ε' σ' H' s' R' q => n F' ε' σ' H' s' R' (h2 ε' q), r, b, c⟩
/-! targets -/
abbrev HG := Dt → DEnv → (DEnv → Prop) → Prop
abbrev HGs := List Dt → DEnv → (DEnv → Prop) → Prop
def tG (A : Anc) (ts : List Nat) (h : HG) : TG := fun v σ H Q => ∃ L F ε P d, Rep A L F ε σ H ∧ Is A.K F v d ∧ h d ε P ∧ ∀ F' ε' σ' H', Rep A L F' ε' σ' H' → Same F F' → (∀ vs, (∀ t ∈ ts, t ∈ vs) → wipe σ' vs = wipe σ vs) → P ε' → Q σ' H'
def tGs (A : Anc) (ts : List Nat) (h : HGs) : TGs := fun us σ H Q => ∃ L F ε P ds, Rep A L F ε σ H ∧ IsL A.K F us ds ∧ h ds ε P ∧ ∀ F' ε' σ' H', Rep A L F' ε' σ' H' → Same F F' → (∀ vs, (∀ t ∈ ts, t ∈ vs) → wipe σ' vs = wipe σ vs) → P ε' → Q σ' H'
abbrev XG (A : Anc) (X : Cx) (e : Expr) (ts : List Nat) (h : HG) : Prop := PG X e (tG A ts h)
abbrev XGs (A : Anc) (X : Cx) (es : List Expr) (ts : List Nat) (h : HGs) : Prop := PGs X es (tGs A ts h)
theorem _root_.L2.PG.weak {t t' : TG} (h : PG X e t) (w : ∀ v σ H Q, t' v σ H Q → t v σ H Q) : PG X e t' := ⟨fun pins s σ H v u Q I r q => h.run pins s σ H v u Q I r (w _ _ _ _ q)⟩
theorem wipe_get : ∀ (vs : List Nat) (σ : L2.St) (j : Nat), (wipe σ vs)[j]? = if j ∈ vs ∧ j < σ.length then some none else σ[j]?
  | [], σ, j => by simp [wipe]
  | v :: vs, σ, j => by
    show ((wipe σ vs).set v none)[j]? = _
    have wl : ∀ (vs : List Nat) (σ : L2.St), (wipe σ vs).length = σ.length := by
      intro vs σ
      induction vs with
      | nil => rfl
      | cons v vs ih => show ((wipe σ vs).set v none).length = _; rw [List.length_set, ih]
    rw [List.getElem?_set, wl, wipe_get vs σ j]
    by_cases hj : v = j
    · subst hj
      by_cases hl : v < σ.length
      · simp [hl]
      · simp [hl]
    · have : ¬ j = v := fun z => hj z.symm
      simp [hj, this]
theorem wipe_len (vs : List Nat) (σ : L2.St) : (wipe σ vs).length = σ.length := by
  induction vs with
  | nil => rfl
  | cons v vs ih => show ((wipe σ vs).set v none).length = _; rw [List.length_set, ih]
theorem wipe_ext {σ σ' : L2.St} {vs : List Nat} (hl : σ'.length = σ.length) (h : ∀ j, j ∉ vs → σ'[j]? = σ[j]?) : wipe σ' vs = wipe σ vs := by
  refine List.ext_getElem? fun j => ?_
  rw [wipe_get, wipe_get, hl]
  by_cases hj : j ∈ vs ∧ j < σ.length
  · rw [if_pos hj, if_pos hj]
  · rw [if_neg hj, if_neg hj]
    by_cases hv : j ∈ vs
    · have : ¬ j < σ.length := fun z => hj ⟨hv, z⟩
      rw [List.getElem?_eq_none (by omega), List.getElem?_eq_none (by omega)]
    · exact h j hv
theorem wipe_set {σ : L2.St} {i : Nat} {o : Option V} {vs : List Nat} (h : i ∈ vs) : wipe (σ.set i o) vs = wipe σ vs := wipe_ext (by rw [List.length_set]) fun j hj => by rw [List.getElem?_set_ne (fun z => hj (by rw [← z]; exact h))]
theorem Rep.set' (R : Rep A L F ε σ H) {i : Nat} {v : V} {d : Dt} (h : Is A.K F v d) : Rep A L F (ε.set i (.fz d)) (σ.set i (some v)) H := by
  by_cases hi : i < ε.length
  · exact R.set hi h
  · have hs : ¬ i < σ.length := by rw [← R.len]; exact hi
    rw [List.set_eq_of_length_le (by omega), List.set_eq_of_length_le (by omega)]
    exact R
def hName (i : Nat) : HG := fun d ε P => P (ε.set i (.fz d))
theorem xg_name {i : Nat} (h : PG X e (gName i)) : XG A X e [i] (hName i) := h.weak fun v σ H Q ⟨L, F, ε, P, d, R, is, p, k⟩ => k F _ _ H (R.set' is) (Same.refl F) (fun vs hv => wipe_set (hv i (by simp))) p
def hNil : HGs := fun ds ε P => ds = [] ∧ P ε
def hCons (h : HG) (r : HGs) : HGs := fun ds ε P => ∃ d ds', ds = d :: ds' ∧ h d ε fun ε' => r ds' ε' P
def hTup (n : Nat) (h : HGs) : HG := fun d ε P => ∃ ds, (d = .tup ds ∨ d = .tupc ds) ∧ ds.length = n ∧ h ds ε P
theorem xgs_nil (h : PGs X [] gNil) : XGs A X [] [] hNil := ⟨fun pins s σ H us vs Q I r ⟨L, F, ε, P, ds, R, is, ⟨e, p⟩, k⟩ => h.run pins s σ H us vs Q I r (by
  subst e
  cases is
  exact ⟨rfl, k F ε σ H R (Same.refl F) (fun _ _ => rfl) p⟩)⟩
theorem xgs_cons {es : List Expr} {ts us : List Nat} {h : HG} {r : HGs} (h1 : XG A X e ts h) (h2 : XGs A X es us r) (hc : PGs X (e :: es) (gCons (tG A ts h) (tGs A us r))) : XGs A X (e :: es) (ts ++ us) (hCons h r) :=
  ⟨fun pins s σ H ws vs Q I rv ⟨L, F, ε, P, ds, R, is, ⟨d, ds', e, p⟩, k⟩ => hc.run pins s σ H ws vs Q I rv (by
    subst e
    cases is with
    | cons i r =>
      exact ⟨_, _, rfl, L, F, ε, _, d, R, i, p, fun F1 ε1 σ1 H1 R1 s1 w1 p1 => ⟨L, F1, ε1, P, ds', R1, r.mono s1, p1, fun F2 ε2 σ2 H2 R2 s2 w2 p2 =>
        k F2 ε2 σ2 H2 R2 (s1.trans s2) (fun vs hv => (w2 vs fun t ht => hv t (List.mem_append_right _ ht)).trans (w1 vs fun t ht => hv t (List.mem_append_left _ ht))) p2⟩⟩)⟩
theorem xg_tup {ts : List Nat} {n : Nat} {h : HGs} (hp : PG X e (gTup X.K n (tGs A ts h))) (hK : X.K = A.K := by rfl) : XG A X e ts (hTup n h) := hp.weak fun v σ H Q ⟨L, F, ε, P, d, R, is, ⟨ds, ed, el, p⟩, k⟩ => by
  rcases ed with ed | ed
  · subst ed
    obtain ⟨a, us, rfl, ha, r⟩ := is.tup_inv
    exact ⟨a, us, rfl, SqT.of (R.low.nd ha fun z => z), by rw [r.length, el], L, F, ε, P, ds, R, r, p, k⟩
  · subst ed
    obtain ⟨a, us, rfl, ha, r⟩ := is.tupc_inv
    exact ⟨a, us, rfl, by rw [hK]; exact ha H, by rw [r.length, el], L, F, ε, P, ds, R, r, p, k⟩
/-! assignment -/
def putR (ε : DEnv) (i : Nat) (P : DEnv → Prop) : Res → Prop
  | .fz d => P (ε.set i (.fz d))
  | .ol xs => ∀ a, P (ε.set i (.ol a xs))
  | .od T kvs => ∀ a, P (ε.set i (.od a T kvs))
  | .tp xs ds => P (ε.set i (.fz (.tup (.lst xs :: ds))))
theorem Rep.putR (R : Rep A L F ε σ H) {i : Nat} {v : V} {r : Res} {P : DEnv → Prop} (ok : ROk A L F ε H v r) (p : putR ε i P r) : ∃ F' ε', Same F F' ∧ Rep A L F' ε' (σ.set i (some v)) H ∧ P ε' := by
  cases r with
  | fz d => exact ⟨F, _, Same.refl F, R.set' ok, p⟩
  | ol xs =>
    obtain ⟨a, vs, rfl, w, ha, is⟩ := ok
    refine ⟨F, _, Same.refl F, ?_, p a⟩
    by_cases hi : i < ε.length
    · exact R.setOwn hi (fun _ _ _ _ z => nomatch z) ⟨rfl, vs, ha, is⟩ fun b hb => by rw [List.mem_singleton.mp hb]; exact ⟨w, _, ha⟩
    · have hs : ¬ i < σ.length := by rw [← R.len]; exact hi
      rw [List.set_eq_of_length_le (by omega), List.set_eq_of_length_le (by omega)]
      exact R
  | od T kvs =>
    obtain ⟨a, rfl, w, ha⟩ := ok
    refine ⟨F, _, Same.refl F, ?_, p a⟩
    by_cases hi : i < ε.length
    · obtain ⟨o, ho, _⟩ := ha.ex
      exact R.setOwn hi (fun _ _ _ _ z => nomatch z) (by cases T <;> exact ⟨rfl, ha⟩) fun b hb => by rw [List.mem_singleton.mp hb]; exact ⟨w, _, ho⟩
    · have hs : ¬ i < σ.length := by rw [← R.len]; exact hi
      rw [List.set_eq_of_length_le (by omega), List.set_eq_of_length_le (by omega)]
      exact R
  | tp xs ds =>
    obtain ⟨F', s, R', i'⟩ := R.frzR (r := .tp xs ds) ok
    exact ⟨F', _, s, R'.set' i', p⟩
def kSet (i : Nat) (g : GR) : KS := fun E ε => g ε fun ε' r => putR ε' i E.nx r
theorem xs_set {i : Nat} {g : GR} (h : PS X st (tAsg (tR A g) (gName i))) : XS A X st (kSet i g) := h.weak fun D σ H ⟨L, F, ε, E, R, hg, n, r, b, c⟩ => ⟨L, F, ε, _, R, hg, fun F' ε' H' v x s R' ok p => by
  obtain ⟨F2, ε2, s2, R2, p2⟩ := R'.putR ok p
  exact n F2 ε2 _ H' (s.trans s2) R2 p2⟩
/-- a target that is no plain name -/
def kAsg (g : GE) (h : HG) : KS := fun E ε => g ε fun ε' d => h d ε' E.nx
theorem xs_asg {ts : List Nat} {g : GE} {h : HG} (hp : PS X st (tAsg (tE A g) (tG A ts h))) : XS A X st (kAsg g h) := hp.weak fun D σ H ⟨L, F, ε, E, R, hg, n, r, b, c⟩ => ⟨L, F, ε, _, R, hg, fun F' ε' H' v d s R' i p =>
  ⟨L, F', ε', _, d, R', i, p, fun F2 ε2 σ2 H2 R2 s2 _ p2 => n F2 ε2 σ2 H2 (s.trans s2) R2 p2⟩⟩
/-! own lists and dicts -/
def kApp (i : Nat) (g : GE) : KS := fun E ε => (∃ a xs, ε[i]? = some (.ol a xs)) ∧ g ε fun ε' d => ∃ a xs, ε'[i]? = some (.ol a xs) ∧ xs.length < 100000 ∧ E.nx (ε'.set i (.ol a (xs ++ [d])))
theorem small5 {n : Nat} (h : n < 100000) : n < sizeLine := Nat.lt_of_lt_of_le h (show 100000 ≤ sizeLine by decide)
theorem Rep.ol (R : Rep A L F ε σ H) {i : Nat} {a : Addr} {xs : List Dt} (e : ε[i]? = some (.ol a xs)) : σ[i]? = some (some (.ref a)) ∧ ∃ vs, H a = some (.lst vs) ∧ IsL A.K F vs xs := by
  obtain ⟨h1, h2⟩ := R.val i _ e
  exact ⟨join_some h1, h2⟩
theorem Rep.app (R : Rep A L F ε σ H) {i : Nat} {a : Addr} {xs ys : List Dt} {ws : List V} (e : ε[i]? = some (.ol a xs)) (r : IsL A.K F ws ys) : Rep A L F (ε.set i (.ol a ys)) σ (upd H a (.lst ws)) := by
  obtain ⟨h1, _⟩ := R.ol e
  exact R.write e rfl rfl ⟨by rw [h1]; rfl, ws, upd_same, r⟩ fun _ _ _ _ z => nomatch z
theorem xs_app {i : Nat} {g : GE} (h : PS X st (tDrop (tBM X.K "list" rAppend (tVar i) (tCons (tE A g) tNil)))) : XS A X st (kApp i g) := h.weak fun D σ H ⟨L, F, ε, E, R, ⟨⟨a0, xs0, e0⟩, hg⟩, n, r, b, c⟩ => by
  obtain ⟨h0, vs0, g0, _⟩ := R.ol e0
  refine ⟨.ref a0, h0, .inl ⟨rfl, vs0, SqL.of g0⟩, L, F, ε, _, R, hg, fun F' ε' H' v d s R' is ⟨a, xs, e1, sm, p⟩ => ?_⟩
  obtain ⟨h1, vs, g1, r1⟩ := R'.ol e1
  rw [h0] at h1
  cases h1
  exact ⟨a0, vs, v, rfl, rfl, g1, by rw [r1.length]; exact small5 sm, n F' _ σ _ s (R'.app e1 (r1.snoc is)) p⟩
/-- a dict of its own with plain keys -/
def odKT : Option Sl → Option (Addr × Kd × List (Dt × Dt))
  | some (.od a .k kvs) => some (a, .k, kvs)
  | some (.od a .t kvs) => some (a, .t, kvs)
  | _ => none
theorem odKT_inv {o : Option Sl} {a : Addr} {T : Kd} {kvs : List (Dt × Dt)} (h : odKT o = some (a, T, kvs)) : o = some (.od a T kvs) ∧ T ≠ .x := by
  cases o with
  | none => cases h
  | some s => cases s with
    | od b T' ks => cases T' <;> cases h <;> exact ⟨rfl, fun z => nomatch z⟩
    | _ => cases h
/-- d[k] = v -/
def kPut (i : Nat) (gk gv : GE) : KS := fun E ε => gv ε fun ε1 d => (∃ a T kvs, ε1[i]? = some (.od a T kvs)) ∧ gk ε1 fun ε2 y => ∃ a T kvs, odKT ε2[i]? = some (a, T, kvs) ∧ KeyOk T y ∧ kvs.length < 100000 ∧ E.nx (ε2.set i (.od a T (putD kvs y d)))
theorem Rep.od (R : Rep A L F ε σ H) {i : Nat} {a : Addr} {T : Kd} {kvs : List (Dt × Dt)} (e : ε[i]? = some (.od a T kvs)) : σ[i]? = some (some (.ref a)) ∧ dicOk A.K F H a T kvs := by
  have ok := R.val i _ e
  cases T with
  | k => exact ⟨join_some ok.1, ok.2⟩
  | t => exact ⟨join_some ok.1, ok.2⟩
  | x => exact ⟨join_some ok.1, ok.2⟩
theorem xs_put {i : Nat} {gk gv : GE} (h : PS X st (sUPut X (tVar i) (tE A gk) (tE A gv))) : XS A X st (kPut i gk gv) := h.weak fun D σ H ⟨L, F, ε, E, R, hg, n, r, b, c⟩ => ⟨L, F, ε, _, R, hg, fun F1 ε1 H1 v d s1 R1 i1 ⟨⟨a0, T0, k0, e0⟩, q1⟩ => by
  obtain ⟨h0, _⟩ := R1.od e0
  refine ⟨.ref a0, h0, L, F1, ε1, _, R1, q1, fun F2 ε2 H2 w y s2 R2 i2 ⟨a, T, kvs, e2', ko, sm, p⟩ => ?_⟩
  obtain ⟨e2, nx⟩ := odKT_inv e2'
  obtain ⟨h2, ok⟩ := R2.od e2
  rw [h0] at h2
  cases h2
  have ka := keyAt R2.low i2 ko
  cases T with
  | k =>
    obtain ⟨vs, hv, rv⟩ := ok
    obtain ⟨k, rfl, rfl⟩ := ka
    refine ⟨a0, rfl, .inl ⟨_, DPut.k hv (by rw [rv.length]; exact small5 sm), n F2 _ σ _ (s1.trans s2) (R2.write (x := .od a0 .k _) e2 rfl rfl ⟨by rw [h0]; rfl, _, upd_same, rv.put k (i1.mono s2)⟩ fun _ _ _ _ z => nomatch z) p⟩⟩
  | t =>
    obtain ⟨vs, hv, rv⟩ := ok
    obtain ⟨k, b, rfl, rfl, hb⟩ := ka
    exact ⟨a0, rfl, .inl ⟨_, DPut.t hv hb (by rw [rv.length]; exact small5 sm), n F2 _ σ _ (s1.trans s2) (R2.write (x := .od a0 .t _) e2 rfl rfl ⟨by rw [h0]; rfl, _, upd_same, rv.put k (i1.mono s2)⟩ fun _ _ _ _ z => nomatch z) p⟩⟩
  | x => exact (nx rfl).elim⟩
/-! while -/
end
end Sv
namespace Sv
open PySem PySem.Spec PyProof.Rows L2
variable [Tb : Tbs]
/-! ### locks, taken and left where it suits -/
section
variable {X : Cx} {e : Expr} {st : Stmt}
/-- Q, or Q once d is unlocked -/
def Unl (X : Cx) (Q : Hp → Prop) (H : Hp) : Prop := Q H ∨ ∃ d od u, H d = some (.frz od u) ∧ (∀ o' u', X.H_0 d ≠ some (.frz o' u')) ∧ Q (upd H d u)
theorem pe_gu {t : TE} (h : PE X e t) : PE X e (fun σ H Q => t σ H fun v H' => Unl X (Q v) H') := ⟨fun pins s σ H Q I hw => thn (h.run pins s σ H _ I hw) fun v s1 ⟨x, H1, I1, r, q⟩ => by
  rcases q with q | ⟨d, od, u, hd, nf, q⟩
  · exact ⟨x, H1, I1, r, q⟩
  · exact ⟨x, _, I1.unlock hd nf, r, q⟩⟩
theorem ps_gu {t : TS} (h : PS X st t) : PS X st (fun D σ H => t ⟨fun σ' H' => Unl X (D.nx σ') H', fun v H' => Unl X (D.rt v) H', fun σ' H' => Unl X (D.bk σ') H', fun σ' H' => Unl X (D.ct σ') H'⟩ σ H) := ⟨fun pins s σ H D I hw => thn (h.run pins s σ H _ I hw) fun f s1 q => by
  cases f with
  | next =>
    obtain ⟨σ', H1, I1, q⟩ := q
    rcases q with q | ⟨d, od, u, hd, nf, q⟩
    · exact ⟨σ', H1, I1, q⟩
    · exact ⟨σ', _, I1.unlock hd nf, q⟩
  | brk =>
    obtain ⟨σ', H1, I1, q⟩ := q
    rcases q with q | ⟨d, od, u, hd, nf, q⟩
    · exact ⟨σ', H1, I1, q⟩
    · exact ⟨σ', _, I1.unlock hd nf, q⟩
  | cont =>
    obtain ⟨σ', H1, I1, q⟩ := q
    rcases q with q | ⟨d, od, u, hd, nf, q⟩
    · exact ⟨σ', H1, I1, q⟩
    · exact ⟨σ', _, I1.unlock hd nf, q⟩
  | ret v =>
    obtain ⟨x, σ', H1, I1, r, q⟩ := q
    rcases q with q | ⟨d, od, u, hd, nf, q⟩
    · exact ⟨x, σ', H1, I1, r, q⟩
    · exact ⟨x, σ', _, I1.unlock hd nf, r, q⟩⟩
end
def updL (l : Addr → Option Obj) (d : Addr) (ob : Obj) : Addr → Option Obj := fun b => if b = d then some ob else l b
theorem updL_same {l : Addr → Option Obj} {d : Addr} {ob : Obj} : updL l d ob d = some ob := by unfold updL; rw [if_pos rfl]
theorem updL_ne {l : Addr → Option Obj} {d b : Addr} {ob : Obj} (h : b ≠ d) : updL l d ob b = l b := by unfold updL; rw [if_neg h]
/-- L' is L, or one more dict is locked -/
def LkExt (X : Cx) (A : Anc) (F' : Hp) (L L' : Lk) : Prop := L' = L ∨ ∃ d ob u, L.l d = none ∧ L' = ⟨updL L.l d ob, L.x⟩ ∧ (∀ o' u', X.H_0 d ≠ some (.frz o' u')) ∧ F' d = some u ∧ DicO u ∧ ∀ o, d ∉ A.pg → A.H d = some o → NoT o → o = u
section
variable {A : Anc} {X : Cx} {L L' : Lk} {F F' H : Hp} {ε : DEnv} {σ : L2.St} {e : Expr} {st : Stmt}
theorem Rep.lock (R : Rep A L F ε σ H) {d : Addr} {u : HO} (ob : Obj) (hd : F d = some u) (du : DicO u) (hl : L.l d = none) : Rep A ⟨updL L.l d ob, L.x⟩ F ε σ (upd H d (.frz ob u)) := by
  have hne : ∀ a, F a = none → a ≠ d := fun a ha z => by rw [z, hd] at ha; cases ha
  have hHd : ∃ w, H d = some w ∧ Wr w := by
    rcases R.low.at_ d u hd with ⟨_, z⟩ | ⟨_, z, _⟩
    · exact ⟨u, z, by cases u <;> first | exact True.intro | exact du.elim⟩
    · rw [hl] at z; cases z
  refine ⟨R.len, ⟨fun a o h => ?_, fun a ob' h => ?_, R.low.nt⟩, fun i s e => (R.val i s e).keep fun a m v hv => ?_, fun i s a e m => ?_, R.dis, fun b o np e nt l => ?_, R.newF, R.newO, fun b ob' h => ?_, fun b hb => ?_, R.pup, fun a o h => ?_, R.hds, (let ⟨_, h1, h2⟩ := hHd; R.tab.write h1 h2), (let ⟨_, h1, h2⟩ := hHd; R.nw.write h1 h2.noT)⟩
  · by_cases ha : a = d
    · subst ha
      rw [hd] at h
      cases h
      exact .inr ⟨ob, updL_same, du, upd_same⟩
    · rw [upd_ne ha]
      rcases R.low.at_ a o h with ⟨z1, z2⟩ | ⟨ob', z1, z2, z3⟩
      · exact .inl ⟨(updL_ne ha).trans z1, z2⟩
      · exact .inr ⟨ob', (updL_ne ha).trans z1, z2, z3⟩
  · by_cases ha : a = d
    · exact ⟨u, by rw [ha]; exact hd⟩
    · exact R.low.dom a ob' ((updL_ne ha).symm.trans h)
  · rw [upd_ne (hne a (R.off i s a e m).1)]
    exact hv
  · obtain ⟨h1, v, h2⟩ := R.off i s a e m
    exact ⟨h1, v, by rw [upd_ne (hne a h1)]; exact h2⟩
  · by_cases hb : b = d
    · subst hb
      have l : updL L.l b ob b = A.L b := l
      rw [updL_same] at l
      rw [R.lk b ob l.symm] at hl
      cases hl
    · rw [upd_ne hb]
      exact R.keep b o np e nt ((updL_ne hb).symm.trans l)
  · have q := R.lk b ob' h
    exact (updL_ne (fun z => by rw [z, hl] at q; cases q)).trans q
  · obtain ⟨v, hv⟩ := R.pgs b hb
    by_cases hbd : b = d
    · exact ⟨_, by rw [hbd, upd_same]⟩
    · exact ⟨v, by rw [upd_ne hbd]; exact hv⟩
  · obtain ⟨h1, h2, h3⟩ := R.hid a o h
    exact ⟨by rw [upd_ne (hne a h2)]; exact h1, h2, h3⟩
theorem Rep.unlock {d : Addr} {u : HO} {ob : Obj} (R : Rep A ⟨updL L.l d ob, L.x⟩ F ε σ H) (hd : F d = some u) (hl : L.l d = none) (hA : A.L d = none) (hk : ∀ o, d ∉ A.pg → A.H d = some o → NoT o → o = u) : Rep A L F ε σ (upd H d u) ∧ H d = some (.frz ob u) := by
  have hne : ∀ a, F a = none → a ≠ d := fun a ha z => by rw [z, hd] at ha; cases ha
  have hHd : H d = some (.frz ob u) := by
    rcases R.low.at_ d u hd with ⟨z, _⟩ | ⟨ob', z, _, h⟩
    · have z : updL L.l d ob d = none := z
      rw [updL_same] at z
      cases z
    · have z : updL L.l d ob d = some ob' := z
      rw [updL_same] at z
      cases z
      exact h
  refine ⟨⟨R.len, ⟨fun a o h => ?_, fun a ob' h => ?_, R.low.nt⟩, fun i s e => (R.val i s e).keep fun a m v hv => ?_, fun i s a e m => ?_, R.dis, fun b o np e nt l => ?_, R.newF, R.newO, fun b ob' h => ?_, fun b hb => ?_, R.pup, fun a o h => ?_, R.hds, R.tab.write hHd True.intro, R.nw.write hHd True.intro⟩, hHd⟩
  · by_cases ha : a = d
    · subst ha
      rw [hd] at h
      cases h
      exact .inl ⟨hl, upd_same⟩
    · rw [upd_ne ha]
      rcases R.low.at_ a o h with ⟨z1, z2⟩ | ⟨ob', z1, z2, z3⟩
      · exact .inl ⟨(updL_ne ha).symm.trans z1, z2⟩
      · exact .inr ⟨ob', (updL_ne ha).symm.trans z1, z2, z3⟩
  · have ha : a ≠ d := fun z => by rw [z, hl] at h; cases h
    exact R.low.dom a ob' ((updL_ne ha).trans h)
  · rw [upd_ne (hne a (R.off i s a e m).1)]
    exact hv
  · obtain ⟨h1, v, h2⟩ := R.off i s a e m
    exact ⟨h1, v, by rw [upd_ne (hne a h1)]; exact h2⟩
  · by_cases hb : b = d
    · subst hb
      rw [upd_same, hk o np e nt]
    · rw [upd_ne hb]
      exact R.keep b o np e nt ((updL_ne hb).trans l)
  · have q := R.lk b ob' h
    have ne : b ≠ d := fun z => by rw [z, hA] at h; cases h
    exact (updL_ne ne).symm.trans q
  · obtain ⟨v, hv⟩ := R.pgs b hb
    by_cases hbd : b = d
    · exact ⟨_, by rw [hbd, upd_same]⟩
    · exact ⟨v, by rw [upd_ne hbd]; exact hv⟩
  · obtain ⟨h1, h2, h3⟩ := R.hid a o h
    exact ⟨by rw [upd_ne (hne a h2)]; exact h1, h2, h3⟩
/-- the end of a walk: the lock goes -/
theorem Rep.unl {σ' : L2.St} {ε' : DEnv} {F2 : Hp} {Q : Hp → Prop} (x : LkExt X A F' L L') (s : Same F' F2) (hA : ∀ d, L.l d = none → A.L d = none) (R : Rep A L' F2 ε' σ' H) (k : ∀ H', Rep A L F2 ε' σ' H' → (∀ a, Own A L' F2 ε' a → ∀ o, H a = some o → H' a = some o) → Q H') : Unl X Q H := by
  rcases x with x | ⟨d, ob, u, hl, x, nf, hd, du, hk⟩
  · subst x
    exact .inl (k H R fun _ _ _ h => h)
  · subst x
    obtain ⟨R2, h⟩ := R.unlock (s _ _ hd) hl (hA d hl) hk
    refine .inr ⟨d, ob, u, h, nf, k _ R2 fun a w o ha => ?_⟩
    have ne : a ≠ d := fun z => by
      have := w.nf
      rw [z, s _ _ hd] at this
      cases this
    rw [upd_ne ne]
    exact ha
theorem ROk.unl {F2 H2 : Hp} {v : V} {r : Res} (x : LkExt X A F' L L') (k : ∀ a, Own A L' F2 ε a → ∀ o, H a = some o → H2 a = some o) (ok : ROk A L' F2 ε H v r) : ROk A L F2 ε H2 v r := by
  have ow : ∀ a, Own A L' F2 ε a → Own A L F2 ε a := fun a w => ⟨w.nf, w.nh, w.np, by
    rcases x with x | ⟨d, ob, u, hl, x, _⟩
    · rw [← x]; exact w.nx
    · have := w.nx
      rw [x] at this
      exact this, w.ns⟩
  cases r with
  | fz d => exact ok
  | ol xs =>
    obtain ⟨a, vs, rfl, w, ha, is⟩ := ok
    exact ⟨a, vs, rfl, ow a w, k a w _ ha, is⟩
  | od T kvs =>
    obtain ⟨a, rfl, w, ha⟩ := ok
    refine ⟨a, rfl, ow a w, ?_⟩
    cases T with
    | k => obtain ⟨vs, h, is⟩ := ha; exact ⟨vs, k a w _ h, is⟩
    | t => obtain ⟨vs, h, is⟩ := ha; exact ⟨vs, k a w _ h, is⟩
    | x => obtain ⟨vs, ob, h, is⟩ := ha; exact ⟨vs, ob, k a w _ h, is⟩
  | tp xs ds =>
    obtain ⟨p, a, us, vs, rfl, hp, w, ha, r, r'⟩ := ok
    exact ⟨p, a, us, vs, rfl, hp, ow a w, k a w _ ha, r, r'⟩
/-! ### what is walked -/
abbrev GI := DEnv → (DEnv → List Dt → Prop) → Prop
def IsIt (A : Anc) (L : Lk) (F : Hp) (J : It) (ds : List Dt) : Prop := Walk J ds.length (fun H => ∃ F2, Same F F2 ∧ Low L.l F2 H) (fun i H x H' => ∃ d, ds[i]? = some d ∧ ∀ (xx : Addr → Option HO) F2 ε σ, Same F F2 → Rep A ⟨L.l, xx⟩ F2 ε σ H → ∃ F3, Same F2 F3 ∧ Rep A ⟨L.l, xx⟩ F3 ε σ H' ∧ Is A.K F3 x d)
def tI (A : Anc) (X : Cx) (gi : GI) : TI := fun σ H R => ∃ L F ε P, Rep A L F ε σ H ∧ gi ε P ∧ ∀ F' ε' H' L' J ds, Same F F' → LkExt X A F' L L' → Rep A L' F' ε' σ H' → IsIt A L' F' J ds → P ε' ds → R J H'
abbrev XI (A : Anc) (X : Cx) (tg e : Expr) (gi : GI) : Prop := PI X tg e (tI A X gi)
theorem _root_.L2.PI.weak {tg : Expr} {t t' : TI} (h : PI X tg e t) (w : ∀ σ H R, t' σ H R → t σ H R) : PI X tg e t' := ⟨fun pins s σ H R I q => h.run pins s σ H R I (w _ _ _ q)⟩
def gSeq (g : GE) : GI := fun ε P => g ε fun ε' x => ∃ xs, itemsD x = some xs ∧ P ε' xs
abbrev Sqq (K : PySem.W.Frag) (H : Hp) (a : Addr) (xs : List V) : Prop := SqL K H a xs ∨ SqT K H a xs
/-- a list or a tuple walked, while a heap of one's choice is kept -/
def iSww (K : PySem.W.Frag) (te : TE) : TI := fun σ H R => te σ H fun x H1 => ∃ a xs H0, x = .ref a ∧ Sqq K H0 a xs ∧ Same H0 H1 ∧ ∀ J, Walk J xs.length (fun H2 => Same H0 H2) (YAt xs) → R J H1
theorem pi_sww {tg l : Expr} {tl : TE} (hl : PE X l tl) : PI X tg l (iSww X.K tl) := ⟨fun pins s σ H R I h => thn (hl.run pins s σ H _ I h) fun v s1 ⟨x, H1, I1, r1, a, xs, H0, ex, hq0, s0, q⟩ => by
  subst ex
  cases r1
  have fp : ∀ b ∈ [s1.heap.objs.size], FpOk X pins H1 b := fun b hb => fp_new I1 (by rw [List.mem_singleton.mp hb]; exact Nat.le_refl _)
  rcases hq0 with hq0 | hq0
  · obtain ⟨its, _, p, _⟩ := I1.list (s0.seq hq0)
    exact wpAny_pyIter_list p.isList ⟨_, _, _, _, H1, rfl, I1.kept (t' := s1.toks) fun b o z => Heap.get?_push_of_some _ z, turn_list a _, ⟨_, Heap.get?_push_size _ rfl, rfl, rfl⟩, fp, q _ (walk_list.mono (fun H2 s2 => s2.seq hq0) fun _ _ _ _ _ _ y => y)⟩
  · obtain ⟨its, _, p, _⟩ := I1.tuple (s0.seqT hq0)
    exact wpAny_pyIter_tuple p ⟨_, _, _, _, H1, rfl, I1.kept (t' := s1.toks) fun b o z => Heap.get?_push_of_some _ z, turn_tuple a _, ⟨_, Heap.get?_push_size _ rfl, rfl, rfl⟩, fp, q _ (walk_tup.mono (fun H2 s2 => s2.seqT hq0) fun _ _ _ _ _ _ y => y)⟩⟩
/-- the heap of one cell -/
def oneH (H : Hp) (a : Addr) : Hp := fun b => if b = a then H a else none
theorem one_same {H H2 : Hp} {a : Addr} (h : ∀ o, H a = some o → H2 a = some o) : Same (oneH H a) H2 := fun b o e => by
  unfold oneH at e
  by_cases hb : b = a
  · rw [if_pos hb] at e
    rw [hb]
    exact h o e
  · rw [if_neg hb] at e
    cases e
/-- a sequence that stays: some part of the heap tells it, for good -/
theorem seq_stay {K : PySem.W.Frag} {v : V} {x : Dt} {xs : List Dt} (i : Is K F v x) (h : itemsD x = some xs) : ∃ a vs H0, v = .ref a ∧ Sqq K H0 a vs ∧ IsL K F vs xs ∧ ∀ (l : Addr → Option Obj) F2 H2, Same F F2 → Low l F2 H2 → Same H0 H2 := by
  have one : ∀ (a : Addr) (o : HO), F a = some o → ¬ DicO o → ∀ (l : Addr → Option Obj) F2 H2, Same F F2 → Low l F2 H2 → Same (oneH F a) H2 := fun a o ha nd l F2 H2 s w => one_same fun o' h' => by
    rw [ha] at h'
    cases h'
    exact w.nd (s _ _ ha) nd
  cases x <;> cases h
  · obtain ⟨a, vs, rfl, ha, r⟩ := i.tup_inv
    exact ⟨a, vs, oneH F a, rfl, .inr (SqT.of (by unfold oneH; rw [if_pos rfl]; exact ha)), r, one a _ ha fun z => z⟩
  · obtain ⟨a, vs, rfl, ha, r⟩ := i.tupc_inv
    exact ⟨a, vs, fun _ => none, rfl, .inr (ha _), r, fun _ _ _ _ _ _ _ z => nomatch z⟩
  · obtain ⟨a, vs, rfl, ha, r⟩ := i.lst_inv
    exact ⟨a, vs, oneH F a, rfl, .inl (SqL.of (by unfold oneH; rw [if_pos rfl]; exact ha)), r, one a _ ha fun z => z⟩
theorem walk_n {J : It} {n m : Nat} {G : Hp → Prop} {Y : Nat → Hp → V → Hp → Prop} (w : Walk J n G Y) (h : n = m) : Walk J m G Y := by subst h; exact w
theorem xi_seq {tg : Expr} {g : GE} (h : PI X tg e (iSww X.K (tE A g))) (hK : X.K = A.K := by rfl) : XI A X tg e (gSeq g) := h.weak fun σ H R ⟨L, F, ε, P, Rp, hg, k⟩ => ⟨L, F, ε, _, Rp, hg, fun F' ε' H' v x s R' is ⟨xs, hx, p⟩ => by
  obtain ⟨a, vs, H0, rfl, hs, r, st⟩ := seq_stay is hx
  refine ⟨a, vs, H0, rfl, by rw [hK]; exact hs, st _ F' H' (Same.refl F') R'.low, fun J hJ => k F' ε' H' L J xs s (.inl rfl) R' ?_ p⟩
  refine walk_n (hJ.mono (fun H2 ⟨F2, s2, w2⟩ => st _ F2 H2 s2 w2) fun i H2 y H3 hi _ hy => ?_) r.length
  obtain ⟨rfl, hy⟩ := hy
  obtain ⟨d, hd, iy⟩ := r.get hy
  exact ⟨d, hd, fun _ F2 ε σ s2 R2 => ⟨F2, Same.refl F2, R2, iy.mono s2⟩⟩⟩
/-- range -/
def gRng1 (g : GE) : GI := fun ε P => g ε fun ε' x => ∃ n : Nat, x = .int n ∧ n ≤ 1000000000 ∧ P ε' ((List.range n).map fun i => .int (i : Nat))
theorem xi_rng1 {tg : Expr} {g : GE} (h : PI X tg e (iRng1 (tCons (tE A g) tNil))) : XI A X tg e (gRng1 g) := h.weak fun σ H R ⟨L, F, ε, P, Rp, hg, k⟩ => ⟨L, F, ε, _, Rp, hg, fun F' ε' H' v x s R' is ⟨n, ex, hn, p⟩ => by
  subst ex
  cases is
  refine ⟨(n : Int), rfl, by omega, by omega, k F' ε' H' L _ _ s (.inl rfl) R' ?_ p⟩
  refine walk_n (walk_range.mono (fun _ _ => trivial) fun i H2 y H3 hi _ hy => ?_) (by rw [List.length_map, List.length_range]; omega)
  obtain ⟨rfl, rfl⟩ := hy
  refine ⟨.int (i : Nat), ?_, fun _ F2 ε σ s2 R2 => ⟨F2, Same.refl F2, R2, by show Is A.K F2 (.int (0 + (i : Int))) _; rw [Int.zero_add]; exact .int _⟩⟩
  have hi : i < n := by omega
  rw [List.getElem?_map, List.getElem?_eq_getElem (by rw [List.length_range]; exact hi), List.getElem_range]
  rfl⟩
/-- a pair is laid at each turn -/
theorem yPair {i : Nat} {H2 H3 : Hp} {y : V} {ds : List Dt} {x z : V} {T : Addr} {dx dz : Dt} (e1 : y = .ref T) (e2 : H2 T = none) (e3 : H3 = upd H2 T (.tup [x, z])) (hd : ds[i]? = some (.tup [dx, dz]))
    (f : ∀ (xx : Addr → Option HO) F2 ε σ, Same F F2 → Rep A ⟨L.l, xx⟩ F2 ε σ H2 → ∃ F3, Same F2 F3 ∧ Rep A ⟨L.l, xx⟩ F3 ε σ H2 ∧ Is A.K F3 x dx ∧ Is A.K F3 z dz) :
    ∃ d, ds[i]? = some d ∧ ∀ (xx : Addr → Option HO) F2 ε σ, Same F F2 → Rep A ⟨L.l, xx⟩ F2 ε σ H2 → ∃ F3, Same F2 F3 ∧ Rep A ⟨L.l, xx⟩ F3 ε σ H3 ∧ Is A.K F3 y d := ⟨_, hd, fun xx F2 ε σ s2 R2 => by
  obtain ⟨F3, s3, R3, i1, i2⟩ := f xx F2 ε σ s2 R2
  subst e1 e3
  have s4 := same_of (o := HO.tup [x, z]) (R3.Fn e2)
  exact ⟨_, s3.trans s4, R3.new _ e2, .tup upd_same (.cons (i1.mono s4) (.cons (i2.mono s4) .nil))⟩⟩
def gEnum (g : GE) : GI := fun ε P => g ε fun ε' x => ∃ xs, itemsD x = some xs ∧ P ε' (xs.zipIdx.map fun p => .tup [.int (p.2 : Nat), p.1])
def iEnW (K : PySem.W.Frag) (ta : TA) : TI := fun σ H R => ta σ H fun vs H1 => ∃ a xs H0, vs = [.ref a] ∧ Sqq K H0 a xs ∧ Same H0 H1 ∧ ∀ J, Walk J xs.length (fun H2 => Same H0 H2) (YPair (fun i => some (.int (i : Nat))) (fun i => xs[i]?)) → R J H1
theorem pi_enW {e : Expr} {ta : TA} {p pos tpos : Pos} {elts : List Expr} {kk : Nat} (hg : Gl X "enumerate") (hm : X.mg "enumerate" = none) (ha : PA X [e] ta) (he : starEach [e] X.env = [(false, eval e X.env)] := by rfl) : PI X (.Tuple elts kk tpos) (.Call (.Name "enumerate" p) [e] [] pos) (iEnW X.K ta) := by
  refine ⟨fun pins s σ H R I h => Call_ (ld_blt I hg hm boot_enumerate (PyProof.Rows.callWith_type1 (thn (ha.run pos pins s σ H _ I h) fun us s1 ⟨vs, H1, I1, r1, a, xs, H0, ex, hq, s0, q⟩ => ?_) he rfl))⟩
  subst ex
  obtain ⟨u, _, rfl, rfl, hn⟩ : ∃ u r, us = u :: r ∧ u = Value.ref a ∧ r = [] := by
    cases r1 with
    | cons z zz => cases zz; exact ⟨_, _, rfl, z, rfl⟩
  subst hn
  have fp : ∀ b ∈ [s1.heap.objs.size + 1, s1.heap.objs.size], FpOk X pins H1 b := fun b hb => fp_new I1 (by
    rcases List.mem_cons.mp hb with z | z
    · rw [z]; exact Nat.le_succ _
    · rw [List.mem_singleton.mp z]; exact Nat.le_refl _)
  rcases hq with hq | hq
  · obtain ⟨its, _, p', _⟩ := I1.list (s0.seq hq)
    exact call_enumerate_list p'.isList fun h' en it sz k => wpAny_pyIter_enum en ⟨_, _, _, _, H1, rfl, I1.kept (t' := s1.toks) k, turn_enum a _ _, ⟨⟨.none, en⟩, it, Nat.succ_ne_self _⟩, fp, q _ (walk_enum.mono (fun H2 s2 => s2.seq hq) fun _ _ _ _ _ _ y => y)⟩
  · obtain ⟨its, _, p', _⟩ := I1.tuple (s0.seqT hq)
    have la : a < s1.heap.objs.size := by obtain ⟨o, ho, _⟩ := p'; exact Heap.lt_size ho
    exact enT_call p' (wpAny_pyIter_enum (enT_en s1.heap a) ⟨_, _, _, _, H1, rfl, I1.kept (t' := s1.toks) fun b o z => enT_keep z, enT_turn a _ _ (Nat.ne_of_gt (Nat.lt_succ_of_lt la)) (Nat.ne_of_lt la), ⟨⟨.none, enT_en s1.heap a⟩, enT_it s1.heap a, Nat.succ_ne_self _⟩, fp, q _ (walk_enumT.mono (fun H2 s2 => s2.seqT hq) fun _ _ _ _ _ _ y => y)⟩)
theorem xi_enum {tg : Expr} {g : GE} (h : PI X tg e (iEnW X.K (tCons (tE A g) tNil))) (hK : X.K = A.K := by rfl) : XI A X tg e (gEnum g) := h.weak fun σ H R ⟨L, F, ε, P, Rp, hg, k⟩ => ⟨L, F, ε, _, Rp, hg, fun F' ε' H' v x s R' is ⟨xs, hx, p⟩ => by
  obtain ⟨a, vs, H0, rfl, hs, r, st⟩ := seq_stay is hx
  refine ⟨a, vs, H0, rfl, by rw [hK]; exact hs, st _ F' H' (Same.refl F') R'.low, fun J hJ => k F' ε' H' L J _ s (.inl rfl) R' ?_ p⟩
  refine walk_n (hJ.mono (fun H2 ⟨F2, s2, w2⟩ => st _ F2 H2 s2 w2) fun i H2 y H3 hi _ hy => ?_) (by rw [List.length_map, List.length_zipIdx]; exact r.length)
  obtain ⟨T, x0, x1, e1, e2, e3, e4, e5⟩ := hy
  have e4 := Option.some.inj e4
  subst e4
  obtain ⟨d, hd, iy⟩ := r.get e5
  refine yPair e1 e2 e3 (dx := .int (i : Nat)) (dz := d) ?_ fun _ F2 ε σ s2 R2 => ⟨F2, Same.refl F2, R2, .int _, iy.mono s2⟩
  rw [List.getElem?_map, List.getElem?_zipIdx, hd]
  show some _ = _
  simp⟩
theorem IsK.get {K : PySem.W.Frag} : ∀ {vs : List (Key × V)} {ds : List (Dt × Dt)} {i : Nat} {k : Key} {v : V}, IsK K F vs ds → vs[i]? = some (k, v) → ∃ d, ds[i]? = some (kD k, d) ∧ Is K F v d
  | _, _, _, _, _, .nil, e => by simp at e
  | _, _, 0, _, _, .cons h _, e => by simp at e; obtain ⟨rfl, rfl⟩ := e; exact ⟨_, rfl, h⟩
  | _, _, i + 1, k, v, .cons _ r, e => by
    obtain ⟨d, h1, h2⟩ := IsK.get (i := i) (k := k) (v := v) r (by simpa using e)
    exact ⟨d, by simpa using h1, h2⟩
theorem IsT.get {K : PySem.W.Frag} : ∀ {vs : List (List Key × V)} {ds : List (Dt × Dt)} {i : Nat} {k : List Key} {v : V}, IsT K F vs ds → vs[i]? = some (k, v) → ∃ d, ds[i]? = some (ktD k, d) ∧ Is K F v d
  | _, _, _, _, _, .nil, e => by simp at e
  | _, _, 0, _, _, .cons h _, e => by simp at e; obtain ⟨rfl, rfl⟩ := e; exact ⟨_, rfl, h⟩
  | _, _, i + 1, k, v, .cons _ r, e => by
    obtain ⟨d, h1, h2⟩ := IsT.get (i := i) (k := k) (v := v) r (by simpa using e)
    exact ⟨d, by simpa using h1, h2⟩
/-! ### for -/
def kFor (gi : GI) (h : HG) (kb : KS) : KS := fun E ε => gi ε fun ε1 ds => ∃ I : Nat → DEnv → Prop, I 0 ε1 ∧ (∀ i d ε2, ds[i]? = some d → I i ε2 → h d ε2 fun ε3 => kb { nx := I (i + 1), rt := E.rt, bk := E.nx, ct := I (i + 1) } ε3) ∧ ∀ ε2, I ds.length ε2 → E.nx ε2
theorem xs_for {ts : List Nat} {gi : GI} {h : HG} {kb : KS} (hp : PS X st (tFor (tI A X gi) (tG A ts h) (tS A kb))) : XS A X st (kFor gi h kb) := (ps_gu hp).weak fun D σ H ⟨L, F, ε, E, R, hg, n, r, b, c⟩ => ⟨L, F, ε, _, R, hg, fun F' ε' H' L' J ds s lx R' hJ ⟨I, i0, turn, fin⟩ => by
  have hA : ∀ d, L.l d = none → A.L d = none := fun d hd => R.ALn hd
  refine for_it hJ (fun i σ2 H2 => ∃ F2 ε2, Same F' F2 ∧ Rep A L' F2 ε2 σ2 H2 ∧ I i ε2) ⟨F', ε', Same.refl F', R', i0⟩ (fun i σ2 H2 _ ⟨F2, ε2, s2, R2, _⟩ => ⟨F2, s2, R2.low⟩) (fun i x σ2 H2 H3 hi ⟨F2, ε2, s2, R2, i2⟩ ⟨d, hd, y⟩ => ?_) (fun σ2 H2 ⟨F2, ε2, s2, R2, i2⟩ => ?_)
  · obtain ⟨F3, s3, R3, i3⟩ := y L'.x F2 ε2 σ2 s2 R2
    refine ⟨L', F3, ε2, _, d, R3, i3, turn i d ε2 hd i2, fun F4 ε4 σ4 H4 R4 s4 _ q => ?_⟩
    have s4' : Same F' F4 := (s2.trans s3).trans s4
    refine ⟨L', F4, ε4, _, R4, q, fun F5 ε5 σ5 H5 s5 R5 q5 => ⟨F5, ε5, s4'.trans s5, R5, q5⟩, fun F5 ε5 σ5 H5 v x s5 R5 ok5 q5 => ?_, fun F5 ε5 σ5 H5 s5 R5 q5 => ?_, fun F5 ε5 σ5 H5 s5 R5 q5 => ⟨F5, ε5, s4'.trans s5, R5, q5⟩⟩
    · exact R5.unl lx (s4'.trans s5) hA fun H6 R6 kp => r F5 ε5 σ5 H6 v x (s.trans (s4'.trans s5)) R6 (ok5.unl lx kp) q5
    · exact R5.unl lx (s4'.trans s5) hA fun H6 R6 _ => n F5 ε5 σ5 H6 (s.trans (s4'.trans s5)) R6 q5
  · exact R2.unl lx s2 hA fun H3 R3 _ => n F2 ε2 σ2 H3 (s.trans s2) R3 (fin ε2 i2)⟩
end
end Sv
namespace Sv
open PySem PySem.Spec PyProof.Rows L2
variable [Tb : Tbs]
section
variable {A : Anc} {X : Cx} {L L' : Lk} {F F' H : Hp} {ε : DEnv} {σ : L2.St} {e : Expr} {st : Stmt}
/-! ### comprehensions -/
def wipeS (ε : DEnv) : List Nat → DEnv
  | [] => ε
  | v :: vs => (wipeS ε vs).set v .un
theorem Rep.wipe (R : Rep A L F ε σ H) : ∀ vs : List Nat, Rep A L F (wipeS ε vs) (L2.wipe σ vs) H
  | [] => R
  | v :: vs => (R.wipe vs).weak v (by show ((L2.wipe σ vs).set v none).length = _; rw [List.length_set]) fun j hj => by show ((L2.wipe σ vs).set v none)[j]? = _; rw [List.getElem?_set_ne (Ne.symm hj)]
theorem wipeS_un : ∀ (vs : List Nat) (ε : DEnv), ∀ v ∈ vs, ∀ s, (wipeS ε vs)[v]? = some s → s = .un
  | [], _, v, h, _, _ => nomatch h
  | w :: vs, ε, v, h, s, e => by
    have e : ((wipeS ε vs).set w .un)[v]? = some s := e
    by_cases hv : w = v
    · subst hv
      rw [List.getElem?_set] at e
      rw [if_pos rfl] at e
      by_cases hl : w < (wipeS ε vs).length
      · rw [if_pos hl] at e
        exact (Option.some.inj e).symm
      · rw [if_neg hl] at e
        cases e
    · rw [List.getElem?_set_ne hv] at e
      exact wipeS_un vs ε v ((List.mem_cons.mp h).resolve_left fun z => hv z.symm) s e
theorem Rep.unwipe {vs : List Nat} (R : Rep A L F ε (L2.wipe σ vs) H) (h : ∀ v ∈ vs, ∀ s, ε[v]? = some s → s = .un) : Rep A L F ε σ H := by
  refine ⟨by rw [R.len, wipe_len], R.low, fun i s e => ?_, R.off, R.dis, R.keep, R.newF, R.newO, R.lk, R.pgs, R.pup, R.hid, R.hds, R.tab, R.nw⟩
  by_cases hi : i ∈ vs
  · rw [h i hi s e]
    trivial
  · have ok := R.val i s e
    rw [wipe_get, if_neg fun z => hi z.1] at ok
    exact ok
/-! a cell set aside -/
def updX (x : Addr → Option HO) (d : Addr) (o : HO) : Addr → Option HO := fun b => if b = d then some o else x b
theorem updX_same {x : Addr → Option HO} {d : Addr} {o : HO} : updX x d o d = some o := by unfold updX; rw [if_pos rfl]
theorem updX_ne {x : Addr → Option HO} {d b : Addr} {o : HO} (h : b ≠ d) : updX x d o b = x b := by unfold updX; rw [if_neg h]
theorem Rep.hide (R : Rep A L F ε σ H) {d : Addr} {o : HO} (w : Own A L F ε d) (h : H d = some o) (nt : Mtb o) : Rep A ⟨L.l, updX L.x d o⟩ F ε σ H := by
  refine ⟨R.len, R.low, R.val, R.off, R.dis, R.keep, R.newF, R.newO, R.lk, R.pgs, R.pup, fun a u e => ?_, fun i s a e m => ?_, R.tab, R.nw⟩
  · by_cases ha : a = d
    · subst ha
      have e : updX L.x a o a = some u := e
      rw [updX_same] at e
      cases e
      exact ⟨h, w.nf, w.nh, w.np, nt.nimm, nt.noT⟩
    · exact R.hid a u ((updX_ne ha).symm.trans e)
  · exact (updX_ne fun (z : a = d) => w.ns i s e (z ▸ m)).trans (R.hds i s a e m)
theorem Rep.hset {l : Addr → Option Obj} {x : Addr → Option HO} {d : Addr} {o o' : HO} (R : Rep A ⟨l, updX x d o⟩ F ε σ H) (nt : Mtb o') : Rep A ⟨l, updX x d o'⟩ F ε σ (upd H d o') := by
  obtain ⟨hd, hf, hA, hp, ni, no⟩ := R.hid d o updX_same
  have wo : Wr o := by cases o <;> first | exact True.intro | exact no.elim | exact (ni True.intro).elim
  have nm : ∀ (i : Nat) (s : Sl), ε[i]? = some s → d ∉ adr s := fun i s e m => by
    have := R.hds i s d e m
    have := (updX_same (x := x) (d := d) (o := o)).symm.trans this
    cases this
  refine ⟨R.len, R.low.off hf, fun i s e => (R.val i s e).keep fun a m u hu => ?_, fun i s a e m => ?_, R.dis, fun b u np e n k => ?_, R.newF, R.newO, R.lk, fun b hb => ?_, R.pup, fun a u e => ?_, fun i s a e m => ?_, R.tab.write hd wo, R.nw.write hd no⟩
  · rw [upd_ne fun (z : a = d) => nm i s e (z ▸ m)]
    exact hu
  · obtain ⟨h1, u, h2⟩ := R.off i s a e m
    exact ⟨h1, u, by rw [upd_ne fun (z : a = d) => nm i s e (z ▸ m)]; exact h2⟩
  · rw [upd_ne fun (z : b = d) => by rw [z, hA] at e; cases e]
    exact R.keep b u np e n k
  · obtain ⟨u, hu⟩ := R.pgs b hb
    exact ⟨u, by rw [upd_ne fun (z : b = d) => hp (z ▸ hb)]; exact hu⟩
  · by_cases ha : a = d
    · subst ha
      have e : updX x a o' a = some u := e
      rw [updX_same] at e
      cases e
      exact ⟨upd_same, hf, hA, hp, nt.nimm, nt.noT⟩
    · obtain ⟨h1, h2⟩ := R.hid a u ((updX_ne ha).trans ((updX_ne (o := o') ha).symm.trans e))
      exact ⟨by rw [upd_ne ha]; exact h1, h2⟩
  · have na : a ≠ d := fun z => nm i s e (z ▸ m)
    exact (updX_ne na).trans ((updX_ne na).symm.trans (R.hds i s a e m))
theorem Rep.unhide {d : Addr} {o : HO} (R : Rep A ⟨L.l, updX L.x d o⟩ F ε σ H) (hx : L.x d = none) : Rep A L F ε σ H ∧ Own A L F ε d ∧ H d = some o := by
  obtain ⟨hd, hf, hA, hp, _⟩ := R.hid d o updX_same
  have nm : ∀ (i : Nat) (s : Sl), ε[i]? = some s → d ∉ adr s := fun i s e m => by
    have := R.hds i s d e m
    have := (updX_same (x := L.x) (d := d) (o := o)).symm.trans this
    cases this
  refine ⟨⟨R.len, R.low, R.val, R.off, R.dis, R.keep, R.newF, R.newO, R.lk, R.pgs, R.pup, fun a u e => ?_, fun i s a e m => ?_, R.tab, R.nw⟩, ⟨hf, hA, hp, hx, nm⟩, hd⟩
  · have na : a ≠ d := fun z => by rw [z, hx] at e; cases e
    exact R.hid a u ((updX_ne na).trans e)
  · have na : a ≠ d := fun z => nm i s e (z ▸ m)
    exact (updX_ne na).symm.trans (R.hds i s a e m)
theorem wipe_wipe {vs : List Nat} : L2.wipe (L2.wipe σ vs) vs = L2.wipe σ vs := wipe_ext (wipe_len vs σ) fun j hj => by rw [wipe_get, if_neg fun z => hj z.1]
/-! tests of a comprehension -/
def gYes : GT := fun ε P => P ε true
theorem _root_.L2.PTs.weak {X : Cx} {ifs : List Expr} {t t' : TT} (h : PTs X ifs t) (w : ∀ σ H Q, t' σ H Q → t σ H Q) : PTs X ifs t' := ⟨fun pins s σ H Q I q => h.run pins s σ H Q I (w _ _ _ q)⟩
theorem xts_nil : PTs X [] (tT A gYes) := pts_nil.weak fun σ H Q ⟨L, F, ε, P, R, hg, k⟩ => k F ε H true (Same.refl F) R hg
/-! [e for x in xs if t] -/
def gLc (vs : List Nat) (gi : GI) (h : HG) (gt : GT) (ge : GE) : GR := fun ε P => gi ε fun ε1 ds => ∃ I : Nat → DEnv → List Dt → Prop, I 0 (wipeS ε1 vs) [] ∧
  (∀ i d ε2 rs, ds[i]? = some d → I i ε2 rs → h d ε2 fun ε3 => gt ε3 fun ε4 b => if b = true then ge ε4 fun ε5 r => rs.length < 100000 ∧ I (i + 1) (wipeS ε5 vs) (rs ++ [r]) else I (i + 1) (wipeS ε4 vs) rs) ∧
  ∀ ε2 rs, I ds.length ε2 rs → P ε2 (.ol rs)
theorem lc_weak {ts vs : List Nat} {gi : GI} {h : HG} {gt : GT} {ge : GE} (hts : ∀ t ∈ ts, t ∈ vs) : ∀ σ H Q, tR A (gLc vs gi h gt ge) σ H Q → tLc (tI A X gi) (tG A ts h) (tT A gt) (tE A ge) vs σ H fun v H' => Unl X (Q v) H' := fun σ H Q ⟨L, F, ε, P, R, hg, k⟩ => ⟨L, F, ε, _, R, hg, fun F' ε' H' L' J ds s lx R' hJ ⟨I, i0, turn, fin⟩ D hD => by
  have hA : ∀ d, L.l d = none → A.L d = none := fun d hd => R.ALn hd
  have R1 := ((R'.newOff (.lst []) hD).hide ⟨R'.Fn hD, R'.fresh hD, R'.npg hD, R'.xn hD, R'.offn hD⟩ upd_same True.intro).wipe vs
  have hx := R'.xn hD
  refine lc_it hJ (fun i H2 => ∃ F2 ε2 rs us, Same F' F2 ∧ Rep A ⟨L'.l, updX L'.x D (.lst us)⟩ F2 ε2 (L2.wipe σ vs) H2 ∧ IsL A.K F2 us rs ∧ I i ε2 rs ∧ ∀ v ∈ vs, ∀ s, ε2[v]? = some s → s = .un)
    ⟨F', _, [], [], Same.refl F', R1, .nil, i0, wipeS_un vs ε'⟩ (fun i H2 _ ⟨F2, _, _, _, s2, R2, _⟩ => ⟨F2, s2, R2.low⟩) (fun i x H2 H3 hi ⟨F2, ε2, rs, us, s2, R2, ir, i2, un⟩ ⟨d, hd, y⟩ => ?_) (fun H2 ⟨F2, ε2, rs, us, s2, R2, ir, i2, un⟩ => ?_)
  · obtain ⟨F3, s3, R3, i3⟩ := y _ F2 ε2 _ s2 R2
    refine ⟨⟨L'.l, updX L'.x D (.lst us)⟩, F3, ε2, _, d, R3, i3, turn i d ε2 rs hd i2, fun F4 ε4 σ4 H4 R4 s4 w4 q4 => ⟨w4 vs hts |>.trans ?_, ⟨L'.l, updX L'.x D (.lst us)⟩, F4, ε4, _, R4, q4, fun F5 ε5 H5 b s5 R5 q5 => ?_⟩⟩
    · exact wipe_wipe
    · have s5' : Same F' F5 := ((s2.trans s3).trans s4).trans s5
      have eσ : L2.wipe σ4 vs = L2.wipe σ vs := (w4 vs hts).trans wipe_wipe
      cases b with
      | true =>
        refine ⟨⟨L'.l, updX L'.x D (.lst us)⟩, F5, ε5, _, R5, q5, fun F6 ε6 H6 v r s6 R6 i6 ⟨sm, q6⟩ => ?_⟩
        obtain ⟨hd6, _⟩ := R6.hid D _ updX_same
        have ir6 := ir.mono (((s3.trans s4).trans s5).trans s6)
        have R7 := (R6.hset (o' := .lst (us ++ [v])) True.intro).wipe vs
        rw [eσ] at R7
        exact ⟨us, hd6, by rw [ir6.length]; exact small5 sm, F6, _, rs ++ [r], us ++ [v], s5'.trans s6, R7, ir6.snoc i6, q6, wipeS_un vs ε6⟩
      | false =>
        have R7 := R5.wipe vs
        rw [eσ] at R7
        exact ⟨F5, _, rs, us, s5', R7, ir.mono ((s3.trans s4).trans s5), q5, wipeS_un vs ε5⟩
  · obtain ⟨R3, w3, hd3⟩ := (R2.unwipe un).unhide hx
    exact R3.unl lx s2 hA fun H4 R4 kp => k F2 ε2 H4 _ (.ol rs) (s.trans s2) R4 (ROk.unl (L' := L') lx kp ⟨D, us, rfl, w3, hd3, ir⟩) (fin ε2 rs i2)⟩
theorem xr_lc {ts vs : List Nat} {gi : GI} {h : HG} {gt : GT} {ge : GE} (hts : ∀ t ∈ ts, t ∈ vs) (hp : PE X e (tLc (tI A X gi) (tG A ts h) (tT A gt) (tE A ge) vs)) : XR A X e (gLc vs gi h gt ge) := (pe_gu hp).weak (lc_weak hts)
theorem xs_setLc {i : Nat} {ts vs : List Nat} {gi : GI} {h : HG} {gt : GT} {ge : GE} (hts : ∀ t ∈ ts, t ∈ vs) (hp : PS X st (tAsg (tLc (tI A X gi) (tG A ts h) (tT A gt) (tE A ge) vs) (gName i))) : XS A X st (kSet i (gLc vs gi h gt ge)) :=
  (ps_gu hp).weak fun D σ H ⟨L, F, ε, E, R, hg, n, r, b, c⟩ => lc_weak hts σ H (fun v H' => D.nx (σ.set i (some v)) H') ⟨L, F, ε, _, R, hg, fun F' ε' H' v x s R' ok p => by
    obtain ⟨F2, ε2, s2, R2, p2⟩ := R'.putR ok p
    exact n F2 ε2 _ H' (s.trans s2) R2 p2⟩
/-! {k: v for x in xs if t} -/
end
end Sv
namespace Sv
open PySem PySem.Spec PyProof.Rows L2
open C8 (Cal Mak Met cal0 mak0 met0 pe_c pe_mk pe_mt pe_mt0 fnBody fnArgs fnScope scC fnScope_by pe_gc InsC call_isC)
variable [Tb : Tbs]
/-! ### a def, by its body over data -/
def startD (N : List Str) (ds : List Dt) : DEnv := ds.map .fz ++ List.replicate (N.length - ds.length) .un
section
variable {P : Program} {w : World} {K : PySem.W.Frag} {mg : Str → Option Value} {base : Heap}
theorem rep_vals {A : Anc} {F H : Hp} {vs : List V} {ds : List Dt} (is : IsL A.K F vs ds) (n m : Nat) (i : Nat) (s : Sl) (e : (ds.map Sl.fz ++ List.replicate n .un)[i]? = some s) : SlOk A.K F H s ((vs.map some ++ List.replicate m none)[i]?).join := by
  by_cases hi : i < ds.length
  · rw [List.getElem?_append_left (by rw [List.length_map]; exact hi), List.getElem?_map, List.getElem?_eq_getElem hi] at e
    cases e
    obtain ⟨v, hv, iv⟩ := is.at (List.getElem?_eq_getElem hi)
    refine ⟨v, ?_, iv⟩
    rw [List.getElem?_append_left (by rw [List.length_map, is.length]; exact hi), List.getElem?_map, hv]
    rfl
  · rw [List.getElem?_append_right (by rw [List.length_map]; omega)] at e
    obtain ⟨_, z⟩ := List.getElem?_eq_some_iff.mp e
    rw [List.getElem_replicate] at z
    rw [← z]
    trivial
theorem rep_adr {ds : List Dt} {n i : Nat} {s : Sl} (e : (ds.map Sl.fz ++ List.replicate n .un)[i]? = some s) : adr s = [] := by
  have m := List.mem_of_getElem? e
  rcases List.mem_append.mp m with m | m
  · obtain ⟨d, _, rfl⟩ := List.mem_map.mp m
    rfl
  · rw [(List.mem_replicate.mp m).2]
    rfl
theorem rep_start {L : Addr → Option Obj} {F H : Hp} {vs : List V} {ds : List Dt} (N : List Str) (lo : LowT L F H) (is : IsL K F vs ds) : Rep ⟨K, H, F, L, []⟩ ⟨L, fun _ => none⟩ F (startD N ds) (L2.start N vs) H := by
  have na : ∀ (i : Nat) (s : Sl) (a : Addr), (startD N ds)[i]? = some s → a ∉ adr s := fun i s a e m => by rw [rep_adr e] at m; cases m
  refine ⟨?_, lo, fun i s e => rep_vals (A := ⟨K, H, F, L, []⟩) is _ _ i s e, fun i s a e m => (na i s a e m).elim, fun i j s t a e _ m _ => (na i s a e m).elim, fun b o _ e _ _ => e, fun b o e => .inl e, fun i s a e m => (na i s a e m).elim, fun b ob e => e, fun b hb => (nomatch hb), fun i p c g n e => (na i _ p e (by simp [adr])).elim, fun a o e => (nomatch e), fun i s a e m => (na i s a e m).elim, lo.tk, .refl H⟩
  unfold startD L2.start
  rw [List.length_append, List.length_append, List.length_map, List.length_map, List.length_replicate, List.length_replicate, is.length]
theorem left_of {A : Anc} {L : Lk} {F' : Hp} {ε : DEnv} {σ : L2.St} {H' : Hp} (R : Rep A L F' ε σ H') (s : Same A.F F') (hp : A.pg = []) (hl : L.l = A.L) : Left A.L A.F A.H F' H' := by
  have kp : Sam A.H H' := ⟨fun b o e n => R.keep b o (by rw [hp]; exact List.not_mem_nil) e n (by rw [hl]), fun _ => R.tab, R.nw⟩
  refine ⟨s, kp, by rw [← hl]; exact R.low, fun b o e => ?_⟩
  rcases R.newF b o e with z | z | im
  · exact .inl z
  · exact .inr (.inl z)
  · cases q : A.H b with
    | none => exact .inr (.inl rfl)
    | some u =>
      refine .inr (.inr ⟨im, u, rfl, fun n => ?_⟩)
      have h := R.low.nd e fun z => by cases o <;> first | exact z.elim | exact im.elim
      rw [kp.e b u q n] at h
      exact Option.some.inj h
theorem rnew_of {A : Anc} {L : Lk} {F' : Hp} {ε : DEnv} {H' : Hp} {v : V} {r : Res} (ok : ROk A L F' ε H' v r) : RNew A.K F' A.H H' v r := by
  cases r with
  | fz d => exact ok
  | ol xs =>
    obtain ⟨a, vs, rfl, w, ha, is⟩ := ok
    exact ⟨a, vs, rfl, w.nf, w.nh, ha, is⟩
  | od T kvs =>
    obtain ⟨a, rfl, w, ha⟩ := ok
    exact ⟨a, rfl, w.nf, w.nh, ha⟩
  | tp xs ds =>
    obtain ⟨p, a, us, vs, rfl, hp, w, ha, r, r'⟩ := ok
    exact ⟨p, a, us, vs, rfl, hp, w.nf, w.nh, ha, r, r'⟩
theorem body_of {N : List Str} {X : Cx} {body : List Stmt} {fs : FS} {vs : List V} {H : Hp} {Q : VK} {E : XK} (h : spD K fs vs H Q E) (hb : ∀ (A : Anc) ds (Pq : Res → Prop), A.K = K → fs ds Pq → ∃ kb, XSs A X body kb ∧ kb { nx := fun _ => Pq (.fz .non), rt := fun _ r => Pq r } (startD N ds)) :
    ∃ t, PSs X body t ∧ t { nx := fun _ H' => Q .non H', rt := Q } (L2.start N vs) H := by
  obtain ⟨L, F, ds, Pq, lo, is, hf, k⟩ := h
  obtain ⟨kb, h1, h2⟩ := hb ⟨K, H, F, L, []⟩ ds Pq rfl hf
  refine ⟨_, h1, ⟨L, fun _ => none⟩, F, _, _, rep_start N lo is, h2, fun F' ε' σ' H' s R p => ?_, fun F' ε' σ' H' v r s R ok p => ?_, fun _ _ _ _ _ _ z => z.elim, fun _ _ _ _ _ _ z => z.elim⟩
  · exact k F' H' .non (.fz .non) (left_of R s rfl rfl) .non p
  · exact k F' H' v r (left_of R s rfl rfl) (rnew_of ok) p
theorem spD_len {fs : FS} {n : Nat} (h : ∀ ds Pq, fs ds Pq → ds.length = n) : ∀ vs H Q E, spD K fs vs H Q E → vs.length = n := fun vs H Q E ⟨L, F, ds, Pq, lo, is, hf, k⟩ => by rw [is.length, h ds Pq hf]
theorem Dn.dcal {x : Str} {st : Stmt} {N ps : List Str} {k : Nat} {fs : FS} (D : Dn K mg x st ps) (S : FnScope N ps (fnScope st)) (len : ∀ ds Pq, fs ds Pq → ds.length = ps.length)
    (hb : ∀ (f : Addr) (cdv : Value) (A' : Around) (outer : List Env) (s : Shared) (H : Hp) (E : XK), Room k (A'.deeper (envOfC x (fnScope st) s.heap.objs.size f cdv)) → ∀ (A : Anc) ds (Pq : Res → Prop), A.K = K → fs ds Pq →
      ∃ kb, XSs A (cxOf C8.CX0 P w K mg base N x (fnScope st) f cdv A' outer s H E).nox (fnBody st) kb ∧ kb { nx := fun _ => Pq (.fz .non), rt := fun _ r => Pq r } (startD N ds)) : Cal P w K mg base (k + 1) x (spD K fs) [] :=
  D.cal S (spD_len len) fun f cdv A' outer s H vs Q E hr h => body_of h (hb f cdv A' outer s H E hr)
/-! with a purse -/
end
end Sv
namespace Sv
open PySem PySem.Spec PyProof.Rows L2
variable [Tb : Tbs]
section
variable {A : Anc} {X : Cx} {L L' : Lk} {F F' H : Hp} {ε : DEnv} {σ : L2.St} {e : Expr} {st : Stmt}
/-! ### built-in calls, over data -/
/-- a call of frozen things whose answer is flat -/
def gFn (f : List Dt → Dt → Prop) (ga : GA) : GE := fun ε P => ga ε fun ε1 ds => ∃ z, f ds z ∧ P ε1 z
theorem xe_fn {r : List V → Hp → VK → Prop} {f : List Dt → Dt → Prop} {ga : GA} (hf : ∀ F H vs ds z Q, (∀ a o, F a = some o → ¬ DicO o → H a = some o) → IsL A.K F vs ds → f ds z → (∀ w, Is A.K F w z → Q w H) → r vs H Q) (h : PE X e (tCB r (tAs A ga))) : XE A X e (gFn f ga) :=
  h.weak fun σ H Q ⟨L, F, ε, P, R, hg, k⟩ => ⟨L, F, ε, _, R, hg, fun F1 ε1 H1 vs ds s1 R1 i1 ⟨z, hz, p⟩ => hf F1 H1 vs ds z Q (fun a o ha nd => R1.low.nd ha nd) i1 hz fun w iw => k F1 ε1 H1 w z s1 R1 iw p⟩
theorem xr_fnL {r : List V → Hp → VK → Prop} {f : List Dt → List Dt → Prop} {pre : List Dt → Prop} {ga : GA}
    (hf : ∀ F H vs ds Q, (∀ a o, F a = some o → ¬ DicO o → H a = some o) → IsL A.K F vs ds → pre ds → (∀ zs us p, f ds zs → IsL A.K F us zs → H p = none → Q (.ref p) (upd H p (.lst us))) → r vs H Q) (h : PE X e (tCB r (tAs A ga))) :
    XR A X e (fun ε P => ga ε fun ε1 ds => pre ds ∧ ∀ zs, f ds zs → P ε1 (.ol zs)) :=
  h.weak fun σ H Q ⟨L, F, ε, P, R, hg, k⟩ => ⟨L, F, ε, _, R, hg, fun F1 ε1 H1 vs ds s1 R1 i1 ⟨hp, q⟩ => hf F1 H1 vs ds Q (fun a o ha nd => R1.low.nd ha nd) i1 hp fun zs us p hz iz np =>
    k F1 ε1 _ (.ref p) (.ol zs) s1 (R1.newOff _ np) ⟨p, us, rfl, R1.own np, upd_same, iz⟩ (q zs hz)⟩
theorem isL1 {K : PySem.W.Frag} {vs : List V} {d : Dt} (h : IsL K F vs [d]) : ∃ v, vs = [v] ∧ Is K F v d := by
  cases h with
  | cons h r => cases r; exact ⟨_, rfl, h⟩
theorem isL2 {K : PySem.W.Frag} {vs : List V} {d d' : Dt} (h : IsL K F vs [d, d']) : ∃ v v', vs = [v, v'] ∧ Is K F v d ∧ Is K F v' d' := by
  cases h with
  | cons h r => obtain ⟨v, rfl, h2⟩ := isL1 r; exact ⟨_, _, rfl, h, h2⟩
theorem seq_at {K : PySem.W.Frag} {v : V} {x : Dt} {xs : List Dt} (lo : ∀ a o, F a = some o → ¬ DicO o → H a = some o) (i : Is K F v x) (h : itemsD x = some xs) : ∃ a vs, v = .ref a ∧ (SqL K H a vs ∨ SqT K H a vs) ∧ IsL K F vs xs := by
  cases x <;> cases h
  · obtain ⟨a, vs, e, h, r⟩ := i.tup_inv
    exact ⟨a, vs, e, .inr (SqT.of (lo _ _ h fun z => z)), r⟩
  · obtain ⟨a, vs, e, h, r⟩ := i.tupc_inv
    exact ⟨a, vs, e, .inr (h H), r⟩
  · obtain ⟨a, vs, e, h, r⟩ := i.lst_inv
    exact ⟨a, vs, e, .inl (SqL.of (lo _ _ h fun z => z)), r⟩
/-- list(x) -/
theorem xr_list {ga : GA} (h : PE X e (tCB (fun xs H Q => ∃ p ys, xs = [.ref p] ∧ (SqL X.K H p ys ∨ SqT X.K H p ys) ∧ ∀ l, H l = none → Q (.ref l) (upd H l (.lst ys))) (tAs A ga))) (hK : X.K = A.K := by rfl) :
    XR A X e (fun ε P => ga ε fun ε1 ds => (∃ x xs, ds = [x] ∧ itemsD x = some xs) ∧ ∀ zs, (∃ x, ds = [x] ∧ itemsD x = some zs) → P ε1 (.ol zs)) :=
  xr_fnL (f := fun ds zs => ∃ x, ds = [x] ∧ itemsD x = some zs) (pre := fun ds => ∃ x xs, ds = [x] ∧ itemsD x = some xs) (fun F H vs ds Q lo is ⟨x, xs, ed, ex⟩ k => by
    subst ed
    obtain ⟨v, rfl, iv⟩ := isL1 is
    obtain ⟨a, us, rfl, hs, r⟩ := seq_at lo iv ex
    exact ⟨a, us, rfl, by rw [hK]; exact hs, fun l nl => k xs us l ⟨x, rfl, ex⟩ r nl⟩) h
/-- tuple(x) of a list: a new tuple -/
def gTupOf (ga : GA) : GE := fun ε P => ga ε fun ε1 ds => ∃ x xs, ds = [x] ∧ itemsD x = some xs ∧ (∀ ys, x ≠ .tupc ys) ∧ P ε1 (.tup xs)
theorem xe_tupOf {ga : GA} (h : PE X e (tCB (fun xs H Q => ∃ p ys, xs = [.ref p] ∧ ((SqL X.K H p ys ∧ ∀ l, H l = none → Q (.ref l) (upd H l (.tup ys))) ∨ (SqT X.K H p ys ∧ Q (.ref p) H))) (tAs A ga))) (hK : X.K = A.K := by rfl) : XE A X e (gTupOf ga) :=
  h.weak fun σ H Q ⟨L, F, ε, P, R, hg, k⟩ => ⟨L, F, ε, _, R, hg, fun F1 ε1 H1 vs ds s1 R1 i1 ⟨x, xs, ed, ex, nc, p⟩ => by
    subst ed
    obtain ⟨v, rfl, iv⟩ := isL1 i1
    cases x <;> cases ex
    · obtain ⟨a, us, rfl, ha, r⟩ := iv.tup_inv
      exact ⟨a, us, rfl, .inr ⟨by rw [hK]; exact SqT.of (R1.low.nd ha fun z => z), k F1 ε1 H1 _ _ s1 R1 (.tup ha r) p⟩⟩
    · exact (nc _ rfl).elim
    · obtain ⟨a, us, rfl, ha, r⟩ := iv.lst_inv
      exact ⟨a, us, rfl, .inl ⟨by rw [hK]; exact SqL.of (R1.low.nd ha fun z => z), fun l nl => k _ ε1 _ (.ref l) (.tup xs) (s1.trans (same_of (R1.Fn nl))) (R1.new _ nl) (.tup upd_same (r.mono (same_of (R1.Fn nl)))) p⟩⟩⟩
/-- int(x) of an int or a bool; abs; min, max of two ints -/
def fInt1 : List Dt → Dt → Prop := fun ds z => (∃ i, ds = [.int i] ∧ z = .int i) ∨ ∃ b : Bool, ds = [.bl b] ∧ z = .int (if b then 1 else 0)
theorem xe_int1 {ga : GA} (h : PE X e (tCB (fun xs H Q => (∃ i, xs = [V.int i] ∧ Q (.int i) H) ∨ ∃ k : Bool, xs = [V.bl k] ∧ Q (.int (if k then 1 else 0)) H) (tAs A ga))) : XE A X e (gFn fInt1 ga) := xe_fn (fun F H vs ds z Q _ is hz k => by
  rcases hz with ⟨i, ed, ez⟩ | ⟨b, ed, ez⟩
  · subst ed ez
    obtain ⟨v, rfl, iv⟩ := isL1 is
    cases iv
    exact .inl ⟨i, rfl, k _ (.int i)⟩
  · subst ed ez
    obtain ⟨v, rfl, iv⟩ := isL1 is
    cases iv
    exact .inr ⟨b, rfl, k _ (.int _)⟩) h
def fAbs : List Dt → Dt → Prop := fun ds z => ∃ i : Int, ds = [.int i] ∧ z = .int (if i < 0 then -i else i)
theorem xe_abs {ga : GA} (h : PE X e (tCB (fun xs H Q => ∃ i : Int, xs = [V.int i] ∧ Q (.int (if i < 0 then -i else i)) H) (tAs A ga))) : XE A X e (gFn fAbs ga) := xe_fn (fun F H vs ds z Q _ is ⟨i, ed, ez⟩ k => by
  subst ed ez
  obtain ⟨v, rfl, iv⟩ := isL1 is
  cases iv
  exact ⟨i, rfl, k _ (.int _)⟩) h
def fMin2 : List Dt → Dt → Prop := fun ds z => ∃ i j : Int, ds = [.int i, .int j] ∧ z = .int (if j < i then j else i)
theorem xe_min2 {ga : GA} (h : PE X e (tCB (fun xs H Q => ∃ i j : Int, xs = [V.int i, V.int j] ∧ Q (.int (if j < i then j else i)) H) (tAs A ga))) : XE A X e (gFn fMin2 ga) := xe_fn (fun F H vs ds z Q _ is ⟨i, j, ed, ez⟩ k => by
  subst ed ez
  obtain ⟨v, v', rfl, iv, iv'⟩ := isL2 is
  cases iv
  cases iv'
  exact ⟨i, j, rfl, k _ (.int _)⟩) h
/-- all, any of a list of bools -/
def fAll : List Dt → Dt → Prop := fun ds z => ∃ bs : List Bool, ds = [.lst (bs.map .bl)] ∧ z = .bl (bs.all id)
theorem xe_all {ga : GA} (h : PE X e (tCB (rAll X.K) (tAs A ga))) (hK : X.K = A.K := by rfl) : XE A X e (gFn fAll ga) := xe_fn (fun F H vs ds z Q lo is ⟨bs, ed, ez⟩ k => by
  subst ed ez
  obtain ⟨v, rfl, iv⟩ := isL1 is
  obtain ⟨a, us, rfl, ha, r⟩ := iv.lst_inv
  rw [r.bls_inv] at ha
  exact ⟨a, bs, rfl, by rw [hK]; exact SqL.of (lo _ _ ha fun z => z), k _ (.bl _)⟩) h
/-! list + list, slices -/
def gCat (ga gb : GE) : GR := fun ε P => ga ε fun ε1 x => gb ε1 fun ε2 y => ∃ xs ys, x = .lst xs ∧ y = .lst ys ∧ xs.length + ys.length ≤ 100000 ∧ P ε2 (.ol (xs ++ ys))
theorem xr_cat {ga gb : GE} (h : PE X e (tOp rCat (tE A ga) (tE A gb))) : XR A X e (gCat ga gb) := h.weak fun σ H Q ⟨L, F, ε, P, R, hg, k⟩ => ⟨L, F, ε, _, R, hg, fun F1 ε1 H1 v x s1 R1 i1 q1 => ⟨L, F1, ε1, _, R1, q1, fun F2 ε2 H2 u y s2 R2 i2 ⟨xs, ys, ex, ey, l, p⟩ => by
  subst ex ey
  obtain ⟨a, us, rfl, ha, r⟩ := i1.lst_inv
  obtain ⟨b, ws, rfl, hb, r'⟩ := i2.lst_inv
  refine ⟨a, b, us, ws, rfl, rfl, R2.low.nd (s2 _ _ ha) fun z => z, R2.low.nd hb fun z => z, by rw [r.length, r'.length]; exact Nat.le_trans l (show 100000 ≤ sizeLine by decide), fun q nq => ?_⟩
  exact k F2 ε2 _ (.ref q) (.ol (xs ++ ys)) (s1.trans s2) (R2.newOff _ nq) ⟨q, _, rfl, R2.own nq, upd_same, (r.mono s2).app r'⟩ p⟩⟩
def cutD (xs : List Dt) (lo hi : Option Int) : List Dt := (xs.drop (HT.sIx xs.length 0 lo)).take (HT.sIx xs.length xs.length hi - HT.sIx xs.length 0 lo)
theorem IsL.cut {K : PySem.W.Frag} {vs : List V} {xs : List Dt} (r : IsL K F vs xs) (lo hi : Option Int) : IsL K F (cutV vs lo hi) (cutD xs lo hi) := by
  unfold cutV cutD
  rw [r.length]
  exact (r.drop _).take _
/-- the bounds of a slice: none, or an int -/
abbrev GO := DEnv → (DEnv → Option Int → Prop) → Prop
def tO (A : Anc) (g : GO) : L2.TO := fun σ H Q => ∃ L F ε P, Rep A L F ε σ H ∧ g ε P ∧ ∀ F' ε' H' o, Same F F' → Rep A L F' ε' σ H' → P ε' o → Q o H'
abbrev XO (A : Anc) (X : Cx) (e : Option Expr) (g : GO) : Prop := PO X e (tO A g)
theorem _root_.L2.PO.weak {e : Option Expr} {t t' : L2.TO} (h : PO X e t) (w : ∀ σ H Q, t' σ H Q → t σ H Q) : PO X e t' := ⟨fun pins s σ H Q I q => h.run pins s σ H Q I (w _ _ _ q)⟩
def gONo : GO := fun ε P => P ε none
def gOSome (g : GE) : GO := fun ε P => g ε fun ε1 d => ∃ i, d = .int i ∧ P ε1 (some i)
theorem xo_none : XO A X none gONo := po_none.weak fun σ H Q ⟨L, F, ε, P, R, hg, k⟩ => k F ε H none (Same.refl F) R hg
theorem xo_some {e : Expr} {g : GE} (h : XE A X e g) : XO A X (some e) (gOSome g) := (po_some h).weak fun σ H Q ⟨L, F, ε, P, R, hg, k⟩ => ⟨L, F, ε, _, R, hg, fun F1 ε1 H1 v d s1 R1 i1 ⟨i, ed, p⟩ => by
  subst ed
  cases i1
  exact ⟨i, rfl, k F1 ε1 H1 _ s1 R1 p⟩⟩
def gSlL (g : GE) (lo hi : GO) : GR := fun ε P => g ε fun ε1 x => lo ε1 fun ε2 l => hi ε2 fun ε3 u => ∃ xs, x = .lst xs ∧ P ε3 (.ol (cutD xs l u))
theorem xr_slL {g : GE} {lo hi : GO} (h : PE X e (L2.tSl (rSlL X.K) (tE A g) (tO A lo) (tO A hi))) (hK : X.K = A.K := by rfl) : XR A X e (gSlL g lo hi) := h.weak fun σ H Q ⟨L, F, ε, P, R, hg, k⟩ => ⟨L, F, ε, _, R, hg, fun F1 ε1 H1 v x s1 R1 i1 q1 => ⟨L, F1, ε1, _, R1, q1, fun F2 ε2 H2 l s2 R2 q2 => ⟨L, F2, ε2, _, R2, q2, fun F3 ε3 H3 u s3 R3 ⟨xs, ex, p⟩ => by
  subst ex
  obtain ⟨a, us, rfl, ha, r⟩ := i1.lst_inv
  have s := s2.trans s3
  refine ⟨a, us, rfl, by rw [hK]; exact SqL.of (R3.low.nd (s _ _ ha) fun z => z), fun q nq => ?_⟩
  exact k F3 ε3 _ (.ref q) (.ol _) (s1.trans s) (R3.newOff _ nq) ⟨q, _, rfl, R3.own nq, upd_same, (r.mono s).cut l u⟩ p⟩⟩⟩
/-! -x, truth, d.get(k, z) -/
def gNeg (g : GE) : GE := fun ε P => g ε fun ε1 d => ∃ i, d = .int i ∧ P ε1 (.int (-i))
theorem xe_neg {g : GE} (h : PE X e (tUn (rU fun i => .int (-i)) (tE A g))) : XE A X e (gNeg g) := h.weak fun σ H Q ⟨L, F, ε, P, R, hg, k⟩ => ⟨L, F, ε, _, R, hg, fun F1 ε1 H1 v d s1 R1 i1 ⟨i, ed, p⟩ => by
  subst ed
  cases i1
  exact ⟨i, rfl, k F1 ε1 H1 _ _ s1 R1 (.int _) p⟩⟩
/-! {k: v}, one pair, a flat key -/
end
end Sv
namespace Sv
open PySem PySem.Spec PyProof.Rows L2
variable [Tb : Tbs]
/-! ### tuples: slices, sums, multiples, over data -/
section
variable {A : Anc} {X : Cx} {L : Lk} {K : PySem.W.Frag} {F H : Hp} {e : Expr}
theorem IsL.rep {vs : List V} {ds : List Dt} (r : IsL K F vs ds) : ∀ n : Nat, IsL K F (List.replicate n vs).flatten (List.replicate n ds).flatten
  | 0 => .nil
  | n + 1 => by
    rw [List.replicate_succ, List.replicate_succ, List.flatten_cons, List.flatten_cons]
    exact r.app (r.rep n)
/-- x[i:j] of tuples -/
def gSlT (g : GE) (lo hi : GO) : GE := fun ε P => g ε fun ε1 x => lo ε1 fun ε2 l => hi ε2 fun ε3 u => ∃ xs, x = .tup xs ∧ P ε3 (.tup (cutD xs l u))
theorem xe_slT {g : GE} {lo hi : GO} (h : PE X e (L2.tSl (rSlA X.K) (tE A g) (tO A lo) (tO A hi))) (hK : X.K = A.K := by rfl) : XE A X e (gSlT g lo hi) := h.weak fun σ H Q ⟨L, F, ε, P, R, hg, k⟩ => ⟨L, F, ε, _, R, hg, fun F1 ε1 H1 v x s1 R1 i1 q1 => ⟨L, F1, ε1, _, R1, q1, fun F2 ε2 H2 l s2 R2 q2 => ⟨L, F2, ε2, _, R2, q2, fun F3 ε3 H3 u s3 R3 ⟨xs, ex, p⟩ => by
  subst ex
  obtain ⟨a, us, rfl, ha, r⟩ := i1.tup_inv
  have s := s2.trans s3
  refine ⟨a, us, rfl, by rw [hK]; exact SqT.of (R3.low.nd (s _ _ ha) fun z => z), fun ⟨z1, z2⟩ => ?_, fun _ q nq => ?_⟩
  · rw [r.length] at z1 z2
    have e : cutD xs l u = xs := by
      unfold cutD
      rw [z1, z2, List.drop_zero, Nat.sub_zero, List.take_length]
    rw [e] at p
    exact k F3 ε3 H3 _ _ (s1.trans s) R3 (i1.mono s) p
  · have sn := same_of (o := HO.tup (cutV us l u)) (R3.Fn nq)
    exact k _ ε3 _ (.ref q) (.tup _) ((s1.trans s).trans sn) (R3.new _ nq) (.tup upd_same (((r.mono s).mono sn).cut l u)) p⟩⟩⟩
end
end Sv
namespace Sv
open PySem PySem.Spec PyProof.Rows L2
variable [Tb : Tbs]
/-! ### min over like data -/
section
variable {prog : Program} {w : World} {A : Around} {R : Result → Shared → Prop} {I ax S : Addr} {items : Array Value} {bt : Nat → Nat → Bool}
def CmpH (A : Around) (I S : Addr) (items : Array Value) (bt : Nat → Nat → Bool) (h : Heap) : Prop := ∀ s' : Shared, (∀ b o, b ≠ I → b ≠ S → h.get? b = some o → s'.heap.get? b = some o) → ∀ i j vi vj, items[i]? = some vi → items[j]? = some vj → SeqAt.RcLt A s' vi vj (bt i j)
theorem CmpH.keep {h h' : Heap} (c : CmpH A I S items bt h) (k : ∀ b o, b ≠ I → b ≠ S → h.get? b = some o → h'.get? b = some o) : CmpH A I S items bt h' := fun s' k' => c s' fun b o b1 b2 e => k' b o b1 b2 (k b o b1 b2 e)
end
end Sv
namespace Sv
open PySem PySem.Spec PyProof.Rows L2
open NdefX (NTab TabN TabsN NF FnO CellsAt)
open LamX (CodeO ExtN TabB)
open C8 (Cal Mak Met cal0 mak0 met0 pe_c pe_mk pe_mt pe_mt0 fnBody fnArgs fnScope scC fnScope_by pe_gc InsC call_isC)
variable [Tb : Tbs]
/-! ### functions made within defs -/
/-! a frame with cells of its own and captured ones -/
/-! data in which no function stands -/
mutual
def nfD : Dt → Bool
  | .tup xs => nfL xs
  | .tupc xs => nfL xs
  | .lst xs => nfL xs
  | .dic _ kvs => nfP kvs
  | .ins _ fs => nfF fs
  | .fn _ _ => false
  | .non => true
  | .bl _ => true
  | .int _ => true
  | .str _ => true
  | .ty _ => true
def nfL : List Dt → Bool
  | [] => true
  | d :: ds => nfD d && nfL ds
def nfP : List (Dt × Dt) → Bool
  | [] => true
  | (k, d) :: ds => nfD d && nfP ds
def nfF : List (Str × Dt) → Bool
  | [] => true
  | (_, d) :: ds => nfD d && nfF ds
end
/-- F' bears what F bears but for the things told by their one object -/
def Nx (F F' : Hp) : Prop := ∀ a o, F a = some o → (∀ φ, o ≠ .ext φ) → F' a = some o
section
variable {K : PySem.W.Frag}
mutual
theorem nk_nf : ∀ (y : Dt) {k : NestedKey}, nkD y = some k → nfD y = true
  | .non, _, _ => rfl
  | .bl _, _, _ => rfl
  | .int _, _, _ => rfl
  | .str _, _, _ => rfl
  | .tup xs, _, e => by
    obtain ⟨ks, e2, _⟩ := Option.map_eq_some_iff.mp (show (nkL xs).map NestedKey.tup = some _ from e)
    exact nkL_nf xs e2
  | .ty _, _, e => nomatch e
  | .tupc _, _, e => nomatch e
  | .lst _, _, e => nomatch e
  | .dic _ _, _, e => nomatch e
  | .ins _ _, _, e => nomatch e
  | .fn _ _, _, e => nomatch e
theorem nkL_nf : ∀ (xs : List Dt) {ks : List NestedKey}, nkL xs = some ks → nfL xs = true
  | [], _, _ => rfl
  | x :: xs, _, e => by
    obtain ⟨k, js, e1, e2, _⟩ := nkL_cons e
    show (nfD x && nfL xs) = true
    rw [nk_nf x e1, nkL_nf xs e2]
    rfl
end
mutual
theorem Is.nx : ∀ {F F' : Hp} {v : V} {d : Dt}, Nx F F' → nfD d = true → Is K F v d → Is K F' v d
  | _, _, _, _, _, _, .non => .non
  | _, _, _, _, _, _, .bl b => .bl b
  | _, _, _, _, _, _, .int i => .int i
  | _, _, _, _, _, _, .str x => .str x
  | _, _, _, _, _, _, .ty n => .ty n
  | _, _, _, _, k, n, .tup h r => .tup (k _ _ h fun _ z => nomatch z) (r.nx k (by simpa [nfD] using n))
  | _, _, _, _, k, n, .tupc h r => .tupc h (r.nx k (by simpa [nfD] using n))
  | _, _, _, _, k, n, .lst h r => .lst (k _ _ h fun _ z => nomatch z) (r.nx k (by simpa [nfD] using n))
  | _, _, _, _, k, n, .dK h r => .dK (k _ _ h fun _ z => nomatch z) (r.nx k (by simpa [nfD] using n))
  | _, _, _, _, k, n, .dT h r => .dT (k _ _ h fun _ z => nomatch z) (r.nx k (by simpa [nfD] using n))
  | _, _, _, _, k, n, .dX h r => .dX (k _ _ h fun _ z => nomatch z) (r.nx k (by simpa [nfD] using n))
  | _, _, _, _, k, n, .ins h r => .ins (k _ _ h fun _ z => nomatch z) (r.nx k (by simpa [nfD] using n))
  | _, _, _, _, _, n, .fn _ _ _ _ _ => by simp [nfD] at n
theorem IsL.nx : ∀ {F F' : Hp} {v : List V} {d : List Dt}, Nx F F' → nfL d = true → IsL K F v d → IsL K F' v d
  | _, _, _, _, _, _, .nil => .nil
  | _, _, _, _, k, n, .cons h r => by
    simp only [nfL, Bool.and_eq_true] at n
    exact .cons (h.nx k n.1) (r.nx k n.2)
theorem IsK.nx : ∀ {F F' : Hp} {v : List (Key × V)} {d : List (Dt × Dt)}, Nx F F' → nfP d = true → IsK K F v d → IsK K F' v d
  | _, _, _, _, _, _, .nil => .nil
  | _, _, _, _, k, n, .cons h r => by
    simp only [nfP, Bool.and_eq_true] at n
    exact .cons (h.nx k n.1) (r.nx k n.2)
theorem IsT.nx : ∀ {F F' : Hp} {v : List (List Key × V)} {d : List (Dt × Dt)}, Nx F F' → nfP d = true → IsT K F v d → IsT K F' v d
  | _, _, _, _, _, _, .nil => .nil
  | _, _, _, _, k, n, .cons h r => by
    simp only [nfP, Bool.and_eq_true] at n
    exact .cons (h.nx k n.1) (r.nx k n.2)
theorem IsX.nx : ∀ {F F' : Hp} {v : List (NestedKey × Addr × V)} {d : List (Dt × Dt)}, Nx F F' → nfP d = true → IsX K F v d → IsX K F' v d
  | _, _, _, _, _, _, .nil => .nil
  | _, _, _, _, k, n, .cons hk dp hq h r => by
    simp only [nfP, Bool.and_eq_true] at n
    exact .cons hk dp (hq.nx k (nk_nf _ hk)) (h.nx k n.1) (r.nx k n.2)
theorem IsF.nx : ∀ {F F' : Hp} {v : List (Str × V)} {d : List (Str × Dt)}, Nx F F' → nfF d = true → IsF K F v d → IsF K F' v d
  | _, _, _, _, _, _, .nil => .nil
  | _, _, _, _, k, n, .cons h r => by
    simp only [nfF, Bool.and_eq_true] at n
    exact .cons (h.nx k n.1) (r.nx k n.2)
end
end
/-! cells told of, and told of no more -/
/-! ### a function made within a def, called from anywhere -/
/-- what calls of functions with this code and these captured data promise -/
structure CloOk (P : Program) (w : World) (K : PySem.W.Frag) (mg : Str → Option Value) (base : Heap) (k : Nat) (G : NF) (es : List Dt) (fs : FS) : Prop where
  run : ∀ (A : Around) (outer : List Env) (s : Shared) (H : Hp) (f : Addr) (us : List Value) (vs : List V) (Q : VK) (L : Addr → Option Obj) (F : Hp) (ds : List Dt) (Pq : Res → Prop), Room k A → Env0 P w K mg base A outer s H → LowT L F H → Is K F (.ref f) (.fn G es) → Vals vs us → IsL K F vs ds → nfL ds = true → fs ds Pq →
    (∀ F' H' v r, Left L F H F' H' → RNew K F' H H' v r → Pq r → Q v H') → codeAny (model P w) A (.call (.ref f) ⟨us, []⟩) (CR C8.CX0 outer P w H s Q C8.E0) s
section
variable {P : Program} {w : World} {K : PySem.W.Frag} {mg : Str → Option Value} {base : Heap} {N ps fr : List Str} {G : NF} {f : Addr} {A : Around} {outer : List Env} {s s' : Shared} {H F : Hp} {L : Addr → Option Obj} {S : Addr → Prop} {g : Addr → Obj} {es : List Dt}
theorem CloOk.mono {j k : Nat} {fs : FS} (o : CloOk P w K mg base j G es fs) (h : j ≤ k) : CloOk P w K mg base k G es fs := ⟨fun A outer s H f us vs Q L F ds Pq hr => o.run A outer s H f us vs Q L F ds Pq (hr.mono h)⟩
end
/-! ### calls of a name that holds such a function -/
/-! ### such a function is made -/
theorem left_sam {l : Addr → Option Obj} {F H H' : Hp} (lo : Low l F H) (s : Sam H H') : Left l F H F H' :=
  ⟨Same.refl F, s, ⟨fun a o h => (lo.at_ a o h).imp (fun ⟨x, y⟩ => ⟨x, s.e _ _ y (lo.nt a o h)⟩) fun ⟨ob, x, d, y⟩ => ⟨ob, x, d, s.e _ _ y True.intro⟩, lo.dom, lo.nt⟩, fun b o h => .inl h⟩
/-! ### it is handed on: its cells are told of while the call runs -/
/-- an argument: data, or the function that was made here and stands in slot i -/
inductive Ag where
  | d (x : Dt) | n (i : Nat)
inductive AgL (K : PySem.W.Frag) (F : Hp) (ε : DEnv) : List V → List Ag → Prop where
  | nil : AgL K F ε [] []
  | d {v : V} {x : Dt} {vs : List V} {as : List Ag} (h : Is K F v x) (r : AgL K F ε vs as) : AgL K F ε (v :: vs) (.d x :: as)
  | n {i : Nat} {f : Addr} {G : NF} {js : List Nat} {vs : List V} {as : List Ag} (h : ε[i]? = some (.nd f G js)) (r : AgL K F ε vs as) : AgL K F ε (.ref f :: vs) (.n i :: as)
section
variable {A : Anc} {X : Cx} {e : Expr} {es : List Expr} {i j k : Nat} {x : Str} {p pos : Pos} {L : Lk} {F H : Hp} {ε : DEnv} {σ : L2.St}
def frzAll : DEnv → List Nat → DEnv
  | ε, [] => ε
  | ε, j :: js => frzAll (fzS ε j) js
theorem fzS_nd {f : Addr} {G : NF} {js : List Nat} (h : ε[i]? = some (.nd f G js)) (j : Nat) : (fzS ε j)[i]? = some (.nd f G js) := by
  rw [fzS_def]
  have ne : ∀ z, ε[j]? = some z → (∀ f G js, z ≠ .nd f G js) → j ≠ i := fun z e n q => by rw [q, h] at e; cases e; exact n _ _ _ rfl
  cases e : ε[j]? with
  | none => exact h
  | some z => cases z <;> first | exact h | (rw [List.getElem?_set_ne (ne _ e fun _ _ _ z => nomatch z)]; exact h)
theorem frzAll_nd {f : Addr} {G : NF} {js : List Nat} : ∀ (l : List Nat) {ε : DEnv}, ε[i]? = some (.nd f G js) → (frzAll ε l)[i]? = some (.nd f G js)
  | [], _, h => h
  | j :: l, _, h => frzAll_nd l (fzS_nd h j)
end
section
variable {A : Anc} {X : Cx} {e : Expr} {es : List Expr} {i j k : Nat} {x : Str} {p pos : Pos} {L : Lk} {F H : Hp} {ε : DEnv} {σ : L2.St} {s : Shared} {pins : List (Addr × Obj)}
theorem AgL.frz {F F2 : Hp} (s : Same F F2) (js : List Nat) : ∀ {vs : List V} {as : List Ag}, AgL A.K F ε vs as → AgL A.K F2 (frzAll ε js) vs as
  | _, _, .nil => .nil
  | _, _, .d h r => .d (h.mono s) (r.frz s js)
  | _, _, .n h r => .n (frzAll_nd js h) (r.frz s js)
end
/-! ### x.extend(..) -/
/-! ### defs that hold defs -/
/-- a def whose code object fills a table of its own; nm: the names of the defs in it, by their places -/
structure DnT (K : PySem.W.Frag) (mg : Str → Option Value) (base : Heap) (x : Str) (st : Stmt) (ps : List Str) (nm : Nat → Nat → Str) : Prop where
  ex : ∃ (f c P : Addr) (oc : Value) (od : Option Addr) (kV dc pm : Value) (an : Option Addr) (ct : Value) (sl : Array (Option Value)), K.lookup f = some ⟨oc, od, .func (PySem.W.fnOf x x (fnArgs st) (fnBody st) (fnScope st) .none kV dc pm an (.ref c) ct), sl⟩ ∧ PySem.W.codeIn K (.ref c) x = true ∧
    mg x = some (.ref f) ∧ PySem.W.keepIn K (.ref f) = true ∧ Binds K (PySem.W.fnOf x x (fnArgs st) (fnBody st) (fnScope st) .none kV dc pm an (.ref c) ct) ps [] ∧ TabB base mg c P ∧ (P, nm) ∈ Tb.T ∧ ∀ p ∈ Tb.T, p.1 = P → p.2 = nm
theorem DnT.dcal {P : Program} {w : World} {K : PySem.W.Frag} {mg : Str → Option Value} {base : Heap} {x : Str} {st : Stmt} {N ps : List Str} {nm : Nat → Nat → Str} {k : Nat} {fs : FS} (D : DnT K mg base x st ps nm) (S : FnScope N ps (fnScope st)) (len : ∀ ds Pq, fs ds Pq → ds.length = ps.length)
    (hb : ∀ (f c T : Addr), TabB base mg c T → (T, nm) ∈ Tb.T → (∀ p ∈ Tb.T, p.1 = T → p.2 = nm) → ∀ (A' : Around) (outer : List Env) (s : Shared) (H : Hp) (E : XK), Room k (A'.deeper (envOfC x (fnScope st) s.heap.objs.size f (.ref c))) → ∀ (A : Anc) ds (Pq : Res → Prop), A.K = K → fs ds Pq →
      ∃ kb, XSs A (cxOf C8.CX0 P w K mg base N x (fnScope st) f (.ref c) A' outer s H E).nox (fnBody st) kb ∧ kb { nx := fun _ => Pq (.fz .non), rt := fun _ r => Pq r } (startD N ds)) : Cal P w K mg base (k + 1) x (spD K fs) [] := by
  obtain ⟨f, c, T, oc, od, kV, dc, pm, an, ct, sl, l, cd, m, kp, b, tb, hT, uT⟩ := D.ex
  refine ⟨f, _, ps, [], fn_of l cd S (spD_len len) fun A' outer s H vs Q E hr h => ?_, m, kp, b, .nil⟩
  obtain ⟨t, h1, h2⟩ := body_of h (hb f c T tb hT uT A' outer s H E hr)
  exact ⟨t, h1.nox, h2⟩
/-! sorted(a dict whose keys are texts) -/
end Sv
namespace Sv
open PySem PySem.Spec PyProof.Rows L2
variable [Tb : Tbs]
/-! ### own lists and dicts lent to a def that gives a flat value back -/
inductive La where
  | d (x : Dt) | v (i : Nat)
inductive LaL (K : PySem.W.Frag) (F : Hp) (σ : L2.St) : List V → List La → Prop where
  | nil : LaL K F σ [] []
  | d {v : V} {x : Dt} {vs : List V} {as : List La} (h : Is K F v x) (r : LaL K F σ vs as) : LaL K F σ (v :: vs) (.d x :: as)
  | v {i : Nat} {u : V} {vs : List V} {as : List La} (h : σ[i]? = some (some u)) (r : LaL K F σ vs as) : LaL K F σ (u :: vs) (.v i :: as)
abbrev GL := DEnv → (DEnv → List La → Prop) → Prop
def tL (A : Anc) (g : GL) : TA := fun σ H Q => ∃ L F ε P, Rep A L F ε σ H ∧ g ε P ∧ ∀ F' ε' H' vs as, Same F F' → Rep A L F' ε' σ H' → LaL A.K F' σ vs as → P ε' as → Q vs H'
abbrev XL (A : Anc) (X : Cx) (es : List Expr) (g : GL) : Prop := PA X es (tL A g)
def glNil : GL := fun ε P => P ε []
def glD (g : GE) (r : GL) : GL := fun ε P => g ε fun ε1 x => r ε1 fun ε2 as => P ε2 (.d x :: as)
def glV (i : Nat) (r : GL) : GL := fun ε P => (∃ d, rdS ε i = some d) ∧ r ε fun ε2 as => P ε2 (.v i :: as)
def laD (ε : DEnv) : List La → Option (List Dt)
  | [] => some []
  | .d x :: as => (laD ε as).map (x :: ·)
  | .v i :: as => (rdS ε i).bind fun x => (laD ε as).map (x :: ·)
def gCallL (fs : FS) (g : GL) : GE := fun ε P => g ε fun ε1 as => ∃ ds, laD ε1 as = some ds ∧ fs ds fun r => ∃ d, r = .fz d ∧ flatD d = true ∧ P ε1 d
section
variable {A : Anc} {X : Cx} {L : Lk} {F F' H : Hp} {ε : DEnv} {σ : L2.St} {e : Expr} {es : List Expr}
theorem LaL.mono {K : PySem.W.Frag} (s : Same F F') : ∀ {vs : List V} {as : List La}, LaL K F σ vs as → LaL K F' σ vs as
  | _, _, .nil => .nil
  | _, _, .d h r => .d (h.mono s) (r.mono s)
  | _, _, .v h r => .v h (r.mono s)
theorem rdS_fzS (ε : DEnv) (i j : Nat) : rdS (fzS ε j) i = rdS ε i := by
  have : (fzS ε j)[i]? = if j = i then (ε[i]?).map frz1 else ε[i]? := by
    induction ε generalizing i j with
    | nil => simp [fzS]
    | cons s ε ih => cases j with
      | zero => cases i with
        | zero => rfl
        | succ i => rfl
      | succ j => cases i with
        | zero => rfl
        | succ i => show (fzS ε j)[i]? = _; rw [ih]; simp
  unfold rdS
  rw [this]
  by_cases h : j = i
  · rw [if_pos h]
    cases ε[i]? with
    | none => rfl
    | some s => cases s <;> rfl
  · rw [if_neg h]
theorem laD_fzS (ε : DEnv) (j : Nat) : ∀ as : List La, laD (fzS ε j) as = laD ε as
  | [] => rfl
  | .d x :: as => by unfold laD; rw [laD_fzS ε j as]
  | .v i :: as => by unfold laD; rw [laD_fzS ε j as, rdS_fzS]
theorem Rep.lend : ∀ {as : List La} {vs : List V} {ds : List Dt} {F : Hp} {ε : DEnv}, Rep A L F ε σ H → LaL A.K F σ vs as → laD ε as = some ds → ∃ F' ε', Same F F' ∧ Rep A L F' ε' σ H ∧ IsL A.K F' vs ds
  | [], _, _, F, ε, R, .nil, e => by cases e; exact ⟨F, ε, Same.refl F, R, .nil⟩
  | .d x :: as, _, ds, F, ε, R, .d h r, e => by
    unfold laD at e
    obtain ⟨ds', e1, rfl⟩ := Option.map_eq_some_iff.mp e
    obtain ⟨F', ε', s, R', i⟩ := R.lend r e1
    exact ⟨F', ε', s, R', .cons (h.mono s) i⟩
  | .v i :: as, _, ds, F, ε, R, .v h r, e => by
    unfold laD at e
    obtain ⟨x, e0, e⟩ := Option.bind_eq_some_iff.mp e
    obtain ⟨ds', e1, rfl⟩ := Option.map_eq_some_iff.mp e
    obtain ⟨F1, s1, R1, f⟩ := R.frzSlot i
    obtain ⟨v, hv, is⟩ := f x e0
    rw [hv] at h
    cases h
    obtain ⟨F', ε', s, R', il⟩ := R1.lend (r.mono s1) ((laD_fzS ε i as).trans e1)
    exact ⟨F', ε', s1.trans s, R', .cons (is.mono s) il⟩
theorem flat_is {K : PySem.W.Frag} {v : V} {d : Dt} (f : flatD d = true) (h : Is K F v d) : Is K F' v d := by
  cases h <;> first | (cases f; done) | constructor
theorem xl_nil : XL A X [] glNil := pa_nil.weak fun σ H Q ⟨L, F, ε, P, R, hg, k⟩ => k F ε H [] [] (Same.refl F) R .nil hg
theorem xl_d {g : GE} {r : GL} (ha : XE A X e g) (hr : XL A X es r) (hs : starEach (e :: es) X.env = (false, eval e X.env) :: starEach es X.env := by rfl) : XL A X (e :: es) (glD g r) := (pa_cons ha hr hs).weak fun σ H Q ⟨L, F, ε, P, R, hg, k⟩ =>
  ⟨L, F, ε, _, R, hg, fun F1 ε1 H1 v x s1 R1 i1 q1 => ⟨L, F1, ε1, _, R1, q1, fun F2 ε2 H2 vs as s2 R2 al q2 => k F2 ε2 H2 (v :: vs) (.d x :: as) (s1.trans s2) R2 (.d (i1.mono s2) al) q2⟩⟩
theorem xl_v {i : Nat} {r : GL} (ha : PE X e (tVar i)) (hr : XL A X es r) (hs : starEach (e :: es) X.env = (false, eval e X.env) :: starEach es X.env := by rfl) : XL A X (e :: es) (glV i r) := (pa_cons ha hr hs).weak fun σ H Q ⟨L, F, ε, P, R, ⟨⟨d, hd⟩, hg⟩, k⟩ => by
  obtain ⟨F1, s1, R1, f⟩ := R.frzSlot i
  obtain ⟨v, hv, _⟩ := f d hd
  exact ⟨v, hv, L, F, ε, _, R, hg, fun F2 ε2 H2 vs as s2 R2 al q2 => k F2 ε2 H2 (v :: vs) (.v i :: as) s2 R2 (.v hv al) q2⟩
theorem xe_lend {fs : FS} {g : GL} (h : PE X e (tCall (spD A.K fs) [] C8.E0 (tL A g))) : XE A X e (gCallL fs g) := h.weak fun σ H Q ⟨L, F, ε, P, R, hg, k⟩ => ⟨L, F, ε, _, R, hg, fun F1 ε1 H1 vs as s1 R1 al ⟨ds, ed, q⟩ => by
  show spD A.K fs (vs ++ []) H1 Q C8.E0
  rw [List.append_nil]
  obtain ⟨F2, ε2, s2, R2, il⟩ := R1.lend al ed
  refine ⟨L.l, F2, ds, _, R2.lowT, il, q, fun F' H' v r lf n ⟨d, er, fd, p⟩ => ?_⟩
  subst er
  exact k F1 ε1 H' v d s1 (R1.left (left_sam R1.low lf.h)) (flat_is fd n) p⟩
end
end Sv
namespace Sv
open PySem PySem.Spec PyProof.Rows L2
open C8 (Cal Mak Met cal0 mak0 met0 pe_c pe_mk pe_mt pe_mt0 fnBody fnArgs fnScope scC fnScope_by pe_gc InsC call_isC)
variable [Tb : Tbs]
/-! ### instances of own classes are made: __init__ over data -/
section
variable {A : Anc} {X : Cx} {L : Lk} {K : PySem.W.Frag} {F F' H H' : Hp} {ε : DEnv} {σ : L2.St} {e o : Expr} {C : Addr}
/-! self.f = value -/
theorem Rep.oi (R : Rep A L F ε σ H) {i : Nat} {a C : Addr} {fl : List (Str × Dt)} (e : ε[i]? = some (.oi a C fl)) : σ[i]? = some (some (.ref a)) ∧ ∃ dx us, H a = some (.ins C dx us) ∧ IsF A.K F us fl := by
  obtain ⟨h, dx, us, h1, h2⟩ := R.val i _ e
  exact ⟨join_some h, dx, us, h1, h2⟩
/-! C(..) -/
end
/-! defs with keyword-only parameters -/
end Sv
namespace Sv
open PySem PySem.Spec PyProof.Rows L2
open C8 (Cal Mak Met cal0 mak0 met0 pe_c pe_mk pe_mt pe_mt0 fnBody fnArgs fnScope scC fnScope_by pe_gc InsC call_isC)
variable [Tb : Tbs]
/-! ### the text by places -/
abbrev NBadScript___init__ : List Str := ["self", "place"]
theorem scBadScript___init__ : FnScope NBadScript___init__ ["self", "place"] (fnScope sBadScript___init__) := fnScope_by (by decide +kernel)
abbrev NTooMany___init__ : List Str := ["self", "limit"]
theorem scTooMany___init__ : FnScope NTooMany___init__ ["self", "limit"] (fnScope sTooMany___init__) := fnScope_by (by decide +kernel)
abbrev Nis_integer : List Str := ["value"]
theorem scis_integer : FnScope Nis_integer ["value"] (fnScope sis_integer) := fnScope_by (by decide +kernel)
abbrev Nis_integer_between : List Str := ["value", "least", "most"]
theorem scis_integer_between : FnScope Nis_integer_between ["value", "least", "most"] (fnScope sis_integer_between) := fnScope_by (by decide +kernel)
abbrev Nis_name : List Str := ["value", "letter"]
theorem scis_name : FnScope Nis_name ["value"] (fnScope sis_name) := fnScope_by (by decide +kernel)
abbrev Ncheck_script : List Str := ["script", "place"]
theorem sccheck_script : FnScope Ncheck_script ["script"] (fnScope scheck_script) := fnScope_by (by decide +kernel)
abbrev Nbad_edit_place : List Str := ["script", "place", "edit"]
theorem scbad_edit_place : FnScope Nbad_edit_place ["script"] (fnScope sbad_edit_place) := fnScope_by (by decide +kernel)
abbrev Nis_edit : List Str := ["value", "item"]
theorem scis_edit : FnScope Nis_edit ["value"] (fnScope sis_edit) := fnScope_by (by decide +kernel)
abbrev Nturned : List Str := ["ahead", "turn", "behind", "n", "script"]
theorem scturned : FnScope Nturned ["ahead", "turn", "behind", "n"] (fnScope sturned) := fnScope_by (by decide +kernel)
abbrev N_law_same : List Str := ["_law_actual", "_law_due", "_law_k"]
theorem sc_law_same : FnScope N_law_same ["_law_actual", "_law_due"] (fnScope s_law_same) := fnScope_by (by decide +kernel)
abbrev N_law_box : List Str := ["_law_script"]
theorem sc_law_box : FnScope N_law_box ["_law_script"] (fnScope s_law_box) := fnScope_by (by decide +kernel)
abbrev N_law_take : List Str := ["_law_box_here", "_law_many", "_law_cell", "_law_digit", "_law_number"]
theorem sc_law_take : FnScope N_law_take ["_law_box_here", "_law_many"] (fnScope s_law_take) := fnScope_by (by decide +kernel)
abbrev N_law_name : List Str := ["_law_box_here", "_law_taken", "_law_letters", "_law_number", "_law_size", "_law_places", "_law_k", "_law_name_here", "_law_count"]
theorem sc_law_name : FnScope N_law_name ["_law_box_here", "_law_taken"] (fnScope s_law_name) := fnScope_by (by decide +kernel)
abbrev N_law_edit : List Str := ["_law_box_here", "_law_token", "_law_word"]
theorem sc_law_edit : FnScope N_law_edit ["_law_box_here"] (fnScope s_law_edit) := fnScope_by (by decide +kernel)
abbrev N_law_edits : List Str := ["_law_box_here", "_law_edits_here", "_law_count"]
theorem sc_law_edits : FnScope N_law_edits ["_law_box_here"] (fnScope s_law_edits) := fnScope_by (by decide +kernel)
abbrev N_law_bad : List Str := ["_law_parts", "_law_turns", "_law_answer", "e"]
theorem sc_law_bad : FnScope N_law_bad ["_law_parts", "_law_turns"] (fnScope s_law_bad) := fnScope_by (by decide +kernel)
abbrev N_law_spoilt : List Str := ["_law_edits_here", "_law_pick", "_law_at", "_law_menu"]
theorem sc_law_spoilt : FnScope N_law_spoilt ["_law_edits_here", "_law_pick", "_law_at"] (fnScope s_law_spoilt) := fnScope_by (by decide +kernel)
abbrev Nlaw : List Str := ["_law_script", "_law_box_here", "_law_turns", "_law_long", "_law_more", "_law_k", "_law_pick", "_law_at", "_law_parts", "_law_due", "_law_given", "_law_limit", "_law_answer", "e", "_law_place", "_law_count"]
theorem sclaw : FnScope Nlaw ["_law_script"] (fnScope slaw) := fnScope_by (by decide +kernel)
/-- what the module's names are, as far as no def -/
structure Txt (K : PySem.W.Frag) (mg : Str → Option Value) : Prop where
  «isinstance» : mg "isinstance" = none
  «int» : mg "int" = none
  «bool» : mg "bool" = none
  «str» : mg "str" = none
  «len» : mg "len" = none
  «all» : mg "all" = none
  «list» : mg "list" = none
  «tuple» : mg "tuple" = none
  «enumerate» : mg "enumerate" = none
  «range» : mg "range" = none
  «abs» : mg "abs" = none
  «ValueError» : mg "ValueError" = none
  «min» : mg "min" = none
  LONGEST_NAME : ∃ u, mg "LONGEST_NAME" = some u ∧ RelV (.int 8) u
  LONGEST_SCRIPT : ∃ u, mg "LONGEST_SCRIPT" = some u ∧ RelV (.int 5000) u
  MOST_TURNS : ∃ u, mg "MOST_TURNS" = some u ∧ RelV (.int 8) u
  LONGEST_RESULT : ∃ u, mg "LONGEST_RESULT" = some u ∧ RelV (.int 5000) u
end Sv
namespace Sv
open PySem PySem.Spec PyProof.Rows L2
open C8 (Cal Mak Met cal0 mak0 met0 pe_c pe_mk pe_mt pe_mt0 fnBody fnArgs fnScope scC fnScope_by pe_gc InsC call_isC)
variable [Tb : Tbs]
/-! ### names -/
def goodB (s : Str) : Bool := decide (1 ≤ s.cps.size) && decide (s.cps.size ≤ 8) && s.cps.toList.all (fun c => decide (97 ≤ c) && decide (c ≤ 122))
abbrev Good (s : Str) : Prop := goodB s = true
theorem good_mk {s : Str} (h1 : 1 ≤ s.cps.size) (h2 : s.cps.size ≤ 8) (h3 : ∀ c ∈ s.cps.toList, 97 ≤ c ∧ c ≤ 122) : Good s := by
  unfold Good goodB
  rw [decide_eq_true h1, decide_eq_true h2, Bool.true_and, Bool.true_and, List.all_eq_true]
  intro c hc
  have := h3 c hc
  rw [decide_eq_true this.1, decide_eq_true this.2]
  rfl
theorem good_of {s : Str} (h : Good s) : 1 ≤ s.cps.size ∧ s.cps.size ≤ 8 ∧ ∀ c ∈ s.cps.toList, 97 ≤ c ∧ c ≤ 122 := by
  unfold Good goodB at h
  simp only [Bool.and_eq_true, decide_eq_true_eq, List.all_eq_true] at h
  exact ⟨h.1.1, h.1.2, h.2⟩
def abc : Str := "abcdefghijklmnopqrstuvwxyz"
theorem abc_get : ∀ k < 26, abc.cps.toList[k]? = some (97 + k) := by decide +kernel
theorem abc_at {r : Int} (h0 : 0 ≤ r) (h1 : r < 26) : atI abc.cps.toList r = some (97 + r.toNat) := by
  have e : ((r.toNat : Nat) : Int) = r := by omega
  have q := atI_nat (abc_get r.toNat (by omega))
  rwa [e] at q
theorem str_app (a b : Str) : (a ++ b).cps.toList = a.cps.toList ++ b.cps.toList := by
  show (a.cps ++ b.cps).toList = _
  exact Array.toList_append
theorem str_len (a : Str) : a.length = a.cps.toList.length := by
  show a.cps.size = _
  exact Array.length_toList.symm
theorem eqV_str (a b : Str) : eqV (.str a) (.str b) = decide (a = b) := by
  show (a == b) = decide (a = b)
  rw [Bool.eq_iff_iff, beq_iff_eq, decide_eq_true_eq]
theorem inV_str (s : Str) (L : List Str) : inV (.str s) (L.map V.str) = decide (s ∈ L) := by
  unfold inV
  rw [List.any_map, Bool.eq_iff_iff, List.any_eq_true, decide_eq_true_eq]
  constructor
  · rintro ⟨x, hx, e⟩
    have e : eqV (.str x) (.str s) = true := e
    rw [eqV_str, decide_eq_true_eq] at e
    exact e ▸ hx
  · intro h
    refine ⟨s, h, ?_⟩
    show eqV (.str s) (.str s) = true
    rw [eqV_str]
    exact decide_eq_true rfl
/-- fewer names than letters: one is left -/
theorem sub_len {α : Type} [DecidableEq α] : ∀ (xs ys : List α), xs.Nodup → (∀ x ∈ xs, x ∈ ys) → xs.length ≤ ys.length
  | [], ys, _, _ => Nat.zero_le _
  | x :: r, ys, hn, h => by
    have hx := h x List.mem_cons_self
    have hn' := List.nodup_cons.mp hn
    have ih := sub_len r (ys.erase x) hn'.2 fun z hz => (List.mem_erase_of_ne (fun (e : z = x) => hn'.1 (by rw [← e]; exact hz))).mpr (h z (List.mem_cons_of_mem _ hz))
    rw [List.length_erase_of_mem hx] at ih
    have : 0 < ys.length := List.length_pos_of_mem hx
    show r.length + 1 ≤ _
    omega
end Sv
namespace Sv
open PySem PySem.Spec PyProof.Rows L2
variable [Tb : Tbs]
/-! ### moves as data -/
abbrev Mv := (Str × Str) × Str
def kk (p : Str × Str) : List Key := [.inr p.1, .inr p.2]
def mvs (M : List Mv) : List (List Key × V) := M.map fun m => (kk m.1, .str m.2)
def look (M : List Mv) (s t : Str) : Option Str := (M.find? fun m => decide (m.1 = (s, t))).map (·.2)
abbrev keysOf (M : List Mv) : List (Str × Str) := M.map (·.1)
theorem look_cons {m : Mv} {M : List Mv} {s t : Str} : look (m :: M) s t = if m.1 = (s, t) then some m.2 else look M s t := by
  unfold look
  rw [List.find?_cons]
  by_cases h : m.1 = (s, t)
  · rw [if_pos h, decide_eq_true h]
    rfl
  · rw [if_neg h, decide_eq_false h]
theorem look_of_mem {s t v : Str} : ∀ {M : List Mv}, (keysOf M).Nodup → ((s, t), v) ∈ M → look M s t = some v
  | [], _, h => by cases h
  | m :: M, nd, h => by
    have nd' := List.nodup_cons.mp nd
    rw [look_cons]
    rcases List.mem_cons.mp h with rfl | h
    · rw [if_pos rfl]
    · rw [if_neg fun e => nd'.1 (List.mem_map.mpr ⟨_, h, e.symm⟩)]
      exact look_of_mem nd'.2 h
/-- from s by the moves on tokens of T -/
inductive Reach (M : List Mv) (T : List Str) : Str → Str → Prop
  | refl (s : Str) : Reach M T s s
  | step {s u t v : Str} : Reach M T s u → t ∈ T → look M u t = some v → Reach M T s v
theorem Reach.trans {M : List Mv} {T : List Str} {a b c : Str} (h1 : Reach M T a b) (h2 : Reach M T b c) : Reach M T a c := by
  induction h2 with
  | refl => exact h1
  | step _ ht hl ih => exact .step ih ht hl
/-! ### sorted texts -/
end Sv
namespace Sv
open PySem PySem.Spec PyProof.Rows L2
open C8 (Cal Mak Met cal0 mak0 met0 pe_c pe_mk pe_mt pe_mt0 fnBody fnArgs fnScope scC fnScope_by pe_gc InsC call_isC)
variable [Tb : Tbs]
/-! ### moves, machines -/
def mvD (M : List Mv) : List (Dt × Dt) := M.map fun m => (ktD (kk m.1), .str m.2)
abbrev pD (p : Str × Str) : Dt := .tup [.str p.1, .str p.2]
section
variable {K : PySem.W.Frag} {F H : Hp}
theorem key_p (p : Str × Str) : KeyOk .t (pD p) := ⟨kk p, rfl⟩
theorem key_s (s : Str) : KeyOk .k (.str s) := ⟨.inr s, rfl⟩
end
end Sv
namespace Sv
open PySem PySem.Spec PyProof.Rows L2
open C8 (Cal Mak Met cal0 mak0 met0 pe_c pe_mk pe_mt pe_mt0 fnBody fnArgs fnScope scC fnScope_by pe_gc InsC call_isC)
variable [Tb : Tbs]
/-! ### is_name of a text -/
def spIsName : Sp := fun vs H Q _ => ∃ (s : Str), vs = [.str s] ∧ s.length ≤ sizeLine ∧ ∀ H', Same H H' → Q (.bl (goodB s)) H'
/-- .. or of anything else -/
def spIsNameA (K : PySem.W.Frag) : Sp := fun vs H Q _ => spIsName vs H Q C8.E0 ∨ ∃ (x : V) (t : String), vs = [x] ∧ TyX K H x (.type t) ∧ kitB t "str" = some false ∧ Q (.bl false) H
theorem sizeLine_big : 100000 ≤ sizeLine := by decide
theorem lt_one (a b : Nat) : (decide ([a] < [b])) = decide (a < b) := by
  rw [Bool.eq_iff_iff, decide_eq_true_eq, decide_eq_true_eq, List.cons_lt_cons_iff]
  constructor
  · rintro (h | ⟨_, h⟩)
    · exact h
    · exact absurd h (List.not_lt_nil _)
  · exact .inl
theorem signs_A : ("a" : Str).cps.toList = [97] := by decide +kernel
theorem signs_Z : ("z" : Str).cps.toList = [122] := by decide +kernel
section
variable {P : Program} {K : PySem.W.Frag} {mg : Str → Option Value} {base : Heap}
theorem ok_is_nameA (D : Dn K mg "is_name" sis_name ["value"]) (T : Txt K mg) : Cal P Tb.w K mg base 1 "is_name" (spIsNameA K) [] := by
  refine D.cal scis_name (fun vs H Q E h => ?_) (fun f cdv A outer s H vs Q E hr h => ?_)
  · rcases h with ⟨z, rfl, _⟩ | ⟨x, t, rfl, _⟩ <;> rfl
  · rcases h with ⟨z, rfl, hz, q⟩ | ⟨x, t, rfl, ty, hk, q⟩
    rotate_left
    · refine ⟨_, (pss_cons (ps_if (PW.pt (pw_or (pt_not (pt_val (pe_callB call_isi (by rfl) T.isinstance (by decide +kernel) (pa_cons (pv 0) (pa_cons (pe_bltn (v := .ty "str") (by rfl) T.str (by decide +kernel) rfl) pa_nil))))) (pw_or1 (pt_not (pt_chain op_le op_le pe_int (pe_callB call_len_str (by rfl) T.len PySem.boot_len (pa_cons (pv 0) pa_nil)) (pe_gc (by rfl) T.LONGEST_NAME)))))) (pss_one (ps_ret pe_bl)) pss_nil)
      (pss_one (ps_ret (pe_callB (cr_all rfl) (by rfl) T.all (by decide +kernel) (pa_cons (pe_lc (own := [("letter", 1)]) (g := gName 1) (tt := tYes) (by rfl) scis_name.nd (pi_str (pv 0)) (blkOk_by (own := [("letter", 1)]) (N := Nis_name) (sc := fnScope sis_name) (by decide +kernel)) (fun _ _ _ _ _ => (pg_name (i := 1) scis_name.nd rfl (Or.inl rfl))) (fun _ _ _ _ _ => pts_nil) (fun _ _ _ _ _ => (pe_chain op_le_str op_le_str pe_str (pv 1) pe_str))) pa_nil))))), ?_⟩
      refine ⟨_, rfl, _, _, _, _, false, rfl, .ty _, ty, kit_ty hk, _, rfl, ?_⟩
      exact q
    refine ⟨_, (pss_cons (ps_if (PW.pt (pw_or (pt_not (pt_val (pe_callB call_isi (by rfl) T.isinstance (by decide +kernel) (pa_cons (pv 0) (pa_cons (pe_bltn (v := .ty "str") (by rfl) T.str (by decide +kernel) rfl) pa_nil))))) (pw_or1 (pt_not (pt_chain op_le op_le pe_int (pe_callB call_len_str (by rfl) T.len PySem.boot_len (pa_cons (pv 0) pa_nil)) (pe_gc (by rfl) T.LONGEST_NAME)))))) (pss_one (ps_ret pe_bl)) pss_nil)
      (pss_one (ps_ret (pe_callB (cr_all rfl) (by rfl) T.all (by decide +kernel) (pa_cons (pe_lc (own := [("letter", 1)]) (g := gName 1) (tt := tYes) (by rfl) scis_name.nd (pi_str (pv 0)) (blkOk_by (own := [("letter", 1)]) (N := Nis_name) (sc := fnScope sis_name) (by decide +kernel)) (fun _ _ _ _ _ => (pg_name (i := 1) scis_name.nd rfl (Or.inl rfl))) (fun _ _ _ _ _ => pts_nil) (fun _ _ _ _ _ => (pe_chain op_le_str op_le_str pe_str (pv 1) pe_str))) pa_nil))))), ?_⟩
    have ty : TyX K H (.str z) (.type "str") := .base (.str z)
    refine ⟨_, rfl, _, _, _, _, true, rfl, .ty _, ty, kit_ty (by decide +kernel), _, rfl, ?_⟩
    refine ⟨_, rfl, _, rfl, hz, _, _, rfl, rfl, ?_⟩
    by_cases h1 : 1 ≤ z.length
    · refine ⟨_, rfl, iteD (decide_eq_true (by omega)) ⟨_, _, rfl, rfl, _, rfl, ?_⟩⟩
      by_cases h8 : z.length ≤ 8
      · show if (!decide ((z.length : Int) ≤ 8)) = true then _ else _
        refine iteN (by rw [decide_eq_true (by omega)]; decide) ?_
        refine ⟨_, rfl, _, rfl, fun D nD => ?_⟩
        refine lc_it (walk_str (z := z)) (fun i H' => Same H H' ∧ H' D = some (.lst (((z.cps.toList.take i).map fun c => decide (97 ≤ c) && decide (c ≤ 122)).map V.bl))) ⟨same_upd nD, upd_same⟩ (fun _ _ _ _ => trivial) (fun i x H' H2 hi hP hY => ?_) (fun H' hP => ?_)
        · obtain ⟨rfl, c, hc, rfl⟩ := hY
          obtain ⟨sm, hD⟩ := hP
          have hi2 : i < z.cps.toList.length := by rw [Array.length_toList]; exact hi
          have hc2 : z.cps.toList[i]? = some c := by rw [Array.getElem?_toList]; exact hc
          have step : ∀ b : Bool, b = (decide (97 ≤ c) && decide (c ≤ 122)) → Same H (upd H2 D (.lst ((((z.cps.toList.take i).map fun c => decide (97 ≤ c) && decide (c ≤ 122)).map V.bl) ++ [.bl b]))) ∧
              (upd H2 D (.lst ((((z.cps.toList.take i).map fun c => decide (97 ≤ c) && decide (c ≤ 122)).map V.bl) ++ [.bl b]))) D = some (.lst (((z.cps.toList.take (i + 1)).map fun c => decide (97 ≤ c) && decide (c ≤ 122)).map V.bl)) := fun b eb => by
            refine ⟨fun b9 o9 e9 => by rw [upd_ne (fun y => not_two nD (y ▸ e9))]; exact sm _ _ e9, ?_⟩
            rw [upd_same, List.take_add_one, hc2, List.map_append, List.map_append, eb]
            rfl
          have sz : ((((z.cps.toList.take i).map fun c => decide (97 ≤ c) && decide (c ≤ 122)).map V.bl)).length < sizeLine := by
            rw [List.length_map, List.length_map, List.length_take]
            have l8 : z.cps.toList.length ≤ 8 := by rw [← str_len]; exact h8
            exact Nat.lt_of_le_of_lt (Nat.min_le_left _ _) (small1000 (by omega))
          refine ⟨rfl, _, rfl, _, _, rfl, rfl, _, rfl, ?_⟩
          show if (!decide ([c] < ("a" : Str).cps.toList)) = true then _ else _
          rw [signs_A, lt_one]
          by_cases hlo : 97 ≤ c
          · refine iteD (by rw [decide_eq_false (by omega)]; rfl) ⟨_, _, rfl, rfl, _, hD, sz, ?_⟩
            refine step _ ?_
            show (!decide (("z" : Str).cps.toList < [c])) = _
            rw [signs_Z, lt_one, decide_eq_true hlo, Bool.true_and, Bool.eq_iff_iff, decide_eq_true_eq, Bool.not_eq_true', decide_eq_false_iff_not]
            omega
          · refine iteN (by rw [decide_eq_true (by omega)]; decide) ⟨_, hD, sz, ?_⟩
            refine step _ ?_
            rw [decide_eq_false hlo, Bool.false_and]
        · obtain ⟨sm, hD⟩ := hP
          have ez : z.cps.size = z.cps.toList.length := Array.length_toList.symm
          rw [ez, List.take_length] at hD
          refine ⟨D, _, rfl, SqL.of hD, ?_⟩
          have e : ((z.cps.toList.map fun c => decide (97 ≤ c) && decide (c ≤ 122)).all id) = goodB z := by
            unfold goodB
            rw [decide_eq_true (show 1 ≤ z.cps.size from h1), decide_eq_true (show z.cps.size ≤ 8 from h8), List.all_map]
            rfl
          rw [e]
          exact q _ sm
      · show if (!decide ((z.length : Int) ≤ 8)) = true then _ else _
        refine iteD (by rw [decide_eq_false (by omega)]; rfl) ?_
        have e : goodB z = false := by
          unfold goodB
          rw [decide_eq_false (show ¬ z.cps.size ≤ 8 from h8), Bool.and_false, Bool.false_and]
        rw [← e]
        exact q H (Same.refl H)
    · refine ⟨_, rfl, iteN (by rw [decide_eq_true_eq]; omega) ⟨_, rfl, ?_⟩⟩
      have e : goodB z = false := by
        unfold goodB
        rw [decide_eq_false (show ¬ 1 ≤ z.cps.size from h1), Bool.false_and, Bool.false_and]
      have q' := q H (Same.refl H)
      rw [e] at q'
      exact q'
end
end Sv
namespace Sv
open PySem PySem.Spec PyProof.Rows L2
open C8 (Cal Mak Met cal0 mak0 met0 pe_c pe_mk pe_mt pe_mt0 fnBody fnArgs fnScope scC fnScope_by pe_gc InsC call_isC)
variable [Tb : Tbs]
/-! ### two values that hold the same data -/
theorem ty_sql {K : PySem.W.Frag} {H : Hp} {a : Addr} {xs : List V} (h : SqL K H a xs) : TyX K H (.ref a) (.type "list") := by
  rcases h with (h | ⟨o, h⟩) | ⟨_, _, _, h1, h2, _⟩
  · exact .base (.lst h)
  · exact .base (.frz h)
  · exact .kList h1 h2
theorem ty_sqt {K : PySem.W.Frag} {H : Hp} {a : Addr} {xs : List V} (h : SqT K H a xs) : TyX K H (.ref a) (.type "tuple") := by
  rcases h with (h | ⟨o, h⟩) | ⟨_, _, _, h1, h2, _⟩
  · exact .base (.tup h)
  · exact .fTuple h
  · exact .kTuple h1 h2
def flatS : V → Bool
  | .non => true | .bl _ => true | .int _ => true | .str _ => true | _ => false
def Sm (K : PySem.W.Frag) : Nat → Hp → V → V → Prop
  | 0, _, _, _ => False
  | n + 1, H, x, y => (x = y ∧ flatS x = true) ∨ (∃ (a b : Addr) (xs ys : List V), x = .ref a ∧ y = .ref b ∧ ((SqL K H a xs ∧ SqL K H b ys) ∨ (SqT K H a xs ∧ SqT K H b ys)) ∧ xs.length = ys.length ∧ xs.length ≤ 100000 ∧
      ∀ (i : Nat) (u v : V), xs[i]? = some u → ys[i]? = some v → Sm K n H u v) ∨
      ∃ (a b : Addr) (kvs lvs : List (List Key × V)), x = .ref a ∧ y = .ref b ∧ H a = some (.dT kvs) ∧ H b = some (.dT lvs) ∧ kvs.length = lvs.length ∧ lvs.length ≤ 100000 ∧
        ∀ (od : Obj) (i : Nat) (k : List Key) (v : V), lvs[i]? = some (k, v) → valV lvs k = some v ∧ ∃ u, valV kvs k = some u ∧ Sm K n (upd H b (.frz od (.dT lvs))) u v
theorem same_lock {H H' : Hp} {d : Addr} {u : HO} (s : Same H H') : Same (upd H d u) (upd H' d u) := fun b o e => by
  by_cases h : b = d
  · subst h
    rw [upd_same] at e ⊢
    exact e
  · rw [upd_ne h] at e ⊢
    exact s b o e
theorem Sm.same {K : PySem.W.Frag} : ∀ {n : Nat} {H H' : Hp} {x y : V}, Same H H' → Sm K n H x y → Sm K n H' x y
  | 0, _, _, _, _, _, h => h
  | n + 1, H, H', _, _, s, h => by
    rcases h with h | ⟨a, b, xs, ys, rfl, rfl, h1, h2, h3, h4⟩ | ⟨a, b, kvs, lvs, rfl, rfl, h1, h2, h3, h4, h5⟩
    · exact .inl h
    · refine .inr (.inl ⟨a, b, xs, ys, rfl, rfl, ?_, h2, h3, fun i u v e1 e2 => Sm.same s (h4 i u v e1 e2)⟩)
      rcases h1 with ⟨p, q⟩ | ⟨p, q⟩
      · exact .inl ⟨s.seq p, s.seq q⟩
      · exact .inr ⟨s.seqT p, s.seqT q⟩
    · exact .inr (.inr ⟨a, b, kvs, lvs, rfl, rfl, s _ _ h1, s _ _ h2, h3, h4, fun od i k v e => let ⟨q1, u, q2, q3⟩ := h5 od i k v e; ⟨q1, u, q2, Sm.same (same_lock s) q3⟩⟩)
end Sv
namespace Sv
open PySem PySem.Spec PyProof.Rows L2
open LamX (CodeO ExtN TabB)
open C8 (Cal Mak Met cal0 mak0 met0 pe_c pe_mk pe_mt pe_mt0 fnBody fnArgs fnScope scC fnScope_by pe_gc InsC call_isC)
variable [Tb : Tbs]
/-! ### the parts of a machine, good ones -/
/-- .. that stands for itself: not one that is walked as the script is -/
def Sr (K : PySem.W.Frag) (H : Hp) (a : Addr) (xs : List V) : Prop := H a = some (.lst xs) ∨ H a = some (.tup xs) ∨ SqT K (fun _ => none) a xs
theorem Sr.same {K : PySem.W.Frag} {H H' : Hp} {a : Addr} {xs : List V} (h : Sr K H a xs) (s : Same H H') : Sr K H' a xs := h.imp (s _ _) fun h => h.imp (s _ _) id
theorem _root_.L2.Same.rd {H H' : Hp} {a : Addr} {u : HO} (s : Same H H') (h : Rd H a u) : Rd H' a u := h.elim (fun h => .inl (s _ _ h)) fun ⟨o, h⟩ => .inr ⟨o, s _ _ h⟩
end Sv
namespace Sv
open PySem PySem.Spec PyProof.Rows L2
open C8 (Cal Mak Met cal0 mak0 met0 pe_c pe_mk pe_mt pe_mt0 fnBody fnArgs fnScope scC fnScope_by pe_gc InsC call_isC)
variable [Tb : Tbs]
/-! ### the class Machine -/
def mf (lt : Addr) (st : Str) (ar gt nt : Addr) : List (Str × V) := [("letters", .ref lt), ("origin", .str st), ("arrows", .ref ar), ("goals", .ref gt), ("nodes", .ref nt)]
/-- a machine stands at a -/
def IsM (C : Addr) (H : Hp) (a ar : Addr) (T : List Str) (st : Str) (M : List Mv) (F S : List Str) : Prop := ∃ dx lt gt nt : Addr, H a = some (.ins C dx (mf lt st ar gt nt)) ∧ H lt = some (.tup (T.map V.str)) ∧ H ar = some (.dT (mvs M)) ∧ H gt = some (.tup (F.map V.str)) ∧ H nt = some (.tup (S.map V.str))
section
variable {C : Addr} {H H' : Hp} {a ar : Addr} {T : List Str} {st : Str} {M : List Mv} {F S : List Str}
theorem IsM.same (m : IsM C H a ar T st M F S) (s : Same H H') : IsM C H' a ar T st M F S := by
  obtain ⟨dx, lt, gt, nt, h1, h2, h3, h4, h5⟩ := m
  exact ⟨dx, lt, gt, nt, s _ _ h1, s _ _ h2, s _ _ h3, s _ _ h4, s _ _ h5⟩
end
/-- all but a is as it was -/
structure But (a : Addr) (H H' : Hp) : Prop where
  e : ∀ b, b ≠ a → ∀ o, H b = some o → NoT o → H' b = some o
  t : TOk H → TOk H'
  n : Nw H H'
theorem But.k {a : Addr} {H H' : Hp} (x : But a H H') {b : Addr} (h : b ≠ a) {o : HO} (e : H b = some o) (n : NoT o := by exact True.intro) : H' b = some o := x.e b h o e n
theorem But.of {a : Addr} {H H' : Hp} (s : Sam H H') : But a H H' := ⟨fun b _ o e n => s.e b o e n, s.t, s.n⟩
theorem But.trans {a : Addr} {H H1 H2 : Hp} (b : But a H H1) (s : But a H1 H2) : But a H H2 := ⟨fun c hc o e n => s.e c hc o (b.e c hc o e n) n, fun t => s.t (b.t t), b.n.trans s.n⟩
theorem But.same {a : Addr} {H H1 H2 : Hp} (b : But a H H1) (s : Same H1 H2) : But a H H2 := b.trans (.of (.of s))
end Sv
namespace Sv
open PySem PySem.Spec PyProof.Rows L2
open C8 (Cal Mak Met cal0 mak0 met0 pe_c pe_mk pe_mt pe_mt0 fnBody fnArgs fnScope scC fnScope_by pe_gc InsC call_isC)
variable [Tb : Tbs]
/-! ### the law's own parts of a machine -/
/-- all but a is as it was, the tables too -/
def Btw (a : Addr) (H H' : Hp) : Prop := ∀ b, b ≠ a → ∀ o, H b = some o → H' b = some o
theorem Btw.same {a : Addr} {H H1 H2 : Hp} (b : Btw a H H1) (s : Same H1 H2) : Btw a H H2 := fun c hc o e => s c o (b c hc o e)
theorem Btw.trans {a : Addr} {H H1 H2 : Hp} (b : Btw a H H1) (s : Btw a H1 H2) : Btw a H H2 := fun c hc o e => s c hc o (b c hc o e)
abbrev toks (M : List Mv) : List Str := M.map (·.1.2)
theorem nd_snoc {α : Type} {L : List α} {x : α} (h : L.Nodup) (n : x ∉ L) : (L ++ [x]).Nodup := List.nodup_append.mpr ⟨h, by simp, fun a ha c hc e => n (by rw [← List.mem_singleton.mp hc, ← e]; exact ha)⟩
theorem take_snoc {α : Type} {M : List α} {i : Nat} {m : α} (hm : M[i]? = some m) : M.take i ++ [m] = M.take (i + 1) := by
  rw [List.take_add_one, hm]
  rfl
end Sv
namespace Sv
open PySem PySem.Spec PyProof.Rows L2
open C8 (Cal Mak Met cal0 mak0 met0 pe_c pe_mk pe_mt pe_mt0 fnBody fnArgs fnScope scC fnScope_by pe_gc InsC call_isC)
variable [Tb : Tbs]
/-- keys made so far -/
def KeyInv (S T : List Str) (i j : Nat) (M : List Mv) : Prop := (keysOf M).Nodup ∧ (∀ k ∈ keysOf M, (k.1 ∈ S.take i ∧ k.2 ∈ T) ∨ (S[i]? = some k.1 ∧ k.2 ∈ T.take j)) ∧ ∀ m ∈ M, m.2 ∈ S
theorem not_in_take {S : List Str} (nd : S.Nodup) {i : Nat} {x : Str} (h : S[i]? = some x) : x ∉ S.take i := fun z => by
  have q : (S.take i ++ [x]).Nodup := by
    rw [take_snoc h]
    exact nd.sublist (List.take_sublist _ _)
  exact (List.nodup_append.mp q).2.2 _ z _ (List.mem_singleton.mpr rfl) rfl
theorem KeyInv.skip {S T : List Str} {i j : Nat} {M : List Mv} (k : KeyInv S T i j M) {t : Str} (ht : T[j]? = some t) : KeyInv S T i (j + 1) M :=
  ⟨k.1, fun q hq => (k.2.1 q hq).imp id fun ⟨h1, h2⟩ => ⟨h1, by rw [← take_snoc ht]; exact List.mem_append_left _ h2⟩, k.2.2⟩
theorem KeyInv.new {S T : List Str} (nS : S.Nodup) (nT : T.Nodup) {i j : Nat} {M : List Mv} (k : KeyInv S T i j M) {s t : Str} (hs : S[i]? = some s) (ht : T[j]? = some t) : (s, t) ∉ keysOf M := fun z => by
  rcases k.2.1 _ z with ⟨h1, _⟩ | ⟨_, h2⟩
  · exact not_in_take nS hs h1
  · exact not_in_take nT ht h2
theorem KeyInv.add {S T : List Str} (nS : S.Nodup) (nT : T.Nodup) {i j : Nat} {M : List Mv} (k : KeyInv S T i j M) {s t v : Str} (hs : S[i]? = some s) (ht : T[j]? = some t) (hv : v ∈ S) : KeyInv S T i (j + 1) (M ++ [((s, t), v)]) := by
  have q := k.skip ht
  refine ⟨?_, fun x hx => ?_, fun m hm => ?_⟩
  · unfold keysOf
    rw [List.map_append]
    exact nd_snoc k.1 (k.new nS nT hs ht)
  · unfold keysOf at hx
    rw [List.map_append] at hx
    rcases List.mem_append.mp hx with z | z
    · exact q.2.1 x z
    · rw [List.mem_singleton.mp z]
      exact .inr ⟨hs, by rw [← take_snoc ht]; exact List.mem_append_right _ (List.mem_singleton.mpr rfl)⟩
  · rcases List.mem_append.mp hm with z | z
    · exact k.2.2 m z
    · rw [List.mem_singleton.mp z]
      exact hv
theorem KeyInv.len {S T : List Str} {i j : Nat} {M : List Mv} (k : KeyInv S T i j M) : (∀ q ∈ keysOf M, q.1 ∈ S ∧ q.2 ∈ T) ∧ M.length ≤ S.length * T.length := by
  have h : ∀ q ∈ keysOf M, q.1 ∈ S ∧ q.2 ∈ T := fun q hq => by
    rcases k.2.1 q hq with ⟨h1, h2⟩ | ⟨h1, h2⟩
    · exact ⟨List.mem_of_mem_take h1, h2⟩
    · exact ⟨List.mem_of_getElem? h1, List.mem_of_mem_take h2⟩
  refine ⟨h, ?_⟩
  have l := sub_len (keysOf M) (S.flatMap fun s => T.map fun t => (s, t)) k.1 fun q hq => List.mem_flatMap.mpr ⟨q.1, (h q hq).1, List.mem_map.mpr ⟨q.2, (h q hq).2, rfl⟩⟩
  have len : ∀ l : List Str, (l.flatMap fun s => T.map fun t => (s, t)).length = l.length * T.length := fun l => by
    induction l with
    | nil => simp
    | cons a r ih => rw [List.flatMap_cons, List.length_append, ih, List.length_map, List.length_cons, Nat.add_mul, Nat.one_mul, Nat.add_comm]
  rw [len, List.length_map] at l
  exact l
end Sv
namespace Sv
open PySem PySem.Spec PyProof.Rows L2
open C8 (Cal Mak Met cal0 mak0 met0 pe_c pe_mk pe_mt pe_mt0 fnBody fnArgs fnScope scC fnScope_by pe_gc InsC call_isC)
variable [Tb : Tbs]
section
variable {P : Program} {K : PySem.W.Frag} {mg : Str → Option Value} {base : Heap}
theorem Keep.none {p g b : Addr} {H H' : Hp} (k : Keep p g H H') (d1 : b ≠ p) (d2 : b ≠ g) (h : H' b = none) : H b = none := by
  cases e : H b with
  | none => rfl
  | some o => exact (not_two h (k b d1 d2 o e)).elim
end
end Sv
namespace Sv
open PySem PySem.Spec PyProof.Rows L2
open C8 (Cal Mak Met cal0 mak0 met0 pe_c pe_mk pe_mt pe_mt0 fnBody fnArgs fnScope scC fnScope_by pe_gc InsC call_isC)
variable [Tb : Tbs]
def spLaw (K : PySem.W.Frag) : Sp := fun vs H Q _ => ∃ (a : Addr) (ns : List Int), vs = [.ref a] ∧ SqL K H a (ns.map V.int) ∧ ns.length ≤ 63 ∧ TOk H ∧ ∀ H', Q (.bl true) H'
abbrev lawK : Nat := 12
end Sv
namespace Sv
open PySem PySem.Spec PyProof.Rows L2
open C8 (Cal Mak Met cal0 mak0 met0 pe_c pe_mk pe_mt pe_mt0 fnBody fnArgs fnScope scC fnScope_by pe_gc InsC call_isC)
variable [Tb : Tbs]
/-! ### rows -/
def run (M : List Mv) (s : Str) (R : List Str) : Option Str := R.foldl (fun o t => o.bind fun s => look M s t) (some s)
def oV : Option Str → V
  | none => .non
  | some s => .str s
end Sv
namespace Sv
open PySem PySem.Spec PyProof.Rows L2
open C8 (Cal Mak Met cal0 mak0 met0 pe_c pe_mk pe_mt pe_mt0 fnBody fnArgs fnScope scC fnScope_by pe_gc InsC call_isC)
variable [Tb : Tbs]
section
variable {A : Anc} {X : Cx} {L : Lk} {K : PySem.W.Frag} {F F' H H' : Hp} {ε : DEnv} {σ : L2.St} {e : Expr}
/-! ### own operators over data -/
/-! ### promises, bridged -/
theorem left_same {l : Addr → Option Obj} (lo : Low l F H) (s : Same H H') : Left l F H F H' := left_sam lo (.of s)
theorem sq_of {l : Addr → Option Obj} {v : V} {x : Dt} {S : List Str} (lo : Low l F H) (i : Is K F v x) (h : itemsD x = some (S.map .str)) : ∃ a, v = .ref a ∧ (SqL K H a (S.map V.str) ∨ SqT K H a (S.map V.str)) := by
  obtain ⟨a, vs, e, hs, r⟩ := itemsD_sq lo i h
  rw [r.strs_inv] at hs
  exact ⟨a, e, hs⟩
end
section
variable {K : PySem.W.Frag} {F H : Hp}
def mFs (T : List Str) (st : Str) (M : List Mv) (Fi S : List Str) : List (Str × Dt) := [("letters", .tup (T.map .str)), ("origin", .str st), ("arrows", .dic .t (mvD M)), ("goals", .tup (Fi.map .str)), ("nodes", .tup (S.map .str))]
abbrev mD (C : Addr) (T : List Str) (st : Str) (M : List Mv) (Fi S : List Str) : Dt := .ins C (mFs T st M Fi S)
theorem lkD_ne {f g : Str} {u : Dt} {fs : List (Str × Dt)} (h : ¬ f = g) : ((g, u) :: fs).lookup f = fs.lookup f := by
  rw [List.lookup_cons, beq_eq_false_iff_ne.mpr h]
section
variable {T : List Str} {st : Str} {M : List Mv} {Fi S : List Str}
theorem mFs_no {m : Str} (h1 : ¬ m = "letters") (h2 : ¬ m = "origin") (h3 : ¬ m = "arrows") (h4 : ¬ m = "goals") (h5 : ¬ m = "nodes") : (mFs T st M Fi S).lookup m = none := (lkD_ne h1).trans ((lkD_ne h2).trans ((lkD_ne h3).trans ((lkD_ne h4).trans ((lkD_ne h5).trans rfl))))
end
end
section
variable {A : Anc} {X : Cx} {L : Lk} {K : PySem.W.Frag} {F F' H H' : Hp} {ε : DEnv} {σ : L2.St} {e : Expr}
/-! ### a machine is made -/
theorem Rep.same (R : Rep A L F ε σ H) (s : Same H H') : Rep A L F ε σ H' := R.left (left_same R.low s)
end
end Sv
namespace Sv
open PySem PySem.Spec PyProof.Rows L2
variable [Tb : Tbs]
/-! ### further readings over data -/
/-- an edit -/
def edD (e : List Str) : Dt := .tup (e.map .str)
section
variable {A : Anc} {X : Cx} {L : Lk} {K : PySem.W.Frag} {F F' H : Hp} {ε : DEnv} {σ : L2.St} {e : Expr}
/-- a list times an int -/
def gRepL (ga gb : GE) : GR := fun ε P => ga ε fun ε1 x => gb ε1 fun ε2 y => ∃ xs k, x = .lst xs ∧ y = .int k ∧ 0 ≤ k ∧ k ≤ 100000 ∧ xs.length * k.toNat ≤ 100000 ∧ P ε2 (.ol (List.replicate k.toNat xs).flatten)
theorem xr_repL {ga gb : GE} (h : PE X e (tOp rRep (tE A ga) (tE A gb))) : XR A X e (gRepL ga gb) := h.weak fun σ H Q ⟨L, F, ε, P, R, hg, k⟩ => ⟨L, F, ε, _, R, hg, fun F1 ε1 H1 v x s1 R1 i1 q1 => ⟨L, F1, ε1, _, R1, q1, fun F2 ε2 H2 u y s2 R2 i2 ⟨xs, n, ex, ey, n0, n1, l, p⟩ => by
  subst ex ey
  cases i2
  obtain ⟨a, us, rfl, ha, r⟩ := i1.lst_inv
  refine ⟨a, n, us, rfl, rfl, R2.low.nd (s2 _ _ ha) fun z => z, by omega, by omega, by rw [r.length]; exact Nat.le_trans l (show 100000 ≤ sizeLine by decide), fun q nq => ?_⟩
  exact k F2 ε2 _ (.ref q) (.ol _) (s1.trans s2) (R2.newOff _ nq) ⟨q, _, rfl, R2.own nq, upd_same, (r.mono s2).rep _⟩ p⟩⟩
end
end Sv
namespace Sv
open PySem PySem.Spec PyProof.Rows L2
open C8 (Cal Mak Met cal0 mak0 met0 pe_c pe_mk pe_mt pe_mt0 fnBody fnArgs fnScope scC fnScope_by pe_gc InsC call_isC)
variable [Tb : Tbs]
/-! ### the machine's methods over data -/
def oD : Option Str → Dt
  | none => .non
  | some s => .str s
section
variable {P : Program} {K : PySem.W.Frag} {mg : Str → Option Value} {base : Heap} {C : Addr}
theorem d_no {T : List Str} {st : Str} {M : List Mv} {F S : List Str} : (mFs T st M F S).lookup ("tokens" : Str) = none ∧ (mFs T st M F S).lookup ("states" : Str) = none ∧ (mFs T st M F S).lookup ("moves" : Str) = none ∧ (mFs T st M F S).lookup ("finals" : Str) = none :=
  ⟨mFs_no (by decide +kernel) (by decide +kernel) (by decide +kernel) (by decide +kernel) (by decide +kernel), mFs_no (by decide +kernel) (by decide +kernel) (by decide +kernel) (by decide +kernel) (by decide +kernel), mFs_no (by decide +kernel) (by decide +kernel) (by decide +kernel) (by decide +kernel) (by decide +kernel), mFs_no (by decide +kernel) (by decide +kernel) (by decide +kernel) (by decide +kernel) (by decide +kernel)⟩
theorem in_oD (o : Option Str) (F : List Str) : inF (oD o) (F.map Dt.str) = inV (oV o) (F.map V.str) := by
  unfold inF inV eqF
  rw [List.any_map, List.any_map]
  cases o <;> rfl
theorem flat_sD (F : List Str) : (F.map Dt.str).all flatD = true := by
  rw [List.all_map]
  exact List.all_eq_true.mpr fun _ _ => rfl
theorem flat_oD (o : Option Str) : flatD (oD o) = true := by cases o <;> rfl
end
end Sv
namespace Sv
open PySem PySem.Spec PyProof.Rows L2
open C8 (Cal Mak Met cal0 mak0 met0 pe_c pe_mk pe_mt pe_mt0 fnBody fnArgs fnScope scC fnScope_by pe_gc InsC call_isC)
variable [Tb : Tbs]
/-! ### a dict handed on to be changed -/
def del (H : Hp) (a : Addr) : Hp := fun b => if b = a then none else H b
theorem del_same {H : Hp} {a : Addr} : del H a a = none := by unfold del; rw [if_pos rfl]
theorem del_ne {H : Hp} {a b : Addr} (h : b ≠ a) : del H a b = H b := by unfold del; rw [if_neg h]
theorem del_sub {H : Hp} {a : Addr} : Same (del H a) H := fun b o e => by
  by_cases h : b = a
  · rw [h, del_same] at e; cases e
  · rwa [del_ne h] at e
section
variable {A : Anc} {X : Cx} {L : Lk} {K : PySem.W.Frag} {F F' H H' : Hp} {ε : DEnv} {σ : L2.St} {e : Expr}
theorem Low.del {l : Addr → Option Obj} (w : Low l F H) {a : Addr} (h : F a = none) : Low l F (del H a) :=
  ⟨fun b o e => by rw [del_ne (ne_of_none e h)]; exact w.at_ b o e, w.dom, w.nt⟩
theorem Rep.del (R : Rep A L F ε σ H) {a : Addr} (w : Own A L F ε a) {u0 : HO} (h0 : H a = some u0) (w0 : Wr u0) : Rep A L F ε σ (del H a) := by
  have ns : ∀ (i : Nat) (s : Sl), ε[i]? = some s → ∀ b ∈ adr s, b ≠ a := fun i s e b m z => w.ns i s e (z ▸ m)
  refine ⟨R.len, R.low.del w.nf, fun i s e => (R.val i s e).keep fun b m u hu => by rw [del_ne (ns i s e b m)]; exact hu, fun i s b e m => ?_, R.dis, fun b o np e n l => ?_, R.newF, R.newO, R.lk, fun b hb => ?_, R.pup, fun b o e => ?_, R.hds, ?_, fun b e => ?_⟩
  · obtain ⟨h1, u, h2⟩ := R.off i s b e m
    exact ⟨h1, u, by rw [del_ne (ns i s e b m)]; exact h2⟩
  · rw [del_ne (fun z => by rw [z, w.nh] at e; cases e)]
    exact R.keep b o np e n l
  · obtain ⟨u, hu⟩ := R.pgs b hb
    have nb : b ≠ a := fun z => w.np (z ▸ hb)
    exact ⟨u, by rw [del_ne nb]; exact hu⟩
  · obtain ⟨h1, h2⟩ := R.hid b o e
    have nb : b ≠ a := fun z => by rw [z, w.nx] at e; cases e
    exact ⟨by rw [del_ne nb]; exact h1, h2⟩
  · refine R.tab.stay (fun b ps e => ?_) fun b φ e => ?_
    · rw [del_ne fun z => by rw [z, h0] at e; cases e; exact w0]; exact e
    · rw [del_ne fun z => by rw [z, h0] at e; cases e; exact w0]; exact e
  · by_cases z : b = a
    · rw [z]; exact w.nh
    · rw [del_ne z] at e
      exact R.nw b e
end
end Sv
namespace Sv
open PySem PySem.Spec PyProof.Rows L2
variable [Tb : Tbs]
/-! ### costs by states -/
abbrev Cm := List (Str × Int)
def ck (c : Cm) (s : Str) : Option Int := (c.find? fun p => decide (p.1 = s)).map (·.2)
theorem ck_cons {p : Str × Int} {c : Cm} {s : Str} : ck (p :: c) s = if p.1 = s then some p.2 else ck c s := by
  unfold ck
  rw [List.find?_cons]
  by_cases h : p.1 = s
  · rw [if_pos h, decide_eq_true h]; rfl
  · rw [if_neg h, decide_eq_false h]
def cput (c : Cm) (s : Str) (v : Int) : Cm := if (ck c s).isSome = true then c.map (fun p => if p.1 = s then (p.1, v) else p) else c ++ [(s, v)]
theorem ck_map {s t : Str} {v : Int} : ∀ {c : Cm}, ck (c.map fun p => if p.1 = s then (p.1, v) else p) t = if t = s then (ck c t).map (fun _ => v) else ck c t
  | [] => by by_cases h : t = s <;> simp [ck, h]
  | p :: c => by
    rw [List.map_cons, ck_cons, ck_cons, ck_map]
    by_cases h1 : p.1 = s
    · by_cases h2 : t = s
      · simp [h1, h2]
      · have h3 : ¬ s = t := fun z => h2 z.symm
        simp [h1, h2, h3]
    · by_cases h2 : t = s
      · by_cases h3 : p.1 = t
        · exact (h1 (h3.trans h2)).elim
        · simp [h1, h2]
      · simp [h1, h2]
theorem ck_app {s t : Str} {v : Int} : ∀ {c : Cm}, ck c s = none → ck (c ++ [(s, v)]) t = if t = s then some v else ck c t
  | [], _ => by
    rw [List.nil_append, ck_cons]
    by_cases h : t = s
    · rw [if_pos h, if_pos h.symm]
    · rw [if_neg h, if_neg fun z => h z.symm]
  | p :: c, e => by
    rw [ck_cons] at e
    by_cases h1 : p.1 = s
    · rw [if_pos h1] at e; cases e
    · rw [if_neg h1] at e
      rw [List.cons_append, ck_cons, ck_cons, ck_app e]
      by_cases h2 : t = s
      · rw [if_pos h2, if_neg (fun z => h1 (z.trans h2)), if_pos h2]
      · rw [if_neg h2, if_neg h2]
theorem ck_put {c : Cm} {s t : Str} {v : Int} : ck (cput c s v) t = if t = s then some v else ck c t := by
  unfold cput
  cases e : ck c s with
  | none => rw [if_neg (by decide), ck_app e]
  | some o =>
    rw [if_pos (by rfl), ck_map]
    by_cases h : t = s
    · rw [if_pos h, if_pos h, h, e]; rfl
    · rw [if_neg h, if_neg h]
abbrev ckeys (c : Cm) : List Str := c.map (·.1)
theorem ck_none {s : Str} : ∀ {c : Cm}, ck c s = none ↔ s ∉ ckeys c
  | [] => by simp [ck, ckeys]
  | p :: c => by
    rw [ck_cons]
    by_cases h : p.1 = s
    · rw [if_pos h]; simp [ckeys, h]
    · rw [if_neg h, ck_none]
      simp only [ckeys, List.map_cons, List.mem_cons, not_or]
      exact ⟨fun z => ⟨fun y => h y.symm, z⟩, fun z => z.2⟩
theorem ck_of_mem {s : Str} {v : Int} : ∀ {c : Cm}, (ckeys c).Nodup → (s, v) ∈ c → ck c s = some v
  | [], _, h => by cases h
  | p :: c, nd, h => by
    have nd' := List.nodup_cons.mp nd
    rw [ck_cons]
    rcases List.mem_cons.mp h with rfl | h
    · rw [if_pos rfl]
    · rw [if_neg fun e => nd'.1 (List.mem_map.mpr ⟨_, h, e.symm⟩)]
      exact ck_of_mem nd'.2 h
theorem ckeys_put {c : Cm} {s : Str} {v : Int} : ckeys (cput c s v) = if (ck c s).isSome = true then ckeys c else ckeys c ++ [s] := by
  unfold cput
  by_cases h : (ck c s).isSome = true
  · rw [if_pos h, if_pos h]
    unfold ckeys
    rw [List.map_map]
    refine List.map_congr_left fun p _ => ?_
    show (if p.1 = s then _ else _ : Str × Int).1 = p.1
    by_cases e : p.1 = s
    · rw [if_pos e]
    · rw [if_neg e]
  · rw [if_neg h, if_neg h]
    unfold ckeys
    rw [List.map_append]
    rfl
theorem nd_put {c : Cm} {s : Str} {v : Int} (nd : (ckeys c).Nodup) : (ckeys (cput c s v)).Nodup := by
  rw [ckeys_put]
  cases e : ck c s with
  | none => rw [if_neg (by decide)]; exact nd_snoc nd (ck_none.mp e)
  | some o => exact nd
theorem len_put {c : Cm} {s : Str} {v : Int} : (cput c s v).length = if (ck c s).isSome = true then c.length else c.length + 1 := by
  have h : (ckeys (cput c s v)).length = _ := congrArg List.length (ckeys_put (c := c) (s := s) (v := v))
  unfold ckeys at h
  rw [List.length_map] at h
  rw [h]
  by_cases e : (ck c s).isSome = true
  · rw [if_pos e, if_pos e, List.length_map]
  · rw [if_neg e, if_neg e, List.length_append, List.length_map]; rfl
def sumV (c : Cm) : Nat := (c.map fun p => p.2.toNat).sum
theorem map_off {c : Cm} {s : Str} {v : Int} (h : s ∉ ckeys c) : (c.map fun p => if p.1 = s then (p.1, v) else p) = c := by
  refine (List.map_congr_left fun p hp => ?_).trans (List.map_id' c)
  rw [if_neg fun z => h (List.mem_map.mpr ⟨p, hp, z⟩)]
theorem sum_put {s : Str} {v o : Int} : ∀ {c : Cm}, (ckeys c).Nodup → ck c s = some o → sumV (c.map fun p => if p.1 = s then (p.1, v) else p) + o.toNat = sumV c + v.toNat
  | [], _, h => by cases h
  | p :: c, nd, h => by
    have nd' := List.nodup_cons.mp nd
    rw [ck_cons] at h
    unfold sumV
    rw [List.map_cons, List.map_cons, List.map_cons, List.sum_cons, List.sum_cons]
    by_cases e : p.1 = s
    · rw [if_pos e] at h
      cases h
      rw [if_pos e, map_off (by rw [← e]; exact nd'.1)]
      show v.toNat + _ + _ = _
      omega
    · rw [if_neg e] at h
      rw [if_neg e]
      have := sum_put (v := v) nd'.2 h
      unfold sumV at this
      omega
/-! ### scripts, by row, cost and the state that the target leads to -/
inductive Pu (M : List Mv) : Nat → Str → Str → Prop
  | refl (s : Str) : Pu M 0 s s
  | step {k : Nat} {s u x t : Str} : Pu M k s u → ((u, x), t) ∈ M → Pu M (k + 1) s t
inductive Sc (M : List Mv) (s0 : Str) : List Str → Int → Str → Prop
  | nil : Sc M s0 [] 0 s0
  | put {r : List Str} {c : Int} {s x t : Str} : Sc M s0 r c s → ((s, x), t) ∈ M → Sc M s0 r (c + 1) t
  | drop {r : List Str} {c : Int} {s a : Str} : Sc M s0 r c s → Sc M s0 (r ++ [a]) (c + 1) s
  | wr {r : List Str} {c : Int} {s x t a : Str} : Sc M s0 r c s → ((s, x), t) ∈ M → Sc M s0 (r ++ [a]) (c + if a = x then 0 else 1) t
section
variable {M M' : List Mv} {s0 : Str} {r : List Str} {c : Int} {s t a : Str} {d d' b : Cm}
theorem Sc.nonneg (h : Sc M s0 r c s) : 0 ≤ c := by
  induction h with
  | nil => exact Int.le_refl 0
  | put _ _ ih => omega
  | drop _ ih => omega
  | wr _ _ ih => split <;> omega
theorem Sc.sub (h : Sc M s0 r c s) (i : ∀ m ∈ M, m ∈ M') : Sc M' s0 r c s := by
  induction h with
  | nil => exact .nil
  | put _ m ih => exact .put ih (i _ m)
  | drop _ ih => exact .drop ih
  | wr _ m ih => exact .wr ih (i _ m)
/-- d tells for each state the least cost of a script from r to it -/
structure Exact (M : List Mv) (s0 : Str) (r : List Str) (d : Cm) : Prop where
  nd : (ckeys d).Nodup
  so : ∀ t c, ck d t = some c → Sc M s0 r c t
  co : ∀ c t, Sc M s0 r c t → ∃ c', ck d t = some c' ∧ c' ≤ c
/-! short ways -/
/-! right rows cost nothing -/
theorem run_snoc {R : List Str} {x : Str} : run M s (R ++ [x]) = (run M s R).bind fun u => look M u x := by
  unfold run
  rw [List.foldl_append]
  rfl
theorem Sc.run (kn : (keysOf M).Nodup) (h : Sc M s0 r c t) : c = 0 → Sv.run M s0 r = some t := by
  induction h with
  | nil => exact fun _ => rfl
  | put h _ _ => intro z; have := h.nonneg; omega
  | drop h _ => intro z; have := h.nonneg; omega
  | wr h m ih =>
    intro z
    have := h.nonneg
    rename_i c _ x t a
    by_cases e : a = x
    · rw [if_pos e] at z
      rw [run_snoc, ih (by omega), e]
      exact look_of_mem kn m
    · rw [if_neg e] at z; omega
/-! the trimmed machine -/
end
end Sv
namespace Sv
open PySem PySem.Spec PyProof.Rows L2
open C8 (Cal Mak Met cal0 mak0 met0 pe_c pe_mk pe_mt pe_mt0 fnBody fnArgs fnScope scC fnScope_by pe_gc InsC call_isC)
variable [Tb : Tbs]
/-! ### the fewest edits -/
/-- all states of the moves are reached -/
structure Hop (M : List Mv) (st : Str) : Prop where
  fr : ∀ m ∈ M, ∃ k, Pu M k st m.1.1
  few : M.length ≤ 24
  kn : (keysOf M).Nodup
theorem Hop.to {M : List Mv} {st : Str} (h : Hop M st) : ∀ m ∈ M, ∃ k, Pu M k st m.2 := fun m hm => by
  obtain ⟨k, p⟩ := h.fr m hm
  exact ⟨k + 1, .step p (x := m.1.2) (show ((m.1.1, m.1.2), m.2) ∈ M from hm)⟩
/-! the costs grow less -/
structure LInv (B : List Mv) (S : List Str) (V : Nat) (d L : Cm) : Prop where
  nd : (ckeys L).Nodup
  so : ∀ t c, ck L t = some c → ∃ s c0 k, ck d s = some c0 ∧ Pu B k s t ∧ c = c0 + (k : Int)
  le : ∀ s c0, ck d s = some c0 → ∃ c', ck L s = some c' ∧ c' ≤ c0
  lo : ∀ s c, ck L s = some c → 0 ≤ c ∧ c ≤ ((V + L.length : Nat) : Int)
  sub : ∀ s ∈ ckeys L, s ∈ S
def muC (S : List Str) (V : Nat) (L : Cm) : Nat := (S.length - L.length) * (V + S.length + 1) + sumV L
section
variable {B : List Mv} {S : List Str} {V : Nat} {d L : Cm} {s t x : Str} {c : Int}
theorem sum_app : sumV (L ++ [(t, c)]) = sumV L + c.toNat := by
  unfold sumV
  rw [List.map_append, List.sum_append]
  simp
theorem LInv.len (h : LInv B S V d L) : L.length ≤ S.length := by
  have := sub_len (ckeys L) S h.nd h.sub
  rwa [List.length_map] at this
theorem LInv.put (h : LInv B S V d L) (mv : ∀ m ∈ B, m.2 ∈ S) (e : ck L s = some c) (m : ((s, x), t) ∈ B) (o : ck L t = none ∨ ∃ o, ck L t = some o ∧ c + 1 < o) : LInv B S V d (cput L t (c + 1)) ∧ muC S V (cput L t (c + 1)) < muC S V L := by
  have c0 := (h.lo s c e).1
  have c1 := (h.lo s c e).2
  have nd2 := nd_put (s := t) (v := c + 1) h.nd
  have sub2 : ∀ u ∈ ckeys (cput L t (c + 1)), u ∈ S := fun u hu => by
    rw [ckeys_put] at hu
    by_cases z : (ck L t).isSome = true
    · rw [if_pos z] at hu; exact h.sub u hu
    · rw [if_neg z] at hu
      rcases List.mem_append.mp hu with hu | hu
      · exact h.sub u hu
      · rw [List.mem_singleton.mp hu]; exact mv _ m
  have ln2 : L.length ≤ (cput L t (c + 1)).length := by rw [len_put]; split <;> omega
  have hi : c + 1 ≤ ((V + (cput L t (c + 1)).length : Nat) : Int) := by
    rcases o with o | ⟨o, ho, lt⟩
    · rw [len_put, o, if_neg (by decide)]; omega
    · have := (h.lo t o ho).2; omega
  refine ⟨⟨nd2, fun u v hu => ?_, fun u v hu => ?_, fun u v hu => ?_, sub2⟩, ?_⟩
  · rw [ck_put] at hu
    by_cases z : u = t
    · rw [if_pos z] at hu
      cases hu
      obtain ⟨s', a, k, h1, h2, h3⟩ := h.so s c e
      exact ⟨s', a, k + 1, h1, by rw [z]; exact .step h2 m, by omega⟩
    · rw [if_neg z] at hu; exact h.so u v hu
  · obtain ⟨a, h1, h2⟩ := h.le u v hu
    by_cases z : u = t
    · refine ⟨c + 1, by rw [ck_put, if_pos z], ?_⟩
      rw [z] at h1
      rcases o with o | ⟨o, ho, lt⟩
      · rw [o] at h1; cases h1
      · rw [ho] at h1; cases h1; omega
    · exact ⟨a, by rw [ck_put, if_neg z]; exact h1, h2⟩
  · rw [ck_put] at hu
    by_cases z : u = t
    · rw [if_pos z] at hu; cases hu; exact ⟨by omega, hi⟩
    · rw [if_neg z] at hu
      have := h.lo u v hu
      exact ⟨this.1, by omega⟩
  · have l2 : (cput L t (c + 1)).length ≤ S.length := by
      have := sub_len _ S nd2 sub2
      rwa [List.length_map] at this
    unfold muC
    rcases o with o | ⟨o, ho, lt⟩
    · have e1 : cput L t (c + 1) = L ++ [(t, c + 1)] := by unfold cput; rw [o, if_neg (by decide)]
      rw [e1] at l2 ⊢
      rw [sum_app]
      rw [List.length_append] at l2 ⊢
      simp only [List.length_cons, List.length_nil] at l2 ⊢
      obtain ⟨q, hq⟩ : ∃ q, S.length - L.length = q + 1 := ⟨S.length - L.length - 1, by omega⟩
      rw [hq, show S.length - (L.length + (0 + 1)) = q by omega, Nat.add_mul, Nat.one_mul]
      omega
    · have e1 : (cput L t (c + 1)).length = L.length := by rw [len_put, ho]; rfl
      rw [e1]
      have e2 := sum_put (v := c + 1) h.nd ho
      have e3 : cput L t (c + 1) = L.map (fun p => if p.1 = t then (p.1, c + 1) else p) := by unfold cput; rw [ho]; rfl
      rw [← e3] at e2
      omega
end
end Sv
namespace Sv
open PySem PySem.Spec PyProof.Rows L2
open C8 (Cal Mak Met cal0 mak0 met0 pe_c pe_mk pe_mt pe_mt0 fnBody fnArgs fnScope scC fnScope_by pe_gc InsC call_isC)
variable [Tb : Tbs]
section
variable {B M : List Mv} {s0 s t : Str} {r : List Str} {c : Int} {d b : Cm} {k : Nat}
theorem Pu.sub {M' : List Mv} (i : ∀ m ∈ M, m ∈ M') (p : Pu M k s t) : Pu M' k s t := by
  induction p with
  | refl => exact .refl _
  | step _ m ih => exact .step ih (i _ m)
theorem Sc.inS (h : Sc M s0 r c t) : t ∈ s0 :: M.map (·.2) := by
  induction h with
  | nil => exact List.mem_cons_self
  | put _ m _ => exact List.mem_cons_of_mem _ (List.mem_map.mpr ⟨_, m, rfl⟩)
  | drop _ ih => exact ih
  | wr _ m _ => exact List.mem_cons_of_mem _ (List.mem_map.mpr ⟨_, m, rfl⟩)
theorem Exact.sub (e : Exact M s0 r d) : ∀ s ∈ ckeys d, s ∈ s0 :: M.map (·.2) := fun s hs => by
  obtain ⟨p, hp, rfl⟩ := List.mem_map.mp hs
  exact (e.so _ _ (ck_of_mem e.nd hp)).inS
theorem Exact.len (e : Exact M s0 r d) : d.length ≤ M.length + 1 := by
  have := sub_len _ _ e.nd e.sub
  rw [List.length_map, List.length_cons, List.length_map] at this
  exact this
end
theorem inF_str (s : Str) (L : List Str) : inF (.str s) (L.map Dt.str) = decide (s ∈ L) := (in_oD (some s) L).trans (inV_str s L)
end Sv
namespace Sv
open PySem PySem.Spec PyProof.Rows L2
open C8 (Cal Mak Met cal0 mak0 met0 pe_c pe_mk pe_mt pe_mt0 fnBody fnArgs fnScope scC fnScope_by pe_gc InsC call_isC)
variable [Tb : Tbs]
/-! ### the law's own closure -/
theorem ifDec {p A B : Prop} [Decidable p] (h1 : p → A) (h2 : ¬ p → B) : if (decide p) = true then A else B := by
  by_cases h : p
  · rw [decide_eq_true h]; exact h1 h
  · rw [decide_eq_false h]; exact h2 h
theorem ifNotIn {s : Str} {L : List Str} {A B : Prop} (h1 : s ∉ L → A) (h2 : s ∈ L → B) : if (if true = true then !inF (.str s) (L.map Dt.str) else inF (.str s) (L.map Dt.str)) = true then A else B := by
  rw [if_pos rfl, inF_str]
  by_cases h : s ∈ L
  · rw [decide_eq_true h]; exact h2 h
  · rw [decide_eq_false h]; exact h1 h
end Sv
namespace Sv
open PySem PySem.Spec PyProof.Rows L2
variable [Tb : Tbs]
/-! ### isinstance over data -/
def tyD : Dt → Option String
  | .non => some "NoneType"
  | .bl _ => some "bool"
  | .int _ => some "int"
  | .str _ => some "str"
  | .tup _ => some "tuple"
  | .tupc _ => some "tuple"
  | .lst _ => some "list"
  | .dic .k _ => some "dict"
  | _ => none
section
variable {A : Anc} {X : Cx} {L : Lk} {K : PySem.W.Frag} {F H : Hp} {e : Expr}
theorem is_ty {l : Addr → Option Obj} (lo : Low l F H) {v : V} {d : Dt} {t : String} (i : Is K F v d) (h : tyD d = some t) : TyX K H v (.type t) := by
  cases i <;> cases h
  · exact .base .non
  · exact .base (.bl _)
  · exact .base (.int _)
  · exact .base (.str _)
  · rename_i h r; exact ty_sqt (SqT.of (lo.nd h fun z => z))
  · rename_i h r; exact ty_sqt (sqT_none h)
  · rename_i h r; exact ty_sql (SqL.of (lo.nd h fun z => z))
  · rename_i h r
    rcases lo.rd h with e | ⟨ob, e⟩
    · exact .base (.dK e)
    · exact .fDict e
def gIsi (c : String) (g : GE) : GE := fun ε P => g ε fun ε1 x => ∃ t b, tyD x = some t ∧ kitB t c = some b ∧ P ε1 (.bl b)
theorem xe_isi {c : String} {g : GE} (h : PE X e (tCB (rIsi X.K) (tCons (tE A g) (tCons (tC (.ty c)) tNil)))) (hK : X.K = A.K := by rfl) : XE A X e (gIsi c g) := h.weak fun σ H Q ⟨L, F, ε, P, R, hg, k⟩ => ⟨L, F, ε, _, R, hg, fun F1 ε1 H1 v x s1 R1 i1 ⟨t, b, ht, hb, p⟩ => by
  refine ⟨v, .ty c, .type t, .type c, b, rfl, .ty c, by rw [hK]; exact is_ty R1.low i1 ht, kit_ty hb, k F1 ε1 H1 _ _ s1 R1 (.bl b) p⟩⟩
end
end Sv
namespace Sv
open PySem PySem.Spec PyProof.Rows L2
variable [Tb : Tbs]
/-! ### isinstance against two classes; of dicts -/
theorem kitAny2 {K : PySem.W.Frag} {t c1 c2 : String} {b1 b2 : Bool} (h1 : kitB t c1 = some b1) (h2 : kitB t c2 = some b2) : PySem.W.kitAny K (.type t) [.type c1, .type c2] = some (b1 || b2) := by
  unfold PySem.W.kitAny
  rw [kit_ty (K := K) h1]
  cases b1 with
  | true => rfl
  | false =>
    unfold PySem.W.kitAny
    rw [kit_ty (K := K) h2]
    cases b2 <;> rfl
section
variable {A : Anc} {X : Cx} {L : Lk} {K : PySem.W.Frag} {F H : Hp} {e : Expr}
def gIsiT (c1 c2 : String) (g : GE) : GE := fun ε P => g ε fun ε1 x => ∃ t b1 b2, tyD x = some t ∧ kitB t c1 = some b1 ∧ kitB t c2 = some b2 ∧ P ε1 (.bl (b1 || b2))
theorem xe_isiT {c1 c2 : String} {g : GE} (h : PE X e (tCB (rIsiT X.K) (tCons (tE A g) (tCons (tTup (tCons (tC (.ty c1)) (tCons (tC (.ty c2)) tNil))) tNil)))) (hK : X.K = A.K := by rfl) : XE A X e (gIsiT c1 c2 g) := h.weak fun σ H Q ⟨L, F, ε, P, R, hg, k⟩ => ⟨L, F, ε, _, R, hg, fun F1 ε1 H1 v x s1 R1 i1 ⟨t, b1, b2, ht, h1, h2, p⟩ => by
  refine ⟨by show 2 ≤ sizeLine; decide, fun q nq => ?_⟩
  have R2 := R1.newOff (.tup [.ty c1, .ty c2]) nq
  exact ⟨v, q, _, .type t, [.type c1, .type c2], b1 || b2, rfl, upd_same, .cons (.ty _) (.cons (.ty _) .nil), by rw [hK]; exact is_ty R2.low i1 ht, kitAny2 h1 h2, k F1 ε1 _ _ _ s1 R2 (.bl _) p⟩⟩
end
end Sv
namespace Sv
open PySem PySem.Spec PyProof.Rows L2
open C8 (Cal Mak Met cal0 mak0 met0 pe_c pe_mk pe_mt pe_mt0 fnBody fnArgs fnScope scC fnScope_by pe_gc InsC call_isC)
variable [Tb : Tbs]
/-! ### names and pairs over data -/
/-! ### steps that answer themselves -/
local macro_rules | `(tactic| walk_at "side") => `(tactic| first | rfl | assumption | exact key_p (_, _) | exact key_p _ | exact key_s _ | exact flat_oD _ | exact flat_sD _ | omega | decide)
local macro_rules | `(tactic| walk_at "noloop") => `(tactic| fail_if_success (first | refine ⟨(fun (_ : Nat) (_ : DEnv) => True), ?_⟩ | refine ⟨(fun (_ : Nat) (_ : DEnv) (_ : List Dt) => True), ?_⟩ | refine ⟨(fun (_ : Nat) (_ : DEnv) (_ : List (Dt × Dt)) => True), ?_⟩ | refine ⟨(fun (_ : DEnv) => True), ?_⟩))
local macro_rules | `(tactic| walk_at "step1") => `(tactic| (walk_at "noloop"; first
  | refine ⟨(_ : Dt), rfl, ?_⟩
  | refine ⟨(_ : Bool), rfl, ?_⟩
  | refine ⟨(_ : List Dt), rfl, ?_⟩
  | refine ⟨(_ : Int), rfl, ?_⟩
  | refine ⟨(_ : Res), rfl, ?_⟩
  | refine ⟨(_ : List (Dt × Dt)), rfl, ?_⟩
  | refine ⟨(_ : Dt), (_ : List Dt), rfl, rfl, (by first | (intro _ z; cases z; done) | (intro _ z; exact Dt.noConfusion z)), ?_⟩
  | refine ⟨(_ : Dt), ⟨_, _, rfl, rfl, rfl⟩, ?_⟩
  | refine ⟨(_ : Dt), ⟨rfl, rfl⟩, ?_⟩
  | refine ⟨(_ : Dt), (_ : Dt), rfl, ⟨_, _, rfl, rfl, (by walk_at "side")⟩, ?_⟩
  | refine ⟨(_ : Dt), (_ : Dt), rfl, ⟨_, _, rfl, (by walk_at "side"), (by walk_at "side")⟩, ?_⟩
  | refine ⟨(_ : Kd), _, rfl, (by walk_at "side"), ?_⟩
  | refine ⟨(_ : Kd), _, rfl, ?_⟩
  | refine ⟨(_ : Dt), _, rfl, rfl, (by walk_at "side"), (by walk_at "side"), ?_⟩
  | refine ⟨(_ : Dt), (_ : Nat), rfl, rfl, ?_⟩
  | refine ⟨Nat.le_of_ble_eq_true rfl, ?_⟩
  | refine ⟨_, (_ : Dt), rfl, (by walk_at "side"), ?_⟩
  | refine ⟨⟨_, _, rfl⟩, ?_⟩
  | refine ⟨⟨_, _, _, rfl⟩, ?_⟩
  | refine ⟨(_ : List Dt), .inl rfl, rfl, ?_⟩
  | refine ⟨(_ : Dt), (_ : List Dt), rfl, ?_⟩
  | refine ⟨(rfl : ([] : List Dt) = []), ?_⟩
  | refine ⟨(_ : String), true, rfl, (by decide +kernel), ?_⟩
  | refine ⟨(_ : String), false, rfl, (by decide +kernel), ?_⟩
  | refine ⟨(_ : String), true, false, rfl, (by decide +kernel), (by decide +kernel), ?_⟩
  | refine ⟨(_ : String), false, true, rfl, (by decide +kernel), (by decide +kernel), ?_⟩
  | refine ⟨(_ : String), false, false, rfl, (by decide +kernel), (by decide +kernel), ?_⟩
  | refine ⟨(_ : Kd), _, true, rfl, (by decide +kernel), ?_⟩
  | refine ⟨(_ : Bool), ⟨_, _, rfl, rfl, rfl⟩, ?_⟩
  | refine ⟨⟨_, rfl, (by first | exact d_no.1 | exact d_no.2.1 | exact d_no.2.2.1 | exact d_no.2.2.2)⟩, ?_⟩
  | refine ⟨⟨_, rfl⟩, ?_⟩
  | refine ⟨(_ : List Str), (_ : Str), (_ : List Mv), _, _, rfl, ?_⟩
  | refine iteD rfl ?_
  | refine iteN (by decide) ?_
  | refine iteN (by decide +kernel) ?_
  | refine iteD (by decide +kernel) ?_))
local macro_rules | `(tactic| walk_at "go") => `(tactic| repeat walk_at "step1")
end Sv
namespace Sv
open PySem PySem.Spec PyProof.Rows L2
open C8 (Cal Mak Met cal0 mak0 met0 pe_c pe_mk pe_mt pe_mt0 fnBody fnArgs fnScope scC fnScope_by pe_gc InsC call_isC)
variable [Tb : Tbs]
/-! ### tables and deeds -/
inductive Act where
  | move (s : Str) | skip | put (x : Str) | take (x : Str) | jump (s : Str) | pass (ts : List Str) (s : Str)
abbrev Tab := List ((Str × Str) × Act)
def lookT : Tab → Str × Str → Option Act
  | [], _ => none
  | m :: L, p => if m.1 = p then some m.2 else lookT L p
theorem lookT_app {L : Tab} {p q : Str × Str} {a : Act} : lookT (L ++ [(q, a)]) p = (lookT L p).or (if q = p then some a else none) := by
  induction L with
  | nil => unfold lookT; by_cases h : q = p <;> simp [lookT, h]
  | cons m L ih =>
    rw [List.cons_append]
    unfold lookT
    by_cases e : m.1 = p
    · rw [if_pos e, if_pos e]; rfl
    · rw [if_neg e, if_neg e, ih]
/-- an action that is good at the state s -/
def GoodAct (M : List Mv) (T S : List Str) (s : Str) : Act → Prop
  | .move _ => False
  | .skip => True
  | .put x => ∃ z, look M s x = some z
  | .take x => ∃ z, look M s x = some z
  | .jump z => z ∈ S ∧ z ≠ s
  | .pass ts z => ts ≠ [] ∧ ts.Nodup ∧ (∀ t ∈ ts, t ∈ T) ∧ sortedS ts = true ∧ z ∈ S
structure TabOk (M : List Mv) (T S : List Str) (L : Tab) : Prop where
  kn : (L.map (·.1)).Nodup
  at_ : ∀ p a, (p, a) ∈ L → p.1 ∈ S ∧ p.2 ∈ T ∧ look M p.1 p.2 = none ∧ GoodAct M T S p.1 a
  full : ∀ s ∈ S, ∀ t ∈ T, look M s t = none → ∃ a, lookT L (s, t) = some a
  len : L.length ≤ 24
def deedOf (M : List Mv) (L : Tab) (s t : Str) : Act := match look M s t with
  | some z => .move z
  | none => (lookT L (s, t)).getD .skip
def again (t : Str) : Act → Bool
  | .put _ => true
  | .jump _ => true
  | .pass ts _ => decide (t ∈ ts)
  | _ => false
def stBeh (M : List Mv) (s : Str) : Act → Str
  | .move z => z
  | .skip => s
  | .put x => (look M s x).getD s
  | .take x => (look M s x).getD s
  | .jump z => z
  | .pass _ z => z
/-- looking again from s at t -/
def nxt (M : List Mv) (L : Tab) (t s : Str) : Option Str := if again t (deedOf M L s t) = true then some (stBeh M s (deedOf M L s t)) else none
/-- .. ends behind n more looks -/
def EndsN (M : List Mv) (L : Tab) (t : Str) : Nat → Str → Prop
  | 0, s => nxt M L t s = none
  | n + 1, s => ∃ z, nxt M L t s = some z ∧ EndsN M L t n z
/-! ### their defs -/
/-! ### steps that answer themselves -/
local macro_rules | `(tactic| walk_at "side") => `(tactic| first | rfl | assumption | exact key_p (_, _) | exact key_p _ | exact key_s _ | exact flat_oD _ | exact flat_sD _ | omega | decide)
local macro_rules | `(tactic| walk_at "noloop") => `(tactic| fail_if_success (first | refine ⟨(fun (_ : Nat) (_ : DEnv) => True), ?_⟩ | refine ⟨(fun (_ : Nat) (_ : DEnv) (_ : List Dt) => True), ?_⟩ | refine ⟨(fun (_ : Nat) (_ : DEnv) (_ : List (Dt × Dt)) => True), ?_⟩ | refine ⟨(fun (_ : DEnv) => True), ?_⟩))
local macro_rules | `(tactic| walk_at "step1") => `(tactic| (walk_at "noloop"; first
  | refine ⟨(_ : Dt), rfl, ?_⟩
  | refine ⟨(_ : Bool), rfl, ?_⟩
  | refine ⟨(_ : List Dt), rfl, ?_⟩
  | refine ⟨(_ : Int), rfl, ?_⟩
  | refine ⟨(_ : Res), rfl, ?_⟩
  | refine ⟨(_ : List (Dt × Dt)), rfl, ?_⟩
  | refine ⟨(_ : Dt), (_ : List Dt), rfl, rfl, (by first | (intro _ z; cases z; done) | (intro _ z; exact Dt.noConfusion z)), ?_⟩
  | refine ⟨(_ : Dt), ⟨_, _, rfl, rfl, rfl⟩, ?_⟩
  | refine ⟨(_ : Dt), ⟨rfl, rfl⟩, ?_⟩
  | refine ⟨(_ : Dt), (_ : Dt), rfl, ⟨_, _, rfl, rfl, (by walk_at "side")⟩, ?_⟩
  | refine ⟨(_ : Dt), (_ : Dt), rfl, ⟨_, _, rfl, (by walk_at "side"), (by walk_at "side")⟩, ?_⟩
  | refine ⟨(_ : Kd), _, rfl, (by walk_at "side"), ?_⟩
  | refine ⟨(_ : Kd), _, rfl, ?_⟩
  | refine ⟨(_ : Dt), _, rfl, rfl, (by walk_at "side"), (by walk_at "side"), ?_⟩
  | refine ⟨(_ : Dt), (_ : Nat), rfl, rfl, ?_⟩
  | refine ⟨Nat.le_of_ble_eq_true rfl, ?_⟩
  | refine ⟨_, (_ : Dt), rfl, (by walk_at "side"), ?_⟩
  | refine ⟨⟨_, _, rfl⟩, ?_⟩
  | refine ⟨⟨_, _, _, rfl⟩, ?_⟩
  | refine ⟨(_ : List Dt), .inl rfl, rfl, ?_⟩
  | refine ⟨(_ : Dt), (_ : List Dt), rfl, ?_⟩
  | refine ⟨(rfl : ([] : List Dt) = []), ?_⟩
  | refine ⟨(_ : String), true, rfl, (by decide +kernel), ?_⟩
  | refine ⟨(_ : String), false, rfl, (by decide +kernel), ?_⟩
  | refine ⟨(_ : String), true, false, rfl, (by decide +kernel), (by decide +kernel), ?_⟩
  | refine ⟨(_ : String), false, true, rfl, (by decide +kernel), (by decide +kernel), ?_⟩
  | refine ⟨(_ : String), false, false, rfl, (by decide +kernel), (by decide +kernel), ?_⟩
  | refine ⟨(_ : Kd), _, true, rfl, (by decide +kernel), ?_⟩
  | refine ⟨(_ : Bool), ⟨_, _, rfl, rfl, rfl⟩, ?_⟩
  | refine ⟨⟨_, rfl, (by first | exact d_no.1 | exact d_no.2.1 | exact d_no.2.2.1 | exact d_no.2.2.2)⟩, ?_⟩
  | refine ⟨⟨_, rfl⟩, ?_⟩
  | refine ⟨(_ : List Str), (_ : Str), (_ : List Mv), _, _, rfl, ?_⟩
  | refine iteD rfl ?_
  | refine iteN (by decide) ?_
  | refine iteN (by decide +kernel) ?_
  | refine iteD (by decide +kernel) ?_))
local macro_rules | `(tactic| walk_at "go") => `(tactic| repeat walk_at "step1")
end Sv
namespace Sv
open PySem PySem.Spec PyProof.Rows L2
open C8 (Cal Mak Met cal0 mak0 met0 pe_c pe_mk pe_mt pe_mt0 fnBody fnArgs fnScope scC fnScope_by pe_gc InsC call_isC)
variable [Tb : Tbs]
/-! ### steps that answer themselves -/
local macro_rules | `(tactic| walk_at "side") => `(tactic| first | rfl | assumption | exact key_p (_, _) | exact key_p _ | exact key_s _ | exact flat_oD _ | exact flat_sD _ | omega | decide)
local macro_rules | `(tactic| walk_at "noloop") => `(tactic| fail_if_success (first | refine ⟨(fun (_ : Nat) (_ : DEnv) => True), ?_⟩ | refine ⟨(fun (_ : Nat) (_ : DEnv) (_ : List Dt) => True), ?_⟩ | refine ⟨(fun (_ : Nat) (_ : DEnv) (_ : List (Dt × Dt)) => True), ?_⟩ | refine ⟨(fun (_ : DEnv) => True), ?_⟩))
local macro_rules | `(tactic| walk_at "step1") => `(tactic| (walk_at "noloop"; first
  | refine ⟨(_ : Dt), rfl, ?_⟩
  | refine ⟨(_ : Bool), rfl, ?_⟩
  | refine ⟨(_ : List Dt), rfl, ?_⟩
  | refine ⟨(_ : Int), rfl, ?_⟩
  | refine ⟨(_ : Res), rfl, ?_⟩
  | refine ⟨(_ : List (Dt × Dt)), rfl, ?_⟩
  | refine ⟨(_ : Dt), (_ : List Dt), rfl, rfl, (by first | (intro _ z; cases z; done) | (intro _ z; exact Dt.noConfusion z)), ?_⟩
  | refine ⟨(_ : Dt), ⟨_, _, rfl, rfl, rfl⟩, ?_⟩
  | refine ⟨(_ : Dt), ⟨rfl, rfl⟩, ?_⟩
  | refine ⟨(_ : Dt), (_ : Dt), rfl, ⟨_, _, rfl, rfl, (by walk_at "side")⟩, ?_⟩
  | refine ⟨(_ : Dt), (_ : Dt), rfl, ⟨_, _, rfl, (by walk_at "side"), (by walk_at "side")⟩, ?_⟩
  | refine ⟨(_ : Kd), _, rfl, (by walk_at "side"), ?_⟩
  | refine ⟨(_ : Kd), _, rfl, ?_⟩
  | refine ⟨(_ : Dt), _, rfl, rfl, (by walk_at "side"), (by walk_at "side"), ?_⟩
  | refine ⟨(_ : Dt), (_ : Nat), rfl, rfl, ?_⟩
  | refine ⟨Nat.le_of_ble_eq_true rfl, ?_⟩
  | refine ⟨_, (_ : Dt), rfl, (by walk_at "side"), ?_⟩
  | refine ⟨⟨_, _, rfl⟩, ?_⟩
  | refine ⟨⟨_, _, _, rfl⟩, ?_⟩
  | refine ⟨(_ : List Dt), .inl rfl, rfl, ?_⟩
  | refine ⟨(_ : Dt), (_ : List Dt), rfl, ?_⟩
  | refine ⟨(rfl : ([] : List Dt) = []), ?_⟩
  | refine ⟨(_ : String), true, rfl, (by decide +kernel), ?_⟩
  | refine ⟨(_ : String), false, rfl, (by decide +kernel), ?_⟩
  | refine ⟨(_ : String), true, false, rfl, (by decide +kernel), (by decide +kernel), ?_⟩
  | refine ⟨(_ : String), false, true, rfl, (by decide +kernel), (by decide +kernel), ?_⟩
  | refine ⟨(_ : String), false, false, rfl, (by decide +kernel), (by decide +kernel), ?_⟩
  | refine ⟨(_ : Kd), _, true, rfl, (by decide +kernel), ?_⟩
  | refine ⟨(_ : Bool), ⟨_, _, rfl, rfl, rfl⟩, ?_⟩
  | refine ⟨⟨_, rfl, (by first | exact d_no.1 | exact d_no.2.1 | exact d_no.2.2.1 | exact d_no.2.2.2)⟩, ?_⟩
  | refine ⟨⟨_, rfl⟩, ?_⟩
  | refine ⟨(_ : List Str), (_ : Str), (_ : List Mv), _, _, rfl, ?_⟩
  | refine iteD rfl ?_
  | refine iteN (by decide) ?_
  | refine iteN (by decide +kernel) ?_
  | refine iteD (by decide +kernel) ?_))
local macro_rules | `(tactic| walk_at "go") => `(tactic| repeat walk_at "step1")
end Sv
namespace Sv
open PySem PySem.Spec PyProof.Rows L2
open C8 (Cal Mak Met cal0 mak0 met0 pe_c pe_mk pe_mt pe_mt0 fnBody fnArgs fnScope scC fnScope_by pe_gc InsC call_isC)
variable [Tb : Tbs]
/-! ### the deeds of a reader -/
def NoRing (M : List Mv) (L : Tab) (S T : List Str) : Prop := ∀ s ∈ S, ∀ t ∈ T, ∃ n, n ≤ 1000 ∧ EndsN M L t n s
/-! ### steps that answer themselves -/
local macro_rules | `(tactic| walk_at "side") => `(tactic| first | rfl | assumption | exact key_p (_, _) | exact key_p _ | exact key_s _ | exact flat_oD _ | exact flat_sD _ | omega | decide)
local macro_rules | `(tactic| walk_at "noloop") => `(tactic| fail_if_success (first | refine ⟨(fun (_ : Nat) (_ : DEnv) => True), ?_⟩ | refine ⟨(fun (_ : Nat) (_ : DEnv) (_ : List Dt) => True), ?_⟩ | refine ⟨(fun (_ : Nat) (_ : DEnv) (_ : List (Dt × Dt)) => True), ?_⟩ | refine ⟨(fun (_ : DEnv) => True), ?_⟩))
local macro_rules | `(tactic| walk_at "step1") => `(tactic| (walk_at "noloop"; first
  | refine ⟨(_ : Dt), rfl, ?_⟩
  | refine ⟨(_ : Bool), rfl, ?_⟩
  | refine ⟨(_ : List Dt), rfl, ?_⟩
  | refine ⟨(_ : Int), rfl, ?_⟩
  | refine ⟨(_ : Res), rfl, ?_⟩
  | refine ⟨(_ : List (Dt × Dt)), rfl, ?_⟩
  | refine ⟨(_ : Dt), (_ : List Dt), rfl, rfl, (by first | (intro _ z; cases z; done) | (intro _ z; exact Dt.noConfusion z)), ?_⟩
  | refine ⟨(_ : Dt), ⟨_, _, rfl, rfl, rfl⟩, ?_⟩
  | refine ⟨(_ : Dt), ⟨rfl, rfl⟩, ?_⟩
  | refine ⟨(_ : Dt), (_ : Dt), rfl, ⟨_, _, rfl, rfl, (by walk_at "side")⟩, ?_⟩
  | refine ⟨(_ : Dt), (_ : Dt), rfl, ⟨_, _, rfl, (by walk_at "side"), (by walk_at "side")⟩, ?_⟩
  | refine ⟨(_ : Kd), _, rfl, (by walk_at "side"), ?_⟩
  | refine ⟨(_ : Kd), _, rfl, ?_⟩
  | refine ⟨(_ : Dt), _, rfl, rfl, (by walk_at "side"), (by walk_at "side"), ?_⟩
  | refine ⟨(_ : Dt), (_ : Nat), rfl, rfl, ?_⟩
  | refine ⟨Nat.le_of_ble_eq_true rfl, ?_⟩
  | refine ⟨_, (_ : Dt), rfl, (by walk_at "side"), ?_⟩
  | refine ⟨⟨_, _, rfl⟩, ?_⟩
  | refine ⟨⟨_, _, _, rfl⟩, ?_⟩
  | refine ⟨(_ : List Dt), .inl rfl, rfl, ?_⟩
  | refine ⟨(_ : Dt), (_ : List Dt), rfl, ?_⟩
  | refine ⟨(rfl : ([] : List Dt) = []), ?_⟩
  | refine ⟨(_ : String), true, rfl, (by decide +kernel), ?_⟩
  | refine ⟨(_ : String), false, rfl, (by decide +kernel), ?_⟩
  | refine ⟨(_ : String), true, false, rfl, (by decide +kernel), (by decide +kernel), ?_⟩
  | refine ⟨(_ : String), false, true, rfl, (by decide +kernel), (by decide +kernel), ?_⟩
  | refine ⟨(_ : String), false, false, rfl, (by decide +kernel), (by decide +kernel), ?_⟩
  | refine ⟨(_ : Kd), _, true, rfl, (by decide +kernel), ?_⟩
  | refine ⟨(_ : Bool), ⟨_, _, rfl, rfl, rfl⟩, ?_⟩
  | refine ⟨⟨_, rfl, (by first | exact d_no.1 | exact d_no.2.1 | exact d_no.2.2.1 | exact d_no.2.2.2)⟩, ?_⟩
  | refine ⟨⟨_, rfl⟩, ?_⟩
  | refine ⟨(_ : List Str), (_ : Str), (_ : List Mv), _, _, rfl, ?_⟩
  | refine iteD rfl ?_
  | refine iteN (by decide) ?_
  | refine iteN (by decide +kernel) ?_
  | refine iteD (by decide +kernel) ?_))
local macro_rules | `(tactic| walk_at "go") => `(tactic| repeat walk_at "step1")
end Sv
namespace Sv
open PySem PySem.Spec PyProof.Rows L2
open C8 (Cal Mak Met cal0 mak0 met0 pe_c pe_mk pe_mt pe_mt0 fnBody fnArgs fnScope scC fnScope_by pe_gc InsC call_isC)
variable [Tb : Tbs]
/-! ### what a reader tells of itself -/
/-! ### what happens at a token -/
/-! ### their defs -/
/-! ### steps that answer themselves -/
local macro_rules | `(tactic| walk_at "side") => `(tactic| first | rfl | assumption | exact key_p (_, _) | exact key_p _ | exact key_s _ | exact flat_oD _ | exact flat_sD _ | omega | decide)
local macro_rules | `(tactic| walk_at "noloop") => `(tactic| fail_if_success (first | refine ⟨(fun (_ : Nat) (_ : DEnv) => True), ?_⟩ | refine ⟨(fun (_ : Nat) (_ : DEnv) (_ : List Dt) => True), ?_⟩ | refine ⟨(fun (_ : Nat) (_ : DEnv) (_ : List (Dt × Dt)) => True), ?_⟩ | refine ⟨(fun (_ : DEnv) => True), ?_⟩))
local macro_rules | `(tactic| walk_at "step1") => `(tactic| (walk_at "noloop"; first
  | refine ⟨(_ : Dt), rfl, ?_⟩
  | refine ⟨(_ : Bool), rfl, ?_⟩
  | refine ⟨(_ : List Dt), rfl, ?_⟩
  | refine ⟨(_ : Int), rfl, ?_⟩
  | refine ⟨(_ : Res), rfl, ?_⟩
  | refine ⟨(_ : List (Dt × Dt)), rfl, ?_⟩
  | refine ⟨(_ : Dt), (_ : List Dt), rfl, rfl, (by first | (intro _ z; cases z; done) | (intro _ z; exact Dt.noConfusion z)), ?_⟩
  | refine ⟨(_ : Dt), ⟨_, _, rfl, rfl, rfl⟩, ?_⟩
  | refine ⟨(_ : Dt), ⟨rfl, rfl⟩, ?_⟩
  | refine ⟨(_ : Dt), (_ : Dt), rfl, ⟨_, _, rfl, rfl, (by walk_at "side")⟩, ?_⟩
  | refine ⟨(_ : Dt), (_ : Dt), rfl, ⟨_, _, rfl, (by walk_at "side"), (by walk_at "side")⟩, ?_⟩
  | refine ⟨(_ : Kd), _, rfl, (by walk_at "side"), ?_⟩
  | refine ⟨(_ : Kd), _, rfl, ?_⟩
  | refine ⟨(_ : Dt), _, rfl, rfl, (by walk_at "side"), (by walk_at "side"), ?_⟩
  | refine ⟨(_ : Dt), (_ : Nat), rfl, rfl, ?_⟩
  | refine ⟨Nat.le_of_ble_eq_true rfl, ?_⟩
  | refine ⟨_, (_ : Dt), rfl, (by walk_at "side"), ?_⟩
  | refine ⟨⟨_, _, rfl⟩, ?_⟩
  | refine ⟨⟨_, _, _, rfl⟩, ?_⟩
  | refine ⟨(_ : List Dt), .inl rfl, rfl, ?_⟩
  | refine ⟨(_ : Dt), (_ : List Dt), rfl, ?_⟩
  | refine ⟨(rfl : ([] : List Dt) = []), ?_⟩
  | refine ⟨(_ : String), true, rfl, (by decide +kernel), ?_⟩
  | refine ⟨(_ : String), false, rfl, (by decide +kernel), ?_⟩
  | refine ⟨(_ : String), true, false, rfl, (by decide +kernel), (by decide +kernel), ?_⟩
  | refine ⟨(_ : String), false, true, rfl, (by decide +kernel), (by decide +kernel), ?_⟩
  | refine ⟨(_ : String), false, false, rfl, (by decide +kernel), (by decide +kernel), ?_⟩
  | refine ⟨(_ : Kd), _, true, rfl, (by decide +kernel), ?_⟩
  | refine ⟨(_ : Bool), ⟨_, _, rfl, rfl, rfl⟩, ?_⟩
  | refine ⟨⟨_, rfl, (by first | exact d_no.1 | exact d_no.2.1 | exact d_no.2.2.1 | exact d_no.2.2.2)⟩, ?_⟩
  | refine ⟨⟨_, rfl⟩, ?_⟩
  | refine ⟨(_ : List Str), (_ : Str), (_ : List Mv), _, _, rfl, ?_⟩
  | refine iteD rfl ?_
  | refine iteN (by decide) ?_
  | refine iteN (by decide +kernel) ?_
  | refine iteD (by decide +kernel) ?_))
local macro_rules | `(tactic| walk_at "go") => `(tactic| repeat walk_at "step1")
end Sv
namespace Sv
open PySem PySem.Spec PyProof.Rows L2
open C8 (Cal Mak Met cal0 mak0 met0 pe_c pe_mk pe_mt pe_mt0 fnBody fnArgs fnScope scC fnScope_by pe_gc InsC call_isC)
variable [Tb : Tbs]
/-! ### steps that answer themselves -/
local macro_rules | `(tactic| walk_at "side") => `(tactic| first | rfl | assumption | exact key_p (_, _) | exact key_p _ | exact key_s _ | exact flat_oD _ | exact flat_sD _ | omega | decide)
local macro_rules | `(tactic| walk_at "noloop") => `(tactic| fail_if_success (first | refine ⟨(fun (_ : Nat) (_ : DEnv) => True), ?_⟩ | refine ⟨(fun (_ : Nat) (_ : DEnv) (_ : List Dt) => True), ?_⟩ | refine ⟨(fun (_ : Nat) (_ : DEnv) (_ : List (Dt × Dt)) => True), ?_⟩ | refine ⟨(fun (_ : DEnv) => True), ?_⟩))
local macro_rules | `(tactic| walk_at "step1") => `(tactic| (walk_at "noloop"; first
  | refine ⟨(_ : Dt), rfl, ?_⟩
  | refine ⟨(_ : Bool), rfl, ?_⟩
  | refine ⟨(_ : List Dt), rfl, ?_⟩
  | refine ⟨(_ : Int), rfl, ?_⟩
  | refine ⟨(_ : Res), rfl, ?_⟩
  | refine ⟨(_ : List (Dt × Dt)), rfl, ?_⟩
  | refine ⟨(_ : Dt), (_ : List Dt), rfl, rfl, (by first | (intro _ z; cases z; done) | (intro _ z; exact Dt.noConfusion z)), ?_⟩
  | refine ⟨(_ : Dt), ⟨_, _, rfl, rfl, rfl⟩, ?_⟩
  | refine ⟨(_ : Dt), ⟨rfl, rfl⟩, ?_⟩
  | refine ⟨(_ : Dt), (_ : Dt), rfl, ⟨_, _, rfl, rfl, (by walk_at "side")⟩, ?_⟩
  | refine ⟨(_ : Dt), (_ : Dt), rfl, ⟨_, _, rfl, (by walk_at "side"), (by walk_at "side")⟩, ?_⟩
  | refine ⟨(_ : Kd), _, rfl, (by walk_at "side"), ?_⟩
  | refine ⟨(_ : Kd), _, rfl, ?_⟩
  | refine ⟨(_ : Dt), _, rfl, rfl, (by walk_at "side"), (by walk_at "side"), ?_⟩
  | refine ⟨(_ : Dt), (_ : Nat), rfl, rfl, ?_⟩
  | refine ⟨Nat.le_of_ble_eq_true rfl, ?_⟩
  | refine ⟨_, (_ : Dt), rfl, (by walk_at "side"), ?_⟩
  | refine ⟨⟨_, _, rfl⟩, ?_⟩
  | refine ⟨⟨_, _, _, rfl⟩, ?_⟩
  | refine ⟨(_ : List Dt), .inl rfl, rfl, ?_⟩
  | refine ⟨(_ : Dt), (_ : List Dt), rfl, ?_⟩
  | refine ⟨(rfl : ([] : List Dt) = []), ?_⟩
  | refine ⟨(_ : String), true, rfl, (by decide +kernel), ?_⟩
  | refine ⟨(_ : String), false, rfl, (by decide +kernel), ?_⟩
  | refine ⟨(_ : String), true, false, rfl, (by decide +kernel), (by decide +kernel), ?_⟩
  | refine ⟨(_ : String), false, true, rfl, (by decide +kernel), (by decide +kernel), ?_⟩
  | refine ⟨(_ : String), false, false, rfl, (by decide +kernel), (by decide +kernel), ?_⟩
  | refine ⟨(_ : Kd), _, true, rfl, (by decide +kernel), ?_⟩
  | refine ⟨(_ : Bool), ⟨_, _, rfl, rfl, rfl⟩, ?_⟩
  | refine ⟨⟨_, rfl, (by first | exact d_no.1 | exact d_no.2.1 | exact d_no.2.2.1 | exact d_no.2.2.2)⟩, ?_⟩
  | refine ⟨⟨_, rfl⟩, ?_⟩
  | refine ⟨(_ : List Str), (_ : Str), (_ : List Mv), _, _, rfl, ?_⟩
  | refine iteD rfl ?_
  | refine iteN (by decide) ?_
  | refine iteN (by decide +kernel) ?_
  | refine iteD (by decide +kernel) ?_))
local macro_rules | `(tactic| walk_at "go") => `(tactic| repeat walk_at "step1")
end Sv
namespace Sv
open PySem PySem.Spec PyProof.Rows L2
open C8 (Cal Mak Met cal0 mak0 met0 pe_c pe_mk pe_mt pe_mt0 fnBody fnArgs fnScope scC fnScope_by pe_gc InsC call_isC)
variable [Tb : Tbs]
/-! ### steps that answer themselves -/
local macro_rules | `(tactic| walk_at "side") => `(tactic| first | rfl | assumption | exact key_p (_, _) | exact key_p _ | exact key_s _ | exact flat_oD _ | exact flat_sD _ | omega | decide)
local macro_rules | `(tactic| walk_at "noloop") => `(tactic| fail_if_success (first | refine ⟨(fun (_ : Nat) (_ : DEnv) => True), ?_⟩ | refine ⟨(fun (_ : Nat) (_ : DEnv) (_ : List Dt) => True), ?_⟩ | refine ⟨(fun (_ : Nat) (_ : DEnv) (_ : List (Dt × Dt)) => True), ?_⟩ | refine ⟨(fun (_ : DEnv) => True), ?_⟩))
local macro_rules | `(tactic| walk_at "step1") => `(tactic| (walk_at "noloop"; first
  | refine ⟨(_ : Dt), rfl, ?_⟩
  | refine ⟨(_ : Bool), rfl, ?_⟩
  | refine ⟨(_ : List Dt), rfl, ?_⟩
  | refine ⟨(_ : Int), rfl, ?_⟩
  | refine ⟨(_ : Res), rfl, ?_⟩
  | refine ⟨(_ : List (Dt × Dt)), rfl, ?_⟩
  | refine ⟨(_ : Dt), (_ : List Dt), rfl, rfl, (by first | (intro _ z; cases z; done) | (intro _ z; exact Dt.noConfusion z)), ?_⟩
  | refine ⟨(_ : Dt), ⟨_, _, rfl, rfl, rfl⟩, ?_⟩
  | refine ⟨(_ : Dt), ⟨rfl, rfl⟩, ?_⟩
  | refine ⟨(_ : Dt), (_ : Dt), rfl, ⟨_, _, rfl, rfl, (by walk_at "side")⟩, ?_⟩
  | refine ⟨(_ : Dt), (_ : Dt), rfl, ⟨_, _, rfl, (by walk_at "side"), (by walk_at "side")⟩, ?_⟩
  | refine ⟨(_ : Kd), _, rfl, (by walk_at "side"), ?_⟩
  | refine ⟨(_ : Kd), _, rfl, ?_⟩
  | refine ⟨(_ : Dt), _, rfl, rfl, (by walk_at "side"), (by walk_at "side"), ?_⟩
  | refine ⟨(_ : Dt), (_ : Nat), rfl, rfl, ?_⟩
  | refine ⟨Nat.le_of_ble_eq_true rfl, ?_⟩
  | refine ⟨_, (_ : Dt), rfl, (by walk_at "side"), ?_⟩
  | refine ⟨⟨_, _, rfl⟩, ?_⟩
  | refine ⟨⟨_, _, _, rfl⟩, ?_⟩
  | refine ⟨(_ : List Dt), .inl rfl, rfl, ?_⟩
  | refine ⟨(_ : Dt), (_ : List Dt), rfl, ?_⟩
  | refine ⟨(rfl : ([] : List Dt) = []), ?_⟩
  | refine ⟨(_ : String), true, rfl, (by decide +kernel), ?_⟩
  | refine ⟨(_ : String), false, rfl, (by decide +kernel), ?_⟩
  | refine ⟨(_ : String), true, false, rfl, (by decide +kernel), (by decide +kernel), ?_⟩
  | refine ⟨(_ : String), false, true, rfl, (by decide +kernel), (by decide +kernel), ?_⟩
  | refine ⟨(_ : String), false, false, rfl, (by decide +kernel), (by decide +kernel), ?_⟩
  | refine ⟨(_ : Kd), _, true, rfl, (by decide +kernel), ?_⟩
  | refine ⟨(_ : Bool), ⟨_, _, rfl, rfl, rfl⟩, ?_⟩
  | refine ⟨⟨_, rfl, (by first | exact d_no.1 | exact d_no.2.1 | exact d_no.2.2.1 | exact d_no.2.2.2)⟩, ?_⟩
  | refine ⟨⟨_, rfl⟩, ?_⟩
  | refine ⟨(_ : List Str), (_ : Str), (_ : List Mv), _, _, rfl, ?_⟩
  | refine iteD rfl ?_
  | refine iteN (by decide) ?_
  | refine iteN (by decide +kernel) ?_
  | refine iteD (by decide +kernel) ?_))
local macro_rules | `(tactic| walk_at "go") => `(tactic| repeat walk_at "step1")
end Sv
namespace Sv
open PySem PySem.Spec PyProof.Rows L2
open C8 (Cal Mak Met cal0 mak0 met0 pe_c pe_mk pe_mt pe_mt0 fnBody fnArgs fnScope scC fnScope_by pe_gc InsC call_isC)
variable [Tb : Tbs]
/-! ### steps that answer themselves -/
local macro_rules | `(tactic| walk_at "side") => `(tactic| first | rfl | assumption | exact key_p (_, _) | exact key_p _ | exact key_s _ | exact flat_oD _ | exact flat_sD _ | omega | decide)
local macro_rules | `(tactic| walk_at "noloop") => `(tactic| fail_if_success (first | refine ⟨(fun (_ : Nat) (_ : DEnv) => True), ?_⟩ | refine ⟨(fun (_ : Nat) (_ : DEnv) (_ : List Dt) => True), ?_⟩ | refine ⟨(fun (_ : Nat) (_ : DEnv) (_ : List (Dt × Dt)) => True), ?_⟩ | refine ⟨(fun (_ : DEnv) => True), ?_⟩))
local macro_rules | `(tactic| walk_at "step1") => `(tactic| (walk_at "noloop"; first
  | refine ⟨(_ : Dt), rfl, ?_⟩
  | refine ⟨(_ : Bool), rfl, ?_⟩
  | refine ⟨(_ : List Dt), rfl, ?_⟩
  | refine ⟨(_ : Int), rfl, ?_⟩
  | refine ⟨(_ : Res), rfl, ?_⟩
  | refine ⟨(_ : List (Dt × Dt)), rfl, ?_⟩
  | refine ⟨(_ : Dt), (_ : List Dt), rfl, rfl, (by first | (intro _ z; cases z; done) | (intro _ z; exact Dt.noConfusion z)), ?_⟩
  | refine ⟨(_ : Dt), ⟨_, _, rfl, rfl, rfl⟩, ?_⟩
  | refine ⟨(_ : Dt), ⟨rfl, rfl⟩, ?_⟩
  | refine ⟨(_ : Dt), (_ : Dt), rfl, ⟨_, _, rfl, rfl, (by walk_at "side")⟩, ?_⟩
  | refine ⟨(_ : Dt), (_ : Dt), rfl, ⟨_, _, rfl, (by walk_at "side"), (by walk_at "side")⟩, ?_⟩
  | refine ⟨(_ : Kd), _, rfl, (by walk_at "side"), ?_⟩
  | refine ⟨(_ : Kd), _, rfl, ?_⟩
  | refine ⟨(_ : Dt), _, rfl, rfl, (by walk_at "side"), (by walk_at "side"), ?_⟩
  | refine ⟨(_ : Dt), (_ : Nat), rfl, rfl, ?_⟩
  | refine ⟨Nat.le_of_ble_eq_true rfl, ?_⟩
  | refine ⟨_, (_ : Dt), rfl, (by walk_at "side"), ?_⟩
  | refine ⟨⟨_, _, rfl⟩, ?_⟩
  | refine ⟨⟨_, _, _, rfl⟩, ?_⟩
  | refine ⟨(_ : List Dt), .inl rfl, rfl, ?_⟩
  | refine ⟨(_ : Dt), (_ : List Dt), rfl, ?_⟩
  | refine ⟨(rfl : ([] : List Dt) = []), ?_⟩
  | refine ⟨(_ : String), true, rfl, (by decide +kernel), ?_⟩
  | refine ⟨(_ : String), false, rfl, (by decide +kernel), ?_⟩
  | refine ⟨(_ : String), true, false, rfl, (by decide +kernel), (by decide +kernel), ?_⟩
  | refine ⟨(_ : String), false, true, rfl, (by decide +kernel), (by decide +kernel), ?_⟩
  | refine ⟨(_ : String), false, false, rfl, (by decide +kernel), (by decide +kernel), ?_⟩
  | refine ⟨(_ : Kd), _, true, rfl, (by decide +kernel), ?_⟩
  | refine ⟨(_ : Bool), ⟨_, _, rfl, rfl, rfl⟩, ?_⟩
  | refine ⟨⟨_, rfl, (by first | exact d_no.1 | exact d_no.2.1 | exact d_no.2.2.1 | exact d_no.2.2.2)⟩, ?_⟩
  | refine ⟨⟨_, rfl⟩, ?_⟩
  | refine ⟨(_ : List Str), (_ : Str), (_ : List Mv), _, _, rfl, ?_⟩
  | refine iteD rfl ?_
  | refine iteN (by decide) ?_
  | refine iteN (by decide +kernel) ?_
  | refine iteD (by decide +kernel) ?_))
local macro_rules | `(tactic| walk_at "go") => `(tactic| repeat walk_at "step1")
end Sv
namespace Sv
open PySem PySem.Spec PyProof.Rows L2
open C8 (Cal Mak Met cal0 mak0 met0 pe_c pe_mk pe_mt pe_mt0 fnBody fnArgs fnScope scC fnScope_by pe_gc InsC call_isC)
variable [Tb : Tbs]
/-! ### what laws draw, over data -/
/-- equal, and holding no dict, at most n deep -/
def shw : Nat → Dt → Bool
  | 0, _ => false
  | _ + 1, .non => true
  | _ + 1, .bl _ => true
  | _ + 1, .int _ => true
  | _ + 1, .str _ => true
  | n + 1, .tup xs => decide (xs.length ≤ 100000) && xs.all (shw n)
  | n + 1, .lst xs => decide (xs.length ≤ 100000) && xs.all (shw n)
  | _, _ => false
def fsSame (n : Nat) : FS := fun ds Pq => ∃ d, ds = [d, d] ∧ shw n d = true ∧ Pq (.fz (.bl true))
end Sv
namespace Sv
open PySem PySem.Spec PyProof.Rows L2
open C8 (Cal Mak Met cal0 mak0 met0 pe_c pe_mk pe_mt pe_mt0 fnBody fnArgs fnScope scC fnScope_by pe_gc InsC call_isC)
variable [Tb : Tbs]
/-! ### a law's body: the purse is made, then all is data -/
section
variable {X : Cx} {K : PySem.W.Frag} {rest : List Stmt} {k : KS}
theorem pss_data (h : ∀ H0 F0 L0 pg, XSs ⟨K, H0, F0, L0, pg⟩ X rest k) : PSs X rest (fun D σ H => ∃ H0 F0 L0 pg, tS ⟨K, H0, F0, L0, pg⟩ k D σ H) := ⟨fun pins s σ H D I ⟨H0, F0, L0, pg, q⟩ => (h H0 F0 L0 pg).run pins s σ H D I q⟩
end
theorem cut_take (xs : List Dt) (n : Nat) : cutD xs none (some (n : Int)) = xs.take n := by
  unfold cutD
  rw [show HT.sIx xs.length xs.length (some (n : Int)) = min n xs.length from HT.sIx_nat _ _ n, HT.sIx_none, List.drop_zero, Nat.sub_zero]
  by_cases h : n ≤ xs.length
  · rw [Nat.min_eq_left h]
  · rw [Nat.min_eq_right (by omega), List.take_length, List.take_of_length_le (by omega)]
end Sv
namespace Sv
open PySem PySem.Spec PyProof.Rows L2
open C8 (Cal Mak Met cal0 mak0 met0 pe_c pe_mk pe_mt pe_mt0 fnBody fnArgs fnScope scC fnScope_by pe_gc InsC call_isC)
variable [Tb : Tbs]
/-! ### readers of a law, over data -/
/-! ### steps that answer themselves -/
local macro_rules | `(tactic| walk_at "side") => `(tactic| first | rfl | assumption | exact key_p (_, _) | exact key_p _ | exact key_s _ | exact flat_oD _ | exact flat_sD _ | omega | decide)
local macro_rules | `(tactic| walk_at "noloop") => `(tactic| fail_if_success (first | refine ⟨(fun (_ : Nat) (_ : DEnv) => True), ?_⟩ | refine ⟨(fun (_ : Nat) (_ : DEnv) (_ : List Dt) => True), ?_⟩ | refine ⟨(fun (_ : Nat) (_ : DEnv) (_ : List (Dt × Dt)) => True), ?_⟩ | refine ⟨(fun (_ : DEnv) => True), ?_⟩))
local macro_rules | `(tactic| walk_at "step1") => `(tactic| (walk_at "noloop"; first
  | refine ⟨(_ : Dt), rfl, ?_⟩
  | refine ⟨(_ : Bool), rfl, ?_⟩
  | refine ⟨(_ : List Dt), rfl, ?_⟩
  | refine ⟨(_ : Int), rfl, ?_⟩
  | refine ⟨(_ : Res), rfl, ?_⟩
  | refine ⟨(_ : List (Dt × Dt)), rfl, ?_⟩
  | refine ⟨(_ : Dt), (_ : List Dt), rfl, rfl, (by first | (intro _ z; cases z; done) | (intro _ z; exact Dt.noConfusion z)), ?_⟩
  | refine ⟨(_ : Dt), ⟨_, _, rfl, rfl, rfl⟩, ?_⟩
  | refine ⟨(_ : Dt), ⟨rfl, rfl⟩, ?_⟩
  | refine ⟨(_ : Dt), (_ : Dt), rfl, ⟨_, _, rfl, rfl, (by walk_at "side")⟩, ?_⟩
  | refine ⟨(_ : Dt), (_ : Dt), rfl, ⟨_, _, rfl, (by walk_at "side"), (by walk_at "side")⟩, ?_⟩
  | refine ⟨(_ : Kd), _, rfl, (by walk_at "side"), ?_⟩
  | refine ⟨(_ : Kd), _, rfl, ?_⟩
  | refine ⟨(_ : Dt), _, rfl, rfl, (by walk_at "side"), (by walk_at "side"), ?_⟩
  | refine ⟨(_ : Dt), (_ : Nat), rfl, rfl, ?_⟩
  | refine ⟨Nat.le_of_ble_eq_true rfl, ?_⟩
  | refine ⟨_, (_ : Dt), rfl, (by walk_at "side"), ?_⟩
  | refine ⟨⟨_, _, rfl⟩, ?_⟩
  | refine ⟨⟨_, _, _, rfl⟩, ?_⟩
  | refine ⟨(_ : List Dt), .inl rfl, rfl, ?_⟩
  | refine ⟨(_ : Dt), (_ : List Dt), rfl, ?_⟩
  | refine ⟨(rfl : ([] : List Dt) = []), ?_⟩
  | refine ⟨(_ : String), true, rfl, (by decide +kernel), ?_⟩
  | refine ⟨(_ : String), false, rfl, (by decide +kernel), ?_⟩
  | refine ⟨(_ : String), true, false, rfl, (by decide +kernel), (by decide +kernel), ?_⟩
  | refine ⟨(_ : String), false, true, rfl, (by decide +kernel), (by decide +kernel), ?_⟩
  | refine ⟨(_ : String), false, false, rfl, (by decide +kernel), (by decide +kernel), ?_⟩
  | refine ⟨(_ : Kd), _, true, rfl, (by decide +kernel), ?_⟩
  | refine ⟨(_ : Bool), ⟨_, _, rfl, rfl, rfl⟩, ?_⟩
  | refine ⟨⟨_, rfl, (by first | exact d_no.1 | exact d_no.2.1 | exact d_no.2.2.1 | exact d_no.2.2.2)⟩, ?_⟩
  | refine ⟨⟨_, rfl⟩, ?_⟩
  | refine ⟨(_ : List Str), (_ : Str), (_ : List Mv), _, _, rfl, ?_⟩
  | refine iteD rfl ?_
  | refine iteN (by decide) ?_
  | refine iteN (by decide +kernel) ?_
  | refine iteD (by decide +kernel) ?_))
local macro_rules | `(tactic| walk_at "go") => `(tactic| repeat walk_at "step1")
end Sv
namespace Sv
open PySem PySem.Spec PyProof.Rows L2
open C8 (Cal Mak Met cal0 mak0 met0 pe_c pe_mk pe_mt pe_mt0 fnBody fnArgs fnScope scC fnScope_by pe_gc InsC call_isC)
variable [Tb : Tbs]
/-! ### looking again, by the law -/
/-- an entry written anew -/
def setT (L : Tab) (p : Str × Str) (a : Act) : Tab := L.map fun m => if m.1 = p then (m.1, a) else m
theorem setT_keys {L : Tab} {p : Str × Str} {a : Act} : (setT L p a).map (·.1) = L.map (·.1) := by
  unfold setT
  rw [List.map_map]
  refine List.map_congr_left fun m _ => ?_
  show (if m.1 = p then (m.1, a) else m).1 = m.1
  split <;> rfl
theorem lookT_setT {p q : Str × Str} {a : Act} : ∀ {L : Tab}, lookT (setT L p a) q = if q = p then (lookT L q).map fun _ => a else lookT L q
  | [] => by split <;> rfl
  | m :: L => by
    show lookT ((if m.1 = p then (m.1, a) else m) :: setT L p a) q = _
    by_cases e : m.1 = p
    · rw [if_pos e]
      unfold lookT
      by_cases h : m.1 = q
      · rw [if_pos h, if_pos h, if_pos (h.symm.trans e)]; rfl
      · rw [if_neg h, if_neg h, lookT_setT (L := L)]
    · rw [if_neg e]
      unfold lookT
      by_cases h : m.1 = q
      · rw [if_pos h, if_pos h, if_neg (fun z => e (h.trans z))]
      · rw [if_neg h, if_neg h, lookT_setT (L := L)]
section
variable {M : List Mv} {T S : List Str} {L : Tab} {s t : Str} {p : Str × Str}
theorem TabOk.skip (h : TabOk M T S L) : TabOk M T S (setT L p .skip) := by
  refine ⟨by rw [setT_keys]; exact h.kn, fun q a hq => ?_, fun s hs t ht e => ?_, by unfold setT; rw [List.length_map]; exact h.len⟩
  · unfold setT at hq
    obtain ⟨m, hm, e⟩ := List.mem_map.mp hq
    have := h.at_ m.1 m.2 hm
    by_cases z : m.1 = p
    · rw [if_pos z] at e
      cases e
      exact ⟨this.1, this.2.1, this.2.2.1, True.intro⟩
    · rw [if_neg z] at e
      subst e
      exact this
  · obtain ⟨a, ha⟩ := h.full s hs t ht e
    rw [lookT_setT, ha]
    split
    · exact ⟨_, rfl⟩
    · exact ⟨_, rfl⟩
theorem deed_setT (h : (s, t) ≠ p) {a : Act} : deedOf M (setT L p a) s t = deedOf M L s t := by
  unfold deedOf
  rw [lookT_setT, if_neg h]
theorem EndsN.skip : ∀ {n : Nat} {s : Str}, EndsN M L t n s → n < 8 → (∀ s', p = (s', t) → ¬ ∃ m, m < 8 ∧ EndsN M L t m s') → EndsN M (setT L p .skip) t n s
  | 0, s, h, l, r => by
    have ne : (s, t) ≠ p := fun z => r s z.symm ⟨0, l, h⟩
    show nxt M _ t s = none
    unfold nxt
    rw [deed_setT ne]
    exact h
  | n + 1, s, ⟨z, e, h⟩, l, r => by
    have ne : (s, t) ≠ p := fun q => r s q.symm ⟨n + 1, l, z, e, h⟩
    refine ⟨z, ?_, h.skip (by omega) r⟩
    show nxt M _ t s = some z
    unfold nxt
    rw [deed_setT ne]
    exact e
end
/-! ### steps that answer themselves -/
local macro_rules | `(tactic| walk_at "side") => `(tactic| first | rfl | assumption | exact key_p (_, _) | exact key_p _ | exact key_s _ | exact flat_oD _ | exact flat_sD _ | omega | decide)
local macro_rules | `(tactic| walk_at "noloop") => `(tactic| fail_if_success (first | refine ⟨(fun (_ : Nat) (_ : DEnv) => True), ?_⟩ | refine ⟨(fun (_ : Nat) (_ : DEnv) (_ : List Dt) => True), ?_⟩ | refine ⟨(fun (_ : Nat) (_ : DEnv) (_ : List (Dt × Dt)) => True), ?_⟩ | refine ⟨(fun (_ : DEnv) => True), ?_⟩))
local macro_rules | `(tactic| walk_at "step1") => `(tactic| (walk_at "noloop"; first
  | refine ⟨(_ : Dt), rfl, ?_⟩
  | refine ⟨(_ : Bool), rfl, ?_⟩
  | refine ⟨(_ : List Dt), rfl, ?_⟩
  | refine ⟨(_ : Int), rfl, ?_⟩
  | refine ⟨(_ : Res), rfl, ?_⟩
  | refine ⟨(_ : List (Dt × Dt)), rfl, ?_⟩
  | refine ⟨(_ : Dt), (_ : List Dt), rfl, rfl, (by first | (intro _ z; cases z; done) | (intro _ z; exact Dt.noConfusion z)), ?_⟩
  | refine ⟨(_ : Dt), ⟨_, _, rfl, rfl, rfl⟩, ?_⟩
  | refine ⟨(_ : Dt), ⟨rfl, rfl⟩, ?_⟩
  | refine ⟨(_ : Dt), (_ : Dt), rfl, ⟨_, _, rfl, rfl, (by walk_at "side")⟩, ?_⟩
  | refine ⟨(_ : Dt), (_ : Dt), rfl, ⟨_, _, rfl, (by walk_at "side"), (by walk_at "side")⟩, ?_⟩
  | refine ⟨(_ : Kd), _, rfl, (by walk_at "side"), ?_⟩
  | refine ⟨(_ : Kd), _, rfl, ?_⟩
  | refine ⟨(_ : Dt), _, rfl, rfl, (by walk_at "side"), (by walk_at "side"), ?_⟩
  | refine ⟨(_ : Dt), (_ : Nat), rfl, rfl, ?_⟩
  | refine ⟨Nat.le_of_ble_eq_true rfl, ?_⟩
  | refine ⟨_, (_ : Dt), rfl, (by walk_at "side"), ?_⟩
  | refine ⟨⟨_, _, rfl⟩, ?_⟩
  | refine ⟨⟨_, _, _, rfl⟩, ?_⟩
  | refine ⟨(_ : List Dt), .inl rfl, rfl, ?_⟩
  | refine ⟨(_ : Dt), (_ : List Dt), rfl, ?_⟩
  | refine ⟨(rfl : ([] : List Dt) = []), ?_⟩
  | refine ⟨(_ : String), true, rfl, (by decide +kernel), ?_⟩
  | refine ⟨(_ : String), false, rfl, (by decide +kernel), ?_⟩
  | refine ⟨(_ : String), true, false, rfl, (by decide +kernel), (by decide +kernel), ?_⟩
  | refine ⟨(_ : String), false, true, rfl, (by decide +kernel), (by decide +kernel), ?_⟩
  | refine ⟨(_ : String), false, false, rfl, (by decide +kernel), (by decide +kernel), ?_⟩
  | refine ⟨(_ : Kd), _, true, rfl, (by decide +kernel), ?_⟩
  | refine ⟨(_ : Bool), ⟨_, _, rfl, rfl, rfl⟩, ?_⟩
  | refine ⟨⟨_, rfl, (by first | exact d_no.1 | exact d_no.2.1 | exact d_no.2.2.1 | exact d_no.2.2.2)⟩, ?_⟩
  | refine ⟨⟨_, rfl⟩, ?_⟩
  | refine ⟨(_ : List Str), (_ : Str), (_ : List Mv), _, _, rfl, ?_⟩
  | refine iteD rfl ?_
  | refine iteN (by decide) ?_
  | refine iteN (by decide +kernel) ?_
  | refine iteD (by decide +kernel) ?_))
local macro_rules | `(tactic| walk_at "go") => `(tactic| repeat walk_at "step1")
end Sv
namespace Sv
open PySem PySem.Spec PyProof.Rows L2
open C8 (Cal Mak Met cal0 mak0 met0 pe_c pe_mk pe_mt pe_mt0 fnBody fnArgs fnScope scC fnScope_by pe_gc InsC call_isC)
variable [Tb : Tbs]
/-! ### steps that answer themselves -/
local macro_rules | `(tactic| walk_at "side") => `(tactic| first | rfl | assumption | exact key_p (_, _) | exact key_p _ | exact key_s _ | exact flat_oD _ | exact flat_sD _ | omega | decide)
local macro_rules | `(tactic| walk_at "noloop") => `(tactic| fail_if_success (first | refine ⟨(fun (_ : Nat) (_ : DEnv) => True), ?_⟩ | refine ⟨(fun (_ : Nat) (_ : DEnv) (_ : List Dt) => True), ?_⟩ | refine ⟨(fun (_ : Nat) (_ : DEnv) (_ : List (Dt × Dt)) => True), ?_⟩ | refine ⟨(fun (_ : DEnv) => True), ?_⟩))
local macro_rules | `(tactic| walk_at "step1") => `(tactic| (walk_at "noloop"; first
  | refine ⟨(_ : Dt), rfl, ?_⟩
  | refine ⟨(_ : Bool), rfl, ?_⟩
  | refine ⟨(_ : List Dt), rfl, ?_⟩
  | refine ⟨(_ : Int), rfl, ?_⟩
  | refine ⟨(_ : Res), rfl, ?_⟩
  | refine ⟨(_ : List (Dt × Dt)), rfl, ?_⟩
  | refine ⟨(_ : Dt), (_ : List Dt), rfl, rfl, (by first | (intro _ z; cases z; done) | (intro _ z; exact Dt.noConfusion z)), ?_⟩
  | refine ⟨(_ : Dt), ⟨_, _, rfl, rfl, rfl⟩, ?_⟩
  | refine ⟨(_ : Dt), ⟨rfl, rfl⟩, ?_⟩
  | refine ⟨(_ : Dt), (_ : Dt), rfl, ⟨_, _, rfl, rfl, (by walk_at "side")⟩, ?_⟩
  | refine ⟨(_ : Dt), (_ : Dt), rfl, ⟨_, _, rfl, (by walk_at "side"), (by walk_at "side")⟩, ?_⟩
  | refine ⟨(_ : Kd), _, rfl, (by walk_at "side"), ?_⟩
  | refine ⟨(_ : Kd), _, rfl, ?_⟩
  | refine ⟨(_ : Dt), _, rfl, rfl, (by walk_at "side"), (by walk_at "side"), ?_⟩
  | refine ⟨(_ : Dt), (_ : Nat), rfl, rfl, ?_⟩
  | refine ⟨Nat.le_of_ble_eq_true rfl, ?_⟩
  | refine ⟨_, (_ : Dt), rfl, (by walk_at "side"), ?_⟩
  | refine ⟨⟨_, _, rfl⟩, ?_⟩
  | refine ⟨⟨_, _, _, rfl⟩, ?_⟩
  | refine ⟨(_ : List Dt), .inl rfl, rfl, ?_⟩
  | refine ⟨(_ : Dt), (_ : List Dt), rfl, ?_⟩
  | refine ⟨(rfl : ([] : List Dt) = []), ?_⟩
  | refine ⟨(_ : String), true, rfl, (by decide +kernel), ?_⟩
  | refine ⟨(_ : String), false, rfl, (by decide +kernel), ?_⟩
  | refine ⟨(_ : String), true, false, rfl, (by decide +kernel), (by decide +kernel), ?_⟩
  | refine ⟨(_ : String), false, true, rfl, (by decide +kernel), (by decide +kernel), ?_⟩
  | refine ⟨(_ : String), false, false, rfl, (by decide +kernel), (by decide +kernel), ?_⟩
  | refine ⟨(_ : Kd), _, true, rfl, (by decide +kernel), ?_⟩
  | refine ⟨(_ : Bool), ⟨_, _, rfl, rfl, rfl⟩, ?_⟩
  | refine ⟨⟨_, rfl, (by first | exact d_no.1 | exact d_no.2.1 | exact d_no.2.2.1 | exact d_no.2.2.2)⟩, ?_⟩
  | refine ⟨⟨_, rfl⟩, ?_⟩
  | refine ⟨(_ : List Str), (_ : Str), (_ : List Mv), _, _, rfl, ?_⟩
  | refine iteD rfl ?_
  | refine iteN (by decide) ?_
  | refine iteN (by decide +kernel) ?_
  | refine iteD (by decide +kernel) ?_))
local macro_rules | `(tactic| walk_at "go") => `(tactic| repeat walk_at "step1")
end Sv
namespace Sv
open PySem PySem.Spec PyProof.Rows L2
open C8 (Cal Mak Met cal0 mak0 met0 pe_c pe_mk pe_mt pe_mt0 fnBody fnArgs fnScope scC fnScope_by pe_gc InsC call_isC)
variable [Tb : Tbs]
/-- a table that is being filled -/
structure WOk (M : List Mv) (T S : List Str) (dom : Str × Str → Prop) (L : Tab) : Prop where
  kn : (L.map (·.1)).Nodup
  at_ : ∀ p a, (p, a) ∈ L → dom p ∧ p.1 ∈ S ∧ p.2 ∈ T ∧ look M p.1 p.2 = none ∧ GoodAct M T S p.1 a
  full : ∀ p, dom p → look M p.1 p.2 = none → ∃ a, lookT L p = some a
section
variable {M : List Mv} {T S : List Str} {dom dom' : Str × Str → Prop} {L : Tab} {s t : Str} {a : Act}
theorem WOk.out (h : WOk M T S dom L) (n : ¬ dom (s, t)) : (s, t) ∉ L.map (·.1) := fun z => by
  obtain ⟨m, hm, e⟩ := List.mem_map.mp z
  exact n (e ▸ (h.at_ m.1 m.2 hm).1)
theorem WOk.put (h : WOk M T S dom L) (n : ¬ dom (s, t)) (hs : s ∈ S) (ht : t ∈ T) (e : look M s t = none) (g : GoodAct M T S s a) : WOk M T S (fun p => dom p ∨ p = (s, t)) (L ++ [((s, t), a)]) := by
  refine ⟨?_, fun p b hp => ?_, fun p hp hl => ?_⟩
  · rw [List.map_append]
    exact List.nodup_append.mpr ⟨h.kn, by simp, fun x hx y hy => by
      rw [List.mem_singleton.mp hy]
      exact fun z => h.out n (by rw [show (s, t) = x from z.symm]; exact hx)⟩
  · rcases List.mem_append.mp hp with hp | hp
    · exact ⟨.inl (h.at_ p b hp).1, (h.at_ p b hp).2⟩
    · rw [List.mem_singleton] at hp
      cases hp
      exact ⟨.inr rfl, hs, ht, e, g⟩
  · rw [lookT_app]
    rcases hp with hp | rfl
    · obtain ⟨b, hb⟩ := h.full p hp hl
      exact ⟨b, by rw [hb]; rfl⟩
    · rw [if_pos rfl]
      cases lookT L (s, t) with
      | none => exact ⟨a, rfl⟩
      | some b => exact ⟨b, rfl⟩
end
def NoRing8 (M : List Mv) (L : Tab) (S T : List Str) : Prop := ∀ s ∈ S, ∀ t ∈ T, ∃ n, n < 8 ∧ EndsN M L t n s
/-! ### steps that answer themselves -/
local macro_rules | `(tactic| walk_at "side") => `(tactic| first | rfl | assumption | exact key_p (_, _) | exact key_p _ | exact key_s _ | exact flat_oD _ | exact flat_sD _ | omega | decide)
local macro_rules | `(tactic| walk_at "noloop") => `(tactic| fail_if_success (first | refine ⟨(fun (_ : Nat) (_ : DEnv) => True), ?_⟩ | refine ⟨(fun (_ : Nat) (_ : DEnv) (_ : List Dt) => True), ?_⟩ | refine ⟨(fun (_ : Nat) (_ : DEnv) (_ : List (Dt × Dt)) => True), ?_⟩ | refine ⟨(fun (_ : DEnv) => True), ?_⟩))
local macro_rules | `(tactic| walk_at "step1") => `(tactic| (walk_at "noloop"; first
  | refine ⟨(_ : Dt), rfl, ?_⟩
  | refine ⟨(_ : Bool), rfl, ?_⟩
  | refine ⟨(_ : List Dt), rfl, ?_⟩
  | refine ⟨(_ : Int), rfl, ?_⟩
  | refine ⟨(_ : Res), rfl, ?_⟩
  | refine ⟨(_ : List (Dt × Dt)), rfl, ?_⟩
  | refine ⟨(_ : Dt), (_ : List Dt), rfl, rfl, (by first | (intro _ z; cases z; done) | (intro _ z; exact Dt.noConfusion z)), ?_⟩
  | refine ⟨(_ : Dt), ⟨_, _, rfl, rfl, rfl⟩, ?_⟩
  | refine ⟨(_ : Dt), ⟨rfl, rfl⟩, ?_⟩
  | refine ⟨(_ : Dt), (_ : Dt), rfl, ⟨_, _, rfl, rfl, (by walk_at "side")⟩, ?_⟩
  | refine ⟨(_ : Dt), (_ : Dt), rfl, ⟨_, _, rfl, (by walk_at "side"), (by walk_at "side")⟩, ?_⟩
  | refine ⟨(_ : Kd), _, rfl, (by walk_at "side"), ?_⟩
  | refine ⟨(_ : Kd), _, rfl, ?_⟩
  | refine ⟨(_ : Dt), _, rfl, rfl, (by walk_at "side"), (by walk_at "side"), ?_⟩
  | refine ⟨(_ : Dt), (_ : Nat), rfl, rfl, ?_⟩
  | refine ⟨Nat.le_of_ble_eq_true rfl, ?_⟩
  | refine ⟨_, (_ : Dt), rfl, (by walk_at "side"), ?_⟩
  | refine ⟨⟨_, _, rfl⟩, ?_⟩
  | refine ⟨⟨_, _, _, rfl⟩, ?_⟩
  | refine ⟨(_ : List Dt), .inl rfl, rfl, ?_⟩
  | refine ⟨(_ : Dt), (_ : List Dt), rfl, ?_⟩
  | refine ⟨(rfl : ([] : List Dt) = []), ?_⟩
  | refine ⟨(_ : String), true, rfl, (by decide +kernel), ?_⟩
  | refine ⟨(_ : String), false, rfl, (by decide +kernel), ?_⟩
  | refine ⟨(_ : String), true, false, rfl, (by decide +kernel), (by decide +kernel), ?_⟩
  | refine ⟨(_ : String), false, true, rfl, (by decide +kernel), (by decide +kernel), ?_⟩
  | refine ⟨(_ : String), false, false, rfl, (by decide +kernel), (by decide +kernel), ?_⟩
  | refine ⟨(_ : Kd), _, true, rfl, (by decide +kernel), ?_⟩
  | refine ⟨(_ : Bool), ⟨_, _, rfl, rfl, rfl⟩, ?_⟩
  | refine ⟨⟨_, rfl, (by first | exact d_no.1 | exact d_no.2.1 | exact d_no.2.2.1 | exact d_no.2.2.2)⟩, ?_⟩
  | refine ⟨⟨_, rfl⟩, ?_⟩
  | refine ⟨(_ : List Str), (_ : Str), (_ : List Mv), _, _, rfl, ?_⟩
  | refine iteD rfl ?_
  | refine iteN (by decide) ?_
  | refine iteN (by decide +kernel) ?_
  | refine iteD (by decide +kernel) ?_))
local macro_rules | `(tactic| walk_at "go") => `(tactic| repeat walk_at "step1")
end Sv
namespace Sv
open PySem PySem.Spec PyProof.Rows L2
open C8 (Cal Mak Met cal0 mak0 met0 pe_c pe_mk pe_mt pe_mt0 fnBody fnArgs fnScope scC fnScope_by pe_gc InsC call_isC)
variable [Tb : Tbs]
theorem NoRing8.weak {M : List Mv} {L : Tab} {S T : List Str} (h : NoRing8 M L S T) : NoRing M L S T := fun s hs t ht => by
  obtain ⟨n, h1, h2⟩ := h s hs t ht
  exact ⟨n, by omega, h2⟩
/-! ### mends, counted -/
end Sv
namespace Sv
open PySem PySem.Spec PyProof.Rows L2
open C8 (Cal Mak Met cal0 mak0 met0 pe_c pe_mk pe_mt pe_mt0 fnBody fnArgs fnScope scC fnScope_by pe_gc InsC call_isC)
variable [Tb : Tbs]
/-! ### steps that answer themselves -/
local macro_rules | `(tactic| walk_at "side") => `(tactic| first | rfl | assumption | exact key_p (_, _) | exact key_p _ | exact key_s _ | exact flat_oD _ | exact flat_sD _ | omega | decide)
local macro_rules | `(tactic| walk_at "noloop") => `(tactic| fail_if_success (first | refine ⟨(fun (_ : Nat) (_ : DEnv) => True), ?_⟩ | refine ⟨(fun (_ : Nat) (_ : DEnv) (_ : List Dt) => True), ?_⟩ | refine ⟨(fun (_ : Nat) (_ : DEnv) (_ : List (Dt × Dt)) => True), ?_⟩ | refine ⟨(fun (_ : DEnv) => True), ?_⟩))
local macro_rules | `(tactic| walk_at "step1") => `(tactic| (walk_at "noloop"; first
  | refine ⟨(_ : Dt), rfl, ?_⟩
  | refine ⟨(_ : Bool), rfl, ?_⟩
  | refine ⟨(_ : List Dt), rfl, ?_⟩
  | refine ⟨(_ : Int), rfl, ?_⟩
  | refine ⟨(_ : Res), rfl, ?_⟩
  | refine ⟨(_ : List (Dt × Dt)), rfl, ?_⟩
  | refine ⟨(_ : Dt), (_ : List Dt), rfl, rfl, (by first | (intro _ z; cases z; done) | (intro _ z; exact Dt.noConfusion z)), ?_⟩
  | refine ⟨(_ : Dt), ⟨_, _, rfl, rfl, rfl⟩, ?_⟩
  | refine ⟨(_ : Dt), ⟨rfl, rfl⟩, ?_⟩
  | refine ⟨(_ : Dt), (_ : Dt), rfl, ⟨_, _, rfl, rfl, (by walk_at "side")⟩, ?_⟩
  | refine ⟨(_ : Dt), (_ : Dt), rfl, ⟨_, _, rfl, (by walk_at "side"), (by walk_at "side")⟩, ?_⟩
  | refine ⟨(_ : Kd), _, rfl, (by walk_at "side"), ?_⟩
  | refine ⟨(_ : Kd), _, rfl, ?_⟩
  | refine ⟨(_ : Dt), _, rfl, rfl, (by walk_at "side"), (by walk_at "side"), ?_⟩
  | refine ⟨(_ : Dt), (_ : Nat), rfl, rfl, ?_⟩
  | refine ⟨Nat.le_of_ble_eq_true rfl, ?_⟩
  | refine ⟨_, (_ : Dt), rfl, (by walk_at "side"), ?_⟩
  | refine ⟨⟨_, _, rfl⟩, ?_⟩
  | refine ⟨⟨_, _, _, rfl⟩, ?_⟩
  | refine ⟨(_ : List Dt), .inl rfl, rfl, ?_⟩
  | refine ⟨(_ : Dt), (_ : List Dt), rfl, ?_⟩
  | refine ⟨(rfl : ([] : List Dt) = []), ?_⟩
  | refine ⟨(_ : String), true, rfl, (by decide +kernel), ?_⟩
  | refine ⟨(_ : String), false, rfl, (by decide +kernel), ?_⟩
  | refine ⟨(_ : String), true, false, rfl, (by decide +kernel), (by decide +kernel), ?_⟩
  | refine ⟨(_ : String), false, true, rfl, (by decide +kernel), (by decide +kernel), ?_⟩
  | refine ⟨(_ : String), false, false, rfl, (by decide +kernel), (by decide +kernel), ?_⟩
  | refine ⟨(_ : Kd), _, true, rfl, (by decide +kernel), ?_⟩
  | refine ⟨(_ : Bool), ⟨_, _, rfl, rfl, rfl⟩, ?_⟩
  | refine ⟨⟨_, rfl, (by first | exact d_no.1 | exact d_no.2.1 | exact d_no.2.2.1 | exact d_no.2.2.2)⟩, ?_⟩
  | refine ⟨⟨_, rfl⟩, ?_⟩
  | refine ⟨(_ : List Str), (_ : Str), (_ : List Mv), _, _, rfl, ?_⟩
  | refine iteD rfl ?_
  | refine iteN (by decide) ?_
  | refine iteN (by decide +kernel) ?_
  | refine iteD (by decide +kernel) ?_))
local macro_rules | `(tactic| walk_at "go") => `(tactic| repeat walk_at "step1")
end Sv
namespace Sv
open PySem PySem.Spec PyProof.Rows L2
open C8 (Cal Mak Met cal0 mak0 met0 pe_c pe_mk pe_mt pe_mt0 fnBody fnArgs fnScope scC fnScope_by pe_gc InsC call_isC)
variable [Tb : Tbs]
/-! ### steps that answer themselves -/
local macro_rules | `(tactic| walk_at "side") => `(tactic| first | rfl | assumption | exact key_p (_, _) | exact key_p _ | exact key_s _ | exact flat_oD _ | exact flat_sD _ | omega | decide)
local macro_rules | `(tactic| walk_at "noloop") => `(tactic| fail_if_success (first | refine ⟨(fun (_ : Nat) (_ : DEnv) => True), ?_⟩ | refine ⟨(fun (_ : Nat) (_ : DEnv) (_ : List Dt) => True), ?_⟩ | refine ⟨(fun (_ : Nat) (_ : DEnv) (_ : List (Dt × Dt)) => True), ?_⟩ | refine ⟨(fun (_ : DEnv) => True), ?_⟩))
local macro_rules | `(tactic| walk_at "step1") => `(tactic| (walk_at "noloop"; first
  | refine ⟨(_ : Dt), rfl, ?_⟩
  | refine ⟨(_ : Bool), rfl, ?_⟩
  | refine ⟨(_ : List Dt), rfl, ?_⟩
  | refine ⟨(_ : Int), rfl, ?_⟩
  | refine ⟨(_ : Res), rfl, ?_⟩
  | refine ⟨(_ : List (Dt × Dt)), rfl, ?_⟩
  | refine ⟨(_ : Dt), (_ : List Dt), rfl, rfl, (by first | (intro _ z; cases z; done) | (intro _ z; exact Dt.noConfusion z)), ?_⟩
  | refine ⟨(_ : Dt), ⟨_, _, rfl, rfl, rfl⟩, ?_⟩
  | refine ⟨(_ : Dt), ⟨rfl, rfl⟩, ?_⟩
  | refine ⟨(_ : Dt), (_ : Dt), rfl, ⟨_, _, rfl, rfl, (by walk_at "side")⟩, ?_⟩
  | refine ⟨(_ : Dt), (_ : Dt), rfl, ⟨_, _, rfl, (by walk_at "side"), (by walk_at "side")⟩, ?_⟩
  | refine ⟨(_ : Kd), _, rfl, (by walk_at "side"), ?_⟩
  | refine ⟨(_ : Kd), _, rfl, ?_⟩
  | refine ⟨(_ : Dt), _, rfl, rfl, (by walk_at "side"), (by walk_at "side"), ?_⟩
  | refine ⟨(_ : Dt), (_ : Nat), rfl, rfl, ?_⟩
  | refine ⟨Nat.le_of_ble_eq_true rfl, ?_⟩
  | refine ⟨_, (_ : Dt), rfl, (by walk_at "side"), ?_⟩
  | refine ⟨⟨_, _, rfl⟩, ?_⟩
  | refine ⟨⟨_, _, _, rfl⟩, ?_⟩
  | refine ⟨(_ : List Dt), .inl rfl, rfl, ?_⟩
  | refine ⟨(_ : Dt), (_ : List Dt), rfl, ?_⟩
  | refine ⟨(rfl : ([] : List Dt) = []), ?_⟩
  | refine ⟨(_ : String), true, rfl, (by decide +kernel), ?_⟩
  | refine ⟨(_ : String), false, rfl, (by decide +kernel), ?_⟩
  | refine ⟨(_ : String), true, false, rfl, (by decide +kernel), (by decide +kernel), ?_⟩
  | refine ⟨(_ : String), false, true, rfl, (by decide +kernel), (by decide +kernel), ?_⟩
  | refine ⟨(_ : String), false, false, rfl, (by decide +kernel), (by decide +kernel), ?_⟩
  | refine ⟨(_ : Kd), _, true, rfl, (by decide +kernel), ?_⟩
  | refine ⟨(_ : Bool), ⟨_, _, rfl, rfl, rfl⟩, ?_⟩
  | refine ⟨⟨_, rfl, (by first | exact d_no.1 | exact d_no.2.1 | exact d_no.2.2.1 | exact d_no.2.2.2)⟩, ?_⟩
  | refine ⟨⟨_, rfl⟩, ?_⟩
  | refine ⟨(_ : List Str), (_ : Str), (_ : List Mv), _, _, rfl, ?_⟩
  | refine iteD rfl ?_
  | refine iteN (by decide) ?_
  | refine iteN (by decide +kernel) ?_
  | refine iteD (by decide +kernel) ?_))
local macro_rules | `(tactic| walk_at "go") => `(tactic| repeat walk_at "step1")
end Sv
namespace Sv
open PySem PySem.Spec PyProof.Rows L2
open C8 (Cal Mak Met cal0 mak0 met0 pe_c pe_mk pe_mt pe_mt0 fnBody fnArgs fnScope scC fnScope_by pe_gc InsC call_isC)
variable [Tb : Tbs]
/-! ### texts of lines -/
section
variable {A : Anc} {X : Cx} {L : Lk} {F F' H : Hp} {ε : DEnv} {σ : L2.St} {e : Expr}
def gJoin (ga gb : GE) : GE := fun ε P => ga ε fun ε1 x => ∃ a : Str, x = .str a ∧ gb ε1 fun ε2 y => ∃ ys : List Str, itemsD y = some (ys.map .str) ∧ (ys.map (·.length)).sum + ys.length * a.length ≤ 16777216 ∧ P ε2 (.str (Str.join a ys))
theorem xe_join {ga gb : GE} (h : PE X e (tM1 (fun x xs H Q => ∃ a p, ∃ ys : List Str, x = V.str a ∧ xs = [.ref p] ∧ (SqL X.K H p (ys.map V.str) ∨ SqT X.K H p (ys.map V.str)) ∧ (ys.map (·.length)).sum + ys.length * a.length ≤ 16777216 ∧ Q (.str (Txt.join a ys)) H) (tE A ga) (tE A gb))) (hK : X.K = A.K := by rfl) : XE A X e (gJoin ga gb) :=
  h.weak fun σ H Q ⟨L, F, ε, P, R, hg, k⟩ => ⟨L, F, ε, _, R, hg, fun F1 ε1 H1 v x s1 R1 i1 ⟨a, ex, q1⟩ => by
    subst ex
    cases i1
    refine ⟨⟨a, rfl⟩, L, F1, ε1, _, R1, q1, fun F2 ε2 H2 u y s2 R2 i2 ⟨ys, ey, l, p⟩ => ?_⟩
    obtain ⟨b, rfl, hb⟩ := sq_of R2.low i2 ey
    refine ⟨a, b, ys, rfl, rfl, by rw [hK]; exact hb, l, ?_⟩
    rw [show Txt.join a ys = Str.join a ys from TL.join_eq a ys]
    exact k F2 ε2 H2 _ _ (s1.trans s2) R2 (.str _) p⟩
end
end Sv
namespace Sv
open PySem PySem.Spec PyProof.Rows L2
open C8 (Cal Mak Met cal0 mak0 met0 pe_c pe_mk pe_mt pe_mt0 fnBody fnArgs fnScope scC fnScope_by pe_gc InsC call_isC)
variable [Tb : Tbs]
/-! ### a dict of the caller's that a def changes and leaves to it -/
abbrev BSp := List (Dt × Dt) → List Dt → (List (Dt × Dt) → Res → Prop) → Prop
def spB (K : PySem.W.Frag) (fs : BSp) : Sp := fun vs H Q _ => ∃ L F a kvs ws ds P, vs = .ref a :: ws ∧ LowT L F H ∧ F a = none ∧ dicOk K F H a .k kvs ∧ IsL K F ws ds ∧ fs kvs ds P ∧
  ∀ F' H' v r kvs', Left L F (del H a) F' (del H' a) → RNew K F' (del H a) (del H' a) v r → F' a = none → dicOk K F' H' a .k kvs' → P kvs' r → Q v H'
/-- the dict stands in slot i -/
def setB1 (kvs : List (Dt × Dt)) : Sl → Sl
  | .od a .k _ => .od a .k kvs
  | s => s
def setBx : DEnv → Nat → List (Dt × Dt) → DEnv
  | [], _, _ => []
  | s :: ε, 0, n => setB1 n s :: ε
  | s :: ε, i + 1, n => s :: setBx ε i n
theorem setBx_def : ∀ (ε : DEnv) (i : Nat) (n : List (Dt × Dt)), setBx ε i n = match ε[i]? with
    | some (.od a .k _) => ε.set i (.od a .k n)
    | _ => ε
  | [], _, _ => rfl
  | s :: ε, 0, n => by
    cases s with
    | od a T kvs => cases T <;> rfl
    | _ => rfl
  | s :: ε, i + 1, n => by
    show s :: setBx ε i n = _
    rw [setBx_def ε i, List.getElem?_cons_succ]
    cases ε[i]? with
    | none => rfl
    | some x => cases x with
      | od a T kvs => cases T <;> rfl
      | _ => rfl
def rdBx (ε : DEnv) (i : Nat) : Option (List (Dt × Dt)) := match ε[i]? with
  | some (.od _ .k kvs) => some kvs
  | _ => none
theorem rdBx_at {ε : DEnv} {i : Nat} {kvs : List (Dt × Dt)} (h : rdBx ε i = some kvs) : ∃ a, ε[i]? = some (.od a .k kvs) ∧ ∀ m, setBx ε i m = ε.set i (.od a .k m) := by
  unfold rdBx at h
  cases e : ε[i]? with
  | none => rw [e] at h; cases h
  | some s =>
    rw [e] at h
    cases s with
    | od a T kvs0 =>
      cases T with
      | t => cases h
      | x => cases h
      | k => cases h; exact ⟨_, rfl, fun m => by rw [setBx_def, e]⟩
    | _ => cases h
section
variable {A : Anc} {X : Cx} {L : Lk} {K : PySem.W.Frag} {F F' H H' : Hp} {ε : DEnv} {σ : L2.St} {e : Expr}
theorem upd_del {H : Hp} {a : Addr} {o : HO} (h : H a = some o) : upd (del H a) a o = H := by
  funext b
  by_cases hb : b = a
  · rw [hb, upd_same, h]
  · rw [upd_ne hb, del_ne hb]
theorem del_eq {H : Hp} {a p : Addr} {o : HO} (h : del H a p = some o) : p ≠ a ∧ H p = some o := by
  have ne : p ≠ a := fun z => by rw [z, del_same] at h; cases h
  exact ⟨ne, by rwa [del_ne ne] at h⟩
/-- the dict is given back -/
theorem Rep.leftB (R : Rep A L F ε σ H) {i : Nat} {a : Addr} {kvs kvs' : List (Dt × Dt)} (e : ε[i]? = some (.od a .k kvs)) (l : Left L.l F (Sv.del H a) F' (Sv.del H' a)) (fa : F' a = none) (ok : dicOk A.K F' H' a .k kvs') : Rep A L F' (ε.set i (.od a .k kvs')) σ H' := by
  have hi : i < ε.length := (List.getElem?_eq_some_iff.mp e).1
  have m : a ∈ adr (.od a .k kvs) := List.mem_singleton.mpr rfl
  have w := R.ownOf (x := .un) e m (fun _ _ _ _ z => nomatch z) rfl
  obtain ⟨hv, ok0⟩ := R.od e
  obtain ⟨o0, h0, d0, _⟩ := dicOk.ex ok0
  have R2 := (R.letGo (i := i) (x := .un) (fun _ _ => True.intro) rfl).del w h0 (by cases o0 <;> first | exact True.intro | exact d0.elim)
  have R3 := R2.left l
  obtain ⟨o1, h1, d1, _⟩ := dicOk.ex ok
  have w3 := R3.own (p := a) del_same
  have R4 := R3.newOff (p := a) o1 del_same
  rw [upd_del h1] at R4
  have R5 := R4.setOwn (i := i) (v := .ref a) (x := .od a .k kvs') (by rw [List.length_set]; exact hi) (fun _ _ _ _ z => nomatch z) ⟨rfl, ok⟩ fun b hb => by
    rw [List.mem_singleton.mp hb]
    exact ⟨⟨fa, w3.nh, w3.np, w3.nx, w3.ns⟩, o1, h1⟩
  rw [List.set_set] at R5
  have es : σ.set i (some (.ref a)) = σ := by
    refine List.ext_getElem? fun j => ?_
    rw [List.getElem?_set]
    by_cases hj : i = j
    · subst hj
      rw [if_pos rfl, if_pos (by rw [← R.len]; exact hi), hv]
    · rw [if_neg hj]
  rwa [es] at R5
def gCallB (i : Nat) (fs : BSp) (ga : GA) : GR := fun ε P => (∃ n, rdBx ε i = some n) ∧ ga ε fun ε1 ds => ∃ n, rdBx ε1 i = some n ∧ fs n ds fun n' r => P (setBx ε1 i n') r
theorem xr_cB {i : Nat} {fs : BSp} {ga : GA} (h : PE X e (tCall (spB A.K fs) [] C8.E0 (tCons (tVar i) (tAs A ga)))) : XR A X e (gCallB i fs ga) := h.weak fun σ H Q ⟨L, F, ε, P, R, ⟨⟨n0, h0⟩, hg⟩, k⟩ => by
  obtain ⟨a0, e0, _⟩ := rdBx_at h0
  obtain ⟨hv0, _⟩ := R.od e0
  refine ⟨.ref a0, hv0, L, F, ε, _, R, hg, fun F1 ε1 H1 vs ds s1 R1 i1 ⟨n, hn, q⟩ => ?_⟩
  obtain ⟨a, e1, st⟩ := rdBx_at hn
  obtain ⟨hv, ok⟩ := R1.od e1
  have ep : a0 = a := by
    have z := hv0.symm.trans hv
    cases z
    rfl
  subst ep
  show spB A.K fs (.ref a0 :: vs ++ []) H1 Q C8.E0
  rw [List.append_nil]
  have ma : a0 ∈ adr (.od a0 .k n) := List.mem_singleton.mpr rfl
  refine ⟨L.l, F1, a0, n, vs, ds, _, rfl, R1.lowT, (R1.off i _ a0 e1 ma).1, ok, i1, q, fun F2 H2 v r n' l nw fa ok2 p2 => ?_⟩
  have R2 := R1.leftB e1 l fa ok2
  rw [st] at p2
  refine k F2 _ H2 v r (s1.trans l.f) R2 ?_ p2
  have nsl : ∀ p, p ≠ a0 → H1 p = none → ∀ (j : Nat) (t : Sl), (ε1.set i (.od a0 .k n'))[j]? = some t → p ∉ adr t := fun p pa hp j t f m => by
    by_cases hj : j = i
    · subst hj
      rw [List.getElem?_set_self (List.getElem?_eq_some_iff.mp e1).1] at f
      cases f
      exact pa (List.mem_singleton.mp m)
    · rw [List.getElem?_set_ne (Ne.symm hj)] at f
      exact R1.offn hp j t f m
  have ow : ∀ p o, F2 p = none → del H1 a0 p = none → del H2 a0 p = some o → Own A L F2 (ε1.set i (.od a0 .k n')) p ∧ H2 p = some o := fun p o h1 h2 h3 => by
    obtain ⟨ne, h4⟩ := del_eq h3
    rw [del_ne ne] at h2
    exact ⟨⟨h1, R1.fresh h2, R1.npg h2, R1.xn h2, nsl p ne h2⟩, h4⟩
  cases r with
  | fz d => exact nw
  | ol xs =>
    obtain ⟨p, ws, rfl, h1, h2, h3, h4⟩ := nw
    obtain ⟨w, h5⟩ := ow p _ h1 h2 h3
    exact ⟨p, ws, rfl, w, h5, h4⟩
  | od T kvs =>
    obtain ⟨p, rfl, h1, h2, h3⟩ := nw
    cases T with
    | t =>
      obtain ⟨vs, h3, h4⟩ := h3
      obtain ⟨w, h5⟩ := ow p _ h1 h2 h3
      exact ⟨p, rfl, w, vs, h5, h4⟩
    | k =>
      obtain ⟨vs, h3, h4⟩ := h3
      obtain ⟨w, h5⟩ := ow p _ h1 h2 h3
      exact ⟨p, rfl, w, vs, h5, h4⟩
    | x =>
      obtain ⟨vs, ob, h3, h4⟩ := h3
      obtain ⟨w, h5⟩ := ow p _ h1 h2 h3
      exact ⟨p, rfl, w, vs, ob, h5, h4⟩
  | tp xs ds =>
    obtain ⟨q, p, us, ws, rfl, hp, h1, h2, h3, r, r'⟩ := nw
    obtain ⟨w, h5⟩ := ow p _ h1 h2 h3
    exact ⟨q, p, us, ws, rfl, hp, w, h5, r, r'⟩
end
def startB (N : List Str) (a : Addr) (kvs : List (Dt × Dt)) (ds : List Dt) : DEnv := .od a .k kvs :: (ds.map .fz ++ List.replicate (N.length - (ds.length + 1)) .un)
theorem rep_startB {K : PySem.W.Frag} {L : Addr → Option Obj} {F H : Hp} {vs : List V} {ds : List Dt} {a : Addr} {kvs : List (Dt × Dt)} (N : List Str) (lo : LowT L F H) (ok : dicOk K F H a .k kvs) (fa : F a = none) (is : IsL K F vs ds) :
    Rep ⟨K, del H a, F, L, []⟩ ⟨L, fun _ => none⟩ F (startB N a kvs ds) (L2.start N (.ref a :: vs)) H := by
  have sp : ∀ (i : Nat) (s : Sl), (startB N a kvs ds)[i]? = some s → (i = 0 ∧ s = .od a .k kvs) ∨ adr s = [] := fun i s e => by
    cases i with
    | zero => exact .inl ⟨rfl, (Option.some.inj e).symm⟩
    | succ i => exact .inr (rep_adr (ds := ds) (n := N.length - (ds.length + 1)) (i := i) e)
  have st : L2.start N (.ref a :: vs) = some (.ref a) :: (vs.map some ++ List.replicate (N.length - (vs.length + 1)) none) := rfl
  obtain ⟨o, ho, _⟩ := dicOk.ex ok
  refine ⟨?_, lo, fun i s e => ?_, fun i s b e m => ?_, fun i j s t b e f m m' => ?_, fun b o _ e _ _ => del_sub b o e, fun b o e => .inl e, fun i s b e m => ?_, fun b ob e => e, fun b hb => (nomatch hb), fun i p c g n e => ?_, fun a o e => (nomatch e), fun i s a e m => rfl, lo.tk, .of del_sub⟩
  · rw [st]
    unfold startB
    rw [List.length_cons, List.length_cons, List.length_append, List.length_append, List.length_map, List.length_map, List.length_replicate, List.length_replicate, is.length]
  · rw [st]
    cases i with
    | zero =>
      cases (Option.some.inj e : Sl.od a .k kvs = s)
      exact ⟨rfl, ok⟩
    | succ i => exact rep_vals (A := ⟨K, del H a, F, L, []⟩) is _ _ i s e
  · rcases sp i s e with ⟨rfl, rfl⟩ | z
    · rw [List.mem_singleton.mp m]
      exact ⟨fa, o, ho⟩
    · rw [z] at m; cases m
  · rcases sp i s e with ⟨rfl, _⟩ | z
    · rcases sp j t f with ⟨rfl, _⟩ | z
      · rfl
      · rw [z] at m'; cases m'
    · rw [z] at m; cases m
  · rcases sp i s e with ⟨_, rfl⟩ | z
    · rw [List.mem_singleton.mp m]
      exact .inl ⟨del_same, fun z => nomatch z⟩
    · rw [z] at m; cases m
  · rcases sp i _ e with ⟨_, z⟩ | z
    · cases z
    · cases z
theorem body_ofB {K : PySem.W.Frag} {N : List Str} {X : Cx} {body : List Stmt} {fs : BSp} {vs : List V} {H : Hp} {Q : VK} {E : XK} (h : spB K fs vs H Q E) (hb : ∀ (A : Anc) a kvs ds (Pq : List (Dt × Dt) → Res → Prop), A.K = K → fs kvs ds Pq → ∃ kb, XSs A X body kb ∧
      kb { nx := fun ε => ∃ n', ε[0]? = some (.od a .k n') ∧ Pq n' (.fz .non), rt := fun ε r => ∃ n', ε[0]? = some (.od a .k n') ∧ Pq n' r } (startB N a kvs ds)) :
    ∃ t, PSs X body t ∧ t { nx := fun _ H' => Q .non H', rt := Q } (L2.start N vs) H := by
  obtain ⟨L, F, a, kvs, ws, ds, Pq, rfl, lo, fa, ok, is, hf, k⟩ := h
  obtain ⟨kb, h1, h2⟩ := hb ⟨K, del H a, F, L, []⟩ a kvs ds Pq rfl hf
  have fin : ∀ {F' : Hp} {ε : DEnv} {σ : L2.St} {H' : Hp} {n' : List (Dt × Dt)}, Rep ⟨K, del H a, F, L, []⟩ ⟨L, fun _ => none⟩ F' ε σ H' → ε[0]? = some (.od a .k n') → Same F F' → Left L F (del H a) F' (del H' a) ∧ F' a = none ∧ dicOk K F' H' a .k n' := fun {F' ε σ H' n'} R e s => by
    have m : a ∈ adr (.od a .k n') := List.mem_singleton.mpr rfl
    have w := R.ownOf (x := .un) e m (fun _ _ _ _ z => nomatch z) rfl
    obtain ⟨_, ok0⟩ := R.od e
    obtain ⟨o0, h0, d0, _⟩ := dicOk.ex ok0
    have R2 := (R.letGo (i := 0) (x := .un) (fun _ _ => True.intro) rfl).del w h0 (by cases o0 <;> first | exact True.intro | exact d0.elim)
    exact ⟨left_of R2 s rfl rfl, (R.off 0 _ a e m).1, ok0⟩
  refine ⟨_, h1, ⟨L, fun _ => none⟩, F, _, _, rep_startB N lo ok fa is, h2, fun F' ε' σ' H' s R ⟨n', e, p⟩ => ?_, fun F' ε' σ' H' v r s R okr ⟨n', e, p⟩ => ?_, fun _ _ _ _ _ _ z => z.elim, fun _ _ _ _ _ _ z => z.elim⟩
  · obtain ⟨l, f, d⟩ := fin R e s
    exact k F' H' .non (.fz .non) n' l .non f d p
  · obtain ⟨l, f, d⟩ := fin R e s
    have nw := rnew_of okr
    have ne : ∀ q, Own ⟨K, del H a, F, L, []⟩ ⟨L, fun _ => none⟩ F' ε' q → q ≠ a := fun q w z => w.ns 0 _ e (by rw [z]; exact List.mem_singleton.mpr rfl)
    refine k F' H' v r n' l ?_ f d p
    cases r with
    | fz d => exact nw
    | ol xs =>
      obtain ⟨q, us, rfl, w, hq, r⟩ := okr
      exact ⟨q, us, rfl, w.nf, w.nh, by rw [del_ne (ne q w)]; exact hq, r⟩
    | od T ks =>
      obtain ⟨q, rfl, w, hq⟩ := okr
      refine ⟨q, rfl, w.nf, w.nh, ?_⟩
      cases T with
      | t => obtain ⟨us, hq, r⟩ := hq; exact ⟨us, by rw [del_ne (ne q w)]; exact hq, r⟩
      | k => obtain ⟨us, hq, r⟩ := hq; exact ⟨us, by rw [del_ne (ne q w)]; exact hq, r⟩
      | x => obtain ⟨us, ob, hq, r⟩ := hq; exact ⟨us, ob, by rw [del_ne (ne q w)]; exact hq, r⟩
    | tp xs ds =>
      obtain ⟨p0, q, us, ws, rfl, hp, w, hq, r, r'⟩ := okr
      exact ⟨p0, q, us, ws, rfl, hp, w.nf, w.nh, by rw [del_ne (ne q w)]; exact hq, r, r'⟩
section
variable {P : Program} {w : World} {K : PySem.W.Frag} {mg : Str → Option Value} {base : Heap}
theorem Dn.dcalB {x : Str} {st : Stmt} {N ps : List Str} {k : Nat} {fs : BSp} (D : Dn K mg x st ps) (S : FnScope N ps (fnScope st)) (len : ∀ n ds Pq, fs n ds Pq → ds.length + 1 = ps.length)
    (hb : ∀ (f : Addr) (cdv : Value) (A' : Around) (outer : List Env) (s : Shared) (H : Hp) (E : XK), Room k (A'.deeper (envOfC x (fnScope st) s.heap.objs.size f cdv)) → ∀ (A : Anc) a kvs ds (Pq : List (Dt × Dt) → Res → Prop), A.K = K → fs kvs ds Pq →
      ∃ kb, XSs A (cxOf C8.CX0 P w K mg base N x (fnScope st) f cdv A' outer s H E).nox (fnBody st) kb ∧ kb { nx := fun ε => ∃ n', ε[0]? = some (.od a .k n') ∧ Pq n' (.fz .non), rt := fun ε r => ∃ n', ε[0]? = some (.od a .k n') ∧ Pq n' r } (startB N a kvs ds)) : Cal P w K mg base (k + 1) x (spB K fs) [] :=
  D.cal S (fun vs H Q E ⟨L, F, a, kvs, ws, ds, P, e, _, _, _, is, hf, _⟩ => by rw [e, List.length_cons, is.length]; exact len kvs ds P hf) fun f cdv A' outer s H vs Q E hr h => body_ofB h (hb f cdv A' outer s H E hr)
end
/-! ### two dicts: one is changed, the other only read; both stay the caller's -/
section
variable {A : Anc} {X : Cx} {L : Lk} {K : PySem.W.Frag} {F F' H H' : Hp} {ε : DEnv} {σ : L2.St} {e : Expr}
theorem dicOk.off {a b : Addr} {kvs : List (Dt × Dt)} (h : dicOk K F H b .k kvs) (n : b ≠ a) : dicOk K F (del H a) b .k kvs := by
  obtain ⟨vs, h, r⟩ := h
  exact ⟨vs, by rw [del_ne n]; exact h, r⟩
end
end Sv
namespace Sv
open PySem PySem.Spec PyProof.Rows L2
open C8 (Cal Mak Met cal0 mak0 met0 pe_c pe_mk pe_mt pe_mt0 fnBody fnArgs fnScope scC fnScope_by pe_gc InsC call_isC)
variable [Tb : Tbs]
/-! ### a law's box -/
def boxD (cs : List Int) (a g m n : Int) : List (Dt × Dt) := [(.str "cells", .lst (cs.map .int)), (.str "at", .int a), (.str "great", .int g), (.str "mix", .int m), (.str "count", .int n)]
def BoxOk (kvs : List (Dt × Dt)) : Prop := ∃ cs a g m n, kvs = boxD cs a g m n ∧ 0 ≤ a
section
variable {cs : List Int} {a g m n x : Int}
theorem bx_cells : lookD (boxD cs a g m n) (.str "cells") = some (.lst (cs.map .int)) := rfl
theorem bx_at : lookD (boxD cs a g m n) (.str "at") = some (.int a) := rfl
theorem bx_great : lookD (boxD cs a g m n) (.str "great") = some (.int g) := rfl
theorem bx_mix : lookD (boxD cs a g m n) (.str "mix") = some (.int m) := rfl
theorem bx_count : lookD (boxD cs a g m n) (.str "count") = some (.int n) := rfl
theorem px_at : putD (boxD cs a g m n) (.str "at") (.int x) = boxD cs x g m n := rfl
theorem px_great : putD (boxD cs a g m n) (.str "great") (.int x) = boxD cs a x m n := rfl
theorem px_mix : putD (boxD cs a g m n) (.str "mix") (.int x) = boxD cs a g x n := rfl
theorem px_count : putD (boxD cs a g m n) (.str "count") (.int x) = boxD cs a g m x := rfl
theorem bx_len : (boxD cs a g m n).length < 100000 := by show 5 < 100000; decide
end
/-! the box is made -/
def boxV (l : Addr) (m : Int) : List (Key × V) := [(.inr "cells", .ref l), (.inr "at", .int 0), (.inr "great", .int 0), (.inr "mix", .int m), (.inr "count", .int 0)]
def spBox (K : PySem.W.Frag) : Sp := fun vs H Q _ => ∃ (a : Addr) (ns : List Int), vs = [.ref a] ∧ SqL K H a (ns.map V.int) ∧
  ∀ H' p l m, Same H H' → H p = none → p ≠ l → H' p = some (.dK (boxV l m)) → H' l = some (.lst (ns.map V.int)) → Q (.ref p) H'
section
variable {P : Program} {K : PySem.W.Frag} {mg : Str → Option Value} {base : Heap}
theorem ok_law_box (D : Dn K mg "_law_box" s_law_box ["_law_script"]) (T : Txt K mg) : Cal P Tb.w K mg base 1 "_law_box" (spBox K) [] := by
  refine D.cal sc_law_box (fun vs H Q E h => ?_) (fun f cdv A outer s H vs Q E hr h => ?_)
  · obtain ⟨a, ns, rfl, _⟩ := h
    rfl
  · obtain ⟨a, ns, rfl, hS, q⟩ := h
    refine ⟨_, (pss_one (ps_ret (pe_disp (pps_cons pe_str (pe_callTy call_list_of (by rfl) T.list (by decide +kernel) (pa_cons (pv 0) pa_nil)) (pps_cons pe_str pe_int (pps_cons pe_str pe_int (pps_cons pe_str (pe_op op_add pe_int (pe_op op_mod (pe_callB call_lenA (by rfl) T.len PySem.boot_len (pa_cons (pv 0) pa_nil)) pe_int)) (pps_cons pe_str pe_int pps_nil))))) (by rfl) (by rfl) (fun z => by cases z) (by decide)))), ?_⟩
    intro p np
    have s1 : Same H (upd H p (.dK [])) := same_upd np
    refine ⟨_, rfl, a, _, rfl, .inl (Same.seq s1 hS), fun l nl => ?_⟩
    have npl : p ≠ l := fun e => not_two (e ▸ nl) upd_same
    have s2 : Same H (upd (upd H p (.dK [])) l (.lst (ns.map V.int))) := s1.upd nl
    refine ⟨_, rfl, .inl ⟨a, _, rfl, .inl (Same.seq s2 hS), _, _, rfl, rfl, (by show (0 : Int) < 1009; decide), _, _, rfl, rfl, ?_⟩⟩
    refine ⟨by rw [upd_ne npl]; exact upd_same, boxV l (1 + (((ns.map V.int).length : Nat) : Int) % 1009), rfl, by show 5 ≤ 15; decide, ?_⟩
    refine q _ p l _ (fun b o e => ?_) np npl upd_same (by rw [upd_ne npl.symm]; exact upd_same)
    rw [upd_ne (fun z => not_two np (z ▸ e))]
    exact s2 b o e
/-! the law's frame behind it -/
theorem law_startB {k : KS} {p l : Addr} {ns : List Int} {mx : Int} {m : Nat} {H : Hp} {σ : L2.St} {D : Ends} (hl : σ.length = m + 2) (h1 : σ[1]? = some (some (.ref p))) (hp : H p = some (.dK (boxV l mx))) (hc : H l = some (.lst (ns.map V.int))) (npl : p ≠ l) (tk : TOk H) (hD : ∀ H', D.rt (.bl true) H')
    (h : k { nx := fun _ => False, rt := fun _ r => r = .fz (.bl true) } (.un :: .od p .k (boxD ns 0 0 mx 0) :: List.replicate m .un)) : ∃ H0 F0 L0 pg, tS ⟨K, H0, F0, L0, pg⟩ k D σ H := by
  have fp : (upd (fun _ => none) l (.lst (ns.map V.int)) : Hp) p = none := upd_ne npl
  have at_ : ∀ (i : Nat) (s : Sl), (Sl.un :: .od p .k (boxD ns 0 0 mx 0) :: List.replicate m .un)[i]? = some s → s = .un ∨ (i = 1 ∧ s = .od p .k (boxD ns 0 0 mx 0)) := fun i s e => by
    cases i with
    | zero => exact .inl (Option.some.inj e).symm
    | succ i => cases i with
      | zero => exact .inr ⟨rfl, (Option.some.inj e).symm⟩
      | succ i =>
        have e : (List.replicate m Sl.un)[i]? = some s := e
        obtain ⟨_, z⟩ := List.getElem?_eq_some_iff.mp e
        rw [List.getElem_replicate] at z
        exact .inl z.symm
  have R : Rep ⟨K, Sv.del H p, upd (fun _ => none) l (.lst (ns.map V.int)), fun _ => none, []⟩ ⟨fun _ => none, fun _ => none⟩ (upd (fun _ => none) l (.lst (ns.map V.int))) (Sl.un :: .od p .k (boxD ns 0 0 mx 0) :: List.replicate m .un) σ H := by
    refine ⟨by rw [hl]; simp, ⟨fun a o e => ?_, fun a ob e => (nomatch e), fun a o e => ?_⟩, fun i s e => ?_, fun i s a e ma => ?_, fun i j s t a e f ma mb => ?_, fun b o _ e _ _ => del_sub b o e, fun b o e => .inl e, fun i s a e ma => ?_, fun b ob e => e, fun b hb => (nomatch hb), fun i p' c g n e => ?_, fun a o e => (nomatch e), fun i s a e ma => rfl, tk, .of del_sub⟩
    · by_cases h : a = l
      · rw [h, upd_same] at e; cases e; exact .inl ⟨rfl, by rw [h]; exact hc⟩
      · rw [upd_ne h] at e; cases e
    · by_cases h : a = l
      · rw [h, upd_same] at e; cases e; exact True.intro
      · rw [upd_ne h] at e; cases e
    · rcases at_ i s e with rfl | ⟨rfl, rfl⟩
      · exact True.intro
      · exact ⟨by rw [h1]; rfl, _, hp, .cons (k := .inr "cells") (.lst upd_same (IsL.ints ns)) (.cons (k := .inr "at") (.int _) (.cons (k := .inr "great") (.int _) (.cons (k := .inr "mix") (.int _) (.cons (k := .inr "count") (.int _) .nil))))⟩
    · rcases at_ i s e with rfl | ⟨rfl, rfl⟩
      · cases ma
      · rw [List.mem_singleton.mp ma]
        exact ⟨fp, _, hp⟩
    · rcases at_ i s e with rfl | ⟨rfl, rfl⟩
      · cases ma
      · rcases at_ j t f with rfl | ⟨rfl, rfl⟩
        · cases mb
        · rfl
    · rcases at_ i s e with rfl | ⟨rfl, rfl⟩
      · cases ma
      · rw [List.mem_singleton.mp ma]
        exact .inl ⟨del_same, fun z => nomatch z⟩
    · rcases at_ i _ e with z | ⟨_, z⟩ <;> cases z
  exact ⟨_, _, _, _, _, _, _, _, R, h, fun _ _ _ _ _ _ z => z.elim, fun F' ε' σ' H' v r s R ok e => by subst e; cases ok; exact hD H', fun _ _ _ _ _ _ z => z.elim, fun _ _ _ _ _ _ z => z.elim⟩
end
/-! ### a number is taken -/
def fsTake : BSp := fun kvs ds Pq => BoxOk kvs ∧ ∃ m : Int, ds = [.int m] ∧ 1 ≤ m ∧ m < 2 ^ 64 ∧ ∀ kvs' r, BoxOk kvs' → 0 ≤ r → r < m → Pq kvs' (.fz (.int r))
theorem atI_ints {cs : List Int} {i : Int} (h0 : 0 ≤ i) (h : i < ((cs.map Dt.int).length : Nat)) : ∃ c, atI (cs.map Dt.int) i = some (.int c) := by
  rw [List.length_map] at h
  have h1 : i.toNat < cs.length := by omega
  refine ⟨cs[i.toNat], ?_⟩
  unfold atI
  rw [List.length_map, ixN_in h0 h]
  show (cs.map Dt.int)[i.toNat]? = _
  rw [List.getElem?_map, List.getElem?_eq_getElem h1]
  rfl
theorem bxDec {p A B : Prop} [Decidable p] (h1 : p → A) (h2 : ¬ p → B) : if (decide p) = true then A else B := by
  by_cases h : p
  · rw [decide_eq_true h]; exact h1 h
  · rw [decide_eq_false h]; exact h2 h
theorem m64 {g m : Int} (h1 : 1 ≤ m) (h2 : m < 2 ^ 64) : CDivW g m := wide_div (b := 64) (by omega) (by omega) (by decide) (by decide)
theorem cm_mod (y z : Int) : CMul (y % 2147483647) z := by
  have h0 : 0 ≤ y % 2147483647 := Int.emod_nonneg _ (by decide)
  have h1 : y % 2147483647 < 2147483647 := Int.emod_lt_of_pos _ (by decide)
  exact .inl ⟨by omega, by omega⟩
/-! ### steps that answer themselves -/
local macro_rules | `(tactic| walk_at "side") => `(tactic| first | rfl | assumption | exact key_p (_, _) | exact key_p _ | exact key_s _ | exact flat_sD _ | omega | decide)
local macro_rules | `(tactic| walk_at "noloop") => `(tactic| fail_if_success (first | refine ⟨(fun (_ : Nat) (_ : DEnv) => True), ?_⟩ | refine ⟨(fun (_ : Nat) (_ : DEnv) (_ : List Dt) => True), ?_⟩ | refine ⟨(fun (_ : Nat) (_ : DEnv) (_ : List (Dt × Dt)) => True), ?_⟩ | refine ⟨(fun (_ : DEnv) => True), ?_⟩))
local macro_rules | `(tactic| walk_at "cond") => `(tactic| first | assumption | exact ⟨by decide, by decide⟩ | exact ⟨by decide, by decide, by decide⟩ | exact .inr ⟨by decide, by decide⟩ | exact cm_mod _ _ | (show (0 : Int) < _; decide) | (show (0 : Int) < _; omega))
local macro_rules | `(tactic| walk_at "step1") => `(tactic| (walk_at "noloop"; first
  | refine ⟨(_ : Dt), rfl, ?_⟩
  | refine ⟨(_ : Bool), rfl, ?_⟩
  | refine ⟨(_ : List Dt), rfl, ?_⟩
  | refine ⟨(_ : Int), rfl, ?_⟩
  | refine ⟨(_ : Str), rfl, ?_⟩
  | refine ⟨(_ : Res), rfl, ?_⟩
  | refine ⟨(_ : List (Dt × Dt)), rfl, ?_⟩
  | refine ⟨(_ : Dt), (_ : List Dt), rfl, rfl, (by first | (intro _ z; cases z; done) | (intro _ z; exact Dt.noConfusion z)), ?_⟩
  | refine ⟨(_ : Dt), ⟨_, _, rfl, rfl, rfl⟩, ?_⟩
  | refine ⟨(_ : Dt), ⟨rfl, rfl⟩, ?_⟩
  | refine ⟨(_ : Dt), ⟨_, rfl, rfl⟩, ?_⟩
  | refine ⟨(_ : Dt), .inl ⟨_, rfl, rfl⟩, ?_⟩
  | refine ⟨(_ : Dt), ⟨_, _, rfl, rfl, (by walk_at "cond"), rfl⟩, ?_⟩
  | refine ⟨(_ : Dt), (_ : Dt), rfl, ⟨_, _, rfl, rfl, (by walk_at "side")⟩, ?_⟩
  | refine ⟨(_ : Dt), (_ : Dt), rfl, ⟨_, _, rfl, (by walk_at "side"), (by walk_at "side")⟩, ?_⟩
  | refine ⟨(_ : Kd), _, rfl, (by walk_at "side"), ?_⟩
  | refine ⟨(_ : Kd), _, rfl, ?_⟩
  | refine ⟨(_ : Dt), _, rfl, rfl, (by walk_at "side"), (by walk_at "side"), ?_⟩
  | refine ⟨(_ : Dt), (_ : Nat), rfl, rfl, ?_⟩
  | refine ⟨Nat.le_of_ble_eq_true rfl, ?_⟩
  | refine ⟨_, (_ : Dt), rfl, (by walk_at "side"), ?_⟩
  | refine ⟨⟨_, _, rfl⟩, ?_⟩
  | refine ⟨⟨_, _, _, rfl⟩, ?_⟩
  | refine ⟨(_ : List Dt), .inl rfl, rfl, ?_⟩
  | refine ⟨(_ : Dt), (_ : List Dt), rfl, ?_⟩
  | refine ⟨(rfl : ([] : List Dt) = []), ?_⟩
  | refine ⟨(_ : String), true, rfl, (by decide +kernel), ?_⟩
  | refine ⟨(_ : String), false, rfl, (by decide +kernel), ?_⟩
  | refine ⟨(_ : String), true, false, rfl, (by decide +kernel), (by decide +kernel), ?_⟩
  | refine ⟨(_ : String), false, true, rfl, (by decide +kernel), (by decide +kernel), ?_⟩
  | refine ⟨(_ : String), false, false, rfl, (by decide +kernel), (by decide +kernel), ?_⟩
  | refine ⟨(_ : Kd), _, true, rfl, (by decide +kernel), ?_⟩
  | refine ⟨(_ : Bool), ⟨_, _, rfl, rfl, rfl⟩, ?_⟩
  | refine ⟨⟨_, rfl, (by assumption)⟩, ?_⟩
  | refine ⟨⟨_, rfl⟩, ?_⟩
  | refine iteD rfl ?_
  | refine iteN (by decide) ?_
  | refine iteN (by decide +kernel) ?_
  | refine iteD (by decide +kernel) ?_))
local macro_rules | `(tactic| walk_at "go") => `(tactic| repeat walk_at "step1")
section
variable {P : Program} {K : PySem.W.Frag} {mg : Str → Option Value} {base : Heap}
theorem do_law_take (D : Dn K mg "_law_take" s_law_take ["_law_box_here", "_law_many"]) (T : Txt K mg) : Cal P Tb.w K mg base 1 "_law_take" (spB K fsTake) [] := by
  refine D.dcalB sc_law_take (fun n ds Pq h => ?_) (fun f cdv A' outer s H E hr A a kvs ds Pq hA h => ?_)
  · obtain ⟨_, _, rfl, _⟩ := h; rfl
  · obtain ⟨⟨cs, a0, g, mx, n, rfl, ha⟩, m, rfl, m1, m2, q⟩ := h
    subst hA
    refine ⟨_, (xss_cons (xs_put (ps_uput (hr.units) (pv 0) xe_str (xe_op op_add (od_I0 fun _ _ _ => .int _) (xe_dix (hr.units) (xk_v (pv 0)) xe_str (fun _ _ => rfl)) xe_int) rfl))
      (xss_cons (xs_cut (xs_if (PW.pt (xw_and (xt_cmp op_eq od_eqI (xe_dix (hr.units) (xk_v (pv 0)) xe_str (fun _ _ => rfl)) xe_int (nomark _)) (xw_and1 (xt_cmp op_lt (od_I0 fun _ _ _ => .bl _) (xe_dix (hr.units) (xk_v (pv 0)) xe_str (fun _ _ => rfl)) (xe_len (pe_callB call_lenA (by rfl) T.len PySem.boot_len (pa_cons (xk_e (xe_dix (hr.units) (xk_v (pv 0)) xe_str (fun _ _ => rfl))) pa_nil))) (nomark _))))) (xss_cons (xs_set (ps_set (i := 2) sc_law_take.nd rfl (Or.inl rfl) (xr_e (xe_ix (xk_e (xe_dix (hr.units) (xk_v (pv 0)) xe_str (fun _ _ => rfl))) (xe_dix (hr.units) (xk_v (pv 0)) xe_str (fun _ _ => rfl)) (fun _ _ => rfl))))) (xss_cons (xs_put (ps_uput (hr.units) (pv 0) xe_str (xe_op op_add (od_I0 fun _ _ _ => .int _) (xe_dix (hr.units) (xk_v (pv 0)) xe_str (fun _ _ => rfl)) xe_int) rfl)) (xss_one (xs_if (xt_cmp op_ge (od_I0 fun _ _ _ => .bl _) (xe_abs (pe_callB call_abs (by rfl) T.abs (by decide +kernel) (xa_cons (xe_v (pv 2)) xa_nil))) (xe_op op_pow (od_I fun _ _ _ => .int _) xe_int xe_int) (nomark _)) (xss_one (xs_put (ps_uput (hr.units) (pv 0) xe_str (xe_abs (pe_callB call_abs (by rfl) T.abs (by decide +kernel) (xa_cons (xe_v (pv 2)) xa_nil))) rfl))) (xss_cons (xs_set (ps_set (i := 2) sc_law_take.nd rfl (Or.inl rfl) (xr_e (xe_op op_mod (od_I fun _ _ _ => .int _) (xe_int1 (pe_callTy call_int1 (by rfl) T.int (by decide +kernel) (xa_cons (xe_v (pv 2)) xa_nil))) xe_int)))) (xss_one (xs_put (ps_uput (hr.units) (pv 0) xe_str (xe_op op_mod (od_I fun _ _ _ => .int _) (xe_int1 (pe_callTy call_int1 (by rfl) T.int (by decide +kernel) (xa_cons (xe_op op_add (od_I0 fun _ _ _ => .int _) (xe_op op_add (od_I0 fun _ _ _ => .int _) (xe_op op_mul (od_I fun _ _ _ => .int _) (xe_dix (hr.units) (xk_v (pv 0)) xe_str (fun _ _ => rfl)) xe_int) (xe_v (pv 2))) xe_int) xa_nil))) xe_int) rfl)))))))) xss_nil))
      (xss_cons (xs_if (xt_cmp op_gt (od_I0 fun _ _ _ => .bl _) (xe_dix (hr.units) (xk_v (pv 0)) xe_str (fun _ _ => rfl)) xe_int (nomark _)) (xss_cons (xs_set (ps_set (i := 3) sc_law_take.nd rfl (Or.inl rfl) (xr_e (xe_op op_mod (od_I fun _ _ _ => .int _) (xe_int1 (pe_callTy call_int1 (by rfl) T.int (by decide +kernel) (xa_cons (xe_dix (hr.units) (xk_v (pv 0)) xe_str (fun _ _ => rfl)) xa_nil))) (xe_v (pv 1)))))) (xss_cons (xs_put (ps_uput (hr.units) (pv 0) xe_str (xe_op op_fdivW (od_I fun _ _ _ => .int _) (xe_dix (hr.units) (xk_v (pv 0)) xe_str (fun _ _ => rfl)) (xe_v (pv 1))) rfl)) (xss_one (xs_ret (xr_v (pv 3)))))) xss_nil)
      (xss_cons (xs_set (ps_set (i := 4) sc_law_take.nd rfl (Or.inl rfl) (xr_e (xe_op op_mod (od_I fun _ _ _ => .int _) (xe_op op_mul (od_I fun _ _ _ => .int _) (xe_op op_add (od_I0 fun _ _ _ => .int _) (xe_op op_add (od_I0 fun _ _ _ => .int _) (xe_int1 (pe_callTy call_int1 (by rfl) T.int (by decide +kernel) (xa_cons (xe_dix (hr.units) (xk_v (pv 0)) xe_str (fun _ _ => rfl)) xa_nil))) (xe_op op_mul (od_I fun _ _ _ => .int _) (xe_int1 (pe_callTy call_int1 (by rfl) T.int (by decide +kernel) (xa_cons (xe_dix (hr.units) (xk_v (pv 0)) xe_str (fun _ _ => rfl)) xa_nil))) xe_int)) xe_int) xe_int) xe_int))))
      (xss_cons (xs_set (ps_set (i := 4) sc_law_take.nd rfl (Or.inl rfl) (xr_e (xe_op op_mod (od_I fun _ _ _ => .int _) (xe_op op_mul (od_I fun _ _ _ => .int _) (xe_int1 (pe_callTy call_int1 (by rfl) T.int (by decide +kernel) (xa_cons (xe_v (pv 4)) xa_nil))) (xe_op op_add (od_I0 fun _ _ _ => .int _) (xe_op op_fdiv (od_I fun _ _ _ => .int _) (xe_int1 (pe_callTy call_int1 (by rfl) T.int (by decide +kernel) (xa_cons (xe_v (pv 4)) xa_nil))) xe_int) xe_int)) xe_int))))
      (xss_cons (xs_set (ps_set (i := 4) sc_law_take.nd rfl (Or.inl rfl) (xr_e (xe_op op_mod (od_I fun _ _ _ => .int _) (xe_op op_mul (od_I fun _ _ _ => .int _) (xe_int1 (pe_callTy call_int1 (by rfl) T.int (by decide +kernel) (xa_cons (xe_v (pv 4)) xa_nil))) (xe_op op_add (od_I0 fun _ _ _ => .int _) (xe_op op_fdiv (od_I fun _ _ _ => .int _) (xe_int1 (pe_callTy call_int1 (by rfl) T.int (by decide +kernel) (xa_cons (xe_v (pv 4)) xa_nil))) xe_int) xe_int)) xe_int))))
      (xss_one (xs_ret (xr_e (xe_op op_mod (od_I fun _ _ _ => .int _) (xe_int1 (pe_callTy call_int1 (by rfl) T.int (by decide +kernel) (xa_cons (xe_op op_fdiv (od_I fun _ _ _ => .int _) (xe_v (pv 4)) xe_int) xa_nil))) (xe_v (pv 1)))))))))))), ?_⟩
    have l1 : lookD (boxD cs a0 g mx n) (.str "count") = some (.int n) := bx_count
    walk_at "go"
    refine ⟨_, _, _, rfl, key_s _, bx_len, ?_⟩
    rw [px_count]
    refine ⟨fun ε => ∃ (a1 g1 x1 n1 : Int) (t2 : Sl), 0 ≤ a1 ∧ ε = [.od a .k (boxD cs a1 g1 x1 n1), .fz (.int m), t2, .un, .un], ?_, fun ε ⟨a1, g1, x1, n1, t2, ha1, e⟩ => ?_⟩
    · have l2 : lookD (boxD cs a0 g mx (n + 1)) (.str "great") = some (.int g) := bx_great
      have l3 : lookD (boxD cs a0 g mx (n + 1)) (.str "at") = some (.int a0) := bx_at
      have l4 : lookD (boxD cs a0 g mx (n + 1)) (.str "cells") = some (.lst (cs.map .int)) := bx_cells
      walk_at "go"
      refine bxDec (fun hg => ?_) (fun hg => ?_)
      · walk_at "go"
        refine bxDec (fun hl => ?_) (fun hl => ?_)
        · obtain ⟨c, hc⟩ := atI_ints ha hl
          walk_at "go"
          refine ⟨_, _, _, rfl, key_s _, bx_len, ?_⟩
          rw [px_at]
          have l5 : lookD (boxD cs (a0 + 1) g mx (n + 1)) (.str "mix") = some (.int mx) := bx_mix
          walk_at "go"
          refine bxDec (fun hb => ?_) (fun hb => ?_)
          · walk_at "go"
            refine ⟨_, _, _, rfl, key_s _, bx_len, ?_⟩
            rw [px_great]
            exact ⟨_, _, _, _, _, by omega, rfl⟩
          · walk_at "go"
            refine ⟨_, _, _, rfl, key_s _, bx_len, ?_⟩
            rw [px_mix]
            exact ⟨_, _, _, _, _, by omega, rfl⟩
        · exact ⟨a0, g, mx, n + 1, _, ha, rfl⟩
      · exact ⟨a0, g, mx, n + 1, _, ha, rfl⟩
    · subst e
      have l2 : lookD (boxD cs a1 g1 x1 n1) (.str "great") = some (.int g1) := bx_great
      have l3 : lookD (boxD cs a1 g1 x1 n1) (.str "mix") = some (.int x1) := bx_mix
      have l4 : lookD (boxD cs a1 g1 x1 n1) (.str "count") = some (.int n1) := bx_count
      walk_at "go"
      refine bxDec (fun hg => ?_) (fun hg => ?_)
      · have l5 : CDivW g1 m := m64 m1 m2
        walk_at "go"
        refine ⟨_, _, _, rfl, key_s _, bx_len, ?_⟩
        rw [px_great]
        walk_at "go"
        exact q _ _ ⟨_, _, _, _, _, rfl, ha1⟩ (Int.emod_nonneg _ (by omega)) (Int.emod_lt_of_pos _ (by omega))
      · walk_at "go"
        exact q _ _ ⟨_, _, _, _, _, rfl, ha1⟩ (Int.emod_nonneg _ (by omega)) (Int.emod_lt_of_pos _ (by omega))
end
end Sv
namespace Sv
open PySem PySem.Spec PyProof.Rows L2
open C8 (Cal Mak Met cal0 mak0 met0 pe_c pe_mk pe_mt pe_mt0 fnBody fnArgs fnScope scC fnScope_by pe_gc InsC call_isC)
variable [Tb : Tbs]
/-! ### the laws' names -/
section
variable {A : Anc} {X : Cx} {L : Lk} {F F' H : Hp} {ε : DEnv} {σ : L2.St} {e : Expr}
def gIxS (ga gb : GE) : GE := fun ε P => ga ε fun ε1 x => gb ε1 fun ε2 y => ∃ z i c, x = .str z ∧ y = .int i ∧ z.length ≤ 1000 ∧ atI z.cps.toList i = some c ∧ P ε2 (.str ⟨#[c]⟩)
theorem xe_ixS {ga gb : GE} (h : PE X e (tOp rIxS (tE A ga) (tE A gb))) : XE A X e (gIxS ga gb) :=
  h.weak fun σ H Q ⟨L, F, ε, P, R, hg, k⟩ => ⟨L, F, ε, _, R, hg, fun F1 ε1 H1 v x s1 R1 i1 q1 => ⟨L, F1, ε1, _, R1, q1, fun F2 ε2 H2 u y s2 R2 i2 ⟨z, i, c, ex, ey, l, hc, p⟩ => by
    subst ex ey
    cases i1
    cases i2
    have big : 1000 ≤ sizeLine := by rw [sizeLine_eq]; decide
    exact ⟨z, i, c, rfl, rfl, by omega, hc, k F2 ε2 H2 _ _ (s1.trans s2) R2 (.str _) p⟩⟩⟩
end
def ch (k : Nat) : Str := ⟨#[97 + k]⟩
theorem ch_join : ∀ p : List Nat, (Str.join "" (p.map ch)).cps.toList = p.map (97 + ·)
  | [] => rfl
  | [k] => rfl
  | k :: j :: p => by
    show (ch k ++ "" ++ Str.join "" ((j :: p).map ch)).cps.toList = _
    rw [str_app, str_app, ch_join (j :: p)]
    rfl
theorem ch_sum : ∀ p : List Nat, ((p.map ch).map (·.length)).sum = p.length
  | [] => rfl
  | k :: p => by
    rw [List.map_cons, List.map_cons, List.sum_cons, ch_sum p, List.length_cons, Nat.add_comm]
    rfl
/-- the c-th name that is looked at -/
def cand (p0 : Int) (rest : List Int) (c : Nat) : Str := Str.join "" ((((p0 + (c : Nat)) % 26).toNat :: rest.map Int.toNat).map ch)
theorem cand_inj {p0 : Int} {rest : List Int} {c d : Nat} (hc : c < 26) (hd : d < 26) (h : cand p0 rest c = cand p0 rest d) : c = d := by
  have e : (cand p0 rest c).cps.toList = (cand p0 rest d).cps.toList := by rw [h]
  rw [show (cand p0 rest c).cps.toList = _ from ch_join _, show (cand p0 rest d).cps.toList = _ from ch_join _, List.map_cons, List.map_cons, List.cons.injEq] at e
  have e0 : 97 + ((p0 + (c : Nat)) % 26).toNat = 97 + ((p0 + (d : Nat)) % 26).toNat := e.1
  have := Int.emod_nonneg (p0 + (c : Nat)) (b := 26) (by decide)
  have := Int.emod_nonneg (p0 + (d : Nat)) (b := 26) (by decide)
  omega
theorem cand_good {p0 : Int} {rest : List Int} {c : Nat} (hl : rest.length ≤ 7) (hr : ∀ k ∈ rest, 0 ≤ k ∧ k < 26) : Good (cand p0 rest c) := by
  have e : (cand p0 rest c).cps.toList = (((p0 + (c : Nat)) % 26).toNat :: rest.map Int.toNat).map (97 + ·) := ch_join _
  have l : (cand p0 rest c).cps.size = rest.length + 1 := by
    rw [← Array.length_toList, e, List.length_map, List.length_cons, List.length_map]
  refine good_mk (by omega) (by omega) fun z hz => ?_
  rw [e] at hz
  obtain ⟨k, hk, rfl⟩ := List.mem_map.mp hz
  rcases List.mem_cons.mp hk with rfl | hk
  · have := Int.emod_nonneg (p0 + (c : Nat)) (b := 26) (by decide)
    have := Int.emod_lt_of_pos (p0 + (c : Nat)) (b := 26) (by decide)
    omega
  · obtain ⟨j, hj, rfl⟩ := List.mem_map.mp hk
    have := hr j hj
    omega
theorem cand_free {p0 : Int} {rest : List Int} {L : List Str} (hL : L.length ≤ 20) (h : ∀ c, c < L.length + 1 → cand p0 rest c ∈ L) : False := by
  have nd : ((List.range (L.length + 1)).map (cand p0 rest)).Nodup := by
    rw [List.nodup_iff_pairwise_ne, List.pairwise_map]
    refine List.Pairwise.imp_of_mem (fun {a b} ha hb ne e => ?_) (List.nodup_iff_pairwise_ne.mp List.nodup_range)
    exact ne (cand_inj (by have := List.mem_range.mp ha; omega) (by have := List.mem_range.mp hb; omega) e)
  have := sub_len _ L nd fun x hx => by
    obtain ⟨c, hc, rfl⟩ := List.mem_map.mp hx
    exact h c (List.mem_range.mp hc)
  rw [List.length_map, List.length_range] at this
  omega
theorem cut_drop (xs : List Dt) : cutD xs (some 1) none = xs.drop 1 := by
  unfold cutD
  rw [show HT.sIx xs.length 0 (some (1 : Int)) = min 1 xs.length from HT.sIx_nat _ _ 1, HT.sIx_none]
  by_cases h : 1 ≤ xs.length
  · rw [Nat.min_eq_left h]
    exact List.take_of_length_le (by rw [List.length_drop]; exact Nat.le_refl _)
  · obtain rfl : xs = [] := List.eq_nil_of_length_eq_zero (by omega)
    rfl
def fsNameB : BSp := fun kvs ds Pq => BoxOk kvs ∧ ∃ L : List Str, ds = [.lst (L.map .str)] ∧ L.length ≤ 20 ∧ ∀ kvs' s, BoxOk kvs' → Good s → s ∉ L → Pq kvs' (.fz (.str s))
/-! ### steps that answer themselves -/
local macro_rules | `(tactic| walk_at "side") => `(tactic| first | rfl | assumption | exact key_p (_, _) | exact key_p _ | exact key_s _ | exact flat_sD _ | omega | decide)
local macro_rules | `(tactic| walk_at "noloop") => `(tactic| fail_if_success (first | refine ⟨(fun (_ : Nat) (_ : DEnv) => True), ?_⟩ | refine ⟨(fun (_ : Nat) (_ : DEnv) (_ : List Dt) => True), ?_⟩ | refine ⟨(fun (_ : Nat) (_ : DEnv) (_ : List (Dt × Dt)) => True), ?_⟩ | refine ⟨(fun (_ : DEnv) => True), ?_⟩))
local macro_rules | `(tactic| walk_at "cond") => `(tactic| first | assumption | exact ⟨by decide, by decide⟩ | exact ⟨by decide, by decide, by decide⟩ | exact .inr ⟨by decide, by decide⟩ | exact cm_mod _ _ | (show (0 : Int) < _; decide) | (show (0 : Int) < _; omega))
local macro_rules | `(tactic| walk_at "step1") => `(tactic| (walk_at "noloop"; first
  | refine ⟨(_ : Dt), rfl, ?_⟩
  | refine ⟨(_ : Bool), rfl, ?_⟩
  | refine ⟨(_ : List Dt), rfl, ?_⟩
  | refine ⟨(_ : Int), rfl, ?_⟩
  | refine ⟨(_ : Str), rfl, ?_⟩
  | refine ⟨(_ : Res), rfl, ?_⟩
  | refine ⟨(_ : List (Dt × Dt)), rfl, ?_⟩
  | refine ⟨(_ : Dt), (_ : List Dt), rfl, rfl, (by first | (intro _ z; cases z; done) | (intro _ z; exact Dt.noConfusion z)), ?_⟩
  | refine ⟨(_ : Dt), ⟨_, _, rfl, rfl, rfl⟩, ?_⟩
  | refine ⟨(_ : Dt), ⟨rfl, rfl⟩, ?_⟩
  | refine ⟨(_ : Dt), ⟨_, rfl, rfl⟩, ?_⟩
  | refine ⟨(_ : Dt), .inl ⟨_, rfl, rfl⟩, ?_⟩
  | refine ⟨(_ : Dt), ⟨_, _, rfl, rfl, (by walk_at "cond"), rfl⟩, ?_⟩
  | refine ⟨(_ : Dt), (_ : Dt), rfl, ⟨_, _, rfl, rfl, (by walk_at "side")⟩, ?_⟩
  | refine ⟨(_ : Dt), (_ : Dt), rfl, ⟨_, _, rfl, (by walk_at "side"), (by walk_at "side")⟩, ?_⟩
  | refine ⟨(_ : Kd), _, rfl, (by walk_at "side"), ?_⟩
  | refine ⟨(_ : Kd), _, rfl, ?_⟩
  | refine ⟨(_ : Dt), _, rfl, rfl, (by walk_at "side"), (by walk_at "side"), ?_⟩
  | refine ⟨(_ : Dt), (_ : Nat), rfl, rfl, ?_⟩
  | refine ⟨Nat.le_of_ble_eq_true rfl, ?_⟩
  | refine ⟨_, (_ : Dt), rfl, (by walk_at "side"), ?_⟩
  | refine ⟨⟨_, _, rfl⟩, ?_⟩
  | refine ⟨⟨_, _, _, rfl⟩, ?_⟩
  | refine ⟨(_ : List Dt), .inl rfl, rfl, ?_⟩
  | refine ⟨(_ : Dt), (_ : List Dt), rfl, ?_⟩
  | refine ⟨(rfl : ([] : List Dt) = []), ?_⟩
  | refine ⟨(_ : String), true, rfl, (by decide +kernel), ?_⟩
  | refine ⟨(_ : String), false, rfl, (by decide +kernel), ?_⟩
  | refine ⟨(_ : String), true, false, rfl, (by decide +kernel), (by decide +kernel), ?_⟩
  | refine ⟨(_ : String), false, true, rfl, (by decide +kernel), (by decide +kernel), ?_⟩
  | refine ⟨(_ : String), false, false, rfl, (by decide +kernel), (by decide +kernel), ?_⟩
  | refine ⟨(_ : Kd), _, true, rfl, (by decide +kernel), ?_⟩
  | refine ⟨(_ : Bool), ⟨_, _, rfl, rfl, rfl⟩, ?_⟩
  | refine ⟨⟨_, rfl, (by assumption)⟩, ?_⟩
  | refine ⟨⟨_, rfl⟩, ?_⟩
  | refine iteD rfl ?_
  | refine iteN (by decide) ?_
  | refine iteN (by decide +kernel) ?_
  | refine iteD (by decide +kernel) ?_))
local macro_rules | `(tactic| walk_at "go") => `(tactic| repeat walk_at "step1")
section
variable {P : Program} {K : PySem.W.Frag} {mg : Str → Option Value} {base : Heap}
theorem do_law_nameB (D : Dn K mg "_law_name" s_law_name ["_law_box_here", "_law_taken"]) (T : Txt K mg) (G__law_take : Cal P Tb.w K mg base 1 "_law_take" (spB K fsTake) []) : Cal P Tb.w K mg base 2 "_law_name" (spB K fsNameB) [] := by
  refine D.dcalB sc_law_name (fun n ds Pq h => ?_) (fun f cdv A' outer s H E hr A a kvs ds Pq hA h => ?_)
  · obtain ⟨_, _, rfl, _⟩ := h; rfl
  · obtain ⟨bo, L, rfl, hL, q⟩ := h
    subst hA
    refine ⟨_, (xss_cons (xs_set (ps_set (i := 2) sc_law_name.nd rfl (Or.inr rfl) (xr_e xe_str)))
      (xss_cons (xs_set (ps_set (i := 3) sc_law_name.nd rfl (Or.inl rfl) (xr_cB (pe_c G__law_take hr (by decide) (by rfl) (pa_cons (pv 0) (xa_cons xe_int xa_nil))))))
      (xss_cons (xs_set (ps_set (i := 4) sc_law_name.nd rfl (Or.inl rfl) (xr_e (xe_op op_add (od_I0 fun _ _ _ => .int _) xe_int (xe_op op_mod (od_I fun _ _ _ => .int _) (xe_int1 (pe_callTy call_int1 (by rfl) T.int (by decide +kernel) (xa_cons (xe_v (pv 3)) xa_nil))) xe_int)))))
      (xss_cons (xs_set (ps_set (i := 3) sc_law_name.nd rfl (Or.inl rfl) (xr_e (xe_op op_fdiv (od_I fun _ _ _ => .int _) (xe_v (pv 3)) xe_int))))
      (xss_cons (xs_set (ps_set (i := 5) sc_law_name.nd rfl (Or.inl rfl) (xr_lst xa_nil)))
      (xss_cons (xs_for (ps_for PassesOwn.never rfl (xi_rng1 (pi_range1 (by rfl) T.range (pa_cons (xe_v (pv 4)) pa_nil))) (xg_name (pg_name (i := 6) sc_law_name.nd rfl (Or.inl rfl))) (xss_cons (xs_app (ps_expr (pe_bm PySem.F.plainAttrs_list PySem.F.slot_list_append PySem.F.type_list_append mt_append (pv 5) (pa_cons (xe_op op_mod (od_I fun _ _ _ => .int _) (xe_int1 (pe_callTy call_int1 (by rfl) T.int (by decide +kernel) (xa_cons (xe_v (pv 3)) xa_nil))) xe_int) pa_nil)))) (xss_one (xs_set (ps_set (i := 3) sc_law_name.nd rfl (Or.inl rfl) (xr_e (xe_op op_fdiv (od_I fun _ _ _ => .int _) (xe_v (pv 3)) xe_int))))))))
      (xss_cons (xs_set (ps_set (i := 7) sc_law_name.nd rfl (Or.inl rfl) (xr_e xe_str)))
      (xss_cons (xs_for (ps_for PassesOwn.never rfl (xi_rng1 (pi_range1 (by rfl) T.range (pa_cons (xe_op op_add (od_I0 fun _ _ _ => .int _) (xe_len (pe_callB call_lenA (by rfl) T.len PySem.boot_len (pa_cons (xk_v (pv 1)) pa_nil))) xe_int) pa_nil))) (xg_name (pg_name (i := 8) sc_law_name.nd rfl (Or.inl rfl))) (xss_cons (xs_set (ps_set (i := 7) sc_law_name.nd rfl (Or.inl rfl) (xr_e (xe_join (pe_join xe_str (xe_r (xr_cat (pe_op op_cat (xe_r (xr_lst (xa_cons (xe_ixS (pe_ix ix_str (xe_v (pv 2)) (xe_op op_mod (od_I fun _ _ _ => .int _) (xe_int1 (pe_callTy call_int1 (by rfl) T.int (by decide +kernel) (xa_cons (xe_op op_add (od_I0 fun _ _ _ => .int _) (xe_ix (xk_v (pv 5)) xe_int (fun _ _ => rfl)) (xe_v (pv 8))) xa_nil))) xe_int) (fun _ _ => rfl))) xa_nil))) (xe_r (xr_lc (by simp) (pe_lc (own := [("_law_k", 6)]) (by rfl) sc_law_name.nd (xi_seq (pi_sww (xe_r (xr_slL (pe_slice sl_list (xe_v (pv 5)) (xo_some xe_int) xo_none))))) (blkOk_by (own := [("_law_k", 6)]) (N := N_law_name) (sc := fnScope s_law_name) (by decide +kernel)) (fun _ _ _ _ _ => (xg_name (pg_name (i := 6) sc_law_name.nd rfl (Or.inl rfl)))) (fun _ _ _ _ _ => xts_nil) (fun _ _ _ _ _ => (xe_ixS (pe_ix ix_str (xe_v (pv 2)) (xe_v (pv 6)) (fun _ _ => rfl))))))))))))))) (xss_one (xs_if (xt_notin (xe_v (pv 7)) (xk_v (pv 1))) (xss_one (xs_ret (xr_v (pv 7)))) xss_nil)))))
      (xss_one (xs_ret (xr_v (pv 7)))))))))))), ?_⟩
    walk_at "go"
    refine ⟨bo, _, rfl, by decide, by decide, fun kv1 r bo1 r0 r1 => ?_⟩
    walk_at "go"
    intro ap
    walk_at "go"
    have r80 := Int.emod_nonneg r (b := 8) (by decide)
    have r81 := Int.emod_lt_of_pos r (b := 8) (by decide)
    refine ⟨(1 + r % 8).toNat, (congrArg Dt.int (Int.toNat_of_nonneg (by omega))).symm, by omega, fun i ε => ∃ (x : Int) (ps : List Int) (t6 : Sl), ps.length = i ∧ (∀ k ∈ ps, 0 ≤ k ∧ k < 26) ∧ ε = [.od a .k kv1, .fz (.lst (L.map .str)), .fz (.str abc), .fz (.int x), .fz (.int (1 + r % 8)), .ol ap (ps.map .int), t6, .un, .un],
      ⟨_, [], _, rfl, fun _ z => (nomatch z), rfl⟩, fun i d ε hd hI => ?_, fun ε hI => ?_⟩
    · obtain ⟨x, ps, t6, lp, hp, rfl⟩ := hI
      have hi : i < (1 + r % 8).toNat := by
        have := (List.getElem?_eq_some_iff.mp hd).1
        rwa [List.length_map, List.length_range] at this
      have lps : (ps.map Dt.int).length < 100000 := by rw [List.length_map]; omega
      walk_at "go"
      refine ⟨ap, _, rfl, lps, ?_⟩
      walk_at "go"
      refine ⟨_, ps ++ [x % 26], _, by rw [List.length_append, lp]; rfl, fun k hk => ?_, by rw [List.map_append]; rfl⟩
      rcases List.mem_append.mp hk with hk | hk
      · exact hp k hk
      · rw [List.mem_singleton.mp hk]
        exact ⟨Int.emod_nonneg _ (by decide), Int.emod_lt_of_pos _ (by decide)⟩
    · obtain ⟨x, ps, t6, lp, hp, rfl⟩ := hI
      rw [List.length_map, List.length_range] at lp
      cases ps with
      | nil =>
        exfalso
        have lp : 0 = (1 + r % 8).toNat := lp
        omega
      | cons p0 rest =>
        have lr : rest.length ≤ 7 := by
          have lp : rest.length + 1 = (1 + r % 8).toNat := lp
          omega
        have hr : ∀ k ∈ rest, 0 ≤ k ∧ k < 26 := fun k hk => hp k (List.mem_cons_of_mem _ hk)
        walk_at "go"
        refine ⟨L.length + 1, by show Dt.int _ = Dt.int _; rw [List.length_map]; rfl, by omega, fun i ε => ∃ (s : Str) (t5 t6 t8 : Sl), (∀ c, c < i → cand p0 rest c ∈ L) ∧ (t5 = .ol ap ((p0 :: rest).map .int) ∨ t5 = .fz (.lst ((p0 :: rest).map .int))) ∧ ε = [.od a .k kv1, .fz (.lst (L.map .str)), .fz (.str abc), .fz (.int x), .fz (.int (1 + r % 8)), t5, t6, .fz (.str s), t8],
          ⟨_, _, _, _, fun _ z => absurd z (Nat.not_lt_zero _), .inl rfl, rfl⟩, fun i d ε hd hI => ?_, fun ε hI => ?_⟩
        · obtain ⟨s, t5, t6, t8, hc, ht5, rfl⟩ := hI
          have hi : i < L.length + 1 := by
            have := (List.getElem?_eq_some_iff.mp hd).1
            rwa [List.length_map, List.length_range] at this
          obtain rfl : d = .int (i : Nat) := by
            rw [List.getElem?_map, List.getElem?_range hi] at hd
            exact (Option.some.inj hd).symm
          have z0 := Int.emod_nonneg (p0 + (i : Nat)) (b := 26) (by decide)
          have z1 := Int.emod_lt_of_pos (p0 + (i : Nat)) (b := 26) (by decide)
          have at0 : atI ((p0 :: rest).map Dt.int) 0 = some (.int p0) := atI_nat (j := 0) rfl
          have ecut : cutD ((p0 :: rest).map Dt.int) (some 1) none = rest.map .int := by rw [cut_drop]; rfl
          rcases ht5 with rfl | rfl
          all_goals
            walk_at "go"
            refine ⟨abc, _, _, rfl, rfl, by decide +kernel, abc_at z0 z1, ?_⟩
            walk_at "go"
            refine ⟨fun j ε rs => rs = (rest.take j).map (fun k => Dt.str (ch k.toNat)) ∧ ε = [.od a .k kv1, .fz (.lst (L.map .str)), .fz (.str abc), .fz (.int x), .fz (.int (1 + r % 8)), .fz (.lst ((p0 :: rest).map .int)), .un, .fz (.str s), .fz (.int (i : Nat))], ⟨rfl, rfl⟩, fun j d ε rs hd hI => ?_, fun ε rs hI => ?_⟩
            · obtain ⟨rfl, rfl⟩ := hI
              rw [ecut, List.getElem?_map] at hd
              obtain ⟨k, hk, rfl⟩ := Option.map_eq_some_iff.mp hd
              obtain ⟨k0, k1⟩ := hr k (List.mem_of_getElem? hk)
              walk_at "go"
              refine ⟨abc, _, _, rfl, rfl, by decide +kernel, abc_at k0 k1, ?_, ?_, rfl⟩
              · rw [List.length_map, List.length_take]; omega
              · rw [← take_snoc hk, List.map_append]
                rfl
            · obtain ⟨rfl, rfl⟩ := hI
              rw [ecut, List.length_map, List.take_length]
              refine ⟨_, _, rfl, rfl, by rw [List.length_map]; show 1 + rest.length ≤ 100000; omega, ?_⟩
              refine ⟨(((p0 + (i : Nat)) % 26).toNat :: rest.map Int.toNat).map ch, by show some _ = some _; rw [List.map_map, List.map_cons, List.map_map]; rfl, ?_, ?_⟩
              · rw [ch_sum, List.length_map, List.length_cons, List.length_map]
                show rest.length + 1 + (rest.length + 1) * 0 ≤ 16777216
                omega
              · walk_at "go"
                refine ifNotIn (fun hn => ?_) (fun hn => ?_)
                · walk_at "go"
                  exact q _ _ bo1 (cand_good lr hr) hn
                · refine ⟨_, _, _, _, fun c hc' => ?_, .inr rfl, rfl⟩
                  by_cases e : c = i
                  · rw [e]; exact hn
                  · exact hc c (by omega)
        · obtain ⟨s, t5, t6, t8, hc, ht5, rfl⟩ := hI
          rw [List.length_map, List.length_range] at hc
          exact (cand_free hL hc).elim
end
end Sv
namespace Sv
open PySem PySem.Spec PyProof.Rows L2
open C8 (Cal Mak Met cal0 mak0 met0 pe_c pe_mk pe_mt pe_mt0 fnBody fnArgs fnScope scC fnScope_by pe_gc InsC call_isC)
variable [Tb : Tbs]
/-! ### the box laws' sameness -/
section
variable {X : Cx}
theorem op_isFB : OpR X (compareOp .Is) (fun x y H Q => ∃ b : Bool, y = .bl b ∧ flatV x = true ∧ Q (.bl (decide (x = .bl b))) H) := by
  intro pins s σ H x y v u Q I rx ry h
  obtain ⟨b, rfl, fl, q⟩ := h
  cases (show u = Value.bool b from ry)
  cases x with
  | bl a =>
    cases (show v = Value.bool a from rx)
    by_cases e : a = b
    · subst e
      exact wpAny_is_self rfl ⟨.bl true, H, I, rfl, by simpa using q⟩
    · exact wpAny_is_other rfl (fun z => e (Value.bool.inj z)) ⟨.bl false, H, I, rfl, by simpa [e] using q⟩
  | non =>
    cases rx
    exact wpAny_is_other rfl (fun z => nomatch z) ⟨.bl false, H, I, rfl, by simpa using q⟩
  | int i =>
    obtain ⟨t, rfl⟩ := rx
    exact wpAny_is_other rfl (fun z => nomatch z) ⟨.bl false, H, I, rfl, by simpa using q⟩
  | str i =>
    obtain ⟨t, rfl⟩ := rx
    exact wpAny_is_other rfl (fun z => nomatch z) ⟨.bl false, H, I, rfl, by simpa using q⟩
  | _ => cases fl
end
def isBl (b : Bool) : Dt → Bool
  | .bl a => decide (a = b)
  | _ => false
def fIsFB : R3 := fun x y z => ∃ b : Bool, y = .bl b ∧ flatD x = true ∧ z = .bl (isBl b x)
theorem od_isFB {K : PySem.W.Frag} : OpD K (fun x y H Q => ∃ b : Bool, y = .bl b ∧ flatV x = true ∧ Q (.bl (decide (x = .bl b))) H) fIsFB := fun L F H v u x y z Q _ iv iu ⟨b, ey, fx, ez⟩ k => by
  subst ey ez
  cases iu
  have e : v = vOf x := iv.vOf fx
  subst e
  cases x with
  | bl a => exact ⟨b, rfl, rfl, by rw [show decide (vOf (Dt.bl a) = V.bl b) = isBl b (.bl a) by show decide (V.bl a = V.bl b) = decide (a = b); simp]; exact k _ (.bl _)⟩
  | non => exact ⟨b, rfl, rfl, k _ (.bl _)⟩
  | int i => exact ⟨b, rfl, rfl, k _ (.bl _)⟩
  | str i => exact ⟨b, rfl, rfl, k _ (.bl _)⟩
  | _ => cases fx
/-! ### steps that answer themselves -/
local macro_rules | `(tactic| walk_at "side") => `(tactic| first | rfl | assumption | exact key_p (_, _) | exact key_p _ | exact key_s _ | exact flat_sD _ | omega | decide)
local macro_rules | `(tactic| walk_at "noloop") => `(tactic| fail_if_success (first | refine ⟨(fun (_ : Nat) (_ : DEnv) => True), ?_⟩ | refine ⟨(fun (_ : Nat) (_ : DEnv) (_ : List Dt) => True), ?_⟩ | refine ⟨(fun (_ : Nat) (_ : DEnv) (_ : List (Dt × Dt)) => True), ?_⟩ | refine ⟨(fun (_ : DEnv) => True), ?_⟩))
local macro_rules | `(tactic| walk_at "cond") => `(tactic| first | assumption | exact ⟨by decide, by decide⟩ | exact ⟨by decide, by decide, by decide⟩ | exact .inr ⟨by decide, by decide⟩ | exact cm_mod _ _ | (show (0 : Int) < _; decide) | (show (0 : Int) < _; omega))
local macro_rules | `(tactic| walk_at "step1") => `(tactic| (walk_at "noloop"; first
  | refine ⟨(_ : Dt), rfl, ?_⟩
  | refine ⟨(_ : Bool), rfl, ?_⟩
  | refine ⟨(_ : List Dt), rfl, ?_⟩
  | refine ⟨(_ : Int), rfl, ?_⟩
  | refine ⟨(_ : Str), rfl, ?_⟩
  | refine ⟨(_ : Res), rfl, ?_⟩
  | refine ⟨(_ : List (Dt × Dt)), rfl, ?_⟩
  | refine ⟨(_ : Dt), (_ : List Dt), rfl, rfl, (by first | (intro _ z; cases z; done) | (intro _ z; exact Dt.noConfusion z)), ?_⟩
  | refine ⟨(_ : Dt), ⟨_, _, rfl, rfl, rfl⟩, ?_⟩
  | refine ⟨(_ : Dt), ⟨rfl, rfl⟩, ?_⟩
  | refine ⟨(_ : Dt), ⟨_, rfl, rfl⟩, ?_⟩
  | refine ⟨(_ : Dt), .inl ⟨_, rfl, rfl⟩, ?_⟩
  | refine ⟨(_ : Dt), ⟨_, _, rfl, rfl, (by walk_at "cond"), rfl⟩, ?_⟩
  | refine ⟨(_ : Dt), (_ : Dt), rfl, ⟨_, _, rfl, rfl, (by walk_at "side")⟩, ?_⟩
  | refine ⟨(_ : Dt), (_ : Dt), rfl, ⟨_, _, rfl, (by walk_at "side"), (by walk_at "side")⟩, ?_⟩
  | refine ⟨(_ : Kd), _, rfl, (by walk_at "side"), ?_⟩
  | refine ⟨(_ : Kd), _, rfl, ?_⟩
  | refine ⟨(_ : Dt), _, rfl, rfl, (by walk_at "side"), (by walk_at "side"), ?_⟩
  | refine ⟨(_ : Dt), (_ : Nat), rfl, rfl, ?_⟩
  | refine ⟨Nat.le_of_ble_eq_true rfl, ?_⟩
  | refine ⟨_, (_ : Dt), rfl, (by walk_at "side"), ?_⟩
  | refine ⟨⟨_, _, rfl⟩, ?_⟩
  | refine ⟨⟨_, _, _, rfl⟩, ?_⟩
  | refine ⟨(_ : List Dt), .inl rfl, rfl, ?_⟩
  | refine ⟨(_ : Dt), (_ : List Dt), rfl, ?_⟩
  | refine ⟨(rfl : ([] : List Dt) = []), ?_⟩
  | refine ⟨(_ : String), true, rfl, (by decide +kernel), ?_⟩
  | refine ⟨(_ : String), false, rfl, (by decide +kernel), ?_⟩
  | refine ⟨(_ : String), true, false, rfl, (by decide +kernel), (by decide +kernel), ?_⟩
  | refine ⟨(_ : String), false, true, rfl, (by decide +kernel), (by decide +kernel), ?_⟩
  | refine ⟨(_ : String), false, false, rfl, (by decide +kernel), (by decide +kernel), ?_⟩
  | refine ⟨(_ : Kd), _, true, rfl, (by decide +kernel), ?_⟩
  | refine ⟨(_ : Bool), ⟨_, _, rfl, rfl, rfl⟩, ?_⟩
  | refine ⟨⟨_, rfl, (by assumption)⟩, ?_⟩
  | refine ⟨⟨_, rfl⟩, ?_⟩
  | refine iteD rfl ?_
  | refine iteN (by decide) ?_
  | refine iteN (by decide +kernel) ?_
  | refine iteD (by decide +kernel) ?_))
local macro_rules | `(tactic| walk_at "go") => `(tactic| repeat walk_at "step1")
local macro_rules | `(tactic| walk_at "gs") => `(tactic| repeat (first | walk_at "step1" | refine ⟨_, ⟨true, rfl, rfl, rfl⟩, ?_⟩ | refine ⟨_, ⟨false, rfl, rfl, rfl⟩, ?_⟩ | refine ⟨_, ⟨rfl, rfl, rfl, rfl⟩, ?_⟩))
section
variable {P : Program} {K : PySem.W.Frag} {mg : Str → Option Value} {base : Heap}
theorem do_law_sameB (D : Dn K mg "_law_same" s_law_same ["_law_actual", "_law_due"]) (T : Txt K mg) : ∀ n : Nat, Cal P Tb.w K mg base (n + 1) "_law_same" (spD K (fsSame n)) []
  | 0 => D.dcal sc_law_same (fun ds Pq h => by obtain ⟨_, rfl, _⟩ := h; rfl) (fun f cdv A' outer s H E hr A ds Pq hA h => by obtain ⟨d, _, z, _⟩ := h; cases d <;> cases z)
  | n + 1 => by
    have G__law_same := do_law_sameB D T n
    refine D.dcal sc_law_same (fun ds Pq h => ?_) (fun f cdv A' outer s H E hr A ds Pq hA h => ?_)
    · obtain ⟨_, rfl, _⟩ := h; rfl
    · obtain ⟨d, rfl, hd, q⟩ := h
      subst hA
      refine ⟨_, (xss_cons (xs_if (xt_val (xe_isiT (pe_callB call_isiT (by rfl) T.isinstance (by decide +kernel) (pa_cons (xe_v (pv 1)) (pa_cons (pe_tup (pa_cons (pe_bltn (v := .ty "list") (by rfl) T.list (by decide +kernel) rfl) (pa_cons (pe_bltn (v := .ty "tuple") (by rfl) T.tuple (by decide +kernel) rfl) pa_nil))) pa_nil))))) (xss_cons (xs_if (PW.pt (xw_or (xt_not (xt_val (xe_isiT (pe_callB call_isiT (by rfl) T.isinstance (by decide +kernel) (pa_cons (xe_v (pv 0)) (pa_cons (pe_tup (pa_cons (pe_bltn (v := .ty "list") (by rfl) T.list (by decide +kernel) rfl) (pa_cons (pe_bltn (v := .ty "tuple") (by rfl) T.tuple (by decide +kernel) rfl) pa_nil))) pa_nil)))))) (xw_or1 (xt_cmp op_ne od_ne (xe_isi (pe_callB call_isi (by rfl) T.isinstance (by decide +kernel) (pa_cons (xe_v (pv 0)) (pa_cons (pe_bltn (v := .ty "list") (by rfl) T.list (by decide +kernel) rfl) pa_nil)))) (xe_isi (pe_callB call_isi (by rfl) T.isinstance (by decide +kernel) (pa_cons (xe_v (pv 1)) (pa_cons (pe_bltn (v := .ty "list") (by rfl) T.list (by decide +kernel) rfl) pa_nil)))) (nomark _))))) (xss_one (xs_ret (xr_e xe_bl))) xss_nil) (xss_cons (xs_if (xt_cmp op_ne od_neI (xe_len (pe_callB call_lenA (by rfl) T.len PySem.boot_len (pa_cons (xk_v (pv 0)) pa_nil))) (xe_len (pe_callB call_lenA (by rfl) T.len PySem.boot_len (pa_cons (xk_v (pv 1)) pa_nil))) (nomark _)) (xss_one (xs_ret (xr_e xe_bl))) xss_nil) (xss_cons (xs_for (ps_for PassesOwn.never rfl (xi_rng1 (pi_range1 (by rfl) T.range (pa_cons (xe_len (pe_callB call_lenA (by rfl) T.len PySem.boot_len (pa_cons (xk_v (pv 1)) pa_nil))) pa_nil))) (xg_name (pg_name (i := 2) sc_law_same.nd rfl (Or.inl rfl))) (xss_one (xs_if (xt_not (xt_val (xe_r (xr_c (pe_c G__law_same hr (Nat.le_refl _) (by rfl) (xa_cons (xe_ix (xk_v (pv 0)) (xe_v (pv 2)) (fun _ _ => rfl)) (xa_cons (xe_ix (xk_v (pv 1)) (xe_v (pv 2)) (fun _ _ => rfl)) xa_nil))))))) (xss_one (xs_ret (xr_e xe_bl))) xss_nil)))) (xss_one (xs_ret (xr_e xe_bl)))))) xss_nil)
      (xss_cons (xs_if (PW.pt (xw_or (xt_cmp op_isN od_isN (xe_v (pv 1)) xe_non (nomark _)) (xw_or (xt_cmp op_isFB od_isFB (xe_v (pv 1)) xe_bl (nomark _)) (xw_or1 (xt_cmp op_isFB od_isFB (xe_v (pv 1)) xe_bl (nomark _)))))) (xss_one (xs_ret (xr_e (xe_and (xe_cmp op_eq od_eq (xe_isi (pe_callB call_isi (by rfl) T.isinstance (by decide +kernel) (pa_cons (xe_v (pv 0)) (pa_cons (pe_bltn (v := .ty "bool") (by rfl) T.bool (by decide +kernel) rfl) pa_nil)))) (xe_isi (pe_callB call_isi (by rfl) T.isinstance (by decide +kernel) (pa_cons (xe_v (pv 1)) (pa_cons (pe_bltn (v := .ty "bool") (by rfl) T.bool (by decide +kernel) rfl) pa_nil)))) (nomark _)) (xe_one (xe_cmp op_eq od_eq (xe_v (pv 0)) (xe_v (pv 1)) (nomark _))))))) xss_nil)
      (xss_cons (xs_if (PW.pt (xw_or (xt_val (xe_isi (pe_callB call_isi (by rfl) T.isinstance (by decide +kernel) (pa_cons (xe_v (pv 0)) (pa_cons (pe_bltn (v := .ty "bool") (by rfl) T.bool (by decide +kernel) rfl) pa_nil))))) (xw_or1 (xt_cmp op_ne od_ne (xe_isi (pe_callB call_isi (by rfl) T.isinstance (by decide +kernel) (pa_cons (xe_v (pv 0)) (pa_cons (pe_bltn (v := .ty "int") (by rfl) T.int (by decide +kernel) rfl) pa_nil)))) (xe_isi (pe_callB call_isi (by rfl) T.isinstance (by decide +kernel) (pa_cons (xe_v (pv 1)) (pa_cons (pe_bltn (v := .ty "int") (by rfl) T.int (by decide +kernel) rfl) pa_nil)))) (nomark _))))) (xss_one (xs_ret (xr_e xe_bl))) xss_nil)
      (xss_one (xs_ret (xr_e (xe_cmp op_eq od_eq (xe_v (pv 0)) (xe_v (pv 1)) (nomark _)))))))), ?_⟩
      have dt : ∀ x : V, decide (x = x) = true := fun x => decide_eq_true rfl
      cases d with
      | non =>
        walk_at "gs"
        rw [decide_eq_true rfl]
        exact q
      | bl b =>
        cases b
        all_goals
          walk_at "gs"
          rw [decide_eq_true rfl]
          exact q
      | int i =>
        walk_at "gs"
        rw [decide_eq_true rfl]
        exact q
      | str i =>
        walk_at "gs"
        rw [decide_eq_true rfl]
        exact q
      | lst xs =>
        obtain ⟨hl, ha⟩ : xs.length ≤ 100000 ∧ ∀ x ∈ xs, shw n x = true := by
          have hd : (decide (xs.length ≤ 100000) && xs.all (shw n)) = true := hd
          rw [Bool.and_eq_true, decide_eq_true_eq, List.all_eq_true] at hd
          exact hd
        walk_at "gs"
        refine iteN (by simp) ?_
        walk_at "gs"
        refine ⟨xs.length, rfl, by omega, fun i ε => ∃ t2, ε = [.fz (.lst xs), .fz (.lst xs), t2], ⟨_, rfl⟩, fun i d ε hi hI => ?_, fun ε hI => ?_⟩
        · obtain ⟨t2, rfl⟩ := hI
          have hj : i < xs.length := by
            have := (List.getElem?_eq_some_iff.mp hi).1
            rwa [List.length_map, List.length_range] at this
          obtain rfl : d = .int (i : Nat) := by
            rw [List.getElem?_map, List.getElem?_range hj] at hi
            exact (Option.some.inj hi).symm
          have hx := List.getElem?_eq_getElem hj
          have ax : atI xs ((i : Nat) : Int) = some xs[i] := atI_nat hx
          walk_at "gs"
          refine ⟨ha _ (List.getElem_mem hj), ?_⟩
          walk_at "gs"
          exact ⟨_, rfl⟩
        · obtain ⟨t2, rfl⟩ := hI
          walk_at "gs"
          exact q
      | tup xs =>
        obtain ⟨hl, ha⟩ : xs.length ≤ 100000 ∧ ∀ x ∈ xs, shw n x = true := by
          have hd : (decide (xs.length ≤ 100000) && xs.all (shw n)) = true := hd
          rw [Bool.and_eq_true, decide_eq_true_eq, List.all_eq_true] at hd
          exact hd
        walk_at "gs"
        refine iteN (by simp) ?_
        walk_at "gs"
        refine ⟨xs.length, rfl, by omega, fun i ε => ∃ t2, ε = [.fz (.tup xs), .fz (.tup xs), t2], ⟨_, rfl⟩, fun i d ε hi hI => ?_, fun ε hI => ?_⟩
        · obtain ⟨t2, rfl⟩ := hI
          have hj : i < xs.length := by
            have := (List.getElem?_eq_some_iff.mp hi).1
            rwa [List.length_map, List.length_range] at this
          obtain rfl : d = .int (i : Nat) := by
            rw [List.getElem?_map, List.getElem?_range hj] at hi
            exact (Option.some.inj hi).symm
          have hx := List.getElem?_eq_getElem hj
          have ax : atI xs ((i : Nat) : Int) = some xs[i] := atI_nat hx
          walk_at "gs"
          refine ⟨ha _ (List.getElem_mem hj), ?_⟩
          walk_at "gs"
          exact ⟨_, rfl⟩
        · obtain ⟨t2, rfl⟩ := hI
          walk_at "gs"
          exact q
      | _ => cases hd
end
end Sv
namespace Sv
open PySem PySem.Spec PyProof.Rows L2
open C8 (Cal Mak Met cal0 mak0 met0 pe_c pe_mk pe_mt pe_mt0 fnBody fnArgs fnScope scC fnScope_by pe_gc InsC call_isC)
variable [Tb : Tbs]
/-! ### exceptions over data -/
/-- an exception: its class, its fields -/
structure Xc where
  C : Addr
  fs : Option (List (Str × Dt))
def XOk (K : PySem.W.Frag) (F : Hp) (cls : Value) (d : Option Addr) (xc : Xc) : Prop := cls = .ref xc.C ∧ match xc.fs with
  | none => d = none
  | some fs => ∃ dd vs, d = some dd ∧ F dd = some (.xd vs) ∧ IsF K F vs fs
/-- what a def that may raise promises -/
abbrev FX := List Dt → (Res → Prop) → (Xc → Prop) → Prop
def spX (K : PySem.W.Frag) (fs : FX) : Sp := fun vs H Q E => ∃ L F ds P Px, LowT L F H ∧ IsL K F vs ds ∧ fs ds P Px ∧ (∀ F' H' v r, Left L F H F' H' → RNew K F' H H' v r → P r → Q v H') ∧
  ∀ F' H' cls d xc, Left L F H F' H' → XOk K F' cls d xc → Px xc → E cls d H'
/-- what a frame wishes of an exception; F0: what is frozen at least -/
def dW (A : Anc) (L0 : Lk) (F0 : Hp) (Wd : DEnv → Xc → Prop) : WX := fun cls d σ H => ∃ F ε xc, Same F0 F ∧ Rep A L0 F ε σ H ∧ XOk A.K F cls d xc ∧ Wd ε xc
def tSx (A : Anc) (L0 : Lk) (F0 : Hp) (k : KS) : TS := fun D σ H => ∃ F ε E, Same F0 F ∧ Rep A L0 F ε σ H ∧ k E ε ∧ (∀ F' ε' σ' H', Same F F' → Rep A L0 F' ε' σ' H' → E.nx ε' → D.nx σ' H') ∧ (∀ F' ε' σ' H' v r, Same F F' → Rep A L0 F' ε' σ' H' → ROk A L0 F' ε' H' v r → E.rt ε' r → D.rt v H') ∧
  (∀ F' ε' σ' H', Same F F' → Rep A L0 F' ε' σ' H' → E.bk ε' → D.bk σ' H') ∧ ∀ F' ε' σ' H', Same F F' → Rep A L0 F' ε' σ' H' → E.ct ε' → D.ct σ' H'
def tRx (A : Anc) (L0 : Lk) (F0 : Hp) (g : GR) : TE := fun σ H Q => ∃ F ε P, Same F0 F ∧ Rep A L0 F ε σ H ∧ g ε P ∧ ∀ F' ε' H' v r, Same F F' → Rep A L0 F' ε' σ H' → ROk A L0 F' ε' H' v r → P ε' r → Q v H'
def tAx (A : Anc) (L0 : Lk) (F0 : Hp) (g : GA) : TA := fun σ H Q => ∃ F ε P, Same F0 F ∧ Rep A L0 F ε σ H ∧ g ε P ∧ ∀ F' ε' H' vs ds, Same F F' → Rep A L0 F' ε' σ H' → IsL A.K F' vs ds → P ε' ds → Q vs H'
def tTx (A : Anc) (L0 : Lk) (F0 : Hp) (g : GT) : TT := fun σ H Q => ∃ F ε P, Same F0 F ∧ Rep A L0 F ε σ H ∧ g ε P ∧ ∀ F' ε' H' b, Same F F' → Rep A L0 F' ε' σ H' → P ε' b → Q b H'
section
variable {A : Anc} {X : Cx} {L0 : Lk} {F0 F F' H : Hp} {ε : DEnv} {σ : L2.St} {e : Expr} {st : Stmt} {rest : List Stmt} {k k' : KS} {pos : Pos} {Wd : DEnv → Xc → Prop}
theorem _root_.L2.PS.nox {st : Stmt} {t : TS} (h : PS X.nox st t) : PS X st t := ⟨fun pins s σ H D I hw => wpAny_mono (h.run pins s σ H D (I.wish _) hw) (fun _ _ q => q.unwish) fun _ _ z => False.elim z⟩
theorem _root_.L2.PA.nox {es : List Expr} {t : TA} (h : PA X.nox es t) : PA X es t := ⟨fun pos pins s σ H Q I hw => wpAny_mono (h.run pos pins s σ H Q (I.wish _) hw) (fun _ _ ⟨v, H', I', r, q⟩ => ⟨v, H', I'.unwish, r, q⟩) fun _ _ z => False.elim z⟩
/-- a statement that raises nothing -/
theorem xsx_n (h : XS A X.nox st k) : PS X st (tSx A L0 F0 k) := h.nox.weak fun D σ H ⟨F, ε, E, s0, R, hk, n, r, b, c⟩ => ⟨L0, F, ε, E, R, hk, n, r, b, c⟩
theorem xax_n {es : List Expr} {g : GA} (h : XA A X.nox es g) : PA X es (tAx A L0 F0 g) := h.nox.weak fun σ H Q ⟨F, ε, P, s0, R, hg, k⟩ => ⟨L0, F, ε, P, R, hg, k⟩
theorem xtx_n {g : GT} (h : XT A X.nox e g) : PT X e (tTx A L0 F0 g) := h.nox.weak fun σ H Q ⟨F, ε, P, s0, R, hg, k⟩ => ⟨L0, F, ε, P, R, hg, k⟩
theorem xssx_nil : PSs X [] (tSx A L0 F0 kNext) := pss_nil.weak fun D σ H ⟨F, ε, E, s0, R, h, n, _⟩ => n F ε σ H (Same.refl F) R h
theorem xssx_cons (h1 : PS X st (tSx A L0 F0 k)) (h2 : PSs X rest (tSx A L0 F0 k')) : PSs X (st :: rest) (tSx A L0 F0 (kSeq k k')) := (pss_cons h1 h2).weak fun D σ H ⟨F, ε, E, s0, R, h, n, r, b, c⟩ =>
  ⟨F, ε, _, s0, R, h, fun F' ε' σ' H' s' R' q => ⟨F', ε', E, s0.trans s', R', q, fun F2 ε2 σ2 H2 s2 => n F2 ε2 σ2 H2 (s'.trans s2), fun F2 ε2 σ2 H2 v x s2 => r F2 ε2 σ2 H2 v x (s'.trans s2), fun F2 ε2 σ2 H2 s2 => b F2 ε2 σ2 H2 (s'.trans s2), fun F2 ε2 σ2 H2 s2 => c F2 ε2 σ2 H2 (s'.trans s2)⟩, r, b, c⟩
theorem xssx_one (h : PS X st (tSx A L0 F0 k)) : PSs X [st] (tSx A L0 F0 k) := (pss_one h).weak fun _ _ _ q => q
theorem xsx_if {c : Expr} {a b : List Stmt} {t : GT} (hc : PT X c (tTx A L0 F0 t)) (ha : PSs X a (tSx A L0 F0 k)) (hb : PSs X b (tSx A L0 F0 k')) : PS X (.If c a b pos) (tSx A L0 F0 (kIf t k k')) := (ps_if hc ha hb).weak fun D σ H ⟨F, ε, E, s0, R, hg, n, r, b, c⟩ =>
  ⟨F, ε, _, s0, R, hg, fun F' ε' H' v s R' p => by
    have go : ∀ {kk : KS}, kk E ε' → tSx A L0 F0 kk D σ H' := fun p => ⟨F', ε', E, s0.trans s, R', p, fun F2 ε2 σ2 H2 s2 => n F2 ε2 σ2 H2 (s.trans s2), fun F2 ε2 σ2 H2 v x s2 => r F2 ε2 σ2 H2 v x (s.trans s2), fun F2 ε2 σ2 H2 s2 => b F2 ε2 σ2 H2 (s.trans s2), fun F2 ε2 σ2 H2 s2 => c F2 ε2 σ2 H2 (s.trans s2)⟩
    cases v with
    | true => exact go p
    | false => exact go p⟩
/-- x = e, e may raise -/
theorem xsx_set {i : Nat} {g : GR} (h : PS X st (tAsg (tRx A L0 F0 g) (gName i))) : PS X st (tSx A L0 F0 (kSet i g)) := h.weak fun D σ H ⟨F, ε, E, s0, R, hg, n, r, b, c⟩ => ⟨F, ε, _, s0, R, hg, fun F' ε' H' v x s R' ok p => by
  obtain ⟨F2, ε2, s2, R2, p2⟩ := R'.putR ok p
  exact n F2 ε2 _ H' (s.trans s2) R2 p2⟩
theorem xsx_expr {g : GR} (h : PE X e (tRx A L0 F0 g)) (hs : swapsWith e none pos.line X.env = pure false := by rfl) : PS X (.Expr e pos) (tSx A L0 F0 (kDrop g)) := (ps_expr h hs).weak fun D σ H ⟨F, ε, E, s0, R, hg, n, r, b, c⟩ => ⟨F, ε, _, s0, R, hg, fun F' ε' H' v x s R' ok p => n F' ε' σ H' s R' p⟩
/-! a call that may raise -/
def gCallX (fs : FX) (Wd : DEnv → Xc → Prop) (ga : GA) : GR := fun ε P => ga ε fun ε1 ds => fs ds (P ε1) (Wd ε1)
theorem xrx_c {fs : FX} {ga : GA} (h : PE X e (tCallS (spX A.K fs) (WE (dW A L0 F0 Wd)) (tAx A L0 F0 ga))) : PE X e (tRx A L0 F0 (gCallX fs Wd ga)) := h.weak fun σ H Q ⟨F, ε, P, s0, R, hg, k⟩ => ⟨F, ε, _, s0, R, hg, fun F1 ε1 H1 vs ds s1 R1 i1 q =>
  ⟨L0.l, F1, ds, _, _, R1.lowT, i1, q, fun F2 H2 v r l n p => k F2 ε1 H2 v r (s1.trans l.f) (R1.left l) (R1.res n) p, fun F2 H2 cls d xc l xo p => ⟨F2, ε1, xc, (s0.trans s1).trans l.f, R1.left l, xo, p⟩⟩⟩
end
/-! ### raise -/
/-- an own exception class -/
structure XCl (K : PySem.W.Frag) (mg : Str → Option Value) (x : Str) (C : Addr) : Prop where
  g : mg x = some (.ref C)
  oe : OexC K C
  xf : XfC K C
  cl : (PySem.W.clsIn K C).isSome = true
  ha : PySem.W.findIn K (.ref C) "__class__" = some (some (.builtin "object.__class__"))
  hn : PySem.W.specialIn K (.builtin "object.__class__") "__get__" = some (some (.builtin "getset_descriptor.__get__"))
  ht : PySem.W.takesIn K (.builtin "object.__class__") = some true
  hm : PySem.W.mroIn K C (.type "object") = some true
/-- without an __init__ of its own -/
def XBare (K : PySem.W.Frag) (C : Addr) : Prop := PySem.W.excIn K C [.type "ValueError", .type "Exception", .type "BaseException", .type "object"] "ValueError.__new__" = true
/-- with an __init__ of its own that lays the argument under f -/
def spIni (C : Addr) (f : Str) : Sp := fun vs H Q _ => ∃ a v, vs = [.ref a, v] ∧ H a = some (exo a C none) ∧ ∀ dx, H dx = none → dx ≠ a → Q .non (upd (upd H dx (exd dx [(f, v)])) a (exo a C (some dx)))
structure XIni (P : Program) (w : World) (K : PySem.W.Frag) (mg : Str → Option Value) (base : Heap) (C : Addr) (f : Str) : Prop where
  ex : ∃ fI fd, PySem.W.findIn K (.ref C) "__init__" = some (some (.ref fI)) ∧ PySem.W.typeIn K (.ref fI) = some (.type "function") ∧ FnOk P w K mg base C8.CX0 1 fI fd ["self", f] (spIni C f) ∧ Binds K fd ["self", f] []
  no : PySem.W.findIn K (.ref C) f = some none
section
variable {X : Cx} {C : Addr} {x f : Str} {e : Expr} {p pos : Pos}
theorem upd_delX {H : Hp} {a d : Addr} {o1 o2 o3 u : HO} (ha : H a = none) (hd : d ≠ a) : upd (L2.del (upd (upd (upd H a o1) d o2) a o3) a) d u = upd H d u := by
  funext b
  by_cases hb : b = d
  · rw [hb, upd_same, upd_same]
  · rw [upd_ne hb, upd_ne hb]
    by_cases h : b = a
    · rw [h, L2.del_same, ha]
    · rw [L2.del_ne h, upd_ne h, upd_ne hb, upd_ne h]
/-- raise C(e) -/
def kRaise1 (C : Addr) (f : Str) (Wd : DEnv → Xc → Prop) (ga : GA) : KS := fun _ ε => ga ε fun ε1 ds => ∃ x, ds = [x] ∧ Wd ε1 ⟨C, some [(f, x)]⟩
theorem xsx_raise1 {A : Anc} {L0 : Lk} {F0 : Hp} {Wd : DEnv → Xc → Prop} {k : Nat} {ga : GA} {pos2 : Pos} (T : XCl X.K X.mg x C) (I : XIni X.prog X.w X.K X.mg X.base C f) (hr : Room k X.A) (hk : 2 ≤ k) (tk : Takes X (dW A L0 F0 Wd)) (hg : Gl X x) (ha : PA X [e] (tAx A L0 F0 ga))
    (hc : X.calm = true := by rfl) (hdb : (x == ("__debug__" : Str)) = false := by decide) (he : starEach (e :: []) X.env = (false, eval e X.env) :: starEach [] X.env := by rfl) (hpl : (backTo pos (starEach [] X.env)).any (·.1) = false := by rfl) :
    PS X (.Raise (some (.Call (.Name x p) [e] [] pos)) none pos2) (tSx A L0 F0 (kRaise1 C f Wd ga)) := by
  obtain ⟨fI, fd, i1, i2, F1, b⟩ := I.ex
  refine (ps_raise hc tk (pmk_oex (p := p) (pos := pos) (dvs := []) (ds := []) T.oe i1 i2 F1 (hr.mono hk) b .nil C8.pass0 hg T.g ha hdb he hpl)).weak fun D σ H ⟨F, ε, E, s0, R, hg, _⟩ => ?_
  refine ⟨F, ε, _, s0, R, hg, fun F1 ε1 H1 vs ds s1 R1 i1 ⟨y, ey, w⟩ => ?_⟩
  subst ey
  cases i1 with
  | @cons _ v _ _ _ iy rn =>
    cases rn
    refine ⟨by show 1 ≤ 1000; decide, fun a na => ⟨a, _, rfl, upd_same, fun dx hdx dne => ⟨rfl, dx, _, upd_same, by rw [upd_ne dne, upd_same], ?_, ?_⟩⟩⟩
    · rw [upd_ne dne] at hdx
      exact hdx
    · rw [upd_ne dne] at hdx
      rw [upd_delX na dne]
      have n := R1.Fn hdx
      have R2 := R1.new (.xd [(f, v)]) hdx
      exact ⟨_, ε1, ⟨C, some [(f, y)]⟩, (s0.trans s1).trans (same_of n), R2, ⟨rfl, dx, [(f, v)], rfl, upd_same, .cons (iy.mono (same_of n)) .nil⟩, w⟩
/-- raise C() -/
def kRaise0 (C : Addr) (Wd : DEnv → Xc → Prop) : KS := fun _ ε => Wd ε ⟨C, none⟩
theorem pmk_own0 (T : XCl X.K X.mg x C) (q0 : XBare X.K C) (hg : Gl X x) (hdb : (x == ("__debug__" : Str)) = false := by decide) : PMk X (.Call (.Name x p) [] [] pos) (fun _ H Q => Q (.ref C) none H) := by
  intro pins s σ H Q I h
  refine wpAny_Call_Name_kw (ld_glob I hg T.g ?_ hdb)
  refine PySem.W.callWith_K0 I.kIn T.oe.kC ?_
  show wpAny _ _ (call (.ref C) []) _ _ _
  obtain ⟨bm, N, nm, qn, bs, hdct, sn, sub, ab, col, dd, k0, k1, k2, k3, k5, mN, hC, hN, hni, Tl⟩ := exc_obj I.kIn q0
  exact wpAny_call_exc_subT PySem.F.excBase_ValueError Tl hC hN hni (fun h' e hm => mk_of I hm (raises_own T.oe.exC T.oe.tyC) h (I.hok.gone hm.new)) (by show 0 ≤ sizeLine; exact Nat.zero_le _)
theorem xsx_raise0 {A : Anc} {L0 : Lk} {F0 : Hp} {Wd : DEnv → Xc → Prop} {pos2 : Pos} (T : XCl X.K X.mg x C) (q0 : XBare X.K C) (tk : Takes X (dW A L0 F0 Wd)) (hg : Gl X x) (hc : X.calm = true := by rfl) (hdb : (x == ("__debug__" : Str)) = false := by decide) :
    PS X (.Raise (some (.Call (.Name x p) [] [] pos)) none pos2) (tSx A L0 F0 (kRaise0 C Wd)) :=
  (ps_raise hc tk (pmk_own0 T q0 hg hdb)).weak fun D σ H ⟨F, ε, E, s0, R, w, _⟩ => ⟨F, ε, _, s0, R, ⟨rfl, rfl⟩, w⟩
end
/-! ### defs that may raise -/
structure CalX (P : Program) (w : World) (K : PySem.W.Frag) (mg : Str → Option Value) (base : Heap) (k : Nat) (x : Str) (sp : Sp) : Prop where
  ex : ∃ (f : Addr) (fd : FuncData) (ps : List Str), FnOk P w K mg base (L2.CX P w) k f fd ps sp ∧ mg x = some (.ref f) ∧ PySem.W.keepIn K (.ref f) = true ∧ Binds K fd ps []
section
variable {P : Program} {w : World} {K : PySem.W.Frag} {mg : Str → Option Value} {base : Heap}
/-- where nothing is to be raised, it is called as any def -/
theorem fnOk_calm {k : Nat} {f : Addr} {fd : FuncData} {ps : List Str} {sp : Sp} (F : FnOk P w K mg base (L2.CX P w) k f fd ps sp) : FnOk P w K mg base C8.CX0 k f fd ps (fun vs H Q _ => sp vs H Q C8.E0) :=
  ⟨fun vs H Q E h => F.len vs H Q C8.E0 h, fun A outer s H args us vs Q E hr e0 hb r h => codeAny_mono (F.run A outer s H args us vs Q C8.E0 hr e0 hb r h) fun rr s' q => by
    cases rr with
    | error e => obtain ⟨_, _, _, _, _, _, _, _, _, _, _, _, z⟩ := q; exact z.elim
    | ok fl => cases fl <;> exact q⟩
theorem CalX.calm {k : Nat} {x : Str} {fs : FX} (c : CalX P w K mg base k x (spX K fs)) : Cal P w K mg base k x (spD K fun ds Pq => fs ds Pq fun _ => False) [] := by
  obtain ⟨f, fd, ps, F, hm, kp, b⟩ := c.ex
  exact ⟨f, fd, ps, [], (fnOk_calm F).imp fun vs H Q E ⟨L, F, ds, Pq, lo, is, hf, k⟩ => ⟨L, F, ds, Pq, _, lo, is, hf, k, fun _ _ _ _ _ _ _ z => z.elim⟩, hm, kp, b, .nil⟩
theorem left_ofX {A : Anc} {F' : Hp} {ε : DEnv} {σ : L2.St} {H' : Hp} (R : Rep A ⟨A.L, fun _ => none⟩ F' ε σ H') (s : Same A.F F') (hp : A.pg = []) : Left A.L A.F A.H F' H' := left_of R s hp rfl
/-- the body's context and what it may raise -/
theorem body_ofX {N : List Str} {X : Cx} {body : List Stmt} {fs : FX} {vs : List V} {H : Hp} {Q : VK} {E : XK} (tk : Takes X fun cls d _ H => E cls d H) (h : spX K fs vs H Q E)
    (hb : ∀ (A : Anc) ds (Pq : Res → Prop) (Px : Xc → Prop), A.K = K → A.H = H → fs ds Pq Px → Takes X (dW A ⟨A.L, fun _ => none⟩ A.F fun _ xc => Px xc) → ∃ kb, PSs X body (tSx A ⟨A.L, fun _ => none⟩ A.F kb) ∧ kb { nx := fun _ => Pq (.fz .non), rt := fun _ r => Pq r } (startD N ds)) :
    ∃ t, PSs X body t ∧ t { nx := fun _ H' => Q .non H', rt := Q } (L2.start N vs) H := by
  obtain ⟨L, F, ds, Pq, Px, lo, is, hf, k, kx⟩ := h
  obtain ⟨kb, h1, h2⟩ := hb ⟨K, H, F, L, []⟩ ds Pq Px rfl rfl hf (tk.imp fun cls d σ H' ⟨F', ε, xc, s, R, xo, p⟩ => kx F' H' cls d xc (left_ofX R s rfl) xo p)
  refine ⟨_, h1, F, _, _, Same.refl F, rep_start N lo is, h2, fun F' ε' σ' H' s R p => ?_, fun F' ε' σ' H' v r s R ok p => ?_, fun _ _ _ _ _ _ z => z.elim, fun _ _ _ _ _ _ z => z.elim⟩
  · exact k F' H' .non (.fz .non) (left_ofX R s rfl) .non p
  · exact k F' H' v r (left_ofX R s rfl) (rnew_of ok) p
theorem spX_len {fs : FX} {n : Nat} (h : ∀ ds Pq Px, fs ds Pq Px → ds.length = n) : ∀ vs H Q E, spX K fs vs H Q E → vs.length = n := fun vs H Q E ⟨L, F, ds, Pq, Px, lo, is, hf, k⟩ => by rw [is.length, h ds Pq Px hf]
theorem Dn.dcalX {x : Str} {st : Stmt} {N ps : List Str} {k : Nat} {fs : FX} (D : Dn K mg x st ps) (S : FnScope N ps (fnScope st)) (len : ∀ ds Pq Px, fs ds Pq Px → ds.length = ps.length)
    (hb : ∀ (f : Addr) (cdv : Value) (A' : Around) (outer : List Env) (s : Shared) (H : Hp) (E : XK), Room k (A'.deeper (envOfC x (fnScope st) s.heap.objs.size f cdv)) → ∀ (A : Anc) ds (Pq : Res → Prop) (Px : Xc → Prop), A.K = K → A.H = H → fs ds Pq Px →
      Takes (cxOf (L2.CX P w) P w K mg base N x (fnScope st) f cdv A' outer s H E) (dW A ⟨A.L, fun _ => none⟩ A.F fun _ xc => Px xc) →
      ∃ kb, PSs (cxOf (L2.CX P w) P w K mg base N x (fnScope st) f cdv A' outer s H E) (fnBody st) (tSx A ⟨A.L, fun _ => none⟩ A.F kb) ∧ kb { nx := fun _ => Pq (.fz .non), rt := fun _ r => Pq r } (startD N ds)) : CalX P w K mg base (k + 1) x (spX K fs) := by
  obtain ⟨f, fd, Fd, b⟩ := D.ex
  obtain ⟨⟨oc, od, dV, kV, doc, pm, an, cdv, ct, osl, rfl, lk, hcd⟩, hm, kp⟩ := Fd
  refine ⟨f, _, ps, fn_of lk hcd S (spX_len len) fun A' outer s H vs Q E hr h => ?_, hm, kp, b⟩
  exact body_ofX (takes_of rfl rfl rfl rfl) h (hb f cdv A' outer s H E hr)
end
section
variable {X : Cx} {A : Anc} {L0 : Lk} {F0 : Hp} {Wd : DEnv → Xc → Prop} {k j : Nat} {x : Str} {fs : FX} {p pos : Pos} {e : Expr} {es : List Expr} {ga : GA}
/-- f(e, ..), f may raise -/
theorem xrx_call (c : CalX X.prog X.w X.K X.mg X.base k x (spX A.K fs)) (hr : Room j X.A) (hk : k ≤ j) (hg : Gl X x) (tk : Takes X (dW A L0 F0 Wd)) (ha : PA X (e :: es) (tAx A L0 F0 ga))
    (hdb : (x == ("__debug__" : Str)) = false := by decide) (he : starEach (e :: es) X.env = (false, eval e X.env) :: starEach es X.env := by rfl) (hpl : (backTo pos (starEach es X.env)).any (·.1) = false := by rfl) :
    PE X (.Call (.Name x p) (e :: es) [] pos) (tRx A L0 F0 (gCallX fs Wd ga)) := by
  obtain ⟨f, fd, ps, F, hm, kp, b⟩ := c.ex
  exact xrx_c (pe_callS F (hr.mono hk) hg hm kp b (fun σ => passAt tk σ) ha hdb he hpl)
end
/-! ### try, except -/
section
variable {A : Anc} {X : Cx} {F H : Hp} {ε : DEnv} {σ : L2.St} {Lk0 : Lk}
/-- the exception is laid in slot i -/
theorem Rep.exc (R : Rep A Lk0 F ε σ H) {i : Nat} {a : Addr} {cls : Value} {d : Option Addr} {xc : Xc} (x : XOk A.K F cls d xc) : Rep A Lk0 F (ε.set i (.ex a d (xc.fs.getD []))) (σ.set i (some (.ref a))) H := by
  by_cases hi : i < ε.length
  · have R0 := R.set hi (v := .int 0) (.int 0)
    have e0 : (σ.set i (some (V.int 0))).set i (some (.ref a)) = σ.set i (some (.ref a)) := List.set_set ..
    have e1 : (ε.set i (Sl.fz (.int 0))).set i (.ex a d (xc.fs.getD [])) = ε.set i (.ex a d (xc.fs.getD [])) := List.set_set ..
    have hs : i < σ.length := by rw [← R.len]; exact hi
    have R1 := R0.weak (σ' := σ.set i (some (.ref a))) i (by rw [List.length_set, List.length_set]) fun j hj => by rw [List.getElem?_set_ne (Ne.symm hj), List.getElem?_set_ne (Ne.symm hj)]
    have R2 := R1.letGo (i := i) (x := .ex a d (xc.fs.getD [])) (fun _ _ => by
      refine ⟨by rw [List.getElem?_set_self hs]; rfl, fun dd q => ?_⟩
      obtain ⟨_, x2⟩ := x
      cases hf : xc.fs with
      | none => rw [hf] at x2; rw [x2] at q; cases q
      | some fs =>
        rw [hf] at x2
        obtain ⟨dd', vs, z, h1, h2⟩ := x2
        rw [q] at z
        cases z
        exact ⟨vs, h1, h2⟩) rfl
    rw [List.set_set, List.set_set] at R2
    exact R2
  · have hs : ¬ i < σ.length := by rw [← R.len]; exact hi
    rw [List.set_eq_of_length_le (by omega), List.set_eq_of_length_le (by omega)]
    exact R
/-- .. and goes -/
theorem Rep.gone (R : Rep A Lk0 F ε σ H) (i : Nat) : Rep A Lk0 F (ε.set i .un) (σ.set i none) H := R.weak i (by rw [List.length_set]) fun j hj => by rw [List.getElem?_set_ne (Ne.symm hj)]
end
/-- what a clause wishes; ks: its suite -/
def kAs (K : PySem.W.Frag) (c : Value) (i : Nat) (ks : Addr → Value → Option Addr → KS) (E : DEnds) (ε : DEnv) (xc : Xc) : Prop := ∃ b, PySem.W.exmOne K (.ref xc.C) c = some b ∧ b = true ∧ ∀ a d, (xc.fs = none → d = none) → (∀ fs, xc.fs = some fs → ∃ dd, d = some dd) →
  ks a (.ref xc.C) d { nx := fun ε' => E.nx (ε'.set i .un), rt := E.rt, bk := fun ε' => E.bk (ε'.set i .un), ct := fun ε' => E.ct (ε'.set i .un) } (ε.set i (.ex a d (xc.fs.getD [])))
def kTry (K : PySem.W.Frag) (c : Value) (i : Nat) (kb : (DEnv → Xc → Prop) → KS) (ks : Addr → Value → Option Addr → KS) : KS := fun E ε => kb (kAs K c i ks E) E ε
section
variable {A : Anc} {X : Cx} {x n : Str} {c : Value} {i : Nat} {body suite : List Stmt} {b₀ : Stmt} {np pos pos' : Pos} {kb : (DEnv → Xc → Prop) → KS} {ks : Addr → Value → Option Addr → KS}
theorem XOk.dfs {K : PySem.W.Frag} {F : Hp} {cls : Value} {d : Option Addr} {xc : Xc} (x : XOk K F cls d xc) : (xc.fs = none → d = none) ∧ ∀ fs, xc.fs = some fs → ∃ dd, d = some dd := by
  obtain ⟨_, x2⟩ := x
  constructor
  · intro e
    rw [e] at x2
    exact x2
  · intro fs e
    rw [e] at x2
    obtain ⟨dd, _, z, _⟩ := x2
    exact ⟨dd, z⟩
theorem xs_try (hs : X.stack = X.env :: X.outer) (hf : X.env.frame = some X.env.locals) (hN : X.N.Nodup) (hi : X.N[i]? = some n) (hln : X.env.kindOf n = some .local) (hc : Names X x c)
    (hb : ∀ (L0 : Lk) (F0 : Hp) (Wd : DEnv → Xc → Prop) (pn : List (Addr × Obj)) (xe : Value → Shared → Prop), Takes (X.tr pn xe) (dW A L0 F0 Wd) → PSs (X.tr pn xe) body (tSx A L0 F0 (kb Wd)))
    (hsu : ∀ (a : Addr) (oe : Obj) (cls : Value) (d : Option Addr) (pn : List (Addr × Obj)), Zc cls d oe → (∃ vs, oe.data = .fields vs) → XSs A (X.suite a ((a, oe) :: pn)) (b₀ :: suite) (ks a cls d)) :
    XS A X (.Try body [.ExceptHandler (some (.Name x np)) (some n) (b₀ :: suite) pos'] [] [] pos) (kTry X.K c i kb ks) := by
  refine (ps_try_as (Wout := fun _ _ _ _ => False) (tb := fun W => fun D σ H => ∃ L0 F0 Wd, (∀ cls d σ H, dW A L0 F0 Wd cls d σ H → W cls d σ H) ∧ tSx A L0 F0 (kb Wd) D σ H) (ts := fun a cls d => tS A (ks a cls d)) hs hf hN hi hln hc takes0
    (fun W pn xe tk _ => ⟨fun pins s σ H D I ⟨L0, F0, Wd, hW, h⟩ => (hb L0 F0 Wd pn xe (tk.imp hW)).run pins s σ H D I h⟩) hsu).weak fun D σ H ⟨L, F, ε, E, R, hk, n, r, b, cc⟩ => ?_
  refine ⟨L, F, kAs X.K c i ks E, fun cls d σ' H' ⟨F', ε', xc, s, R', xo, bb, e1, eb, w⟩ => ?_, F, ε, E, Same.refl F, R, hk, n, r, b, cc⟩
  have ec := xo.1
  subst eb
  refine ⟨true, by rw [ec]; exact e1, fun _ a na => ?_, fun z => nomatch z⟩
  rw [ec]
  refine ⟨L, F', _, _, R'.exc xo, w a d xo.dfs.1 xo.dfs.2, fun F2 ε2 σ2 H2 s2 R2 p => n F2 _ _ H2 (s.trans s2) (R2.gone i) p, fun F2 ε2 σ2 H2 v rr s2 R2 ok p => r F2 ε2 σ2 H2 v rr (s.trans s2) R2 ok p, fun F2 ε2 σ2 H2 s2 R2 p => b F2 _ _ H2 (s.trans s2) (R2.gone i) p, fun F2 ε2 σ2 H2 s2 R2 p => cc F2 _ _ H2 (s.trans s2) (R2.gone i) p⟩
end
/-! in the suite: e.f, isinstance(e, T) -/
section
variable {A : Anc} {X : Cx} {a C : Addr} {oe : Obj} {cls : Value} {d : Option Addr} {pn : List (Addr × Obj)} {e : Expr} {pos : Pos} {f : Str} {i : Nat}
theorem Low.xd {L : Addr → Option Obj} {F H : Hp} {dd : Addr} {vs : List (Str × V)} (w : Low L F H) (h : F dd = some (.xd vs)) : H dd = some (.xd vs) := w.nd h fun z => z
def gXf (K : PySem.W.Frag) (a : Addr) (cls : Value) (d : Option Addr) (i : Nat) (f : Str) : GE := fun ε P => ∃ C dd fs y, cls = .ref C ∧ XfC K C ∧ PySem.W.findIn K (.ref C) f = some none ∧ d = some dd ∧ ε[i]? = some (.ex a d fs) ∧ fs.lookup f = some y ∧ P ε y
theorem xe_xf (hz : Zc cls d oe) (hf : ∃ vs, oe.data = .fields vs) (he : PE (X.suite a ((a, oe) :: pn)) e (tVar i)) (hb : attributeBase e f X.env (eval e X.env) = eval e X.env := by rfl) :
    XE A (X.suite a ((a, oe) :: pn)) (.Attribute e f pos) (gXf X.K a cls d i f) := by
  refine ⟨fun pins s σ H Q I ⟨L, F, ε, P, R, ⟨C, dd, fs, y, e1, t1, t2, e2, e3, e4, p⟩, k⟩ => ?_⟩
  have ok := R.val i _ e3
  obtain ⟨o1, o2⟩ := ok
  obtain ⟨vs, h1, h2⟩ := o2 dd e2
  obtain ⟨v, hv, iv⟩ := h2.lookup e4
  refine (pe_xf t1 t2 hz hf he hb).run pins s σ H Q I ⟨.ref a, join_some o1, rfl, e1, dd, vs, v, e2, R.low.xd h1, hv, ?_⟩
  exact k F ε H v y (Same.refl F) R iv p
structure XIs (K : PySem.W.Frag) (C : Addr) : Prop where
  xf : XfC K C
  cl : (PySem.W.clsIn K C).isSome = true
  ha : PySem.W.findIn K (.ref C) "__class__" = some (some (.builtin "object.__class__"))
  hn : PySem.W.specialIn K (.builtin "object.__class__") "__get__" = some (some (.builtin "getset_descriptor.__get__"))
  ht : PySem.W.takesIn K (.builtin "object.__class__") = some true
  hm : PySem.W.mroIn K C (.type "object") = some true
def rIsX (K : PySem.W.Frag) (a : Addr) (cls : Value) (d : Option Addr) : List V → Hp → VK → Prop := fun xs H Q => ∃ (D : Addr) (c : V) (cv : Value) (b : Bool), cls = .ref D ∧ XIs K D ∧ (d = none ∨ ∃ dd vs, d = some dd ∧ H dd = some (.xd vs)) ∧ xs = [.ref a, c] ∧ (∀ u, RelV c u → u = cv) ∧ PySem.W.kitOne K (.ref D) cv = some b ∧ Q (.bl b) H
theorem XCl.is {K : PySem.W.Frag} {mg : Str → Option Value} {x : Str} {C : Addr} (T : XCl K mg x C) : XIs K C := ⟨T.xf, T.cl, T.ha, T.hn, T.ht, T.hm⟩
theorem call_isX (hz : Zc cls d oe) (hf : ∃ vs, oe.data = .fields vs) : CallR (X.suite a ((a, oe) :: pn)) (.builtin "isinstance") (rIsX X.K a cls d) := by
  intro pins s σ H xs us Q I r h
  obtain ⟨D, c, cv, b, ec, t, hd, rfl, hcv, e, q⟩ := h
  cases r with
  | cons rx rr =>
    cases rr with
    | cons rt rr =>
      cases rr
      cases rx
      have ev := hcv _ rt
      subst ev
      obtain ⟨hget, _⟩ := I.pin (a, oe) (List.mem_append.mpr (.inl List.mem_cons_self))
      obtain ⟨vs, hv⟩ := hf
      have J : ∃ od, PySem.W.InstAt s.heap a oe D od := by
        have nc : PySem.W.notCls oe = true := by unfold PySem.W.notCls; rw [hv] <;> rfl
        rcases hd with hd | ⟨dd, us, hd, hH⟩
        · exact ⟨none, hget, hz.1.trans ec, nc, by rw [hz.2, hd]; trivial⟩
        · have x := I.hok dd _ hH
          obtain ⟨mA, hns, _⟩ := x
          obtain ⟨o, es, ep, ho, _⟩ := hns
          exact ⟨some o, hget, hz.1.trans ec, nc, by rw [hz.2, hd]; exact ho⟩
      obtain ⟨od, J⟩ := J
      exact PySem.W.kia_one (PySem.W.kitx_exc t.cl t.xf.ga t.xf.gg t.xf.exC t.ha t.hn t.ht t.hm) I.kIn J e (fun z => nomatch z) fun tk => ⟨.bl b, H, I.kept (t' := tk) fun _ _ z => z, rfl, q⟩
def gIsX (K : PySem.W.Frag) (a : Addr) (cls : Value) (d : Option Addr) (i : Nat) (cv : Value) : GE := fun ε P => ∃ D fs b, cls = .ref D ∧ XIs K D ∧ (d = none ∨ ∃ dd, d = some dd) ∧ ε[i]? = some (.ex a d fs) ∧ PySem.W.kitOne K (.ref D) cv = some b ∧ P ε (.bl b)
theorem xe_isx {c : V} {cv : Value} (hcv : ∀ u, RelV c u → u = cv) (h : PE (X.suite a ((a, oe) :: pn)) e (tCB (rIsX X.K a cls d) (tCons (tVar i) (tCons (tC c) tNil)))) : XE A (X.suite a ((a, oe) :: pn)) e (gIsX X.K a cls d i cv) :=
  h.weak fun σ H Q ⟨L, F, ε, P, R, ⟨D, fs, b, ec, t, hd, e3, ek, p⟩, k⟩ => by
    obtain ⟨o1, o2⟩ := R.val i _ e3
    refine ⟨.ref a, join_some o1, D, c, cv, b, ec, t, ?_, rfl, hcv, ek, k F ε H _ _ (Same.refl F) R (.bl b) p⟩
    rcases hd with hd | ⟨dd, hd⟩
    · exact .inl hd
    · obtain ⟨vs, h1, _⟩ := o2 dd hd
      exact .inr ⟨dd, vs, hd, R.low.xd h1⟩
end
/-! an own class by its __init__ -/
structure XDk (K : PySem.W.Frag) (C : Addr) (qual : Str) (st : Stmt) (f : Str) : Prop where
  ex : ∃ fI fd, C8.Fun K "__init__" qual st fI fd ∧ Binds K fd ["self", f] [] ∧ PySem.W.findIn K (.ref C) "__init__" = some (some (.ref fI)) ∧ PySem.W.typeIn K (.ref fI) = some (.type "function") ∧ PySem.W.findIn K (.ref C) f = some none
theorem XDk.ini {P : Program} {w : World} {K : PySem.W.Frag} {mg : Str → Option Value} {base : Heap} {C : Addr} {qual : Str} {st : Stmt} {f : Str} (D : XDk K C qual st f) (oe : OexC K C) (S : FnScope ["self", f] ["self", f] (fnScope st))
    (hb : ∀ (f' : Addr) (cdv : Value) (A' : Around) (outer : List Env) (s : Shared) (H : Hp) (E : XK), PSs (cxOf C8.CX0 P w K mg base ["self", f] qual (fnScope st) f' cdv A' outer s H E).nox (fnBody st) (tOst K f (tVar 0) (tVar 1))) : XIni P w K mg base C f := by
  obtain ⟨fI, fd, F, b, i1, i2, no⟩ := D.ex
  refine ⟨⟨fI, fd, i1, i2, C8.fn0 F S (fun vs H Q E ⟨a, v, e, _⟩ => by rw [e]; rfl) fun cdv A' outer s H vs Q E hr h => ⟨_, hb fI cdv A' outer s H E, ?_⟩, b⟩, no⟩
  obtain ⟨a, v, rfl, ha, q⟩ := h
  exact ⟨v, rfl, .ref a, rfl, a, C, rfl, oe, no, .inl ⟨ha, q⟩⟩
theorem xdk_mk {K : PySem.W.Frag} {C fI : Addr} {q : Str} {st : Stmt} {f : Str} {oc : Value} {od an : Option Addr} {sl : Array (Option Value)} {kV dc pm cd ct : Value} (l : K.lookup fI = some ⟨oc, od, .func (PySem.W.fnOf "__init__" q (fnArgs st) (fnBody st) (fnScope st) .none kV dc pm an cd ct), sl⟩) (c : PySem.W.codeIn K cd q = true)
    (a : PySem.W.findIn K (.ref C) "__init__" = some (some (.ref fI))) (t : PySem.W.typeIn K (.ref fI) = some (.type "function")) (n : PySem.W.findIn K (.ref C) f = some none)
    (hb : ∀ (kV doc pm : Value) (an : Option Addr) (cdv ct : Value) (us : List Value), us.length = ([("self" : Str), f]).length → bindArgs (PySem.W.fnOf "__init__" q (fnArgs st) (fnBody st) (fnScope st) .none kV doc pm an cdv ct) ⟨us, []⟩ = pure ([("self" : Str), f].zip us)) : XDk K C q st f := by
  have F : C8.Fun K "__init__" q st fI (PySem.W.fnOf "__init__" q (fnArgs st) (fnBody st) (fnScope st) .none kV dc pm an cd ct) := ⟨oc, od, .none, kV, dc, pm, an, cd, ct, sl, rfl, l, c⟩
  exact ⟨fI, _, F, F.binds rfl hb, a, t, n⟩
end Sv
namespace Sv
open PySem PySem.Spec PyProof.Rows L2
variable [Tb : Tbs]
/-! ### x[k] = value, x a list of its own -/
theorem IsL.set_ {K : PySem.W.Frag} {F : Hp} {v : V} {d : Dt} (h : Is K F v d) : ∀ {vs : List V} {xs : List Dt} (j : Nat), IsL K F vs xs → IsL K F (vs.set j v) (xs.set j d)
  | _, _, _, .nil => .nil
  | _, _, 0, .cons _ r => .cons h r
  | _, _, j + 1, .cons a r => .cons a (IsL.set_ h j r)
section
variable {A : Anc} {X : Cx} {L : Lk} {F F' H H' : Hp} {ε : DEnv} {σ : L2.St} {st : Stmt}
def kPutL (i : Nat) (g gi : GE) : KS := fun E ε => g ε fun ε1 d => (∃ a xs, ε1[i]? = some (.ol a xs)) ∧ gi ε1 fun ε2 y => ∃ a xs k j, ε2[i]? = some (.ol a xs) ∧ y = .int k ∧ ixN xs.length k = some j ∧ E.nx (ε2.set i (.ol a (xs.set j d)))
theorem xs_putL {i : Nat} {g gi : GE} (h : PS X st (tAsg (tE A g) (gSub (tVar i) (tE A gi) rSetL))) : XS A X st (kPutL i g gi) := h.weak fun D σ H ⟨L, F, ε, E, R, hg, n, r, b, c⟩ => ⟨L, F, ε, _, R, hg, fun F1 ε1 H1 v d s1 R1 i1 ⟨⟨a0, xs0, e0⟩, q1⟩ => by
  obtain ⟨h0, _⟩ := R1.ol e0
  refine ⟨.ref a0, h0, L, F1, ε1, _, R1, q1, fun F2 ε2 H2 w y s2 R2 i2 ⟨a, xs, k, j, e2, ey, hj, p⟩ => ?_⟩
  obtain ⟨h2, vs, g2, r2⟩ := R2.ol e2
  rw [h0] at h2
  cases h2
  subst ey
  cases i2
  refine ⟨a0, vs, k, j, rfl, rfl, g2, by rw [r2.length]; exact hj, n F2 _ σ _ (s1.trans s2) (R2.write (x := .ol a0 _) e2 rfl rfl ⟨by rw [h0]; rfl, _, upd_same, IsL.set_ (i1.mono s2) j r2⟩ fun _ _ _ _ z => nomatch z) p⟩⟩
end
end Sv
namespace Sv
open PySem PySem.Spec PyProof.Rows L2
variable [Tb : Tbs]
/-! ### an int times a list; a list's item as one of several targets -/
def rRepR : R2 := fun x y H Q => ∃ l k xs, x = .int k ∧ y = .ref l ∧ H l = some (.lst xs) ∧ 0 ≤ k ∧ k ≤ 1000 ∧ xs.length * k.toNat ≤ sizeLine ∧ ∀ p, H p = none → Q (.ref p) (upd H p (.lst (List.replicate k.toNat xs).flatten))
theorem foldl_app {α : Type} (its : List α) : ∀ (m : Nat) (acc : List α), (List.replicate m its.toArray).foldl (fun a b => a ++ b) acc.toArray = (acc ++ (List.replicate m its).flatten).toArray
  | 0, acc => by simp
  | m + 1, acc => by
    rw [List.replicate_succ, List.foldl_cons, show acc.toArray ++ its.toArray = (acc ++ its).toArray by simp, foldl_app its m (acc ++ its), List.replicate_succ, List.flatten_cons, List.append_assoc]
section
variable {X : Cx}
theorem op_repR : OpR X (binaryOp .Mult) rRepR := by
  intro pins s σ H x y v u Q I rx ry ⟨l, k, xs, ex, ey, hH, k0, k1, hz, q⟩
  subst ex ey
  obtain ⟨t, rfl⟩ := rx
  cases ry
  obtain ⟨z, its, n, r, hl, e⟩ := I.lstM hH
  have sz : its.toArray.size * k.toNat ≤ sizeLine := by rw [List.size_toArray, ← hl]; exact hz
  have c1 : ¬ its.toArray.size * k.toNat > (2 ^ 63 - 1) / 8 := Nat.not_lt.mpr (Nat.le_trans sz (by decide))
  have c0 : ¬ (!Builtin.List.listFitsIndex k) = true := by rw [fitsIndex_both (by omega) (by omega)]; decide
  have c2 : ¬ Builtin.List.listTooLong (its.toArray.size * k.toNat) = true := by rw [notLongL sz]; decide
  have val : List.foldl (fun x1 x2 => x1 ++ x2) #[] (List.replicate (if its.toArray.isEmpty = true then 0 else k.toNat) its.toArray) = (List.replicate k.toNat its).flatten.toArray := by
    have := foldl_app its (if its.toArray.isEmpty = true then 0 else k.toNat) []
    rw [List.nil_append] at this
    refine this.trans ?_
    cases its with
    | nil => simp
    | cons a r' => rw [if_neg (by simp)]
  refine lm_binaryOp_repeat_right (T := "list") (U := "int") (by decide) (fun s' => typeIs_int s' k t) ⟨_, e, rfl⟩ F.fills_int_mul noFill_list_mul F.slot_int_mul lm_noRepeat_int repeat_list F.slot_int_index.lookup
    (call_meets F.slot_int_mul (typeIs_int s k t) F.entry_int_mul (F.args_int_mul_2 _ _) (int___mul___int_list k t l its.toArray n) ⟨e, rfl, ⟨_, e, rfl⟩, call_meets F.slot_list_mul ⟨_, e, rfl⟩ F.entry_list_mul (F.args_list_mul_2 _ _) (AutoListH.list___mul___list_int_3 l its.toArray n k t c0 c1 c2) ⟨e, ?_⟩⟩)
  rw [val]
  exact ⟨.ref _, _, I.lnew (t' := s.toks) (r.rep k.toNat) (by rw [PyProof.Rows.lm_len_rep_flat, Nat.mul_comm]; exact hz), rfl, q _ I.fresh⟩
end
section
variable {A : Anc} {X : Cx} {L : Lk} {K : PySem.W.Frag} {F F' H : Hp} {ε : DEnv} {σ : L2.St} {e : Expr}
def gRepR (ga gb : GE) : GR := fun ε P => ga ε fun ε1 x => gb ε1 fun ε2 y => ∃ xs k, x = .int k ∧ y = .lst xs ∧ 0 ≤ k ∧ k ≤ 1000 ∧ xs.length * k.toNat ≤ 1000000 ∧ P ε2 (.ol (List.replicate k.toNat xs).flatten)
theorem xr_repR {ga gb : GE} (h : PE X e (tOp rRepR (tE A ga) (tE A gb))) : XR A X e (gRepR ga gb) := h.weak fun σ H Q ⟨L, F, ε, P, R, hg, k⟩ => ⟨L, F, ε, _, R, hg, fun F1 ε1 H1 v x s1 R1 i1 q1 => ⟨L, F1, ε1, _, R1, q1, fun F2 ε2 H2 u y s2 R2 i2 ⟨xs, n, ex, ey, n0, n1, l, p⟩ => by
  subst ex ey
  cases i1
  obtain ⟨a, us, rfl, ha, r⟩ := i2.lst_inv
  refine ⟨a, n, us, rfl, rfl, R2.low.nd ha fun z => z, n0, n1, by rw [r.length]; exact Nat.le_trans l (show 1000000 ≤ sizeLine by decide), fun q nq => ?_⟩
  exact k F2 ε2 _ (.ref q) (.ol _) (s1.trans s2) (R2.newOff _ nq) ⟨q, _, rfl, R2.own nq, upd_same, r.rep _⟩ p⟩⟩
/-- xs[i] as a target -/
def hSubL (i : Nat) (g : GE) : HG := fun d ε P => g ε fun ε1 y => ∃ a xs k j, ε1[i]? = some (.ol a xs) ∧ y = .int k ∧ ixN xs.length k = some j ∧ P (ε1.set i (.ol a (xs.set j d)))
theorem xg_subL {i : Nat} {g : GE} (hp : PG X e (gSub (tVar i) (tE A g) rSetL)) : XG A X e [] (fun d ε P => (∃ a xs, ε[i]? = some (.ol a xs)) ∧ hSubL i g d ε P) := hp.weak fun v σ H Q ⟨L, F, ε, P, d, R, is, ⟨⟨a0, xs0, e0⟩, hg⟩, k⟩ => by
  obtain ⟨h0, _⟩ := R.ol e0
  refine ⟨.ref a0, h0, L, F, ε, _, R, hg, fun F2 ε2 H2 w y s2 R2 i2 ⟨a, xs, m, j, e2, ey, hj, p⟩ => ?_⟩
  obtain ⟨h2, vs, g2, r2⟩ := R2.ol e2
  rw [h0] at h2
  cases h2
  subst ey
  cases i2
  refine ⟨a0, vs, m, j, rfl, rfl, g2, by rw [r2.length]; exact hj, ?_⟩
  exact k F2 _ σ _ (R2.write (x := .ol a0 _) e2 rfl rfl ⟨by rw [h0]; rfl, _, upd_same, IsL.set_ (is.mono s2) j r2⟩ fun _ _ _ _ z => nomatch z) s2 (fun _ _ => rfl) p
end
end Sv
namespace Sv
open PySem PySem.Spec PyProof.Rows L2
open C8 (Cal Mak Met cal0 mak0 met0 pe_c pe_mk pe_mt pe_mt0 fnBody fnArgs fnScope scC fnScope_by pe_gc InsC call_isC)
variable [Tb : Tbs]
/-! ### what is an edit, what is a script: values of any kind -/
def nmB : Dt → Bool
  | .str s => goodB s
  | _ => false
/-- a value whose kind may be asked for -/
def VOk (d : Dt) : Prop := (tyD d).isSome = true ∧ ∀ s, d = .str s → s.length ≤ 100000
def fsNm : FS := fun ds Pq => ∃ d, ds = [d] ∧ VOk d ∧ Pq (.fz (.bl (nmB d)))
def isStrB : Dt → Bool
  | .str _ => true
  | _ => false
theorem kit_str {d : Dt} {t : String} (h : tyD d = some t) (n : isStrB d = false) : kitB t "str" = some false := by
  cases d with
  | str s => cases n
  | dic T kvs => cases T <;> cases h; decide +kernel
  | _ => cases h <;> decide +kernel
section
variable {P : Program} {K : PySem.W.Frag} {mg : Str → Option Value} {base : Heap}
theorem br_is_nameA (G : Cal P Tb.w K mg base 1 "is_name" (spIsNameA K) []) : Cal P Tb.w K mg base 1 "is_name" (spD K fsNm) [] := Sv.Cal.imp G fun vs H Q E ⟨L, F, ds, Pq, lo, is, ⟨d, ed, ⟨g1, g2⟩, p⟩, k⟩ => by
  subst ed
  obtain ⟨v, rfl, iv⟩ := isL1 is
  have fin : ∀ H', Sam H H' → ∀ b, Pq (.fz (.bl b)) → Q (.bl b) H' := fun H' s b p => k F H' _ (.fz (.bl b)) ⟨Same.refl F, s, (left_sam lo.toLow s).low, fun b o e => .inl e⟩ (.bl b) p
  cases e : isStrB d with
  | true =>
    cases d <;> cases e
    cases iv
    exact .inl ⟨_, rfl, Nat.le_trans (g2 _ rfl) sizeLine_big, fun H' s => fin H' (.of s) _ p⟩
  | false =>
    obtain ⟨t, ht⟩ := Option.isSome_iff_exists.mp g1
    refine .inr ⟨v, t, rfl, is_ty lo.toLow iv ht, kit_str ht e, ?_⟩
    have : nmB d = false := by cases d <;> first | rfl | cases e
    rw [this] at p
    exact fin H (.of (Same.refl H)) _ p
end
/-- the answer for the items of a tuple -/
def edL : List Dt → Bool
  | [a, b] => (isStrB a && nmB b) && inF a [.str "keep", .str "drop", .str "put"]
  | [a, b, c] => (isStrB a && (nmB b && nmB c)) && (eqF a (.str "turn") && !eqF b c)
  | _ => false
def edB : Dt → Bool
  | .tup ds => edL ds
  | _ => false
def EOk (d : Dt) : Prop := VOk d ∧ (∀ xs, d ≠ .tupc xs) ∧ ∀ xs, d = .tup xs → xs.length ≤ 1000 ∧ ∀ x ∈ xs, VOk x
def fsEd : FS := fun ds Pq => ∃ d, ds = [d] ∧ EOk d ∧ Pq (.fz (.bl (edB d)))
theorem kit_tup {d : Dt} {t : String} (h : tyD d = some t) (n : ∀ xs, d ≠ .tup xs) (n2 : ∀ xs, d ≠ .tupc xs) : kitB t "tuple" = some false := by
  cases d with
  | tup s => exact (n s rfl).elim
  | tupc s => exact (n2 s rfl).elim
  | dic T kvs => cases T <;> cases h; decide +kernel
  | _ => cases h <;> decide +kernel
theorem cutD1 (xs : List Dt) : cutD xs (some 1) none = xs.drop 1 := by
  unfold cutD
  rw [show HT.sIx xs.length 0 (some (1 : Int)) = min 1 xs.length from HT.sIx_nat _ _ 1, HT.sIx_none]
  by_cases h : 1 ≤ xs.length
  · rw [Nat.min_eq_left h]
    exact List.take_of_length_le (by rw [List.length_drop]; exact Nat.le_refl _)
  · obtain rfl : xs = [] := List.eq_nil_of_length_eq_zero (by omega)
    rfl
/-! ### steps that answer themselves -/
local macro_rules | `(tactic| walk_at "side") => `(tactic| first | rfl | assumption | exact key_p (_, _) | exact key_p _ | exact key_s _ | exact flat_sD _ | omega | decide)
local macro_rules | `(tactic| walk_at "noloop") => `(tactic| fail_if_success (first | refine ⟨(fun (_ : Nat) (_ : DEnv) => True), ?_⟩ | refine ⟨(fun (_ : Nat) (_ : DEnv) (_ : List Dt) => True), ?_⟩ | refine ⟨(fun (_ : Nat) (_ : DEnv) (_ : List (Dt × Dt)) => True), ?_⟩ | refine ⟨(fun (_ : DEnv) => True), ?_⟩))
local macro_rules | `(tactic| walk_at "cond") => `(tactic| first | assumption | exact ⟨by decide, by decide⟩ | exact ⟨by decide, by decide, by decide⟩ | exact .inr ⟨by decide, by decide⟩ | exact cm_mod _ _ | (show (0 : Int) < _; decide) | (show (0 : Int) < _; omega))
local macro_rules | `(tactic| walk_at "step1") => `(tactic| (walk_at "noloop"; first
  | refine ⟨(_ : Dt), rfl, ?_⟩
  | refine ⟨(_ : Bool), rfl, ?_⟩
  | refine ⟨(_ : List Dt), rfl, ?_⟩
  | refine ⟨(_ : Int), rfl, ?_⟩
  | refine ⟨(_ : Str), rfl, ?_⟩
  | refine ⟨(_ : Res), rfl, ?_⟩
  | refine ⟨(_ : List (Dt × Dt)), rfl, ?_⟩
  | refine ⟨(_ : Dt), (_ : List Dt), rfl, rfl, (by first | (intro _ z; cases z; done) | (intro _ z; exact Dt.noConfusion z)), ?_⟩
  | refine ⟨(_ : Dt), ⟨_, _, rfl, rfl, rfl⟩, ?_⟩
  | refine ⟨(_ : Dt), ⟨rfl, rfl⟩, ?_⟩
  | refine ⟨(_ : Dt), ⟨_, rfl, rfl⟩, ?_⟩
  | refine ⟨(_ : Dt), .inl ⟨_, rfl, rfl⟩, ?_⟩
  | refine ⟨(_ : Dt), ⟨_, _, rfl, rfl, (by walk_at "cond"), rfl⟩, ?_⟩
  | refine ⟨(_ : Dt), (_ : Dt), rfl, ⟨_, _, rfl, rfl, (by walk_at "side")⟩, ?_⟩
  | refine ⟨(_ : Dt), (_ : Dt), rfl, ⟨_, _, rfl, (by walk_at "side"), (by walk_at "side")⟩, ?_⟩
  | refine ⟨(_ : Kd), _, rfl, (by walk_at "side"), ?_⟩
  | refine ⟨(_ : Kd), _, rfl, ?_⟩
  | refine ⟨(_ : Dt), _, rfl, rfl, (by walk_at "side"), (by walk_at "side"), ?_⟩
  | refine ⟨(_ : Dt), (_ : Nat), rfl, rfl, ?_⟩
  | refine ⟨Nat.le_of_ble_eq_true rfl, ?_⟩
  | refine ⟨_, (_ : Dt), rfl, (by walk_at "side"), ?_⟩
  | refine ⟨⟨_, _, rfl⟩, ?_⟩
  | refine ⟨⟨_, _, _, rfl⟩, ?_⟩
  | refine ⟨(_ : List Dt), .inl rfl, rfl, ?_⟩
  | refine ⟨(_ : Dt), (_ : List Dt), rfl, ?_⟩
  | refine ⟨(rfl : ([] : List Dt) = []), ?_⟩
  | refine ⟨(_ : String), true, rfl, (by decide +kernel), ?_⟩
  | refine ⟨(_ : String), false, rfl, (by decide +kernel), ?_⟩
  | refine ⟨(_ : String), true, false, rfl, (by decide +kernel), (by decide +kernel), ?_⟩
  | refine ⟨(_ : String), false, true, rfl, (by decide +kernel), (by decide +kernel), ?_⟩
  | refine ⟨(_ : String), false, false, rfl, (by decide +kernel), (by decide +kernel), ?_⟩
  | refine ⟨(_ : Kd), _, true, rfl, (by decide +kernel), ?_⟩
  | refine ⟨(_ : Bool), ⟨_, _, rfl, rfl, rfl⟩, ?_⟩
  | refine ⟨⟨_, rfl, (by assumption)⟩, ?_⟩
  | refine ⟨⟨_, rfl⟩, ?_⟩
  | refine iteD rfl ?_
  | refine iteN (by decide) ?_
  | refine iteN (by decide +kernel) ?_
  | refine iteD (by decide +kernel) ?_))
local macro_rules | `(tactic| walk_at "go") => `(tactic| repeat walk_at "step1")
section
variable {P : Program} {K : PySem.W.Frag} {mg : Str → Option Value} {base : Heap}
theorem do_is_edit (D : Dn K mg "is_edit" sis_edit ["value"]) (T : Txt K mg) (G_is_name : Cal P Tb.w K mg base 1 "is_name" (spD K fsNm) []) : Cal P Tb.w K mg base 2 "is_edit" (spD K fsEd) [] := by
  refine D.dcal scis_edit (fun ds Pq h => ?_) (fun f cdv A' outer s H E hr A ds Pq hA h => ?_)
  · obtain ⟨_, rfl, _⟩ := h; rfl
  · obtain ⟨d, rfl, ⟨⟨v1, v2⟩, n2, it⟩, q⟩ := h
    subst hA
    refine ⟨_, (xss_cons (xs_if (PW.pt (xw_or (xt_not (xt_val (xe_isi (pe_callB call_isi (by rfl) T.isinstance (by decide +kernel) (pa_cons (xe_v (pv 0)) (pa_cons (pe_bltn (v := .ty "tuple") (by rfl) T.tuple (by decide +kernel) rfl) pa_nil)))))) (xw_or1 (xt_not (xt_chain (od_I0 fun _ _ _ => .bl _) (od_I0 fun _ _ _ => .bl _) (pt_chain op_le op_le xe_int (xe_len (pe_callB call_lenA (by rfl) T.len PySem.boot_len (pa_cons (xk_v (pv 0)) pa_nil))) xe_int)))))) (xss_one (xs_ret (xr_e xe_bl))) xss_nil)
      (xss_cons (xs_if (PW.pt (xw_or (xt_not (xt_val (xe_isi (pe_callB call_isi (by rfl) T.isinstance (by decide +kernel) (pa_cons (xe_ix (xk_v (pv 0)) xe_int (fun _ _ => rfl)) (pa_cons (pe_bltn (v := .ty "str") (by rfl) T.str (by decide +kernel) rfl) pa_nil)))))) (xw_or1 (xt_not (xt_val (xe_all (pe_callB (cr_all rfl) (by rfl) T.all (by decide +kernel) (xa_cons (xe_r (xr_lc (by simp) (pe_lc (own := [("item", 1)]) (by rfl) scis_edit.nd (xi_seq (pi_sww (xe_r (xr_e (xe_slT (pe_slice sl_tupA (xe_v (pv 0)) (xo_some xe_int) xo_none)))))) (blkOk_by (own := [("item", 1)]) (N := Nis_edit) (sc := fnScope sis_edit) (by decide +kernel)) (fun _ _ _ _ _ => (xg_name (pg_name (i := 1) scis_edit.nd rfl (Or.inl rfl)))) (fun _ _ _ _ _ => xts_nil) (fun _ _ _ _ _ => (xe_r (xr_c (pe_c G_is_name hr (by decide) (by rfl) (xa_cons (xe_v (pv 1)) xa_nil)))))))) xa_nil)))))))) (xss_one (xs_ret (xr_e xe_bl))) xss_nil)
      (xss_cons (xs_if (xt_cmp op_eq od_eqI (xe_len (pe_callB call_lenA (by rfl) T.len PySem.boot_len (pa_cons (xk_v (pv 0)) pa_nil))) xe_int (nomark _)) (xss_one (xs_ret (xr_e (xe_in (xe_ix (xk_v (pv 0)) xe_int (fun _ _ => rfl)) (xk_e (xe_tup (xa_cons xe_str (xa_cons xe_str (xa_cons xe_str xa_nil))))))))) xss_nil)
      (xss_one (xs_ret (xr_e (xe_and (xe_cmp op_eq od_eqS (xe_ix (xk_v (pv 0)) xe_int (fun _ _ => rfl)) xe_str (nomark _)) (xe_one (xe_cmp op_ne od_neS (xe_ix (xk_v (pv 0)) xe_int (fun _ _ => rfl)) (xe_ix (xk_v (pv 0)) xe_int (fun _ _ => rfl)) (nomark _)))))))))), ?_⟩
    obtain ⟨t, ht⟩ := Option.isSome_iff_exists.mp v1
    by_cases tp : ∃ xs, d = .tup xs
    rotate_left
    · have e0 : edB d = false := by cases d <;> first | rfl | exact (tp ⟨_, rfl⟩).elim
      have hk := kit_tup ht (fun xs z => tp ⟨xs, z⟩) n2
      refine ⟨_, rfl, t, false, ht, hk, _, rfl, ?_⟩
      rw [e0] at q
      exact q
    · obtain ⟨xs, rfl⟩ := tp
      obtain ⟨lx, hx⟩ := it xs rfl
      match xs, lx, hx, q with
      | [], _, _, q =>
        walk_at "go"
        exact q
      | [a], _, _, q =>
        walk_at "go"
        exact q
      | a :: b :: c :: e :: r, lx, hx, q =>
        walk_at "go"
        refine ifDec (fun h2 => ?_) (fun h2 => ?_)
        · walk_at "go"
          exact q
        · exact (h2 (by simp only [List.length_cons]; omega)).elim
      | [a, b], _, hx, q =>
        have va := hx a (by simp)
        have vr : ∀ x ∈ [b], VOk x := fun x h => hx x (List.mem_cons_of_mem _ h)
        obtain ⟨ta, hta⟩ := Option.isSome_iff_exists.mp va.1
        have ia : atI [a, b] 0 = some a := rfl
        walk_at "go"
        cases ea : isStrB a with
        | false =>
          refine ⟨ta, false, hta, kit_str hta ea, ?_⟩
          walk_at "go"
          have e0 : edB (.tup [a, b]) = false := by show ((isStrB a && nmB b) && _) = false; rw [ea]; rfl
          rw [e0] at q
          exact q
        | true =>
          obtain ⟨sa, rfl⟩ : ∃ sa, a = .str sa := by cases a <;> first | exact ⟨_, rfl⟩ | cases ea
          walk_at "go"
          refine ⟨fun i ε rs => rs = ([b].take i).map (fun x => Dt.bl (nmB x)) ∧ (∃ t1, ε = [.fz (.tup [.str sa, b]), t1]), ⟨rfl, _, rfl⟩, fun i d ε rs hd hI => ?_, fun ε rs hI => ?_⟩
          · obtain ⟨rfl, t1, rfl⟩ := hI
            rw [cutD1] at hd
            have hd : [b][i]? = some d := hd
            have vd := vr d (List.mem_of_getElem? hd)
            have hi : i < 2 := by have := (List.getElem?_eq_some_iff.mp hd).1; simp only [List.length_cons, List.length_nil] at this; omega
            walk_at "go"
            refine ⟨vd, by rw [List.length_map, List.length_take]; omega, ?_, _, rfl⟩
            rw [List.take_add_one, hd, List.map_append]
            rfl
          · obtain ⟨rfl, t1, rfl⟩ := hI
            rw [cutD1]
            have tk : [b].take ((Dt.str sa :: [b]).drop 1).length = [b] := rfl
            rw [tk]
            refine ⟨_, ⟨[b].map nmB, rfl, rfl⟩, ?_⟩
            walk_at "go"
            show if (!(nmB b && true)) = true then _ else _
            cases en : nmB b with
            | false =>
              have e1 : edB (.tup [.str sa, b]) = false := by show ((true && nmB b) && _) = false; rw [en]; rfl
              rw [e1] at q
              exact q
            | true =>
              have e1 : edB (.tup [.str sa, b]) = inF (.str sa) [.str "keep", .str "drop", .str "put"] := by show ((true && nmB b) && _) = _; rw [en]; rfl
              rw [e1] at q
              walk_at "go"
              exact q
      | [a, b, c], _, hx, q =>
        have va := hx a (by simp)
        have vr : ∀ x ∈ [b, c], VOk x := fun x h => hx x (List.mem_cons_of_mem _ h)
        obtain ⟨ta, hta⟩ := Option.isSome_iff_exists.mp va.1
        have ia : atI [a, b, c] 0 = some a := rfl
        walk_at "go"
        cases ea : isStrB a with
        | false =>
          refine ⟨ta, false, hta, kit_str hta ea, ?_⟩
          walk_at "go"
          have e0 : edB (.tup [a, b, c]) = false := by show ((isStrB a && (nmB b && nmB c)) && _) = false; rw [ea]; rfl
          rw [e0] at q
          exact q
        | true =>
          obtain ⟨sa, rfl⟩ : ∃ sa, a = .str sa := by cases a <;> first | exact ⟨_, rfl⟩ | cases ea
          walk_at "go"
          refine ⟨fun i ε rs => rs = ([b, c].take i).map (fun x => Dt.bl (nmB x)) ∧ (∃ t1, ε = [.fz (.tup [.str sa, b, c]), t1]), ⟨rfl, _, rfl⟩, fun i d ε rs hd hI => ?_, fun ε rs hI => ?_⟩
          · obtain ⟨rfl, t1, rfl⟩ := hI
            rw [cutD1] at hd
            have hd : [b, c][i]? = some d := hd
            have vd := vr d (List.mem_of_getElem? hd)
            have hi : i < 2 := by have := (List.getElem?_eq_some_iff.mp hd).1; simp only [List.length_cons, List.length_nil] at this; omega
            walk_at "go"
            refine ⟨vd, by rw [List.length_map, List.length_take]; omega, ?_, _, rfl⟩
            rw [List.take_add_one, hd, List.map_append]
            rfl
          · obtain ⟨rfl, t1, rfl⟩ := hI
            rw [cutD1]
            have tk : [b, c].take ((Dt.str sa :: [b, c]).drop 1).length = [b, c] := rfl
            rw [tk]
            refine ⟨_, ⟨[b, c].map nmB, rfl, rfl⟩, ?_⟩
            walk_at "go"
            show if (!(nmB b && (nmB c && true))) = true then _ else _
            cases en : (nmB b && nmB c) with
            | false =>
              have e1 : edB (.tup [.str sa, b, c]) = false := by show ((true && (nmB b && nmB c)) && _) = false; rw [en]; rfl
              rw [e1] at q
              rw [Bool.and_true, en]
              exact q
            | true =>
              have e1 : edB (.tup [.str sa, b, c]) = (eqF (.str sa) (.str "turn") && !eqF b c) := by show ((true && (nmB b && nmB c)) && _) = _; rw [en]; rfl
              rw [e1] at q
              obtain ⟨eb, ec⟩ := Bool.and_eq_true_iff.mp en
              obtain ⟨sb, rfl⟩ : ∃ s, b = .str s := by cases b <;> first | exact ⟨_, rfl⟩ | cases eb
              obtain ⟨sc, rfl⟩ : ∃ s, c = .str s := by cases c <;> first | exact ⟨_, rfl⟩ | cases ec
              rw [Bool.and_true, en]
              have i1 : atI [Dt.str sa, .str sb, .str sc] 1 = some (.str sb) := rfl
              have i2 : atI [Dt.str sa, .str sb, .str sc] 2 = some (.str sc) := rfl
              have q : Pq (.fz (.bl (eqV (.str sa) (.str "turn") && !eqV (.str sb) (.str sc)))) := q
              rw [eqV_str, eqV_str] at q
              walk_at "go"
              refine ifDec (fun h => ?_) (fun h => ?_)
              · rw [decide_eq_true h] at q
                walk_at "go"
                exact q
              · rw [decide_eq_false h] at q
                exact q
end
/-! scripts -/
def badAt (xs : List Dt) : Option Nat := xs.findIdx? fun d => !edB d
def plL (xs : List Dt) : Dt := if 5000 < xs.length then .int (-1) else match badAt xs with
  | none => .non
  | some i => .int (i : Nat)
/-- where a value is no script -/
def plD : Dt → Dt
  | .lst xs => plL xs
  | .tup xs => plL xs
  | _ => .int (-1)
def ScOk (d : Dt) : Prop := VOk d ∧ (∀ xs, d ≠ .tupc xs) ∧ ∀ xs, itemsD d = some xs → xs.length ≤ 100000 ∧ ∀ x ∈ xs, EOk x
def fsPl : FS := fun ds Pq => ∃ d, ds = [d] ∧ ScOk d ∧ Pq (.fz (plD d))
theorem kit_sq {d : Dt} {t : String} (h : tyD d = some t) (n2 : ∀ xs, d ≠ .tupc xs) : (∃ xs, itemsD d = some xs ∧ plD d = plL xs ∧ lenD d = some xs.length ∧ ∃ b1 b2, kitB t "list" = some b1 ∧ kitB t "tuple" = some b2 ∧ (b1 || b2) = true) ∨ plD d = .int (-1) ∧ kitB t "list" = some false ∧ kitB t "tuple" = some false := by
  cases d with
  | tup s => cases h; exact .inl ⟨s, rfl, rfl, rfl, false, true, by decide +kernel, by decide +kernel, rfl⟩
  | lst s => cases h; exact .inl ⟨s, rfl, rfl, rfl, true, false, by decide +kernel, by decide +kernel, rfl⟩
  | tupc s => exact (n2 s rfl).elim
  | dic T kvs => cases T <;> cases h; exact .inr ⟨rfl, by decide +kernel, by decide +kernel⟩
  | _ => cases h <;> exact .inr ⟨rfl, by decide +kernel, by decide +kernel⟩
theorem badAt_none {xs : List Dt} (h : ∀ x ∈ xs, edB x = true) : badAt xs = none := by
  unfold badAt
  rw [List.findIdx?_eq_none_iff]
  intro x hx
  rw [h x hx]
  rfl
theorem badAt_some {xs : List Dt} {i : Nat} {d : Dt} (hd : xs[i]? = some d) (hb : edB d = false) (h : ∀ j x, j < i → xs[j]? = some x → edB x = true) : badAt xs = some i := by
  unfold badAt
  rw [List.findIdx?_eq_some_iff_getElem]
  obtain ⟨hi, e⟩ := List.getElem?_eq_some_iff.mp hd
  refine ⟨hi, by rw [e, hb]; rfl, fun j hj => ?_⟩
  rw [h j _ hj (List.getElem?_eq_getElem (by omega))]
  decide
section
variable {P : Program} {K : PySem.W.Frag} {mg : Str → Option Value} {base : Heap}
theorem do_bad_edit_place (D : Dn K mg "bad_edit_place" sbad_edit_place ["script"]) (T : Txt K mg) (G_is_edit : Cal P Tb.w K mg base 2 "is_edit" (spD K fsEd) []) : Cal P Tb.w K mg base 3 "bad_edit_place" (spD K fsPl) [] := by
  refine D.dcal scbad_edit_place (fun ds Pq h => ?_) (fun f cdv A' outer s H E hr A ds Pq hA h => ?_)
  · obtain ⟨_, rfl, _⟩ := h; rfl
  · obtain ⟨d, rfl, ⟨⟨v1, v2⟩, n2, it⟩, q⟩ := h
    subst hA
    refine ⟨_, (xss_cons (xs_if (PW.pt (xw_or (xt_not (xt_val (xe_isiT (pe_callB call_isiT (by rfl) T.isinstance (by decide +kernel) (pa_cons (xe_v (pv 0)) (pa_cons (pe_tup (pa_cons (pe_bltn (v := .ty "list") (by rfl) T.list (by decide +kernel) rfl) (pa_cons (pe_bltn (v := .ty "tuple") (by rfl) T.tuple (by decide +kernel) rfl) pa_nil))) pa_nil)))))) (xw_or1 (xt_cmp op_gt (od_I0 fun _ _ _ => .bl _) (xe_len (pe_callB call_lenA (by rfl) T.len PySem.boot_len (pa_cons (xk_v (pv 0)) pa_nil))) (xe_gi (by rfl) T.LONGEST_SCRIPT) (nomark _))))) (xss_one (xs_ret (xr_e (xe_neg (pe_un un_neg xe_int))))) xss_nil)
      (xss_cons (xs_for (ps_for PassesOwn.never rfl (xi_enum (pi_enW (by rfl) T.enumerate (pa_cons (xe_v (pv 0)) pa_nil))) (xg_tup (pg_tup (n := 2) rfl (xgs_cons (xg_name (pg_name (i := 1) scbad_edit_place.nd rfl (Or.inl rfl))) (xgs_cons (xg_name (pg_name (i := 2) scbad_edit_place.nd rfl (Or.inl rfl))) (xgs_nil pgs_nil) (pgs_cons (xg_name (pg_name (i := 2) scbad_edit_place.nd rfl (Or.inl rfl))) (xgs_nil pgs_nil))) (pgs_cons (xg_name (pg_name (i := 1) scbad_edit_place.nd rfl (Or.inl rfl))) (xgs_cons (xg_name (pg_name (i := 2) scbad_edit_place.nd rfl (Or.inl rfl))) (xgs_nil pgs_nil) (pgs_cons (xg_name (pg_name (i := 2) scbad_edit_place.nd rfl (Or.inl rfl))) (xgs_nil pgs_nil))))))) (xss_one (xs_if (xt_not (xt_val (xe_r (xr_c (pe_c G_is_edit hr (by decide) (by rfl) (xa_cons (xe_v (pv 2)) xa_nil)))))) (xss_one (xs_ret (xr_v (pv 1)))) xss_nil))))
      (xss_one (xs_ret (xr_e xe_non))))), ?_⟩
    obtain ⟨t, ht⟩ := Option.isSome_iff_exists.mp v1
    rcases kit_sq ht n2 with ⟨xs, hi, hp, hlen, b1, b2, k1, k2, kb⟩ | ⟨hp, k1, k2⟩
    rotate_left
    · refine ⟨_, rfl, t, false, false, ht, k1, k2, _, rfl, ?_⟩
      rw [hp] at q
      walk_at "go"
      exact q
    · obtain ⟨lx, hx⟩ := it xs hi
      rw [hp] at q
      refine ⟨_, rfl, t, b1, b2, ht, k1, k2, _, rfl, ?_⟩
      rw [kb]
      refine iteN (by decide) ?_
      refine ⟨_, rfl, _, xs.length, rfl, hlen, ?_⟩
      walk_at "go"
      refine ifDec (fun hl => ?_) (fun hl => ?_)
      · have e1 : plL xs = .int (-1) := if_pos (by omega)
        rw [e1] at q
        walk_at "go"
        exact q
      · have e1 : plL xs = (match badAt xs with | none => .non | some i => .int (i : Nat)) := if_neg (by omega)
        rw [e1] at q
        walk_at "go"
        refine ⟨xs, hi, fun i ε => (∀ j x, j < i → xs[j]? = some x → edB x = true) ∧ ∃ t1 t2, ε = [.fz d, t1, t2], ⟨fun _ _ z => absurd z (Nat.not_lt_zero _), _, _, rfl⟩, fun i p ε hd hI => ?_, fun ε hI => ?_⟩
        · obtain ⟨ok, t1, t2, rfl⟩ := hI
          obtain ⟨x, hxi, rfl⟩ : ∃ x, xs[i]? = some x ∧ p = .tup [.int (i : Nat), x] := by
            rw [List.getElem?_map, List.getElem?_zipIdx] at hd
            cases hx : xs[i]? with
            | none => rw [hx] at hd; cases hd
            | some x => rw [hx] at hd; exact ⟨x, rfl, by simpa using hd.symm⟩
          walk_at "go"
          refine ⟨hx x (List.mem_of_getElem? hxi), ?_⟩
          walk_at "go"
          cases eb : edB x with
          | true =>
            refine iteN (by decide) ?_
            refine ⟨fun j y hj hy => ?_, _, _, rfl⟩
            by_cases e : j = i
            · subst e; rw [hxi] at hy; cases hy; exact eb
            · exact ok j y (by omega) hy
          | false =>
            rw [badAt_some hxi eb ok] at q
            refine iteD (by rfl) ?_
            exact ⟨_, rfl, q⟩
        · obtain ⟨ok, t1, t2, rfl⟩ := hI
          rw [List.length_map, List.length_zipIdx] at ok
          rw [badAt_none fun x hx => let ⟨j, hj, e⟩ := List.mem_iff_getElem.mp hx; ok j x hj (by rw [List.getElem?_eq_getElem hj, e])] at q
          walk_at "go"
          exact q
end
/-! .. and what refuses them -/
/-- an answer or an exception -/
inductive Out where
  | ret (r : Res) | exc (x : Xc)
def Out.to (Pq : Res → Prop) (Px : Xc → Prop) : Out → Prop
  | .ret r => Pq r
  | .exc x => Px x
def chkO (CB : Addr) (d : Dt) : Out := match plD d with
  | .non => .ret (.fz .non)
  | p => .exc ⟨CB, some [("place", p)]⟩
def fsChkX (CB : Addr) : FX := fun ds Pq Px => ∃ d, ds = [d] ∧ ScOk d ∧ (chkO CB d).to Pq Px
theorem plD_or (d : Dt) : plD d = .non ∨ ∃ i, plD d = .int i := by
  have l : ∀ xs, plL xs = .non ∨ ∃ i, plL xs = .int i := fun xs => by
    unfold plL
    split
    · exact .inr ⟨_, rfl⟩
    · split
      · exact .inl rfl
      · exact .inr ⟨_, rfl⟩
  cases d <;> first | exact l _ | exact .inr ⟨_, rfl⟩
theorem chkO_ok {CB : Addr} {d : Dt} (h : plD d = .non) : chkO CB d = .ret (.fz .non) := by unfold chkO; rw [h]
theorem chkO_no {CB : Addr} {d : Dt} {i : Int} (h : plD d = .int i) : chkO CB d = .exc ⟨CB, some [("place", .int i)]⟩ := by unfold chkO; rw [h]
section
variable {P : Program} {K : PySem.W.Frag} {mg : Str → Option Value} {base : Heap} {CBadScript : Addr}
theorem init_BadScript (XBadScript : XCl K mg "BadScript" CBadScript) (D : XDk K CBadScript "BadScript.__init__" sBadScript___init__ "place") : XIni P Tb.w K mg base CBadScript "place" := D.ini XBadScript.oe scBadScript___init__ fun f' cdv A' outer s H E => pss_one (ps_ost (pv 0) (pv 1))
theorem dox_check_script (D : Dn K mg "check_script" scheck_script ["script"]) (T : Txt K mg) (XBadScript : XCl K mg "BadScript" CBadScript) (IBadScript : XIni P Tb.w K mg base CBadScript "place") (G_bad_edit_place : Cal P Tb.w K mg base 3 "bad_edit_place" (spD K fsPl) []) : CalX P Tb.w K mg base 4 "check_script" (spX K (fsChkX CBadScript)) := by
  refine D.dcalX sccheck_script (fun ds Pq Px h => ?_) (fun f cdv A' outer s H E hr A ds Pq Px hA hH h tk => ?_)
  · obtain ⟨_, rfl, _⟩ := h; rfl
  · obtain ⟨d, rfl, so, q⟩ := h
    subst hA
    refine ⟨_, (xssx_cons (xsx_n (xs_set (ps_set (i := 1) sccheck_script.nd rfl (Or.inl rfl) (xr_c (pe_c G_bad_edit_place hr (by decide) (by rfl) (xa_cons (xe_v (pv 0)) xa_nil))))))
      (xssx_one (xsx_if (xtx_n (xt_cmp op_notN od_notN (xe_v (pv 1)) xe_non (nomark _))) (xssx_one (xsx_raise1 XBadScript IBadScript hr (by decide) tk (by rfl) (xax_n (xa_cons (xe_v (pv 1)) xa_nil)))) xssx_nil))), ?_⟩
    walk_at "go"
    refine ⟨so, ?_⟩
    unfold chkO at q
    rcases plD_or d with e | ⟨i, e⟩
    · rw [e] at q ⊢
      walk_at "go"
      exact q
    · rw [e] at q ⊢
      walk_at "go"
      exact q
end
/-! whole numbers -/
def intB : Dt → Bool
  | .int _ => true
  | _ => false
def btwB (d : Dt) (l m : Int) : Bool := match d with
  | .int i => decide (l ≤ i) && decide (i ≤ m)
  | _ => false
def fsInt : FS := fun ds Pq => ∃ d, ds = [d] ∧ VOk d ∧ Pq (.fz (.bl (intB d)))
def fsBtw : FS := fun ds Pq => ∃ d l m, ds = [d, .int l, .int m] ∧ VOk d ∧ Pq (.fz (.bl (btwB d l m)))
theorem kit_int {d : Dt} {t : String} (h : tyD d = some t) : ∃ b1 b2, kitB t "int" = some b1 ∧ kitB t "bool" = some b2 ∧ (b1 && !b2) = intB d ∧ (b1 = true → b2 = false ∨ b2 = true) := by
  cases d with
  | int i => cases h; exact ⟨true, false, by decide +kernel, by decide +kernel, rfl, fun _ => .inl rfl⟩
  | bl b => cases h; exact ⟨true, true, by decide +kernel, by decide +kernel, rfl, fun _ => .inr rfl⟩
  | dic T kvs => cases T <;> cases h; exact ⟨false, false, by decide +kernel, by decide +kernel, rfl, fun z => nomatch z⟩
  | _ => cases h <;> exact ⟨false, false, by decide +kernel, by decide +kernel, rfl, fun z => nomatch z⟩
section
variable {P : Program} {K : PySem.W.Frag} {mg : Str → Option Value} {base : Heap}
theorem do_is_integerV (D : Dn K mg "is_integer" sis_integer ["value"]) (T : Txt K mg) : Cal P Tb.w K mg base 1 "is_integer" (spD K fsInt) [] := by
  refine D.dcal scis_integer (fun ds Pq h => ?_) (fun f cdv A' outer s H E hr A ds Pq hA h => ?_)
  · obtain ⟨_, rfl, _⟩ := h; rfl
  · obtain ⟨d, rfl, ⟨v1, v2⟩, q⟩ := h
    subst hA
    refine ⟨_, (xss_one (xs_ret (xr_e (xe_and (xe_isi (pe_callB call_isi (by rfl) T.isinstance (by decide +kernel) (pa_cons (xe_v (pv 0)) (pa_cons (pe_bltn (v := .ty "int") (by rfl) T.int (by decide +kernel) rfl) pa_nil)))) (xe_one (xe_not (xe_isi (pe_callB call_isi (by rfl) T.isinstance (by decide +kernel) (pa_cons (xe_v (pv 0)) (pa_cons (pe_bltn (v := .ty "bool") (by rfl) T.bool (by decide +kernel) rfl) pa_nil)))))))))), ?_⟩
    obtain ⟨t, ht⟩ := Option.isSome_iff_exists.mp v1
    obtain ⟨b1, b2, k1, k2, e, _⟩ := kit_int ht
    rw [← e] at q
    refine ⟨_, rfl, t, b1, ht, k1, b1, rfl, ?_⟩
    cases b1 with
    | true => exact ⟨_, rfl, t, b2, ht, k2, b2, rfl, q⟩
    | false => exact q
theorem do_is_integer_betweenV (D : Dn K mg "is_integer_between" sis_integer_between ["value", "least", "most"]) (T : Txt K mg) (G_is_integer : Cal P Tb.w K mg base 1 "is_integer" (spD K fsInt) []) : Cal P Tb.w K mg base 2 "is_integer_between" (spD K fsBtw) [] := by
  refine D.dcal scis_integer_between (fun ds Pq h => ?_) (fun f cdv A' outer s H E hr A ds Pq hA h => ?_)
  · obtain ⟨_, _, _, rfl, _⟩ := h; rfl
  · obtain ⟨d, l, m, rfl, vo, q⟩ := h
    subst hA
    refine ⟨_, (xss_one (xs_ret (xr_e (xe_and (xe_r (xr_c (pe_c G_is_integer hr (by decide) (by rfl) (xa_cons (xe_v (pv 0)) xa_nil)))) (xe_one (xe_chain (od_I0 fun _ _ _ => .bl _) (od_I0 fun _ _ _ => .bl _) (pe_chain op_le op_le (xe_v (pv 1)) (xe_v (pv 0)) (xe_v (pv 2))))))))), ?_⟩
    walk_at "go"
    refine ⟨vo, intB d, rfl, ?_⟩
    cases d with
    | int i =>
      refine iteD rfl ?_
      walk_at "go"
      have q : Pq (.fz (.bl (decide (l ≤ i) && decide (i ≤ m)))) := q
      refine ifDec (fun h => ?_) (fun h => ?_)
      · rw [decide_eq_true h] at q
        walk_at "go"
        exact q
      · rw [decide_eq_false h] at q
        exact q
    | _ => exact iteN (by simp [intB]) q
end
/-! the scripts of turned -/
theorem list_ans {x : Dt} {xs : List Dt} {P : List Dt → Prop} (h : itemsD x = some xs) (p : P xs) : (∃ y ys, [x] = [y] ∧ itemsD y = some ys) ∧ ∀ zs, (∃ y, [x] = [y] ∧ itemsD y = some zs) → P zs := ⟨⟨x, xs, rfl, h⟩, fun zs ⟨y, e, hz⟩ => by
  cases e
  rw [h] at hz
  cases hz
  exact p⟩
def itL (d : Dt) : List Dt := (itemsD d).getD []
def turnO (CB CN CT : Addr) (a t b n : Dt) : Out := match plD a with
  | .non => match plD t with
    | .non => match plD b with
      | .non => match btwB n 0 8 with
        | true => if 5000 < (itL a ++ (List.replicate (match n with | .int i => i.toNat | _ => 0) (itL t)).flatten ++ itL b).length then .exc ⟨CT, some [("limit", .int 5000)]⟩ else .ret (.ol (itL a ++ (List.replicate (match n with | .int i => i.toNat | _ => 0) (itL t)).flatten ++ itL b))
        | false => .exc ⟨CN, none⟩
      | p => .exc ⟨CB, some [("place", p)]⟩
    | p => .exc ⟨CB, some [("place", p)]⟩
  | p => .exc ⟨CB, some [("place", p)]⟩
def fsTurnX (CB CN CT : Addr) : FX := fun ds Pq Px => ∃ a t b n, ds = [a, t, b, n] ∧ ScOk a ∧ ScOk t ∧ ScOk b ∧ VOk n ∧ (turnO CB CN CT a t b n).to Pq Px
theorem plD_items {d : Dt} (h : plD d = .non) : ∃ xs, itemsD d = some xs ∧ xs.length ≤ 5000 ∧ itL d = xs := by
  have l : ∀ xs, plL xs = .non → xs.length ≤ 5000 := fun xs h => by
    unfold plL at h
    split at h
    · cases h
    · omega
  cases d <;> first | cases h | exact ⟨_, rfl, l _ h, rfl⟩
section
variable {P : Program} {K : PySem.W.Frag} {mg : Str → Option Value} {base : Heap} {CBadScript CNoNumber CTooMany : Addr}
theorem init_TooMany (XTooMany : XCl K mg "TooMany" CTooMany) (D : XDk K CTooMany "TooMany.__init__" sTooMany___init__ "limit") : XIni P Tb.w K mg base CTooMany "limit" := D.ini XTooMany.oe scTooMany___init__ fun f' cdv A' outer s H E => pss_one (ps_ost (pv 0) (pv 1))
theorem dox_turned (D : Dn K mg "turned" sturned ["ahead", "turn", "behind", "n"]) (T : Txt K mg) (XNoNumber : XCl K mg "NoNumber" CNoNumber) (QNoNumber : XBare K CNoNumber) (XTooMany : XCl K mg "TooMany" CTooMany) (ITooMany : XIni P Tb.w K mg base CTooMany "limit") (GX_check_script : CalX P Tb.w K mg base 4 "check_script" (spX K (fsChkX CBadScript))) (G_is_integer_between : Cal P Tb.w K mg base 2 "is_integer_between" (spD K fsBtw) []) : CalX P Tb.w K mg base 5 "turned" (spX K (fsTurnX CBadScript CNoNumber CTooMany)) := by
  refine D.dcalX scturned (fun ds Pq Px h => ?_) (fun f cdv A' outer s H E hr A ds Pq Px hA hH h tk => ?_)
  · obtain ⟨_, _, _, _, rfl, _⟩ := h; rfl
  · obtain ⟨a, t, b, n, rfl, sa, st, sb, vn, q⟩ := h
    subst hA
    refine ⟨_, (xssx_cons (xsx_expr (xrx_call GX_check_script hr (by decide) (by rfl) tk (xax_n (xa_cons (xe_v (pv 0)) xa_nil))))
      (xssx_cons (xsx_expr (xrx_call GX_check_script hr (by decide) (by rfl) tk (xax_n (xa_cons (xe_v (pv 1)) xa_nil))))
      (xssx_cons (xsx_expr (xrx_call GX_check_script hr (by decide) (by rfl) tk (xax_n (xa_cons (xe_v (pv 2)) xa_nil))))
      (xssx_cons (xsx_if (xtx_n (xt_not (xt_val (xe_r (xr_c (pe_c G_is_integer_between hr (by decide) (by rfl) (xa_cons (xe_v (pv 3)) (xa_cons xe_int (xa_cons (xe_gi (by rfl) T.MOST_TURNS) xa_nil))))))))) (xssx_one (xsx_raise0 XNoNumber QNoNumber tk (by rfl))) xssx_nil)
      (xssx_cons (xsx_n (xs_set (ps_set (i := 4) scturned.nd rfl (Or.inl rfl) (xr_cat (pe_op op_cat (xe_r (xr_cat (pe_op op_cat (xe_r (xr_list (pe_callTy call_list_of (by rfl) T.list (by decide +kernel) (xa_cons (xe_v (pv 0)) xa_nil)))) (xe_r (xr_repR (pe_op op_repR (xe_v (pv 3)) (xe_r (xr_list (pe_callTy call_list_of (by rfl) T.list (by decide +kernel) (xa_cons (xe_v (pv 1)) xa_nil)))))))))) (xe_r (xr_list (pe_callTy call_list_of (by rfl) T.list (by decide +kernel) (xa_cons (xe_v (pv 2)) xa_nil)))))))))
      (xssx_cons (xsx_if (xtx_n (xt_cmp op_gt (od_I0 fun _ _ _ => .bl _) (xe_len (pe_callB call_lenA (by rfl) T.len PySem.boot_len (pa_cons (xk_v (pv 4)) pa_nil))) (xe_gi (by rfl) T.LONGEST_RESULT) (nomark _))) (xssx_one (xsx_raise1 XTooMany ITooMany hr (by decide) tk (by rfl) (xax_n (xa_cons (xe_gi (by rfl) T.LONGEST_RESULT) xa_nil)))) xssx_nil)
      (xssx_one (xsx_n (xs_ret (xr_v (pv 4))))))))))), ?_⟩
    unfold turnO at q
    walk_at "go"
    refine ⟨sa, ?_⟩
    rcases plD_or a with ea | ⟨i, ea⟩
    rotate_left
    · rw [ea] at q
      rw [chkO_no ea]
      exact q
    rw [ea] at q
    rw [chkO_ok ea]
    walk_at "go"
    refine ⟨st, ?_⟩
    rcases plD_or t with et | ⟨i, et⟩
    rotate_left
    · rw [et] at q
      rw [chkO_no et]
      exact q
    rw [et] at q
    rw [chkO_ok et]
    walk_at "go"
    refine ⟨sb, ?_⟩
    rcases plD_or b with eb | ⟨i, eb⟩
    rotate_left
    · rw [eb] at q
      rw [chkO_no eb]
      exact q
    rw [eb] at q
    rw [chkO_ok eb]
    walk_at "go"
    refine ⟨_, _, _, rfl, vn, ?_⟩
    walk_at "go"
    obtain ⟨as, ha, la, ia⟩ := plD_items ea
    obtain ⟨ts, ht, lt, it⟩ := plD_items et
    obtain ⟨bs, hb, lb, ib⟩ := plD_items eb
    cases en : btwB n 0 8 with
    | false =>
      rw [en] at q
      exact q
    | true =>
      rw [en] at q
      obtain ⟨m, rfl, m0, m1⟩ : ∃ m, n = .int m ∧ 0 ≤ m ∧ m ≤ 8 := by
        cases n with
        | int m =>
          obtain ⟨z1, z2⟩ := Bool.and_eq_true_iff.mp en
          exact ⟨m, rfl, of_decide_eq_true z1, of_decide_eq_true z2⟩
        | _ => cases en
      rw [ia, it, ib] at q
      have lr : (List.replicate m.toNat ts).flatten.length ≤ 40000 := by
        rw [List.length_flatten, List.map_replicate, List.sum_replicate_nat]
        have : m.toNat ≤ 8 := by omega
        calc m.toNat * ts.length ≤ 8 * 5000 := Nat.mul_le_mul this lt
          _ = 40000 := rfl
      refine iteN (by decide) ?_
      walk_at "go"
      refine list_ans ha ?_
      walk_at "go"
      refine list_ans ht ?_
      refine ⟨ts, m, rfl, rfl, m0, by omega, ?_, ?_⟩
      · calc ts.length * m.toNat ≤ 5000 * 8 := Nat.mul_le_mul lt (by omega)
          _ ≤ 1000000 := by decide
      refine ⟨as, _, rfl, rfl, by omega, ?_⟩
      walk_at "go"
      refine list_ans hb ?_
      refine ⟨_, bs, rfl, rfl, by rw [List.length_append]; omega, ?_⟩
      intro p
      walk_at "go"
      have q : Out.to Pq Px (if 5000 < (as ++ (List.replicate m.toNat ts).flatten ++ bs).length then .exc ⟨CTooMany, some [("limit", .int 5000)]⟩ else .ret (.ol (as ++ (List.replicate m.toNat ts).flatten ++ bs))) := q
      refine ifDec (fun h => ?_) (fun h => ?_)
      · rw [if_pos (Int.ofNat_lt.mp h)] at q
        walk_at "go"
        exact q
      · rw [if_neg (fun z => h (Int.ofNat_lt.mpr z))] at q
        walk_at "go"
        exact q
end
end Sv
namespace Sv
open PySem PySem.Spec PyProof.Rows L2
variable [Tb : Tbs]
/-! ### list.clear -/
section
variable {A : Anc} {X : Cx} {L : Lk} {F F' H : Hp} {ε : DEnv} {σ : L2.St} {e : Expr}
def gClr (i : Nat) : GE := fun ε P => ∃ a xs, ε[i]? = some (.ol a xs) ∧ P (ε.set i (.ol a [])) .non
theorem xe_clr {i : Nat} (h : PE X e (tBM0 X.K "list" rClear (tVar i))) : XE A X e (gClr i) := h.weak fun σ H Q ⟨L, F, ε, P, R, ⟨a, xs, e0, p⟩, k⟩ => by
  obtain ⟨h0, vs, g0, r0⟩ := R.ol e0
  exact ⟨.ref a, h0, .inl ⟨rfl, vs, SqL.of g0⟩, a, vs, rfl, rfl, g0, k F _ _ .non .non (Same.refl F) (R.app e0 .nil) .non p⟩
end
end Sv
namespace Sv
open PySem PySem.Spec PyProof.Rows L2
open C8 (Cal Mak Met cal0 mak0 met0 pe_c pe_mk pe_mt pe_mt0 fnBody fnArgs fnScope scC fnScope_by pe_gc InsC call_isC)
variable [Tb : Tbs]
/-! ### k65: scripts are drawn -/
def EdOkX (e : List Str) : Prop := (∃ w t, e = [w, t] ∧ (w = "keep" ∨ w = "drop" ∨ w = "put") ∧ Good t) ∨ ∃ t x, e = [("turn" : Str), t, x] ∧ Good t ∧ Good x ∧ t ≠ x
theorem good_size {s : Str} (h : Good s) : s.length ≤ 100000 := Nat.le_trans (good_of h).2.1 (by decide)
theorem edB_ok {e : List Str} (h : EdOkX e) : edB (edD e) = true := by
  rcases h with ⟨w, t, rfl, hw, g⟩ | ⟨t, x, rfl, g1, g2, ne⟩
  · show ((true && goodB t) && inF (.str w) [.str "keep", .str "drop", .str "put"]) = true
    rw [show goodB t = true from g]
    rcases hw with rfl | rfl | rfl <;> decide +kernel
  · show ((true && (goodB t && goodB x)) && (eqF (.str "turn") (.str "turn") && !eqV (.str t) (.str x))) = true
    rw [show goodB t = true from g1, show goodB x = true from g2, eqV_str, decide_eq_false ne]
    decide +kernel
theorem eok_ok {e : List Str} (h : EdOkX e) : EOk (edD e) := by
  refine ⟨⟨rfl, fun s z => (nomatch z)⟩, fun xs z => (nomatch z), fun xs z => ?_⟩
  cases z
  have sm : ∀ s ∈ e, s.length ≤ 100000 := by
    rcases h with ⟨w, t, rfl, hw, g⟩ | ⟨t, x, rfl, g1, g2, ne⟩
    · intro s hs
      rcases List.mem_cons.mp hs with rfl | hs
      · rcases hw with rfl | rfl | rfl <;> decide
      · rw [List.mem_singleton.mp hs]; exact good_size g
    · intro s hs
      simp only [List.mem_cons, List.not_mem_nil, or_false] at hs
      rcases hs with rfl | rfl | rfl
      · decide
      · exact good_size g1
      · exact good_size g2
  refine ⟨?_, fun x hx => ?_⟩
  · rcases h with ⟨w, t, rfl, _⟩ | ⟨t, x, rfl, _⟩ <;> simp
  · obtain ⟨s, hs, rfl⟩ := List.mem_map.mp hx
    exact ⟨rfl, fun s' z => by cases z; exact sm _ hs⟩
/-- a list or a tuple of such edits -/
def EdsD (E : List (List Str)) (d : Dt) : Prop := (∀ e ∈ E, EdOkX e) ∧ (d = .lst (E.map edD) ∨ d = .tup (E.map edD))
theorem EdsD.items {E : List (List Str)} {d : Dt} (h : EdsD E d) : itemsD d = some (E.map edD) := by rcases h.2 with rfl | rfl <;> rfl
theorem eds_plL {E : List (List Str)} (h : ∀ e ∈ E, EdOkX e) (l : E.length ≤ 5000) : plL (E.map edD) = .non := by
  unfold plL
  rw [if_neg (by rw [List.length_map]; omega), badAt_none fun x hx => let ⟨e, he, z⟩ := List.mem_map.mp hx; z ▸ edB_ok (h e he)]
theorem eds_sc {E : List (List Str)} {d : Dt} (h : ∀ e ∈ E, EdOkX e) (l : E.length ≤ 5000) (e : d = .lst (E.map edD) ∨ d = .tup (E.map edD)) : ScOk d ∧ plD d = .non ∧ itL d = E.map edD := by
  have it : ∀ xs, itemsD d = some xs → xs.length ≤ 100000 ∧ ∀ x ∈ xs, EOk x := fun xs z => by
    have : xs = E.map edD := by rcases e with rfl | rfl <;> cases z <;> rfl
    subst this
    exact ⟨by rw [List.length_map]; omega, fun x hx => let ⟨y, hy, z⟩ := List.mem_map.mp hx; z ▸ eok_ok (h y hy)⟩
  rcases e with rfl | rfl
  · exact ⟨⟨⟨rfl, fun s z => (nomatch z)⟩, fun xs z => (nomatch z), it⟩, eds_plL h l, rfl⟩
  · exact ⟨⟨⟨rfl, fun s z => (nomatch z)⟩, fun xs z => (nomatch z), it⟩, eds_plL h l, rfl⟩
def fsEditB : BSp := fun kvs ds Pq => BoxOk kvs ∧ ds = [] ∧ ∀ kvs' e, BoxOk kvs' → EdOkX e → Pq kvs' (.fz (edD e))
def fsEditsB : BSp := fun kvs ds Pq => BoxOk kvs ∧ ds = [] ∧ ∀ kvs' E d, BoxOk kvs' → E.length ≤ 40 → EdsD E d → Pq kvs' (.fz d)
/-! ### steps that answer themselves -/
local macro_rules | `(tactic| walk_at "side") => `(tactic| first | rfl | assumption | exact key_p (_, _) | exact key_p _ | exact key_s _ | exact flat_sD _ | omega | decide)
local macro_rules | `(tactic| walk_at "noloop") => `(tactic| fail_if_success (first | refine ⟨(fun (_ : Nat) (_ : DEnv) => True), ?_⟩ | refine ⟨(fun (_ : Nat) (_ : DEnv) (_ : List Dt) => True), ?_⟩ | refine ⟨(fun (_ : Nat) (_ : DEnv) (_ : List (Dt × Dt)) => True), ?_⟩ | refine ⟨(fun (_ : DEnv) => True), ?_⟩))
local macro_rules | `(tactic| walk_at "cond") => `(tactic| first | assumption | exact ⟨by decide, by decide⟩ | exact ⟨by decide, by decide, by decide⟩ | exact .inr ⟨by decide, by decide⟩ | exact cm_mod _ _ | (show (0 : Int) < _; decide) | (show (0 : Int) < _; omega))
local macro_rules | `(tactic| walk_at "step1") => `(tactic| (walk_at "noloop"; first
  | refine ⟨(_ : Dt), rfl, ?_⟩
  | refine ⟨(_ : Bool), rfl, ?_⟩
  | refine ⟨(_ : List Dt), rfl, ?_⟩
  | refine ⟨(_ : Int), rfl, ?_⟩
  | refine ⟨(_ : Str), rfl, ?_⟩
  | refine ⟨(_ : Res), rfl, ?_⟩
  | refine ⟨(_ : List (Dt × Dt)), rfl, ?_⟩
  | refine ⟨(_ : Dt), (_ : List Dt), rfl, rfl, (by first | (intro _ z; cases z; done) | (intro _ z; exact Dt.noConfusion z)), ?_⟩
  | refine ⟨(_ : Dt), ⟨_, _, rfl, rfl, rfl⟩, ?_⟩
  | refine ⟨(_ : Dt), ⟨rfl, rfl⟩, ?_⟩
  | refine ⟨(_ : Dt), ⟨_, rfl, rfl⟩, ?_⟩
  | refine ⟨(_ : Dt), .inl ⟨_, rfl, rfl⟩, ?_⟩
  | refine ⟨(_ : Dt), ⟨_, _, rfl, rfl, (by walk_at "cond"), rfl⟩, ?_⟩
  | refine ⟨(_ : Dt), (_ : Dt), rfl, ⟨_, _, rfl, rfl, (by walk_at "side")⟩, ?_⟩
  | refine ⟨(_ : Dt), (_ : Dt), rfl, ⟨_, _, rfl, (by walk_at "side"), (by walk_at "side")⟩, ?_⟩
  | refine ⟨(_ : Kd), _, rfl, (by walk_at "side"), ?_⟩
  | refine ⟨(_ : Kd), _, rfl, ?_⟩
  | refine ⟨(_ : Dt), _, rfl, rfl, (by walk_at "side"), (by walk_at "side"), ?_⟩
  | refine ⟨(_ : Dt), (_ : Nat), rfl, rfl, ?_⟩
  | refine ⟨Nat.le_of_ble_eq_true rfl, ?_⟩
  | refine ⟨_, (_ : Dt), rfl, (by walk_at "side"), ?_⟩
  | refine ⟨⟨_, _, rfl⟩, ?_⟩
  | refine ⟨⟨_, _, _, rfl⟩, ?_⟩
  | refine ⟨(_ : List Dt), .inl rfl, rfl, ?_⟩
  | refine ⟨(_ : Dt), (_ : List Dt), rfl, ?_⟩
  | refine ⟨(rfl : ([] : List Dt) = []), ?_⟩
  | refine ⟨(_ : String), true, rfl, (by decide +kernel), ?_⟩
  | refine ⟨(_ : String), false, rfl, (by decide +kernel), ?_⟩
  | refine ⟨(_ : String), true, false, rfl, (by decide +kernel), (by decide +kernel), ?_⟩
  | refine ⟨(_ : String), false, true, rfl, (by decide +kernel), (by decide +kernel), ?_⟩
  | refine ⟨(_ : String), false, false, rfl, (by decide +kernel), (by decide +kernel), ?_⟩
  | refine ⟨(_ : Kd), _, true, rfl, (by decide +kernel), ?_⟩
  | refine ⟨(_ : Bool), ⟨_, _, rfl, rfl, rfl⟩, ?_⟩
  | refine ⟨⟨_, rfl, (by assumption)⟩, ?_⟩
  | refine ⟨⟨_, rfl⟩, ?_⟩
  | refine iteD rfl ?_
  | refine iteN (by decide) ?_
  | refine iteN (by decide +kernel) ?_
  | refine iteD (by decide +kernel) ?_))
local macro_rules | `(tactic| walk_at "go") => `(tactic| repeat walk_at "step1")
section
variable {P : Program} {K : PySem.W.Frag} {mg : Str → Option Value} {base : Heap}
theorem do_law_editB (D : Dn K mg "_law_edit" s_law_edit ["_law_box_here"]) (T : Txt K mg) (G__law_take : Cal P Tb.w K mg base 1 "_law_take" (spB K fsTake) []) (G__law_name : Cal P Tb.w K mg base 2 "_law_name" (spB K fsNameB) []) : Cal P Tb.w K mg base 3 "_law_edit" (spB K fsEditB) [] := by
  refine D.dcalB sc_law_edit (fun n ds Pq h => ?_) (fun f cdv A' outer s H E hr A a kvs ds Pq hA h => ?_)
  · obtain ⟨_, rfl, _⟩ := h; rfl
  · obtain ⟨bo, rfl, q⟩ := h
    subst hA
    refine ⟨_, (xss_cons (xs_set (ps_set (i := 1) sc_law_edit.nd rfl (Or.inl rfl) (xr_cB (pe_c G__law_name hr (by decide) (by rfl) (pa_cons (pv 0) (xa_cons (xe_r (xr_lst xa_nil)) xa_nil))))))
      (xss_cons (xs_set (ps_set (i := 2) sc_law_edit.nd rfl (Or.inl rfl) (xr_e (xe_ix (xk_e (xe_r (xr_lst (xa_cons xe_str (xa_cons xe_str (xa_cons xe_str (xa_cons xe_str xa_nil))))))) (xe_r (xr_cB (pe_c G__law_take hr (by decide) (by rfl) (pa_cons (pv 0) (xa_cons xe_int xa_nil))))) (fun _ _ => rfl)))))
      (xss_cons (xs_if (xt_cmp op_eq od_eqS (xe_v (pv 2)) xe_str (nomark _)) (xss_one (xs_ret (xr_e (xe_tup (xa_cons (xe_v (pv 2)) (xa_cons (xe_v (pv 1)) (xa_cons (xe_r (xr_cB (pe_c G__law_name hr (by decide) (by rfl) (pa_cons (pv 0) (xa_cons (xe_r (xr_lst (xa_cons (xe_v (pv 1)) xa_nil))) xa_nil))))) xa_nil))))))) xss_nil)
      (xss_one (xs_ret (xr_e (xe_tup (xa_cons (xe_v (pv 2)) (xa_cons (xe_v (pv 1)) xa_nil))))))))), ?_⟩
    walk_at "go"
    refine ⟨bo, [], rfl, by decide, fun kv1 t bo1 gt _ => ?_⟩
    walk_at "go"
    refine ⟨bo1, 4, rfl, by decide, by decide, fun kv2 r bo2 r0 r1 => ?_⟩
    obtain rfl | rfl | rfl | rfl : r = 0 ∨ r = 1 ∨ r = 2 ∨ r = 3 := by omega
    · walk_at "go"
      exact q _ ["keep", t] bo2 (.inl ⟨_, _, rfl, .inl rfl, gt⟩)
    · walk_at "go"
      exact q _ ["drop", t] bo2 (.inl ⟨_, _, rfl, .inr (.inl rfl), gt⟩)
    · walk_at "go"
      exact q _ ["put", t] bo2 (.inl ⟨_, _, rfl, .inr (.inr rfl), gt⟩)
    · walk_at "go"
      refine ⟨bo2, [t], rfl, by simp, fun kv3 x bo3 gx nx => ?_⟩
      walk_at "go"
      exact q _ ["turn", t, x] bo3 (.inr ⟨_, _, rfl, gt, gx, fun e => nx (by rw [e]; simp)⟩)
theorem do_law_editsB (D : Dn K mg "_law_edits" s_law_edits ["_law_box_here"]) (T : Txt K mg) (G__law_take : Cal P Tb.w K mg base 1 "_law_take" (spB K fsTake) []) (G__law_edit : Cal P Tb.w K mg base 3 "_law_edit" (spB K fsEditB) []) : Cal P Tb.w K mg base 4 "_law_edits" (spB K fsEditsB) [] := by
  refine D.dcalB sc_law_edits (fun n ds Pq h => ?_) (fun f cdv A' outer s H E hr A a kvs ds Pq hA h => ?_)
  · obtain ⟨_, rfl, _⟩ := h; rfl
  · obtain ⟨bo, rfl, q⟩ := h
    subst hA
    refine ⟨_, (xss_cons (xs_setLc (by simp) (ps_setLc (i := 1) (own := [("_law_count", 2)]) (by rfl) sc_law_edits.nd rfl rfl (sw_true rfl rfl rfl (by decide +kernel)) (xi_rng1 (pi_range1 (by rfl) T.range (pa_cons (xe_r (xr_cB (pe_c G__law_take hr (by decide) (by rfl) (pa_cons (pv 0) (xa_cons xe_int xa_nil))))) pa_nil))) (blkOk_by (own := [("_law_count", 2)]) (N := N_law_edits) (sc := fnScope s_law_edits) (by decide +kernel)) (fun _ _ _ _ _ => (xg_name (pg_name (i := 2) sc_law_edits.nd rfl (Or.inl rfl)))) (fun _ _ _ _ _ => xts_nil) (fun _ _ _ _ _ => (xe_r (xr_cB (pe_c G__law_edit hr (by decide) (by rfl) (pa_cons (pv 0) xa_nil)))))))
      (xss_one (xs_ret (xr_e (xe_ix (xk_e (xe_r (xr_lst (xa_cons (xe_v (pv 1)) (xa_cons (xe_tupOf (pe_callTy call_tuple_of (by rfl) T.tuple (by decide +kernel) (xa_cons (xe_v (pv 1)) xa_nil))) xa_nil))))) (xe_r (xr_cB (pe_c G__law_take hr (by decide) (by rfl) (pa_cons (pv 0) (xa_cons xe_int xa_nil))))) (fun _ _ => rfl)))))), ?_⟩
    walk_at "go"
    refine ⟨bo, 41, rfl, by decide, by decide, fun kv1 r bo1 r0 r1 => ?_⟩
    walk_at "go"
    refine ⟨r.toNat, (congrArg Dt.int (Int.toNat_of_nonneg r0)).symm, by omega, fun i ε rs => ∃ kv E, BoxOk kv ∧ rs = E.map edD ∧ E.length = i ∧ (∀ e ∈ E, EdOkX e) ∧ ∃ t, ε = [.od a .k kv, t, .un], ⟨kv1, [], bo1, rfl, rfl, fun _ z => (nomatch z), _, rfl⟩, fun i d ε rs hd hI => ?_, fun ε rs hI => ?_⟩
    · obtain ⟨kv, E, bo2, rfl, lE, okE, t, rfl⟩ := hI
      have hi : i < r.toNat := by
        have := (List.getElem?_eq_some_iff.mp hd).1
        rwa [List.length_map, List.length_range] at this
      walk_at "go"
      refine ⟨bo2, rfl, fun kv3 e bo3 ok => ?_⟩
      refine ⟨by rw [List.length_map]; omega, kv3, E ++ [e], bo3, by rw [List.map_append]; rfl, by rw [List.length_append, lE]; rfl, fun x hx => ?_, _, rfl⟩
      rcases List.mem_append.mp hx with hx | hx
      · exact okE x hx
      · rw [List.mem_singleton.mp hx]; exact ok
    · obtain ⟨kv, E, bo2, rfl, lE, okE, t, rfl⟩ := hI
      rw [List.length_map, List.length_range] at lE
      intro ap
      walk_at "go"
      refine ⟨bo2, 2, rfl, by decide, by decide, fun kv3 r2 bo3 r20 r21 => ?_⟩
      obtain rfl | rfl : r2 = 0 ∨ r2 = 1 := by omega
      · walk_at "go"
        exact q _ E _ bo3 (by omega) ⟨okE, .inl rfl⟩
      · walk_at "go"
        exact q _ E _ bo3 (by omega) ⟨okE, .inr rfl⟩
/-! a script is spoilt -/
theorem cut_from {xs : List Dt} {m : Nat} (h : m ≤ xs.length) : cutD xs (some (m : Int)) none = xs.drop m := by
  unfold cutD
  rw [show HT.sIx xs.length 0 (some (m : Int)) = min m xs.length from HT.sIx_nat _ _ m, HT.sIx_none, Nat.min_eq_left h]
  exact List.take_of_length_le (by rw [List.length_drop]; exact Nat.le_refl _)
def fsSpoil : FS := fun ds Pq => ∃ E : List (List Str), ∃ k at_ : Int, ds = [.lst (E.map edD), .int k, .int at_] ∧ (∀ e ∈ E, EdOkX e) ∧ E.length ≤ 1000 ∧ 0 ≤ k ∧ k ≤ 8 ∧ 0 ≤ at_ ∧ at_ ≤ (E.length : Nat) ∧ ∀ v p, plD v = .int p → ScOk v → Pq (.fz (.tup [v, .int p]))
theorem vok_of {d : Dt} {t : String} (h : tyD d = some t) (n : isStrB d = false) : VOk d := ⟨by rw [h]; rfl, fun s z => by rw [z] at n; cases n⟩
theorem vok_str {s : Str} (h : s.length ≤ 100000) : VOk (.str s) := ⟨rfl, fun s' z => by cases z; exact h⟩
theorem spoil_at {E : List (List Str)} {b : Dt} {m : Nat} (h : ∀ e ∈ E, EdOkX e) (l : E.length ≤ 1000) (hm : m ≤ E.length) (eb : edB b = false) (ob : EOk b) :
    plD (.lst ((E.map edD).take m ++ [b] ++ (E.map edD).drop m)) = .int (m : Nat) ∧ ScOk (.lst ((E.map edD).take m ++ [b] ++ (E.map edD).drop m)) := by
  have lt : ((E.map edD).take m).length = m := by rw [List.length_take, List.length_map]; omega
  have ln : ((E.map edD).take m ++ [b] ++ (E.map edD).drop m).length = E.length + 1 := by
    rw [List.length_append, List.length_append, lt, List.length_drop, List.length_map]
    show m + 1 + _ = _
    omega
  have at_ : ((E.map edD).take m ++ [b] ++ (E.map edD).drop m)[m]? = some b := by
    rw [List.append_assoc, List.getElem?_append_right (by omega), lt, Nat.sub_self]
    rfl
  constructor
  · show plL _ = _
    unfold plL
    rw [if_neg (by omega), badAt_some at_ eb fun j x hj hx => ?_]
    rw [List.append_assoc, List.getElem?_append_left (by omega)] at hx
    obtain ⟨y, hy, rfl⟩ := List.mem_map.mp (List.mem_of_mem_take (List.mem_of_getElem? hx))
    exact edB_ok (h y hy)
  · refine ⟨⟨rfl, fun s z => (nomatch z)⟩, fun xs z => (nomatch z), fun xs z => ?_⟩
    cases z
    refine ⟨by omega, fun x hx => ?_⟩
    have old : ∀ x, x ∈ E.map edD → EOk x := fun x hx => let ⟨y, hy, z⟩ := List.mem_map.mp hx; z ▸ eok_ok (h y hy)
    rcases List.mem_append.mp hx with hx | hx
    · rcases List.mem_append.mp hx with hx | hx
      · exact old x (List.mem_of_mem_take hx)
      · rw [List.mem_singleton.mp hx]; exact ob
    · exact old x (List.mem_of_mem_drop hx)
theorem long_bad {a : Dt} (oa : EOk a) : plD (.lst (List.replicate 5000 a ++ [.non])) = .int (-1) ∧ ScOk (.lst (List.replicate 5000 a ++ [.non])) := by
  have ln : (List.replicate 5000 a ++ [Dt.non]).length = 5001 := by rw [List.length_append, List.length_replicate]; rfl
  constructor
  · show plL _ = _
    unfold plL
    rw [if_pos (by omega)]
  · refine ⟨⟨rfl, fun s z => (nomatch z)⟩, fun xs z => (nomatch z), fun xs z => ?_⟩
    cases z
    refine ⟨by omega, fun x hx => ?_⟩
    rcases List.mem_append.mp hx with hx | hx
    · rw [(List.mem_replicate.mp hx).2]; exact oa
    · rw [List.mem_singleton.mp hx]; exact ⟨vok_of rfl rfl, fun _ z => (nomatch z), fun _ z => (nomatch z)⟩
/-- the menu -/
def menuD : List Dt := [.tup [.str "keep"], .lst [.str "keep", .str "a"], .tup [.str "turn", .str "a", .str "a"], .tup [.str "put", .str ""], .tup [.str "drop", .str "A"], .non, .tup [.str "take", .str "a"]]
theorem menu_bad : ∀ b ∈ menuD, edB b = false := by decide +kernel
theorem menu_ok : ∀ b ∈ menuD, EOk b := by
  have tup : ∀ xs : List Str, xs.length ≤ 3 → (∀ x ∈ xs, x.length ≤ 100000) → EOk (.tup (xs.map .str)) := fun xs l h => ⟨vok_of rfl rfl, fun _ z => (nomatch z), fun ys z => by
    cases z
    refine ⟨by rw [List.length_map]; omega, fun x hx => ?_⟩
    obtain ⟨s, hs, rfl⟩ := List.mem_map.mp hx
    exact vok_str (h s hs)⟩
  intro b hb
  simp only [menuD, List.mem_cons, List.not_mem_nil, or_false] at hb
  rcases hb with rfl | rfl | rfl | rfl | rfl | rfl | rfl
  · exact tup ["keep"] (by decide) (by decide +kernel)
  · exact ⟨vok_of rfl rfl, fun _ z => (nomatch z), fun ys z => (nomatch z)⟩
  · exact tup ["turn", "a", "a"] (by decide) (by decide +kernel)
  · exact tup ["put", ""] (by decide) (by decide +kernel)
  · exact tup ["drop", "A"] (by decide) (by decide +kernel)
  · exact ⟨vok_of rfl rfl, fun _ z => (nomatch z), fun ys z => (nomatch z)⟩
  · exact tup ["take", "a"] (by decide) (by decide +kernel)
theorem do_law_spoilt (D : Dn K mg "_law_spoilt" s_law_spoilt ["_law_edits_here", "_law_pick", "_law_at"]) (T : Txt K mg) : Cal P Tb.w K mg base 1 "_law_spoilt" (spD K fsSpoil) [] := by
  refine D.dcal sc_law_spoilt (fun ds Pq h => ?_) (fun f cdv A' outer s H E hr A ds Pq hA h => ?_)
  · obtain ⟨_, _, _, rfl, _⟩ := h; rfl
  · obtain ⟨E, k, at_, rfl, ok, lE, k0, k8, a0, a1, q⟩ := h
    subst hA
    refine ⟨_, (xss_cons (xs_if (xt_cmp op_eq od_eqI (xe_v (pv 1)) xe_int (nomark _)) (xss_one (xs_ret (xr_e (xe_tup (xa_cons xe_non (xa_cons (xe_neg (pe_un un_neg xe_int)) xa_nil)))))) xss_nil)
      (xss_cons (xs_if (xt_cmp op_eq od_eqI (xe_v (pv 1)) xe_int (nomark _)) (xss_one (xs_ret (xr_e (xe_tup (xa_cons (xe_r (xr_cat (pe_op op_cat (xe_r (xr_repL (pe_op op_rep (xe_r (xr_lst (xa_cons (xe_tup (xa_cons xe_str (xa_cons xe_str xa_nil))) xa_nil))) xe_int))) (xe_r (xr_lst (xa_cons xe_non xa_nil)))))) (xa_cons (xe_neg (pe_un un_neg xe_int)) xa_nil)))))) xss_nil)
      (xss_cons (xs_set (ps_set (i := 3) sc_law_spoilt.nd rfl (Or.inl rfl) (xr_lst (xa_cons (xe_tup (xa_cons xe_str xa_nil)) (xa_cons (xe_r (xr_lst (xa_cons xe_str (xa_cons xe_str xa_nil)))) (xa_cons (xe_tup (xa_cons xe_str (xa_cons xe_str (xa_cons xe_str xa_nil)))) (xa_cons (xe_tup (xa_cons xe_str (xa_cons xe_str xa_nil))) (xa_cons (xe_tup (xa_cons xe_str (xa_cons xe_str xa_nil))) (xa_cons xe_non (xa_cons (xe_tup (xa_cons xe_str (xa_cons xe_str xa_nil))) xa_nil))))))))))
      (xss_one (xs_ret (xr_e (xe_tup (xa_cons (xe_r (xr_cat (pe_op op_cat (xe_r (xr_cat (pe_op op_cat (xe_r (xr_slL (pe_slice sl_list (xe_v (pv 0)) xo_none (xo_some (xe_v (pv 2)))))) (xe_r (xr_lst (xa_cons (xe_ix (xk_v (pv 3)) (xe_v (pv 1)) (fun _ _ => rfl)) xa_nil)))))) (xe_r (xr_slL (pe_slice sl_list (xe_v (pv 0)) (xo_some (xe_v (pv 2))) xo_none)))))) (xa_cons (xe_v (pv 2)) xa_nil))))))))), ?_⟩
    walk_at "go"
    refine ifDec (fun h7 => ?_) (fun h7 => ?_)
    · walk_at "go"
      exact q .non (-1) rfl ⟨vok_of rfl rfl, fun _ z => (nomatch z), fun _ z => (nomatch z)⟩
    walk_at "go"
    refine ifDec (fun h8 => ?_) (fun h8 => ?_)
    · have lb := long_bad (a := .tup [.str "drop", .str "a"]) (eok_ok (e := ["drop", "a"]) (.inl ⟨_, _, rfl, .inr (.inl rfl), by decide +kernel⟩))
      walk_at "go"
      refine ⟨_, 5000, rfl, rfl, by decide, by decide, by show 1 * 5000 ≤ 100000; decide, ?_⟩
      have fr : (List.replicate (5000 : Int).toNat [Dt.tup [.str "drop", .str "a"]]).flatten = List.replicate 5000 (.tup [.str "drop", .str "a"]) := List.flatten_replicate_singleton
      rw [fr]
      obtain ⟨big, hbig⟩ : ∃ big, big = List.replicate 5000 (Dt.tup [.str "drop", .str "a"]) := ⟨_, rfl⟩
      have lbig : big.length = 5000 := by rw [hbig, List.length_replicate]
      rw [← hbig] at lb ⊢
      walk_at "go"
      refine ⟨_, _, rfl, rfl, by rw [lbig]; decide, ?_⟩
      walk_at "go"
      exact q _ _ lb.1 lb.2
    · walk_at "go"
      intro am
      have hm : ∃ b ∈ menuD, atI menuD k = some b := by
        have hk : k.toNat < menuD.length := by show k.toNat < 7; omega
        refine ⟨menuD[k.toNat], List.getElem_mem hk, ?_⟩
        have e : ((k.toNat : Nat) : Int) = k := by omega
        have := atI_nat (List.getElem?_eq_getElem hk)
        rwa [e] at this
      obtain ⟨b, mb, ib⟩ := hm
      have sp := spoil_at (m := at_.toNat) ok lE (by omega) (menu_bad b mb) (menu_ok b mb)
      have lm : at_.toNat ≤ (E.map edD).length := by rw [List.length_map]; omega
      have em : ((at_.toNat : Nat) : Int) = at_ := by omega
      have c1 := cut_take (E.map edD) at_.toNat
      have c2 := cut_from lm
      rw [em] at c1 c2 sp
      walk_at "go"
      rw [c1]
      refine ⟨_, _, rfl, rfl, by rw [List.length_take, List.length_map]; show _ + 1 ≤ 100000; omega, ?_⟩
      walk_at "go"
      rw [c2]
      refine ⟨_, _, rfl, rfl, by rw [List.length_append, List.length_take, List.length_drop, List.length_map]; show _ + 1 + _ ≤ 100000; omega, ?_⟩
      walk_at "go"
      exact q _ _ sp.1 sp.2
/-! who refuses it -/
def fsBadX (CB CN CT : Addr) : FS := fun ds Pq => ∃ a t b n : Dt, ∃ p : Int, ds = [.lst [a, t, b], n] ∧ ScOk a ∧ ScOk t ∧ ScOk b ∧ VOk n ∧ turnO CB CN CT a t b n = .exc ⟨CB, some [("place", .int p)]⟩ ∧ Pq (.fz (.int p))
theorem do_law_bad {CBadScript CNoNumber CTooMany CSlipError : Addr} (D : Dn K mg "_law_bad" s_law_bad ["_law_parts", "_law_turns"]) (T : Txt K mg) (XBadScript : XCl K mg "BadScript" CBadScript) (IBadScript : XIni P Tb.w K mg base CBadScript "place") (XSlipError : XCl K mg "SlipError" CSlipError) (XTooMany : XCl K mg "TooMany" CTooMany)
    (em : PySem.W.exmOne K (.ref CBadScript) (.ref CBadScript) = some true) (k1 : PySem.W.kitOne K (.ref CBadScript) (.ref CSlipError) = some true) (k2 : PySem.W.kitOne K (.ref CBadScript) (.type "ValueError") = some true) (k3 : PySem.W.kitOne K (.ref CBadScript) (.ref CTooMany) = some false)
    (GX_turned : CalX P Tb.w K mg base 5 "turned" (spX K (fsTurnX CBadScript CNoNumber CTooMany))) : Cal P Tb.w K mg base 6 "_law_bad" (spD K (fsBadX CBadScript CNoNumber CTooMany)) [] := by
  refine D.dcal sc_law_bad (fun ds Pq h => ?_) (fun f cdv A' outer s H E hr A ds Pq hA h => ?_)
  · obtain ⟨_, _, _, _, _, rfl, _⟩ := h; rfl
  · obtain ⟨a, t, b, n, p, rfl, oa, ot, ob, vn, ex, q⟩ := h
    subst hA
    refine ⟨_, (xss_cons (xs_set (ps_set (i := 2) sc_law_bad.nd rfl (Or.inl rfl) (xr_e xe_non)))
      (xss_cons (xs_cut (xs_try (n := "e") (i := 3) rfl rfl sc_law_bad.nd rfl rfl ⟨rfl, by decide, Or.inl XBadScript.g⟩ (fun _ _ _ _ _ tk => (xssx_one (xsx_expr (xrx_call GX_turned hr (by decide) (by rfl) tk (xax_n (xa_cons (xe_ix (xk_v (pv 0)) xe_int (fun _ _ => rfl)) (xa_cons (xe_ix (xk_v (pv 0)) xe_int (fun _ _ => rfl)) (xa_cons (xe_ix (xk_v (pv 0)) xe_int (fun _ _ => rfl)) (xa_cons (xe_v (pv 1)) xa_nil))))))))) (fun a oe cls d pn hz hf => (xss_one (xs_if (PW.pt (xw_and (xt_val (xe_isx (c := .ref CSlipError) (cv := .ref CSlipError) (fun _ h => h) (pe_callB (call_isX hz hf) (by rfl) T.isinstance (by decide +kernel) (pa_cons (pv 3) (pa_cons (C8.pe_gc (v := .ref CSlipError) (by rfl) ⟨_, XSlipError.g, rfl⟩) pa_nil))))) (xw_and (xt_val (xe_isx (c := .ty "ValueError") (cv := .type "ValueError") (fun _ h => h) (pe_callB (call_isX hz hf) (by rfl) T.isinstance (by decide +kernel) (pa_cons (pv 3) (pa_cons (pe_bltn (v := .ty "ValueError") (by rfl) T.ValueError (by decide +kernel) rfl) pa_nil))))) (xw_and1 (xt_not (xt_val (xe_isx (c := .ref CTooMany) (cv := .ref CTooMany) (fun _ h => h) (pe_callB (call_isX hz hf) (by rfl) T.isinstance (by decide +kernel) (pa_cons (pv 3) (pa_cons (C8.pe_gc (v := .ref CTooMany) (by rfl) ⟨_, XTooMany.g, rfl⟩) pa_nil)))))))))) (xss_one (xs_set (ps_set (i := 2) sc_law_bad.nd rfl (Or.inl rfl) (xr_e (xe_xf hz hf (pv 3)))))) xss_nil)))))
      (xss_one (xs_ret (xr_v (pv 2)))))), ?_⟩
    have i0 : atI [a, t, b] 0 = some a := rfl
    have i1 : atI [a, t, b] 1 = some t := rfl
    have i2 : atI [a, t, b] 2 = some b := rfl
    walk_at "go"
    refine ⟨fun ε => ∃ t3, ε = [.fz (.lst [a, t, b]), .fz n, .fz (.int p), t3], ?_, fun ε ⟨t3, e⟩ => ?_⟩
    · show kTry _ _ _ _ _ _ _
      unfold kTry
      walk_at "go"
      refine ⟨a, t, b, n, rfl, oa, ot, ob, vn, ?_⟩
      rw [ex]
      refine ⟨true, em, rfl, fun ax d _ hd => ?_⟩
      obtain ⟨dd, rfl⟩ := hd _ rfl
      refine ⟨CBadScript, _, true, rfl, XBadScript.is, .inr ⟨_, rfl⟩, rfl, k1, ?_⟩
      walk_at "go"
      refine ⟨CBadScript, _, true, rfl, XBadScript.is, .inr ⟨_, rfl⟩, rfl, k2, ?_⟩
      walk_at "go"
      refine ⟨CBadScript, _, false, rfl, XBadScript.is, .inr ⟨_, rfl⟩, rfl, k3, ?_⟩
      walk_at "go"
      refine ⟨CBadScript, dd, _, _, rfl, XBadScript.xf, IBadScript.no, rfl, rfl, rfl, ?_⟩
      exact ⟨_, rfl⟩
    · subst e
      walk_at "go"
      exact q
/-! the law -/
theorem eds_all {E : List (List Str)} (h : ∀ e ∈ E, EdOkX e) (n : Nat) : (E.map edD).all (shw (n + 2)) = true := by
  rw [List.all_eq_true]
  intro x hx
  obtain ⟨e, he, rfl⟩ := List.mem_map.mp hx
  show (decide ((e.map Dt.str).length ≤ 100000) && (e.map Dt.str).all (shw (n + 1))) = true
  rw [Bool.and_eq_true]
  refine ⟨decide_eq_true ?_, List.all_eq_true.mpr fun y hy => let ⟨s, _, z⟩ := List.mem_map.mp hy; z ▸ rfl⟩
  rcases h e he with ⟨w, t, rfl, _⟩ | ⟨t, x, rfl, _⟩ <;> simp
theorem rep_mem {E : List (List Str)} {n : Nat} (h : ∀ e ∈ E, EdOkX e) : ∀ x ∈ (List.replicate n (E.map edD)).flatten, ∃ e, EdOkX e ∧ x = edD e := fun x hx => by
  obtain ⟨l, hl, hx⟩ := List.mem_flatten.mp hx
  rw [(List.mem_replicate.mp hl).2] at hx
  obtain ⟨e, he, rfl⟩ := List.mem_map.mp hx
  exact ⟨e, h e he, rfl⟩
theorem ok_law {CBadScript CNoNumber CTooMany CSlipError : Addr} {f : Addr} {fd : FuncData} (F : C8.Fun K "law" "law" slaw f fd) (T : Txt K mg) (XTooMany : XCl K mg "TooMany" CTooMany) (ITooMany : XIni P Tb.w K mg base CTooMany "limit") (em : PySem.W.exmOne K (.ref CTooMany) (.ref CTooMany) = some true)
    (G__law_box : Cal P Tb.w K mg base 1 "_law_box" (spBox K) []) (G__law_take : Cal P Tb.w K mg base 1 "_law_take" (spB K fsTake) []) (G__law_edits : Cal P Tb.w K mg base 4 "_law_edits" (spB K fsEditsB) []) (G__law_spoilt : Cal P Tb.w K mg base 1 "_law_spoilt" (spD K fsSpoil) [])
    (G__law_bad : Cal P Tb.w K mg base 6 "_law_bad" (spD K (fsBadX CBadScript CNoNumber CTooMany)) []) (GX_turned : CalX P Tb.w K mg base 5 "turned" (spX K (fsTurnX CBadScript CNoNumber CTooMany))) (G__law_same : Cal P Tb.w K mg base 7 "_law_same" (spD K (fsSame 6)) []) : FnOk P Tb.w K mg base C8.CX0 lawK f fd ["_law_script"] (spLaw K) := by
  have G_turned := GX_turned.calm
  refine C8.fn0 F sclaw (fun vs H Q E h => ?_) (fun cdv A outer s H vs Q E hr h => ?_)
  · obtain ⟨a, ns, rfl, _⟩ := h
    rfl
  · obtain ⟨a0, ns, rfl, hS, hlen, tk, q⟩ := h
    refine ⟨_, (pss_cons (ps_set (i := 1) sclaw.nd rfl (Or.inr rfl) (pe_c G__law_box hr (by decide) (by rfl) (pa_cons (pv 0) pa_nil))) (pss_data fun _ _ _ _ => (xss_cons (xs_set (ps_set (i := 2) sclaw.nd rfl (Or.inl rfl) (xr_cB (pe_c G__law_take hr (by decide) (by rfl) (pa_cons (pv 1) (xa_cons xe_int xa_nil))))))
      (xss_cons (xs_set (ps_set (i := 3) sclaw.nd rfl (Or.inl rfl) (xr_e (xe_cmp op_eq od_eqI (xe_r (xr_cB (pe_c G__law_take hr (by decide) (by rfl) (pa_cons (pv 1) (xa_cons xe_int xa_nil))))) xe_int (nomark _)))))
      (xss_cons (xs_set (ps_set (i := 4) sclaw.nd rfl (Or.inl rfl) (xr_e (xe_op op_add (od_I0 fun _ _ _ => .int _) xe_int (xe_r (xr_cB (pe_c G__law_take hr (by decide) (by rfl) (pa_cons (pv 1) (xa_cons xe_int xa_nil)))))))))
      (xss_cons (xs_set (ps_set (i := 5) sclaw.nd rfl (Or.inl rfl) (xr_cB (pe_c G__law_take hr (by decide) (by rfl) (pa_cons (pv 1) (xa_cons xe_int xa_nil))))))
      (xss_cons (xs_set (ps_set (i := 6) sclaw.nd rfl (Or.inl rfl) (xr_cB (pe_c G__law_take hr (by decide) (by rfl) (pa_cons (pv 1) (xa_cons xe_int xa_nil))))))
      (xss_cons (xs_set (ps_set (i := 7) sclaw.nd rfl (Or.inl rfl) (xr_cB (pe_c G__law_take hr (by decide) (by rfl) (pa_cons (pv 1) (xa_cons xe_int xa_nil))))))
      (xss_cons (xs_setLc (by simp) (ps_setLc (i := 8) (own := [("_law_count", 15)]) (by rfl) sclaw.nd rfl rfl (sw_true rfl rfl rfl (by decide +kernel)) (xi_rng1 (pi_range1 (by rfl) T.range (pa_cons xe_int pa_nil))) (blkOk_by (own := [("_law_count", 15)]) (N := Nlaw) (sc := fnScope slaw) (by decide +kernel)) (fun _ _ _ _ _ => (xg_name (pg_name (i := 15) sclaw.nd rfl (Or.inl rfl)))) (fun _ _ _ _ _ => xts_nil) (fun _ _ _ _ _ => (xe_r (xr_cB (pe_c G__law_edits hr (by decide) (by rfl) (pa_cons (pv 1) xa_nil)))))))
      (xss_cons (xs_cut (xs_if (xt_val (xe_v (pv 3))) (xss_one (xs_putL (i := 8) (ps_asg (xe_r (xr_cat (pe_op op_cat (xe_r (xr_list (pe_callTy call_list_of (by rfl) T.list (by decide +kernel) (xa_cons (xe_ix (xk_v (pv 8)) xe_int (fun _ _ => rfl)) xa_nil)))) (xe_r (xr_repL (pe_op op_rep (xe_r (xr_lst (xa_cons (xe_tup (xa_cons xe_str (xa_cons xe_str xa_nil))) xa_nil))) (xe_v (pv 4)))))))) (pg_sub (pv 8) xe_int set_list)))) xss_nil))
      (xss_cons (xs_cut (xs_set (ps_set (i := 9) sclaw.nd rfl (Or.inl rfl) (xr_cat (pe_op op_cat (xe_r (xr_cat (pe_op op_cat (xe_r (xr_list (pe_callTy call_list_of (by rfl) T.list (by decide +kernel) (xa_cons (xe_ix (xk_v (pv 8)) xe_int (fun _ _ => rfl)) xa_nil)))) (xe_r (xr_repL (pe_op op_rep (xe_r (xr_list (pe_callTy call_list_of (by rfl) T.list (by decide +kernel) (xa_cons (xe_ix (xk_v (pv 8)) xe_int (fun _ _ => rfl)) xa_nil)))) (xe_v (pv 2)))))))) (xe_r (xr_list (pe_callTy call_list_of (by rfl) T.list (by decide +kernel) (xa_cons (xe_ix (xk_v (pv 8)) xe_int (fun _ _ => rfl)) xa_nil)))))))))
      (xss_cons (xs_cut (xs_set (ps_set (i := 10) sclaw.nd rfl (Or.inl rfl) (xr_lst (xa_cons (xe_r (xr_list (pe_callTy call_list_of (by rfl) T.list (by decide +kernel) (xa_cons (xe_ix (xk_v (pv 8)) xe_int (fun _ _ => rfl)) xa_nil)))) (xa_cons (xe_r (xr_list (pe_callTy call_list_of (by rfl) T.list (by decide +kernel) (xa_cons (xe_ix (xk_v (pv 8)) xe_int (fun _ _ => rfl)) xa_nil)))) (xa_cons (xe_tupOf (pe_callTy call_tuple_of (by rfl) T.tuple (by decide +kernel) (xa_cons (xe_ix (xk_v (pv 8)) xe_int (fun _ _ => rfl)) xa_nil))) xa_nil)))))))
      (xss_cons (xs_set (ps_set (i := 11) sclaw.nd rfl (Or.inl rfl) (xr_e xe_int)))
      (xss_cons (xs_set (ps_set (i := 12) sclaw.nd rfl (Or.inl rfl) (xr_lst xa_nil)))
      (xss_cons (xs_cut (xs_try (n := "e") (i := 13) rfl rfl sclaw.nd rfl rfl ⟨rfl, by decide, Or.inl XTooMany.g⟩ (fun _ _ _ _ _ tk => (xssx_one (xsx_set (ps_set (i := 12) sclaw.nd rfl (Or.inl rfl) (xrx_call GX_turned hr (by decide) (by rfl) tk (xax_n (xa_cons (xe_ix (xk_v (pv 10)) xe_int (fun _ _ => rfl)) (xa_cons (xe_ix (xk_v (pv 10)) xe_int (fun _ _ => rfl)) (xa_cons (xe_ix (xk_v (pv 10)) xe_int (fun _ _ => rfl)) (xa_cons (xe_v (pv 2)) xa_nil)))))))))) (fun a oe cls d pn hz hf => (xss_one (xs_set (ps_set (i := 11) sclaw.nd rfl (Or.inl rfl) (xr_e (xe_xf hz hf (pv 13)))))))))
      (xss_cons (xs_if (xt_cmp op_gt (od_I0 fun _ _ _ => .bl _) (xe_len (pe_callB call_lenA (by rfl) T.len PySem.boot_len (pa_cons (xk_v (pv 9)) pa_nil))) xe_int (nomark _)) (xss_one (xs_ret (xr_c (pe_c G__law_same hr (by decide) (by rfl) (xa_cons (xe_v (pv 11)) (xa_cons xe_int xa_nil)))))) xss_nil)
      (xss_cons (xs_if (PW.pt (xw_or (xt_cmp op_ne od_neI (xe_v (pv 11)) xe_int (nomark _)) (xw_or1 (xt_not (xt_val (xe_r (xr_e (xe_lend (pe_c G__law_same hr (by decide) (by rfl) (xl_v (i := 12) (pv 12) (xl_v (i := 9) (pv 9) xl_nil))))))))))) (xss_one (xs_ret (xr_e xe_bl))) xss_nil)
      (xss_cons (xs_expr (xr_e (xe_clr (i := 12) (pe_bm0 PySem.F.plainAttrs_list PySem.F.slot_list_clear PySem.F.type_list_clear mt_clear (pv 12)))))
      (xss_cons (xs_if (PW.pt (xw_or (xt_not (xt_val (xe_r (xr_e (xe_lend (pe_c G__law_same hr (by decide) (by rfl) (xl_d (xe_r (xr_c (pe_c G_turned hr (by decide) (by rfl) (xa_cons (xe_ix (xk_v (pv 10)) xe_int (fun _ _ => rfl)) (xa_cons (xe_ix (xk_v (pv 10)) xe_int (fun _ _ => rfl)) (xa_cons (xe_ix (xk_v (pv 10)) xe_int (fun _ _ => rfl)) (xa_cons (xe_v (pv 2)) xa_nil))))))) (xl_v (i := 9) (pv 9) xl_nil)))))))) (xw_or1 (xt_cmp op_ne od_neI (xe_len (pe_callB call_lenA (by rfl) T.len PySem.boot_len (pa_cons (xk_e (xe_ix (xk_v (pv 10)) xe_int (fun _ _ => rfl))) pa_nil))) (xe_len (pe_callB call_lenA (by rfl) T.len PySem.boot_len (pa_cons (xk_e (xe_ix (xk_v (pv 8)) xe_int (fun _ _ => rfl))) pa_nil))) (nomark _))))) (xss_one (xs_ret (xr_e xe_bl))) xss_nil)
      (xss_cons (xs_asg (ps_asg (xe_r (xr_c (pe_c G__law_spoilt hr (by decide) (by rfl) (xa_cons (xe_r (xr_list (pe_callTy call_list_of (by rfl) T.list (by decide +kernel) (xa_cons (xe_ix (xk_v (pv 8)) (xe_v (pv 5)) (fun _ _ => rfl)) xa_nil)))) (xa_cons (xe_v (pv 6)) (xa_cons (xe_min2 (pe_callB (call_min2 rfl) (by rfl) T.min (by decide +kernel) (xa_cons (xe_v (pv 7)) (xa_cons (xe_len (pe_callB call_lenA (by rfl) T.len PySem.boot_len (pa_cons (xk_e (xe_ix (xk_v (pv 8)) (xe_v (pv 5)) (fun _ _ => rfl))) pa_nil))) xa_nil)))) xa_nil)))))) (xg_tup (pg_tup (n := 2) rfl (xgs_cons (xg_subL (i := 10) (pg_sub (pv 10) (xe_v (pv 5)) set_list)) (xgs_cons (xg_name (pg_name (i := 14) sclaw.nd rfl (Or.inl rfl))) (xgs_nil pgs_nil) (pgs_cons (xg_name (pg_name (i := 14) sclaw.nd rfl (Or.inl rfl))) (xgs_nil pgs_nil))) (pgs_cons (xg_subL (i := 10) (pg_sub (pv 10) (xe_v (pv 5)) set_list)) (xgs_cons (xg_name (pg_name (i := 14) sclaw.nd rfl (Or.inl rfl))) (xgs_nil pgs_nil) (pgs_cons (xg_name (pg_name (i := 14) sclaw.nd rfl (Or.inl rfl))) (xgs_nil pgs_nil)))))))))
      (xss_cons (xs_cut (xs_if (xt_cmp op_lt (od_I0 fun _ _ _ => .bl _) (xe_v (pv 5)) xe_int (nomark _)) (xss_one (xs_putL (i := 10) (ps_asg (xe_r (xr_cat (pe_op op_cat (xe_r (xr_lst (xa_cons xe_non xa_nil))) (xe_r (xr_list (pe_callTy call_list_of (by rfl) T.list (by decide +kernel) (xa_cons (xe_ix (xk_v (pv 8)) xe_int (fun _ _ => rfl)) xa_nil))))))) (pg_sub (pv 10) xe_int set_list)))) xss_nil))
      (xss_one (xs_ret (xr_e (xe_and (xe_r (xr_c (pe_c G__law_same hr (by decide) (by rfl) (xa_cons (xe_r (xr_c (pe_c G__law_bad hr (by decide) (by rfl) (xa_cons (xe_v (pv 10)) (xa_cons (xe_v (pv 2)) xa_nil))))) (xa_cons (xe_v (pv 14)) xa_nil))))) (xe_one (xe_r (xr_c (pe_c G__law_same hr (by decide) (by rfl) (xa_cons (xe_r (xr_c (pe_c G__law_bad hr (by decide) (by rfl) (xa_cons (xe_v (pv 10)) (xa_cons xe_non xa_nil))))) (xa_cons (xe_v (pv 14)) xa_nil))))))))))))))))))))))))))))))), ?_⟩
    refine ⟨_, rfl, a0, ns, rfl, hS, fun H1 p l mx s1 np npl hp hc => law_startB (m := 14) rfl rfl hp hc npl (tk.same s1) q ?_⟩
    walk_at "go"
    refine ⟨⟨ns, 0, 0, mx, 0, rfl, Int.le_refl 0⟩, 9, rfl, by decide, by decide, fun kv1 tn bo1 tn0 tn1 => ?_⟩
    walk_at "go"
    refine ⟨bo1, 3, rfl, by decide, by decide, fun kv2 lg bo2 _ _ => ?_⟩
    walk_at "go"
    refine ⟨bo2, 41, rfl, by decide, by decide, fun kv3 more bo3 mo0 mo1 => ?_⟩
    walk_at "go"
    refine ⟨bo3, 3, rfl, by decide, by decide, fun kv4 kk bo4 kk0 kk1 => ?_⟩
    walk_at "go"
    refine ⟨bo4, 9, rfl, by decide, by decide, fun kv5 pk bo5 pk0 pk1 => ?_⟩
    walk_at "go"
    refine ⟨bo5, 41, rfl, by decide, by decide, fun kv6 at_ bo6 at0 at1 => ?_⟩
    walk_at "go"
    refine ⟨3, rfl, by decide, fun i ε rs => ∃ kv, BoxOk kv ∧ rs.length = i ∧ (∀ d ∈ rs, ∃ E, EdsD E d ∧ E.length ≤ 40) ∧ ε = [.un, .od p .k kv, .fz (.int tn), .fz (.bl (decide (lg = 0))), .fz (.int (600 + more)), .fz (.int kk), .fz (.int pk), .fz (.int at_), .un, .un, .un, .un, .un, .un, .un, .un], ⟨kv6, bo6, rfl, fun _ z => (nomatch z), rfl⟩, fun i d ε rs hd hI => ?_, fun ε rs hI => ?_⟩
    · obtain ⟨kv, bo, lr, hE, rfl⟩ := hI
      have hi : i < 3 := by
        have := (List.getElem?_eq_some_iff.mp hd).1
        rwa [List.length_map, List.length_range] at this
      walk_at "go"
      refine ⟨bo, rfl, fun kv' E d bo' lE ok => ?_⟩
      refine ⟨by omega, kv', bo', by rw [List.length_append, lr]; rfl, fun x hx => ?_, rfl⟩
      rcases List.mem_append.mp hx with hx | hx
      · exact hE x hx
      · rw [List.mem_singleton.mp hx]; exact ⟨E, ok, lE⟩
    · obtain ⟨kv, bo, lr, hE, rfl⟩ := hI
      obtain ⟨d0, d1, d2, rfl⟩ : ∃ d0 d1 d2, rs = [d0, d1, d2] := by
        match rs, lr with
        | [a, b, c], _ => exact ⟨_, _, _, rfl⟩
      obtain ⟨E0, h0, l0⟩ := hE d0 (by simp)
      obtain ⟨E1, h1, l1⟩ := hE d1 (by simp)
      obtain ⟨E2, h2, l2⟩ := hE d2 (by simp)
      have i1 : atI [d0, d1, d2] 1 = some d1 := rfl
      intro a8
      refine ⟨fun ε => ∃ (E : List (List Str)) (d : Dt), EdsD E d ∧ E.length ≤ 700 ∧ ε = [.un, .od p .k kv, .fz (.int tn), .fz (.bl (decide (lg = 0))), .fz (.int (600 + more)), .fz (.int kk), .fz (.int pk), .fz (.int at_), .ol a8 [d0, d, d2], .un, .un, .un, .un, .un, .un, .un], ?_, fun ε hJ => ?_⟩
      · walk_at "go"
        refine ifDec (fun hl => ?_) (fun hl => ?_)
        · have ei1 := h1.items
          walk_at "go"
          refine list_ans ei1 ?_
          walk_at "go"
          refine ⟨_, _, rfl, rfl, by omega, by omega, by show 1 * _ ≤ _; omega, ?_⟩
          have fr : (List.replicate (600 + more).toNat [Dt.tup [.str "drop", .str "a"]]).flatten = (List.replicate (600 + more).toNat [("drop" : Str), "a"]).map edD := by rw [List.flatten_replicate_singleton, List.map_replicate]; rfl
          rw [fr]
          refine ⟨_, _, rfl, rfl, by rw [List.length_map, List.length_map, List.length_replicate]; omega, ?_⟩
          walk_at "go"
          refine ⟨a8, _, 1, 1, rfl, rfl, rfl, ?_⟩
          refine ⟨E1 ++ List.replicate (600 + more).toNat [("drop" : Str), "a"], _, ⟨fun e he => ?_, .inl rfl⟩, by rw [List.length_append, List.length_replicate]; omega, by rw [List.map_append]; rfl⟩
          rcases List.mem_append.mp he with he | he
          · exact h1.1 e he
          · rw [(List.mem_replicate.mp he).2]
            exact .inl ⟨_, _, rfl, .inr (.inl rfl), by decide +kernel⟩
        · exact ⟨E1, d1, h1, by omega, rfl⟩
      · obtain ⟨E, d, hd, lE, rfl⟩ := hJ
        have ei0 := h0.items
        have ei1 := hd.items
        have ei2 := h2.items
        have i0 : atI [d0, d, d2] 0 = some d0 := rfl
        have i1 : atI [d0, d, d2] 1 = some d := rfl
        have i2 : atI [d0, d, d2] 2 = some d2 := rfl
        obtain ⟨D, hD⟩ : ∃ D, D = E0.map edD ++ (List.replicate tn.toNat (E.map edD)).flatten ++ E2.map edD := ⟨_, rfl⟩
        have lr : (List.replicate tn.toNat (E.map edD)).flatten.length ≤ 5600 := by
          rw [List.length_flatten, List.map_replicate, List.sum_replicate_nat, List.length_map]
          calc tn.toNat * E.length ≤ 8 * 700 := Nat.mul_le_mul (by omega) lE
            _ = 5600 := rfl
        have lD : D.length ≤ 6000 := by rw [hD, List.length_append, List.length_append, List.length_map, List.length_map]; omega
        have mD : ∀ x ∈ D, ∃ e, EdOkX e ∧ x = edD e := fun x hx => by
          rw [hD] at hx
          rcases List.mem_append.mp hx with hx | hx
          · rcases List.mem_append.mp hx with hx | hx
            · obtain ⟨e, he, rfl⟩ := List.mem_map.mp hx
              exact ⟨e, h0.1 e he, rfl⟩
            · exact rep_mem hd.1 x hx
          · obtain ⟨e, he, rfl⟩ := List.mem_map.mp hx
            exact ⟨e, h2.1 e he, rfl⟩
        have sD : shw 6 (.lst D) = true := by
          show (decide (D.length ≤ 100000) && D.all (shw 5)) = true
          rw [decide_eq_true (by omega), Bool.true_and, List.all_eq_true]
          intro x hx
          obtain ⟨e, he, rfl⟩ := mD x hx
          exact List.all_eq_true.mp (eds_all (E := [e]) (fun y hy => by rw [List.mem_singleton.mp hy]; exact he) 3) _ (by simp)
        refine ⟨fun ε => ∃ a9, ε = [.un, .od p .k kv, .fz (.int tn), .fz (.bl (decide (lg = 0))), .fz (.int (600 + more)), .fz (.int kk), .fz (.int pk), .fz (.int at_), .ol a8 [d0, d, d2], .ol a9 D, .un, .un, .un, .un, .un, .un], ?_, fun ε hJ => ?_⟩
        · walk_at "go"
          refine list_ans ei0 ?_
          walk_at "go"
          refine list_ans ei1 ?_
          walk_at "go"
          refine ⟨_, tn, rfl, rfl, tn0, by omega, ?_, ?_⟩
          · rw [List.length_map]
            calc E.length * tn.toNat ≤ 700 * 8 := Nat.mul_le_mul lE (by omega)
              _ ≤ 100000 := by decide
          refine ⟨_, _, rfl, rfl, by rw [List.length_map]; omega, ?_⟩
          walk_at "go"
          refine list_ans ei2 ?_
          refine ⟨_, _, rfl, rfl, by rw [List.length_append, List.length_map, List.length_map]; omega, ?_⟩
          rw [← hD]
          exact fun a9 => ⟨a9, rfl⟩
        · obtain ⟨a9, rfl⟩ := hJ
          refine ⟨fun ε => ∃ a10, ε = [.un, .od p .k kv, .fz (.int tn), .fz (.bl (decide (lg = 0))), .fz (.int (600 + more)), .fz (.int kk), .fz (.int pk), .fz (.int at_), .ol a8 [d0, d, d2], .ol a9 D, .ol a10 [.lst (E0.map edD), .lst (E.map edD), .tup (E2.map edD)], .un, .un, .un, .un, .un], ?_, fun ε hJ => ?_⟩
          · walk_at "go"
            refine list_ans ei0 ?_
            walk_at "go"
            refine list_ans ei1 ?_
            walk_at "go"
            refine ⟨d2, _, rfl, ei2, fun ys z => (by rcases h2.2 with e | e <;> rw [e] at z <;> cases z), ?_⟩
            walk_at "go"
            exact fun a10 => ⟨a10, rfl⟩
          · obtain ⟨a10, rfl⟩ := hJ
            have g0 := eds_sc (d := .lst (E0.map edD)) h0.1 (by omega) (.inl rfl)
            have g1 := eds_sc (d := .lst (E.map edD)) hd.1 (by omega) (.inl rfl)
            have g2 := eds_sc (d := .tup (E2.map edD)) h2.1 (by omega) (.inr rfl)
            have btw : btwB (.int tn) 0 8 = true := by show (decide (0 ≤ tn) && decide (tn ≤ 8)) = true; rw [decide_eq_true tn0, decide_eq_true (by omega)]; rfl
            have out : turnO CBadScript CNoNumber CTooMany (.lst (E0.map edD)) (.lst (E.map edD)) (.tup (E2.map edD)) (.int tn) = if 5000 < D.length then .exc ⟨CTooMany, some [("limit", .int 5000)]⟩ else .ret (.ol D) := by
              unfold turnO
              rw [g0.2.1, g1.2.1, g2.2.1, btw, g0.2.2, g1.2.2, g2.2.2, hD]
            have j0 : atI [Dt.lst (E0.map edD), .lst (E.map edD), .tup (E2.map edD)] 0 = some (.lst (E0.map edD)) := rfl
            have j1 : atI [Dt.lst (E0.map edD), .lst (E.map edD), .tup (E2.map edD)] 1 = some (.lst (E.map edD)) := rfl
            have j2 : atI [Dt.lst (E0.map edD), .lst (E.map edD), .tup (E2.map edD)] 2 = some (.tup (E2.map edD)) := rfl
            have vn : VOk (.int tn) := vok_of rfl rfl
            walk_at "go"
            intro a12
            refine ⟨fun ε => ∃ a12 t13, (5000 < D.length ∧ ε = [.un, .od p .k kv, .fz (.int tn), .fz (.bl (decide (lg = 0))), .fz (.int (600 + more)), .fz (.int kk), .fz (.int pk), .fz (.int at_), .ol a8 [d0, d, d2], .ol a9 D, .ol a10 [.lst (E0.map edD), .lst (E.map edD), .tup (E2.map edD)], .fz (.int 5000), .ol a12 [], t13, .un, .un]) ∨
              (D.length ≤ 5000 ∧ ε = [.un, .od p .k kv, .fz (.int tn), .fz (.bl (decide (lg = 0))), .fz (.int (600 + more)), .fz (.int kk), .fz (.int pk), .fz (.int at_), .ol a8 [d0, d, d2], .ol a9 D, .ol a10 [.lst (E0.map edD), .lst (E.map edD), .tup (E2.map edD)], .fz (.int 0), .ol a12 D, t13, .un, .un]), ?_, fun ε hJ => ?_⟩
            · unfold kTry
              walk_at "go"
              refine ⟨_, _, _, _, rfl, g0.1, g1.1, g2.1, vn, ?_⟩
              rw [out]
              by_cases hl : 5000 < D.length
              · rw [if_pos hl]
                refine ⟨true, em, rfl, fun ax dx _ hdx => ?_⟩
                obtain ⟨dd, rfl⟩ := hdx _ rfl
                refine ⟨CTooMany, dd, _, _, rfl, XTooMany.xf, ITooMany.no, rfl, rfl, rfl, ?_⟩
                exact ⟨a12, _, .inl ⟨hl, rfl⟩⟩
              · rw [if_neg hl]
                intro a13
                exact ⟨a13, _, .inr ⟨by omega, rfl⟩⟩
            · obtain ⟨a12, t13, hJ⟩ := hJ
              rcases hJ with ⟨hl, rfl⟩ | ⟨hl, rfl⟩
              · walk_at "go"
                refine ifDec (fun hh => ?_) (fun hh => (hh (by omega)).elim)
                walk_at "go"
                exact ⟨rfl, rfl⟩
              · walk_at "go"
                refine ifDec (fun hh => (by omega)) (fun hh => ?_)
                walk_at "go"
                refine ⟨sD, ?_⟩
                walk_at "go"
                refine ⟨rfl, ?_⟩
                walk_at "go"
                refine ⟨a12, _, rfl, ?_⟩
                walk_at "go"
                refine ⟨_, _, _, _, rfl, g0.1, g1.1, g2.1, vn, ?_⟩
                rw [out, if_neg (by omega)]
                walk_at "go"
                refine ⟨sD, ?_⟩
                walk_at "go"
                refine ⟨rfl, ?_⟩
                have ln0 : lenD d0 = some (E0.map edD).length := by rcases h0.2 with e | e <;> rw [e] <;> rfl
                have ln1 : lenD d = some (E.map edD).length := by rcases hd.2 with e | e <;> rw [e] <;> rfl
                have ln2 : lenD d2 = some (E2.map edD).length := by rcases h2.2 with e | e <;> rw [e] <;> rfl
                walk_at "go"
                refine ⟨d0, _, rfl, ln0, ?_⟩
                walk_at "go"
                refine iteN (by simp) ?_
                have z2 : ScOk (.lst (.non :: E2.map edD)) := ⟨⟨rfl, fun s z => (nomatch z)⟩, fun xs z => (nomatch z), fun xs z => by
                  cases z
                  refine ⟨by rw [List.length_cons, List.length_map]; omega, fun x hx => ?_⟩
                  rcases List.mem_cons.mp hx with rfl | hx
                  · exact ⟨vok_of rfl rfl, fun _ z => (nomatch z), fun _ z => (nomatch z)⟩
                  · obtain ⟨e, he, rfl⟩ := List.mem_map.mp hx
                    exact eok_ok (h2.1 e he)⟩
                obtain rfl | rfl | rfl : kk = 0 ∨ kk = 1 ∨ kk = 2 := by omega
                · walk_at "go"
                  refine list_ans ei0 ?_
                  walk_at "go"
                  refine ⟨d0, _, rfl, ln0, ?_⟩
                  walk_at "go"
                  refine ⟨_, ⟨at_, _, rfl, rfl⟩, ?_⟩
                  refine ⟨E0, pk, _, rfl, h0.1, by omega, pk0, by omega, by split <;> omega, by rw [List.length_map]; split <;> omega, fun v pp pv sv => ?_⟩
                  walk_at "go"
                  refine ⟨a10, _, 0, 0, rfl, rfl, rfl, ?_⟩
                  walk_at "go"
                  refine ⟨fun ε => ∃ t13, ε = [.un, .od p .k kv, .fz (.int tn), .fz (.bl (decide (lg = 0))), .fz (.int (600 + more)), .fz (.int 0), .fz (.int pk), .fz (.int at_), .ol a8 [d0, d, d2], .ol a9 D, .ol a10 [v, .lst (E.map edD), .lst (.non :: E2.map edD)], .fz (.int 0), .ol a12 [], t13, .fz (.int pp), .un], ?_, fun ε hJ => ?_⟩
                  · walk_at "go"
                    refine list_ans ei2 ?_
                    refine ⟨_, _, rfl, rfl, by rw [List.length_map]; show 1 + _ ≤ 100000; omega, ?_⟩
                    walk_at "go"
                    refine ⟨a10, _, 2, 2, rfl, rfl, rfl, ?_⟩
                    exact ⟨_, rfl⟩
                  · obtain ⟨t13, rfl⟩ := hJ
                    have ex : ∀ n, turnO CBadScript CNoNumber CTooMany (v) (.lst (E.map edD)) (.lst (.non :: E2.map edD)) n = .exc ⟨CBadScript, some [("place", .int pp)]⟩ := fun n => by
                      unfold turnO
                      rw [pv]
                    walk_at "go"
                    refine ⟨_, _, _, _, pp, rfl, sv, g1.1, z2, vn, ex _, ?_⟩
                    walk_at "go"
                    refine ⟨rfl, ?_⟩
                    walk_at "go"
                    refine ⟨_, _, _, _, pp, rfl, sv, g1.1, z2, vok_of rfl rfl, ex _, ?_⟩
                    walk_at "go"
                    refine ⟨rfl, ?_⟩
                    rfl
                · walk_at "go"
                  refine list_ans ei1 ?_
                  walk_at "go"
                  refine ⟨d, _, rfl, ln1, ?_⟩
                  walk_at "go"
                  refine ⟨_, ⟨at_, _, rfl, rfl⟩, ?_⟩
                  refine ⟨E, pk, _, rfl, hd.1, by omega, pk0, by omega, by split <;> omega, by rw [List.length_map]; split <;> omega, fun v pp pv sv => ?_⟩
                  walk_at "go"
                  refine ⟨a10, _, 1, 1, rfl, rfl, rfl, ?_⟩
                  walk_at "go"
                  refine ⟨fun ε => ∃ t13, ε = [.un, .od p .k kv, .fz (.int tn), .fz (.bl (decide (lg = 0))), .fz (.int (600 + more)), .fz (.int 1), .fz (.int pk), .fz (.int at_), .ol a8 [d0, d, d2], .ol a9 D, .ol a10 [.lst (E0.map edD), v, .lst (.non :: E2.map edD)], .fz (.int 0), .ol a12 [], t13, .fz (.int pp), .un], ?_, fun ε hJ => ?_⟩
                  · walk_at "go"
                    refine list_ans ei2 ?_
                    refine ⟨_, _, rfl, rfl, by rw [List.length_map]; show 1 + _ ≤ 100000; omega, ?_⟩
                    walk_at "go"
                    refine ⟨a10, _, 2, 2, rfl, rfl, rfl, ?_⟩
                    exact ⟨_, rfl⟩
                  · obtain ⟨t13, rfl⟩ := hJ
                    have ex : ∀ n, turnO CBadScript CNoNumber CTooMany (.lst (E0.map edD)) (v) (.lst (.non :: E2.map edD)) n = .exc ⟨CBadScript, some [("place", .int pp)]⟩ := fun n => by
                      unfold turnO
                      rw [g0.2.1, pv]
                    walk_at "go"
                    refine ⟨_, _, _, _, pp, rfl, g0.1, sv, z2, vn, ex _, ?_⟩
                    walk_at "go"
                    refine ⟨rfl, ?_⟩
                    walk_at "go"
                    refine ⟨_, _, _, _, pp, rfl, g0.1, sv, z2, vok_of rfl rfl, ex _, ?_⟩
                    walk_at "go"
                    refine ⟨rfl, ?_⟩
                    rfl
                · walk_at "go"
                  refine list_ans ei2 ?_
                  walk_at "go"
                  refine ⟨d2, _, rfl, ln2, ?_⟩
                  walk_at "go"
                  refine ⟨_, ⟨at_, _, rfl, rfl⟩, ?_⟩
                  refine ⟨E2, pk, _, rfl, h2.1, by omega, pk0, by omega, by split <;> omega, by rw [List.length_map]; split <;> omega, fun v pp pv sv => ?_⟩
                  walk_at "go"
                  refine ⟨a10, _, 2, 2, rfl, rfl, rfl, ?_⟩
                  walk_at "go"
                  refine ⟨fun ε => ∃ t13, ε = [.un, .od p .k kv, .fz (.int tn), .fz (.bl (decide (lg = 0))), .fz (.int (600 + more)), .fz (.int 2), .fz (.int pk), .fz (.int at_), .ol a8 [d0, d, d2], .ol a9 D, .ol a10 [.lst (E0.map edD), .lst (E.map edD), v], .fz (.int 0), .ol a12 [], t13, .fz (.int pp), .un], ?_, fun ε hJ => ?_⟩
                  · walk_at "go"
                    exact ⟨_, rfl⟩
                  · obtain ⟨t13, rfl⟩ := hJ
                    have ex : ∀ n, turnO CBadScript CNoNumber CTooMany (.lst (E0.map edD)) (.lst (E.map edD)) (v) n = .exc ⟨CBadScript, some [("place", .int pp)]⟩ := fun n => by
                      unfold turnO
                      rw [g0.2.1, g1.2.1, pv]
                    walk_at "go"
                    refine ⟨_, _, _, _, pp, rfl, g0.1, g1.1, sv, vn, ex _, ?_⟩
                    walk_at "go"
                    refine ⟨rfl, ?_⟩
                    walk_at "go"
                    refine ⟨_, _, _, _, pp, rfl, g0.1, g1.1, sv, vok_of rfl rfl, ex _, ?_⟩
                    walk_at "go"
                    refine ⟨rfl, ?_⟩
                    rfl
theorem law_all {CBadScript CNoNumber CTooMany CSlipError : Addr} {f : Addr} {fd : FuncData} (F : C8.Fun K "law" "law" slaw f fd) (T : Txt K mg) (XSlipError : XCl K mg "SlipError" CSlipError) (QSlipError : XBare K CSlipError) (XBadScript : XCl K mg "BadScript" CBadScript) (DXBadScript : XDk K CBadScript "BadScript.__init__" sBadScript___init__ "place") (XTooMany : XCl K mg "TooMany" CTooMany) (DXTooMany : XDk K CTooMany "TooMany.__init__" sTooMany___init__ "limit") (XNoNumber : XCl K mg "NoNumber" CNoNumber) (QNoNumber : XBare K CNoNumber) (em_TooMany_TooMany : PySem.W.exmOne K (.ref CTooMany) (.ref CTooMany) = some true) (em_BadScript_BadScript : PySem.W.exmOne K (.ref CBadScript) (.ref CBadScript) = some true) (ki_BadScript_SlipError : PySem.W.kitOne K (.ref CBadScript) (.ref CSlipError) = some true) (ki_BadScript_ValueError : PySem.W.kitOne K (.ref CBadScript) (.type "ValueError") = some true) (ki_BadScript_TooMany : PySem.W.kitOne K (.ref CBadScript) (.ref CTooMany) = some false) (Dis_integer : Dn K mg "is_integer" sis_integer ["value"]) (Dis_integer_between : Dn K mg "is_integer_between" sis_integer_between ["value", "least", "most"]) (Dis_name : Dn K mg "is_name" sis_name ["value"]) (Dcheck_script : Dn K mg "check_script" scheck_script ["script"]) (Dbad_edit_place : Dn K mg "bad_edit_place" sbad_edit_place ["script"]) (Dis_edit : Dn K mg "is_edit" sis_edit ["value"]) (Dturned : Dn K mg "turned" sturned ["ahead", "turn", "behind", "n"]) (D_law_same : Dn K mg "_law_same" s_law_same ["_law_actual", "_law_due"]) (D_law_box : Dn K mg "_law_box" s_law_box ["_law_script"]) (D_law_take : Dn K mg "_law_take" s_law_take ["_law_box_here", "_law_many"]) (D_law_name : Dn K mg "_law_name" s_law_name ["_law_box_here", "_law_taken"]) (D_law_edit : Dn K mg "_law_edit" s_law_edit ["_law_box_here"]) (D_law_edits : Dn K mg "_law_edits" s_law_edits ["_law_box_here"]) (D_law_bad : Dn K mg "_law_bad" s_law_bad ["_law_parts", "_law_turns"]) (D_law_spoilt : Dn K mg "_law_spoilt" s_law_spoilt ["_law_edits_here", "_law_pick", "_law_at"]) : FnOk P Tb.w K mg base C8.CX0 lawK f fd ["_law_script"] (spLaw K) := by
  have Gi : Cal P Tb.w K mg base 1 "is_name" (spD K fsNm) [] := br_is_nameA (ok_is_nameA Dis_name T)
  have Ge := do_is_edit Dis_edit T Gi
  have Gb := do_bad_edit_place Dbad_edit_place T Ge
  have IBadScript : XIni P Tb.w K mg base CBadScript "place" := init_BadScript XBadScript DXBadScript
  have ITooMany : XIni P Tb.w K mg base CTooMany "limit" := init_TooMany XTooMany DXTooMany
  have GXc := dox_check_script Dcheck_script T XBadScript IBadScript Gb
  have Gii : Cal P Tb.w K mg base 1 "is_integer" (spD K fsInt) [] := do_is_integerV Dis_integer T
  have Gib := do_is_integer_betweenV Dis_integer_between T Gii
  have GXt := dox_turned Dturned T XNoNumber QNoNumber XTooMany ITooMany GXc Gib
  have Bbx : Cal P Tb.w K mg base 1 "_law_box" (spBox K) [] := ok_law_box D_law_box T
  have Btk : Cal P Tb.w K mg base 1 "_law_take" (spB K fsTake) [] := do_law_take D_law_take T
  have Bnm := do_law_nameB D_law_name T Btk
  have Bed := do_law_editB D_law_edit T Btk Bnm
  have Bes := do_law_editsB D_law_edits T Btk Bed
  have Bsp : Cal P Tb.w K mg base 1 "_law_spoilt" (spD K fsSpoil) [] := do_law_spoilt D_law_spoilt T
  have Bbd := do_law_bad D_law_bad T XBadScript IBadScript XSlipError XTooMany em_BadScript_BadScript ki_BadScript_SlipError ki_BadScript_ValueError ki_BadScript_TooMany GXt
  have Bsm : Cal P Tb.w K mg base 7 "_law_same" (spD K (fsSame 6)) [] := do_law_sameB D_law_same T 6
  exact ok_law (CSlipError := CSlipError) F T XTooMany ITooMany em_TooMany_TooMany Bbx Btk Bes Bsp Bbd GXt Bsm
end
end Sv
namespace Sv
open PySem PySem.Spec PyProof.Rows L2
open C8 (Cal Mak Met cal0 mak0 met0 pe_c pe_mk pe_mt pe_mt0 fnBody fnArgs fnScope scC fnScope_by pe_gc InsC call_isC)
theorem all_mk {l : PySem.W.OpenLaw} {w : World} {K : PySem.W.Frag} {h : Heap} {mg : Str → Option Value} {fa : Addr} (X : K.In h) (G : h.Ns mainGlobals mg) (hfa : mg "law" = some (.ref fa))
    {oc0 kV0 dc0 pm0 ct0 : Value}
    {od0 an0 : Option Addr}
    {sl0 : Array (Option Value)}
    {f0 cA0 : Addr}
    (l0 : K.lookup f0 = some ⟨oc0, od0, .func (PySem.W.fnOf "is_integer" "is_integer" (fnArgs sis_integer) (fnBody sis_integer) (fnScope sis_integer) .none kV0 dc0 pm0 an0 (.ref cA0) ct0), sl0⟩)
    (c0 : PySem.W.codeIn K (.ref cA0) "is_integer" = true)
    (a0 : PySem.W.nsIn K mainGlobals "is_integer" = some (some (.ref f0)))
    (k0 : PySem.W.keepIn K (.ref f0) = true)
    {oc1 kV1 dc1 pm1 ct1 : Value}
    {od1 an1 : Option Addr}
    {sl1 : Array (Option Value)}
    {f1 cA1 : Addr}
    (l1 : K.lookup f1 = some ⟨oc1, od1, .func (PySem.W.fnOf "is_integer_between" "is_integer_between" (fnArgs sis_integer_between) (fnBody sis_integer_between) (fnScope sis_integer_between) .none kV1 dc1 pm1 an1 (.ref cA1) ct1), sl1⟩)
    (c1 : PySem.W.codeIn K (.ref cA1) "is_integer_between" = true)
    (a1 : PySem.W.nsIn K mainGlobals "is_integer_between" = some (some (.ref f1)))
    (k1 : PySem.W.keepIn K (.ref f1) = true)
    {oc2 kV2 dc2 pm2 ct2 : Value}
    {od2 an2 : Option Addr}
    {sl2 : Array (Option Value)}
    {f2 cA2 : Addr}
    (l2 : K.lookup f2 = some ⟨oc2, od2, .func (PySem.W.fnOf "is_name" "is_name" (fnArgs sis_name) (fnBody sis_name) (fnScope sis_name) .none kV2 dc2 pm2 an2 (.ref cA2) ct2), sl2⟩)
    (c2 : PySem.W.codeIn K (.ref cA2) "is_name" = true)
    (a2 : PySem.W.nsIn K mainGlobals "is_name" = some (some (.ref f2)))
    (k2 : PySem.W.keepIn K (.ref f2) = true)
    {oc3 kV3 dc3 pm3 ct3 : Value}
    {od3 an3 : Option Addr}
    {sl3 : Array (Option Value)}
    {f3 cA3 : Addr}
    (l3 : K.lookup f3 = some ⟨oc3, od3, .func (PySem.W.fnOf "check_script" "check_script" (fnArgs scheck_script) (fnBody scheck_script) (fnScope scheck_script) .none kV3 dc3 pm3 an3 (.ref cA3) ct3), sl3⟩)
    (c3 : PySem.W.codeIn K (.ref cA3) "check_script" = true)
    (a3 : PySem.W.nsIn K mainGlobals "check_script" = some (some (.ref f3)))
    (k3 : PySem.W.keepIn K (.ref f3) = true)
    {oc4 kV4 dc4 pm4 ct4 : Value}
    {od4 an4 : Option Addr}
    {sl4 : Array (Option Value)}
    {f4 cA4 : Addr}
    (l4 : K.lookup f4 = some ⟨oc4, od4, .func (PySem.W.fnOf "bad_edit_place" "bad_edit_place" (fnArgs sbad_edit_place) (fnBody sbad_edit_place) (fnScope sbad_edit_place) .none kV4 dc4 pm4 an4 (.ref cA4) ct4), sl4⟩)
    (c4 : PySem.W.codeIn K (.ref cA4) "bad_edit_place" = true)
    (a4 : PySem.W.nsIn K mainGlobals "bad_edit_place" = some (some (.ref f4)))
    (k4 : PySem.W.keepIn K (.ref f4) = true)
    {oc5 kV5 dc5 pm5 ct5 : Value}
    {od5 an5 : Option Addr}
    {sl5 : Array (Option Value)}
    {f5 cA5 : Addr}
    (l5 : K.lookup f5 = some ⟨oc5, od5, .func (PySem.W.fnOf "is_edit" "is_edit" (fnArgs sis_edit) (fnBody sis_edit) (fnScope sis_edit) .none kV5 dc5 pm5 an5 (.ref cA5) ct5), sl5⟩)
    (c5 : PySem.W.codeIn K (.ref cA5) "is_edit" = true)
    (a5 : PySem.W.nsIn K mainGlobals "is_edit" = some (some (.ref f5)))
    (k5 : PySem.W.keepIn K (.ref f5) = true)
    {oc6 kV6 dc6 pm6 ct6 : Value}
    {od6 an6 : Option Addr}
    {sl6 : Array (Option Value)}
    {f6 cA6 : Addr}
    (l6 : K.lookup f6 = some ⟨oc6, od6, .func (PySem.W.fnOf "turned" "turned" (fnArgs sturned) (fnBody sturned) (fnScope sturned) .none kV6 dc6 pm6 an6 (.ref cA6) ct6), sl6⟩)
    (c6 : PySem.W.codeIn K (.ref cA6) "turned" = true)
    (a6 : PySem.W.nsIn K mainGlobals "turned" = some (some (.ref f6)))
    (k6 : PySem.W.keepIn K (.ref f6) = true)
    {oc7 kV7 dc7 pm7 ct7 : Value}
    {od7 an7 : Option Addr}
    {sl7 : Array (Option Value)}
    {f7 cA7 : Addr}
    (l7 : K.lookup f7 = some ⟨oc7, od7, .func (PySem.W.fnOf "_law_same" "_law_same" (fnArgs s_law_same) (fnBody s_law_same) (fnScope s_law_same) .none kV7 dc7 pm7 an7 (.ref cA7) ct7), sl7⟩)
    (c7 : PySem.W.codeIn K (.ref cA7) "_law_same" = true)
    (a7 : PySem.W.nsIn K mainGlobals "_law_same" = some (some (.ref f7)))
    (k7 : PySem.W.keepIn K (.ref f7) = true)
    {oc8 kV8 dc8 pm8 ct8 : Value}
    {od8 an8 : Option Addr}
    {sl8 : Array (Option Value)}
    {f8 cA8 : Addr}
    (l8 : K.lookup f8 = some ⟨oc8, od8, .func (PySem.W.fnOf "_law_box" "_law_box" (fnArgs s_law_box) (fnBody s_law_box) (fnScope s_law_box) .none kV8 dc8 pm8 an8 (.ref cA8) ct8), sl8⟩)
    (c8 : PySem.W.codeIn K (.ref cA8) "_law_box" = true)
    (a8 : PySem.W.nsIn K mainGlobals "_law_box" = some (some (.ref f8)))
    (k8 : PySem.W.keepIn K (.ref f8) = true)
    {oc9 kV9 dc9 pm9 ct9 : Value}
    {od9 an9 : Option Addr}
    {sl9 : Array (Option Value)}
    {f9 cA9 : Addr}
    (l9 : K.lookup f9 = some ⟨oc9, od9, .func (PySem.W.fnOf "_law_take" "_law_take" (fnArgs s_law_take) (fnBody s_law_take) (fnScope s_law_take) .none kV9 dc9 pm9 an9 (.ref cA9) ct9), sl9⟩)
    (c9 : PySem.W.codeIn K (.ref cA9) "_law_take" = true)
    (a9 : PySem.W.nsIn K mainGlobals "_law_take" = some (some (.ref f9)))
    (k9 : PySem.W.keepIn K (.ref f9) = true)
    {oc10 kV10 dc10 pm10 ct10 : Value}
    {od10 an10 : Option Addr}
    {sl10 : Array (Option Value)}
    {f10 cA10 : Addr}
    (l10 : K.lookup f10 = some ⟨oc10, od10, .func (PySem.W.fnOf "_law_name" "_law_name" (fnArgs s_law_name) (fnBody s_law_name) (fnScope s_law_name) .none kV10 dc10 pm10 an10 (.ref cA10) ct10), sl10⟩)
    (c10 : PySem.W.codeIn K (.ref cA10) "_law_name" = true)
    (a10 : PySem.W.nsIn K mainGlobals "_law_name" = some (some (.ref f10)))
    (k10 : PySem.W.keepIn K (.ref f10) = true)
    {oc11 kV11 dc11 pm11 ct11 : Value}
    {od11 an11 : Option Addr}
    {sl11 : Array (Option Value)}
    {f11 cA11 : Addr}
    (l11 : K.lookup f11 = some ⟨oc11, od11, .func (PySem.W.fnOf "_law_edit" "_law_edit" (fnArgs s_law_edit) (fnBody s_law_edit) (fnScope s_law_edit) .none kV11 dc11 pm11 an11 (.ref cA11) ct11), sl11⟩)
    (c11 : PySem.W.codeIn K (.ref cA11) "_law_edit" = true)
    (a11 : PySem.W.nsIn K mainGlobals "_law_edit" = some (some (.ref f11)))
    (k11 : PySem.W.keepIn K (.ref f11) = true)
    {oc12 kV12 dc12 pm12 ct12 : Value}
    {od12 an12 : Option Addr}
    {sl12 : Array (Option Value)}
    {f12 cA12 : Addr}
    (l12 : K.lookup f12 = some ⟨oc12, od12, .func (PySem.W.fnOf "_law_edits" "_law_edits" (fnArgs s_law_edits) (fnBody s_law_edits) (fnScope s_law_edits) .none kV12 dc12 pm12 an12 (.ref cA12) ct12), sl12⟩)
    (c12 : PySem.W.codeIn K (.ref cA12) "_law_edits" = true)
    (a12 : PySem.W.nsIn K mainGlobals "_law_edits" = some (some (.ref f12)))
    (k12 : PySem.W.keepIn K (.ref f12) = true)
    {oc13 kV13 dc13 pm13 ct13 : Value}
    {od13 an13 : Option Addr}
    {sl13 : Array (Option Value)}
    {f13 cA13 : Addr}
    (l13 : K.lookup f13 = some ⟨oc13, od13, .func (PySem.W.fnOf "_law_bad" "_law_bad" (fnArgs s_law_bad) (fnBody s_law_bad) (fnScope s_law_bad) .none kV13 dc13 pm13 an13 (.ref cA13) ct13), sl13⟩)
    (c13 : PySem.W.codeIn K (.ref cA13) "_law_bad" = true)
    (a13 : PySem.W.nsIn K mainGlobals "_law_bad" = some (some (.ref f13)))
    (k13 : PySem.W.keepIn K (.ref f13) = true)
    {oc14 kV14 dc14 pm14 ct14 : Value}
    {od14 an14 : Option Addr}
    {sl14 : Array (Option Value)}
    {f14 cA14 : Addr}
    (l14 : K.lookup f14 = some ⟨oc14, od14, .func (PySem.W.fnOf "_law_spoilt" "_law_spoilt" (fnArgs s_law_spoilt) (fnBody s_law_spoilt) (fnScope s_law_spoilt) .none kV14 dc14 pm14 an14 (.ref cA14) ct14), sl14⟩)
    (c14 : PySem.W.codeIn K (.ref cA14) "_law_spoilt" = true)
    (a14 : PySem.W.nsIn K mainGlobals "_law_spoilt" = some (some (.ref f14)))
    (k14 : PySem.W.keepIn K (.ref f14) = true)
    {oc15 kV15 dc15 pm15 ct15 : Value}
    {od15 an15 : Option Addr}
    {sl15 : Array (Option Value)}
    {f15 cA15 : Addr}
    (l15 : K.lookup f15 = some ⟨oc15, od15, .func (PySem.W.fnOf "law" "law" (fnArgs slaw) (fnBody slaw) (fnScope slaw) .none kV15 dc15 pm15 an15 (.ref cA15) ct15), sl15⟩)
    (c15 : PySem.W.codeIn K (.ref cA15) "law" = true)
    (a15 : PySem.W.nsIn K mainGlobals "law" = some (some (.ref f15)))
    (k15 : PySem.W.keepIn K (.ref f15) = true)
    (z0 : PySem.W.nsIn K mainGlobals "isinstance" = some none)
    (z1 : PySem.W.nsIn K mainGlobals "int" = some none)
    (z2 : PySem.W.nsIn K mainGlobals "bool" = some none)
    (z3 : PySem.W.nsIn K mainGlobals "str" = some none)
    (z4 : PySem.W.nsIn K mainGlobals "len" = some none)
    (z5 : PySem.W.nsIn K mainGlobals "all" = some none)
    (z6 : PySem.W.nsIn K mainGlobals "list" = some none)
    (z7 : PySem.W.nsIn K mainGlobals "tuple" = some none)
    (z8 : PySem.W.nsIn K mainGlobals "enumerate" = some none)
    (z9 : PySem.W.nsIn K mainGlobals "range" = some none)
    (z10 : PySem.W.nsIn K mainGlobals "abs" = some none)
    (z11 : PySem.W.nsIn K mainGlobals "ValueError" = some none)
    (z12 : PySem.W.nsIn K mainGlobals "min" = some none)
    (g0 : ∃ t, PySem.W.nsIn K mainGlobals "LONGEST_NAME" = some (some (.int 8 t)))
    (g1 : ∃ t, PySem.W.nsIn K mainGlobals "LONGEST_SCRIPT" = some (some (.int 5000 t)))
    (g2 : ∃ t, PySem.W.nsIn K mainGlobals "MOST_TURNS" = some (some (.int 8 t)))
    (g3 : ∃ t, PySem.W.nsIn K mainGlobals "LONGEST_RESULT" = some (some (.int 5000 t)))
    {CSlipError : Addr}
    (aXSlipError : PySem.W.nsIn K mainGlobals "SlipError" = some (some (.ref CSlipError)))
    (cXSlipError : ∃ nm q N bs bm sn sub ab col dd k0 k1 k2 k3 k5, K.lookup CSlipError = some (excClassObj nm q CSlipError N bs bm true sn sub ab col dd k0 k1 k2 k3 k5 "ValueError.__new__") ∧ PySem.HandSPX.refsVE bm = true)
    (sXSlipError : PySem.W.findIn K (.ref CSlipError) "__setattr__" = some (some (.builtin "object.__setattr__")))
    (bXSlipError : PySem.W.subIn K (.ref CSlipError) (.type "BaseException") = some true)
    (tXSlipError : PySem.W.typeIn K (.ref CSlipError) = some (.type "type"))
    (kXSlipError : PySem.W.keepIn K (.ref CSlipError) = true)
    (gXSlipError : PySem.W.findIn K (.ref CSlipError) "__getattribute__" = some (some (.builtin "BaseException.__getattribute__")))
    (hXSlipError : PySem.W.findIn K (.ref CSlipError) "__getattr__" = some none)
    (dXSlipError : PySem.W.hasDictIn K CSlipError = true)
    (lXSlipError : (PySem.W.clsIn K CSlipError).isSome = true)
    (uXSlipError : PySem.W.findIn K (.ref CSlipError) "__class__" = some (some (.builtin "object.__class__")))
    (vXSlipError : PySem.W.specialIn K (.builtin "object.__class__") "__get__" = some (some (.builtin "getset_descriptor.__get__")))
    (wXSlipError : PySem.W.takesIn K (.builtin "object.__class__") = some true)
    (mXSlipError : PySem.W.mroIn K CSlipError (.type "object") = some true)
    (qXSlipError : PySem.W.excIn K CSlipError [.type "ValueError", .type "Exception", .type "BaseException", .type "object"] "ValueError.__new__" = true)
    {CBadScript : Addr}
    (aXBadScript : PySem.W.nsIn K mainGlobals "BadScript" = some (some (.ref CBadScript)))
    (cXBadScript : ∃ nm q N bs bm sn sub ab col dd k0 k1 k2 k3 k5, K.lookup CBadScript = some (excClassObj nm q CBadScript N bs bm true sn sub ab col dd k0 k1 k2 k3 k5 "ValueError.__new__") ∧ PySem.HandSPX.refsVE bm = true)
    (sXBadScript : PySem.W.findIn K (.ref CBadScript) "__setattr__" = some (some (.builtin "object.__setattr__")))
    (bXBadScript : PySem.W.subIn K (.ref CBadScript) (.type "BaseException") = some true)
    (tXBadScript : PySem.W.typeIn K (.ref CBadScript) = some (.type "type"))
    (kXBadScript : PySem.W.keepIn K (.ref CBadScript) = true)
    (gXBadScript : PySem.W.findIn K (.ref CBadScript) "__getattribute__" = some (some (.builtin "BaseException.__getattribute__")))
    (hXBadScript : PySem.W.findIn K (.ref CBadScript) "__getattr__" = some none)
    (dXBadScript : PySem.W.hasDictIn K CBadScript = true)
    (lXBadScript : (PySem.W.clsIn K CBadScript).isSome = true)
    (uXBadScript : PySem.W.findIn K (.ref CBadScript) "__class__" = some (some (.builtin "object.__class__")))
    (vXBadScript : PySem.W.specialIn K (.builtin "object.__class__") "__get__" = some (some (.builtin "getset_descriptor.__get__")))
    (wXBadScript : PySem.W.takesIn K (.builtin "object.__class__") = some true)
    (mXBadScript : PySem.W.mroIn K CBadScript (.type "object") = some true)
    {ocYBadScript kVYBadScript dcYBadScript pmYBadScript ctYBadScript : Value}
    {odYBadScript anYBadScript : Option Addr}
    {slYBadScript : Array (Option Value)}
    {fYBadScript cAYBadScript : Addr}
    (lYBadScript : K.lookup fYBadScript = some ⟨ocYBadScript, odYBadScript, .func (PySem.W.fnOf "__init__" "BadScript.__init__" (fnArgs sBadScript___init__) (fnBody sBadScript___init__) (fnScope sBadScript___init__) .none kVYBadScript dcYBadScript pmYBadScript anYBadScript (.ref cAYBadScript) ctYBadScript), slYBadScript⟩)
    (cYBadScript : PySem.W.codeIn K (.ref cAYBadScript) "BadScript.__init__" = true)
    (aYBadScript : PySem.W.findIn K (.ref CBadScript) "__init__" = some (some (.ref fYBadScript)))
    (tYBadScript : PySem.W.typeIn K (.ref fYBadScript) = some (.type "function"))
    (nYBadScript : PySem.W.findIn K (.ref CBadScript) "place" = some none)
    {CTooMany : Addr}
    (aXTooMany : PySem.W.nsIn K mainGlobals "TooMany" = some (some (.ref CTooMany)))
    (cXTooMany : ∃ nm q N bs bm sn sub ab col dd k0 k1 k2 k3 k5, K.lookup CTooMany = some (excClassObj nm q CTooMany N bs bm true sn sub ab col dd k0 k1 k2 k3 k5 "ValueError.__new__") ∧ PySem.HandSPX.refsVE bm = true)
    (sXTooMany : PySem.W.findIn K (.ref CTooMany) "__setattr__" = some (some (.builtin "object.__setattr__")))
    (bXTooMany : PySem.W.subIn K (.ref CTooMany) (.type "BaseException") = some true)
    (tXTooMany : PySem.W.typeIn K (.ref CTooMany) = some (.type "type"))
    (kXTooMany : PySem.W.keepIn K (.ref CTooMany) = true)
    (gXTooMany : PySem.W.findIn K (.ref CTooMany) "__getattribute__" = some (some (.builtin "BaseException.__getattribute__")))
    (hXTooMany : PySem.W.findIn K (.ref CTooMany) "__getattr__" = some none)
    (dXTooMany : PySem.W.hasDictIn K CTooMany = true)
    (lXTooMany : (PySem.W.clsIn K CTooMany).isSome = true)
    (uXTooMany : PySem.W.findIn K (.ref CTooMany) "__class__" = some (some (.builtin "object.__class__")))
    (vXTooMany : PySem.W.specialIn K (.builtin "object.__class__") "__get__" = some (some (.builtin "getset_descriptor.__get__")))
    (wXTooMany : PySem.W.takesIn K (.builtin "object.__class__") = some true)
    (mXTooMany : PySem.W.mroIn K CTooMany (.type "object") = some true)
    {ocYTooMany kVYTooMany dcYTooMany pmYTooMany ctYTooMany : Value}
    {odYTooMany anYTooMany : Option Addr}
    {slYTooMany : Array (Option Value)}
    {fYTooMany cAYTooMany : Addr}
    (lYTooMany : K.lookup fYTooMany = some ⟨ocYTooMany, odYTooMany, .func (PySem.W.fnOf "__init__" "TooMany.__init__" (fnArgs sTooMany___init__) (fnBody sTooMany___init__) (fnScope sTooMany___init__) .none kVYTooMany dcYTooMany pmYTooMany anYTooMany (.ref cAYTooMany) ctYTooMany), slYTooMany⟩)
    (cYTooMany : PySem.W.codeIn K (.ref cAYTooMany) "TooMany.__init__" = true)
    (aYTooMany : PySem.W.findIn K (.ref CTooMany) "__init__" = some (some (.ref fYTooMany)))
    (tYTooMany : PySem.W.typeIn K (.ref fYTooMany) = some (.type "function"))
    (nYTooMany : PySem.W.findIn K (.ref CTooMany) "limit" = some none)
    {CNoNumber : Addr}
    (aXNoNumber : PySem.W.nsIn K mainGlobals "NoNumber" = some (some (.ref CNoNumber)))
    (cXNoNumber : ∃ nm q N bs bm sn sub ab col dd k0 k1 k2 k3 k5, K.lookup CNoNumber = some (excClassObj nm q CNoNumber N bs bm true sn sub ab col dd k0 k1 k2 k3 k5 "ValueError.__new__") ∧ PySem.HandSPX.refsVE bm = true)
    (sXNoNumber : PySem.W.findIn K (.ref CNoNumber) "__setattr__" = some (some (.builtin "object.__setattr__")))
    (bXNoNumber : PySem.W.subIn K (.ref CNoNumber) (.type "BaseException") = some true)
    (tXNoNumber : PySem.W.typeIn K (.ref CNoNumber) = some (.type "type"))
    (kXNoNumber : PySem.W.keepIn K (.ref CNoNumber) = true)
    (gXNoNumber : PySem.W.findIn K (.ref CNoNumber) "__getattribute__" = some (some (.builtin "BaseException.__getattribute__")))
    (hXNoNumber : PySem.W.findIn K (.ref CNoNumber) "__getattr__" = some none)
    (dXNoNumber : PySem.W.hasDictIn K CNoNumber = true)
    (lXNoNumber : (PySem.W.clsIn K CNoNumber).isSome = true)
    (uXNoNumber : PySem.W.findIn K (.ref CNoNumber) "__class__" = some (some (.builtin "object.__class__")))
    (vXNoNumber : PySem.W.specialIn K (.builtin "object.__class__") "__get__" = some (some (.builtin "getset_descriptor.__get__")))
    (wXNoNumber : PySem.W.takesIn K (.builtin "object.__class__") = some true)
    (mXNoNumber : PySem.W.mroIn K CNoNumber (.type "object") = some true)
    (qXNoNumber : PySem.W.excIn K CNoNumber [.type "ValueError", .type "Exception", .type "BaseException", .type "object"] "ValueError.__new__" = true)
    (em_TooMany_TooMany : PySem.W.exmOne K (.ref CTooMany) (.ref CTooMany) = some true)
    (em_BadScript_BadScript : PySem.W.exmOne K (.ref CBadScript) (.ref CBadScript) = some true)
    (ki_BadScript_SlipError : PySem.W.kitOne K (.ref CBadScript) (.ref CSlipError) = some true)
    (ki_BadScript_ValueError : PySem.W.kitOne K (.ref CBadScript) (.type "ValueError") = some true)
    (ki_BadScript_TooMany : PySem.W.kitOne K (.ref CBadScript) (.ref CTooMany) = some false)
    : LamX.LawAtS l w K C8.CX0 lawK 63 "_law_script" mg fa h := by
  have e := hfa.symm.trans (PySem.W.mg_of X G a15)
  cases e
  have T : Txt K mg := ⟨PySem.W.mg_none_of X G z0, PySem.W.mg_none_of X G z1, PySem.W.mg_none_of X G z2, PySem.W.mg_none_of X G z3, PySem.W.mg_none_of X G z4, PySem.W.mg_none_of X G z5, PySem.W.mg_none_of X G z6, PySem.W.mg_none_of X G z7, PySem.W.mg_none_of X G z8, PySem.W.mg_none_of X G z9, PySem.W.mg_none_of X G z10, PySem.W.mg_none_of X G z11, PySem.W.mg_none_of X G z12, g0.elim fun _ z => ⟨_, PySem.W.mg_of X G z, _, rfl⟩, g1.elim fun _ z => ⟨_, PySem.W.mg_of X G z, _, rfl⟩, g2.elim fun _ z => ⟨_, PySem.W.mg_of X G z, _, rfl⟩, g3.elim fun _ z => ⟨_, PySem.W.mg_of X G z, _, rfl⟩⟩
  letI tb : Tbs := ⟨[], w⟩
  refine ⟨PySem.W.fnOf "law" "law" (fnArgs slaw) (fnBody slaw) (fnScope slaw) .none kV15 dc15 pm15 an15 (.ref cA15) ct15, [], spLaw K, ?_, ?_, ?_, fun s v => .of_eq rfl, fun H a ns hl _ hH hS => ⟨a, ns, rfl, hS, hl, ?_, fun _ => rfl⟩, fun base KB GB TB => ?_⟩
  · intro p hp
    cases hp
  · intro p hp
    cases hp
  · intro p hp
    cases hp
  · intro p hp
    cases hp
  have Dis_integer : Dn K mg "is_integer" sis_integer ["value"] := dn_mk X G a0 l0 c0 k0 fun _ _ _ _ _ _ us hl => match us, hl with | [_], _ => rfl
  have Dis_integer_between : Dn K mg "is_integer_between" sis_integer_between ["value", "least", "most"] := dn_mk X G a1 l1 c1 k1 fun _ _ _ _ _ _ us hl => match us, hl with | [_, _, _], _ => rfl
  have Dis_name : Dn K mg "is_name" sis_name ["value"] := dn_mk X G a2 l2 c2 k2 fun _ _ _ _ _ _ us hl => match us, hl with | [_], _ => rfl
  have Dcheck_script : Dn K mg "check_script" scheck_script ["script"] := dn_mk X G a3 l3 c3 k3 fun _ _ _ _ _ _ us hl => match us, hl with | [_], _ => rfl
  have Dbad_edit_place : Dn K mg "bad_edit_place" sbad_edit_place ["script"] := dn_mk X G a4 l4 c4 k4 fun _ _ _ _ _ _ us hl => match us, hl with | [_], _ => rfl
  have Dis_edit : Dn K mg "is_edit" sis_edit ["value"] := dn_mk X G a5 l5 c5 k5 fun _ _ _ _ _ _ us hl => match us, hl with | [_], _ => rfl
  have Dturned : Dn K mg "turned" sturned ["ahead", "turn", "behind", "n"] := dn_mk X G a6 l6 c6 k6 fun _ _ _ _ _ _ us hl => match us, hl with | [_, _, _, _], _ => rfl
  have D_law_same : Dn K mg "_law_same" s_law_same ["_law_actual", "_law_due"] := dn_mk X G a7 l7 c7 k7 fun _ _ _ _ _ _ us hl => match us, hl with | [_, _], _ => rfl
  have D_law_box : Dn K mg "_law_box" s_law_box ["_law_script"] := dn_mk X G a8 l8 c8 k8 fun _ _ _ _ _ _ us hl => match us, hl with | [_], _ => rfl
  have D_law_take : Dn K mg "_law_take" s_law_take ["_law_box_here", "_law_many"] := dn_mk X G a9 l9 c9 k9 fun _ _ _ _ _ _ us hl => match us, hl with | [_, _], _ => rfl
  have D_law_name : Dn K mg "_law_name" s_law_name ["_law_box_here", "_law_taken"] := dn_mk X G a10 l10 c10 k10 fun _ _ _ _ _ _ us hl => match us, hl with | [_, _], _ => rfl
  have D_law_edit : Dn K mg "_law_edit" s_law_edit ["_law_box_here"] := dn_mk X G a11 l11 c11 k11 fun _ _ _ _ _ _ us hl => match us, hl with | [_], _ => rfl
  have D_law_edits : Dn K mg "_law_edits" s_law_edits ["_law_box_here"] := dn_mk X G a12 l12 c12 k12 fun _ _ _ _ _ _ us hl => match us, hl with | [_], _ => rfl
  have D_law_bad : Dn K mg "_law_bad" s_law_bad ["_law_parts", "_law_turns"] := dn_mk X G a13 l13 c13 k13 fun _ _ _ _ _ _ us hl => match us, hl with | [_, _], _ => rfl
  have D_law_spoilt : Dn K mg "_law_spoilt" s_law_spoilt ["_law_edits_here", "_law_pick", "_law_at"] := dn_mk X G a14 l14 c14 k14 fun _ _ _ _ _ _ us hl => match us, hl with | [_, _, _], _ => rfl
  have Dlaw : Dn K mg "law" slaw ["_law_script"] := dn_mk X G a15 l15 c15 k15 fun _ _ _ _ _ _ us hl => match us, hl with | [_], _ => rfl
  have XSlipError : XCl K mg "SlipError" CSlipError := ⟨PySem.W.mg_of X G aXSlipError, ⟨cXSlipError, sXSlipError, bXSlipError, tXSlipError, kXSlipError⟩, ⟨gXSlipError, hXSlipError, bXSlipError, dXSlipError⟩, lXSlipError, uXSlipError, vXSlipError, wXSlipError, mXSlipError⟩
  have XBadScript : XCl K mg "BadScript" CBadScript := ⟨PySem.W.mg_of X G aXBadScript, ⟨cXBadScript, sXBadScript, bXBadScript, tXBadScript, kXBadScript⟩, ⟨gXBadScript, hXBadScript, bXBadScript, dXBadScript⟩, lXBadScript, uXBadScript, vXBadScript, wXBadScript, mXBadScript⟩
  have DXBadScript : XDk K CBadScript "BadScript.__init__" sBadScript___init__ "place" := xdk_mk lYBadScript cYBadScript aYBadScript tYBadScript nYBadScript fun _ _ _ _ _ _ us hl => match us, hl with | [_, _], _ => rfl
  have XTooMany : XCl K mg "TooMany" CTooMany := ⟨PySem.W.mg_of X G aXTooMany, ⟨cXTooMany, sXTooMany, bXTooMany, tXTooMany, kXTooMany⟩, ⟨gXTooMany, hXTooMany, bXTooMany, dXTooMany⟩, lXTooMany, uXTooMany, vXTooMany, wXTooMany, mXTooMany⟩
  have DXTooMany : XDk K CTooMany "TooMany.__init__" sTooMany___init__ "limit" := xdk_mk lYTooMany cYTooMany aYTooMany tYTooMany nYTooMany fun _ _ _ _ _ _ us hl => match us, hl with | [_, _], _ => rfl
  have XNoNumber : XCl K mg "NoNumber" CNoNumber := ⟨PySem.W.mg_of X G aXNoNumber, ⟨cXNoNumber, sXNoNumber, bXNoNumber, tXNoNumber, kXNoNumber⟩, ⟨gXNoNumber, hXNoNumber, bXNoNumber, dXNoNumber⟩, lXNoNumber, uXNoNumber, vXNoNumber, wXNoNumber, mXNoNumber⟩
  have F : C8.Fun K "law" "law" slaw fa _ := ⟨oc15, od15, .none, kV15, dc15, pm15, an15, (.ref cA15), ct15, sl15, rfl, l15, c15⟩
  exact law_all F T XSlipError qXSlipError XBadScript DXBadScript XTooMany DXTooMany XNoNumber qXNoNumber em_TooMany_TooMany em_BadScript_BadScript ki_BadScript_SlipError ki_BadScript_ValueError ki_BadScript_TooMany Dis_integer Dis_integer_between Dis_name Dcheck_script Dbad_edit_place Dis_edit Dturned D_law_same D_law_box D_law_take D_law_name D_law_edit D_law_edits D_law_bad D_law_spoilt
theorem facts {l : PySem.W.OpenLaw} {w : World} {K : PySem.W.Frag} {h : Heap} {mg : Str → Option Value} {fa : Addr} (X : K.In h) (G : h.Ns mainGlobals mg) (hfa : mg "law" = some (.ref fa)) (c : Hz.Told Zts Zfn Ztf h K) : LamX.LawAtS l w K C8.CX0 lawK 63 "_law_script" mg fa h := by
  obtain ⟨yo0, yd0, yk0, ye0, yp0, yn0, yt0, ys0, yl0, yc0, yw0⟩ := c.d 0 (d := Zf0) rfl
  obtain ⟨yo1, yd1, yk1, ye1, yp1, yn1, yt1, ys1, yl1, yc1, yw1⟩ := c.d 1 (d := Zf1) rfl
  obtain ⟨yo2, yd2, yk2, ye2, yp2, yn2, yt2, ys2, yl2, yc2, yw2⟩ := c.d 2 (d := Zf2) rfl
  obtain ⟨yo3, yd3, yk3, ye3, yp3, yn3, yt3, ys3, yl3, yc3, yw3⟩ := c.d 3 (d := Zf3) rfl
  obtain ⟨yo4, yd4, yk4, ye4, yp4, yn4, yt4, ys4, yl4, yc4, yw4⟩ := c.d 4 (d := Zf4) rfl
  obtain ⟨yo5, yd5, yk5, ye5, yp5, yn5, yt5, ys5, yl5, yc5, yw5⟩ := c.d 5 (d := Zf5) rfl
  obtain ⟨yo6, yd6, yk6, ye6, yp6, yn6, yt6, ys6, yl6, yc6, yw6⟩ := c.d 6 (d := Zf6) rfl
  obtain ⟨yo7, yd7, yk7, ye7, yp7, yn7, yt7, ys7, yl7, yc7, yw7⟩ := c.d 7 (d := Zf7) rfl
  obtain ⟨yo8, yd8, yk8, ye8, yp8, yn8, yt8, ys8, yl8, yc8, yw8⟩ := c.d 8 (d := Zf8) rfl
  obtain ⟨yo9, yd9, yk9, ye9, yp9, yn9, yt9, ys9, yl9, yc9, yw9⟩ := c.d 9 (d := Zf9) rfl
  obtain ⟨yo10, yd10, yk10, ye10, yp10, yn10, yt10, ys10, yl10, yc10, yw10⟩ := c.d 10 (d := Zf10) rfl
  obtain ⟨yo11, yd11, yk11, ye11, yp11, yn11, yt11, ys11, yl11, yc11, yw11⟩ := c.d 11 (d := Zf11) rfl
  obtain ⟨yo12, yd12, yk12, ye12, yp12, yn12, yt12, ys12, yl12, yc12, yw12⟩ := c.d 12 (d := Zf12) rfl
  obtain ⟨yo13, yd13, yk13, ye13, yp13, yn13, yt13, ys13, yl13, yc13, yw13⟩ := c.d 13 (d := Zf13) rfl
  obtain ⟨yo14, yd14, yk14, ye14, yp14, yn14, yt14, ys14, yl14, yc14, yw14⟩ := c.d 14 (d := Zf14) rfl
  obtain ⟨yo15, yd15, yk15, ye15, yp15, yn15, yt15, ys15, yl15, yc15, yw15⟩ := c.d 15 (d := Zf15) rfl
  obtain ⟨yoYBadScript, ydYBadScript, ykYBadScript, yeYBadScript, ypYBadScript, ynYBadScript, ytYBadScript, ysYBadScript, ylYBadScript, ycYBadScript, ywYBadScript⟩ := c.d 16 (d := Zf16) rfl
  obtain ⟨yoYTooMany, ydYTooMany, ykYTooMany, yeYTooMany, ypYTooMany, ynYTooMany, ytYTooMany, ysYTooMany, ylYTooMany, ycYTooMany, ywYTooMany⟩ := c.d 17 (d := Zf17) rfl
  refine all_mk X G hfa
    (l0 := yl0)
    (c0 := yc0)
    (a0 := (Hz.isO_ok (c.t 0 rfl)))
    (k0 := (c.t 1 rfl))
    (l1 := yl1)
    (c1 := yc1)
    (a1 := (Hz.isO_ok (c.t 2 rfl)))
    (k1 := (c.t 3 rfl))
    (l2 := yl2)
    (c2 := yc2)
    (a2 := (Hz.isO_ok (c.t 4 rfl)))
    (k2 := (c.t 5 rfl))
    (l3 := yl3)
    (c3 := yc3)
    (a3 := (Hz.isO_ok (c.t 6 rfl)))
    (k3 := (c.t 7 rfl))
    (l4 := yl4)
    (c4 := yc4)
    (a4 := (Hz.isO_ok (c.t 8 rfl)))
    (k4 := (c.t 9 rfl))
    (l5 := yl5)
    (c5 := yc5)
    (a5 := (Hz.isO_ok (c.t 10 rfl)))
    (k5 := (c.t 11 rfl))
    (l6 := yl6)
    (c6 := yc6)
    (a6 := (Hz.isO_ok (c.t 12 rfl)))
    (k6 := (c.t 13 rfl))
    (l7 := yl7)
    (c7 := yc7)
    (a7 := (Hz.isO_ok (c.t 14 rfl)))
    (k7 := (c.t 15 rfl))
    (l8 := yl8)
    (c8 := yc8)
    (a8 := (Hz.isO_ok (c.t 16 rfl)))
    (k8 := (c.t 17 rfl))
    (l9 := yl9)
    (c9 := yc9)
    (a9 := (Hz.isO_ok (c.t 18 rfl)))
    (k9 := (c.t 19 rfl))
    (l10 := yl10)
    (c10 := yc10)
    (a10 := (Hz.isO_ok (c.t 20 rfl)))
    (k10 := (c.t 21 rfl))
    (l11 := yl11)
    (c11 := yc11)
    (a11 := (Hz.isO_ok (c.t 22 rfl)))
    (k11 := (c.t 23 rfl))
    (l12 := yl12)
    (c12 := yc12)
    (a12 := (Hz.isO_ok (c.t 24 rfl)))
    (k12 := (c.t 25 rfl))
    (l13 := yl13)
    (c13 := yc13)
    (a13 := (Hz.isO_ok (c.t 26 rfl)))
    (k13 := (c.t 27 rfl))
    (l14 := yl14)
    (c14 := yc14)
    (a14 := (Hz.isO_ok (c.t 28 rfl)))
    (k14 := (c.t 29 rfl))
    (l15 := yl15)
    (c15 := yc15)
    (a15 := (Hz.isO_ok (c.t 30 rfl)))
    (k15 := (c.t 31 rfl))
    (z0 := (Hz.isO_ok (c.t 32 rfl)))
    (z1 := (Hz.isO_ok (c.t 33 rfl)))
    (z2 := (Hz.isO_ok (c.t 34 rfl)))
    (z3 := (Hz.isO_ok (c.t 35 rfl)))
    (z4 := (Hz.isO_ok (c.t 36 rfl)))
    (z5 := (Hz.isO_ok (c.t 37 rfl)))
    (z6 := (Hz.isO_ok (c.t 38 rfl)))
    (z7 := (Hz.isO_ok (c.t 39 rfl)))
    (z8 := (Hz.isO_ok (c.t 40 rfl)))
    (z9 := (Hz.isO_ok (c.t 41 rfl)))
    (z10 := (Hz.isO_ok (c.t 42 rfl)))
    (z11 := (Hz.isO_ok (c.t 43 rfl)))
    (z12 := (Hz.isO_ok (c.t 44 rfl)))
    (g0 := (Hz.intO_ok (c.t 45 rfl)))
    (g1 := (Hz.intO_ok (c.t 46 rfl)))
    (g2 := (Hz.intO_ok (c.t 47 rfl)))
    (g3 := (Hz.intO_ok (c.t 48 rfl)))
    (aXSlipError := (Hz.isO_ok (c.t 49 rfl)))
    (cXSlipError := (Hz.excC_ok (c.t 50 rfl)))
    (sXSlipError := (Hz.isO_ok (c.t 51 rfl)))
    (bXSlipError := (Hz.isB_ok (c.t 52 rfl)))
    (tXSlipError := (Hz.isV_ok (c.t 53 rfl)))
    (kXSlipError := (c.t 54 rfl))
    (gXSlipError := (Hz.isO_ok (c.t 55 rfl)))
    (hXSlipError := (Hz.isO_ok (c.t 56 rfl)))
    (dXSlipError := (c.t 57 rfl))
    (lXSlipError := (c.t 58 rfl))
    (uXSlipError := (Hz.isO_ok (c.t 59 rfl)))
    (vXSlipError := (Hz.isO_ok (c.t 60 rfl)))
    (wXSlipError := (Hz.isB_ok (c.t 61 rfl)))
    (mXSlipError := (Hz.isB_ok (c.t 62 rfl)))
    (qXSlipError := (c.t 63 rfl))
    (aXBadScript := (Hz.isO_ok (c.t 64 rfl)))
    (cXBadScript := (Hz.excC_ok (c.t 65 rfl)))
    (sXBadScript := (Hz.isO_ok (c.t 66 rfl)))
    (bXBadScript := (Hz.isB_ok (c.t 67 rfl)))
    (tXBadScript := (Hz.isV_ok (c.t 68 rfl)))
    (kXBadScript := (c.t 69 rfl))
    (gXBadScript := (Hz.isO_ok (c.t 70 rfl)))
    (hXBadScript := (Hz.isO_ok (c.t 71 rfl)))
    (dXBadScript := (c.t 72 rfl))
    (lXBadScript := (c.t 73 rfl))
    (uXBadScript := (Hz.isO_ok (c.t 74 rfl)))
    (vXBadScript := (Hz.isO_ok (c.t 60 rfl)))
    (wXBadScript := (Hz.isB_ok (c.t 61 rfl)))
    (mXBadScript := (Hz.isB_ok (c.t 75 rfl)))
    (lYBadScript := ylYBadScript)
    (cYBadScript := ycYBadScript)
    (aYBadScript := (Hz.isO_ok (c.t 76 rfl)))
    (tYBadScript := (Hz.isV_ok (c.t 77 rfl)))
    (nYBadScript := (Hz.isO_ok (c.t 78 rfl)))
    (aXTooMany := (Hz.isO_ok (c.t 79 rfl)))
    (cXTooMany := (Hz.excC_ok (c.t 80 rfl)))
    (sXTooMany := (Hz.isO_ok (c.t 81 rfl)))
    (bXTooMany := (Hz.isB_ok (c.t 82 rfl)))
    (tXTooMany := (Hz.isV_ok (c.t 83 rfl)))
    (kXTooMany := (c.t 84 rfl))
    (gXTooMany := (Hz.isO_ok (c.t 85 rfl)))
    (hXTooMany := (Hz.isO_ok (c.t 86 rfl)))
    (dXTooMany := (c.t 87 rfl))
    (lXTooMany := (c.t 88 rfl))
    (uXTooMany := (Hz.isO_ok (c.t 89 rfl)))
    (vXTooMany := (Hz.isO_ok (c.t 60 rfl)))
    (wXTooMany := (Hz.isB_ok (c.t 61 rfl)))
    (mXTooMany := (Hz.isB_ok (c.t 90 rfl)))
    (lYTooMany := ylYTooMany)
    (cYTooMany := ycYTooMany)
    (aYTooMany := (Hz.isO_ok (c.t 91 rfl)))
    (tYTooMany := (Hz.isV_ok (c.t 92 rfl)))
    (nYTooMany := (Hz.isO_ok (c.t 93 rfl)))
    (aXNoNumber := (Hz.isO_ok (c.t 94 rfl)))
    (cXNoNumber := (Hz.excC_ok (c.t 95 rfl)))
    (sXNoNumber := (Hz.isO_ok (c.t 96 rfl)))
    (bXNoNumber := (Hz.isB_ok (c.t 97 rfl)))
    (tXNoNumber := (Hz.isV_ok (c.t 98 rfl)))
    (kXNoNumber := (c.t 99 rfl))
    (gXNoNumber := (Hz.isO_ok (c.t 100 rfl)))
    (hXNoNumber := (Hz.isO_ok (c.t 101 rfl)))
    (dXNoNumber := (c.t 102 rfl))
    (lXNoNumber := (c.t 103 rfl))
    (uXNoNumber := (Hz.isO_ok (c.t 104 rfl)))
    (vXNoNumber := (Hz.isO_ok (c.t 60 rfl)))
    (wXNoNumber := (Hz.isB_ok (c.t 61 rfl)))
    (mXNoNumber := (Hz.isB_ok (c.t 105 rfl)))
    (qXNoNumber := (c.t 106 rfl))
    (em_TooMany_TooMany := (Hz.isB_ok (c.t 107 rfl)))
    (em_BadScript_BadScript := (Hz.isB_ok (c.t 108 rfl)))
    (ki_BadScript_SlipError := (Hz.isB_ok (c.t 109 rfl)))
    (ki_BadScript_ValueError := (Hz.isB_ok (c.t 110 rfl)))
    (ki_BadScript_TooMany := (Hz.isB_ok (c.t 111 rfl)))
end Sv
open PySem PySem.W PySem.Calls PyProof.Rows in
set_option maxRecDepth 100000 in
set_option maxHeartbeats 0 in
theorem PySem.Challenge.cw_slipstold_k65_turned_scripts_holds : PySem.Challenge.rw_slipstold_k65_turned_scripts.Holds := by
  w_on; o_law
  refine HandSHeadRun.head_any (r := OpenLaw.row PySem.Challenge.rw_slipstold_k65_turned_scripts) (q := view (OpenLaw.row PySem.Challenge.rw_slipstold_k65_turned_scripts).prog [29]) (H := Hz.hook 5 Sv.Zts Sv.Zfn Sv.Ztf) (ob := Hz.ob 5 Sv.Zts Sv.Zfn Sv.Ztf) (M := 6000) (loose := Sv.Zloose) (d := HandSHeadRun.topDef (OpenLaw.row PySem.Challenge.rw_slipstold_k65_turned_scripts).prog 29) (kwd := []) (Hz.ob_eq 5 Sv.Zts Sv.Zfn Sv.Ztf)
    (by kernel_rfl) (fun s => by kernel_rfl) Sv.Zrun (by kernel_rfl) (by kernel_rfl) (by kernel_rfl) (by rfl) (by first | assumption | decide +kernel) (by decide +kernel) ⟨rfl, rfl, rfl, rfl, rfl, by decide +kernel⟩ ?hw ?hc
  case hw => w_witness2
  case hc =>
    refine LamX.walk_ofTsE (l := PySem.Challenge.rw_slipstold_k65_turned_scripts) (n := 63) (k := Sv.lawK) (x := "_law_script") (CX := fun _ => C8.CX0) rfl (by decide) (by kernel_rfl) ⟨rfl, by decide, by decide⟩ ?F (fun _ _ _ _ _ z => z)
    intro w mg fa h Y G hmg
    obtain ⟨K, KX, c⟩ := Y
    have hm : mg ("law" : PySem.Str) = some (.ref fa) := by
      have e : (HandSHeadRun.topDef (OpenLaw.row PySem.Challenge.rw_slipstold_k65_turned_scripts).prog 29).name = ("law" : PySem.Str) := by kernel_rfl
      rw [← e]
      exact hmg
    exact ⟨K, KX, Sv.facts KX G hm c⟩
#print axioms PySem.Challenge.cw_slipstold_k65_turned_scripts_holds
