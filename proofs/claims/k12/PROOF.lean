import PyProof.Rows.All
import Wide.All
import OpenK.AllK
import Wide.FinOn
import KE.GoesMore
import HandS.ForMost
import HandS.Codes
import HandS.IsInst
import HandS.Walk
import HandS.Flow
import HandS.Style
import HandS.Set
import HandS.SetFor
import HandS.Strs
import HandS.DictComp
import HandS.Property
import HandS.Conv
import HandS.More
import HandS.TupLen
import HandS.DictTup
import HandS.OwnEq
import PySem.Challenge.RW_slipstold_k12_script_sums
set_option Elab.async false
set_option linter.all false
set_option maxRecDepth 100000
set_option maxHeartbeats 4000000
/-! The verifier's own layer over HandS: defs by bundles, purses, names. -/
namespace Sv
open PySem PySem.Spec PyProof.Rows L2
open C8 (Cal Mak Met cal0 mak0 met0 pe_c pe_mk pe_mt pe_mt0 fnBody fnArgs fnScope scC fnScope_by pe_gc InsC call_isC)

/-! ### defs -/
/-- a def of the module that stands under its name, no default -/
structure Dn (K : PySem.W.Frag) (mg : Str → Option Value) (x : Str) (st : Stmt) (ps : List Str) : Prop where
  ex : ∃ f fd, C8.Def K mg x st f fd ∧ Binds K fd ps []
theorem dn_mk {K : PySem.W.Frag} {mg : Str → Option Value} {h : Heap} (X : K.In h) (G : h.Ns mainGlobals mg) {x : Str} {st : Stmt} {ps : List Str} {f : Addr} {oc : Value} {od an : Option Addr} {sl : Array (Option Value)} {kV dc pm cd ct : Value}
    (a : PySem.W.nsIn K mainGlobals x = some (some (.ref f))) (l : K.lookup f = some ⟨oc, od, .func (PySem.W.fnOf x x (fnArgs st) (fnBody st) (fnScope st) .none kV dc pm an cd ct), sl⟩) (c : PySem.W.codeIn K cd x = true) (k : PySem.W.keepIn K (.ref f) = true)
    (hb : ∀ (kV doc pm : Value) (an : Option Addr) (cdv ct : Value) (us : List Value), us.length = ps.length → bindArgs (PySem.W.fnOf x x (fnArgs st) (fnBody st) (fnScope st) .none kV doc pm an cdv ct) ⟨us, []⟩ = pure (ps.zip us)) : Dn K mg x st ps := by
  have F : C8.Fun K x x st f (PySem.W.fnOf x x (fnArgs st) (fnBody st) (fnScope st) .none kV dc pm an cd ct) := ⟨oc, od, .none, kV, dc, pm, an, cd, ct, sl, rfl, l, c⟩
  exact ⟨f, _, ⟨F, PySem.W.mg_of X G a, k⟩, F.binds rfl hb⟩
section
variable {P : Program} {w : World} {K : PySem.W.Frag} {mg : Str → Option Value} {base : Heap}
theorem Dn.cal {x : Str} {st : Stmt} {N ps : List Str} {k : Nat} {sp : Sp} (D : Dn K mg x st ps) (S : FnScope N ps (fnScope st)) (len : ∀ vs H Q E, sp vs H Q E → vs.length = ps.length)
    (hbody : ∀ (f : Addr) (cdv : Value) (A : Around) (outer : List Env) (s : Shared) (H : Hp) (vs : List V) (Q : VK) (E : XK), Room k (A.deeper (envOfC x (fnScope st) s.heap.objs.size f cdv)) → sp vs H Q E →
      ∃ t, PSs (cxOf C8.CX0 P w K mg base N x (fnScope st) f cdv A outer s H E).nox (fnBody st) t ∧ t { nx := fun _ H' => Q .non H', rt := Q } (start N vs) H) : Cal P w K mg base (k + 1) x sp [] := by
  obtain ⟨f, fd, F, b⟩ := D.ex
  exact cal0 F b .nil S len (hbody f)
theorem Cal.mono {x : Str} {sp : Sp} {dvs : List V} {j k : Nat} (C : Cal P w K mg base j x sp dvs) (h : j ≤ k) : Cal P w K mg base k x sp dvs := by
  obtain ⟨f, fd, ps, ds, F, a, b, c, d⟩ := C.ex
  exact ⟨f, fd, ps, ds, F.mono h, a, b, c, d⟩
/-- a promise that asks more and gives less -/
theorem Cal.imp {x : Str} {sp sp' : Sp} {dvs : List V} {k : Nat} (C : Cal P w K mg base k x sp dvs) (h : ∀ vs H Q E, sp' vs H Q E → sp vs H Q E) : Cal P w K mg base k x sp' dvs := by
  obtain ⟨f, fd, ps, ds, F, a, b, c, d⟩ := C.ex
  exact ⟨f, fd, ps, ds, F.imp h, a, b, c, d⟩
end

/-! ### rules with the written part K named (for comprehensions: their blocks) -/
section
variable {X : Cx}
def rLenS (K : PySem.W.Frag) : List V → Hp → VK → Prop := fun xs H Q => ∃ p ys, xs = [.ref p] ∧ (SqL K H p ys ∨ SqT K H p ys) ∧ Q (.int ys.length) H
theorem call_lenK (K : PySem.W.Frag) (h : X.K = K := by rfl) : CallR X (.builtin "len") (rLenS K) := by subst h; exact call_len_seq
theorem ix_listK (K : PySem.W.Frag) (h : X.K = K := by rfl) : IxR X (rIxL K) := by subst h; exact ix_list
theorem ix_tupK (K : PySem.W.Frag) (h : X.K = K := by rfl) : IxR X (rIxT K) := by subst h; exact ix_tup
theorem ix_seqK (K : PySem.W.Frag) (h : X.K = K := by rfl) : IxR X (rIx K) := by subst h; exact ix_seq
theorem op_inK (K : PySem.W.Frag) (h : X.K = K := by rfl) : OpR X (compareOp .In) (rIn K false) := by subst h; exact op_in_seq
theorem op_notInK (K : PySem.W.Frag) (h : X.K = K := by rfl) : OpR X (compareOp .NotIn) (rIn K true) := by subst h; exact op_notIn_seq
theorem isiK (K : PySem.W.Frag) (h : X.K = K := by rfl) : CallR X (.builtin "isinstance") (rIsi K) := by subst h; exact call_isi
theorem isiTK (K : PySem.W.Frag) (h : X.K = K := by rfl) : CallR X (.builtin "isinstance") (rIsiT K) := by subst h; exact call_isiT
theorem sl_listK (K : PySem.W.Frag) (h : X.K = K := by rfl) : SlR X (rSlL K) := by subst h; exact sl_list
theorem sl_tupK (K : PySem.W.Frag) (h : X.K = K := by rfl) : SlR X (rSlT K) := by subst h; exact sl_tup
end

/-! ### a join: what holds behind a statement is said -/
def tCut (t : TS) : TS := fun D σ H => ∃ Pv : L2.St → Hp → Prop, t { D with nx := Pv } σ H ∧ ∀ σ' H', Pv σ' H' → D.nx σ' H'
theorem ps_cut {X : Cx} {st : Stmt} {t : TS} (h : PS X st t) : PS X st (tCut t) := by
  refine ⟨fun pins s σ H D I ⟨Pv, h1, h2⟩ => thn (h.run pins s σ H { D with nx := Pv } I h1) fun f s' hf => ?_⟩
  cases f with
  | next =>
    obtain ⟨σ', H', I', q⟩ := hf
    exact ⟨σ', H', I', h2 _ _ q⟩
  | brk => exact hf
  | cont => exact hf
  | ret u => exact hf

/-! ### heaps -/
theorem same_upd {H : Hp} {p : Addr} {o : HO} (h : H p = none) : Same H (upd H p o) := fun b x e => by
  rw [upd_ne (ne_of_none e h)]
  exact e
theorem _root_.L2.Same.upd {H H1 : Hp} {p : Addr} {o : HO} (s : Same H H1) (h : H1 p = none) : Same H (upd H1 p o) := s.trans (same_upd h)
theorem _root_.L2.Same.seqT {K : PySem.W.Frag} {H H' : Hp} {a : Addr} {xs : List V} (e : Same H H') (h : SqT K H a xs) : SqT K H' a xs := by
  rcases h with (h | ⟨o, h⟩) | h
  · exact .inl (.inl (e _ _ h))
  · exact .inl (.inr ⟨o, e _ _ h⟩)
  · exact .inr h
/-- all but p and g is as it was -/
def Keep (p g : Addr) (H H' : Hp) : Prop := ∀ b, b ≠ p → b ≠ g → ∀ o, H b = some o → H' b = some o
theorem Keep.refl (p g : Addr) (H : Hp) : Keep p g H H := fun _ _ _ _ h => h
theorem Keep.trans {p g : Addr} {H H1 H2 : Hp} (a : Keep p g H H1) (b : Keep p g H1 H2) : Keep p g H H2 := fun c h1 h2 o e => b c h1 h2 o (a c h1 h2 o e)
theorem Keep.of_same {p g : Addr} {H H' : Hp} (a : Same H H') : Keep p g H H' := fun c _ _ o e => a c o e
theorem Keep.upd {p g a : Addr} {H H1 : Hp} {o : HO} (k : Keep p g H H1) (h : H1 a = none) : Keep p g H (L2.upd H1 a o) := k.trans (.of_same (same_upd h))
theorem not_two {α : Type} {x : α} {o : Option α} (h : o = none) (h' : o = some x) : False := by
  rw [h] at h'
  cases h'

/-! ### the purse of numbers -/
structure Purse (H : Hp) (p c g : Addr) (n : Nat) : Prop where
  ex : ∃ (cs gs : List Int) (k : Int), H p = some (.lst [.ref c, .ref g, .int k]) ∧ H c = some (.lst (cs.map V.int)) ∧ H g = some (.lst (gs.map V.int)) ∧ cs.length = gs.length ∧ 0 < cs.length ∧ (∀ z ∈ gs, 0 ≤ z) ∧ 0 ≤ k ∧ k ≤ (n : Int)
  pc : p ≠ c
  pg : p ≠ g
  cg : c ≠ g
theorem Purse.mono {H : Hp} {p c g : Addr} {m n : Nat} (P : Purse H p c g m) (h : m ≤ n) : Purse H p c g n := by
  obtain ⟨⟨cs, gs, k, a⟩, b⟩ := P
  exact ⟨⟨cs, gs, k, a.1, a.2.1, a.2.2.1, a.2.2.2.1, a.2.2.2.2.1, a.2.2.2.2.2.1, a.2.2.2.2.2.2.1, by have := a.2.2.2.2.2.2.2; omega⟩, by assumption, by assumption, by assumption⟩
theorem Purse.same {H H' : Hp} {p c g : Addr} {n : Nat} (P : Purse H p c g n) (s : Same H H') : Purse H' p c g n := by
  obtain ⟨⟨cs, gs, k, h1, h2, h3, r⟩, b1, b2, b3⟩ := P
  exact ⟨⟨cs, gs, k, s _ _ h1, s _ _ h2, s _ _ h3, r⟩, b1, b2, b3⟩
theorem Purse.at_p {H : Hp} {p c g : Addr} {n : Nat} (P : Purse H p c g n) : ∃ o, H p = some o := by
  obtain ⟨⟨_, _, _, h, _⟩, _⟩ := P
  exact ⟨_, h⟩
theorem Purse.at_g {H : Hp} {p c g : Addr} {n : Nat} (P : Purse H p c g n) : ∃ o, H g = some o := by
  obtain ⟨⟨_, _, _, _, _, h, _⟩, _⟩ := P
  exact ⟨_, h⟩
/-- a new address is neither of the purse's two lists that change -/
theorem Purse.new {H : Hp} {p c g a : Addr} {n : Nat} (P : Purse H p c g n) (h : H a = none) : a ≠ p ∧ a ≠ g := by
  obtain ⟨o, hp⟩ := P.at_p
  obtain ⟨u, hg⟩ := P.at_g
  exact ⟨fun e => not_two h (e ▸ hp), fun e => not_two h (e ▸ hg)⟩
/-- a tuple, a dict, an instance is neither -/
theorem Purse.ne {H : Hp} {p c g a : Addr} {n : Nat} {o : HO} (P : Purse H p c g n) (h : H a = some o) (d : ∀ xs, o ≠ .lst xs) : a ≠ p ∧ a ≠ g := by
  obtain ⟨⟨_, _, _, hp, _, hg, _⟩, _⟩ := P
  exact ⟨ne_of h hp (d _), ne_of h hg (d _)⟩
/-- draws: p[2] goes up, an item of g may change -/
def spDraw : Sp := fun vs H Q _ => ∃ (p c g : Addr) (n : Nat) (m : Int), vs = [.ref p, .int m] ∧ Purse H p c g n ∧ n ≤ 1000000000 ∧ 1 ≤ m ∧ m < 1073741824 ∧
  ∀ H' (r : Int), Keep p g H H' → Purse H' p c g (n + 1) → 0 ≤ r → r < m → Q (.int r) H'

theorem get_int {ns : List Int} {i : Nat} (h : i < ns.length) : (ns.map V.int)[i]? = some (.int ns[i]) := by
  rw [List.getElem?_map, List.getElem?_eq_getElem h]
  rfl
theorem atI_int {ns : List Int} {i : Int} (h0 : 0 ≤ i) (h : i < (ns.length : Int)) : ∃ z, z ∈ ns ∧ ns[i.toNat]? = some z ∧ atI (ns.map V.int) i = some (.int z) := by
  have h1 : i.toNat < ns.length := by omega
  refine ⟨ns[i.toNat], List.getElem_mem h1, List.getElem?_eq_getElem h1, ?_⟩
  have e : ((i.toNat : Nat) : Int) = i := by omega
  have q := atI_nat (get_int h1)
  rwa [e] at q
theorem ixN_in {n : Nat} {i : Int} (h0 : 0 ≤ i) (h : i < (n : Int)) : ixN n i = some i.toNat := by
  unfold ixN
  rw [if_pos h0, if_pos h]
theorem set_map {ns : List Int} {i : Nat} {z : Int} : (ns.map V.int).set i (.int z) = (ns.set i z).map V.int := by
  rw [List.map_set]
end Sv

namespace Sv
open PySem PySem.Spec PyProof.Rows L2
theorem iteD {c A B : Prop} [Decidable c] (hc : c) (h : A) : if c then A else B := by
  rw [if_pos hc]
  exact h
theorem iteN {c A B : Prop} [Decidable c] (hc : ¬ c) (h : B) : if c then A else B := by
  rw [if_neg hc]
  exact h
/-! ### walks over what is a list or a tuple -/
/-- enumerate's making over a tuple: two new objects, the tuple's iterator and the enumeration over it -/
def enT (h : Heap) (t : Addr) : Heap := (h.push { cls := .type "tuple_iterator", data := .fields #[.ref t, .int 0 0] }).push { cls := .type "enumerate", data := .fields #[.none, .bool false, .ref h.objs.size, rawInt 0, .none, .none] }
theorem enT_size (h : Heap) (t : Addr) : (enT h t).objs.size = h.objs.size + 2 := by unfold enT; rw [Heap.size_push, Heap.size_push]
theorem enT_keep {h : Heap} {t b : Addr} {o : Obj} (e : h.get? b = some o) : (enT h t).get? b = some o := Heap.get?_push_of_some _ (Heap.get?_push_of_some _ e)
theorem enT_it (h : Heap) (t : Addr) : (enT h t).IsTupleIter h.objs.size t 0 := ⟨_, Heap.get?_push_of_some _ (Heap.get?_push_size _ rfl), rfl, rfl⟩
theorem enT_en (h : Heap) (t : Addr) : IsEnum (enT h t) (h.objs.size + 1) h.objs.size 0 .none := by
  have q := Heap.get?_push_size (h.push { cls := .type "tuple_iterator", data := .fields #[.ref t, .int 0 0] }) (o := { cls := .type "enumerate", data := .fields #[.none, .bool false, .ref h.objs.size, rawInt 0, .none, .none] }) rfl
  rwa [Heap.size_push] at q
theorem enT_made (t : Addr) (its : Array Value) (n : Nat) (d : Option Addr) (sl : Array (Option Value)) : Meets (Builtin.«enumerate.__new__» ⟨[.type "enumerate", .ref t], []⟩) (fun _ R s =>
      s.heap.get? t = some ⟨.type "tuple", d, .seq its n, sl⟩ ∧ R (.ok (.ret (.ref (s.heap.push { cls := .type "tuple_iterator", data := .fields #[.ref t, .int 0 0] }).objs.size))) { s with heap := enT s.heap t }) := .of_wp fun prog w A R s h => by
  rcases s with ⟨hp, g, dr, tk, os⟩
  rcases h with ⟨ht, hR⟩
  have sub := sub_enumerate
  have it : Heap.IsTuple (Shared.heap ⟨hp, g, dr, tk, os⟩) t its := ⟨_, ht, rfl, n, rfl⟩
  wp_walk using AutoSeq1.wpAny_loadPart' ht
  refine wpAny_stack_any fun _ => wpAny_pure ?_
  split
  · rename_i c _ _ _ _ _
    rcases c == Value.type "enumerate" with _ | _ <;> (wp_walk using AutoSeq1.wpAny_loadPart' ht, wpAny_pyIter_tuple it; exact ⟨_, rfl, hR⟩)
  · wp_walk using AutoSeq1.wpAny_loadPart' ht, wpAny_pyIter_tuple it; exact ⟨_, rfl, hR⟩
theorem enT_call {prog : Program} {w : World} {A : Around} {E : Value → Shared → Prop} {s : Shared} {t : Addr} {its : Array Value} {Q : Value → Shared → Prop} (ht : s.heap.IsTuple t its) (hQ : Q (.ref (s.heap.objs.size + 1)) { s with heap := enT s.heap t }) :
    wpAny (model prog w) A (call (.type "enumerate") [.ref t]) Q E s := by
  obtain ⟨⟨c, d, dt, sl⟩, e, rfl, n, rfl⟩ := ht
  have z : (s.heap.push { cls := .type "tuple_iterator", data := .fields #[.ref t, .int 0 0] }).objs.size = s.heap.objs.size + 1 := Heap.size_push ..
  refine callType_new F.called_enumerate (by decide) (F.typeCall_enumerate_1 _) (F.newCall_enumerate_1 _) (fun ob => F.args_object_init_2 ob _) F.entry_enumerate_new (enT_made t its n d sl) ⟨e, ?_⟩
  rw [z]
  exact ⟨⟨_, enT_en s.heap t, rfl⟩, hQ⟩
theorem enT_done {prog : Program} {w : World} {A : Around} {E : Value → Shared → Prop} {s : Shared} {e it t : Addr} {i : Nat} {c : Int} {its : Array Value} {old : Value} {Q : Option Value → Shared → Prop} (hd : A.handled = none) (hI : s.heap.IsTupleIter it t i) (hT : s.heap.IsTuple t its) (no : its[i]? = none)
    (hE : IsEnum s.heap e it c old) (hQ : ∀ h', Heap.ExtBut it s.heap h' → Q none { s with heap := h' }) : wpAny (model prog w) A (pyNext (.ref e)) Q E s := by
  have ty : s.TypeIs (.ref e) "enumerate" := ⟨_, hE, rfl⟩
  unfold pyNext
  refine wpAny_bind (wpAny_attempt (wpAny_callSpecial?_slot (name := Str.ofString "__next__") ty F.slot_enumerate_next (wpAny_call_entry F.slot_enumerate_next ty F.entry_enumerate_next ?_ (F.args_enumerate_next_1 _))))
  show wpAny _ _ (field (.ref e) 2 >>= _) _ _ _
  refine wpAny_bind (wpAny_field hE rfl (x := .ref it) rfl (wpAny_bind (wpAny_nextOf_tuple_end hd hI hT no fun h' x k ⟨o, ho, hc⟩ => ?_)))
  exact wpAny_bind (wpAny_isInstance (T := "StopIteration") (b := true) ⟨o, ho, hc⟩ isSubtype_stop (wpAny_pure (hQ h' k)))
/-- the tuple at a, each item in a new pair -/
def IteT (K : PySem.W.Frag) (a : Addr) : It where
  go := fun i H => ∃ (xs : List V) (x : V), SqT K H a xs ∧ xs[i]? = some x
  yld := fun i H v H' => ∃ T x, v = .ref T ∧ H T = none ∧ H' = upd H T (.tup [.int (i : Nat), x]) ∧ ∀ xs, SqT K H a xs → xs[i]? = some x
  stop := fun i H => ∃ xs : List V, SqT K H a xs ∧ xs.length ≤ i
theorem enT_turn {P : Program} {w : World} {K : PySem.W.Frag} {elts : List Expr} {kk : Nat} {tpos : Pos} (a e it : Addr) (ea : e ≠ a) (ia : a ≠ it) :
    Turn P w K (.Tuple elts kk tpos) (IteT K a) [e, it] e (fun i h => (∃ old, IsEnum h e it ((i : Nat) : Int) old) ∧ h.IsTupleIter it a i ∧ e ≠ it) := by
  refine ⟨List.mem_cons_self, fun i h st b hb => ?_, fun i h h' st k => ?_, ?_, ?_, fun A i s Q E st h => ?_⟩
  · rcases st with ⟨⟨_, hE⟩, ⟨_, hI, _, hD⟩, _⟩
    simp only [List.mem_cons, List.not_mem_nil, or_false] at hb
    rcases hb with rfl | rfl
    · exact ⟨_, hE, fun _ q => by cases q⟩
    · exact ⟨_, hI, fun _ q => by rw [hD] at q; cases q⟩
  · rcases st with ⟨⟨old, hE⟩, hI, ne⟩
    exact ⟨⟨old, k e List.mem_cons_self _ hE⟩, hI.at fun o q => k it (List.mem_cons_of_mem _ List.mem_cons_self) o q, ne⟩
  · rintro X rfl rfl rfl hc i pins s σ H E I hf ⟨⟨old, hE⟩, hI, ne⟩ ⟨xs, x, hq, hx⟩
    obtain ⟨its, rv, p, _⟩ := I.tuple hq
    obtain ⟨u, hu, ru⟩ := rv.get hx
    have le : e < s.heap.objs.size := Heap.lt_size hE
    have li : it < s.heap.objs.size := by rcases hI with ⟨_, q, _⟩; exact Heap.lt_size q
    have inside : i < its.toArray.size := by simpa using (List.getElem?_eq_some_iff.mp hu).1
    have far : e ∉ [it, a] := by simp only [List.mem_cons, List.not_mem_nil, or_false, not_or]; exact ⟨ne, ea⟩
    refine wpAny_pyNext_enum_itemD (Draws.tuple (A := X.A.in1) (I.ok.hd hc) it a ia its.toArray) hE ⟨hI, p⟩ inside ne far fun x' h' tk hP hO hS hN hZ hK => ?_
    obtain rfl : x' = u := Option.some.inj ((show its[i]? = some x' by simpa using hP).symm.trans hu)
    refine ⟨_, rfl, wpAny_letOwnedTupleGo_enum (s := { s with heap := h', toks := tk + 1 }) hO fun h2 hE2 sb => ?_⟩
    have at2 := (sb.2 _ (Nat.ne_of_gt le)).trans hN
    have ob : ObjOk X.prog X.w (upd H s.heap.objs.size (.tup [.int (i : Nat), x])) h2 s.heap.objs.size (.tup [.int (i : Nat), x]) := ⟨by show 2 ≤ sizeLine; decide, _, .cons ⟨_, rfl⟩ (.cons ru .nil), _, at2, rfl, _, rfl⟩
    have J : Inv X pins σ (upd H s.heap.objs.size (.tup [.int (i : Nat), x])) { s with heap := h2, toks := tk + 1 } := by
      refine I.turnedNew (ch := [e, it]) (fun b o nb q => ?_) hf (Nat.le_refl _) ob
      simp only [List.mem_cons, List.not_mem_nil, or_false, not_or] at nb
      exact (sb.2 b nb.1).trans (hK b o nb.1 nb.2 q)
    refine ⟨.ref s.heap.objs.size, _, J, rfl, ⟨_, x, rfl, I.hok.fresh (Nat.le_refl _), rfl, fun ys hy => I.tuple_inj hy hq ▸ hx⟩, ⟨⟨x', ?_⟩, hS.1.at fun o q => (sb.2 it ne.symm).trans q, ne⟩, fun b hb => ?_⟩
    · rw [Int.natCast_succ]
      exact hE2
    · have lb : b < s.heap.objs.size := by
        simp only [List.mem_cons, List.not_mem_nil, or_false] at hb
        rcases hb with rfl | rfl <;> assumption
      exact (upd_ne (Nat.ne_of_lt lb)).trans (hf b hb).1
  · rintro X rfl rfl rfl hc i pins s σ H E I hf ⟨⟨old, hE⟩, hI, ne⟩ ⟨xs, hq, hx⟩
    obtain ⟨its, rv, p, _⟩ := I.tuple hq
    obtain ⟨q0, q1, q2, q3, q4, q5⟩ := hf it (List.mem_cons_of_mem _ List.mem_cons_self)
    have le := rv.length
    exact enT_done (I.ok.hd hc) hI p (by simp; omega) hE fun h' k => ⟨rfl, I.turned (t' := s.toks) (fun b o nb q => k b o nb q) q0 q1 q3 q4 q5⟩
  · rcases st with ⟨⟨_, hE⟩, _⟩
    exact wpAny_pyIter_enum hE h
section
variable {K : PySem.W.Frag} {a : Addr} {xs : List V} {X : Cx}
theorem walk_enumT : Walk (IteT K a) xs.length (fun H => SqT K H a xs) (YPair (fun i => some (.int (i : Nat))) (fun i => xs[i]?)) where
  goes := fun i _ hi q => ⟨xs, xs[i], q, List.getElem?_eq_getElem hi⟩
  stops := fun _ q => ⟨xs, q, Nat.le_refl _⟩
  yields := fun i _ _ _ _ q ⟨T, x, h1, h2, h3, h4⟩ => ⟨T, _, x, h1, h2, h3, rfl, h4 xs q⟩
/-- new iterators of the frame -/
theorem fp_new {pins : List (Addr × Obj)} {σ : L2.St} {H : Hp} {s : Shared} (I : Inv X pins σ H s) {b : Addr} (h : s.heap.objs.size ≤ b) : FpOk X pins H b := I.fpOk h (I.hok.fresh h)
/-- a list or a tuple walked: item by item, while what was tracked stays -/
def iSq (K : PySem.W.Frag) (te : TE) : TI := fun σ H R => te σ H fun x H1 => ∃ a xs, x = .ref a ∧ (SqL K H1 a xs ∨ SqT K H1 a xs) ∧ ∀ J, Walk J xs.length (fun H2 => Same H1 H2) (YAt xs) → R J H1
theorem pi_sq {tg l : Expr} {tl : TE} (hl : PE X l tl) : PI X tg l (iSq X.K tl) := ⟨fun pins s σ H R I h => thn (hl.run pins s σ H _ I h) fun v s1 ⟨x, H1, I1, r1, a, xs, ex, hq, q⟩ => by
  subst ex
  cases r1
  have fp : ∀ b ∈ [s1.heap.objs.size], FpOk X pins H1 b := fun b hb => fp_new I1 (by rw [List.mem_singleton.mp hb]; exact Nat.le_refl _)
  rcases hq with hq | hq
  · obtain ⟨its, _, p, _⟩ := I1.list hq
    exact wpAny_pyIter_list p.isList ⟨_, _, _, _, H1, rfl, I1.kept (t' := s1.toks) fun b o z => Heap.get?_push_of_some _ z, turn_list a _, ⟨_, Heap.get?_push_size _ rfl, rfl, rfl⟩, fp, q _ (walk_list.mono (fun H2 s2 => s2.seq hq) fun _ _ _ _ _ _ y => y)⟩
  · obtain ⟨its, _, p, _⟩ := I1.tuple hq
    exact wpAny_pyIter_tuple p ⟨_, _, _, _, H1, rfl, I1.kept (t' := s1.toks) fun b o z => Heap.get?_push_of_some _ z, turn_tuple a _, ⟨_, Heap.get?_push_size _ rfl, rfl, rfl⟩, fp, q _ (walk_tup.mono (fun H2 s2 => s2.seqT hq) fun _ _ _ _ _ _ y => y)⟩⟩
/-- enumerate over a list or a tuple -/
def iEnS (K : PySem.W.Frag) (ta : TA) : TI := fun σ H R => ta σ H fun vs H1 => ∃ a xs, vs = [.ref a] ∧ (SqL K H1 a xs ∨ SqT K H1 a xs) ∧ ∀ J, Walk J xs.length (fun H2 => Same H1 H2) (YPair (fun i => some (.int (i : Nat))) (fun i => xs[i]?)) → R J H1
theorem pi_enS {e : Expr} {ta : TA} {p pos tpos : Pos} {elts : List Expr} {kk : Nat} (hg : Gl X "enumerate") (hm : X.mg "enumerate" = none) (ha : PA X [e] ta) (he : starEach [e] X.env = [(false, eval e X.env)] := by rfl) : PI X (.Tuple elts kk tpos) (.Call (.Name "enumerate" p) [e] [] pos) (iEnS X.K ta) := by
  refine ⟨fun pins s σ H R I h => Call_ (ld_blt I hg hm boot_enumerate (PyProof.Rows.callWith_type1 (thn (ha.run pos pins s σ H _ I h) fun us s1 ⟨vs, H1, I1, r1, a, xs, ex, hq, q⟩ => ?_) he rfl))⟩
  subst ex
  obtain ⟨u, _, rfl, rfl, hn⟩ : ∃ u r, us = u :: r ∧ u = Value.ref a ∧ r = [] := by
    cases r1 with
    | cons z zz => cases zz; exact ⟨_, _, rfl, z, rfl⟩
  subst hn
  have fp : ∀ b ∈ [s1.heap.objs.size + 1, s1.heap.objs.size], FpOk X pins H1 b := fun b hb => fp_new I1 (by
    rcases List.mem_cons.mp hb with z | z
    · rw [z]; exact Nat.le_succ _
    · rw [List.mem_singleton.mp z]; exact Nat.le_refl _)
  rcases hq with hq | hq
  · obtain ⟨its, _, p', _⟩ := I1.list hq
    exact call_enumerate_list p'.isList fun h' en it sz k => wpAny_pyIter_enum en ⟨_, _, _, _, H1, rfl, I1.kept (t' := s1.toks) k, turn_enum a _ _, ⟨⟨.none, en⟩, it, Nat.succ_ne_self _⟩, fp, q _ (walk_enum.mono (fun H2 s2 => s2.seq hq) fun _ _ _ _ _ _ y => y)⟩
  · obtain ⟨its, _, p', _⟩ := I1.tuple hq
    have la : a < s1.heap.objs.size := by obtain ⟨o, ho, _⟩ := p'; exact Heap.lt_size ho
    exact enT_call p' (wpAny_pyIter_enum (enT_en s1.heap a) ⟨_, _, _, _, H1, rfl, I1.kept (t' := s1.toks) fun b o z => enT_keep z, enT_turn a _ _ (Nat.ne_of_gt (Nat.lt_succ_of_lt la)) (Nat.ne_of_lt la), ⟨⟨.none, enT_en s1.heap a⟩, enT_it s1.heap a, Nat.succ_ne_self _⟩, fp, q _ (walk_enumT.mono (fun H2 s2 => s2.seqT hq) fun _ _ _ _ _ _ y => y)⟩)
end
end Sv

namespace Sv
open PySem PySem.Spec PyProof.Rows L2
open C8 (Cal Mak Met cal0 mak0 met0 pe_c pe_mk pe_mt pe_mt0 fnBody fnArgs fnScope scC fnScope_by pe_gc InsC call_isC)
/-! ### the text by places -/
def topS (i : Nat) : Stmt := PySem.Challenge.pw_slipstold_k12_script_sums.main.body.getD i (.Pass ⟨0, 0, 0, 0⟩)
abbrev sBadScript___init__ : Stmt := L2.inClass (topS 2) 0
abbrev sis_name : Stmt := topS 5
abbrev Nis_name : List Str := ["value", "letter"]
theorem scis_name : FnScope Nis_name ["value"] (fnScope sis_name) := fnScope_by (by decide +kernel)
abbrev ssource : Stmt := topS 8
abbrev Nsource : List Str := ["script", "edit"]
theorem scsource : FnScope Nsource ["script"] (fnScope ssource) := fnScope_by (by decide +kernel)
abbrev starget : Stmt := topS 9
abbrev Ntarget : List Str := ["script", "edit"]
theorem sctarget : FnScope Ntarget ["script"] (fnScope starget) := fnScope_by (by decide +kernel)
abbrev scost : Stmt := topS 10
abbrev Ncost : List Str := ["script", "edit"]
theorem sccost : FnScope Ncost ["script"] (fnScope scost) := fnScope_by (by decide +kernel)
abbrev scheck_script : Stmt := topS 11
abbrev Ncheck_script : List Str := ["script", "place"]
theorem sccheck_script : FnScope Ncheck_script ["script"] (fnScope scheck_script) := fnScope_by (by decide +kernel)
abbrev sbad_edit_place : Stmt := topS 12
abbrev Nbad_edit_place : List Str := ["script", "place", "edit"]
theorem scbad_edit_place : FnScope Nbad_edit_place ["script"] (fnScope sbad_edit_place) := fnScope_by (by decide +kernel)
abbrev sis_edit : Stmt := topS 13
abbrev Nis_edit : List Str := ["value", "item"]
theorem scis_edit : FnScope Nis_edit ["value"] (fnScope sis_edit) := fnScope_by (by decide +kernel)
abbrev s_law_purse : Stmt := topS 15
abbrev N_law_purse : List Str := ["_law_script_here", "_law_cells", "_law_great", "_law_k", "_law_cell"]
theorem sc_law_purse : FnScope N_law_purse ["_law_script_here"] (fnScope s_law_purse) := fnScope_by (by decide +kernel)
abbrev s_law_draw : Stmt := topS 16
abbrev N_law_draw : List Str := ["_law_purse_here", "_law_many", "_law_at", "_law_rest", "_law_number"]
theorem sc_law_draw : FnScope N_law_draw ["_law_purse_here", "_law_many"] (fnScope s_law_draw) := fnScope_by (by decide +kernel)
abbrev s_law_name : Stmt := topS 17
abbrev N_law_name : List Str := ["_law_purse_here", "_law_word", "_law_k"]
theorem sc_law_name : FnScope N_law_name ["_law_purse_here"] (fnScope s_law_name) := fnScope_by (by decide +kernel)
abbrev s_law_names : Stmt := topS 18
abbrev N_law_names : List Str := ["_law_purse_here", "_law_many", "_law_plain", "_law_spelled", "_law_names_here", "_law_k", "_law_word", "_law_each"]
theorem sc_law_names : FnScope N_law_names ["_law_purse_here", "_law_many"] (fnScope s_law_names) := fnScope_by (by decide +kernel)
abbrev s_law_script : Stmt := topS 19
abbrev N_law_script : List Str := ["_law_purse_here", "_law_names_here", "_law_most", "_law_script_here", "_law_k", "_law_kind", "_law_t", "_law_others", "_law_name_here"]
theorem sc_law_script : FnScope N_law_script ["_law_purse_here", "_law_names_here", "_law_most"] (fnScope s_law_script) := fnScope_by (by decide +kernel)
abbrev s_law_same : Stmt := topS 20
abbrev N_law_same : List Str := ["_law_actual", "_law_due", "_law_k", "_law_key"]
theorem sc_law_same : FnScope N_law_same ["_law_actual", "_law_due"] (fnScope s_law_same) := fnScope_by (by decide +kernel)
abbrev slaw : Stmt := topS 21
abbrev Nlaw : List Str := ["_law_script_here", "_law_purse_here", "_law_names_here", "_law_edits", "_law_read", "_law_written", "_law_changes", "_law_edit", "_law_due", "_law_handed", "_law_heard", "_law_again"]
theorem sclaw : FnScope Nlaw ["_law_script_here"] (fnScope slaw) := fnScope_by (by decide +kernel)
/-- what the module's names are, as far as no def -/
structure Txt (K : PySem.W.Frag) (mg : Str → Option Value) : Prop where
  «isinstance» : mg "isinstance" = none
  «str» : mg "str" = none
  «len» : mg "len" = none
  «all» : mg "all" = none
  «tuple» : mg "tuple" = none
  «list» : mg "list" = none
  «enumerate» : mg "enumerate" = none
  «int» : mg "int" = none
  «abs» : mg "abs" = none
  «range» : mg "range" = none
  «bool» : mg "bool" = none
  «dict» : mg "dict" = none
  LONGEST_NAME : ∃ u, mg "LONGEST_NAME" = some u ∧ RelV (.int 8) u
  LONGEST_SCRIPT : ∃ u, mg "LONGEST_SCRIPT" = some u ∧ RelV (.int 5000) u
end Sv

namespace Sv
open PySem PySem.Spec PyProof.Rows L2
open C8 (Cal Mak Met cal0 mak0 met0 pe_c pe_mk pe_mt pe_mt0 fnBody fnArgs fnScope scC fnScope_by pe_gc InsC call_isC)
section
variable {P : Program} {w : World} {K : PySem.W.Frag} {mg : Str → Option Value} {base : Heap}
theorem ok_law_draw (D : Dn K mg "_law_draw" s_law_draw ["_law_purse_here", "_law_many"]) (T : Txt K mg) : Cal P w K mg base 1 "_law_draw" spDraw [] := by
  refine D.cal sc_law_draw (fun vs H Q E h => ?_) (fun f cdv A outer s H vs Q E hr h => ?_)
  · obtain ⟨p, c, g, n, m, rfl, _⟩ := h
    rfl
  · obtain ⟨p, c, g, n, m, rfl, ⟨⟨cs, gs, k, hp, hc, hg, hl, h0, hz, k0, kn⟩, npc, npg, ncg⟩, hn, m1, m2, q⟩ := h
    refine ⟨_, (pss_cons (ps_asg (pe_op op_add (pe_ix ix_list (pv 0) pe_int (fun _ _ => rfl)) pe_int) (pg_sub (pv 0) pe_int set_list))
      (pss_cons (ps_set (i := 2) sc_law_draw.nd rfl (Or.inl rfl) (pe_op op_mod (pe_callTy call_int1 (by rfl) T.int (by decide +kernel) (pa_cons (pe_ix ix_list (pv 0) pe_int (fun _ _ => rfl)) pa_nil)) (pe_callB call_len_seq (by rfl) T.len PySem.boot_len (pa_cons (pe_ix ix_list (pv 0) pe_int (fun _ _ => rfl)) pa_nil))))
      (pss_cons (ps_set (i := 3) sc_law_draw.nd rfl (Or.inl rfl) (pe_ix ix_list (pe_ix ix_list (pv 0) pe_int (fun _ _ => rfl)) (pv 2) (fun _ _ => rfl)))
      (pss_cons (ps_if (pt_cmpR op_gt (pv 3) pe_int (nomark _)) (pss_cons (ps_asg (pe_op op_fdiv (pv 3) (pv 1)) (pg_sub (pe_ix ix_list (pv 0) pe_int (fun _ _ => rfl)) (pv 2) set_list)) (pss_one (ps_ret (pe_op op_mod (pe_callTy call_int1 (by rfl) T.int (by decide +kernel) (pa_cons (pv 3) pa_nil)) (pv 1))))) pss_nil)
      (pss_cons (ps_set (i := 4) sc_law_draw.nd rfl (Or.inl rfl) (pe_op op_add (pe_op op_add (pe_op op_mod (pe_callTy call_int1 (by rfl) T.int (by decide +kernel) (pa_cons (pe_ix ix_list (pe_ix ix_list (pv 0) pe_int (fun _ _ => rfl)) (pv 2) (fun _ _ => rfl)) pa_nil)) pe_int) (pe_op op_mul pe_int (pe_ix ix_list (pv 0) pe_int (fun _ _ => rfl)))) pe_int))
      (pss_cons (ps_set (i := 4) sc_law_draw.nd rfl (Or.inl rfl) (pe_op op_mod (pe_callTy call_int1 (by rfl) T.int (by decide +kernel) (pa_cons (pe_op op_mul (pv 4) pe_int) pa_nil)) pe_int))
      (pss_cons (ps_set (i := 4) sc_law_draw.nd rfl (Or.inl rfl) (pe_op op_mod (pe_callTy call_int1 (by rfl) T.int (by decide +kernel) (pa_cons (pe_op op_mul (pv 4) (pe_op op_add (pe_op op_fdiv (pv 4) pe_int) pe_int)) pa_nil)) pe_int))
      (pss_cons (ps_set (i := 4) sc_law_draw.nd rfl (Or.inl rfl) (pe_op op_mod (pe_callTy call_int1 (by rfl) T.int (by decide +kernel) (pa_cons (pe_op op_mul (pv 4) (pe_op op_add (pe_op op_fdiv (pv 4) pe_int) pe_int)) pa_nil)) pe_int))
      (pss_one (ps_ret (pe_op op_mod (pe_callTy call_int1 (by rfl) T.int (by decide +kernel) (pa_cons (pe_op op_fdiv (pv 4) pe_int) pa_nil)) (pv 1)))))))))))), ?_⟩
    -- p[2] = p[2] + 1
    refine ⟨_, rfl, p, _, 2, _, rfl, rfl, SqL.of hp, rfl, k, 1, rfl, rfl, _, rfl, p, _, _, 2, rfl, rfl, hp, rfl, ?_⟩
    have P1 : (upd H p (.lst [.ref c, .ref g, .int (k + 1)])) p = some (.lst [.ref c, .ref g, .int (k + 1)]) := upd_same
    have C1 : (upd H p (.lst [.ref c, .ref g, .int (k + 1)])) c = some (.lst (cs.map V.int)) := by rw [upd_ne npc.symm]; exact hc
    have G1 : (upd H p (.lst [.ref c, .ref g, .int (k + 1)])) g = some (.lst (gs.map V.int)) := by rw [upd_ne npg.symm]; exact hg
    have K1 : Keep p g H (upd H p (.lst [.ref c, .ref g, .int (k + 1)])) := fun b b1 b2 o e => by rw [upd_ne b1]; exact e
    show tSeq _ _ _ _ (upd H p (.lst [.ref c, .ref g, .int (k + 1)]))
    generalize upd H p (.lst [.ref c, .ref g, .int (k + 1)]) = H1 at P1 C1 G1 K1 ⊢
    -- at = int(p[2]) % len(p[0])
    refine ⟨_, rfl, p, _, 2, _, rfl, rfl, SqL.of P1, rfl, .inl ⟨_, rfl, _, rfl, p, _, 0, _, rfl, rfl, SqL.of P1, rfl, c, _, rfl, .inl (SqL.of C1), _, _, rfl, rfl, ?_, ?_⟩⟩
    · rw [List.length_map]
      omega
    have a0 : 0 ≤ (k + 1) % (((cs.map V.int).length : Nat) : Int) := Int.emod_nonneg _ (by rw [List.length_map]; omega)
    have a1 : (k + 1) % (((cs.map V.int).length : Nat) : Int) < (cs.length : Int) := by
      have := Int.emod_lt_of_pos (k + 1) (b := (((cs.map V.int).length : Nat) : Int)) (by rw [List.length_map]; omega)
      rw [List.length_map] at this ⊢
      exact this
    show tSeq _ _ _ (List.set _ 2 (some (V.int ((k + 1) % (((cs.map V.int).length : Nat) : Int))))) H1
    generalize (k + 1) % (((cs.map V.int).length : Nat) : Int) = at_ at a0 a1 ⊢
    obtain ⟨u, _, hu, eu⟩ := atI_int (ns := cs) a0 a1
    obtain ⟨v, mv, hv, ev⟩ := atI_int (ns := gs) a0 (hl ▸ a1)
    have v0 := hz v mv
    -- rest = p[1][at]
    refine ⟨_, rfl, p, _, 1, _, rfl, rfl, SqL.of P1, rfl, _, rfl, g, _, at_, _, rfl, rfl, SqL.of G1, ev, ?_⟩
    -- if rest > 0
    refine ⟨_, rfl, _, _, rfl, rfl, _, rfl, ite2 (fun hv0 => ?_) (fun hv0 => ?_)⟩
    · have hv0 : 0 < v := of_decide_eq_true hv0
      -- p[1][at] = rest // many
      refine ⟨_, rfl, _, rfl, _, _, rfl, rfl, ⟨by omega, m2⟩, _, rfl, p, _, 1, _, rfl, rfl, SqL.of P1, rfl, _, rfl, g, _, at_, _, rfl, rfl, G1, ixN_in a0 (by rw [List.length_map]; omega), ?_⟩
      -- return int(rest) % many
      refine ⟨_, rfl, .inl ⟨_, rfl, _, rfl, _, _, rfl, rfl, (by show (0 : Int) < m; omega), ?_⟩⟩
      refine q _ _ (fun b b1 b2 o e => by rw [upd_ne b2]; exact K1 b b1 b2 o e) ⟨⟨cs, gs.set at_.toNat (v / m), k + 1, by rw [upd_ne npg]; exact P1, by rw [upd_ne ncg]; exact C1, by rw [upd_same, set_map], by rw [List.length_set]; exact hl, h0, ?_, by omega, by omega⟩, npc, npg, ncg⟩ (Int.emod_nonneg _ (by omega)) (Int.emod_lt_of_pos _ (by omega))
      intro z hz'
      rcases List.mem_or_eq_of_mem_set hz' with z1 | z1
      · exact hz z z1
      · rw [z1]
        exact Int.ediv_nonneg v0 (by omega)
    -- number = int(p[0][at]) % 2147483629 + 7919 * p[2] + 1
    refine ⟨_, rfl, p, _, 0, _, rfl, rfl, SqL.of P1, rfl, _, rfl, c, _, at_, _, rfl, rfl, SqL.of C1, eu, .inl ⟨_, rfl, _, _, rfl, rfl, (by show (0 : Int) < 2147483629; decide), _, rfl, p, _, 2, _, rfl, rfl, SqL.of P1, rfl, _, _, rfl, rfl, .inl ⟨by decide, by decide⟩, _, _, rfl, rfl, _, _, rfl, rfl, ?_⟩⟩
    have b0 : 0 ≤ u % 2147483629 := Int.emod_nonneg _ (by decide)
    have b1 : u % 2147483629 < 2147483629 := Int.emod_lt_of_pos _ (by decide)
    have c0 : 0 ≤ u % 2147483629 + 7919 * (k + 1) + 1 := by omega
    have c1 : u % 2147483629 + 7919 * (k + 1) + 1 < 18446744073709551616 := by omega
    show tSeq _ _ _ (List.set _ 4 (some (V.int (u % 2147483629 + 7919 * (k + 1) + 1)))) H1
    generalize u % 2147483629 + 7919 * (k + 1) + 1 = x1 at c0 c1 ⊢
    -- number = int(number * 48271) % 2147483647
    refine ⟨_, rfl, _, _, rfl, rfl, .inl ⟨by show -(18446744073709551616 : Int) < x1; omega, c1⟩, .inl ⟨_, rfl, _, _, rfl, rfl, (by show (0 : Int) < 2147483647; decide), ?_⟩⟩
    have d0 : 0 ≤ x1 * 48271 % 2147483647 := Int.emod_nonneg _ (by decide)
    have d1 : x1 * 48271 % 2147483647 < 2147483647 := Int.emod_lt_of_pos _ (by decide)
    show tSeq _ _ _ (List.set _ 4 (some (V.int (x1 * 48271 % 2147483647)))) H1
    generalize x1 * 48271 % 2147483647 = x2 at d0 d1 ⊢
    refine ⟨_, rfl, _, rfl, _, _, rfl, rfl, ⟨by decide, by decide⟩, _, _, rfl, rfl, _, _, rfl, rfl, .inl ⟨by show -(18446744073709551616 : Int) < x2; omega, by show x2 < (18446744073709551616 : Int); omega⟩, .inl ⟨_, rfl, _, _, rfl, rfl, (by show (0 : Int) < 2147483647; decide), ?_⟩⟩
    have e0 : 0 ≤ x2 * (x2 / 1009 + 69621) % 2147483647 := Int.emod_nonneg _ (by decide)
    have e1 : x2 * (x2 / 1009 + 69621) % 2147483647 < 2147483647 := Int.emod_lt_of_pos _ (by decide)
    show tSeq _ _ _ (List.set _ 4 (some (V.int (x2 * (x2 / 1009 + 69621) % 2147483647)))) H1
    generalize x2 * (x2 / 1009 + 69621) % 2147483647 = x3 at e0 e1 ⊢
    refine ⟨_, rfl, _, rfl, _, _, rfl, rfl, ⟨by decide, by decide⟩, _, _, rfl, rfl, _, _, rfl, rfl, .inl ⟨by show -(18446744073709551616 : Int) < x3; omega, by show x3 < (18446744073709551616 : Int); omega⟩, .inl ⟨_, rfl, _, _, rfl, rfl, (by show (0 : Int) < 2147483399; decide), ?_⟩⟩
    -- return int(number // 16) % many
    refine ⟨_, rfl, _, _, rfl, rfl, ⟨by decide, by decide⟩, .inl ⟨_, rfl, _, rfl, _, _, rfl, rfl, (by show (0 : Int) < m; omega), ?_⟩⟩
    exact q _ _ K1 ⟨⟨cs, gs, k + 1, P1, C1, G1, hl, h0, hz, by omega, by omega⟩, npc, npg, ncg⟩ (Int.emod_nonneg _ (by omega)) (Int.emod_lt_of_pos _ (by omega))
end
end Sv

namespace Sv
open PySem PySem.Spec PyProof.Rows L2
open C8 (Cal Mak Met cal0 mak0 met0 pe_c pe_mk pe_mt pe_mt0 fnBody fnArgs fnScope scC fnScope_by pe_gc InsC call_isC)
def spPurse (K : PySem.W.Frag) : Sp := fun vs H Q _ => ∃ (a : Addr) (ns : List Int), vs = [.ref a] ∧ SqL K H a (ns.map V.int) ∧ ns.length ≤ 63 ∧
  ∀ H' p c g, Same H H' → H p = none → H c = none → H g = none → Purse H' p c g 0 → Q (.ref p) H'
theorem cut63 (ns : List Int) (h : ns.length ≤ 63) : cutV (ns.map V.int) none (some 63) = ns.map V.int := by
  unfold cutV
  rw [show HT.sIx (ns.map V.int).length (ns.map V.int).length (some 63) = min 63 (ns.map V.int).length from HT.sIx_nat _ _ 63, HT.sIx_none, List.drop_zero, List.length_map, Nat.sub_zero, Nat.min_eq_right h]
  exact List.take_of_length_le (by rw [List.length_map]; exact Nat.le_refl _)
section
variable {P : Program} {w : World} {K : PySem.W.Frag} {mg : Str → Option Value} {base : Heap}
theorem ok_law_purse (D : Dn K mg "_law_purse" s_law_purse ["_law_script_here"]) (T : Txt K mg) : Cal P w K mg base 1 "_law_purse" (spPurse K) [] := by
  refine D.cal sc_law_purse (fun vs H Q E h => ?_) (fun f cdv A outer s H vs Q E hr h => ?_)
  · obtain ⟨a, ns, rfl, _⟩ := h
    rfl
  · obtain ⟨a, ns, rfl, hS, hlen, q⟩ := h
    refine ⟨_, (pss_cons (ps_setLc (i := 1) (own := [("_law_cell", 4)]) (g := gName 4) (tt := tYes) (by rfl) sc_law_purse.nd rfl rfl (sw_true rfl rfl rfl (by decide +kernel)) (pi_list (pe_slice sl_list (pv 0) po_none (po_some pe_int))) (blkOk_by (own := [("_law_cell", 4)]) (N := N_law_purse) (sc := fnScope s_law_purse) (by decide +kernel)) (fun _ _ _ _ _ => (pg_name (i := 4) sc_law_purse.nd rfl (Or.inl rfl))) (fun _ _ _ _ _ => pts_nil) (fun _ _ _ _ _ => (pe_callTy call_int1 (by rfl) T.int (by decide +kernel) (pa_cons (pv 4) pa_nil))))
      (pss_cons (ps_cut (ps_if (pt_cmpR op_eq (pe_callB call_len_seq (by rfl) T.len PySem.boot_len (pa_cons (pv 1) pa_nil)) pe_int (nomark _)) (pss_one (ps_set (i := 1) sc_law_purse.nd rfl (Or.inl rfl) (pe_lst (pa_cons pe_int pa_nil)))) pss_nil))
      (pss_cons (ps_setLc (i := 2) (own := [("_law_cell", 4)]) (g := gName 4) (tt := tYes) (by rfl) sc_law_purse.nd rfl rfl (sw_true rfl rfl rfl (by decide +kernel)) (pi_list (pv 1)) (blkOk_by (own := [("_law_cell", 4)]) (N := N_law_purse) (sc := fnScope s_law_purse) (by decide +kernel)) (fun _ _ _ _ _ => (pg_name (i := 4) sc_law_purse.nd rfl (Or.inl rfl))) (fun _ _ _ _ _ => pts_nil) (fun _ _ _ _ _ => (pe_callB call_abs (by rfl) T.abs (by decide +kernel) (pa_cons (pv 4) pa_nil))))
      (pss_cons (ps_for PassesOwn.never rfl (pi_range1 (by rfl) T.range (pa_cons (pe_callB call_len_seq (by rfl) T.len PySem.boot_len (pa_cons (pv 2) pa_nil)) pa_nil)) (pg_name (i := 3) sc_law_purse.nd rfl (Or.inl rfl)) (pss_one (ps_if (pt_cmpR op_lt (pe_ix ix_list (pv 2) (pv 3) (fun _ _ => rfl)) (pe_op op_pow pe_int pe_int) (nomark _)) (pss_one (ps_asg pe_int (pg_sub (pv 2) (pv 3) set_list))) pss_nil)))
      (pss_one (ps_ret (pe_lst (pa_cons (pv 1) (pa_cons (pv 2) (pa_cons pe_int pa_nil)))))))))), ?_⟩
    -- cells = [int(c) for c in script[:63]]
    refine ⟨_, rfl, 63, rfl, a, _, rfl, hS, fun t nt => ?_⟩
    rw [cut63 ns hlen]
    have s1 : Same H (upd H t (.lst (ns.map V.int))) := same_upd nt
    refine ⟨t, rfl, ⟨_, SqL.of upd_same⟩, fun D nD => ?_⟩
    have nDt : t ≠ D := fun e => not_two (e ▸ nD) upd_same
    refine lc_list (K := K) (a := t) (xs := ns.map V.int) (fun i H' => Same H H' ∧ H' t = some (.lst (ns.map V.int)) ∧ H' D = some (.lst ((ns.take i).map V.int)))
      ⟨s1.upd nD, by rw [upd_ne nDt]; exact upd_same, upd_same⟩ (fun i H' _ h => SqL.of h.2.1) (fun i x H' hi h => ?_) (fun H2 h => ?_)
    · obtain ⟨s', ht, hD⟩ := h
      have hi2 : i < ns.length := by
        have q := (List.getElem?_eq_some_iff.mp hi).1
        rw [List.length_map] at q
        exact q
      have ex : x = V.int ns[i] := Option.some.inj (hi.symm.trans (get_int hi2))
      subst ex
      refine ⟨rfl, _, rfl, .inl ⟨_, rfl, _, hD, ?_, fun b o e => ?_, ?_, ?_⟩⟩
      · rw [List.length_map, List.length_take]
        exact Nat.lt_of_le_of_lt (Nat.min_le_right _ _) (small1000 (by omega))
      · rw [upd_ne (fun z => not_two (s1.free nD) (z ▸ e))]
        exact s' b o e
      · rw [upd_ne nDt]
        exact ht
      · rw [upd_same, List.take_add_one, List.getElem?_eq_getElem hi2, List.map_append]
        rfl
    obtain ⟨s2, _, hD⟩ := h
    rw [List.length_map, List.take_length] at hD
    clear s1 nDt
    have nD0 : H D = none := (same_upd nt).free nD
    -- if len(cells) == 0: cells = [0]
    refine ⟨fun σ' H3 => ∃ (c : Addr) (cs : List Int), σ' = [some (.ref a), some (.ref c), none, none, none] ∧ Same H H3 ∧ H c = none ∧ H3 c = some (.lst (cs.map V.int)) ∧ 0 < cs.length ∧ cs.length ≤ 63, ?_, fun σ' H3 h => ?_⟩
    · refine ⟨_, rfl, D, _, rfl, .inl (SqL.of hD), rfl, _, rfl, ite2 (fun hc => ?_) (fun hc => ?_)⟩
      · refine ⟨by show 1 ≤ sizeLine; decide, fun e ne => ?_⟩
        exact ⟨e, [0], rfl, s2.upd ne, s2.free ne, upd_same, by decide, by decide⟩
      · refine ⟨D, ns, rfl, s2, nD0, hD, ?_, hlen⟩
        have : ns.length ≠ 0 := fun z => hc (by rw [List.length_map, z]; rfl)
        omega
    obtain ⟨c, cs, rfl, s3, nc, hc, h0, h63⟩ := h
    refine ⟨_, rfl, c, rfl, ⟨_, SqL.of hc⟩, fun g ng => ?_⟩
    have ncg : c ≠ g := fun e => not_two (e ▸ ng) hc
    refine lc_list (K := K) (a := c) (xs := cs.map V.int) (fun i H' => Same H H' ∧ H' c = some (.lst (cs.map V.int)) ∧ ∃ gs : List Int, H' g = some (.lst (gs.map V.int)) ∧ gs.length = i ∧ ∀ z ∈ gs, 0 ≤ z)
      ⟨s3.upd ng, by rw [upd_ne ncg]; exact hc, [], upd_same, rfl, fun _ h => by cases h⟩ (fun i H' _ h => SqL.of h.2.1) (fun i x H' hi h => ?_) (fun H4 h => ?_)
    · obtain ⟨s', hc', gs, hg, hl, hz⟩ := h
      have hi2 : i < cs.length := by
        have q := (List.getElem?_eq_some_iff.mp hi).1
        rw [List.length_map] at q
        exact q
      have ex : x = V.int cs[i] := Option.some.inj (hi.symm.trans (get_int hi2))
      subst ex
      refine ⟨rfl, _, rfl, _, rfl, _, hg, ?_, fun b o e => ?_, ?_, gs ++ [if cs[i] < 0 then -cs[i] else cs[i]], ?_, ?_, ?_⟩
      · rw [List.length_map, hl]
        exact small1000 (by omega)
      · rw [upd_ne (fun z => not_two (s3.free ng) (z ▸ e))]
        exact s' b o e
      · rw [upd_ne ncg]
        exact hc'
      · rw [upd_same, List.map_append]
        rfl
      · rw [List.length_append, hl]
        rfl
      · intro z hz'
        rcases List.mem_append.mp hz' with z1 | z1
        · exact hz z z1
        · rw [List.mem_singleton] at z1
          rw [z1]
          split <;> omega
    obtain ⟨s4, hc4, gs, hg4, hl4, hz4⟩ := h
    rw [List.length_map] at hl4
    have ng0 : H g = none := s3.free ng
    -- for k in range(len(great)): if great[k] < 10 ** 18: great[k] = 0
    refine ⟨_, rfl, g, _, rfl, .inl (SqL.of hg4), _, rfl, (by rw [List.length_map]; omega), (by rw [List.length_map]; omega), ?_⟩
    rw [List.length_map, Int.toNat_natCast]
    refine for_range (lo := 0) (n := gs.length) (fun _ σ H' => ∃ y, σ = [some (.ref a), some (.ref c), some (.ref g), y, none] ∧ Same H H' ∧ H' c = some (.lst (cs.map V.int)) ∧ ∃ gs : List Int, H' g = some (.lst (gs.map V.int)) ∧ gs.length = cs.length ∧ ∀ z ∈ gs, 0 ≤ z)
      ⟨_, rfl, s4, hc4, gs, hg4, hl4, hz4⟩ (fun i σ H' hi h => ?_) (fun σ H5 h => ?_)
    · obtain ⟨y, rfl, s', hc', gs', hg', hl', hz'⟩ := h
      have i0 : (0 : Int) ≤ 0 + (i : Int) := by omega
      have i1 : (0 : Int) + (i : Int) < ((gs'.length : Nat) : Int) := by omega
      obtain ⟨u, _, hu, eu⟩ := atI_int i0 i1
      refine ⟨_, rfl, _, rfl, g, _, _, _, rfl, rfl, SqL.of hg', eu, _, _, rfl, rfl, ⟨by decide, by decide, by decide⟩, _, _, rfl, rfl, _, rfl, ite2 (fun _ => ?_) (fun _ => ?_)⟩
      · refine ⟨_, rfl, _, rfl, g, _, _, _, rfl, rfl, hg', ixN_in i0 (by rw [List.length_map]; exact i1), ?_⟩
        refine ⟨_, rfl, fun b o e => ?_, ?_, gs'.set (0 + (i : Int)).toNat 0, ?_, ?_, fun z hz2 => ?_⟩
        · rw [upd_ne (fun z => not_two ng0 (z ▸ e))]
          exact s' b o e
        · rw [upd_ne ncg]
          exact hc'
        · rw [upd_same, set_map]
        · rw [List.length_set]
          exact hl'
        · rcases List.mem_or_eq_of_mem_set hz2 with z1 | z1
          · exact hz' z z1
          · omega
      · exact ⟨_, rfl, s', hc', gs', hg', hl', hz'⟩
    obtain ⟨y, rfl, s5, hc5, gs5, hg5, hl5, hz5⟩ := h
    -- return [cells, great, 0]
    refine ⟨_, rfl, _, rfl, (by show 3 ≤ sizeLine; decide), fun p np => ?_⟩
    have npc : p ≠ c := fun e => not_two np (e ▸ hc5)
    have npg : p ≠ g := fun e => not_two np (e ▸ hg5)
    exact q _ p c g (s5.upd np) (s5.free np) nc ng0 ⟨⟨cs, gs5, 0, upd_same, by rw [upd_ne npc.symm]; exact hc5, by rw [upd_ne npg.symm]; exact hg5, hl5.symm, h0, hz5, by omega, by omega⟩, npc, npg, ncg⟩
end
end Sv

namespace Sv
open PySem PySem.Spec PyProof.Rows L2
open C8 (Cal Mak Met cal0 mak0 met0 pe_c pe_mk pe_mt pe_mt0 fnBody fnArgs fnScope scC fnScope_by pe_gc InsC call_isC)
/-! ### names -/
def goodB (s : Str) : Bool := decide (1 ≤ s.cps.size) && decide (s.cps.size ≤ 8) && s.cps.toList.all (fun c => decide (97 ≤ c) && decide (c ≤ 122))
abbrev Good (s : Str) : Prop := goodB s = true
theorem good_mk {s : Str} (h1 : 1 ≤ s.cps.size) (h2 : s.cps.size ≤ 8) (h3 : ∀ c ∈ s.cps.toList, 97 ≤ c ∧ c ≤ 122) : Good s := by
  unfold Good goodB
  rw [decide_eq_true h1, decide_eq_true h2, Bool.true_and, Bool.true_and, List.all_eq_true]
  intro c hc
  have := h3 c hc
  rw [decide_eq_true this.1, decide_eq_true this.2]
  rfl
theorem good_of {s : Str} (h : Good s) : 1 ≤ s.cps.size ∧ s.cps.size ≤ 8 ∧ ∀ c ∈ s.cps.toList, 97 ≤ c ∧ c ≤ 122 := by
  unfold Good goodB at h
  simp only [Bool.and_eq_true, decide_eq_true_eq, List.all_eq_true] at h
  exact ⟨h.1.1, h.1.2, h.2⟩
def abc : Str := "abcdefghijklmnopqrstuvwxyz"
theorem abc_get : ∀ k < 26, abc.cps.toList[k]? = some (97 + k) := by decide +kernel
theorem abc_at {r : Int} (h0 : 0 ≤ r) (h1 : r < 26) : atI abc.cps.toList r = some (97 + r.toNat) := by
  have e : ((r.toNat : Nat) : Int) = r := by omega
  have q := atI_nat (abc_get r.toNat (by omega))
  rwa [e] at q
theorem str_app (a b : Str) : (a ++ b).cps.toList = a.cps.toList ++ b.cps.toList := by
  show (a.cps ++ b.cps).toList = _
  exact Array.toList_append
theorem str_len (a : Str) : a.length = a.cps.toList.length := by
  show a.cps.size = _
  exact Array.length_toList.symm
def plain : List Str := ["a", "b", "c", "d", "e", "f", "g", "h", "i", "j"]
theorem plain_good : ∀ s ∈ plain, Good s := by decide +kernel
theorem plain_nodup : plain.Nodup := by decide +kernel
theorem get_str {ns : List Str} {i : Nat} (h : i < ns.length) : (ns.map V.str)[i]? = some (.str ns[i]) := by
  rw [List.getElem?_map, List.getElem?_eq_getElem h]
  rfl
theorem atI_str {ns : List Str} {i : Int} (h0 : 0 ≤ i) (h : i < (ns.length : Int)) : ∃ z, z ∈ ns ∧ ns[i.toNat]? = some z ∧ atI (ns.map V.str) i = some (.str z) := by
  have h1 : i.toNat < ns.length := by omega
  refine ⟨ns[i.toNat], List.getElem_mem h1, List.getElem?_eq_getElem h1, ?_⟩
  have e : ((i.toNat : Nat) : Int) = i := by omega
  have q := atI_nat (get_str h1)
  rwa [e] at q
theorem flat_strs (L : List Str) : (L.map V.str).all flatV = true := by
  rw [List.all_eq_true]
  intro x hx
  obtain ⟨s, _, rfl⟩ := List.mem_map.mp hx
  rfl
theorem eqV_str (a b : Str) : eqV (.str a) (.str b) = decide (a = b) := by
  show (a == b) = decide (a = b)
  rw [Bool.eq_iff_iff, beq_iff_eq, decide_eq_true_eq]
theorem inV_str (s : Str) (L : List Str) : inV (.str s) (L.map V.str) = decide (s ∈ L) := by
  unfold inV
  rw [List.any_map, Bool.eq_iff_iff, List.any_eq_true, decide_eq_true_eq]
  constructor
  · rintro ⟨x, hx, e⟩
    have e : eqV (.str x) (.str s) = true := e
    rw [eqV_str, decide_eq_true_eq] at e
    exact e ▸ hx
  · intro h
    refine ⟨s, h, ?_⟩
    show eqV (.str s) (.str s) = true
    rw [eqV_str]
    exact decide_eq_true rfl
theorem take_filter {α : Type} (p : α → Bool) {xs : List α} {j : Nat} (h : j < xs.length) : (xs.take (j + 1)).filter p = (xs.take j).filter p ++ if p xs[j] = true then [xs[j]] else [] := by
  rw [List.take_add_one, List.getElem?_eq_getElem h, List.filter_append]
  show _ ++ List.filter p [xs[j]] = _
  rw [List.filter_cons, List.filter_nil]
/-- fewer names than letters: one is left -/
theorem sub_len {α : Type} [DecidableEq α] : ∀ (xs ys : List α), xs.Nodup → (∀ x ∈ xs, x ∈ ys) → xs.length ≤ ys.length
  | [], ys, _, _ => Nat.zero_le _
  | x :: r, ys, hn, h => by
    have hx := h x List.mem_cons_self
    have hn' := List.nodup_cons.mp hn
    have ih := sub_len r (ys.erase x) hn'.2 fun z hz => (List.mem_erase_of_ne (fun (e : z = x) => hn'.1 (by rw [← e]; exact hz))).mpr (h z (List.mem_cons_of_mem _ hz))
    rw [List.length_erase_of_mem hx] at ih
    have : 0 < ys.length := List.length_pos_of_mem hx
    show r.length + 1 ≤ _
    omega
theorem plain_left (L : List Str) (h : L.length < 10) : ∃ s r, plain.filter (fun x => !decide (x ∈ L)) = s :: r ∧ s ∈ plain ∧ s ∉ L := by
  cases e : plain.filter (fun x => !decide (x ∈ L)) with
  | nil =>
    exfalso
    have := sub_len plain L plain_nodup fun x hx => by
      have := (List.filter_eq_nil_iff.mp e) x hx
      simpa using this
    have l10 : plain.length = 10 := rfl
    omega
  | cons s r =>
    have : s ∈ plain.filter (fun x => !decide (x ∈ L)) := by rw [e]; exact List.mem_cons_self
    rw [List.mem_filter] at this
    exact ⟨s, r, rfl, this.1, by simpa using this.2⟩
def spName : Sp := fun vs H Q _ => ∃ (p c g : Addr) (n : Nat), vs = [.ref p] ∧ Purse H p c g n ∧ n ≤ 900000000 ∧
  ∀ H' s, Keep p g H H' → Purse H' p c g (n + 9) → Good s → Q (.str s) H'
def spNames : Sp := fun vs H Q _ => ∃ (p c g : Addr) (n : Nat) (m : Int), vs = [.ref p, .int m] ∧ Purse H p c g n ∧ n ≤ 800000000 ∧ 0 ≤ m ∧ m ≤ 10 ∧
  ∀ (H' : Hp) (a : Addr) (L : List Str), Keep p g H H' → Purse H' p c g (n + 101) → H a = none → H' a = some (.lst (L.map V.str)) → (L.length : Int) = m → L.Nodup → (∀ s ∈ L, Good s) → Q (.ref a) H'
section
variable {P : Program} {w : World} {K : PySem.W.Frag} {mg : Str → Option Value} {base : Heap}
theorem ok_law_name (D : Dn K mg "_law_name" s_law_name ["_law_purse_here"]) (T : Txt K mg) (G__law_draw : Cal P w K mg base 1 "_law_draw" spDraw []) : Cal P w K mg base 2 "_law_name" spName [] := by
  refine D.cal sc_law_name (fun vs H Q E h => ?_) (fun f cdv A outer s H vs Q E hr h => ?_)
  · obtain ⟨p, c, g, n, rfl, _⟩ := h
    rfl
  · obtain ⟨p, c, g, n, rfl, hP, hn, q⟩ := h
    refine ⟨_, (pss_cons (ps_set (i := 1) sc_law_name.nd rfl (Or.inl rfl) pe_str)
      (pss_cons (ps_for PassesOwn.never rfl (pi_range1 (by rfl) T.range (pa_cons (pe_op op_add pe_int (pe_c G__law_draw hr (by decide) (by rfl) (pa_cons (pv 0) (pa_cons pe_int pa_nil)))) pa_nil)) (pg_name (i := 2) sc_law_name.nd rfl (Or.inl rfl)) (pss_one (ps_set (i := 1) sc_law_name.nd rfl (Or.inl rfl) (pe_op op_add_str (pv 1) (pe_ix ix_str pe_str (pe_c G__law_draw hr (by decide) (by rfl) (pa_cons (pv 0) (pa_cons pe_int pa_nil))) (fun _ _ => rfl))))))
      (pss_one (ps_ret (pv 1))))), ?_⟩
    refine ⟨_, rfl, p, c, g, n, 8, rfl, hP, by omega, by decide, by decide, fun H1 r k1 P1 r0 r1 => ?_⟩
    refine ⟨1, r, rfl, rfl, _, rfl, by omega, by omega, ?_⟩
    refine for_range (lo := 0) (n := (1 + r).toNat) (fun i σ H' => ∃ (s : Str) (y : Option V), σ = [some (.ref p), some (.str s), y] ∧ Keep p g H H' ∧ Purse H' p c g (n + 1 + i) ∧ s.cps.toList.length = i ∧ ∀ z ∈ s.cps.toList, 97 ≤ z ∧ z ≤ 122)
      ⟨_, none, rfl, k1, P1, rfl, fun z hz => absurd hz (by decide +revert)⟩ (fun i σ H' hi h => ?_) (fun σ H' h => ?_)
    · obtain ⟨s, y, rfl, k2, P2, sl, sg⟩ := h
      refine ⟨_, rfl, _, rfl, p, c, g, _, 26, rfl, P2, by omega, by decide, by decide, fun H2 x k3 P3 x0 x1 => ?_⟩
      refine ⟨abc, x, _, rfl, rfl, by decide +kernel, abc_at x0 x1, _, _, rfl, rfl, ?_, ?_⟩
      · rw [str_len, str_len, sl]
        have : (1 + r).toNat ≤ 8 := by omega
        show i + 1 ≤ sizeLine
        exact Nat.le_of_lt (small1000 (by omega))
      · refine ⟨_, _, rfl, k2.trans k3, P3, ?_, fun z hz => ?_⟩
        · rw [str_app, List.length_append, sl]
          rfl
        · rw [str_app] at hz
          rcases List.mem_append.mp hz with h1 | h1
          · exact sg z h1
          · have h1 : z ∈ [97 + x.toNat] := h1
            rw [List.mem_singleton] at h1
            omega
    · obtain ⟨s, y, rfl, k2, P2, sl, sg⟩ := h
      refine ⟨_, rfl, q _ _ k2 (P2.mono (by omega)) (good_mk ?_ ?_ sg)⟩
      · rw [← Array.length_toList, sl]
        omega
      · rw [← Array.length_toList, sl]
        omega
theorem ok_law_names (D : Dn K mg "_law_names" s_law_names ["_law_purse_here", "_law_many"]) (T : Txt K mg) (G__law_draw : Cal P w K mg base 1 "_law_draw" spDraw []) (G__law_name : Cal P w K mg base 2 "_law_name" spName []) : Cal P w K mg base 3 "_law_names" spNames [] := by
  refine D.cal sc_law_names (fun vs H Q E h => ?_) (fun f cdv A outer s H vs Q E hr h => ?_)
  · obtain ⟨p, c, g, n, m, rfl, _⟩ := h
    rfl
  · obtain ⟨p, c, g, n, m, rfl, hP, hn, m0, m1, q⟩ := h
    refine ⟨_, (pss_cons (ps_set (i := 2) sc_law_names.nd rfl (Or.inl rfl) (pe_lst (pa_cons pe_str (pa_cons pe_str (pa_cons pe_str (pa_cons pe_str (pa_cons pe_str (pa_cons pe_str (pa_cons pe_str (pa_cons pe_str (pa_cons pe_str (pa_cons pe_str pa_nil))))))))))))
      (pss_cons (ps_set (i := 3) sc_law_names.nd rfl (Or.inl rfl) (pe_cmpR op_eq (pe_c G__law_draw hr (by decide) (by rfl) (pa_cons (pv 0) (pa_cons pe_int pa_nil))) pe_int (nomark _)))
      (pss_cons (ps_set (i := 4) sc_law_names.nd rfl (Or.inr rfl) (pe_lst pa_nil))
      (pss_cons (ps_for PassesOwn.never rfl (pi_range1 (by rfl) T.range (pa_cons (pv 1) pa_nil)) (pg_name (i := 5) sc_law_names.nd rfl (Or.inl rfl)) (pss_cons (ps_set (i := 6) sc_law_names.nd rfl (Or.inl rfl) (pe_ix ix_list (pv 2) (pe_c G__law_draw hr (by decide) (by rfl) (pa_cons (pv 0) (pa_cons pe_int pa_nil))) (fun _ _ => rfl))) (pss_cons (ps_cut (ps_if (pt_val (pv 3)) (pss_one (ps_set (i := 6) sc_law_names.nd rfl (Or.inl rfl) (pe_c G__law_name hr (by decide) (by rfl) (pa_cons (pv 0) pa_nil)))) pss_nil)) (pss_cons (ps_cut (ps_if (pt_cmpR op_in_seq (pv 6) (pv 4) rfl) (pss_one (ps_set (i := 6) sc_law_names.nd rfl (Or.inl rfl) (pe_ix ix_list (pe_lc (own := [("_law_each", 7)]) (g := gName 7) (by rfl) sc_law_names.nd (pi_list (pv 2)) (blkOk_by (own := [("_law_each", 7)]) (N := N_law_names) (sc := fnScope s_law_names) (by decide +kernel)) (fun _ _ _ _ _ => (pg_name (i := 7) sc_law_names.nd rfl (Or.inl rfl))) (fun _ _ _ _ _ => (pts_one (pt_cmpR (op_notInK K) (pv 7) (pv 4) rfl))) (fun _ _ _ _ _ => (pv 7))) pe_int (fun _ _ => rfl)))) pss_nil)) (pss_one (ps_expr (pe_bm PySem.F.plainAttrs_list PySem.F.slot_list_append PySem.F.type_list_append mt_append (pv 4) (pa_cons (pv 6) pa_nil))))))))
      (pss_one (ps_ret (pv 4))))))), ?_⟩
    -- plain
    refine ⟨by show 10 ≤ sizeLine; decide, fun pl npl => ?_⟩
    have K1 : Keep p g H (upd H pl (.lst (plain.map V.str))) := .of_same (same_upd npl)
    have P1 : Purse (upd H pl (.lst (plain.map V.str))) p c g n := hP.same (same_upd npl)
    have L1 : (upd H pl (.lst (plain.map V.str))) pl = some (.lst (plain.map V.str)) := upd_same
    show tSeq _ _ _ _ (upd H pl (.lst (plain.map V.str)))
    have dpl := hP.new npl
    generalize upd H pl (.lst (plain.map V.str)) = H1 at K1 P1 L1 ⊢
    -- spelled
    refine ⟨_, rfl, p, c, g, n, 3, rfl, P1, by omega, by decide, by decide, fun H2 r k2 P2 r0 r1 => ⟨rfl, ?_⟩⟩
    have L2 := k2 pl dpl.1 dpl.2 _ L1
    -- names
    refine ⟨Nat.zero_le _, fun a na => ?_⟩
    have da := P2.new na
    have na0 : H a = none := by
      cases e : H a with
      | none => rfl
      | some o => exact (not_two na (k2 a da.1 da.2 _ (K1 a da.1 da.2 _ e))).elim
    have npa : pl ≠ a := fun e => not_two (e ▸ na) L2
    refine ⟨_, rfl, _, rfl, by omega, by omega, ?_⟩
    refine for_range (lo := 0) (n := m.toNat) (fun i σ H' => ∃ (b : Bool) (L : List Str) (y5 y6 y7 : Option V), σ = [some (.ref p), some (.int m), some (.ref pl), some (.bl b), some (.ref a), y5, y6, y7] ∧ Keep p g H H' ∧ Purse H' p c g (n + 1 + 10 * i) ∧ H' pl = some (.lst (plain.map V.str)) ∧
        H' a = some (.lst (L.map V.str)) ∧ L.length = i ∧ L.Nodup ∧ ∀ s ∈ L, Good s)
      ⟨_, [], _, _, _, rfl, (K1.trans k2).upd na, P2.same (same_upd na), by rw [upd_ne npa]; exact L2, upd_same, rfl, List.nodup_nil, fun s hs => by cases hs⟩ (fun i σ H' hi h => ?_) (fun σ H' h => ?_)
    · obtain ⟨b, L, y5, y6, y7, rfl, k3, P3, hpl, ha, hl, hnd, hgd⟩ := h
      -- word = plain[draw(10)]
      refine ⟨_, rfl, _, rfl, p, c, g, _, 10, rfl, P3, by omega, by decide, by decide, fun H4 x k4 P4 x0 x1 => ?_⟩
      obtain ⟨w1, w1m, _, w1e⟩ := atI_str (ns := plain) x0 x1
      refine ⟨pl, _, _, _, rfl, rfl, SqL.of (k4 pl dpl.1 dpl.2 _ hpl), w1e, ?_⟩
      -- if spelled: word = name
      refine ⟨fun σ' H' => ∃ s : Str, σ' = [some (.ref p), some (.int m), some (.ref pl), some (.bl b), some (.ref a), some (.int (0 + (i : Int))), some (.str s), y7] ∧ Keep p g H H' ∧ Purse H' p c g (n + 1 + 10 * i + 10) ∧ H' pl = some (.lst (plain.map V.str)) ∧ H' a = some (.lst (L.map V.str)) ∧ Good s, ?_, fun σ' H' h => ?_⟩
      · refine ⟨_, rfl, b, rfl, ite2 (fun _ => ?_) (fun _ => ?_)⟩
        · refine ⟨_, rfl, p, c, g, _, rfl, P4, by omega, fun H5 w2 k5 P5 hw2 => ?_⟩
          exact ⟨w2, rfl, (k3.trans k4).trans k5, P5, k5 pl dpl.1 dpl.2 _ (k4 pl dpl.1 dpl.2 _ hpl), k5 a da.1 da.2 _ (k4 a da.1 da.2 _ ha), hw2⟩
        · exact ⟨w1, rfl, k3.trans k4, P4.mono (by omega), k4 pl dpl.1 dpl.2 _ hpl, k4 a da.1 da.2 _ ha, plain_good _ w1m⟩
      obtain ⟨s1, rfl, k5, P5, hpl5, ha5, hs1⟩ := h
      -- if word in names: word = the first letter that is left
      refine ⟨fun σ' H' => ∃ (s : Str) (y7 : Option V), σ' = [some (.ref p), some (.int m), some (.ref pl), some (.bl b), some (.ref a), some (.int (0 + (i : Int))), some (.str s), y7] ∧ Keep p g H H' ∧ Purse H' p c g (n + 1 + 10 * i + 10) ∧ H' pl = some (.lst (plain.map V.str)) ∧ H' a = some (.lst (L.map V.str)) ∧ Good s ∧ s ∉ L, ?_, fun σ' H' h => ?_⟩
      · refine ⟨_, rfl, _, rfl, a, _, rfl, .inl (SqL.of ha5), rfl, flat_strs L, _, rfl, ?_⟩
        show if (inV (.str s1) (L.map V.str)) = true then _ else _
        rw [inV_str]
        refine ite2 (fun _ => ?_) (fun hn => ?_)
        · refine ⟨_, rfl, pl, rfl, ⟨_, SqL.of hpl5⟩, fun D nD => ?_⟩
          have nDp : pl ≠ D := fun e => not_two (e ▸ nD) hpl5
          have nDa : a ≠ D := fun e => not_two (e ▸ nD) ha5
          refine lc_list (K := K) (a := pl) (xs := plain.map V.str) (fun j H9 => Same _ H9 ∧ H9 D = some (.lst (((plain.take j).filter (fun x => !decide (x ∈ L))).map V.str)))
            ⟨same_upd nD, upd_same⟩ (fun j H9 _ h => SqL.of (h.1 _ _ hpl5)) (fun j x H9 hj h => ?_) (fun H9 h => ?_)
          · obtain ⟨s9, hD9⟩ := h
            have hj2 : j < plain.length := by
              have q := (List.getElem?_eq_some_iff.mp hj).1
              rw [List.length_map] at q
              exact q
            have ex : x = V.str plain[j] := Option.some.inj (hj.symm.trans (get_str hj2))
            subst ex
            refine ⟨rfl, _, rfl, _, rfl, a, _, rfl, .inl (SqL.of (s9 _ _ ha5)), rfl, flat_strs L, _, rfl, ?_⟩
            show if (!inV (.str plain[j]) (L.map V.str)) = true then _ else _
            rw [inV_str]
            refine ite2 (fun hb => ?_) (fun hb => ?_)
            · refine ⟨_, rfl, _, hD9, ?_, fun b9 o9 e9 => ?_, ?_⟩
              · rw [List.length_map]
                exact Nat.lt_of_le_of_lt (List.length_filter_le _ _) (Nat.lt_of_le_of_lt (List.length_take_le _ _) (by have : plain.length = 10 := rfl; exact small1000 (by omega)))
              · rw [upd_ne (fun z => not_two nD (z ▸ e9))]
                exact s9 _ _ e9
              · rw [upd_same, take_filter _ hj2, if_pos hb, List.map_append]
                rfl
            · refine ⟨s9, ?_⟩
              rw [hD9, take_filter _ hj2, if_neg hb, List.append_nil]
          · obtain ⟨s9, hD9⟩ := h
            rw [List.length_map, List.take_length] at hD9
            obtain ⟨v, vr, ev, vm, vn⟩ := plain_left L (by omega)
            rw [ev] at hD9
            refine ⟨D, _, 0, .str v, rfl, rfl, SqL.of hD9, ?_, ?_⟩
            · exact atI_nat (j := 0) rfl
            · exact ⟨v, _, rfl, k5.trans (.of_same s9), P5.same s9, s9 _ _ hpl5, s9 _ _ ha5, plain_good _ vm, vn⟩
        · exact ⟨s1, _, rfl, k5, P5, hpl5, ha5, hs1, fun z => hn (decide_eq_true z)⟩
      obtain ⟨s2, y7', rfl, k6, P6, hpl6, ha6, hs2, hs2n⟩ := h
      -- names.append(word)
      refine ⟨_, rfl, .inl ⟨rfl, _, SqL.of ha6⟩, _, rfl, a, _, _, rfl, rfl, ha6, ?_, ?_⟩
      · rw [List.length_map, hl]
        exact small1000 (by omega)
      · have sm : ∀ b9, b9 ≠ a → ∀ o9, H' b9 = some o9 → (upd H' a (.lst (L.map V.str ++ [.str s2]))) b9 = some o9 := fun b9 h9 o9 e9 => by rw [upd_ne h9]; exact e9
        obtain ⟨⟨cs, gs, kk, hp7, hc7, hg7, rest⟩, b1, b2, b3⟩ := P6
        have dac : c ≠ a := fun e => by
          obtain ⟨⟨_, _, _, _, hc2, _⟩, _⟩ := P2
          rw [e, na] at hc2
          cases hc2
        refine ⟨b, L ++ [s2], _, _, _, rfl, fun b9 d1 d2 o9 e9 => ?_, ⟨⟨cs, gs, kk, sm p da.1.symm _ hp7, sm c dac _ hc7, sm g da.2.symm _ hg7, rest.1, rest.2.1, rest.2.2.1, rest.2.2.2.1, by have := rest.2.2.2.2; omega⟩, b1, b2, b3⟩, sm pl npa _ hpl6, ?_, ?_, ?_, ?_⟩
        · exact sm b9 (fun z => not_two na0 (z ▸ e9)) _ (k6 b9 d1 d2 o9 e9)
        · rw [upd_same, List.map_append]
          rfl
        · rw [List.length_append, hl]
          rfl
        · rw [List.nodup_append]
          refine ⟨hnd, List.nodup_cons.mpr ⟨by simp, List.nodup_nil⟩, fun x hx y hy => ?_⟩
          rw [List.mem_singleton] at hy
          exact fun e => hs2n (hy ▸ e ▸ hx)
        · intro z hz
          rcases List.mem_append.mp hz with h1 | h1
          · exact hgd z h1
          · rw [List.mem_singleton] at h1
            exact h1 ▸ hs2
    · obtain ⟨b, L, y5, y6, y7, rfl, k3, P3, hpl, ha, hl, hnd, hgd⟩ := h
      exact ⟨_, rfl, q _ a L k3 (P3.mono (by omega)) na0 ha (by omega) hnd hgd⟩
end
end Sv

namespace Sv
open PySem PySem.Spec PyProof.Rows L2
open C8 (Cal Mak Met cal0 mak0 met0 pe_c pe_mk pe_mt pe_mt0 fnBody fnArgs fnScope scC fnScope_by pe_gc InsC call_isC)
/-! ### is_name of a text -/
def spIsName : Sp := fun vs H Q _ => ∃ (s : Str), vs = [.str s] ∧ s.length ≤ sizeLine ∧ ∀ H', Same H H' → Q (.bl (goodB s)) H'
theorem sizeLine_big : 100000 ≤ sizeLine := by decide
theorem lt_one (a b : Nat) : (decide ([a] < [b])) = decide (a < b) := by
  rw [Bool.eq_iff_iff, decide_eq_true_eq, decide_eq_true_eq, List.cons_lt_cons_iff]
  constructor
  · rintro (h | ⟨_, h⟩)
    · exact h
    · exact absurd h (List.not_lt_nil _)
  · exact .inl
theorem signs_A : ("a" : Str).cps.toList = [97] := by decide +kernel
theorem signs_Z : ("z" : Str).cps.toList = [122] := by decide +kernel
section
variable {P : Program} {w : World} {K : PySem.W.Frag} {mg : Str → Option Value} {base : Heap}
theorem ok_is_name (D : Dn K mg "is_name" sis_name ["value"]) (T : Txt K mg) : Cal P w K mg base 1 "is_name" spIsName [] := by
  refine D.cal scis_name (fun vs H Q E h => ?_) (fun f cdv A outer s H vs Q E hr h => ?_)
  · obtain ⟨z, rfl, _⟩ := h
    rfl
  · obtain ⟨z, rfl, hz, q⟩ := h
    refine ⟨_, (pss_cons (ps_if (PW.pt (pw_or (pt_not (pt_val (pe_callB call_isi (by rfl) T.isinstance (by decide +kernel) (pa_cons (pv 0) (pa_cons (pe_bltn (v := .ty "str") (by rfl) T.str (by decide +kernel) rfl) pa_nil))))) (pw_or1 (pt_not (pt_chain op_le op_le pe_int (pe_callB call_len_str (by rfl) T.len PySem.boot_len (pa_cons (pv 0) pa_nil)) (pe_gc (by rfl) T.LONGEST_NAME)))))) (pss_one (ps_ret pe_bl)) pss_nil)
      (pss_one (ps_ret (pe_callB (cr_all rfl) (by rfl) T.all (by decide +kernel) (pa_cons (pe_lc (own := [("letter", 1)]) (g := gName 1) (tt := tYes) (by rfl) scis_name.nd (pi_str (pv 0)) (blkOk_by (own := [("letter", 1)]) (N := Nis_name) (sc := fnScope sis_name) (by decide +kernel)) (fun _ _ _ _ _ => (pg_name (i := 1) scis_name.nd rfl (Or.inl rfl))) (fun _ _ _ _ _ => pts_nil) (fun _ _ _ _ _ => (pe_chain op_le_str op_le_str pe_str (pv 1) pe_str))) pa_nil))))), ?_⟩
    have ty : TyX K H (.str z) (.type "str") := .base (.str z)
    refine ⟨_, rfl, _, _, _, _, true, rfl, .ty _, ty, kit_ty (by decide +kernel), _, rfl, ?_⟩
    refine ⟨_, rfl, _, rfl, hz, _, _, rfl, rfl, ?_⟩
    by_cases h1 : 1 ≤ z.length
    · refine ⟨_, rfl, iteD (decide_eq_true (by omega)) ⟨_, _, rfl, rfl, _, rfl, ?_⟩⟩
      by_cases h8 : z.length ≤ 8
      · show if (!decide ((z.length : Int) ≤ 8)) = true then _ else _
        refine iteN (by rw [decide_eq_true (by omega)]; decide) ?_
        refine ⟨_, rfl, _, rfl, fun D nD => ?_⟩
        refine lc_it (walk_str (z := z)) (fun i H' => Same H H' ∧ H' D = some (.lst (((z.cps.toList.take i).map fun c => decide (97 ≤ c) && decide (c ≤ 122)).map V.bl))) ⟨same_upd nD, upd_same⟩ (fun _ _ _ _ => trivial) (fun i x H' H2 hi hP hY => ?_) (fun H' hP => ?_)
        · obtain ⟨rfl, c, hc, rfl⟩ := hY
          obtain ⟨sm, hD⟩ := hP
          have hi2 : i < z.cps.toList.length := by rw [Array.length_toList]; exact hi
          have hc2 : z.cps.toList[i]? = some c := by rw [Array.getElem?_toList]; exact hc
          have step : ∀ b : Bool, b = (decide (97 ≤ c) && decide (c ≤ 122)) → Same H (upd H2 D (.lst ((((z.cps.toList.take i).map fun c => decide (97 ≤ c) && decide (c ≤ 122)).map V.bl) ++ [.bl b]))) ∧
              (upd H2 D (.lst ((((z.cps.toList.take i).map fun c => decide (97 ≤ c) && decide (c ≤ 122)).map V.bl) ++ [.bl b]))) D = some (.lst (((z.cps.toList.take (i + 1)).map fun c => decide (97 ≤ c) && decide (c ≤ 122)).map V.bl)) := fun b eb => by
            refine ⟨fun b9 o9 e9 => by rw [upd_ne (fun y => not_two nD (y ▸ e9))]; exact sm _ _ e9, ?_⟩
            rw [upd_same, List.take_add_one, hc2, List.map_append, List.map_append, eb]
            rfl
          have sz : ((((z.cps.toList.take i).map fun c => decide (97 ≤ c) && decide (c ≤ 122)).map V.bl)).length < sizeLine := by
            rw [List.length_map, List.length_map, List.length_take]
            have l8 : z.cps.toList.length ≤ 8 := by rw [← str_len]; exact h8
            exact Nat.lt_of_le_of_lt (Nat.min_le_left _ _) (small1000 (by omega))
          refine ⟨rfl, _, rfl, _, _, rfl, rfl, _, rfl, ?_⟩
          show if (!decide ([c] < ("a" : Str).cps.toList)) = true then _ else _
          rw [signs_A, lt_one]
          by_cases hlo : 97 ≤ c
          · refine iteD (by rw [decide_eq_false (by omega)]; rfl) ⟨_, _, rfl, rfl, _, hD, sz, ?_⟩
            refine step _ ?_
            show (!decide (("z" : Str).cps.toList < [c])) = _
            rw [signs_Z, lt_one, decide_eq_true hlo, Bool.true_and, Bool.eq_iff_iff, decide_eq_true_eq, Bool.not_eq_true', decide_eq_false_iff_not]
            omega
          · refine iteN (by rw [decide_eq_true (by omega)]; decide) ⟨_, hD, sz, ?_⟩
            refine step _ ?_
            rw [decide_eq_false hlo, Bool.false_and]
        · obtain ⟨sm, hD⟩ := hP
          have ez : z.cps.size = z.cps.toList.length := Array.length_toList.symm
          rw [ez, List.take_length] at hD
          refine ⟨D, _, rfl, SqL.of hD, ?_⟩
          have e : ((z.cps.toList.map fun c => decide (97 ≤ c) && decide (c ≤ 122)).all id) = goodB z := by
            unfold goodB
            rw [decide_eq_true (show 1 ≤ z.cps.size from h1), decide_eq_true (show z.cps.size ≤ 8 from h8), List.all_map]
            rfl
          rw [e]
          exact q _ sm
      · show if (!decide ((z.length : Int) ≤ 8)) = true then _ else _
        refine iteD (by rw [decide_eq_false (by omega)]; rfl) ?_
        have e : goodB z = false := by
          unfold goodB
          rw [decide_eq_false (show ¬ z.cps.size ≤ 8 from h8), Bool.and_false, Bool.false_and]
        rw [← e]
        exact q H (Same.refl H)
    · refine ⟨_, rfl, iteN (by rw [decide_eq_true_eq]; omega) ⟨_, rfl, ?_⟩⟩
      have e : goodB z = false := by
        unfold goodB
        rw [decide_eq_false (show ¬ 1 ≤ z.cps.size from h1), Bool.false_and, Bool.false_and]
      have q' := q H (Same.refl H)
      rw [e] at q'
      exact q'
end
end Sv

namespace Sv
open PySem PySem.Spec PyProof.Rows L2
open C8 (Cal Mak Met cal0 mak0 met0 pe_c pe_mk pe_mt pe_mt0 fnBody fnArgs fnScope scC fnScope_by pe_gc InsC call_isC)
/-! ### two values that hold the same data -/
theorem rIsi_no {K : PySem.W.Frag} {H : Hp} {x : V} {t c : String} {Q : VK} (ty : TyX K H x (.type t)) (k : kitB t c = some false) (q : Q (.bl false) H) : rIsi K [x, .ty c] H Q := ⟨x, .ty c, .type t, .type c, false, rfl, .ty c, ty, kit_ty k, q⟩
theorem rIsi_yes {K : PySem.W.Frag} {H : Hp} {x : V} {t c : String} {Q : VK} (ty : TyX K H x (.type t)) (k : kitB t c = some true) (q : Q (.bl true) H) : rIsi K [x, .ty c] H Q := ⟨x, .ty c, .type t, .type c, true, rfl, .ty c, ty, kit_ty k, q⟩
theorem ty_sql {K : PySem.W.Frag} {H : Hp} {a : Addr} {xs : List V} (h : SqL K H a xs) : TyX K H (.ref a) (.type "list") := by
  rcases h with (h | ⟨o, h⟩) | ⟨_, _, _, h1, h2, _⟩
  · exact .base (.lst h)
  · exact .base (.frz h)
  · exact .kList h1 h2
theorem ty_sqt {K : PySem.W.Frag} {H : Hp} {a : Addr} {xs : List V} (h : SqT K H a xs) : TyX K H (.ref a) (.type "tuple") := by
  rcases h with (h | ⟨o, h⟩) | ⟨_, _, _, h1, h2, _⟩
  · exact .base (.tup h)
  · exact .fTuple h
  · exact .kTuple h1 h2
def flatS : V → Bool
  | .non => true | .bl _ => true | .int _ => true | .str _ => true | _ => false
def Sm (K : PySem.W.Frag) : Nat → Hp → V → V → Prop
  | 0, _, _, _ => False
  | n + 1, H, x, y => (x = y ∧ flatS x = true) ∨ (∃ (a b : Addr) (xs ys : List V), x = .ref a ∧ y = .ref b ∧ ((SqL K H a xs ∧ SqL K H b ys) ∨ (SqT K H a xs ∧ SqT K H b ys)) ∧ xs.length = ys.length ∧ xs.length ≤ 100000 ∧
      ∀ (i : Nat) (u v : V), xs[i]? = some u → ys[i]? = some v → Sm K n H u v) ∨
      ∃ (a b : Addr) (kvs lvs : List (List Key × V)), x = .ref a ∧ y = .ref b ∧ H a = some (.dT kvs) ∧ H b = some (.dT lvs) ∧ kvs.length = lvs.length ∧ lvs.length ≤ 100000 ∧
        ∀ (od : Obj) (i : Nat) (k : List Key) (v : V), lvs[i]? = some (k, v) → valV lvs k = some v ∧ ∃ u, valV kvs k = some u ∧ Sm K n (upd H b (.frz od (.dT lvs))) u v
theorem same_lock {H H' : Hp} {d : Addr} {u : HO} (s : Same H H') : Same (upd H d u) (upd H' d u) := fun b o e => by
  by_cases h : b = d
  · subst h
    rw [upd_same] at e ⊢
    exact e
  · rw [upd_ne h] at e ⊢
    exact s b o e
/-- behind a lock the dict stands again -/
theorem same_unlock {H H' : Hp} {d : Addr} {o : Obj} {u : HO} (h : H d = some u) (s : Same (upd H d (.frz o u)) H') : Same H (upd H' d u) := fun b x e => by
  by_cases hb : b = d
  · subst hb
    rw [upd_same, ← e, h]
  · rw [upd_ne hb]
    exact s b x (by rw [upd_ne hb]; exact e)
theorem Sm.flat {K : PySem.W.Frag} {H : Hp} {x : V} (h : flatS x = true) (n : Nat) : Sm K (n + 1) H x x := .inl ⟨rfl, h⟩
theorem Sm.same {K : PySem.W.Frag} : ∀ {n : Nat} {H H' : Hp} {x y : V}, Same H H' → Sm K n H x y → Sm K n H' x y
  | 0, _, _, _, _, _, h => h
  | n + 1, H, H', _, _, s, h => by
    rcases h with h | ⟨a, b, xs, ys, rfl, rfl, h1, h2, h3, h4⟩ | ⟨a, b, kvs, lvs, rfl, rfl, h1, h2, h3, h4, h5⟩
    · exact .inl h
    · refine .inr (.inl ⟨a, b, xs, ys, rfl, rfl, ?_, h2, h3, fun i u v e1 e2 => Sm.same s (h4 i u v e1 e2)⟩)
      rcases h1 with ⟨p, q⟩ | ⟨p, q⟩
      · exact .inl ⟨s.seq p, s.seq q⟩
      · exact .inr ⟨s.seqT p, s.seqT q⟩
    · exact .inr (.inr ⟨a, b, kvs, lvs, rfl, rfl, s _ _ h1, s _ _ h2, h3, h4, fun od i k v e => let ⟨q1, u, q2, q3⟩ := h5 od i k v e; ⟨q1, u, q2, Sm.same (same_lock s) q3⟩⟩)
theorem Sm.up {K : PySem.W.Frag} : ∀ {n : Nat} {H : Hp} {x y : V}, Sm K n H x y → Sm K (n + 1) H x y
  | 0, _, _, _, h => h.elim
  | n + 1, _, _, _, h => by
    rcases h with h | ⟨a, b, xs, ys, e1, e2, h1, h2, h3, h4⟩ | ⟨a, b, kvs, lvs, e1, e2, h1, h2, h3, h4, h5⟩
    · exact .inl h
    · exact .inr (.inl ⟨a, b, xs, ys, e1, e2, h1, h2, h3, fun i u v e1 e2 => Sm.up (h4 i u v e1 e2)⟩)
    · exact .inr (.inr ⟨a, b, kvs, lvs, e1, e2, h1, h2, h3, h4, fun od i k v e => let ⟨q1, u, q2, q3⟩ := h5 od i k v e; ⟨q1, u, q2, Sm.up q3⟩⟩)
/-- two dicts of the same flat values -/
theorem Sm.dicts {K : PySem.W.Frag} {H : Hp} {a b : Addr} {kvs : List (List Key × V)} {n : Nat} (h1 : H a = some (.dT kvs)) (h2 : H b = some (.dT kvs)) (hl : kvs.length ≤ 100000) (hv : ∀ (i : Nat) (k : List Key) (v : V), kvs[i]? = some (k, v) → valV kvs k = some v ∧ flatS v = true) : Sm K (n + 2) H (.ref a) (.ref b) :=
  .inr (.inr ⟨a, b, kvs, kvs, rfl, rfl, h1, h2, rfl, hl, fun od i k v e => let q := hv i k v e; ⟨q.1, v, q.1, Sm.flat q.2 n⟩⟩)
/-- two lists of the same flat values -/
theorem Sm.lists {K : PySem.W.Frag} {H : Hp} {a b : Addr} {xs : List V} {n : Nat} (h1 : SqL K H a xs) (h2 : SqL K H b xs) (hl : xs.length ≤ 100000) (hf : ∀ x ∈ xs, flatS x = true) : Sm K (n + 2) H (.ref a) (.ref b) :=
  .inr (.inl ⟨a, b, xs, xs, rfl, rfl, .inl ⟨h1, h2⟩, rfl, hl, fun i u v e1 e2 => by
    have e : u = v := Option.some.inj (e1.symm.trans e2)
    subst e
    exact Sm.flat (hf u (List.mem_of_getElem? e1)) n⟩)
theorem Sm.tups {K : PySem.W.Frag} {H : Hp} {a b : Addr} {xs : List V} {n : Nat} (h1 : SqT K H a xs) (h2 : SqT K H b xs) (hl : xs.length ≤ 100000) (hf : ∀ x ∈ xs, flatS x = true) : Sm K (n + 2) H (.ref a) (.ref b) :=
  .inr (.inl ⟨a, b, xs, xs, rfl, rfl, .inr ⟨h1, h2⟩, rfl, hl, fun i u v e1 e2 => by
    have e : u = v := Option.some.inj (e1.symm.trans e2)
    subst e
    exact Sm.flat (hf u (List.mem_of_getElem? e1)) n⟩)
def spSame (K : PySem.W.Frag) (n : Nat) : Sp := fun vs H Q _ => ∃ x y, vs = [x, y] ∧ Sm K n H x y ∧ ∀ H', Same H H' → Q (.bl true) H'
section
variable {P : Program} {w : World} {K : PySem.W.Frag} {mg : Str → Option Value} {base : Heap}
theorem ok_law_same (D : Dn K mg "_law_same" s_law_same ["_law_actual", "_law_due"]) (T : Txt K mg) : ∀ n, Cal P w K mg base (n + 1) "_law_same" (spSame K n) []
  | 0 => by
    obtain ⟨f, fd, F, b⟩ := D.ex
    exact ⟨f, fd, _, [], ⟨fun _ _ _ _ h => (by obtain ⟨_, _, _, h, _⟩ := h; exact h.elim), fun _ _ _ _ _ _ _ _ _ _ _ _ _ h => (by obtain ⟨_, _, _, h, _⟩ := h; exact h.elim)⟩, F.mgf, F.kp, b, .nil⟩
  | n + 1 => by
    have G__law_same : Cal P w K mg base (n + 1) "_law_same" (spSame K n) [] := ok_law_same D T n
    refine D.cal sc_law_same (fun vs H Q E h => ?_) (fun f cdv A outer s H vs Q E hr h => ?_)
    · obtain ⟨x, y, rfl, _⟩ := h
      rfl
    · obtain ⟨x, y, rfl, h, q⟩ := h
      refine ⟨_, (pss_cons (ps_if (pt_cmpR op_isN (pv 1) pe_non (nomark _)) (pss_one (ps_ret (pe_cmpR op_isN (pv 0) pe_non (nomark _)))) pss_nil)
      (pss_cons (ps_if (pt_val (pe_callB call_isi (by rfl) T.isinstance (by decide +kernel) (pa_cons (pv 1) (pa_cons (pe_bltn (v := .ty "bool") (by rfl) T.bool (by decide +kernel) rfl) pa_nil)))) (pss_one (ps_ret (pe_and (pe_callB call_isi (by rfl) T.isinstance (by decide +kernel) (pa_cons (pv 0) (pa_cons (pe_bltn (v := .ty "bool") (by rfl) T.bool (by decide +kernel) rfl) pa_nil))) (pe_one (pe_cmpR op_eq (pv 0) (pv 1) (nomark _)))))) pss_nil)
      (pss_cons (ps_if (pt_val (pe_callB call_isi (by rfl) T.isinstance (by decide +kernel) (pa_cons (pv 1) (pa_cons (pe_bltn (v := .ty "int") (by rfl) T.int (by decide +kernel) rfl) pa_nil)))) (pss_one (ps_ret (pe_and (pe_callB call_isi (by rfl) T.isinstance (by decide +kernel) (pa_cons (pv 0) (pa_cons (pe_bltn (v := .ty "int") (by rfl) T.int (by decide +kernel) rfl) pa_nil))) (pe_and (pe_not (pe_callB call_isi (by rfl) T.isinstance (by decide +kernel) (pa_cons (pv 0) (pa_cons (pe_bltn (v := .ty "bool") (by rfl) T.bool (by decide +kernel) rfl) pa_nil)))) (pe_one (pe_cmpR op_eq (pv 0) (pv 1) (nomark _))))))) pss_nil)
      (pss_cons (ps_if (pt_val (pe_callB call_isi (by rfl) T.isinstance (by decide +kernel) (pa_cons (pv 1) (pa_cons (pe_bltn (v := .ty "str") (by rfl) T.str (by decide +kernel) rfl) pa_nil)))) (pss_one (ps_ret (pe_and (pe_callB call_isi (by rfl) T.isinstance (by decide +kernel) (pa_cons (pv 0) (pa_cons (pe_bltn (v := .ty "str") (by rfl) T.str (by decide +kernel) rfl) pa_nil))) (pe_one (pe_cmpR op_eq (pv 0) (pv 1) (nomark _)))))) pss_nil)
      (pss_cons (ps_if (pt_val (pe_callB call_isi (by rfl) T.isinstance (by decide +kernel) (pa_cons (pv 1) (pa_cons (pe_bltn (v := .ty "dict") (by rfl) T.dict (by decide +kernel) rfl) pa_nil)))) (pss_cons (ps_if (PW.pt (pw_or (pt_not (pt_val (pe_callB call_isi (by rfl) T.isinstance (by decide +kernel) (pa_cons (pv 0) (pa_cons (pe_bltn (v := .ty "dict") (by rfl) T.dict (by decide +kernel) rfl) pa_nil))))) (pw_or1 (pt_cmpR op_ne (pe_callB call_len_dT (by rfl) T.len PySem.boot_len (pa_cons (pv 0) pa_nil)) (pe_callB call_len_dT (by rfl) T.len PySem.boot_len (pa_cons (pv 1) pa_nil)) (nomark _))))) (pss_one (ps_ret pe_bl)) pss_nil) (pss_one (ps_ret (pe_callB (cr_all rfl) (by rfl) T.all (by decide +kernel) (pa_cons (pe_lock (pe_lc (own := [("_law_key", 3)]) (g := gName 3) (tt := tYes) (by rfl) sc_law_same.nd (pi_keys (pv 1)) (blkOk_by (own := [("_law_key", 3)]) (N := N_law_same) (sc := fnScope s_law_same) (by decide +kernel)) (fun _ _ _ _ _ => (pg_name (i := 3) sc_law_same.nd rfl (Or.inl rfl))) (fun _ _ _ _ _ => pts_nil) (fun _ _ _ _ _ => (pe_and (pe_cmp (pc_din (hu_of hr) (pv 3) (pv 0)) rfl) (pe_one (pe_c G__law_same hr (Nat.le_refl _) (by rfl) (pa_cons (pe_dget (hu_of hr) (pv 0) (pv 3) (fun _ _ => rfl)) (pa_cons (pe_dget (hu_of hr) (pv 1) (pv 3) (fun _ _ => rfl)) pa_nil)))))))) pa_nil))))) pss_nil)
      (pss_cons (ps_if (PW.pt (pw_and (pt_val (pe_callB call_isi (by rfl) T.isinstance (by decide +kernel) (pa_cons (pv 1) (pa_cons (pe_bltn (v := .ty "tuple") (by rfl) T.tuple (by decide +kernel) rfl) pa_nil)))) (pw_and1 (pt_not (pt_val (pe_callB call_isi (by rfl) T.isinstance (by decide +kernel) (pa_cons (pv 0) (pa_cons (pe_bltn (v := .ty "tuple") (by rfl) T.tuple (by decide +kernel) rfl) pa_nil)))))))) (pss_one (ps_ret pe_bl)) pss_nil)
      (pss_cons (ps_if (PW.pt (pw_and (pt_val (pe_callB call_isi (by rfl) T.isinstance (by decide +kernel) (pa_cons (pv 1) (pa_cons (pe_bltn (v := .ty "list") (by rfl) T.list (by decide +kernel) rfl) pa_nil)))) (pw_and1 (pt_not (pt_val (pe_callB call_isi (by rfl) T.isinstance (by decide +kernel) (pa_cons (pv 0) (pa_cons (pe_bltn (v := .ty "list") (by rfl) T.list (by decide +kernel) rfl) pa_nil)))))))) (pss_one (ps_ret pe_bl)) pss_nil)
      (pss_cons (ps_if (pt_cmpR op_ne (pe_callB call_len_seq (by rfl) T.len PySem.boot_len (pa_cons (pv 0) pa_nil)) (pe_callB call_len_seq (by rfl) T.len PySem.boot_len (pa_cons (pv 1) pa_nil)) (nomark _)) (pss_one (ps_ret pe_bl)) pss_nil)
      (pss_cons (ps_for PassesOwn.never rfl (pi_range1 (by rfl) T.range (pa_cons (pe_callB call_len_seq (by rfl) T.len PySem.boot_len (pa_cons (pv 1) pa_nil)) pa_nil)) (pg_name (i := 2) sc_law_same.nd rfl (Or.inl rfl)) (pss_one (ps_if (pt_not (pt_val (pe_c G__law_same hr (Nat.le_refl _) (by rfl) (pa_cons (pe_ix ix_seq (pv 0) (pv 2) (fun _ _ => rfl)) (pa_cons (pe_ix ix_seq (pv 1) (pv 2) (fun _ _ => rfl)) pa_nil))))) (pss_one (ps_ret pe_bl)) pss_nil)))
      (pss_one (ps_ret pe_bl))))))))))), ?_⟩
      rcases h with ⟨rfl, hx⟩ | ⟨a, b, xs, ys, rfl, rfl, h1, h2, h3, h4⟩ | ⟨a, b, kvs, lvs, rfl, rfl, h1, h2, h3, h4, h5⟩
      · have q := q H (Same.refl H)
        cases x with
        | non => exact ⟨_, rfl, rfl, _, rfl, iteD (decide_eq_true rfl) ⟨_, rfl, rfl, by rw [decide_eq_true rfl]; exact q⟩⟩
        | bl b =>
          have ty : TyX K H (.bl b) (.type "bool") := .base (.bl b)
          refine ⟨_, rfl, rfl, _, rfl, iteN (by simp) ?_⟩
          exact ⟨_, rfl, _, _, _, _, true, rfl, .ty _, ty, kit_ty (by decide +kernel), ⟨_, rfl, iteT ⟨_, rfl, _, _, _, _, true, rfl, .ty _, ty, kit_ty (by decide +kernel), ⟨_, rfl, iteT ⟨_, rfl, _, rfl, rfl, by rw [decide_eq_true rfl]; exact q⟩⟩⟩⟩⟩
        | int i =>
          have ty : TyX K H (.int i) (.type "int") := .base (.int i)
          refine ⟨_, rfl, rfl, _, rfl, iteN (by simp) ?_⟩
          refine ⟨_, rfl, _, _, _, _, false, rfl, .ty _, ty, kit_ty (by decide +kernel), ⟨_, rfl, iteF ?_⟩⟩
          exact ⟨_, rfl, _, _, _, _, true, rfl, .ty _, ty, kit_ty (by decide +kernel), ⟨_, rfl, iteT ⟨_, rfl, _, _, _, _, true, rfl, .ty _, ty, kit_ty (by decide +kernel), ⟨_, rfl, iteT ⟨_, rfl, _, _, _, _, false, rfl, .ty _, ty, kit_ty (by decide +kernel), ⟨_, rfl, _, rfl, iteT ⟨_, rfl, _, rfl, rfl, by rw [decide_eq_true rfl]; exact q⟩⟩⟩⟩⟩⟩⟩
        | str z =>
          have ty : TyX K H (.str z) (.type "str") := .base (.str z)
          refine ⟨_, rfl, rfl, _, rfl, iteN (by simp) ?_⟩
          refine ⟨_, rfl, _, _, _, _, false, rfl, .ty _, ty, kit_ty (by decide +kernel), ⟨_, rfl, iteF ?_⟩⟩
          refine ⟨_, rfl, _, _, _, _, false, rfl, .ty _, ty, kit_ty (by decide +kernel), ⟨_, rfl, iteF ?_⟩⟩
          exact ⟨_, rfl, _, _, _, _, true, rfl, .ty _, ty, kit_ty (by decide +kernel), ⟨_, rfl, iteT ⟨_, rfl, _, _, _, _, true, rfl, .ty _, ty, kit_ty (by decide +kernel), ⟨_, rfl, iteT ⟨_, rfl, _, rfl, rfl, by rw [decide_eq_true rfl]; exact q⟩⟩⟩⟩⟩
        | _ => cases hx
      · refine ⟨_, rfl, rfl, _, rfl, iteN (by simp) ?_⟩
        have sz : ys.length ≤ 100000 := h2 ▸ h3
        have ixs : ∀ (H' : Hp) (i : Nat) (u : V) (Q : VK), Same H H' → xs[i]? = some u → Q u H' → rIx K (.ref a) (.int (0 + (i : Int))) H' Q := fun H' i u Q s e k => by
          rw [Int.zero_add]
          rcases h1 with ⟨p, _⟩ | ⟨p, _⟩
          · exact .inl ⟨a, xs, _, u, rfl, rfl, s.seq p, atI_nat e, k⟩
          · exact .inr (.inl ⟨a, xs, _, u, rfl, rfl, s.seqT p, atI_nat e, k⟩)
        have iys : ∀ (H' : Hp) (i : Nat) (u : V) (Q : VK), Same H H' → ys[i]? = some u → Q u H' → rIx K (.ref b) (.int (0 + (i : Int))) H' Q := fun H' i u Q s e k => by
          rw [Int.zero_add]
          rcases h1 with ⟨_, p⟩ | ⟨_, p⟩
          · exact .inl ⟨b, ys, _, u, rfl, rfl, s.seq p, atI_nat e, k⟩
          · exact .inr (.inl ⟨b, ys, _, u, rfl, rfl, s.seqT p, atI_nat e, k⟩)
        have la : SqL K H a xs ∨ SqT K H a xs := h1.elim (fun h => .inl h.1) fun h => .inr h.1
        have lb : SqL K H b ys ∨ SqT K H b ys := h1.elim (fun h => .inl h.2) fun h => .inr h.2
        have tys : (TyX K H (.ref a) (.type "list") ∧ TyX K H (.ref b) (.type "list")) ∨ (TyX K H (.ref a) (.type "tuple") ∧ TyX K H (.ref b) (.type "tuple")) := h1.elim (fun h => .inl ⟨ty_sql h.1, ty_sql h.2⟩) fun h => .inr ⟨ty_sqt h.1, ty_sqt h.2⟩
        rcases tys with ⟨t1, t2⟩ | ⟨t1, t2⟩
        all_goals
          refine ⟨_, rfl, _, _, _, _, false, rfl, .ty _, t2, kit_ty (by decide +kernel), ⟨_, rfl, iteF ?_⟩⟩
          refine ⟨_, rfl, _, _, _, _, false, rfl, .ty _, t2, kit_ty (by decide +kernel), ⟨_, rfl, iteF ?_⟩⟩
          refine ⟨_, rfl, _, _, _, _, false, rfl, .ty _, t2, kit_ty (by decide +kernel), ⟨_, rfl, iteF ?_⟩⟩
          refine ⟨_, rfl, _, _, _, _, false, rfl, .ty _, t2, kit_ty (by decide +kernel), ⟨_, rfl, iteF ?_⟩⟩
          first
            | refine ⟨_, rfl, _, _, _, _, false, rfl, .ty _, t2, kit_ty (by decide +kernel), ⟨_, rfl, iteF (iteF ?_)⟩⟩
              refine ⟨_, rfl, _, _, _, _, true, rfl, .ty _, t2, kit_ty (by decide +kernel), ⟨_, rfl, iteT ⟨_, rfl, _, _, _, _, true, rfl, .ty _, t1, kit_ty (by decide +kernel), ⟨_, rfl, iteF ?_⟩⟩⟩⟩
            | refine ⟨_, rfl, _, _, _, _, true, rfl, .ty _, t2, kit_ty (by decide +kernel), ⟨_, rfl, iteT ⟨_, rfl, _, _, _, _, true, rfl, .ty _, t1, kit_ty (by decide +kernel), ⟨_, rfl, iteF ?_⟩⟩⟩⟩
              refine ⟨_, rfl, _, _, _, _, false, rfl, .ty _, t2, kit_ty (by decide +kernel), ⟨_, rfl, iteF (iteF ?_)⟩⟩
          refine ⟨_, rfl, a, _, rfl, la, _, rfl, b, _, rfl, lb, rfl, _, rfl, iteN (by simp [h2]) ?_⟩
          refine ⟨_, rfl, b, _, rfl, lb, _, rfl, by omega, by omega, ?_⟩
          rw [Int.toNat_natCast]
          refine for_range (lo := 0) (n := ys.length) (fun _ σ H' => Same H H' ∧ ∃ y : Option V, σ = [some (.ref a), some (.ref b), y, none]) ⟨Same.refl H, none, rfl⟩ (fun i σ H' hi h => ?_) (fun σ H' h => ?_)
          · obtain ⟨s1, y, rfl⟩ := h
            have e1 := List.getElem?_eq_getElem (l := xs) (i := i) (by omega)
            have e2 := List.getElem?_eq_getElem (l := ys) hi
            refine ⟨_, rfl, _, rfl, ixs H' i _ _ s1 e1 ⟨_, rfl, _, rfl, iys H' i _ _ s1 e2 ⟨_, _, rfl, Sm.same s1 (h4 i _ _ e1 e2), fun H2 s2 => ?_⟩⟩⟩
            exact ⟨_, rfl, iteF ⟨s1.trans s2, _, rfl⟩⟩
          · exact q H' h.1
      · have t1 : TyX K H (.ref a) (.type "dict") := .base (.dT h1)
        have t2 : TyX K H (.ref b) (.type "dict") := .base (.dT h2)
        refine ⟨_, rfl, rfl, _, rfl, iteN (by simp) ?_⟩
        refine ⟨_, rfl, _, _, _, _, false, rfl, .ty _, t2, kit_ty (by decide +kernel), ⟨_, rfl, iteF ?_⟩⟩
        refine ⟨_, rfl, _, _, _, _, false, rfl, .ty _, t2, kit_ty (by decide +kernel), ⟨_, rfl, iteF ?_⟩⟩
        refine ⟨_, rfl, _, _, _, _, false, rfl, .ty _, t2, kit_ty (by decide +kernel), ⟨_, rfl, iteF ?_⟩⟩
        refine ⟨_, rfl, _, _, _, _, true, rfl, .ty _, t2, kit_ty (by decide +kernel), ⟨_, rfl, iteT ?_⟩⟩
        refine ⟨_, rfl, _, _, _, _, true, rfl, .ty _, t1, kit_ty (by decide +kernel), ⟨_, rfl, iteF ?_⟩⟩
        refine ⟨_, rfl, a, _, rfl, h1, _, rfl, b, _, rfl, h2, rfl, _, rfl, iteN ?_ ?_⟩
        · show ¬ (!decide (V.int ((kvs.length : Nat) : Int) = V.int ((lvs.length : Nat) : Int))) = true
          rw [h3, decide_eq_true rfl]
          decide
        refine ⟨b, _, h2, trivial, fun od => ⟨_, rfl, b, od, rfl, .inr ⟨lvs, upd_same, fun D nD => ?_⟩⟩⟩
        have hL : (upd H b (.frz od (.dT lvs))) b = some (.frz od (.dT lvs)) := upd_same
        have hA : Rd (upd H b (.frz od (.dT lvs))) a (.dT kvs) := by
          by_cases e : a = b
          · subst e
            rw [h1] at h2
            cases h2
            exact .inr ⟨od, upd_same⟩
          · exact .inl (by rw [upd_ne e]; exact h1)
        have back : ∀ H', Same (upd H b (.frz od (.dT lvs))) H' → Same H (upd H' b (.dT lvs)) := fun H' s => same_unlock h2 s
        have dD : b ≠ D := fun z => not_two (z ▸ nD) hL
        have h5 := h5 od
        generalize upd H b (.frz od (.dT lvs)) = H1 at hL hA back nD h5 ⊢
        refine lc_it walk_keysT (fun i H' => Same H1 H' ∧ H' D = some (.lst ((List.replicate i true).map V.bl))) ⟨same_upd nD, upd_same⟩ (fun _ H' _ h => h.1 _ _ hL) (fun i x H' H2 hi hP hY => ?_) (fun H' hP => ?_)
        · obtain ⟨sm, hD⟩ := hP
          obtain ⟨rfl, kl, v0, k0, hk, rfl, hq⟩ := hY
          obtain ⟨q1, u, q2, q3⟩ := h5 i kl v0 hk
          have rdA : Rd H2 a (.dT kvs) := hA.elim (fun h => .inl (sm _ _ h)) fun ⟨o, h⟩ => .inr ⟨o, sm _ _ h⟩
          have rdB : Rd H2 b (.dT lvs) := .inr ⟨od, sm _ _ hL⟩
          refine ⟨rfl, _, rfl, _, rfl, a, _, rfl, .inr ⟨kvs, kl, k0, rdA, rfl, hq, q2.symm⟩, _, rfl, iteD rfl ?_⟩
          refine ⟨_, rfl, _, rfl, a, _, rfl, .inr ⟨kvs, kl, k0, rdA, rfl, hq, q2.symm⟩, _, rfl, _, rfl, b, _, rfl, .inr ⟨lvs, kl, k0, rdB, rfl, hq, q1.symm⟩, _, _, rfl, Sm.same sm q3, fun H3 s3 => ?_⟩
          refine ⟨_, s3 _ _ hD, ?_, fun b9 o9 e9 => ?_, ?_⟩
          · rw [List.length_map, List.length_replicate]
            exact Nat.lt_of_lt_of_le hi (Nat.le_trans h4 sizeLine_big)
          · rw [upd_ne (fun y => not_two nD (y ▸ e9))]
            exact s3 _ _ (sm _ _ e9)
          · rw [upd_same, List.replicate_succ', List.map_append]
            rfl
        · obtain ⟨sm, hD⟩ := hP
          refine ⟨sm _ _ hL, D, _, rfl, SqL.of (by rw [upd_ne dD.symm]; exact hD), ?_⟩
          have ea : (List.replicate lvs.length true).all id = true := by
            rw [List.all_eq_true]
            intro b hb
            exact (List.mem_replicate.mp hb).2
          rw [ea]
          exact q _ (back _ sm)
end
end Sv

namespace Sv
open PySem PySem.Spec PyProof.Rows L2
open C8 (Cal Mak Met cal0 mak0 met0 pe_c pe_mk pe_mt pe_mt0 fnBody fnArgs fnScope scC fnScope_by pe_gc InsC call_isC)
/-! ### edits and scripts -/
/-- the word of an edit, the token that it reads, the one that it writes -/
def w0 (e : List Str) : Str := e.getD 0 ""
def w1 (e : List Str) : Str := e.getD 1 ""
def wl (e : List Str) : Str := e.getD (e.length - 1) ""
def EdOk (e : List Str) : Prop := (∃ w t, e = [w, t] ∧ (w = "keep" ∨ w = "drop" ∨ w = "put") ∧ Good t) ∨ ∃ t x, e = [("turn" : Str), t, x] ∧ Good t ∧ Good x ∧ t ≠ x
def srcOf (E : List (List Str)) : List Str := (E.filter fun e => !decide (w0 e = "put")).map w1
def tgtOf (E : List (List Str)) : List Str := (E.filter fun e => !decide (w0 e = "drop")).map wl
def chgOf (E : List (List Str)) : List (List Str) := E.filter fun e => !decide (w0 e = "keep")
/-- the tuples of these texts stand at these addresses -/
structure Tups (H : Hp) (as : List Addr) (E : List (List Str)) : Prop where
  len : as.length = E.length
  get : ∀ (i : Nat) (a : Addr) (e : List Str), as[i]? = some a → E[i]? = some e → H a = some (.tup (e.map V.str))
theorem Tups.same {H H' : Hp} {as : List Addr} {E : List (List Str)} (t : Tups H as E) (s : Same H H') : Tups H' as E := ⟨t.len, fun i a e h1 h2 => s _ _ (t.get i a e h1 h2)⟩
/-- a script at a: a list or a tuple of such tuples -/
structure Scr (K : PySem.W.Frag) (H : Hp) (a : Addr) (as : List Addr) (E : List (List Str)) : Prop where
  at_ : SqL K H a (as.map V.ref) ∨ SqT K H a (as.map V.ref)
  tups : Tups H as E
  ok : ∀ e ∈ E, EdOk e
  len : E.length ≤ 4000
theorem Scr.same {K : PySem.W.Frag} {H H' : Hp} {a : Addr} {as : List Addr} {E : List (List Str)} (t : Scr K H a as E) (s : Same H H') : Scr K H' a as E :=
  ⟨t.at_.elim (fun h => .inl (s.seq h)) fun h => .inr (s.seqT h), t.tups.same s, t.ok, t.len⟩
/-- the i-th item of a script -/
theorem Scr.item {K : PySem.W.Frag} {H : Hp} {a : Addr} {as : List Addr} {E : List (List Str)} (t : Scr K H a as E) {i : Nat} {x : V} (h : (as.map V.ref)[i]? = some x) :
    ∃ (hi : i < E.length) (r : Addr), x = .ref r ∧ as[i]? = some r ∧ H r = some (.tup (E[i].map V.str)) ∧ EdOk E[i] := by
  have hi : i < as.length := by
    have q := (List.getElem?_eq_some_iff.mp h).1
    rwa [List.length_map] at q
  have hi2 : i < E.length := t.tups.len ▸ hi
  refine ⟨hi2, as[i], ?_, List.getElem?_eq_getElem hi, t.tups.get i _ _ (List.getElem?_eq_getElem hi) (List.getElem?_eq_getElem hi2), t.ok _ (List.getElem_mem hi2)⟩
  rw [List.getElem?_map, List.getElem?_eq_getElem hi] at h
  exact (Option.some.inj h).symm
def spIsEdit : Sp := fun vs H Q _ => ∃ (r : Addr) (e : List Str), vs = [.ref r] ∧ H r = some (.tup (e.map V.str)) ∧ EdOk e ∧ ∀ H', Same H H' → Q (.bl true) H'
def spCheck (K : PySem.W.Frag) : Sp := fun vs H Q _ => ∃ (a : Addr) (as : List Addr) (E : List (List Str)), vs = [.ref a] ∧ Scr K H a as E ∧ ∀ H', Same H H' → Q .non H'
def spSource (K : PySem.W.Frag) : Sp := fun vs H Q _ => ∃ (a : Addr) (as : List Addr) (E : List (List Str)), vs = [.ref a] ∧ Scr K H a as E ∧ ∀ H' p, Same H H' → H p = none → H' p = some (.tup ((srcOf E).map V.str)) → Q (.ref p) H'
def spTarget (K : PySem.W.Frag) : Sp := fun vs H Q _ => ∃ (a : Addr) (as : List Addr) (E : List (List Str)), vs = [.ref a] ∧ Scr K H a as E ∧ ∀ H' p, Same H H' → H p = none → H' p = some (.tup ((tgtOf E).map V.str)) → Q (.ref p) H'
def spCost (K : PySem.W.Frag) : Sp := fun vs H Q _ => ∃ (a : Addr) (as : List Addr) (E : List (List Str)), vs = [.ref a] ∧ Scr K H a as E ∧ ∀ H', Same H H' → Q (.int ((chgOf E).length : Nat)) H'
theorem good_len {s : Str} (h : Good s) : s.length ≤ sizeLine := by
  have := (good_of h).2.1
  exact Nat.le_trans (show s.length ≤ 8 from this) (Nat.le_trans (by decide) sizeLine_big)
section
variable {P : Program} {w : World} {K : PySem.W.Frag} {mg : Str → Option Value} {base : Heap}
theorem ok_is_edit (D : Dn K mg "is_edit" sis_edit ["value"]) (T : Txt K mg) (G_is_name : Cal P w K mg base 1 "is_name" spIsName []) : Cal P w K mg base 2 "is_edit" spIsEdit [] := by
  refine D.cal scis_edit (fun vs H Q E h => ?_) (fun f cdv A outer s H vs Q E hr h => ?_)
  · obtain ⟨r, e, rfl, _⟩ := h
    rfl
  · obtain ⟨r, e, rfl, hr0, he, q⟩ := h
    refine ⟨_, (pss_cons (ps_if (PW.pt (pw_or (pt_not (pt_val (pe_callB call_isi (by rfl) T.isinstance (by decide +kernel) (pa_cons (pv 0) (pa_cons (pe_bltn (v := .ty "tuple") (by rfl) T.tuple (by decide +kernel) rfl) pa_nil))))) (pw_or1 (pt_not (pt_chain op_le op_le pe_int (pe_callB call_len_seq (by rfl) T.len PySem.boot_len (pa_cons (pv 0) pa_nil)) pe_int))))) (pss_one (ps_ret pe_bl)) pss_nil)
      (pss_cons (ps_if (PW.pt (pw_or (pt_not (pt_val (pe_callB call_isi (by rfl) T.isinstance (by decide +kernel) (pa_cons (pe_ix ix_tup (pv 0) pe_int (fun _ _ => rfl)) (pa_cons (pe_bltn (v := .ty "str") (by rfl) T.str (by decide +kernel) rfl) pa_nil))))) (pw_or1 (pt_not (pt_val (pe_callB (cr_all rfl) (by rfl) T.all (by decide +kernel) (pa_cons (pe_lc (own := [("item", 1)]) (g := gName 1) (tt := tYes) (by rfl) scis_edit.nd (pi_tup (pe_slice sl_tup (pv 0) (po_some pe_int) po_none)) (blkOk_by (own := [("item", 1)]) (N := Nis_edit) (sc := fnScope sis_edit) (by decide +kernel)) (fun _ _ _ _ _ => (pg_name (i := 1) scis_edit.nd rfl (Or.inl rfl))) (fun _ _ _ _ _ => pts_nil) (fun _ _ _ _ _ => (pe_c G_is_name hr (by decide) (by rfl) (pa_cons (pv 1) pa_nil)))) pa_nil))))))) (pss_one (ps_ret pe_bl)) pss_nil)
      (pss_cons (ps_if (pt_cmpR op_eq (pe_callB call_len_seq (by rfl) T.len PySem.boot_len (pa_cons (pv 0) pa_nil)) pe_int (nomark _)) (pss_one (ps_ret (pe_cmpR op_in_seq (pe_ix ix_tup (pv 0) pe_int (fun _ _ => rfl)) (pe_tup (pa_cons pe_str (pa_cons pe_str (pa_cons pe_str pa_nil)))) rfl))) pss_nil)
      (pss_one (ps_ret (pe_and (pe_cmpR op_eq (pe_ix ix_tup (pv 0) pe_int (fun _ _ => rfl)) pe_str (nomark _)) (pe_one (pe_cmpR op_ne (pe_ix ix_tup (pv 0) pe_int (fun _ _ => rfl)) (pe_ix ix_tup (pv 0) pe_int (fun _ _ => rfl)) (nomark _))))))))), ?_⟩
    have ty : TyX K H (.ref r) (.type "tuple") := .base (.tup hr0)
    have l23 : 2 ≤ e.length ∧ e.length ≤ 3 := by
      rcases he with ⟨w, t, rfl, _⟩ | ⟨t, x, rfl, _⟩ <;> simp
    have all1 : ∀ t ∈ e.drop 1, Good t := by
      rcases he with ⟨w, t, rfl, _, g⟩ | ⟨t, x, rfl, g1, g2, _⟩
      · intro z hz
        have hz : z ∈ [t] := hz
        rw [List.mem_singleton] at hz
        exact hz ▸ g
      · intro z hz
        have hz : z ∈ [t, x] := hz
        rcases List.mem_cons.mp hz with rfl | hz
        · exact g1
        · rw [List.mem_singleton] at hz
          exact hz ▸ g2
    refine ⟨_, rfl, _, _, _, _, true, rfl, .ty _, ty, kit_ty (by decide +kernel), _, rfl, ?_⟩
    refine ⟨_, rfl, r, _, rfl, .inr (SqT.of hr0), _, _, rfl, rfl, _, rfl, iteD (decide_eq_true (by rw [List.length_map]; omega)) ⟨_, _, rfl, rfl, _, rfl, ?_⟩⟩
    show if (!decide (((e.map V.str).length : Int) ≤ 3)) = true then _ else _
    refine iteN (by rw [decide_eq_true (by rw [List.length_map]; omega)]; decide) ?_
    have h00 : (e.map V.str)[0]? = some (.str (w0 e)) := by
      rcases he with ⟨w, t, rfl, _⟩ | ⟨t, x, rfl, _⟩ <;> rfl
    have cut : cutV (e.map V.str) (some 1) none = (e.drop 1).map V.str := by
      rcases he with ⟨w, t, rfl, _⟩ | ⟨t, x, rfl, _⟩ <;> rfl
    have whole : ¬ (HT.sIx (e.map V.str).length 0 (some 1) = 0 ∧ HT.sIx (e.map V.str).length (e.map V.str).length none = (e.map V.str).length) := by
      intro h
      have h1 := h.1
      rw [show HT.sIx (e.map V.str).length 0 (some 1) = min 1 (e.map V.str).length from HT.sIx_nat _ 0 1, List.length_map] at h1
      omega
    refine ⟨_, rfl, r, _, 0, _, rfl, rfl, SqT.of hr0, atI_nat (j := 0) h00, _, _, _, _, true, rfl, .ty _, .base (.str _), kit_ty (by decide +kernel), _, rfl, ?_⟩
    refine ⟨_, rfl, 1, rfl, r, _, rfl, SqT.of hr0, whole, fun p np => ?_⟩
    rw [cut]
    have s1 : Same H (upd H p (.tup ((e.drop 1).map V.str))) := same_upd np
    refine ⟨p, rfl, ⟨_, SqT.of upd_same⟩, fun D nD => ?_⟩
    have npD : p ≠ D := fun z => not_two (z ▸ nD) upd_same
    refine lc_it (walk_tup (K := K) (a := p) (xs := (e.drop 1).map V.str)) (fun i H' => Same (upd H p (.tup ((e.drop 1).map V.str))) H' ∧ H' D = some (.lst ((List.replicate i true).map V.bl))) ⟨same_upd nD, upd_same⟩ (fun _ H' _ h => SqT.of (h.1 _ _ upd_same)) (fun i x H' H2 hi hP hY => ?_) (fun H' hP => ?_)
    · obtain ⟨rfl, hx⟩ := hY
      obtain ⟨sm, hD⟩ := hP
      rw [List.length_map] at hi
      have ex : x = V.str (e.drop 1)[i] := Option.some.inj (hx.symm.trans (get_str hi))
      subst ex
      have g := all1 _ (List.getElem_mem hi)
      refine ⟨rfl, _, rfl, _, rfl, good_len g, fun H3 s3 => ?_⟩
      rw [show goodB _ = true from g]
      refine ⟨_, s3 _ _ hD, ?_, fun b9 o9 e9 => ?_, ?_⟩
      · rw [List.length_map, List.length_replicate]
        rw [List.length_drop] at hi
        exact small1000 (by omega)
      · rw [upd_ne (fun y => not_two nD (y ▸ e9))]
        exact s3 _ _ (sm _ _ e9)
      · rw [upd_same, List.replicate_succ', List.map_append]
        rfl
    · obtain ⟨sm, hD⟩ := hP
      have sm0 : Same H H' := s1.trans sm
      have hr1 := sm0 _ _ hr0
      refine ⟨D, _, rfl, SqL.of hD, _, rfl, ?_⟩
      have ea : (List.replicate ((e.drop 1).map V.str).length true).all id = true := by
        rw [List.all_eq_true]
        intro b hb
        exact (List.mem_replicate.mp hb).2
      show if (!((List.replicate ((e.drop 1).map V.str).length true).all id)) = true then _ else _
      rw [ea]
      refine iteN (by decide) ?_
      -- if len(value) == 2
      refine ⟨_, rfl, r, _, rfl, .inr (SqT.of hr1), rfl, _, rfl, ?_⟩
      rcases he with ⟨w, t, rfl, hw, g⟩ | ⟨t, x, rfl, g1, g2, ne⟩
      · refine iteD (decide_eq_true rfl) ?_
        refine ⟨_, rfl, r, _, 0, _, rfl, rfl, SqT.of hr1, atI_nat (j := 0) rfl, by show 3 ≤ sizeLine; decide, fun T nT => ⟨T, _, rfl, .inr (SqT.of upd_same), rfl, rfl, ?_⟩⟩
        show Q (V.bl (inV (.str w) ([("keep" : Str), "drop", "put"].map V.str))) _
        have e3 : inV (.str w) ([("keep" : Str), "drop", "put"].map V.str) = true := by
          rw [inV_str, decide_eq_true_eq]
          rcases hw with rfl | rfl | rfl <;> simp
        rw [e3]
        exact q _ (sm0.upd nT)
      · refine iteN (by show ¬ decide (V.int 3 = V.int 2) = true; decide) ?_
        refine ⟨_, rfl, r, _, 0, _, rfl, rfl, SqT.of hr1, atI_nat (j := 0) rfl, rfl, _, rfl, iteD (decide_eq_true rfl) ?_⟩
        refine ⟨_, rfl, r, _, 1, _, rfl, rfl, SqT.of hr1, atI_nat (j := 1) rfl, _, rfl, r, _, 2, _, rfl, rfl, SqT.of hr1, atI_nat (j := 2) rfl, rfl, ?_⟩
        have e3 : (!decide (V.str t = V.str x)) = true := by
          rw [decide_eq_false (fun z => ne (V.str.inj z))]
          rfl
        rw [e3]
        exact q _ sm0
theorem ok_bad_edit_place (D : Dn K mg "bad_edit_place" sbad_edit_place ["script"]) (T : Txt K mg) (G_is_edit : Cal P w K mg base 2 "is_edit" spIsEdit []) : Cal P w K mg base 3 "bad_edit_place" (spCheck K) [] := by
  refine D.cal scbad_edit_place (fun vs H Q E h => ?_) (fun f cdv A outer s H vs Q E hr h => ?_)
  · obtain ⟨a, as, E, rfl, _⟩ := h
    rfl
  · obtain ⟨a, as, Ed, rfl, hS, q⟩ := h
    refine ⟨_, (pss_cons (ps_if (PW.pt (pw_or (pt_not (pt_val (pe_callB call_isiT (by rfl) T.isinstance (by decide +kernel) (pa_cons (pv 0) (pa_cons (pe_tup (pa_cons (pe_bltn (v := .ty "list") (by rfl) T.list (by decide +kernel) rfl) (pa_cons (pe_bltn (v := .ty "tuple") (by rfl) T.tuple (by decide +kernel) rfl) pa_nil))) pa_nil))))) (pw_or1 (pt_cmpR op_gt (pe_callB call_len_seq (by rfl) T.len PySem.boot_len (pa_cons (pv 0) pa_nil)) (pe_gc (by rfl) T.LONGEST_SCRIPT) (nomark _))))) (pss_one (ps_ret (pe_un un_neg pe_int))) pss_nil)
      (pss_cons (ps_for PassesOwn.never rfl (pi_enS (by rfl) T.enumerate (pa_cons (pv 0) pa_nil)) (pg_tup rfl (pgs_cons (pg_name (i := 1) scbad_edit_place.nd rfl (Or.inl rfl)) (pgs_cons (pg_name (i := 2) scbad_edit_place.nd rfl (Or.inl rfl)) pgs_nil))) (pss_one (ps_if (pt_not (pt_val (pe_c G_is_edit hr (by decide) (by rfl) (pa_cons (pv 2) pa_nil)))) (pss_one (ps_ret (pv 1))) pss_nil)))
      (pss_one (ps_ret pe_non)))), ?_⟩
    have ty : TyX K H (.ref a) (.type "list") ∨ TyX K H (.ref a) (.type "tuple") := hS.at_.elim (fun h => .inl (ty_sql h)) fun h => .inr (ty_sqt h)
    refine ⟨_, rfl, by show 2 ≤ sizeLine; decide, fun t nt => ?_⟩
    have s1 : Same H (upd H t (.tup [.ty "list", .ty "tuple"])) := same_upd nt
    have key : ∃ (tt : Value), TyX K (upd H t (.tup [.ty "list", .ty "tuple"])) (.ref a) tt ∧ PySem.W.kitAny K tt [.type "list", .type "tuple"] = some true := by
      rcases hS.at_ with h | h
      · exact ⟨_, ty_sql (s1.seq h), by
          unfold PySem.W.kitAny
          rw [kit_ty (K := K) (show kitB "list" "list" = some true by decide +kernel)]⟩
      · exact ⟨_, ty_sqt (s1.seqT h), by
          unfold PySem.W.kitAny
          rw [kit_ty (K := K) (show kitB "tuple" "list" = some false by decide +kernel)]
          unfold PySem.W.kitAny
          rw [kit_ty (K := K) (show kitB "tuple" "tuple" = some true by decide +kernel)]⟩
    obtain ⟨tt, t1, t2⟩ := key
    refine ⟨_, t, _, _, _, true, rfl, upd_same, .cons (.ty _) (.cons (.ty _) .nil), t1, t2, _, rfl, ?_⟩
    have hS1 := hS.same s1
    have hl := hS.len
    have hal : as.length = Ed.length := hS.tups.len
    refine ⟨_, rfl, a, _, rfl, hS1.at_, _, _, rfl, rfl, _, rfl, ?_⟩
    refine iteN (by rw [decide_eq_true_eq, List.length_map]; omega) ?_
    refine ⟨_, rfl, a, _, rfl, hS1.at_, fun J hJ => ?_⟩
    refine for_it hJ (fun i σ H' => (∃ y1 y2 : Option V, σ = [some (.ref a), y1, y2]) ∧ Same H H' ∧ Same (upd H t (.tup [.ty "list", .ty "tuple"])) H') ⟨⟨_, _, rfl⟩, s1, Same.refl _⟩ (fun _ _ _ _ h => h.2.2) (fun i x σ H' H2 hi hP hY => ?_) (fun σ H' hP => ?_)
    · obtain ⟨⟨y1, y2, rfl⟩, s2, s3⟩ := hP
      obtain ⟨T0, x0, x1, rfl, nT, rfl, e0, e1⟩ := hY
      have e0 := Option.some.inj e0
      subst e0
      have s4 : Same H (upd H' T0 (.tup [.int ((i : Nat) : Int), x1])) := s2.upd nT
      obtain ⟨hi2, r, rfl, _, hr0, hok⟩ := (hS.same s4).item e1
      refine ⟨T0, _, rfl, SqT.of upd_same, rfl, _, _, rfl, _, _, rfl, rfl, ?_⟩
      refine ⟨_, rfl, r, _, rfl, hr0, hok, fun H5 s5 => ⟨_, rfl, ?_⟩⟩
      exact ⟨⟨_, _, rfl⟩, s4.trans s5, (s3.upd nT).trans s5⟩
    · obtain ⟨⟨y1, y2, rfl⟩, s2, _⟩ := hP
      exact q _ s2
theorem ok_check_script (D : Dn K mg "check_script" scheck_script ["script"]) (T : Txt K mg) (G_bad_edit_place : Cal P w K mg base 3 "bad_edit_place" (spCheck K) []) : Cal P w K mg base 4 "check_script" (spCheck K) [] := by
  refine D.cal sccheck_script (fun vs H Q E h => ?_) (fun f cdv A outer s H vs Q E hr h => ?_)
  · obtain ⟨a, as, E, rfl, _⟩ := h
    rfl
  · obtain ⟨a, as, Ed, rfl, hS, q⟩ := h
    refine ⟨_, (pss_cons (ps_set (i := 1) sccheck_script.nd rfl (Or.inl rfl) (pe_c G_bad_edit_place hr (by decide) (by rfl) (pa_cons (pv 0) pa_nil)))
      (pss_one (ps_if (pt_cmpR op_notN (pv 1) pe_non (nomark _)) (pss_one ps_never) pss_nil))), ?_⟩
    refine ⟨_, rfl, a, as, Ed, rfl, hS, fun H' s1 => ?_⟩
    exact ⟨_, rfl, rfl, _, rfl, q _ s1⟩
theorem get_take_filter (p : List Str → Bool) {E : List (List Str)} {i : Nat} (hi : i < E.length) (f : List Str → Str) :
    ((E.take (i + 1)).filter p).map f = ((E.take i).filter p).map f ++ (if p E[i] = true then [f E[i]] else []) := by
  rw [take_filter _ hi, List.map_append]
  split <;> rfl
theorem edit_at0 {e : List Str} (h : EdOk e) : (e.map V.str)[0]? = some (.str (w0 e)) := by
  rcases h with ⟨w, t, rfl, _⟩ | ⟨t, x, rfl, _⟩ <;> rfl
theorem edit_at1 {e : List Str} (h : EdOk e) : (e.map V.str)[1]? = some (.str (w1 e)) := by
  rcases h with ⟨w, t, rfl, _⟩ | ⟨t, x, rfl, _⟩ <;> rfl
theorem edit_last {e : List Str} (h : EdOk e) : atI (e.map V.str) (-1) = some (.str (wl e)) := by
  rcases h with ⟨w, t, rfl, _⟩ | ⟨t, x, rfl, _⟩ <;> rfl
theorem src_lc {xs : List Str} (h : xs.length ≤ 4000) : (xs.map V.str).length < sizeLine := by
  rw [List.length_map]
  exact Nat.lt_of_le_of_lt h (Nat.lt_of_lt_of_le (by decide) sizeLine_big)
theorem ok_source (D : Dn K mg "source" ssource ["script"]) (T : Txt K mg) (G_check_script : Cal P w K mg base 4 "check_script" (spCheck K) []) : Cal P w K mg base 5 "source" (spSource K) [] := by
  refine D.cal scsource (fun vs H Q E h => ?_) (fun f cdv A outer s H vs Q E hr h => ?_)
  · obtain ⟨a, as, E, rfl, _⟩ := h
    rfl
  · obtain ⟨a, as, Ed, rfl, hS, q⟩ := h
    refine ⟨_, (pss_cons (ps_expr (pe_c G_check_script hr (by decide) (by rfl) (pa_cons (pv 0) pa_nil)))
      (pss_one (ps_ret (pe_callTy call_tuple_of (by rfl) T.tuple (by decide +kernel) (pa_cons (pe_lc (own := [("edit", 1)]) (g := gName 1) (by rfl) scsource.nd (pi_sq (pv 0)) (blkOk_by (own := [("edit", 1)]) (N := Nsource) (sc := fnScope ssource) (by decide +kernel)) (fun _ _ _ _ _ => (pg_name (i := 1) scsource.nd rfl (Or.inl rfl))) (fun _ _ _ _ _ => (pts_one (pt_cmpR op_ne (pe_ix (ix_tupK K) (pv 1) pe_int (fun _ _ => rfl)) pe_str (nomark _)))) (fun _ _ _ _ _ => (pe_ix (ix_tupK K) (pv 1) pe_int (fun _ _ => rfl)))) pa_nil))))), ?_⟩
    refine ⟨_, rfl, a, as, Ed, rfl, hS, fun H1 s1 => ?_⟩
    have hS1 := hS.same s1
    have hal : as.length = Ed.length := hS.tups.len
    have hl := hS.len
    refine ⟨_, rfl, a, _, rfl, hS1.at_, fun J hJ D nD => ?_⟩
    refine lc_it hJ (fun i H' => Same H1 H' ∧ H' D = some (.lst ((((Ed.take i).filter fun e => !decide (w0 e = "put")).map w1).map V.str))) ⟨same_upd nD, upd_same⟩ (fun _ _ _ h => h.1) (fun i x H' H2 hi hP hY => ?_) (fun H' hP => ?_)
    · obtain ⟨rfl, hx⟩ := hY
      obtain ⟨sm, hD⟩ := hP
      obtain ⟨hi2, r, rfl, _, hr0, hok⟩ := (hS1.same sm).item hx
      refine ⟨rfl, _, rfl, r, _, 0, _, rfl, rfl, SqT.of hr0, atI_nat (j := 0) (edit_at0 hok), rfl, _, rfl, ?_⟩
      rw [get_take_filter _ hi2]
      refine ite2 (fun hb => ?_) (fun hb => ?_)
      · have hb2 : (!decide (w0 Ed[i] = "put")) = true := by
          rw [Bool.not_eq_true', decide_eq_false_iff_not] at hb ⊢
          exact fun z => hb (congrArg V.str z)
        rw [if_pos hb2]
        refine ⟨_, rfl, r, _, 1, _, rfl, rfl, SqT.of hr0, atI_nat (j := 1) (edit_at1 hok), _, hD, ?_, fun b9 o9 e9 => ?_, ?_⟩
        · refine src_lc ?_
          rw [List.length_map]
          exact Nat.le_trans (List.length_filter_le _ _) (Nat.le_trans (List.length_take_le _ _) (by omega))
        · rw [upd_ne (fun y => not_two nD (y ▸ e9))]
          exact sm _ _ e9
        · rw [upd_same, List.map_append]
          rfl
      · have hb2 : ¬ (!decide (w0 Ed[i] = "put")) = true := by
          rw [Bool.not_eq_true', decide_eq_false_iff_not] at hb ⊢
          exact fun z => hb (fun z2 => z (V.str.inj z2))
        rw [if_neg hb2, List.append_nil]
        exact ⟨sm, hD⟩
    · obtain ⟨sm, hD⟩ := hP
      rw [List.length_map, hal, List.take_length] at hD
      refine ⟨D, _, rfl, .inl ⟨SqL.of hD, fun p np => ?_⟩⟩
      exact q _ p ((s1.trans sm).upd np) ((s1.trans sm).free np) upd_same
theorem ok_target (D : Dn K mg "target" starget ["script"]) (T : Txt K mg) (G_check_script : Cal P w K mg base 4 "check_script" (spCheck K) []) : Cal P w K mg base 5 "target" (spTarget K) [] := by
  refine D.cal sctarget (fun vs H Q E h => ?_) (fun f cdv A outer s H vs Q E hr h => ?_)
  · obtain ⟨a, as, E, rfl, _⟩ := h
    rfl
  · obtain ⟨a, as, Ed, rfl, hS, q⟩ := h
    refine ⟨_, (pss_cons (ps_expr (pe_c G_check_script hr (by decide) (by rfl) (pa_cons (pv 0) pa_nil)))
      (pss_one (ps_ret (pe_callTy call_tuple_of (by rfl) T.tuple (by decide +kernel) (pa_cons (pe_lc (own := [("edit", 1)]) (g := gName 1) (by rfl) sctarget.nd (pi_sq (pv 0)) (blkOk_by (own := [("edit", 1)]) (N := Ntarget) (sc := fnScope starget) (by decide +kernel)) (fun _ _ _ _ _ => (pg_name (i := 1) sctarget.nd rfl (Or.inl rfl))) (fun _ _ _ _ _ => (pts_one (pt_cmpR op_ne (pe_ix (ix_tupK K) (pv 1) pe_int (fun _ _ => rfl)) pe_str (nomark _)))) (fun _ _ _ _ _ => (pe_ix (ix_tupK K) (pv 1) (pe_un un_neg pe_int) (fun _ _ => rfl)))) pa_nil))))), ?_⟩
    refine ⟨_, rfl, a, as, Ed, rfl, hS, fun H1 s1 => ?_⟩
    have hS1 := hS.same s1
    have hal : as.length = Ed.length := hS.tups.len
    have hl := hS.len
    refine ⟨_, rfl, a, _, rfl, hS1.at_, fun J hJ D nD => ?_⟩
    refine lc_it hJ (fun i H' => Same H1 H' ∧ H' D = some (.lst ((((Ed.take i).filter fun e => !decide (w0 e = "drop")).map wl).map V.str))) ⟨same_upd nD, upd_same⟩ (fun _ _ _ h => h.1) (fun i x H' H2 hi hP hY => ?_) (fun H' hP => ?_)
    · obtain ⟨rfl, hx⟩ := hY
      obtain ⟨sm, hD⟩ := hP
      obtain ⟨hi2, r, rfl, _, hr0, hok⟩ := (hS1.same sm).item hx
      refine ⟨rfl, _, rfl, r, _, 0, _, rfl, rfl, SqT.of hr0, atI_nat (j := 0) (edit_at0 hok), rfl, _, rfl, ?_⟩
      rw [get_take_filter _ hi2]
      refine ite2 (fun hb => ?_) (fun hb => ?_)
      · have hb2 : (!decide (w0 Ed[i] = "drop")) = true := by
          rw [Bool.not_eq_true', decide_eq_false_iff_not] at hb ⊢
          exact fun z => hb (congrArg V.str z)
        rw [if_pos hb2]
        refine ⟨_, rfl, 1, rfl, r, _, -1, _, rfl, rfl, SqT.of hr0, edit_last hok, _, hD, ?_, fun b9 o9 e9 => ?_, ?_⟩
        · refine src_lc ?_
          rw [List.length_map]
          exact Nat.le_trans (List.length_filter_le _ _) (Nat.le_trans (List.length_take_le _ _) (by omega))
        · rw [upd_ne (fun y => not_two nD (y ▸ e9))]
          exact sm _ _ e9
        · rw [upd_same, List.map_append]
          rfl
      · have hb2 : ¬ (!decide (w0 Ed[i] = "drop")) = true := by
          rw [Bool.not_eq_true', decide_eq_false_iff_not] at hb ⊢
          exact fun z => hb (fun z2 => z (V.str.inj z2))
        rw [if_neg hb2, List.append_nil]
        exact ⟨sm, hD⟩
    · obtain ⟨sm, hD⟩ := hP
      rw [List.length_map, hal, List.take_length] at hD
      refine ⟨D, _, rfl, .inl ⟨SqL.of hD, fun p np => ?_⟩⟩
      exact q _ p ((s1.trans sm).upd np) ((s1.trans sm).free np) upd_same
theorem ok_cost (D : Dn K mg "cost" scost ["script"]) (T : Txt K mg) (G_check_script : Cal P w K mg base 4 "check_script" (spCheck K) []) : Cal P w K mg base 5 "cost" (spCost K) [] := by
  refine D.cal sccost (fun vs H Q E h => ?_) (fun f cdv A outer s H vs Q E hr h => ?_)
  · obtain ⟨a, as, E, rfl, _⟩ := h
    rfl
  · obtain ⟨a, as, Ed, rfl, hS, q⟩ := h
    refine ⟨_, (pss_cons (ps_expr (pe_c G_check_script hr (by decide) (by rfl) (pa_cons (pv 0) pa_nil)))
      (pss_one (ps_ret (pe_callB call_len_seq (by rfl) T.len PySem.boot_len (pa_cons (pe_lc (own := [("edit", 1)]) (g := gName 1) (by rfl) sccost.nd (pi_sq (pv 0)) (blkOk_by (own := [("edit", 1)]) (N := Ncost) (sc := fnScope scost) (by decide +kernel)) (fun _ _ _ _ _ => (pg_name (i := 1) sccost.nd rfl (Or.inl rfl))) (fun _ _ _ _ _ => (pts_one (pt_cmpR op_ne (pe_ix (ix_tupK K) (pv 1) pe_int (fun _ _ => rfl)) pe_str (nomark _)))) (fun _ _ _ _ _ => (pv 1))) pa_nil))))), ?_⟩
    refine ⟨_, rfl, a, as, Ed, rfl, hS, fun H1 s1 => ?_⟩
    have hS1 := hS.same s1
    have hal : as.length = Ed.length := hS.tups.len
    have hl := hS.len
    refine ⟨_, rfl, a, _, rfl, hS1.at_, fun J hJ D nD => ?_⟩
    refine lc_it hJ (fun i H' => Same H1 H' ∧ ∃ ys : List V, H' D = some (.lst ys) ∧ ys.length = (chgOf (Ed.take i)).length) ⟨same_upd nD, _, upd_same, rfl⟩ (fun _ _ _ h => h.1) (fun i x H' H2 hi hP hY => ?_) (fun H' hP => ?_)
    · obtain ⟨rfl, hx⟩ := hY
      obtain ⟨sm, ys, hD, hy⟩ := hP
      obtain ⟨hi2, r, rfl, _, hr0, hok⟩ := (hS1.same sm).item hx
      refine ⟨rfl, _, rfl, r, _, 0, _, rfl, rfl, SqT.of hr0, atI_nat (j := 0) (edit_at0 hok), rfl, _, rfl, ?_⟩
      unfold chgOf at hy ⊢
      rw [take_filter _ hi2]
      refine ite2 (fun hb => ?_) (fun hb => ?_)
      · have hb2 : (!decide (w0 Ed[i] = "keep")) = true := by
          rw [Bool.not_eq_true', decide_eq_false_iff_not] at hb ⊢
          exact fun z => hb (congrArg V.str z)
        rw [if_pos hb2]
        refine ⟨_, rfl, _, hD, ?_, fun b9 o9 e9 => ?_, _, upd_same, ?_⟩
        · rw [hy]
          exact Nat.lt_of_le_of_lt (Nat.le_trans (List.length_filter_le _ _) (Nat.le_trans (List.length_take_le _ _) (by omega))) (Nat.lt_of_lt_of_le (show 4000 < 100000 by decide) sizeLine_big)
        · rw [upd_ne (fun y => not_two nD (y ▸ e9))]
          exact sm _ _ e9
        · rw [List.length_append, List.length_append, hy]
          rfl
      · have hb2 : ¬ (!decide (w0 Ed[i] = "keep")) = true := by
          rw [Bool.not_eq_true', decide_eq_false_iff_not] at hb ⊢
          exact fun z => hb (fun z2 => z (V.str.inj z2))
        rw [if_neg hb2, List.append_nil]
        exact ⟨sm, ys, hD, hy⟩
    · obtain ⟨sm, ys, hD, hy⟩ := hP
      rw [List.length_map, hal, List.take_length] at hy
      refine ⟨D, _, rfl, .inl (SqL.of hD), ?_⟩
      rw [hy]
      exact q _ (s1.trans sm)
end
end Sv

namespace Sv
open PySem PySem.Spec PyProof.Rows L2
open C8 (Cal Mak Met cal0 mak0 met0 pe_c pe_mk pe_mt pe_mt0 fnBody fnArgs fnScope scC fnScope_by pe_gc InsC call_isC)
theorem Purse.new3 {H : Hp} {p c g a : Addr} {n : Nat} (P : Purse H p c g n) (h : H a = none) : a ≠ p ∧ a ≠ c ∧ a ≠ g := by
  obtain ⟨⟨_, _, _, h1, h2, h3, _⟩, _⟩ := P
  exact ⟨fun e => not_two h (e ▸ h1), fun e => not_two h (e ▸ h2), fun e => not_two h (e ▸ h3)⟩
theorem Purse.upd {H : Hp} {p c g a : Addr} {n : Nat} {o : HO} (P : Purse H p c g n) (h : a ≠ p ∧ a ≠ c ∧ a ≠ g) : Purse (L2.upd H a o) p c g n := by
  obtain ⟨⟨cs, gs, k, h1, h2, h3, r⟩, b⟩ := P
  exact ⟨⟨cs, gs, k, by rw [upd_ne h.1.symm]; exact h1, by rw [upd_ne h.2.1.symm]; exact h2, by rw [upd_ne h.2.2.symm]; exact h3, r⟩, by assumption, by assumption, by assumption⟩
/-- what stands after a draw stood before it or is new -/
theorem Keep.free {p g a : Addr} {H H' : Hp} (k : Keep p g H H') (d1 : a ≠ p) (d2 : a ≠ g) (h : H' a = none) : H a = none := by
  cases e : H a with
  | none => rfl
  | some o => exact (not_two h (k a d1 d2 _ e)).elim
theorem Tups.keep {H H' : Hp} {p c g : Addr} {n : Nat} {as : List Addr} {E : List (List Str)} (t : Tups H as E) (P : Purse H p c g n) (k : Keep p g H H') : Tups H' as E :=
  ⟨t.len, fun i a e h1 h2 => by
    have h := t.get i a e h1 h2
    have d := P.ne h (fun _ => by intro z; cases z)
    exact k a d.1 d.2 _ h⟩
theorem Tups.upd {H : Hp} {a : Addr} {o : HO} {as : List Addr} {E : List (List Str)} (t : Tups H as E) (h : ∀ e : List Str, H a ≠ some (.tup (e.map V.str))) : Tups (L2.upd H a o) as E :=
  ⟨t.len, fun i b e h1 h2 => by
    have q := t.get i b e h1 h2
    rw [upd_ne (fun (z : b = a) => h e (by rw [← z]; exact q))]
    exact q⟩
theorem Tups.snoc {H : Hp} {as : List Addr} {E : List (List Str)} {a : Addr} {e : List Str} (t : Tups H as E) (h : H a = some (.tup (e.map V.str))) : Tups H (as ++ [a]) (E ++ [e]) := by
  refine ⟨by rw [List.length_append, List.length_append, t.len]; rfl, fun i b f h1 h2 => ?_⟩
  by_cases hi : i < as.length
  · rw [List.getElem?_append_left hi] at h1
    rw [List.getElem?_append_left (t.len ▸ hi)] at h2
    exact t.get i b f h1 h2
  · rw [List.getElem?_append_right (by omega)] at h1
    rw [List.getElem?_append_right (by have := t.len; omega), ← t.len] at h2
    have e0 : i - as.length = 0 := by
      have := (List.getElem?_eq_some_iff.mp h1).1
      simp at this
      omega
    rw [e0] at h1 h2
    cases h1
    cases h2
    exact h
def spScript : Sp := fun vs H Q _ => ∃ (p c g nm : Addr) (n : Nat) (L : List Str) (m : Int), vs = [.ref p, .ref nm, .int m] ∧ Purse H p c g n ∧ n ≤ 700000000 ∧ nm ≠ p ∧ nm ≠ g ∧ H nm = some (.lst (L.map V.str)) ∧ 0 < L.length ∧ L.length ≤ 10 ∧ (∀ s ∈ L, Good s) ∧ 0 ≤ m ∧ m ≤ 1000 ∧
  ∀ (H' : Hp) (a : Addr) (as : List Addr) (E : List (List Str)), Keep p g H H' → Purse H' p c g (n + 4000) → H a = none → H' a = some (.lst (as.map V.ref)) → Tups H' as E → (∀ e ∈ E, EdOk e) → (E.length : Int) ≤ m → Q (.ref a) H'
def ScrInv (p c g nm a : Addr) (m : Int) (H : Hp) (n : Nat) (L : List Str) (i : Nat) (σ : L2.St) (H' : Hp) : Prop := ∃ (as : List Addr) (E : List (List Str)) (y4 y5 y6 y7 y8 : Option V), σ = [some (.ref p), some (.ref nm), some (.int m), some (.ref a), y4, y5, y6, y7, y8] ∧ Keep p g H H' ∧ Purse H' p c g (n + 1 + 3 * i) ∧
  H' nm = some (.lst (L.map V.str)) ∧ H' a = some (.lst (as.map V.ref)) ∧ Tups H' as E ∧ (∀ e ∈ E, EdOk e) ∧ E.length = i
theorem ScrInv.step {p c g nm a T : Addr} {m : Int} {H H' : Hp} {n : Nat} {L : List Str} {i : Nat} {as : List Addr} {E : List (List Str)} {e : List Str} {y4 y5 y6 y7 y8 : Option V} (na : H a = none) (nma : nm ≠ a) (da : a ≠ p ∧ a ≠ c ∧ a ≠ g)
    (k : Keep p g H H') (P : Purse H' p c g (n + 1 + 3 * (i + 1))) (hn : H' nm = some (.lst (L.map V.str))) (ha : H' a = some (.lst (as.map V.ref))) (t : Tups H' as E) (ok : ∀ e ∈ E, EdOk e) (hl : E.length = i) (hT : H' T = none) (he : EdOk e) :
    ScrInv p c g nm a m H n L (i + 1) [some (.ref p), some (.ref nm), some (.int m), some (.ref a), y4, y5, y6, y7, y8] (L2.upd (L2.upd H' T (.tup (e.map V.str))) a (.lst (as.map V.ref ++ [.ref T]))) := by
  have nTa : T ≠ a := fun z => not_two hT (z ▸ ha)
  have s1 : Same H' (L2.upd H' T (.tup (e.map V.str))) := same_upd hT
  have t1 : Tups (L2.upd H' T (.tup (e.map V.str))) (as ++ [T]) (E ++ [e]) := (t.same s1).snoc upd_same
  refine ⟨as ++ [T], E ++ [e], _, _, _, _, _, rfl, fun b d1 d2 o eb => ?_, (P.same s1).upd da, ?_, ?_, t1.upd (fun e' z => ?_), fun e' h => ?_, ?_⟩
  · rw [upd_ne (fun z => not_two na (z ▸ eb))]
    exact s1 _ _ (k b d1 d2 o eb)
  · rw [upd_ne nma]
    exact s1 _ _ hn
  · rw [upd_same, List.map_append]
    rfl
  · have z2 := s1 _ _ ha
    rw [z2] at z
    cases z
  · rcases List.mem_append.mp h with h | h
    · exact ok _ h
    · rw [List.mem_singleton] at h
      exact h ▸ he
  · rw [List.length_append, hl]
    rfl
section
variable {P : Program} {w : World} {K : PySem.W.Frag} {mg : Str → Option Value} {base : Heap}
theorem ok_law_script (D : Dn K mg "_law_script" s_law_script ["_law_purse_here", "_law_names_here", "_law_most"]) (T : Txt K mg) (G__law_draw : Cal P w K mg base 1 "_law_draw" spDraw []) : Cal P w K mg base 2 "_law_script" spScript [] := by
  refine D.cal sc_law_script (fun vs H Q E h => ?_) (fun f cdv A outer s H vs Q E hr h => ?_)
  · obtain ⟨p, c, g, nm, n, L, m, rfl, _⟩ := h
    rfl
  · obtain ⟨p, c, g, nm, n, L, m, rfl, hP, hn, d1, d2, hL, l0, l10, hg, m0, m1, q⟩ := h
    refine ⟨_, (pss_cons (ps_set (i := 3) sc_law_script.nd rfl (Or.inl rfl) (pe_lst pa_nil))
      (pss_cons (ps_for PassesOwn.never rfl (pi_range1 (by rfl) T.range (pa_cons (pe_c G__law_draw hr (by decide) (by rfl) (pa_cons (pv 0) (pa_cons (pe_op op_add (pv 2) pe_int) pa_nil))) pa_nil)) (pg_name (i := 4) sc_law_script.nd rfl (Or.inl rfl)) (pss_cons (ps_set (i := 5) sc_law_script.nd rfl (Or.inl rfl) (pe_c G__law_draw hr (by decide) (by rfl) (pa_cons (pv 0) (pa_cons pe_int pa_nil)))) (pss_cons (ps_set (i := 6) sc_law_script.nd rfl (Or.inr rfl) (pe_ix ix_list (pv 1) (pe_c G__law_draw hr (by decide) (by rfl) (pa_cons (pv 0) (pa_cons (pe_callB call_len_seq (by rfl) T.len PySem.boot_len (pa_cons (pv 1) pa_nil)) pa_nil))) (fun _ _ => rfl))) (pss_cons (ps_setLc (i := 7) (own := [("_law_name_here", 8)]) (g := gName 8) (by rfl) sc_law_script.nd rfl rfl (sw_true rfl rfl rfl (by decide +kernel)) (pi_list (pv 1)) (blkOk_by (own := [("_law_name_here", 8)]) (N := N_law_script) (sc := fnScope s_law_script) (by decide +kernel)) (fun _ _ _ _ _ => (pg_name (i := 8) sc_law_script.nd rfl (Or.inl rfl))) (fun _ _ _ _ _ => (pts_one (pt_cmpR op_ne (pv 8) (pv 6) (nomark _)))) (fun _ _ _ _ _ => (pv 8))) (pss_one (ps_if (PW.pt (pw_and (pt_cmpR op_eq (pv 5) pe_int (nomark _)) (pw_and1 (pt_cmpR op_gt (pe_callB call_len_seq (by rfl) T.len PySem.boot_len (pa_cons (pv 7) pa_nil)) pe_int (nomark _))))) (pss_one (ps_expr (pe_bm PySem.F.plainAttrs_list PySem.F.slot_list_append PySem.F.type_list_append mt_append (pv 3) (pa_cons (pe_tup (pa_cons pe_str (pa_cons (pv 6) (pa_cons (pe_ix ix_list (pv 7) (pe_c G__law_draw hr (by decide) (by rfl) (pa_cons (pv 0) (pa_cons (pe_callB call_len_seq (by rfl) T.len PySem.boot_len (pa_cons (pv 7) pa_nil)) pa_nil))) (fun _ _ => rfl)) pa_nil)))) pa_nil)))) (pss_one (ps_expr (pe_bm PySem.F.plainAttrs_list PySem.F.slot_list_append PySem.F.type_list_append mt_append (pv 3) (pa_cons (pe_tup (pa_cons (pe_ix ix_list (pe_lst (pa_cons pe_str (pa_cons pe_str (pa_cons pe_str (pa_cons pe_str pa_nil))))) (pv 5) (fun _ _ => rfl)) (pa_cons (pv 6) pa_nil))) pa_nil))))))))))
      (pss_one (ps_ret (pv 3))))), ?_⟩
    refine ⟨Nat.zero_le _, fun a na => ?_⟩
    have da := hP.new3 na
    have P1 := hP.same (same_upd (o := .lst []) na)
    have nma : nm ≠ a := fun e => not_two (e ▸ na) hL
    refine ⟨_, rfl, _, rfl, _, _, rfl, rfl, p, c, g, n, m + 1, rfl, P1, by omega, by omega, by omega, fun H1 r k1 P2 r0 r1 => ?_⟩
    refine ⟨_, rfl, by omega, by omega, ?_⟩
    have K1 : Keep p g H H1 := (Keep.of_same (same_upd na)).trans k1
    refine for_range (lo := 0) (n := r.toNat) (ScrInv p c g nm a m H n L)
      ⟨[], [], _, _, _, _, _, rfl, K1, P2, k1 nm d1 d2 _ (by rw [upd_ne nma]; exact hL), k1 a da.1 da.2.2 _ upd_same, ⟨rfl, fun i a e h => by simp at h⟩, (fun e he => by cases he), rfl⟩ (fun i σ H' hi h => ?_) (fun σ H' h => ?_)
    · obtain ⟨as, Ed, y4, y5, y6, y7, y8, rfl, k2, P3, hnm, ha, ht, hok, hlen⟩ := h
      -- kind = draw(4)
      refine ⟨_, rfl, p, c, g, _, 4, rfl, P3, by omega, by decide, by decide, fun H4 kd k4 P4 kd0 kd1 => ?_⟩
      have ht4 := ht.keep P3 k4
      have hnm4 := k4 nm d1 d2 _ hnm
      have ha4 := k4 a da.1 da.2.2 _ ha
      -- t = names[draw(len(names))]
      refine ⟨_, rfl, _, rfl, _, rfl, nm, _, rfl, .inl (SqL.of hnm4), p, c, g, _, _, rfl, P4, by omega, (by rw [List.length_map]; omega), (by rw [List.length_map]; omega), fun H5 x k5 P5 x0 x1 => ?_⟩
      rw [List.length_map] at x1
      have ht5 := ht4.keep P4 k5
      have hnm5 := k5 nm d1 d2 _ hnm4
      have ha5 := k5 a da.1 da.2.2 _ ha4
      obtain ⟨t, tm, _, te⟩ := atI_str (ns := L) x0 x1
      refine ⟨nm, _, _, _, rfl, rfl, SqL.of hnm5, te, ?_⟩
      -- others
      refine ⟨_, rfl, nm, rfl, ⟨_, SqL.of hnm5⟩, fun D nD => ?_⟩
      have dD := P5.new3 nD
      have naD : a ≠ D := fun e => not_two (e ▸ nD) ha5
      refine lc_list (K := K) (a := nm) (xs := L.map V.str) (fun j H9 => Same H5 H9 ∧ H9 D = some (.lst (((L.take j).filter (fun x => !decide (x = t))).map V.str)))
        ⟨same_upd nD, upd_same⟩ (fun j H9 _ h => SqL.of (h.1 _ _ hnm5)) (fun j x H9 hj h => ?_) (fun H9 h => ?_)
      · obtain ⟨s9, hD9⟩ := h
        have hj2 : j < L.length := by
          have q := (List.getElem?_eq_some_iff.mp hj).1
          rw [List.length_map] at q
          exact q
        have ex : x = V.str L[j] := Option.some.inj (hj.symm.trans (get_str hj2))
        subst ex
        refine ⟨rfl, _, rfl, _, rfl, rfl, _, rfl, ?_⟩
        rw [take_filter _ hj2]
        refine ite2 (fun hb => ?_) (fun hb => ?_)
        · have hb2 : (!decide (L[j] = t)) = true := by
            rw [Bool.not_eq_true', decide_eq_false_iff_not] at hb ⊢
            exact fun z => hb (congrArg V.str z)
          rw [if_pos hb2]
          refine ⟨_, rfl, _, hD9, ?_, fun b9 o9 e9 => ?_, ?_⟩
          · rw [List.length_map]
            exact Nat.lt_of_le_of_lt (List.length_filter_le _ _) (Nat.lt_of_le_of_lt (List.length_take_le _ _) (small1000 (by omega)))
          · rw [upd_ne (fun z => not_two nD (z ▸ e9))]
            exact s9 _ _ e9
          · rw [upd_same, List.map_append]
            rfl
        · have hb2 : ¬ (!decide (L[j] = t)) = true := by
            rw [Bool.not_eq_true', decide_eq_false_iff_not] at hb ⊢
            exact fun z => hb (fun z2 => z (V.str.inj z2))
          rw [if_neg hb2, List.append_nil]
          exact ⟨s9, hD9⟩
      · obtain ⟨s9, hD9⟩ := h
        rw [List.length_map, List.take_length] at hD9
        have P9 := P5.same s9
        have ha9 := s9 _ _ ha5
        have hnm9 := s9 _ _ hnm5
        have ht9 := ht5.same s9
        have K9 : Keep p g H H9 := ((k2.trans k4).trans k5).trans (.of_same s9)
        have szA : (as.map V.ref).length < sizeLine := by
          rw [List.length_map, ht.len, hlen]
          exact Nat.lt_of_lt_of_le (show i < 100000 by omega) sizeLine_big
        have gt : Good t := hg t tm
        -- if kind == 3 and len(others) > 0
        refine ⟨_, rfl, rfl, _, rfl, ite2 (fun hk => ?_) (fun hk => ?_)⟩
        · have hk : kd = 3 := V.int.inj (of_decide_eq_true hk)
          refine ⟨_, rfl, D, _, rfl, .inl (SqL.of hD9), _, _, rfl, rfl, _, rfl, ite2 (fun ho => ?_) (fun ho => ?_)⟩
          · have ho : (0 : Int) < (((L.filter (fun x => !decide (x = t))).map V.str).length : Nat) := of_decide_eq_true ho
            have hlo : (L.filter (fun x => !decide (x = t))).length ≤ 10 := Nat.le_trans (List.length_filter_le _ _) l10
            refine ⟨_, rfl, .inl ⟨rfl, _, SqL.of ha9⟩, _, rfl, _, rfl, _, rfl, _, rfl, D, _, rfl, .inl (SqL.of hD9), p, c, g, _, _, rfl, P9, by omega, by omega, (by rw [List.length_map]; omega), fun H6 z k6 P6 z0 z1 => ?_⟩
            rw [List.length_map] at z1
            obtain ⟨x2, xm, _, xe⟩ := atI_str (ns := L.filter (fun x => !decide (x = t))) z0 z1
            have xm2 := List.mem_filter.mp xm
            have xne : x2 ≠ t := by
              have := xm2.2
              simpa using this
            refine ⟨D, _, _, _, rfl, rfl, SqL.of (k6 D dD.1 dD.2.2 _ hD9), xe, by show 3 ≤ sizeLine; decide, fun T0 nT0 => ?_⟩
            have ha6 := k6 a da.1 da.2.2 _ ha9
            have nTa : T0 ≠ a := fun z => not_two nT0 (z ▸ ha6)
            refine ⟨a, _, _, rfl, rfl, by rw [upd_ne nTa.symm]; exact ha6, szA, ?_⟩
            exact ScrInv.step (e := [("turn" : Str), t, x2]) na nma da (K9.trans k6) (P6.mono (by omega)) (k6 nm d1 d2 _ hnm9) ha6 (ht9.keep P9 k6) hok hlen nT0 (.inr ⟨t, x2, rfl, gt, hg _ xm2.1, fun z => xne z.symm⟩)
          · subst hk
            refine ⟨_, rfl, .inl ⟨rfl, _, SqL.of ha9⟩, by show 4 ≤ sizeLine; decide, fun U nU => ⟨_, rfl, U, _, _, _, rfl, rfl, SqL.of upd_same, atI_nat (j := 3) rfl, _, rfl, by show 2 ≤ sizeLine; decide, fun T0 nT0 => ?_⟩⟩
            have sU := same_upd (o := .lst ([("keep" : Str), "drop", "put", "keep"].map V.str)) nU
            have ha6 := sU _ _ ha9
            have nTa : T0 ≠ a := fun z => not_two nT0 (z ▸ ha6)
            refine ⟨a, _, _, rfl, rfl, by rw [upd_ne nTa.symm]; exact ha6, szA, ?_⟩
            exact ScrInv.step (e := [("keep" : Str), t]) na nma da (K9.trans (.of_same sU)) ((P9.same sU).mono (by omega)) (sU _ _ hnm9) ha6 (ht9.same sU) hok hlen nT0 (.inl ⟨_, t, rfl, .inl rfl, gt⟩)
        · have hk : kd ≠ 3 := fun z => hk (decide_eq_true (congrArg V.int z))
          obtain ⟨wd, hw, ew⟩ : ∃ wd : Str, (wd = "keep" ∨ wd = "drop" ∨ wd = "put") ∧ atI ([("keep" : Str), "drop", "put", "keep"].map V.str) kd = some (.str wd) := by
            have : kd = 0 ∨ kd = 1 ∨ kd = 2 := by omega
            rcases this with rfl | rfl | rfl
            · exact ⟨_, .inl rfl, atI_nat (j := 0) rfl⟩
            · exact ⟨_, .inr (.inl rfl), atI_nat (j := 1) rfl⟩
            · exact ⟨_, .inr (.inr rfl), atI_nat (j := 2) rfl⟩
          refine ⟨_, rfl, .inl ⟨rfl, _, SqL.of ha9⟩, by show 4 ≤ sizeLine; decide, fun U nU => ⟨_, rfl, U, _, _, _, rfl, rfl, SqL.of upd_same, ew, _, rfl, by show 2 ≤ sizeLine; decide, fun T0 nT0 => ?_⟩⟩
          have sU := same_upd (o := .lst ([("keep" : Str), "drop", "put", "keep"].map V.str)) nU
          have ha6 := sU _ _ ha9
          have nTa : T0 ≠ a := fun z => not_two nT0 (z ▸ ha6)
          refine ⟨a, _, _, rfl, rfl, by rw [upd_ne nTa.symm]; exact ha6, szA, ?_⟩
          exact ScrInv.step (e := [wd, t]) na nma da (K9.trans (.of_same sU)) ((P9.same sU).mono (by omega)) (sU _ _ hnm9) ha6 (ht9.same sU) hok hlen nT0 (.inl ⟨_, t, rfl, hw, gt⟩)
    · obtain ⟨as, Ed, y4, y5, y6, y7, y8, rfl, k2, P3, hnm, ha, ht, hok, hlen⟩ := h
      exact ⟨_, rfl, q _ a as Ed k2 (P3.mono (by omega)) na ha ht hok (by omega)⟩
end
end Sv

namespace Sv
open PySem PySem.Spec PyProof.Rows L2
open C8 (Cal Mak Met cal0 mak0 met0 pe_c pe_mk pe_mt pe_mt0 fnBody fnArgs fnScope scC fnScope_by pe_gc InsC call_isC)
theorem w_kp : ¬ (("keep" : Str) = "put") := by decide +kernel
theorem w_kd : ¬ (("keep" : Str) = "drop") := by decide +kernel
theorem w_kt : ¬ (("keep" : Str) = "turn") := by decide +kernel
theorem w_dp : ¬ (("drop" : Str) = "put") := by decide +kernel
theorem w_dk : ¬ (("drop" : Str) = "keep") := by decide +kernel
theorem w_dt : ¬ (("drop" : Str) = "turn") := by decide +kernel
theorem w_pk : ¬ (("put" : Str) = "keep") := by decide +kernel
theorem w_pd : ¬ (("put" : Str) = "drop") := by decide +kernel
theorem w_pt : ¬ (("put" : Str) = "turn") := by decide +kernel
theorem w_tk : ¬ (("turn" : Str) = "keep") := by decide +kernel
theorem w_td : ¬ (("turn" : Str) = "drop") := by decide +kernel
theorem w_tp : ¬ (("turn" : Str) = "put") := by decide +kernel
theorem tNe {a b : Str} (h : ¬ a = b) : (!decide (V.str a = V.str b)) = true := by
  rw [decide_eq_false (fun z => h (V.str.inj z))]
  rfl
theorem tNeF {a : Str} : ¬ (!decide (V.str a = V.str a)) = true := by
  rw [decide_eq_true rfl]
  decide
theorem tEqF {a b : Str} (h : ¬ a = b) : ¬ decide (V.str a = V.str b) = true := by
  rw [decide_eq_false (fun z => h (V.str.inj z))]
  decide
theorem tEq {a : Str} : decide (V.str a = V.str a) = true := decide_eq_true rfl
theorem src_step {E : List (List Str)} {i : Nat} (h : i < E.length) {e : List Str} (he : E[i] = e) : srcOf (E.take (i + 1)) = srcOf (E.take i) ++ if w0 e = "put" then [] else [w1 e] := by
  unfold srcOf
  rw [get_take_filter _ h, he]
  by_cases c : w0 e = "put"
  · rw [if_pos c, if_neg (by rw [decide_eq_true c]; decide)]
  · rw [if_neg c, if_pos (by rw [decide_eq_false c]; rfl)]
theorem tgt_step {E : List (List Str)} {i : Nat} (h : i < E.length) {e : List Str} (he : E[i] = e) : tgtOf (E.take (i + 1)) = tgtOf (E.take i) ++ if w0 e = "drop" then [] else [wl e] := by
  unfold tgtOf
  rw [get_take_filter _ h, he]
  by_cases c : w0 e = "drop"
  · rw [if_pos c, if_neg (by rw [decide_eq_true c]; decide)]
  · rw [if_neg c, if_pos (by rw [decide_eq_false c]; rfl)]
theorem chg_step {E : List (List Str)} {i : Nat} (h : i < E.length) {e : List Str} (he : E[i] = e) : ((chgOf (E.take (i + 1))).length : Int) = ((chgOf (E.take i)).length : Int) + if w0 e = "keep" then 0 else 1 := by
  unfold chgOf
  rw [take_filter _ h, he, List.length_append]
  by_cases c : w0 e = "keep"
  · rw [if_pos c, if_neg (by rw [decide_eq_true c]; decide)]
    simp
  · rw [if_neg c, if_pos (by rw [decide_eq_false c]; rfl)]
    simp
theorem src_len {E : List (List Str)} : (srcOf E).length ≤ E.length := by
  unfold srcOf
  rw [List.length_map]
  exact List.length_filter_le _ _
theorem tgt_len {E : List (List Str)} : (tgtOf E).length ≤ E.length := by
  unfold tgtOf
  rw [List.length_map]
  exact List.length_filter_le _ _
theorem flat_strsS (L : List Str) : ∀ x ∈ L.map V.str, flatS x = true := by
  intro x hx
  obtain ⟨s, _, rfl⟩ := List.mem_map.mp hx
  rfl
/-! the script as data -/
def dEd (e : List Str) : PyData := .tuple (e.map PyData.str)
def dScr (E : List (List Str)) : PyData := .list (E.map dEd)
theorem dp_strs {K : PySem.W.Frag} {H : Hp} : ∀ L : List Str, DpAll K H (L.map V.str) (L.map PyData.str)
  | [] => .nil
  | s :: r => .cons (.str s) (dp_strs r)
theorem dp_refs {K : PySem.W.Frag} {H : Hp} : ∀ (as : List Addr) (E : List (List Str)), Tups H as E → DpAll K H (as.map V.ref) (E.map dEd)
  | [], [], _ => .nil
  | [], _ :: _, t => by have := t.len; simp at this
  | _ :: _, [], t => by have := t.len; simp at this
  | a :: as, e :: E, t => .cons (.tup (SqT.of (t.get 0 a e rfl rfl)) (dp_strs e)) (dp_refs as E ⟨by have := t.len; simpa using this, fun i b f h1 h2 => t.get (i + 1) b f (by simpa using h1) (by simpa using h2)⟩)
theorem dp_scr {K : PySem.W.Frag} {H : Hp} {a : Addr} {as : List Addr} {E : List (List Str)} (h : SqL K H a (as.map V.ref)) (t : Tups H as E) : Dp K H (.ref a) (dScr E) := .lst h (dp_refs as E t)
theorem good_ok {s : Str} (h : Good s) : PyData.strOk s = true := by
  have g := (good_of h).2.2
  unfold PyData.strOk
  rw [Array.all_eq_true_iff_forall_mem]
  intro c hc
  have := (g c (Array.mem_toList_iff.mpr hc)).2
  exact decide_eq_true (by omega)
theorem word_ok : PyData.strOk "keep" = true ∧ PyData.strOk "drop" = true ∧ PyData.strOk "put" = true ∧ PyData.strOk "turn" = true := by decide +kernel
theorem ed_PyData.strOk {e : List Str} (h : EdOk e) : ∀ s ∈ e, PyData.strOk s = true := by
  obtain ⟨h1, h2, h3, h4⟩ := word_ok
  rcases h with ⟨w, t, rfl, hw, g⟩ | ⟨t, x, rfl, g1, g2, _⟩
  · intro s hs
    rcases List.mem_cons.mp hs with rfl | hs
    · rcases hw with rfl | rfl | rfl
      · exact h1
      · exact h2
      · exact h3
    · rw [List.mem_singleton] at hs
      exact hs ▸ good_ok g
  · intro s hs
    rcases List.mem_cons.mp hs with rfl | hs
    · exact h4
    · rcases List.mem_cons.mp hs with rfl | hs
      · exact good_ok g1
      · rw [List.mem_singleton] at hs
        exact hs ▸ good_ok g2
theorem lay_strs : ∀ L : List Str, (∀ s ∈ L, PyData.strOk s = true) → PyData.canLayAll0 (L.map PyData.str) = true
  | [], _ => rfl
  | s :: r, h => by
    show (PyData.strOk s && PyData.canLayAll0 (r.map PyData.str)) = true
    rw [h s List.mem_cons_self, lay_strs r fun x hx => h x (List.mem_cons_of_mem _ hx)]
    rfl
theorem dep_strs : ∀ L : List Str, PyData.depthAll (L.map PyData.str) = 0
  | [] => rfl
  | s :: r => by
    show max 0 (PyData.depthAll (r.map PyData.str)) = 0
    rw [dep_strs r]
    rfl
theorem lay_scr : ∀ E : List (List Str), (∀ e ∈ E, EdOk e) → PyData.canLayAll0 (E.map dEd) = true
  | [], _ => rfl
  | e :: r, h => by
    show (PyData.canLayAll0 (e.map PyData.str) && PyData.canLayAll0 (r.map dEd)) = true
    rw [lay_strs e (ed_PyData.strOk (h e List.mem_cons_self)), lay_scr r fun x hx => h x (List.mem_cons_of_mem _ hx)]
    rfl
theorem dep_scr : ∀ E : List (List Str), PyData.depthAll (E.map dEd) ≤ 1
  | [] => Nat.zero_le _
  | e :: r => by
    show max (PyData.depthAll (e.map PyData.str) + 1) (PyData.depthAll (r.map dEd)) ≤ 1
    rw [dep_strs e]
    exact Nat.max_le.mpr ⟨Nat.le_refl _, dep_scr r⟩
theorem shaped_scr {E : List (List Str)} (h : ∀ e ∈ E, EdOk e) : SeqAt.shaped (dScr E) = true := by
  unfold SeqAt.shaped
  rw [show (dScr E).canLay0 = true from lay_scr E h, Bool.true_and]
  refine decide_eq_true ?_
  show PyData.depthAll (E.map dEd) + 1 ≤ 64
  have := dep_scr E
  omega
def spLaw (K : PySem.W.Frag) : Sp := fun vs H Q _ => ∃ (a : Addr) (ns : List Int), vs = [.ref a] ∧ SqL K H a (ns.map V.int) ∧ ns.length ≤ 63 ∧ ∀ H', Q (.bl true) H'
abbrev lawK : Nat := 12
section
variable {P : Program} {w : World} {K : PySem.W.Frag} {mg : Str → Option Value} {base : Heap}
theorem ok_law {f : Addr} {fd : FuncData} (F : C8.Fun K "law" "law" slaw f fd) (T : Txt K mg) (G__law_purse : Cal P w K mg base 1 "_law_purse" (spPurse K) []) (G__law_draw : Cal P w K mg base 1 "_law_draw" spDraw []) (G__law_names : Cal P w K mg base 3 "_law_names" spNames [])
    (G__law_script : Cal P w K mg base 2 "_law_script" spScript []) (G_source : Cal P w K mg base 5 "source" (spSource K) []) (G_target : Cal P w K mg base 5 "target" (spTarget K) []) (G_cost : Cal P w K mg base 5 "cost" (spCost K) []) (G__law_same : Cal P w K mg base 6 "_law_same" (spSame K 5) []) :
    FnOk P w K mg base C8.CX0 lawK f fd ["_law_script_here"] (spLaw K) := by
  refine C8.fn0 F sclaw (fun vs H Q E h => ?_) (fun cdv A outer s H vs Q E hr h => ?_)
  · obtain ⟨a, ns, rfl, _⟩ := h
    rfl
  · obtain ⟨a0, ns, rfl, hS, hlen, q⟩ := h
    refine ⟨_, (pss_cons (ps_set (i := 1) sclaw.nd rfl (Or.inl rfl) (pe_c G__law_purse hr (by decide) (by rfl) (pa_cons (pv 0) pa_nil)))
      (pss_cons (ps_set (i := 2) sclaw.nd rfl (Or.inl rfl) (pe_c G__law_names hr (by decide) (by rfl) (pa_cons (pv 1) (pa_cons (pe_op op_add pe_int (pe_c G__law_draw hr (by decide) (by rfl) (pa_cons (pv 1) (pa_cons pe_int pa_nil)))) pa_nil))))
      (pss_cons (ps_set (i := 3) sclaw.nd rfl (Or.inl rfl) (pe_c G__law_script hr (by decide) (by rfl) (pa_cons (pv 1) (pa_cons (pv 2) (pa_cons pe_int pa_nil)))))
      (pss_cons (ps_set (i := 4) sclaw.nd rfl (Or.inl rfl) (pe_lst pa_nil))
      (pss_cons (ps_set (i := 5) sclaw.nd rfl (Or.inl rfl) (pe_lst pa_nil))
      (pss_cons (ps_set (i := 6) sclaw.nd rfl (Or.inl rfl) pe_int)
      (pss_cons (ps_for PassesOwn.never rfl (pi_list (pv 3)) (pg_name (i := 7) sclaw.nd rfl (Or.inl rfl)) (pss_cons (ps_if (pt_cmpR op_ne (pe_ix ix_tup (pv 7) pe_int (fun _ _ => rfl)) pe_str (nomark _)) (pss_one (ps_expr (pe_bm PySem.F.plainAttrs_list PySem.F.slot_list_append PySem.F.type_list_append mt_append (pv 4) (pa_cons (pe_ix ix_tup (pv 7) pe_int (fun _ _ => rfl)) pa_nil)))) pss_nil) (pss_cons (ps_if (pt_cmpR op_eq (pe_ix ix_tup (pv 7) pe_int (fun _ _ => rfl)) pe_str (nomark _)) (pss_one (ps_expr (pe_bm PySem.F.plainAttrs_list PySem.F.slot_list_append PySem.F.type_list_append mt_append (pv 5) (pa_cons (pe_ix ix_tup (pv 7) pe_int (fun _ _ => rfl)) pa_nil)))) pss_nil) (pss_cons (ps_if (PW.pt (pw_or (pt_cmpR op_eq (pe_ix ix_tup (pv 7) pe_int (fun _ _ => rfl)) pe_str (nomark _)) (pw_or1 (pt_cmpR op_eq (pe_ix ix_tup (pv 7) pe_int (fun _ _ => rfl)) pe_str (nomark _))))) (pss_one (ps_expr (pe_bm PySem.F.plainAttrs_list PySem.F.slot_list_append PySem.F.type_list_append mt_append (pv 5) (pa_cons (pe_ix ix_tup (pv 7) pe_int (fun _ _ => rfl)) pa_nil)))) pss_nil) (pss_one (ps_if (pt_cmpR op_ne (pe_ix ix_tup (pv 7) pe_int (fun _ _ => rfl)) pe_str (nomark _)) (pss_one (ps_set (i := 6) sclaw.nd rfl (Or.inl rfl) (pe_op op_add (pv 6) pe_int))) pss_nil))))))
      (pss_cons (ps_set (i := 8) sclaw.nd rfl (Or.inl rfl) (pe_lst (pa_cons (pe_callTy call_tuple_of (by rfl) T.tuple (by decide +kernel) (pa_cons (pv 4) pa_nil)) (pa_cons (pe_callTy call_tuple_of (by rfl) T.tuple (by decide +kernel) (pa_cons (pv 5) pa_nil)) (pa_cons (pv 6) pa_nil)))))
      (pss_cons (ps_set (i := 9) sclaw.nd rfl (Or.inl rfl) (pe_callTy call_list_of (by rfl) T.list (by decide +kernel) (pa_cons (pv 3) pa_nil)))
      (pss_cons (ps_set (i := 10) sclaw.nd rfl (Or.inl rfl) (pe_lst (pa_cons (pe_c G_source hr (by decide) (by rfl) (pa_cons (pv 9) pa_nil)) (pa_cons (pe_c G_target hr (by decide) (by rfl) (pa_cons (pv 9) pa_nil)) (pa_cons (pe_c G_cost hr (by decide) (by rfl) (pa_cons (pv 9) pa_nil)) pa_nil)))))
      (pss_cons (ps_set (i := 11) sclaw.nd rfl (Or.inl rfl) (pe_lst (pa_cons (pe_c G_cost hr (by decide) (by rfl) (pa_cons (pe_callTy call_tuple_of (by rfl) T.tuple (by decide +kernel) (pa_cons (pv 3) pa_nil)) pa_nil)) (pa_cons (pe_c G_target hr (by decide) (by rfl) (pa_cons (pe_callTy call_tuple_of (by rfl) T.tuple (by decide +kernel) (pa_cons (pv 3) pa_nil)) pa_nil)) (pa_cons (pe_c G_source hr (by decide) (by rfl) (pa_cons (pe_callTy call_tuple_of (by rfl) T.tuple (by decide +kernel) (pa_cons (pv 3) pa_nil)) pa_nil)) pa_nil)))))
      (pss_one (ps_ret (pe_and (pe_c G__law_same hr (by decide) (by rfl) (pa_cons (pv 10) (pa_cons (pv 8) pa_nil))) (pe_and (pe_c G__law_same hr (by decide) (by rfl) (pa_cons (pv 11) (pa_cons (pe_revL (pv 8)) pa_nil))) (pe_one (pe_cmpR (op_eqD hr.units) (pv 9) (pv 3) (nomark _)))))))))))))))))), ?_⟩
    refine ⟨_, rfl, a0, ns, rfl, hS, hlen, fun H1 p c g s1 np nc ng P1 => ?_⟩
    refine ⟨_, rfl, _, rfl, p, c, g, 0, 4, rfl, P1, by omega, by decide, by decide, fun H2 r k2 P2 r0 r1 => ⟨1, r, rfl, rfl, p, c, g, _, _, rfl, P2, by omega, by omega, by omega, fun H3 nm L k3 P3 nnm hL lL nd gL => ?_⟩⟩
    have dnm := P2.new nnm
    refine ⟨_, rfl, _, rfl, p, c, g, nm, _, L, 60, rfl, P3, by omega, dnm.1, dnm.2, hL, by omega, by omega, gL, by decide, by decide, fun H4 a4 as Ed k4 P4 na4 ha4 ht4 hok4 hl4 => ?_⟩
    have hal : as.length = Ed.length := ht4.len
    refine ⟨Nat.zero_le _, fun rd nrd => ⟨Nat.zero_le _, fun wr nwr => ?_⟩⟩
    have s5 : Same H4 (upd H4 rd (.lst [])) := same_upd nrd
    have s6 : Same H4 (upd (upd H4 rd (.lst [])) wr (.lst [])) := s5.upd nwr
    have nwr4 : H4 wr = none := s5.free nwr
    have nrw : rd ≠ wr := fun e => not_two (e ▸ nwr) upd_same
    refine ⟨_, rfl, a4, rfl, ⟨_, SqL.of (s6 _ _ ha4)⟩, ?_⟩
    have szS : ∀ k, ((srcOf (Ed.take k)).map V.str).length < sizeLine := fun k => src_lc (Nat.le_trans src_len (Nat.le_trans (List.length_take_le' _ _) (by omega)))
    have szT : ∀ k, ((tgtOf (Ed.take k)).map V.str).length < sizeLine := fun k => src_lc (Nat.le_trans tgt_len (Nat.le_trans (List.length_take_le' _ _) (by omega)))
    refine for_list (K := K) (a := a4) (xs := as.map V.ref) (fun i σ H' => ∃ (z : Int) (y7 : Option V), σ = [some (.ref a0), some (.ref p), some (.ref nm), some (.ref a4), some (.ref rd), some (.ref wr), some (.int z), y7, none, none, none, none] ∧ Same H4 H' ∧
        H' rd = some (.lst ((srcOf (Ed.take i)).map V.str)) ∧ H' wr = some (.lst ((tgtOf (Ed.take i)).map V.str)) ∧ z = ((chgOf (Ed.take i)).length : Nat))
      ⟨0, _, rfl, s6, by rw [upd_ne nrw]; exact upd_same, upd_same, rfl⟩ (fun i σ H' _ h => ?_) (fun i x σ H' hi h => ?_) (fun σ H' h => ?_)
    · obtain ⟨_, _, _, sm, _⟩ := h
      exact SqL.of (sm _ _ ha4)
    · obtain ⟨z, y7, rfl, sm, hrd, hwr, ez⟩ := h
      have SC : Scr K H' a4 as Ed := ⟨.inl (SqL.of (sm _ _ ha4)), ht4.same sm, hok4, by omega⟩
      obtain ⟨hi2, r, rfl, _, hr, hok⟩ := SC.item hi
      have updR : ∀ (Hx : Hp) (o : HO), Same H4 Hx → Same H4 (upd Hx rd o) := fun Hx o s b o2 e => by
        rw [upd_ne (fun z => not_two nrd (z ▸ e))]
        exact s _ _ e
      have updW : ∀ (Hx : Hp) (o : HO), Same H4 Hx → Same H4 (upd Hx wr o) := fun Hx o s b o2 e => by
        rw [upd_ne (fun z => not_two nwr4 (z ▸ e))]
        exact s _ _ e
      have nrr : r ≠ rd := ne_of hr hrd (by intro z; cases z)
      have nrwr : r ≠ wr := ne_of hr hwr (by intro z; cases z)
      rcases hok with ⟨wd, t, he, hw, gt⟩ | ⟨t, x, he, g1, g2, ne⟩
      · rw [he] at hr
        rcases hw with rfl | rfl | rfl
        · -- keep
          refine ⟨_, rfl, r, _, 0, _, rfl, rfl, SqT.of hr, atI_nat (j := 0) rfl, rfl, _, rfl, iteD (tNe w_kp) ?_⟩
          refine ⟨_, rfl, .inl ⟨rfl, _, SqL.of hrd⟩, _, rfl, r, _, 1, _, rfl, rfl, SqT.of hr, atI_nat (j := 1) rfl, rd, _, _, rfl, rfl, hrd, szS i, ?_⟩
          have hr2 : (upd H' rd (.lst ((srcOf (Ed.take i)).map V.str ++ [.str t]))) r = some (.tup ([("keep" : Str), t].map V.str)) := by rw [upd_ne nrr]; exact hr
          have hw2 : (upd H' rd (.lst ((srcOf (Ed.take i)).map V.str ++ [.str t]))) wr = some (.lst ((tgtOf (Ed.take i)).map V.str)) := by rw [upd_ne nrw.symm]; exact hwr
          refine ⟨_, rfl, r, _, 0, _, rfl, rfl, SqT.of hr2, atI_nat (j := 0) rfl, rfl, _, rfl, iteN (tEqF w_kt) ?_⟩
          refine ⟨_, rfl, r, _, 0, _, rfl, rfl, SqT.of hr2, atI_nat (j := 0) rfl, rfl, _, rfl, iteD tEq (iteT ?_)⟩
          refine ⟨_, rfl, .inl ⟨rfl, _, SqL.of hw2⟩, _, rfl, r, _, 1, _, rfl, rfl, SqT.of hr2, atI_nat (j := 1) rfl, wr, _, _, rfl, rfl, hw2, szT i, ?_⟩
          refine ⟨_, rfl, r, _, 0, _, rfl, rfl, SqT.of (by rw [upd_ne nrwr]; exact hr2), atI_nat (j := 0) rfl, rfl, _, rfl, iteN tNeF ?_⟩
          refine ⟨_, _, rfl, updW _ _ (updR _ _ sm), ?_, ?_, ?_⟩
          · rw [upd_ne nrw, upd_same, src_step hi2 he, if_neg (show ¬ w0 [("keep" : Str), t] = "put" from w_kp), List.map_append]
            rfl
          · rw [upd_same, tgt_step hi2 he, if_neg (show ¬ w0 [("keep" : Str), t] = "drop" from w_kd), List.map_append]
            rfl
          · rw [chg_step hi2 he, if_pos (show w0 [("keep" : Str), t] = "keep" from rfl), ez]
            omega
        · -- drop
          refine ⟨_, rfl, r, _, 0, _, rfl, rfl, SqT.of hr, atI_nat (j := 0) rfl, rfl, _, rfl, iteD (tNe w_dp) ?_⟩
          refine ⟨_, rfl, .inl ⟨rfl, _, SqL.of hrd⟩, _, rfl, r, _, 1, _, rfl, rfl, SqT.of hr, atI_nat (j := 1) rfl, rd, _, _, rfl, rfl, hrd, szS i, ?_⟩
          have hr2 : (upd H' rd (.lst ((srcOf (Ed.take i)).map V.str ++ [.str t]))) r = some (.tup ([("drop" : Str), t].map V.str)) := by rw [upd_ne nrr]; exact hr
          refine ⟨_, rfl, r, _, 0, _, rfl, rfl, SqT.of hr2, atI_nat (j := 0) rfl, rfl, _, rfl, iteN (tEqF w_dt) ?_⟩
          refine ⟨_, rfl, r, _, 0, _, rfl, rfl, SqT.of hr2, atI_nat (j := 0) rfl, rfl, _, rfl, iteN (tEqF w_dk) ?_⟩
          refine ⟨_, rfl, r, _, 0, _, rfl, rfl, SqT.of hr2, atI_nat (j := 0) rfl, rfl, _, rfl, iteN (tEqF w_dp) ?_⟩
          refine ⟨_, rfl, r, _, 0, _, rfl, rfl, SqT.of hr2, atI_nat (j := 0) rfl, rfl, _, rfl, iteD (tNe w_dk) ?_⟩
          refine ⟨_, rfl, _, _, rfl, rfl, ?_⟩
          refine ⟨_, _, rfl, updR _ _ sm, ?_, ?_, ?_⟩
          · rw [upd_same, src_step hi2 he, if_neg (show ¬ w0 [("drop" : Str), t] = "put" from w_dp), List.map_append]
            rfl
          · rw [upd_ne nrw.symm, hwr, tgt_step hi2 he, if_pos (show w0 [("drop" : Str), t] = "drop" from rfl), List.append_nil]
          · rw [chg_step hi2 he, if_neg (show ¬ w0 [("drop" : Str), t] = "keep" from w_dk), ez]
        · -- put
          refine ⟨_, rfl, r, _, 0, _, rfl, rfl, SqT.of hr, atI_nat (j := 0) rfl, rfl, _, rfl, iteN tNeF ?_⟩
          refine ⟨_, rfl, r, _, 0, _, rfl, rfl, SqT.of hr, atI_nat (j := 0) rfl, rfl, _, rfl, iteN (tEqF w_pt) ?_⟩
          refine ⟨_, rfl, r, _, 0, _, rfl, rfl, SqT.of hr, atI_nat (j := 0) rfl, rfl, _, rfl, iteN (tEqF w_pk) ?_⟩
          refine ⟨_, rfl, r, _, 0, _, rfl, rfl, SqT.of hr, atI_nat (j := 0) rfl, rfl, _, rfl, iteD tEq ?_⟩
          refine ⟨_, rfl, .inl ⟨rfl, _, SqL.of hwr⟩, _, rfl, r, _, 1, _, rfl, rfl, SqT.of hr, atI_nat (j := 1) rfl, wr, _, _, rfl, rfl, hwr, szT i, ?_⟩
          refine ⟨_, rfl, r, _, 0, _, rfl, rfl, SqT.of (by rw [upd_ne nrwr]; exact hr), atI_nat (j := 0) rfl, rfl, _, rfl, iteD (tNe w_pk) ?_⟩
          refine ⟨_, rfl, _, _, rfl, rfl, ?_⟩
          refine ⟨_, _, rfl, updW _ _ sm, ?_, ?_, ?_⟩
          · rw [upd_ne nrw, hrd, src_step hi2 he, if_pos (show w0 [("put" : Str), t] = "put" from rfl), List.append_nil]
          · rw [upd_same, tgt_step hi2 he, if_neg (show ¬ w0 [("put" : Str), t] = "drop" from w_pd), List.map_append]
            rfl
          · rw [chg_step hi2 he, if_neg (show ¬ w0 [("put" : Str), t] = "keep" from w_pk), ez]
      · -- turn
        rw [he] at hr
        refine ⟨_, rfl, r, _, 0, _, rfl, rfl, SqT.of hr, atI_nat (j := 0) rfl, rfl, _, rfl, iteD (tNe w_tp) ?_⟩
        refine ⟨_, rfl, .inl ⟨rfl, _, SqL.of hrd⟩, _, rfl, r, _, 1, _, rfl, rfl, SqT.of hr, atI_nat (j := 1) rfl, rd, _, _, rfl, rfl, hrd, szS i, ?_⟩
        have hr2 : (upd H' rd (.lst ((srcOf (Ed.take i)).map V.str ++ [.str t]))) r = some (.tup ([("turn" : Str), t, x].map V.str)) := by rw [upd_ne nrr]; exact hr
        have hw2 : (upd H' rd (.lst ((srcOf (Ed.take i)).map V.str ++ [.str t]))) wr = some (.lst ((tgtOf (Ed.take i)).map V.str)) := by rw [upd_ne nrw.symm]; exact hwr
        refine ⟨_, rfl, r, _, 0, _, rfl, rfl, SqT.of hr2, atI_nat (j := 0) rfl, rfl, _, rfl, iteD tEq ?_⟩
        refine ⟨_, rfl, .inl ⟨rfl, _, SqL.of hw2⟩, _, rfl, r, _, 2, _, rfl, rfl, SqT.of hr2, atI_nat (j := 2) rfl, wr, _, _, rfl, rfl, hw2, szT i, ?_⟩
        have hr3 : (upd (upd H' rd (.lst ((srcOf (Ed.take i)).map V.str ++ [.str t]))) wr (.lst ((tgtOf (Ed.take i)).map V.str ++ [.str x]))) r = some (.tup ([("turn" : Str), t, x].map V.str)) := by rw [upd_ne nrwr]; exact hr2
        refine ⟨_, rfl, r, _, 0, _, rfl, rfl, SqT.of hr3, atI_nat (j := 0) rfl, rfl, _, rfl, iteN (tEqF w_tk) ?_⟩
        refine ⟨_, rfl, r, _, 0, _, rfl, rfl, SqT.of hr3, atI_nat (j := 0) rfl, rfl, _, rfl, iteN (tEqF w_tp) ?_⟩
        refine ⟨_, rfl, r, _, 0, _, rfl, rfl, SqT.of hr3, atI_nat (j := 0) rfl, rfl, _, rfl, iteD (tNe w_tk) ?_⟩
        refine ⟨_, rfl, _, _, rfl, rfl, ?_⟩
        refine ⟨_, _, rfl, updW _ _ (updR _ _ sm), ?_, ?_, ?_⟩
        · rw [upd_ne nrw, upd_same, src_step hi2 he, if_neg (show ¬ w0 [("turn" : Str), t, x] = "put" from w_tp), List.map_append]
          rfl
        · rw [upd_same, tgt_step hi2 he, if_neg (show ¬ w0 [("turn" : Str), t, x] = "drop" from w_td), List.map_append]
          rfl
        · rw [chg_step hi2 he, if_neg (show ¬ w0 [("turn" : Str), t, x] = "keep" from w_tk), ez]
    · obtain ⟨z, y7, rfl, s7, hrd, hwr, ez⟩ := h
      rw [List.length_map, hal, List.take_length] at hrd hwr ez
      subst ez
      have SC7 : Scr K H' a4 as Ed := ⟨.inl (SqL.of (s7 _ _ ha4)), ht4.same s7, hok4, by omega⟩
      -- due
      refine ⟨_, rfl, rd, _, rfl, .inl ⟨SqL.of hrd, fun t1 n1 => ?_⟩⟩
      have nrt1 : wr ≠ t1 := fun e => not_two (e ▸ n1) hwr
      refine ⟨_, rfl, wr, _, rfl, .inl ⟨SqL.of (by rw [upd_ne nrt1]; exact hwr), fun t2 n2 => ?_⟩⟩
      refine ⟨_, rfl, by show 3 ≤ sizeLine; decide, fun du nu => ?_⟩
      have S8 : Same H' _ := ((same_upd (o := .tup ((srcOf Ed).map V.str)) n1).upd (o := .tup ((tgtOf Ed).map V.str)) n2).upd (o := .lst [.ref t1, .ref t2, .int ((chgOf Ed).length : Nat)]) nu
      have T1 : (upd (upd (upd H' t1 (.tup ((srcOf Ed).map V.str))) t2 (.tup ((tgtOf Ed).map V.str))) du (.lst [.ref t1, .ref t2, .int ((chgOf Ed).length : Nat)])) t1 = some (.tup ((srcOf Ed).map V.str)) := (same_upd nu) _ _ ((same_upd n2) _ _ upd_same)
      have T2 : (upd (upd (upd H' t1 (.tup ((srcOf Ed).map V.str))) t2 (.tup ((tgtOf Ed).map V.str))) du (.lst [.ref t1, .ref t2, .int ((chgOf Ed).length : Nat)])) t2 = some (.tup ((tgtOf Ed).map V.str)) := (same_upd nu) _ _ upd_same
      have DU : (upd (upd (upd H' t1 (.tup ((srcOf Ed).map V.str))) t2 (.tup ((tgtOf Ed).map V.str))) du (.lst [.ref t1, .ref t2, .int ((chgOf Ed).length : Nat)])) du = some (.lst [.ref t1, .ref t2, .int ((chgOf Ed).length : Nat)]) := upd_same
      show tSeq _ _ _ _ (upd (upd (upd H' t1 (.tup ((srcOf Ed).map V.str))) t2 (.tup ((tgtOf Ed).map V.str))) du (.lst [.ref t1, .ref t2, .int ((chgOf Ed).length : Nat)]))
      generalize (upd (upd (upd H' t1 (.tup ((srcOf Ed).map V.str))) t2 (.tup ((tgtOf Ed).map V.str))) du (.lst [.ref t1, .ref t2, .int ((chgOf Ed).length : Nat)])) = H8 at S8 T1 T2 DU ⊢
      have SC8 := SC7.same S8
      -- handed = list(edits)
      refine ⟨_, rfl, a4, _, rfl, SC8.at_, fun hd nhd => ?_⟩
      have S9 := same_upd (H := H8) (o := .lst (as.map V.ref)) nhd
      have HD : (upd H8 hd (.lst (as.map V.ref))) hd = some (.lst (as.map V.ref)) := upd_same
      show tSeq _ _ _ _ (upd H8 hd (.lst (as.map V.ref)))
      generalize upd H8 hd (.lst (as.map V.ref)) = H9 at S9 HD ⊢
      have SCa := SC8.same S9
      have SCh : Scr K H9 hd as Ed := ⟨.inl (SqL.of HD), SCa.tups, hok4, by omega⟩
      -- heard
      refine ⟨_, rfl, hd, as, Ed, rfl, SCh, fun H10 x1 e10 _ X1 => ⟨_, rfl, hd, as, Ed, rfl, SCh.same e10, fun H11 x2 e11 _ X2 => ⟨_, rfl, hd, as, Ed, rfl, (SCh.same e10).same e11, fun H12 e12 => ⟨by show 3 ≤ sizeLine; decide, fun hh nhh => ?_⟩⟩⟩⟩
      have E12 : Same H9 H12 := (e10.trans e11).trans e12
      have S13 := same_upd (H := H12) (o := .lst [.ref x1, .ref x2, .int ((chgOf Ed).length : Nat)]) nhh
      have HH : (upd H12 hh (.lst [.ref x1, .ref x2, .int ((chgOf Ed).length : Nat)])) hh = some (.lst [.ref x1, .ref x2, .int ((chgOf Ed).length : Nat)]) := upd_same
      show tSeq _ _ _ _ (upd H12 hh (.lst [.ref x1, .ref x2, .int ((chgOf Ed).length : Nat)]))
      generalize upd H12 hh (.lst [.ref x1, .ref x2, .int ((chgOf Ed).length : Nat)]) = H13 at S13 HH ⊢
      have E13 : Same H9 H13 := E12.trans S13
      have SCb := SCa.same E13
      -- again
      have LA4 : SqL K H4 a4 (as.map V.ref) := SqL.of ha4
      have LA : SqL K H13 a4 (as.map V.ref) := ((((s7.trans S8).trans S9).trans E13)).seq LA4
      refine ⟨_, rfl, a4, as.map V.ref, rfl, .inl ⟨LA, fun u1 nu1 => ?_⟩⟩
      have e14 := same_upd (o := .tup (as.map V.ref)) nu1
      have SU1 : Scr K (upd H13 u1 (.tup (as.map V.ref))) u1 as Ed := ⟨.inr (SqT.of upd_same), SCb.tups.same e14, hok4, by omega⟩
      refine ⟨u1, as, Ed, rfl, SU1, fun H15 e15 => ?_⟩
      have z15 := e14.trans e15
      refine ⟨_, rfl, a4, as.map V.ref, rfl, .inl ⟨z15.seq LA, fun u2 nu2 => ?_⟩⟩
      have e16 := same_upd (o := .tup (as.map V.ref)) nu2
      have SU2 : Scr K (upd H15 u2 (.tup (as.map V.ref))) u2 as Ed := ⟨.inr (SqT.of upd_same), SCb.tups.same (z15.trans e16), hok4, by omega⟩
      refine ⟨u2, as, Ed, rfl, SU2, fun H17 x3 e17 _ X3 => ?_⟩
      have z17 := (z15.trans e16).trans e17
      refine ⟨_, rfl, a4, as.map V.ref, rfl, .inl ⟨z17.seq LA, fun u3 nu3 => ?_⟩⟩
      have e18 := same_upd (o := .tup (as.map V.ref)) nu3
      have SU3 : Scr K (upd H17 u3 (.tup (as.map V.ref))) u3 as Ed := ⟨.inr (SqT.of upd_same), SCb.tups.same (z17.trans e18), hok4, by omega⟩
      refine ⟨u3, as, Ed, rfl, SU3, fun H19 x4 e19 _ X4 => ⟨by show 3 ≤ sizeLine; decide, fun ag nag => ?_⟩⟩
      have E19 : Same H13 H19 := (z17.trans e18).trans e19
      have E20 : Same H13 (upd H19 ag (.lst [.int ((chgOf Ed).length : Nat), .ref x3, .ref x4])) := E19.upd nag
      have S20 := same_upd (H := H19) (o := .lst [.int ((chgOf Ed).length : Nat), .ref x3, .ref x4]) nag
      have AG : (upd H19 ag (.lst [.int ((chgOf Ed).length : Nat), .ref x3, .ref x4])) ag = some (.lst [.int ((chgOf Ed).length : Nat), .ref x3, .ref x4]) := upd_same
      generalize upd H19 ag (.lst [.int ((chgOf Ed).length : Nat), .ref x3, .ref x4]) = H20 at E20 S20 AG ⊢
      have Z9 : Same H9 H20 := E13.trans E20
      have Z8 : Same H8 H20 := S9.trans Z9
      have lS : ((srcOf Ed).map V.str).length ≤ 100000 := by rw [List.length_map]; have := src_len (E := Ed); omega
      have lT : ((tgtOf Ed).map V.str).length ≤ 100000 := by rw [List.length_map]; have := tgt_len (E := Ed); omega
      have smS : ∀ (Hx : Hp) (u v : Addr), Hx u = some (.tup ((srcOf Ed).map V.str)) → Hx v = some (.tup ((srcOf Ed).map V.str)) → Sm K 4 Hx (.ref u) (.ref v) := fun Hx u v h1 h2 => Sm.tups (n := 2) (SqT.of h1) (SqT.of h2) lS (flat_strsS _)
      have smT : ∀ (Hx : Hp) (u v : Addr), Hx u = some (.tup ((tgtOf Ed).map V.str)) → Hx v = some (.tup ((tgtOf Ed).map V.str)) → Sm K 4 Hx (.ref u) (.ref v) := fun Hx u v h1 h2 => Sm.tups (n := 2) (SqT.of h1) (SqT.of h2) lT (flat_strsS _)
      have X1' : H20 x1 = some (.tup ((srcOf Ed).map V.str)) := (((e11.trans e12).trans S13).trans E20) _ _ X1
      have X2' : H20 x2 = some (.tup ((tgtOf Ed).map V.str)) := ((e12.trans S13).trans E20) _ _ X2
      have X3' : H20 x3 = some (.tup ((tgtOf Ed).map V.str)) := ((e18.trans e19).trans S20) _ _ X3
      have X4' : H20 x4 = some (.tup ((srcOf Ed).map V.str)) := S20 _ _ X4
      refine ⟨_, rfl, _, rfl, _, _, rfl, ?_, fun H21 e21 => ?_⟩
      · refine .inr (.inl ⟨hh, du, _, _, rfl, rfl, .inl ⟨SqL.of (E20 _ _ HH), SqL.of (Z8 _ _ DU)⟩, rfl, by show 3 ≤ 100000; decide, fun i u v e1 e2 => ?_⟩)
        match i, e1, e2 with
        | 0, e1, e2 =>
          cases e1; cases e2
          exact smS _ _ _ X1' (Z8 _ _ T1)
        | 1, e1, e2 =>
          cases e1; cases e2
          exact smT _ _ _ X2' (Z8 _ _ T2)
        | 2, e1, e2 =>
          cases e1; cases e2
          exact Sm.flat rfl 3
        | i + 3, e1, _ => simp at e1
      refine ⟨_, rfl, iteT ?_⟩
      have Z21 : Same H8 H21 := Z8.trans e21
      refine ⟨_, rfl, _, rfl, du, _, rfl, SqL.of (Z21 _ _ DU), fun rv nrv => ⟨_, _, rfl, ?_, fun H22 e22 => ⟨_, rfl, iteT ?_⟩⟩⟩
      · have s21 := same_upd (H := H21) (o := .lst [V.ref t1, .ref t2, .int ((chgOf Ed).length : Nat)].reverse) nrv
        have zz := e21.trans s21
        refine .inr (.inl ⟨ag, rv, _, _, rfl, rfl, .inl ⟨SqL.of (zz _ _ AG), SqL.of upd_same⟩, rfl, by show 3 ≤ 100000; decide, fun i u v e1 e2 => ?_⟩)
        match i, e1, e2 with
        | 0, e1, e2 =>
          cases e1; cases e2
          exact Sm.flat rfl 3
        | 1, e1, e2 =>
          cases e1; cases e2
          exact smT _ _ _ (zz _ _ X3') ((Z21.trans s21) _ _ T2)
        | 2, e1, e2 =>
          cases e1; cases e2
          exact smS _ _ _ (zz _ _ X4') ((Z21.trans s21) _ _ T1)
        | i + 3, e1, _ => simp at e1
      have s21 := same_upd (H := H21) (o := .lst [V.ref t1, .ref t2, .int ((chgOf Ed).length : Nat)].reverse) nrv
      have Z22 : Same H9 H22 := ((Z9.trans e21).trans s21).trans e22
      have SCz := SCa.same Z22
      have la : SqL K H22 a4 (as.map V.ref) := SqL.of ((((s7.trans S8).trans S9).trans Z22) _ _ ha4)
      refine ⟨_, rfl, _, rfl, dScr Ed, dScr Ed, dp_scr (SqL.of (Z22 _ _ HD)) SCz.tups, dp_scr la SCz.tups, shaped_scr hok4, shaped_scr hok4, ?_⟩
      rw [SeqAt.eqv_refl _ (SeqAt.canLay_of_shaped (shaped_scr hok4))]
      exact q _
theorem law_all {f : Addr} {fd : FuncData} (F : C8.Fun K "law" "law" slaw f fd) (T : Txt K mg)
    (D1 : Dn K mg "is_name" sis_name ["value"]) (D2 : Dn K mg "source" ssource ["script"]) (D3 : Dn K mg "target" starget ["script"]) (D4 : Dn K mg "cost" scost ["script"]) (D5 : Dn K mg "check_script" scheck_script ["script"]) (D5b : Dn K mg "bad_edit_place" sbad_edit_place ["script"]) (D6 : Dn K mg "is_edit" sis_edit ["value"])
    (D7 : Dn K mg "_law_purse" s_law_purse ["_law_script_here"]) (D8 : Dn K mg "_law_draw" s_law_draw ["_law_purse_here", "_law_many"]) (D9 : Dn K mg "_law_name" s_law_name ["_law_purse_here"]) (D10 : Dn K mg "_law_names" s_law_names ["_law_purse_here", "_law_many"]) (D11 : Dn K mg "_law_script" s_law_script ["_law_purse_here", "_law_names_here", "_law_most"]) (D12 : Dn K mg "_law_same" s_law_same ["_law_actual", "_law_due"]) :
    FnOk P w K mg base C8.CX0 lawK f fd ["_law_script_here"] (spLaw K) := by
  have Gd : Cal P w K mg base 1 "_law_draw" spDraw [] := ok_law_draw D8 T
  have Gn : Cal P w K mg base 2 "_law_name" spName [] := ok_law_name D9 T Gd
  have Gi : Cal P w K mg base 1 "is_name" spIsName [] := ok_is_name D1 T
  have Ge : Cal P w K mg base 2 "is_edit" spIsEdit [] := ok_is_edit D6 T Gi
  have Gb : Cal P w K mg base 3 "bad_edit_place" (spCheck K) [] := ok_bad_edit_place D5b T Ge
  have Gc : Cal P w K mg base 4 "check_script" (spCheck K) [] := ok_check_script D5 T Gb
  exact ok_law F T (ok_law_purse D7 T) Gd (ok_law_names D10 T Gd Gn) (ok_law_script D11 T Gd) (ok_source D2 T Gc) (ok_target D3 T Gc) (ok_cost D4 T Gc) (ok_law_same D12 T 5)
end
end Sv

namespace Sv
open PySem PySem.Spec PyProof.Rows L2
open C8 (Cal Mak Met cal0 mak0 met0 pe_c pe_mk pe_mt pe_mt0 fnBody fnArgs fnScope scC fnScope_by pe_gc InsC call_isC)
theorem all_mk {l : PySem.W.OpenLaw} {w : World} {K : PySem.W.Frag} {h : Heap} {mg : Str → Option Value} {fa : Addr} (X : K.In h) (G : h.Ns mainGlobals mg) (hfa : mg "law" = some (.ref fa))
    {oc0 kV0 dc0 pm0 cd0 ct0 : Value} {od0 an0 : Option Addr} {sl0 : Array (Option Value)} {f0 : Addr}
    (a0 : PySem.W.nsIn K mainGlobals "is_name" = some (some (.ref f0))) (l0 : K.lookup f0 = some ⟨oc0, od0, .func (PySem.W.fnOf "is_name" "is_name" (fnArgs sis_name) (fnBody sis_name) (fnScope sis_name) .none kV0 dc0 pm0 an0 cd0 ct0), sl0⟩) (c0 : PySem.W.codeIn K cd0 "is_name" = true) (k0 : PySem.W.keepIn K (.ref f0) = true)
    {oc1 kV1 dc1 pm1 cd1 ct1 : Value} {od1 an1 : Option Addr} {sl1 : Array (Option Value)} {f1 : Addr}
    (a1 : PySem.W.nsIn K mainGlobals "source" = some (some (.ref f1))) (l1 : K.lookup f1 = some ⟨oc1, od1, .func (PySem.W.fnOf "source" "source" (fnArgs ssource) (fnBody ssource) (fnScope ssource) .none kV1 dc1 pm1 an1 cd1 ct1), sl1⟩) (c1 : PySem.W.codeIn K cd1 "source" = true) (k1 : PySem.W.keepIn K (.ref f1) = true)
    {oc2 kV2 dc2 pm2 cd2 ct2 : Value} {od2 an2 : Option Addr} {sl2 : Array (Option Value)} {f2 : Addr}
    (a2 : PySem.W.nsIn K mainGlobals "target" = some (some (.ref f2))) (l2 : K.lookup f2 = some ⟨oc2, od2, .func (PySem.W.fnOf "target" "target" (fnArgs starget) (fnBody starget) (fnScope starget) .none kV2 dc2 pm2 an2 cd2 ct2), sl2⟩) (c2 : PySem.W.codeIn K cd2 "target" = true) (k2 : PySem.W.keepIn K (.ref f2) = true)
    {oc3 kV3 dc3 pm3 cd3 ct3 : Value} {od3 an3 : Option Addr} {sl3 : Array (Option Value)} {f3 : Addr}
    (a3 : PySem.W.nsIn K mainGlobals "cost" = some (some (.ref f3))) (l3 : K.lookup f3 = some ⟨oc3, od3, .func (PySem.W.fnOf "cost" "cost" (fnArgs scost) (fnBody scost) (fnScope scost) .none kV3 dc3 pm3 an3 cd3 ct3), sl3⟩) (c3 : PySem.W.codeIn K cd3 "cost" = true) (k3 : PySem.W.keepIn K (.ref f3) = true)
    {oc4 kV4 dc4 pm4 cd4 ct4 : Value} {od4 an4 : Option Addr} {sl4 : Array (Option Value)} {f4 : Addr}
    (a4 : PySem.W.nsIn K mainGlobals "check_script" = some (some (.ref f4))) (l4 : K.lookup f4 = some ⟨oc4, od4, .func (PySem.W.fnOf "check_script" "check_script" (fnArgs scheck_script) (fnBody scheck_script) (fnScope scheck_script) .none kV4 dc4 pm4 an4 cd4 ct4), sl4⟩) (c4 : PySem.W.codeIn K cd4 "check_script" = true) (k4 : PySem.W.keepIn K (.ref f4) = true)
    {oc5 kV5 dc5 pm5 cd5 ct5 : Value} {od5 an5 : Option Addr} {sl5 : Array (Option Value)} {f5 : Addr}
    (a5 : PySem.W.nsIn K mainGlobals "bad_edit_place" = some (some (.ref f5))) (l5 : K.lookup f5 = some ⟨oc5, od5, .func (PySem.W.fnOf "bad_edit_place" "bad_edit_place" (fnArgs sbad_edit_place) (fnBody sbad_edit_place) (fnScope sbad_edit_place) .none kV5 dc5 pm5 an5 cd5 ct5), sl5⟩) (c5 : PySem.W.codeIn K cd5 "bad_edit_place" = true) (k5 : PySem.W.keepIn K (.ref f5) = true)
    {oc6 kV6 dc6 pm6 cd6 ct6 : Value} {od6 an6 : Option Addr} {sl6 : Array (Option Value)} {f6 : Addr}
    (a6 : PySem.W.nsIn K mainGlobals "is_edit" = some (some (.ref f6))) (l6 : K.lookup f6 = some ⟨oc6, od6, .func (PySem.W.fnOf "is_edit" "is_edit" (fnArgs sis_edit) (fnBody sis_edit) (fnScope sis_edit) .none kV6 dc6 pm6 an6 cd6 ct6), sl6⟩) (c6 : PySem.W.codeIn K cd6 "is_edit" = true) (k6 : PySem.W.keepIn K (.ref f6) = true)
    {oc7 kV7 dc7 pm7 cd7 ct7 : Value} {od7 an7 : Option Addr} {sl7 : Array (Option Value)} {f7 : Addr}
    (a7 : PySem.W.nsIn K mainGlobals "_law_purse" = some (some (.ref f7))) (l7 : K.lookup f7 = some ⟨oc7, od7, .func (PySem.W.fnOf "_law_purse" "_law_purse" (fnArgs s_law_purse) (fnBody s_law_purse) (fnScope s_law_purse) .none kV7 dc7 pm7 an7 cd7 ct7), sl7⟩) (c7 : PySem.W.codeIn K cd7 "_law_purse" = true) (k7 : PySem.W.keepIn K (.ref f7) = true)
    {oc8 kV8 dc8 pm8 cd8 ct8 : Value} {od8 an8 : Option Addr} {sl8 : Array (Option Value)} {f8 : Addr}
    (a8 : PySem.W.nsIn K mainGlobals "_law_draw" = some (some (.ref f8))) (l8 : K.lookup f8 = some ⟨oc8, od8, .func (PySem.W.fnOf "_law_draw" "_law_draw" (fnArgs s_law_draw) (fnBody s_law_draw) (fnScope s_law_draw) .none kV8 dc8 pm8 an8 cd8 ct8), sl8⟩) (c8 : PySem.W.codeIn K cd8 "_law_draw" = true) (k8 : PySem.W.keepIn K (.ref f8) = true)
    {oc9 kV9 dc9 pm9 cd9 ct9 : Value} {od9 an9 : Option Addr} {sl9 : Array (Option Value)} {f9 : Addr}
    (a9 : PySem.W.nsIn K mainGlobals "_law_name" = some (some (.ref f9))) (l9 : K.lookup f9 = some ⟨oc9, od9, .func (PySem.W.fnOf "_law_name" "_law_name" (fnArgs s_law_name) (fnBody s_law_name) (fnScope s_law_name) .none kV9 dc9 pm9 an9 cd9 ct9), sl9⟩) (c9 : PySem.W.codeIn K cd9 "_law_name" = true) (k9 : PySem.W.keepIn K (.ref f9) = true)
    {oc10 kV10 dc10 pm10 cd10 ct10 : Value} {od10 an10 : Option Addr} {sl10 : Array (Option Value)} {f10 : Addr}
    (a10 : PySem.W.nsIn K mainGlobals "_law_names" = some (some (.ref f10))) (l10 : K.lookup f10 = some ⟨oc10, od10, .func (PySem.W.fnOf "_law_names" "_law_names" (fnArgs s_law_names) (fnBody s_law_names) (fnScope s_law_names) .none kV10 dc10 pm10 an10 cd10 ct10), sl10⟩) (c10 : PySem.W.codeIn K cd10 "_law_names" = true) (k10 : PySem.W.keepIn K (.ref f10) = true)
    {oc11 kV11 dc11 pm11 cd11 ct11 : Value} {od11 an11 : Option Addr} {sl11 : Array (Option Value)} {f11 : Addr}
    (a11 : PySem.W.nsIn K mainGlobals "_law_script" = some (some (.ref f11))) (l11 : K.lookup f11 = some ⟨oc11, od11, .func (PySem.W.fnOf "_law_script" "_law_script" (fnArgs s_law_script) (fnBody s_law_script) (fnScope s_law_script) .none kV11 dc11 pm11 an11 cd11 ct11), sl11⟩) (c11 : PySem.W.codeIn K cd11 "_law_script" = true) (k11 : PySem.W.keepIn K (.ref f11) = true)
    {oc12 kV12 dc12 pm12 cd12 ct12 : Value} {od12 an12 : Option Addr} {sl12 : Array (Option Value)} {f12 : Addr}
    (a12 : PySem.W.nsIn K mainGlobals "_law_same" = some (some (.ref f12))) (l12 : K.lookup f12 = some ⟨oc12, od12, .func (PySem.W.fnOf "_law_same" "_law_same" (fnArgs s_law_same) (fnBody s_law_same) (fnScope s_law_same) .none kV12 dc12 pm12 an12 cd12 ct12), sl12⟩) (c12 : PySem.W.codeIn K cd12 "_law_same" = true) (k12 : PySem.W.keepIn K (.ref f12) = true)
    {oc13 kV13 dc13 pm13 cd13 ct13 : Value} {od13 an13 : Option Addr} {sl13 : Array (Option Value)} {f13 : Addr}
    (a13 : PySem.W.nsIn K mainGlobals "law" = some (some (.ref f13))) (l13 : K.lookup f13 = some ⟨oc13, od13, .func (PySem.W.fnOf "law" "law" (fnArgs slaw) (fnBody slaw) (fnScope slaw) .none kV13 dc13 pm13 an13 cd13 ct13), sl13⟩) (c13 : PySem.W.codeIn K cd13 "law" = true) (k13 : PySem.W.keepIn K (.ref f13) = true)
    (z0 : PySem.W.nsIn K mainGlobals "isinstance" = some none)
    (z1 : PySem.W.nsIn K mainGlobals "str" = some none)
    (z2 : PySem.W.nsIn K mainGlobals "len" = some none)
    (z3 : PySem.W.nsIn K mainGlobals "all" = some none)
    (z4 : PySem.W.nsIn K mainGlobals "tuple" = some none)
    (z5 : PySem.W.nsIn K mainGlobals "list" = some none)
    (z6 : PySem.W.nsIn K mainGlobals "enumerate" = some none)
    (z7 : PySem.W.nsIn K mainGlobals "int" = some none)
    (z8 : PySem.W.nsIn K mainGlobals "abs" = some none)
    (z9 : PySem.W.nsIn K mainGlobals "range" = some none)
    (z10 : PySem.W.nsIn K mainGlobals "bool" = some none)
    (z11 : PySem.W.nsIn K mainGlobals "dict" = some none)
    {t0 : Tok} (g0 : PySem.W.nsIn K mainGlobals "LONGEST_NAME" = some (some (.int 8 t0)))
    {t1 : Tok} (g1 : PySem.W.nsIn K mainGlobals "LONGEST_SCRIPT" = some (some (.int 5000 t1)))
    : ∃ fd : FuncData, (∀ (s : Shared) (v : Value), BindsTo s fd ⟨[v], []⟩ [("_law_script_here", v)]) ∧ ∀ base : Heap, K.In base → base.Ns mainGlobals mg → FnOk l.prog w K mg base C8.CX0 lawK fa fd ["_law_script_here"] (spLaw K) := by
  have e := hfa.symm.trans (PySem.W.mg_of X G a13)
  cases e
  have T : Txt K mg := ⟨PySem.W.mg_none_of X G z0, PySem.W.mg_none_of X G z1, PySem.W.mg_none_of X G z2, PySem.W.mg_none_of X G z3, PySem.W.mg_none_of X G z4, PySem.W.mg_none_of X G z5, PySem.W.mg_none_of X G z6, PySem.W.mg_none_of X G z7, PySem.W.mg_none_of X G z8, PySem.W.mg_none_of X G z9, PySem.W.mg_none_of X G z10, PySem.W.mg_none_of X G z11, ⟨_, PySem.W.mg_of X G g0, _, rfl⟩, ⟨_, PySem.W.mg_of X G g1, _, rfl⟩⟩
  have Dis_name : Dn K mg "is_name" sis_name ["value"] := dn_mk X G a0 l0 c0 k0 fun _ _ _ _ _ _ us hl => match us, hl with | [_], _ => rfl
  have Dsource : Dn K mg "source" ssource ["script"] := dn_mk X G a1 l1 c1 k1 fun _ _ _ _ _ _ us hl => match us, hl with | [_], _ => rfl
  have Dtarget : Dn K mg "target" starget ["script"] := dn_mk X G a2 l2 c2 k2 fun _ _ _ _ _ _ us hl => match us, hl with | [_], _ => rfl
  have Dcost : Dn K mg "cost" scost ["script"] := dn_mk X G a3 l3 c3 k3 fun _ _ _ _ _ _ us hl => match us, hl with | [_], _ => rfl
  have Dcheck_script : Dn K mg "check_script" scheck_script ["script"] := dn_mk X G a4 l4 c4 k4 fun _ _ _ _ _ _ us hl => match us, hl with | [_], _ => rfl
  have Dbad_edit_place : Dn K mg "bad_edit_place" sbad_edit_place ["script"] := dn_mk X G a5 l5 c5 k5 fun _ _ _ _ _ _ us hl => match us, hl with | [_], _ => rfl
  have Dis_edit : Dn K mg "is_edit" sis_edit ["value"] := dn_mk X G a6 l6 c6 k6 fun _ _ _ _ _ _ us hl => match us, hl with | [_], _ => rfl
  have D_law_purse : Dn K mg "_law_purse" s_law_purse ["_law_script_here"] := dn_mk X G a7 l7 c7 k7 fun _ _ _ _ _ _ us hl => match us, hl with | [_], _ => rfl
  have D_law_draw : Dn K mg "_law_draw" s_law_draw ["_law_purse_here", "_law_many"] := dn_mk X G a8 l8 c8 k8 fun _ _ _ _ _ _ us hl => match us, hl with | [_, _], _ => rfl
  have D_law_name : Dn K mg "_law_name" s_law_name ["_law_purse_here"] := dn_mk X G a9 l9 c9 k9 fun _ _ _ _ _ _ us hl => match us, hl with | [_], _ => rfl
  have D_law_names : Dn K mg "_law_names" s_law_names ["_law_purse_here", "_law_many"] := dn_mk X G a10 l10 c10 k10 fun _ _ _ _ _ _ us hl => match us, hl with | [_, _], _ => rfl
  have D_law_script : Dn K mg "_law_script" s_law_script ["_law_purse_here", "_law_names_here", "_law_most"] := dn_mk X G a11 l11 c11 k11 fun _ _ _ _ _ _ us hl => match us, hl with | [_, _, _], _ => rfl
  have D_law_same : Dn K mg "_law_same" s_law_same ["_law_actual", "_law_due"] := dn_mk X G a12 l12 c12 k12 fun _ _ _ _ _ _ us hl => match us, hl with | [_, _], _ => rfl
  have Dlaw : Dn K mg "law" slaw ["_law_script_here"] := dn_mk X G a13 l13 c13 k13 fun _ _ _ _ _ _ us hl => match us, hl with | [_], _ => rfl
  refine ⟨PySem.W.fnOf "law" "law" (fnArgs slaw) (fnBody slaw) (fnScope slaw) .none kV13 dc13 pm13 an13 cd13 ct13, fun s v => .of_eq rfl, fun base _ _ => ?_⟩
  have F : C8.Fun K "law" "law" slaw fa _ := ⟨oc13, od13, .none, kV13, dc13, pm13, an13, cd13, ct13, sl13, rfl, l13, c13⟩
  exact law_all F T Dis_name Dsource Dtarget Dcost Dcheck_script Dbad_edit_place Dis_edit D_law_purse D_law_draw D_law_name D_law_names D_law_script D_law_same
theorem walk {l : PySem.W.OpenLaw} {q : Program} {loose : List Str} {XP : (Str → Option Value) → Heap → Prop} {YP : World → Heap → Prop} {d : DefRec} {K : Params → PySem.W.Frag} (hn : l.most = some 63) (hdf : d.params.defaults = [])
    (hY : ∀ (w : World) (h : Heap), YP w h → (K w.params).In h)
    (F : ∀ (w : World) (mg : Str → Option Value) (fa : Addr) (h : Heap), (K w.params).In h → h.Ns mainGlobals mg → mg d.name = some (.ref fa) →
      ∃ fd : FuncData, (∀ (s : Shared) (u : Value), BindsTo s fd ⟨[u], []⟩ [("_law_script_here", u)]) ∧ ∀ base : Heap, (K w.params).In base → base.Ns mainGlobals mg → FnOk l.prog w (K w.params) mg base C8.CX0 lawK fa fd ["_law_script_here"] (spLaw (K w.params))) :
    PySem.W.WalkO q loose XP YP l.row.toRowW d [] (fun f vs => PySem.call f vs) :=
  L2.walk_of (n := 63) (k := lawK) (x := "_law_script_here") (CX := fun _ => C8.CX0) (sp := fun w => spLaw (K w.params)) hn (by decide) hdf ⟨rfl, by decide, by decide⟩ hY F (fun _ _ a ns hl _ hS => ⟨a, ns, rfl, hS, hl, fun _ => rfl⟩) fun _ _ _ _ _ z => z
end Sv

open PySem PySem.W PyProof.Rows in
set_option maxRecDepth 100000 in
set_option maxHeartbeats 0 in
theorem PySem.Challenge.cw_slipstold_k12_script_sums_holds : PySem.Challenge.rw_slipstold_k12_script_sums.Holds := by
  w_on; o_law; k_head; (case hw => w_witness2)
  k_fill
  refine Sv.walk (l := PySem.Challenge.rw_slipstold_k12_script_sums) rfl rfl (fun w h Y => PySem.W.kIn_of Y) ?F
  case F =>
    intro w mg fa h KX G hmg
    refine' Sv.all_mk KX G hmg ?sva0 ?svl0 ?svc0 ?svk0 ?sva1 ?svl1 ?svc1 ?svk1 ?sva2 ?svl2 ?svc2 ?svk2 ?sva3 ?svl3 ?svc3 ?svk3 ?sva4 ?svl4 ?svc4 ?svk4 ?sva5 ?svl5 ?svc5 ?svk5 ?sva6 ?svl6 ?svc6 ?svk6 ?sva7 ?svl7 ?svc7 ?svk7 ?sva8 ?svl8 ?svc8 ?svk8 ?sva9 ?svl9 ?svc9 ?svk9 ?sva10 ?svl10 ?svc10 ?svk10 ?sva11 ?svl11 ?svc11 ?svk11 ?sva12 ?svl12 ?svc12 ?svk12 ?sva13 ?svl13 ?svc13 ?svk13 ?svz0 ?svz1 ?svz2 ?svz3 ?svz4 ?svz5 ?svz6 ?svz7 ?svz8 ?svz9 ?svz10 ?svz11 ?svg0 ?svg1
    (case sva0 => k_is)
    (case svl0 => k_is)
    (case svc0 => k_is)
    (case svk0 => k_is)
    (case sva1 => k_is)
    (case svl1 => k_is)
    (case svc1 => k_is)
    (case svk1 => k_is)
    (case sva2 => k_is)
    (case svl2 => k_is)
    (case svc2 => k_is)
    (case svk2 => k_is)
    (case sva3 => k_is)
    (case svl3 => k_is)
    (case svc3 => k_is)
    (case svk3 => k_is)
    (case sva4 => k_is)
    (case svl4 => k_is)
    (case svc4 => k_is)
    (case svk4 => k_is)
    (case sva5 => k_is)
    (case svl5 => k_is)
    (case svc5 => k_is)
    (case svk5 => k_is)
    (case sva6 => k_is)
    (case svl6 => k_is)
    (case svc6 => k_is)
    (case svk6 => k_is)
    (case sva7 => k_is)
    (case svl7 => k_is)
    (case svc7 => k_is)
    (case svk7 => k_is)
    (case sva8 => k_is)
    (case svl8 => k_is)
    (case svc8 => k_is)
    (case svk8 => k_is)
    (case sva9 => k_is)
    (case svl9 => k_is)
    (case svc9 => k_is)
    (case svk9 => k_is)
    (case sva10 => k_is)
    (case svl10 => k_is)
    (case svc10 => k_is)
    (case svk10 => k_is)
    (case sva11 => k_is)
    (case svl11 => k_is)
    (case svc11 => k_is)
    (case svk11 => k_is)
    (case sva12 => k_is)
    (case svl12 => k_is)
    (case svc12 => k_is)
    (case svk12 => k_is)
    (case sva13 => k_is)
    (case svl13 => k_is)
    (case svc13 => k_is)
    (case svk13 => k_is)
    (case svz0 => k_is)
    (case svz1 => k_is)
    (case svz2 => k_is)
    (case svz3 => k_is)
    (case svz4 => k_is)
    (case svz5 => k_is)
    (case svz6 => k_is)
    (case svz7 => k_is)
    (case svz8 => k_is)
    (case svz9 => k_is)
    (case svz10 => k_is)
    (case svz11 => k_is)
    (case svg0 => k_is)
    (case svg1 => k_is)
#print axioms PySem.Challenge.cw_slipstold_k12_script_sums_holds


