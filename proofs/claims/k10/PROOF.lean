import PyProof.Rows.All
import Wide.All
import OpenK.AllK
import Wide.FinOn
import HandS.ForMost
import HandS.Conv
import HandS.TupAny
import HandS.Strs
import HandS.Walk
import HandS.IsInst
import HandS.Wide
import KE.GoesEnum
import HandS.Style
import PyProof.ReprLen
import PySem.Challenge.RW_passmarks_k10_orders_of_runners
set_option Elab.async false
set_option maxRecDepth 100000
/-! Rules of my own over the layer: repr of data, enumerate of a tuple, tuple.index of ints, promises where no repr runs. -/
namespace Lw
open PySem L2

/-! ### repr of data -/
def rRepr (K : PySem.W.Frag) : List V → Hp → VK → Prop := fun xs H Q => ∃ (a : Addr) (d : PyData), xs = [.ref a] ∧ Dp K H (.ref a) d ∧
  d.showable = true ∧ d.hasDict = false ∧ d.depth ≤ 60 ∧ d.shown.length ≤ sizeLine ∧ Q (.str d.shown) H
theorem call_repr {X : Cx} (hg : X.A.guards = some []) (hu : X.A.units + 64 < cLine) : CallR X (.builtin "repr") (rRepr X.K) := by
  intro pins s σ H xs us Q I r h
  obtain ⟨a, d, rfl, hd, hs, hn, hdep, hsz, q⟩ := h
  obtain ⟨u, rfl, ru⟩ := vals1 r
  cases ru
  obtain ⟨as, rd⟩ := Dp.reads I d _ _ hd rfl
  exact repr_of_reads' rd hs (PyData.noDict_hsm hn) hg (by omega) (fun _ _ e => e) (fun h' u tk hk => ⟨.str d.shown, H, I.kept hk, ⟨_, rfl⟩, q⟩) hsz

/-! ### enumerate of a tuple -/
/-- the tuple at a, each item in a new pair with its number -/
def IteT (K : PySem.W.Frag) (a : Addr) : It :=
  { go := fun i H => ∃ (xs : List V) (x : V), SqT K H a xs ∧ xs[i]? = some x
    yld := fun i H v H' => ∃ T x, v = .ref T ∧ H T = none ∧ H' = upd H T (.tup [.int (i : Nat), x]) ∧ ∀ xs, SqT K H a xs → xs[i]? = some x
    stop := fun i H => ∃ xs : List V, SqT K H a xs ∧ xs.length = i }
theorem turn_enumT {P : Program} {w : World} {K : PySem.W.Frag} {elts : List Expr} {kk : Nat} {tpos : Pos} (a e it : Addr) (hai : a ≠ it) (hae : a ≠ e) :
    Turn P w K (.Tuple elts kk tpos) (IteT K a) [e, it] e (fun i h => (∃ old, IsEnum h e it ((i : Nat) : Int) old) ∧ h.IsTupleIter it a i ∧ e ≠ it) where
  mem := by simp
  obj := fun i h st b hb => by
    obtain ⟨⟨old, he⟩, ⟨o, ho, hc, hd⟩, _⟩ := st
    rcases (show b = e ∨ b = it by simpa using hb) with z | z
    · subst z
      exact ⟨_, he, fun v q => nomatch q⟩
    · subst z
      exact ⟨o, ho, fun v q => by rw [hd] at q; cases q⟩
  keep := fun i h h' st k => by
    obtain ⟨⟨old, he⟩, hi, hne⟩ := st
    exact ⟨⟨old, k e (by simp) _ he⟩, hi.at fun o q => k it (by simp) o q, hne⟩
  item := by
    intro X hP hw hK hc i pins s σ H E I hf st hg
    subst hP hw hK
    obtain ⟨⟨old, he⟩, hit, hne⟩ := st
    obtain ⟨xs, x, hq, hx⟩ := hg
    obtain ⟨its, rv, p, hz⟩ := I.tuple hq
    obtain ⟨u, hu, ru⟩ := rv.get hx
    have hel : e < s.heap.objs.size := Heap.lt_size he
    have hil : it < s.heap.objs.size := by obtain ⟨_, q, _⟩ := hit; exact Heap.lt_size q
    have hlt : i < its.toArray.size := by rw [List.size_toArray]; exact (List.getElem?_eq_some_iff.mp hu).1
    refine wpAny_pyNext_enum_itemD (Draws.tuple (A := X.A.in1) (I.ok.hd hc) it a hai its.toArray) he ⟨hit, p⟩ hlt hne (by simpa using ⟨hne, Ne.symm hae⟩) fun x' h' tk hx' ho hst hT hsz hk => ?_
    have hxu : x' = u := by
      have hu' : its.toArray[i]? = some u := by simpa using hu
      rw [hu'] at hx'
      exact (Option.some.inj hx').symm
    subst hxu
    refine ⟨_, rfl, wpAny_letOwnedTupleGo_enum (s := { s with heap := h', toks := tk + 1 }) ho fun h'' he' sb => ?_⟩
    have hT2 : h''.get? s.heap.objs.size = some { cls := .type "tuple", data := .seq #[.int i tk, x'] } := (sb.2 _ (Nat.ne_of_gt hel)).trans hT
    have new : ObjOk X.prog X.w (upd H s.heap.objs.size (.tup [.int (i : Nat), x])) h'' s.heap.objs.size (.tup [.int (i : Nat), x]) :=
      ⟨by show 2 ≤ sizeLine; decide, [.int i tk, x'], .cons ⟨_, rfl⟩ (.cons ru .nil), ⟨_, hT2, rfl, _, rfl⟩⟩
    have I1 : Inv X pins σ (upd H s.heap.objs.size (.tup [.int (i : Nat), x])) { s with heap := h'', toks := tk + 1 } :=
      I.turnedNew (ch := [e, it]) (fun b ob hb q => (sb.2 b (fun z => hb (by simp [z]))).trans (hk b ob (fun z => hb (by simp [z])) (fun z => hb (by simp [z])) q)) hf (Nat.le_refl _) new
    refine ⟨.ref s.heap.objs.size, _, I1, rfl, ⟨_, x, rfl, I.hok.fresh (Nat.le_refl _), rfl, fun ys hy => by rw [I.tuple_inj hy hq]; exact hx⟩, ⟨⟨x', ?_⟩, hst.1.at fun o q => (sb.2 it (Ne.symm hne)).trans q, hne⟩, fun b hb => ?_⟩
    · have e1 : ((i + 1 : Nat) : Int) = (i : Int) + 1 := by omega
      rw [e1]
      exact he'
    · have hb' : b < s.heap.objs.size := by
        rcases (show b = e ∨ b = it by simpa using hb) with z | z
        · rw [z]; exact hel
        · rw [z]; exact hil
      rw [upd_ne (Nat.ne_of_lt hb')]
      exact (hf b hb).1
  done := by
    intro X hP hw hK hc i pins s σ H E I hf st hg
    subst hP hw hK
    obtain ⟨⟨old, he⟩, hit, hne⟩ := st
    obtain ⟨xs, hq, hx⟩ := hg
    obtain ⟨its, rv, p, hz⟩ := I.tuple hq
    obtain ⟨f0, f1, f2, f3, f4, f5⟩ := hf it (by simp)
    have hl := rv.length
    have hge : i = its.toArray.size := by rw [List.size_toArray]; omega
    subst hge
    exact wpAny_pyNext_enum_endD (Draws.tuple (A := X.A.in1) (I.ok.hd hc) it a hai its.toArray) he ⟨hit, p⟩ fun h' eb => ⟨rfl, I.turned (t' := s.toks) (fun b o hb q => eb b o hb q) f0 f1 f3 f4 f5⟩
  self := fun A i s Q E st h => by
    obtain ⟨⟨_, he⟩, _⟩ := st
    exact wpAny_pyIter_enum he h
theorem enum_newT (l : Addr) (items : Array Value) (n : Nat) (dct : Option Addr) (sl : Array (Option Value)) :
    Meets (Builtin.«enumerate.__new__» ⟨[.type "enumerate", .ref l], []⟩) (fun _ R s => s.heap.get? l = some { cls := .type "tuple", dict := dct, data := .seq items n, slots := sl } ∧
      R (.ok (.ret (.ref (s.heap.push { cls := .type "tuple_iterator", data := .fields #[.ref l, .int 0 0] }).objs.size)))
        { s with heap := (s.heap.push { cls := .type "tuple_iterator", data := .fields #[.ref l, .int 0 0] }).push { cls := .type "enumerate", data := .fields #[.none, .bool false, .ref s.heap.objs.size, rawInt 0, .none, .none] } }) :=
  .of_wp fun prog w A R s h => by
    obtain ⟨hp, g, d, tk, os⟩ := s
    obtain ⟨hl, h⟩ := h
    have hsub := sub_enumerate
    have hT : Heap.IsTuple (Shared.heap ⟨hp, g, d, tk, os⟩) l items := ⟨_, hl, rfl, n, rfl⟩
    wp_walk using AutoSeq1.wpAny_loadPart' hl
    refine wpAny_stack_any fun st => wpAny_pure ?_
    split
    · rename_i c _ _ _ _ _
      cases (c == Value.type "enumerate")
      · wp_walk using AutoSeq1.wpAny_loadPart' hl, wpAny_pyIter_tuple hT
        exact ⟨_, rfl, h⟩
      · wp_walk using AutoSeq1.wpAny_loadPart' hl, wpAny_pyIter_tuple hT
        exact ⟨_, rfl, h⟩
    · wp_walk using AutoSeq1.wpAny_loadPart' hl, wpAny_pyIter_tuple hT
      exact ⟨_, rfl, h⟩
theorem enum1_tuple {prog : Program} {w : World} {A : Around} {E : Value → Shared → Prop} {s : Shared} {t : Addr} {items : Array Value} {Q : Value → Shared → Prop} (ht : s.heap.IsTuple t items)
    (h : ∀ h', IsEnum h' (s.heap.objs.size + 1) s.heap.objs.size 0 .none → h'.get? s.heap.objs.size = some { cls := .type "tuple_iterator", data := .fields #[.ref t, .int 0 0] } →
      (∀ b o, s.heap.get? b = some o → h'.get? b = some o) → Q (.ref (s.heap.objs.size + 1)) { s with heap := h' }) :
    wpAny (model prog w) A (call (.type "enumerate") [.ref t]) Q E s := by
  obtain ⟨⟨c, dct, dt, sl⟩, hl, hc, n, hd⟩ := id ht
  replace hc : c = .type "tuple" := hc
  replace hd : dt = .seq items n := hd
  subst hc hd
  refine callType_new F.called_enumerate (by decide) (F.typeCall_enumerate_1 _) (F.newCall_enumerate_1 _) (fun obj => F.args_object_init_2 obj _) F.entry_enumerate_new (enum_newT t items n dct sl) ⟨hl, ?_⟩
  have hz : (s.heap.push { cls := .type "tuple_iterator", data := .fields #[.ref t, .int 0 0] }).objs.size = s.heap.objs.size + 1 := Heap.size_push ..
  show _ ∧ _
  rw [hz]
  have he : IsEnum ((s.heap.push { cls := .type "tuple_iterator", data := .fields #[.ref t, .int 0 0] }).push { cls := .type "enumerate", data := .fields #[.none, .bool false, .ref s.heap.objs.size, rawInt 0, .none, .none] })
      (s.heap.objs.size + 1) s.heap.objs.size 0 .none := by
    have q := Heap.get?_push_size (s.heap.push { cls := .type "tuple_iterator", data := .fields #[.ref t, .int 0 0] }) (o := { cls := .type "enumerate", data := .fields #[.none, .bool false, .ref s.heap.objs.size, rawInt 0, .none, .none] }) rfl
    rw [hz] at q
    exact q
  exact ⟨⟨_, he, rfl⟩, h _ he (Heap.get?_push_of_some _ (Heap.get?_push_size _ rfl)) fun b o x => Heap.get?_push_of_some _ (Heap.get?_push_of_some _ x)⟩
def iEnumA (K : PySem.W.Frag) (ta : TA) : TI := fun σ H R => ta σ H fun vs H1 => ∃ a xs, vs = [.ref a] ∧ ((SqL K H1 a xs ∧ R (Ite K a) H1) ∨ (SqT K H1 a xs ∧ R (IteT K a) H1))
/-- for i, x in enumerate(xs), xs a list or a tuple -/
theorem pi_enumA {X : Cx} {e : Expr} {ta : TA} {p pos tpos : Pos} {elts : List Expr} {kk : Nat} (hg : Gl X "enumerate") (hm : X.mg "enumerate" = none) (ha : PA X [e] ta) (hs : starEach [e] X.env = [(false, eval e X.env)] := by rfl) :
    PI X (.Tuple elts kk tpos) (.Call (.Name "enumerate" p) [e] [] pos) (iEnumA X.K ta) := by
  refine ⟨fun pins s σ H R I h => ?_⟩
  refine PyProof.Rows.Call_ (ld_blt I hg hm PyProof.Rows.boot_enumerate (PyProof.Rows.callWith_type1 (thn (ha.run pos pins s σ H _ I h) fun us s1 ⟨vs, H1, I1, r1, q1⟩ => ?_) hs rfl))
  obtain ⟨a, xs, ex, hq⟩ := q1
  subst ex
  cases r1 with
  | cons r rr =>
    cases rr
    cases r
    have two : ∀ b ∈ [s1.heap.objs.size + 1, s1.heap.objs.size], s1.heap.objs.size ≤ b := fun b hb => by
      rcases (show b = s1.heap.objs.size + 1 ∨ b = s1.heap.objs.size by simpa using hb) with z | z
      · rw [z]; exact Nat.le_add_right _ _
      · rw [z]; exact Nat.le_refl _
    rcases hq with ⟨hq, q⟩ | ⟨hq, q⟩
    · obtain ⟨its, rv, p', hz⟩ := I1.list hq
      refine call_enumerate_list p'.isList fun h' he hit hsz hk => wpAny_pyIter_enum he ?_
      have I2 : Inv X pins σ H1 { s1 with heap := h' } := I1.kept (t' := s1.toks) hk
      exact ⟨s1.heap.objs.size + 1, [s1.heap.objs.size + 1, s1.heap.objs.size], _, _, H1, rfl, I2, turn_enum a (s1.heap.objs.size + 1) s1.heap.objs.size, ⟨⟨.none, he⟩, hit, Nat.succ_ne_self _⟩,
        fun b hb => I1.fpOk (two b hb) (I1.hok.fresh (two b hb)), q⟩
    · obtain ⟨its, rv, p', hz⟩ := I1.tuple hq
      have hal : a < s1.heap.objs.size := by obtain ⟨_, q', _⟩ := id p'; exact Heap.lt_size q'
      refine enum1_tuple p' fun h' he hit hk => wpAny_pyIter_enum he ?_
      have I2 : Inv X pins σ H1 { s1 with heap := h' } := I1.kept (t' := s1.toks) hk
      exact ⟨s1.heap.objs.size + 1, [s1.heap.objs.size + 1, s1.heap.objs.size], _, _, H1, rfl, I2, turn_enumT a (s1.heap.objs.size + 1) s1.heap.objs.size (Nat.ne_of_lt hal) (Nat.ne_of_lt (Nat.lt_succ_of_lt hal)), ⟨⟨.none, he⟩, ⟨_, hit, rfl, rfl⟩, Nat.succ_ne_self _⟩,
        fun b hb => I1.fpOk (two b hb) (I1.hok.fresh (two b hb)), q⟩
theorem walk_enumL {K : PySem.W.Frag} {a : Addr} {xs : List V} : Walk (Ite K a) xs.length (fun H => SqL K H a xs) (YPair (fun i => some (.int (i : Nat))) (fun i => xs[i]?)) := walk_enum
theorem walk_enumT {K : PySem.W.Frag} {a : Addr} {xs : List V} : Walk (IteT K a) xs.length (fun H => SqT K H a xs) (YPair (fun i => some (.int (i : Nat))) (fun i => xs[i]?)) where
  goes := fun i H hi h => ⟨xs, xs[i], h, List.getElem?_eq_getElem hi⟩
  stops := fun H h => ⟨xs, h, rfl⟩
  yields := fun i H x H' hi h y => by
    obtain ⟨T, z, e1, e2, e3, e4⟩ := y
    exact ⟨T, .int (i : Nat), z, e1, e2, e3, rfl, e4 xs h⟩
end Lw
set_option Elab.async false
set_option maxRecDepth 100000
/-! Promises of defs that run where no repr is under way (guards = some []), and the end of a law over them. -/
namespace Lw
open PySem PySem.Spec PyProof.Rows L2

structure FnG (P : Program) (w : World) (K : PySem.W.Frag) (mg : Str → Option Value) (base : Heap) (k : Nat) (f : Addr) (fd : FuncData) (ps : List Str) (sp : Sp) : Prop where
  many : ∀ vs H Q E, sp vs H Q E → vs.length = ps.length
  goes : ∀ (A : Around) (outer : List Env) (s : Shared) (H : Hp) (args : Args) (us : List Value) (vs : List V) (Q : VK) (E : XK), A.guards = some [] → Room k A → Env0 P w K mg base A outer s H →
    BindsTo s fd args (ps.zip us) → Vals vs us → sp vs H Q E → codeAny (model P w) A (.call (.ref f) args) (CR CX0 outer P w H s Q E) s

section
variable {P : Program} {w : World} {K : PySem.W.Frag} {mg : Str → Option Value} {base : Heap}
theorem FnG.of_ok {k : Nat} {f : Addr} {fd : FuncData} {ps : List Str} {sp : Sp} (F : FnOk P w K mg base CX0 k f fd ps sp) : FnG P w K mg base k f fd ps sp :=
  ⟨F.len, fun A outer s H args us vs Q E _ => F.run A outer s H args us vs Q E⟩
/-- a def by its body, the guards known -/
theorem gok {x qual : Str} {st : Stmt} {f : Addr} {fd : FuncData} {N ps : List Str} {k : Nat} {sp : Sp} (F : Fun K x qual st f fd) (S : FnScope N ps (defScope st)) (len : ∀ vs H Q E, sp vs H Q E → vs.length = ps.length)
    (hb : ∀ (cdv : Value) (A : Around) (outer : List Env) (s : Shared) (H : Hp) (vs : List V) (Q : VK) (E : XK), A.guards = some [] → Room k (A.deeper (envOfC qual (defScope st) s.heap.objs.size f cdv)) → sp vs H Q E →
      ∃ t, PSs (cxOf CX0 P w K mg base N qual (defScope st) f cdv A outer s H E).nox (defBody st) t ∧ t { nx := fun _ H' => Q .non H', rt := Q } (start N vs) H) : FnG P w K mg base (k + 1) f fd ps sp := by
  obtain ⟨oc, od, kV, doc, pm, an, cdv, ct, osl, rfl, lk, hcd⟩ := F.ex
  refine ⟨len, fun A outer s H args us vs Q E hg hr e0 hbind rv hsp => ?_⟩
  have kIn : K.In s.heap := e0.mod.kin.keeps fun b o e => (e0.bs b o e).1
  have limit : s.heap.NoLimit :=
    e0.mod.nolimit.keeps fun b o e => (e0.bs b o e).1
  refine codeAny_call_function hr.depth (kIn _ _ lk) rfl S.co S.gen rfl
    (PySem.W.codeRec_of kIn hcd) (hbind _ _ _ _ ?_)
  refine wpAny_newFunctionEnv_cells S.kind (fun ⟨n, v⟩ hy => ?_) fun env he s1 inCall => ?_
  · rcases S.par n (List.of_mem_zip hy).1 with q | q
    · exact .inl q
    · exact .inr ⟨q, PySem.W.cellsFrom_some _ _ _ (.inl q)⟩
  subst he
  refine ⟨limit.keeps inCall.toInCall.keep, codeAny_func ?_⟩
  obtain ⟨t, ht, hq⟩ := hb cdv A outer s H vs Q E hg (hr.deeper _) hsp
  have I0 := inv_start (CX := CX0) (E := E) S hr.hd e0 (len _ _ _ _ hsp) rv inCall
  refine wpAny_mono (ht.nox.run [] s1 (start N vs) H _ I0 hq) (fun flow s' hs => ?_) fun e s' hs => hs
  cases flow with
  | ret u =>
    obtain ⟨v, σ', H', J, r, q⟩ := hs
    exact ⟨v, H', J.os, J.bare, J.base, J.hok, r, q⟩
  | next =>
    obtain ⟨σ', H', J, q⟩ := hs
    exact ⟨V.non, H', J.os, J.bare, J.base, J.hok, rfl, q⟩
  | brk =>
    obtain ⟨_, _, _, q⟩ := hs
    exact q.elim
  | cont =>
    obtain ⟨_, _, _, q⟩ := hs
    exact q.elim
end

section
variable {X : Cx} {k : Nat} {f : Addr} {fd : FuncData} {ps : List Str} {sp : Sp} {x : Str} {p pos : Pos} {e : Expr} {es : List Expr} {t : TA}
theorem pe_callG (F : FnG X.prog X.w X.K X.mg X.base k f fd ps sp) (hg : X.A.guards = some []) (hr : Room k X.A) (gl : Gl X x) (hm : X.mg x = some (.ref f)) (hk : PySem.W.keepIn X.K (.ref f) = true) (hb : Binds X.K fd ps [])
    (ha : PA X (e :: es) t) (hdb : (x == ("__debug__" : Str)) = false := by decide) (he : starEach (e :: es) X.env = (false, eval e X.env) :: starEach es X.env := by rfl)
    (hpl : (backTo pos (starEach es X.env)).any (·.1) = false := by rfl) : PE X (.Call (.Name x p) (e :: es) [] pos) (tCall sp [] E0 t) := by
  refine ⟨fun pins s σ H Q I h => wpAny_Call_Name_kw (ld_glob I gl hm ?_ hdb)⟩
  refine PySem.W.callWith_K (h₀ := X.base) I.ok.mod.kin hk
    (thn (ha.run pos pins s σ H _ I h) fun us s1 ⟨vs, H1, I1, r, q⟩ => ⟨I1.kIn, ?_⟩) he hpl
  have q' : sp vs H1 Q E0 := by
    have z : sp (vs ++ []) H1 Q E0 := q
    rwa [List.append_nil] at z
  have hl : (us ++ []).length = ps.length := by
    rw [List.append_nil, ← r.length]
    exact F.many _ _ _ _ q'
  have hz := hb s1 us I1.kIn hl
  rw [List.append_nil] at hz
  refine wpAny_call (codeAny_mono (F.goes X.A X.stack s1 H1 ⟨us, []⟩ us vs Q E0 hg hr I1.env0 hz r q') fun res s' hq => ?_)
  match res, hq with
  | .error _, hq => exact (show False from hq).elim
  | .ok (.ret _), hq => exact I1.after hq
  | .ok .next, hq => exact (show False from hq).elim
  | .ok .brk, hq => exact (show False from hq).elim
  | .ok .cont, hq => exact (show False from hq).elim
end

/-- the law's own def, called on the script -/
theorem callG {P : Program} {w : World} {K : PySem.W.Frag} {mg mb : Str → Option Value} {k : Nat} {fa a : Addr} {fd : FuncData} {x : Str} {sp : Sp} {s : Shared} {vs : List Value} {ns : List Int}
    (kin : K.In s.heap) (glob : s.heap.Ns mainGlobals mg) (blt : s.heap.Ns builtinsNs mb) (boots : ∀ x : Str, x ≠ "__name__" → mb x = bootBuiltins x) (lim : s.heap.NoLimit) (gens : s.gens = #[])
    (ha : s.heap.get? a = some { cls := .type "list", data := .seq vs.toArray }) (hints : PyProof.Rows.IntsAre vs ns) (hl : ns.length ≤ sizeLine) (hr : Room k callerA)
    (F : ∀ base : Heap, K.In base → base.Ns mainGlobals mg → FnG P w K mg base k fa fd [x] sp) (bind : ∀ (s : Shared) (u : Value), BindsTo s fd ⟨[u], []⟩ [(x, u)])
    (hsp : ∀ H : Hp, SqL K H a (ns.map V.int) → sp [.ref a] H (fun v _ => v = .bl true) fun _ _ _ => False) :
    codeAny (model P w) callerA (.call (.ref fa) ⟨[.ref a], []⟩) (fun r s' => r = .ok (.ret (.bool true)) ∧ OldK s.heap s'.heap ∧ s'.os = s.os ∧ AllBare s'.gens) s := by
  have rv := vals_ints hints
  have lenV := hints.length
  have main : ∀ H : Hp, (∀ b, H b = none ∨ (b = a ∧ ∃ o xs, H b = some (.frz o (.lst xs)))) → SqL K H a (ns.map V.int) → HOk P w H s.heap → (H a ≠ none → K.lookup a = none) →
      codeAny (model P w) callerA (.call (.ref fa) ⟨[.ref a], []⟩) (fun r s' => r = .ok (.ret (.bool true)) ∧ OldK s.heap s'.heap ∧ s'.os = s.os ∧ AllBare s'.gens) s := by
    intro H only sq hok outside
    have there : ∀ {b : Addr} {m : Str → Option Value}, s.heap.Ns b m → (hidT s.heap H).Ns b m := by
      rintro b m ⟨o, es, ep, e, d, r⟩
      refine ⟨o, es, ep, hidT_get e ?_, d, r⟩
      rcases only b with z | ⟨z, _⟩
      · exact z
      · rw [z, ha] at e
        cases e
        exact nomatch d
    have kin' : K.In (hidT s.heap H) := fun b o e => hidT_get (kin b o e) (by
      rcases only b with z | ⟨z, o', xs, q⟩
      · exact z
      · have n := outside (by rw [← z, q]; simp)
        rw [← z, e] at n
        cases n)
    have M : Mod K mg (hidT s.heap H) := by
      obtain ⟨mc, h1, h2⟩ := lim
      exact ⟨kin', there glob, ⟨mb, there blt, boots⟩, ⟨mc, there h1, h2⟩⟩
    have e0 : Env0 P w K mg (hidT s.heap H) callerA [] s H := by
      refine ⟨rfl, M, fun b o e => of_hidT e, Nat.le_of_eq (hidT_size _ _), trivial, fun b hb => ?_, hok, .of_eq gens⟩
      exact absurd (show b ∈ ([] : List Addr) from hb) (by simp)
    have ran := (F _ kin' (there glob)).goes callerA [] s H ⟨[.ref a], []⟩ [.ref a] [.ref a] _ _ rfl hr e0
      (bind s (.ref a)) (.cons rfl .nil) (hsp H sq)
    refine codeAny_mono ran fun r s' h => ?_
    match r, h with
    | .error _, h => exact (show False from h).elim
    | .ok .next, h => exact (show False from h).elim
    | .ok .brk, h => exact (show False from h).elim
    | .ok .cont, h => exact (show False from h).elim
    | .ok (.ret u), ⟨v, H', os, bare, un, hok', r', q⟩ =>
      have q' : v = .bl true := q
      subst q'
      obtain rfl : u = Value.bool true := r'
      refine ⟨rfl, OldK.of_keep fun b o e => ?_, os, bare⟩
      rcases only b with z | ⟨_, ob, xs, z⟩
      · exact un.keep b o e z (by intro y; exact absurd (show b ∈ ([] : List Addr) from y) (by simp)) (by simp)
      · obtain ⟨e1, _⟩ := hok b _ z
        obtain ⟨e2, _⟩ := hok' b _ (un.frzs b ob _ z)
        rw [e] at e1
        cases e1
        exact e2
  cases hk : K.lookup a with
  | some o =>
    have e := kin a o hk
    rw [ha] at e
    cases e
    refine main (fun _ => none) (fun _ => .inl rfl) (.inr ⟨_, vs.toArray, _, hk, rfl, rfl, rfl, ?_, by simpa using rv⟩) (fun b u z => nomatch z) fun z => absurd rfl z
    rw [List.size_toArray, lenV]
    exact hl
  | none =>
    refine main (fun b => if b = a then some (.frz { cls := .type "list", data := .seq vs.toArray } (.lst (ns.map V.int))) else none) (fun b => ?_) (.inl (.inr ⟨_, if_pos rfl⟩)) (fun b u z => ?_) fun _ => hk
    · by_cases hb : b = a
      · exact .inr ⟨hb, _, _, if_pos hb⟩
      · exact .inl (if_neg hb)
    · by_cases hb : b = a
      · have z' := (if_pos hb).symm.trans z
        cases z'
        subst hb
        exact ⟨ha, by rw [List.length_map]; exact hl, vs, _, rv, ha⟩
      · have z' := (if_neg hb).symm.trans z
        cases z'

/-- the goal that the head leaves -/
theorem walkG {l : PySem.W.OpenLaw} {n k : Nat} {q : Program} {loose : List Str} {XP : (Str → Option Value) → Heap → Prop} {YP : World → Heap → Prop} {d : DefRec} {K : Params → PySem.W.Frag} {sp : PySem.W.Frag → Sp} {x : Str}
    (hn : l.most = some n) (hn2 : n ≤ sizeLine) (hdf : d.params.defaults = []) (hr : Room k callerA) (hY : ∀ (w : World) (h : Heap), YP w h → (K w.params).In h)
    (F : ∀ (w : World) (mg : Str → Option Value) (fa : Addr) (h : Heap), (K w.params).In h → h.Ns mainGlobals mg → mg d.name = some (.ref fa) → ∃ fd : FuncData, (∀ (s : Shared) (u : Value), BindsTo s fd ⟨[u], []⟩ [(x, u)]) ∧
      ∀ base : Heap, (K w.params).In base → base.Ns mainGlobals mg → FnG l.prog w (K w.params) mg base k fa fd [x] (sp (K w.params)))
    (hsp : ∀ (K : PySem.W.Frag) (H : Hp) (a : Addr) (ns : List Int), ns.length ≤ n → SqL K H a (ns.map V.int) → sp K [.ref a] H (fun v _ => v = .bl true) fun _ _ _ => False) :
    PySem.W.WalkO q loose XP YP l.row.toRowW d [] (fun f vs => PySem.call f vs) := by
  refine Att.attach_call hn hdf fun w s₀ s₁ mg mb fa o pm cd doc a vs ns G Y ho hd hcd hmg hobj hints hlen hg => ?_
  obtain ⟨fd, hb, hF⟩ := F w mg fa _ (hY w _ Y) G.T.g hmg
  exact callG (hY w _ Y) G.T.g G.T.b G.T.builtins G.T.nolimit hg hobj hints (Nat.le_trans hlen hn2) hr hF hb fun H hS => hsp _ H a ns hlen hS
end Lw
set_option Elab.async false
set_option maxRecDepth 100000
/-! What the drawn numbers stand in, and small lemmas about lists of ints in the heap. -/
namespace Lw
open PySem L2

/-- all that was tracked but p is as it was -/
def SameX (p : Addr) (H H' : Hp) : Prop := ∀ b o, H b = some o → b ≠ p → H' b = some o
theorem SameX.refl (p : Addr) (H : Hp) : SameX p H H := fun _ _ h _ => h
theorem SameX.trans {p : Addr} {H H1 H2 : Hp} (a : SameX p H H1) (b : SameX p H1 H2) : SameX p H H2 := fun c o h n => b c o (a c o h n) n
theorem SameX.of {p : Addr} {H H1 : Hp} (a : Same H H1) : SameX p H H1 := fun c o h _ => a c o h
theorem SameX.upd {p : Addr} {H : Hp} {o : HO} : SameX p H (upd H p o) := fun c o h n => by rw [upd_ne n]; exact h
theorem same_new {H : Hp} {q : Addr} {o : HO} (h : H q = none) : Same H (upd H q o) := fun c o' e => by rw [upd_ne (ne_of_none e h)]; exact e

abbrev kvP (c : Addr) (s m : Int) : List (Key × V) := [((.inr "cells" : Key), V.ref c), (.inr "spot", V.int s), (.inr "more", V.int m)]
theorem n_cs : ¬ (("cells" : Str) = "spot") := by decide +kernel
theorem n_cm : ¬ (("cells" : Str) = "more") := by decide +kernel
theorem n_sm : ¬ (("spot" : Str) = "more") := by decide +kernel
theorem n_ms : ¬ (("more" : Str) = "spot") := by decide +kernel
theorem v_cells (c : Addr) (s m : Int) : valV (kvP c s m) (.inr "cells") = some (.ref c) := by
  unfold valV kvP
  simp
theorem v_spot (c : Addr) (s m : Int) : valV (kvP c s m) (.inr "spot") = some (.int s) := by
  unfold valV kvP
  rw [List.find?_cons_of_neg (by simpa using n_cs)]
  simp
theorem v_more (c : Addr) (s m : Int) : valV (kvP c s m) (.inr "more") = some (.int m) := by
  unfold valV kvP
  rw [List.find?_cons_of_neg (by simpa using n_cm), List.find?_cons_of_neg (by simpa using n_sm)]
  simp
theorem p_spot (c : Addr) (s m t : Int) : putK (kvP c s m) (.inr "spot") (.int t) = kvP c t m := by
  simp [kvP, putK, n_cs, n_ms]
theorem p_more (c : Addr) (s m t : Int) : putK (kvP c s m) (.inr "more") (.int t) = kvP c s t := by
  simp [kvP, putK, n_cm, n_sm]

/-- the pen at p, its cells at c, at most N numbers drawn -/
def PenAt (H : Hp) (p c : Addr) (N : Nat) : Prop :=
  ∃ (ns : List Int) (s m : Int), H p = some (.dK (kvP c s m)) ∧ H c = some (.lst (ns.map V.int)) ∧ 0 ≤ s ∧ s ≤ N ∧ ns.length ≤ 63
section
variable {H H' : Hp} {p c q : Addr} {N M : Nat}
theorem PenAt.more (h : PenAt H p c N) (l : N ≤ M) : PenAt H p c M := by
  obtain ⟨ns, s, m, h1, h2, h3, h4, h5⟩ := h
  exact ⟨ns, s, m, h1, h2, h3, by omega, h5⟩
theorem PenAt.same (h : PenAt H p c N) (s : Same H H') : PenAt H' p c N := by
  obtain ⟨ns, z, m, h1, h2, h3⟩ := h
  exact ⟨ns, z, m, s _ _ h1, s _ _ h2, h3⟩
theorem PenAt.upd {o : HO} (h : PenAt H p c N) (n1 : q ≠ p) (n2 : q ≠ c) : PenAt (upd H q o) p c N := by
  obtain ⟨ns, z, m, h1, h2, h3⟩ := h
  exact ⟨ns, z, m, by rw [upd_ne n1.symm]; exact h1, by rw [upd_ne n2.symm]; exact h2, h3⟩
theorem PenAt.ne {o : HO} (h : PenAt H p c N) (e : H q = some o) (no : ∀ kvs, o ≠ .dK kvs) : q ≠ p := by
  obtain ⟨ns, z, m, h1, _⟩ := h
  intro z
  rw [z, h1] at e
  exact no _ (Option.some.inj e).symm
theorem PenAt.new (h : PenAt H p c N) (e : H q = none) : q ≠ p := by
  obtain ⟨ns, z, m, h1, _⟩ := h
  intro z
  rw [z, h1] at e
  cases e
theorem PenAt.newC (h : PenAt H p c N) (e : H q = none) : q ≠ c := by
  obtain ⟨ns, z, m, _, h1, _⟩ := h
  intro z
  rw [z, h1] at e
  cases e
/-- a tracked list, tuple stays where just the pen changes -/
theorem SameX.lst {xs : List V} (s : SameX p H H') (h : PenAt H p c N) (e : H q = some (.lst xs)) : H' q = some (.lst xs) := s _ _ e (h.ne e fun _ => nofun)
theorem SameX.tup {xs : List V} (s : SameX p H H') (h : PenAt H p c N) (e : H q = some (.tup xs)) : H' q = some (.tup xs) := s _ _ e (h.ne e fun _ => nofun)
theorem SameX.free (s : SameX p H H') (h : PenAt H' p c N) (e : H' q = none) : H q = none := by
  cases z : H q with
  | none => rfl
  | some o =>
    rw [s _ _ z (h.new e)] at e
    cases e
/-- a new thing is changed -/
theorem SameX.new {o : HO} (s : SameX p H H') (e : H q = none) : SameX p H (L2.upd H' q o) := fun b u h n => by
  rw [upd_ne (ne_of_none h e)]
  exact s b u h n
end

/-! ### where ways meet -/
theorem set_cut {te : TE} {g : TG} {D : Ends} {σ : St} {H : Hp} (P : V → Hp → Prop) (h : ∀ Q : VK, (∀ v H', P v H' → Q v H') → te σ H Q) (k : ∀ v H', P v H' → g v σ H' D.nx) : tAsg te g D σ H := h _ k
theorem seq_cut {t u : TS} {D : Ends} {σ : St} {H : Hp} (P : St → Hp → Prop) (h : ∀ N : St → Hp → Prop, (∀ σ' H', P σ' H' → N σ' H') → t { D with nx := N } σ H) (k : ∀ σ' H', P σ' H' → u D σ' H') : tSeq t u D σ H := h _ k
theorem seq_set_cut {te : TE} {g : TG} {u : TS} {D : Ends} {σ : St} {H : Hp} (P : V → Hp → Prop) (h : ∀ Q : VK, (∀ v H', P v H' → Q v H') → te σ H Q) (k : ∀ v H', P v H' → g v σ H' (u D)) : tSeq (tAsg te g) u D σ H := h _ k
theorem fmod_lo (a : Int) {b : Int} (h : 0 < b) : 0 ≤ a.fmod b := Int.fmod_nonneg_of_pos a h
theorem fmod_hi (a : Int) {b : Int} (h : 0 < b) : a.fmod b < b := Int.fmod_lt_of_pos a h
theorem at_int {ns : List Int} {i : Int} (h0 : 0 ≤ i) (h1 : i < ns.length) : ∃ z, atI (ns.map V.int) i = some (.int z) := by
  obtain ⟨n, rfl⟩ := Int.eq_ofNat_of_zero_le h0
  have hn : n < ns.length := by omega
  exact ⟨ns[n], atI_nat (by simp [hn])⟩
theorem dp_ints {K : PySem.W.Frag} {H : Hp} : ∀ ns : List Int, DpAll K H (ns.map V.int) (ns.map PyData.int)
  | [] => .nil
  | n :: ns => .cons (.int n) (dp_ints ns)
theorem dp_list {K : PySem.W.Frag} {H : Hp} {a : Addr} {ns : List Int} (h : H a = some (.lst (ns.map V.int))) : Dp K H (.ref a) (.list (ns.map PyData.int)) := .lst (SqL.of h) (dp_ints ns)
theorem dp_tup {K : PySem.W.Frag} {H : Hp} {a : Addr} {ns : List Int} (h : H a = some (.tup (ns.map V.int))) : Dp K H (.ref a) (.tuple (ns.map PyData.int)) := .tup (SqT.of h) (dp_ints ns)
theorem depth_ints : ∀ ns : List Int, PyData.depthAll (ns.map PyData.int) = 0
  | [] => by simp [PyData.depthAll]
  | n :: ns => by simp [PyData.depthAll, PyData.depth, depth_ints ns]
theorem lay_ints : ∀ ns : List Int, PyData.canLayAll0 (ns.map PyData.int) = true
  | [] => by simp [PyData.canLayAll0]
  | n :: ns => by simp [PyData.canLayAll0, PyData.canLay0, lay_ints ns]
theorem shaped_list (ns : List Int) : SeqAt.shaped (.list (ns.map PyData.int)) = true := by
  simp [SeqAt.shaped, PyData.canLay0, lay_ints, PyData.depth, depth_ints]
theorem shaped_tup (ns : List Int) : SeqAt.shaped (.tuple (ns.map PyData.int)) = true := by
  simp [SeqAt.shaped, PyData.canLay0, lay_ints, PyData.depth, depth_ints]
theorem eqv_ints : ∀ ns ms : List Int, PyData.eqvAll (ns.map PyData.int) (ms.map PyData.int) = decide (ns = ms)
  | [], [] => by simp [PyData.eqvAll]
  | [], _ :: _ => by simp [PyData.eqvAll]
  | _ :: _, [] => by simp [PyData.eqvAll]
  | n :: ns, m :: ms => by
    have e : PyData.eqv (PyData.int n) (PyData.int m) = decide (n = m) := by
      simp only [PyData.eqv]
      by_cases h : n = m <;> simp [h]
    simp only [List.map_cons, PyData.eqvAll, e, eqv_ints ns ms, List.cons.injEq, Bool.decide_and]
theorem eqv_list (ns ms : List Int) : PyData.eqv (.list (ns.map PyData.int)) (.list (ms.map PyData.int)) = decide (ns = ms) := by
  simp only [PyData.eqv, eqv_ints]
theorem eqv_tup (ns ms : List Int) : PyData.eqv (.tuple (ns.map PyData.int)) (.tuple (ms.map PyData.int)) = decide (ns = ms) := by
  simp only [PyData.eqv, eqv_ints]
end Lw
set_option linter.all false
/-! Rows of runners as lists of ints: passes, words, orders. Core Lean alone. -/
namespace Lw
/-- a pass at the k-th place -/
def sw : List Int → Nat → List Int
  | a :: b :: l, 0 => b :: a :: l
  | a :: l, k + 1 => a :: sw l k
  | l, _ => l
def run (l : List Int) (w : List Int) : List Int := w.foldl (fun l k => sw l k.toNat) l
def idl (n : Nat) : List Int := (List.range n).map fun (i : Nat) => (i : Int)
def OkW (n : Nat) (w : List Int) : Prop := ∀ k ∈ w, 0 ≤ k ∧ k + 1 < n

theorem sw_len : ∀ (l : List Int) (k : Nat), (sw l k).length = l.length
  | [], 0 => rfl
  | [], _ + 1 => rfl
  | [_], 0 => rfl
  | _ :: _ :: _, 0 => rfl
  | a :: l, k + 1 => by simp [sw, sw_len l k]
theorem run_len (l : List Int) : ∀ w : List Int, (run l w).length = l.length := by
  intro w
  unfold run
  induction w generalizing l with
  | nil => rfl
  | cons k w ih => rw [List.foldl_cons, ih, sw_len]
theorem run_nil (l : List Int) : run l [] = l := rfl
theorem run_cons (l : List Int) (k : Int) (w : List Int) : run l (k :: w) = run (sw l k.toNat) w := rfl
theorem run_append (l : List Int) (v w : List Int) : run l (v ++ w) = run (run l v) w := by unfold run; rw [List.foldl_append]
theorem run_snoc (l : List Int) (w : List Int) (k : Int) : run l (w ++ [k]) = sw (run l w) k.toNat := by rw [run_append]; rfl
theorem sw_perm : ∀ (l : List Int) (k : Nat), (sw l k).Perm l
  | [], 0 => .refl _
  | [], _ + 1 => .refl _
  | [_], 0 => .refl _
  | a :: b :: l, 0 => .swap a b l
  | a :: l, k + 1 => by
    have h : sw (a :: l) (k + 1) = a :: sw l k := by simp [sw]
    rw [h]
    exact (sw_perm l k).cons a
theorem run_perm (l w : List Int) : (run l w).Perm l := by
  induction w generalizing l with
  | nil => exact .refl _
  | cons k w ih => rw [run_cons]; exact (ih _).trans (sw_perm _ _)
theorem sw_map (g : Int → Int) : ∀ (l : List Int) (k : Nat), sw (l.map g) k = (sw l k).map g
  | [], 0 => rfl
  | [], _ + 1 => rfl
  | [_], 0 => rfl
  | _ :: _ :: _, 0 => rfl
  | a :: l, k + 1 => by simp [sw, sw_map g l k]
theorem run_map (g : Int → Int) (l w : List Int) : run (l.map g) w = (run l w).map g := by
  induction w generalizing l with
  | nil => rfl
  | cons k w ih => rw [run_cons, run_cons, sw_map, ih]
theorem sw_sw : ∀ (l : List Int) (k : Nat), sw (sw l k) k = l
  | [], 0 => rfl
  | [], _ + 1 => rfl
  | [_], 0 => rfl
  | _ :: _ :: _, 0 => rfl
  | a :: l, k + 1 => by simp [sw, sw_sw l k]
theorem run_back (l w : List Int) : run (run l w) w.reverse = l := by
  induction w generalizing l with
  | nil => rfl
  | cons k w ih => rw [run_cons, List.reverse_cons, run_snoc, ih, sw_sw]
theorem sw_at : ∀ (A : List Int) (a b : Int) (R : List Int), sw (A ++ a :: b :: R) A.length = A ++ b :: a :: R
  | [], _, _, _ => rfl
  | x :: A, a, b, R => by simp [sw, sw_at A a b R]
theorem split2 {l : List Int} {k : Nat} (h : k + 1 < l.length) : ∃ A a b R, l = A ++ a :: b :: R ∧ A.length = k := by
  refine ⟨l.take k, l[k], l[k + 1], l.drop (k + 2), ?_, by rw [List.length_take]; omega⟩
  rw [List.getElem_cons_drop h, List.getElem_cons_drop (by omega), List.take_append_drop]
/-- the pass as slices tell it -/
theorem sw_cut {l : List Int} {k : Nat} {a b : Int} (ha : l[k]? = some a) (hb : l[k + 1]? = some b) : l.take k ++ b :: a :: l.drop (k + 2) = sw l k := by
  have h : k + 1 < l.length := (List.getElem?_eq_some_iff.mp hb).1
  obtain ⟨A, x, y, R, rfl, rfl⟩ := split2 h
  have e1 : x = a := by simpa using ha
  have e2 : y = b := by simpa [List.getElem?_append_right] using hb
  subst e1 e2
  rw [sw_at]
  simp [List.drop_append]
/-- .. as two stores tell it -/
theorem sw_set {l : List Int} {k : Nat} {a b : Int} (ha : l[k]? = some a) (hb : l[k + 1]? = some b) : (l.set k b).set (k + 1) a = sw l k := by
  have h : k + 1 < l.length := (List.getElem?_eq_some_iff.mp hb).1
  obtain ⟨A, x, y, R, rfl, rfl⟩ := split2 h
  have e1 : x = a := by simpa using ha
  have e2 : y = b := by simpa [List.getElem?_append_right] using hb
  subst e1 e2
  rw [sw_at]
  simp [List.set_append]

theorem erase_perm {l : List Int} {j : Nat} (h : j < l.length) : (l[j] :: l.eraseIdx j).Perm l := by
  have e : l = l.take j ++ l[j] :: l.drop (j + 1) := by rw [List.getElem_cons_drop h, List.take_append_drop]
  have e2 : l.eraseIdx j = l.take j ++ l.drop (j + 1) := List.eraseIdx_eq_take_drop_succ l j
  rw [e2]
  conv => rhs; rw [e]
  exact List.perm_middle.symm
theorem erase_map {α β : Type} (f : α → β) (l : List α) (j : Nat) : (l.map f).eraseIdx j = (l.eraseIdx j).map f := by
  rw [List.eraseIdx_eq_take_drop_succ, List.eraseIdx_eq_take_drop_succ, List.map_append, List.map_take, List.map_drop]
theorem idl_len (n : Nat) : (idl n).length = n := by simp [idl]
theorem idl_get {n i : Nat} (h : i < n) : (idl n)[i]? = some (i : Int) := by simp [idl, h]
theorem mem_idl {n : Nat} {x : Int} : x ∈ idl n ↔ 0 ≤ x ∧ x < n := by
  unfold idl
  rw [List.mem_map]
  constructor
  · rintro ⟨i, hi, rfl⟩
    have := List.mem_range.mp hi
    omega
  · rintro ⟨h0, h1⟩
    exact ⟨x.toNat, List.mem_range.mpr (by omega), by omega⟩
theorem idl_nodup (n : Nat) : (idl n).Nodup := by
  unfold idl
  rw [List.nodup_iff_pairwise_ne, List.pairwise_map]
  exact (List.nodup_iff_pairwise_ne.mp List.nodup_range).imp (by intro a b h e; exact h (by omega))
theorem idl_succ (n : Nat) : idl (n + 1) = idl n ++ [(n : Int)] := by simp [idl, List.range_succ]
theorem idl_of {n : Nat} (p : List Int) (h : p.length = n) : (idl n).map (fun r => p.getD r.toNat 0) = p := by
  apply List.ext_getElem?
  intro i
  by_cases hi : i < n
  · rw [List.getElem?_map, idl_get hi]
    simp [List.getD_eq_getElem?_getD, List.getElem?_eq_getElem (h ▸ hi : i < p.length)]
  · rw [List.getElem?_eq_none (by rw [List.length_map, idl_len]; omega), List.getElem?_eq_none (by omega)]
/-- a word of the one, then one of the other -/
theorem run_join (n : Nat) (v w : List Int) : run (idl n) (v ++ w) = (run (idl n) w).map fun r => (run (idl n) v).getD r.toNat 0 := by
  rw [run_append, ← run_map, idl_of _ (by rw [run_len, idl_len])]
/-- the word from behind undoes it -/
theorem run_undo (n : Nat) (w : List Int) : (run (idl n) w.reverse).map (fun r => (run (idl n) w).getD r.toNat 0) = idl n := by
  rw [← run_join, run_append, run_back]

/-- orders of n runners -/
def Ord (n : Nat) (p : List Int) : Prop := p.Perm (idl n)
theorem Ord.len {n : Nat} {p : List Int} (h : Ord n p) : p.length = n := by rw [h.length_eq, idl_len]
theorem Ord.nodup {n : Nat} {p : List Int} (h : Ord n p) : p.Nodup := h.nodup_iff.mpr (idl_nodup n)
theorem Ord.mem {n : Nat} {p : List Int} (h : Ord n p) {x : Int} : x ∈ p ↔ 0 ≤ x ∧ x < n := by rw [h.mem_iff, mem_idl]
theorem ord_run (n : Nat) (w : List Int) : Ord n (run (idl n) w) := run_perm _ _
theorem ord_idl (n : Nat) : Ord n (idl n) := .refl _
/-- q undoes p -/
def Undoes (n : Nat) (p q : List Int) : Prop := q.length = n ∧ ∀ (i : Nat) (x : Int), q[i]? = some x → 0 ≤ x ∧ p[x.toNat]? = some (i : Int)
theorem undoes_run (n : Nat) (w : List Int) : Undoes n (run (idl n) w) (run (idl n) w.reverse) := by
  refine ⟨by rw [run_len, idl_len], fun i x hx => ?_⟩
  have hi : i < n := by
    have := (List.getElem?_eq_some_iff.mp hx).1
    rwa [run_len, idl_len] at this
  have hm : x ∈ run (idl n) w.reverse := List.mem_of_getElem? hx
  have hb := (ord_run n w.reverse).mem.mp hm
  refine ⟨hb.1, ?_⟩
  have e := congrArg (fun l => l[i]?) (run_undo n w)
  simp only [List.getElem?_map, hx, idl_get hi, Option.map_some, Option.some.injEq, List.getD_eq_getElem?_getD] at e
  have hl : x.toNat < (run (idl n) w).length := by rw [run_len, idl_len]; omega
  rw [List.getElem?_eq_getElem hl] at e ⊢
  simpa using e
theorem undoes_idx {n : Nat} {p : List Int} (h : Ord n p) : Undoes n p ((idl n).map fun i => ((p.idxOf i : Nat) : Int)) := by
  refine ⟨by rw [List.length_map, idl_len], fun i x hx => ?_⟩
  have hi : i < n := by
    have := (List.getElem?_eq_some_iff.mp hx).1
    rwa [List.length_map, idl_len] at this
  rw [List.getElem?_map, idl_get hi] at hx
  simp only [Option.map_some, Option.some.injEq] at hx
  subst hx
  have hm : (i : Int) ∈ p := h.mem.mpr ⟨by omega, by omega⟩
  refine ⟨by omega, ?_⟩
  rw [Int.toNat_natCast, List.getElem?_eq_getElem (List.idxOf_lt_length_of_mem hm), List.getElem_idxOf]
theorem Undoes.join {n : Nat} {p q : List Int} (h : Undoes n p q) : q.map (fun r => p.getD r.toNat 0) = idl n := by
  apply List.ext_getElem?
  intro i
  by_cases hi : i < n
  · have hq : i < q.length := by rw [h.1]; exact hi
    have e := (h.2 i q[i] (List.getElem?_eq_getElem hq)).2
    rw [List.getElem?_map, List.getElem?_eq_getElem hq, idl_get hi, Option.map_some, List.getD_eq_getElem?_getD, e]
    rfl
  · rw [List.getElem?_eq_none (by rw [List.length_map, h.1]; omega), List.getElem?_eq_none (by rw [idl_len]; omega)]

/-! ### the told form -/
/-- the lesser ones that stand behind r -/
def behind (d : List Int) (r : Int) : List Int := (d.drop (d.idxOf r)).filter fun x => decide (x < r)
def leads (d : List Int) (r : Int) : List Int := (idl (behind d r).length).map fun k => r - 1 - k
def formTo (d : List Int) : Nat → List Int
  | 0 => []
  | k + 1 => formTo d k ++ leads d ((k : Int) + 1)
def form (n : Nat) (d : List Int) : List Int := formTo d (n - 1)

theorem run_move (A : List Int) (x : Int) : ∀ (m : Nat) (B R : List Int), B.length = m → run (A ++ (B ++ x :: R)) ((idl m).map fun j => ((A.length + m : Nat) : Int) - 1 - j) = A ++ x :: (B ++ R) := by
  intro m
  induction m with
  | zero =>
    intro B R hB
    have : B = [] := List.length_eq_zero_iff.mp hB
    subst this
    simp [idl, run]
  | succ m ih =>
    intro B R hB
    have hne : B ≠ [] := by intro e; subst e; simp at hB
    obtain ⟨C, b, rfl⟩ : ∃ C b, B = C ++ [b] := ⟨B.dropLast, B.getLast hne, (List.dropLast_concat_getLast hne).symm⟩
    have hC : C.length = m := by simpa using hB
    have e1 : (idl (m + 1)).map (fun j => ((A.length + (m + 1) : Nat) : Int) - 1 - j) = ((A.length + m : Nat) : Int) :: (idl m).map fun j => ((A.length + m : Nat) : Int) - 1 - j := by
      unfold idl
      rw [List.range_succ_eq_map]
      simp only [List.map_cons, List.map_map]
      congr 1
      · omega
      · apply List.map_congr_left
        intro i _
        simp only [Function.comp]
        omega
    rw [e1, run_cons]
    have e2 : A ++ (C ++ [b] ++ x :: R) = (A ++ C) ++ b :: x :: R := by simp
    have e3 : ((A.length + m : Nat) : Int).toNat = (A ++ C).length := by rw [Int.toNat_natCast, List.length_append, hC]
    rw [e2, e3, sw_at, List.append_assoc, ih C (b :: R) hC]
    simp

theorem split_at {p : List Int} {x : Int} (hn : p.Nodup) (hm : x ∈ p) : ∃ A B, p = A ++ x :: B ∧ p.idxOf x = A.length ∧ x ∉ A ∧ x ∉ B := by
  have hl := List.idxOf_lt_length_of_mem hm
  have e : p = p.take (p.idxOf x) ++ x :: p.drop (p.idxOf x + 1) := by
    have h1 := List.getElem_cons_drop hl
    rw [List.getElem_idxOf] at h1
    rw [h1, List.take_append_drop]
  have hn' := hn
  rw [e] at hn'
  rw [List.nodup_append] at hn'
  refine ⟨_, _, e, by rw [List.length_take]; omega, fun q => hn'.2.2 x q x (by simp) rfl, fun q => ?_⟩
  exact (List.nodup_cons.mp hn'.2.1).1 q
/-- the lesser ones, as they stand -/
def low (d : List Int) (k : Int) : List Int := d.filter fun x => decide (x < k)
theorem low_len {n : Nat} {d : List Int} (h : Ord n d) {k : Nat} (hk : k ≤ n) : (low d k).length = k := by
  have e : (low d k).length = (low (idl n) k).length := (h.filter _).length_eq
  rw [e]
  have : low (idl n) k = idl k := by
    unfold low idl
    rw [List.filter_map]
    congr 1
    have : ∀ n, k ≤ n → (List.range n).filter ((fun x : Int => decide (x < (k : Int))) ∘ fun i : Nat => (i : Int)) = List.range k := by
      intro n hk
      induction n with
      | zero => have : k = 0 := by omega
                subst this; rfl
      | succ n ih =>
        by_cases e : k = n + 1
        · subst e
          apply List.filter_eq_self.mpr
          intro a ha
          have := List.mem_range.mp ha
          simp only [Function.comp, decide_eq_true_eq]
          omega
        · rw [List.range_succ, List.filter_append, ih (by omega)]
          simp only [Function.comp, List.filter_cons, List.filter_nil]
          rw [if_neg (by simp; omega), List.append_nil]
    exact this n hk
  rw [this, idl_len]
theorem formTo_run {n : Nat} {d : List Int} (h : Ord n d) : ∀ k : Nat, k + 1 ≤ n → run (idl n) (formTo d k) = low d ((k : Int) + 1) ++ ((List.range (n - (k + 1))).map fun i => ((k + 1 + i : Nat) : Int)) := by
  intro k
  induction k with
  | zero =>
    intro hk
    have h1 : (low d ((0 : Nat) + 1 : Int)).length = 1 := by have := low_len h (k := 1) hk; simpa using this
    have h2 : ∀ x ∈ low d ((0 : Nat) + 1 : Int), x = 0 := by
      intro x hx
      have hx' := List.mem_filter.mp hx
      have hb := h.mem.mp hx'.1
      have := of_decide_eq_true hx'.2
      omega
    have h3 : low d ((0 : Nat) + 1 : Int) = [0] := by
      match q : low d ((0 : Nat) + 1 : Int), h1, h2 with
      | [x], _, h2 => rw [h2 x (by simp)]
    rw [h3]
    obtain ⟨m, rfl⟩ : ∃ m, n = m + 1 := ⟨n - 1, by omega⟩
    simp only [formTo, run_nil, idl, List.range_succ_eq_map, List.map_cons, List.map_map]
    simp [Nat.add_comm]
  | succ k ih =>
    intro hk
    have i0 := ih (by omega)
    have hm : ((k : Int) + 1) ∈ d := h.mem.mpr ⟨by omega, by omega⟩
    obtain ⟨A, B, e, hi, hA, hB⟩ := split_at h.nodup hm
    have lowk : low d ((k : Int) + 1) = low A ((k : Int) + 1) ++ low B ((k : Int) + 1) := by
      rw [e]
      simp [low, List.filter_append, List.filter_cons]
    have keep : ∀ (C : List Int), ((k : Int) + 1) ∉ C → low C (((k + 1 : Nat) : Int) + 1) = low C ((k : Int) + 1) := by
      intro C hC
      unfold low
      apply List.filter_congr
      intro x hx
      have : x ≠ (k : Int) + 1 := fun q => hC (q ▸ hx)
      rw [decide_eq_decide]
      omega
    have lowk1 : low d (((k + 1 : Nat) : Int) + 1) = low A ((k : Int) + 1) ++ ((k : Int) + 1) :: low B ((k : Int) + 1) := by
      have e2 : low d (((k + 1 : Nat) : Int) + 1) = low A (((k + 1 : Nat) : Int) + 1) ++ low (((k : Int) + 1) :: B) (((k + 1 : Nat) : Int) + 1) := by
        rw [e]
        simp [low, List.filter_append]
      rw [e2, keep A hA]
      congr 1
      have e3 : low (((k : Int) + 1) :: B) (((k + 1 : Nat) : Int) + 1) = ((k : Int) + 1) :: low B (((k + 1 : Nat) : Int) + 1) := by
        unfold low
        rw [List.filter_cons, if_pos (by simp; omega)]
      rw [e3, keep B hB]
    have hbeh : behind d ((k : Int) + 1) = low B ((k : Int) + 1) := by
      unfold behind
      rw [hi, e]
      simp [low, List.filter_cons]
    have hlen : (low A ((k : Int) + 1)).length + (low B ((k : Int) + 1)).length = k + 1 := by
      have := low_len h (k := k + 1) (by omega)
      have e4 : low d ((k + 1 : Nat) : Int) = low d ((k : Int) + 1) := by congr 1
      rw [e4, lowk, List.length_append] at this
      exact this
    have hr : ((List.range (n - (k + 1))).map fun i => ((k + 1 + i : Nat) : Int)) = ((k : Int) + 1) :: ((List.range (n - (k + 1 + 1))).map fun i => ((k + 1 + 1 + i : Nat) : Int)) := by
      obtain ⟨m, hm⟩ : ∃ m, n - (k + 1) = m + 1 := ⟨n - (k + 1) - 1, by omega⟩
      have hm2 : n - (k + 1 + 1) = m := by omega
      rw [hm, hm2, List.range_succ_eq_map]
      simp only [List.map_cons, List.map_map]
      congr 1
      apply List.map_congr_left
      intro i _
      simp only [Function.comp]
      omega
    rw [formTo, run_append, i0, lowk, hr, leads, hbeh]
    have mv := run_move (low A ((k : Int) + 1)) ((k : Int) + 1) (low B ((k : Int) + 1)).length (low B ((k : Int) + 1)) ((List.range (n - (k + 1 + 1))).map fun i => ((k + 1 + 1 + i : Nat) : Int)) rfl
    have ew : (fun j : Int => (((low A ((k : Int) + 1)).length + (low B ((k : Int) + 1)).length : Nat) : Int) - 1 - j) = fun j => (k : Int) + 1 - 1 - j := by
      funext j
      rw [hlen]
      omega
    rw [ew] at mv
    rw [List.append_assoc, mv, lowk1, List.append_assoc]
    simp
theorem form_run {n : Nat} {d : List Int} (h : Ord n d) (hn : 1 ≤ n) : run (idl n) (form n d) = d := by
  have e := formTo_run h (n - 1) (by omega)
  have e2 : n - (n - 1 + 1) = 0 := by omega
  have e3 : low d (((n - 1 : Nat) : Int) + 1) = d := by
    apply List.filter_eq_self.mpr
    intro x hx
    have := h.mem.mp hx
    simp only [decide_eq_true_eq]
    omega
  rw [e2, e3] at e
  simpa [form] using e
theorem behind_len {n : Nat} {d : List Int} (h : Ord n d) {k : Nat} (hk : k + 1 < n + 1) : (behind d (k : Int)).length ≤ k := by
  have h1 : (behind d (k : Int)).length ≤ (low d (k : Int)).length := by
    unfold behind low
    exact ((List.drop_sublist _ _).filter _).length_le
  rw [low_len h (by omega)] at h1
  exact h1
theorem formTo_ok {n : Nat} {d : List Int} (h : Ord n d) : ∀ k : Nat, k + 1 ≤ n → OkW n (formTo d k) ∧ 2 * (formTo d k).length ≤ k * (k + 1) := by
  intro k
  induction k with
  | zero =>
    intro _
    refine ⟨fun x hx => ?_, by simp [formTo]⟩
    simp [formTo] at hx
  | succ k ih =>
    intro hk
    obtain ⟨h1, h2⟩ := ih (by omega)
    have hb : (behind d ((k : Int) + 1)).length ≤ k + 1 := by
      have := behind_len h (k := k + 1) (by omega)
      simpa using this
    refine ⟨fun x hx => ?_, ?_⟩
    · rw [formTo] at hx
      rcases List.mem_append.mp hx with q | q
      · exact h1 x q
      · unfold leads at q
        obtain ⟨j, hj, rfl⟩ := List.mem_map.mp q
        have := mem_idl.mp hj
        omega
    · rw [formTo, List.length_append]
      have : (leads d ((k : Int) + 1)).length ≤ k + 1 := by unfold leads; rw [List.length_map, idl_len]; exact hb
      have e : (k + 1) * (k + 1 + 1) = k * (k + 1) + 2 * (k + 1) := by
        rw [Nat.mul_add, Nat.add_mul, Nat.add_mul]
        omega
      omega
theorem form_ok {n : Nat} {d : List Int} (h : Ord n d) (hn : 1 ≤ n) (h60 : n ≤ 60) : OkW n (form n d) ∧ (form n d).length ≤ 1770 := by
  obtain ⟨h1, h2⟩ := formTo_ok h (n - 1) (by omega)
  refine ⟨h1, ?_⟩
  have : (n - 1) * (n - 1 + 1) ≤ 59 * 60 := Nat.mul_le_mul (by omega) (by omega)
  unfold form
  omega
end Lw
set_option Elab.async false
set_option maxRecDepth 100000
/-! Lists and tuples of ints at addresses: short readings. -/
namespace Lw
open PySem L2

/-- the def called x stands, and keeps its promise -/
def Has (P : Program) (w : World) (K : PySem.W.Frag) (mg : Str → Option Value) (base : Heap) (k : Nat) (x : Str) (ps : List Str) (sp : Sp) : Prop :=
  ∃ (f : Addr) (fd : FuncData), FnOk P w K mg base CX0 k f fd ps sp ∧ mg x = some (.ref f) ∧ PySem.W.keepIn K (.ref f) = true ∧ Binds K fd ps []
theorem ifF {b : Bool} {A B : Prop} (h : b = false) (hB : B) : if b = true then A else B := by subst h; exact iteF hB
theorem ifT {b : Bool} {A B : Prop} (h : b = true) (hA : A) : if b = true then A else B := by subst h; exact iteT hA
/-- the built-in names that the program leaves as they are -/
structure Bare (mg : Str → Option Value) : Prop where
  n_len : mg "len" = none
  n_list : mg "list" = none
  n_tuple : mg "tuple" = none
  n_range : mg "range" = none
  n_enumerate : mg "enumerate" = none
  n_isinstance : mg "isinstance" = none
  n_int : mg "int" = none
  n_bool : mg "bool" = none
  n_abs : mg "abs" = none
  n_repr : mg "repr" = none
/-- a tuple whose object is known: it has no dict of its own -/
def Tup (H : Hp) (a : Addr) (xs : List V) : Prop := ∃ o : Obj, H a = some (.frz o (.tup xs)) ∧ o.dict = none ∧ o.cls = .type "tuple"
theorem Tup.same {H H' : Hp} {a : Addr} {xs : List V} (h : Tup H a xs) (s : Same H H') : Tup H' a xs := by
  obtain ⟨o, e, r⟩ := h
  exact ⟨o, s _ _ e, r⟩
theorem Tup.sameX {H H' : Hp} {a p c : Addr} {N : Nat} {xs : List V} (h : Tup H a xs) (s : SameX p H H') (P : PenAt H p c N) : Tup H' a xs := by
  obtain ⟨o, e, r⟩ := h
  exact ⟨o, s _ _ e (P.ne e fun _ => nofun), r⟩
theorem Tup.t {K : PySem.W.Frag} {H : Hp} {a : Addr} {xs : List V} (h : Tup H a xs) : SqT K H a xs := by
  obtain ⟨o, e, _⟩ := h
  exact .inl (.inr ⟨o, e⟩)
theorem Tup.ty {K : PySem.W.Frag} {H : Hp} {a : Addr} {xs : List V} (h : Tup H a xs) : TyX K H (.ref a) (.type "tuple") := by
  obtain ⟨o, e, _⟩ := h
  exact .fTuple e
theorem Tup.ne {H : Hp} {a b : Addr} {xs : List V} {o : HO} (h : Tup H a xs) (e : H b = some o) (no : ∀ u v, o ≠ .frz u v) : a ≠ b := by
  obtain ⟨u, e', _⟩ := h
  intro z
  rw [z, e] at e'
  exact no _ _ (Option.some.inj e')
theorem Tup.neN {H : Hp} {a b : Addr} {xs : List V} (h : Tup H a xs) (e : H b = none) : a ≠ b := by
  obtain ⟨u, e', _⟩ := h
  exact ne_of_none e' e
/-- all but b as it was -/
theorem Tup.upd {H : Hp} {a b : Addr} {xs : List V} {o : HO} (h : Tup H a xs) (n : a ≠ b) : Tup (upd H b o) a xs := by
  obtain ⟨u, e, r⟩ := h
  exact ⟨u, by rw [upd_ne n]; exact e, r⟩
theorem dp_tupF {K : PySem.W.Frag} {H : Hp} {a : Addr} {ns : List Int} (h : Tup H a (ns.map V.int)) : Dp K H (.ref a) (.tuple (ns.map PyData.int)) := .tup h.t (dp_ints ns)
/-- a new one, or one that stood -/
abbrev GiveT (H : Hp) (xs : List V) (Q : VK) : Prop := ∀ r H', Same H H' → Tup H' r xs → Q (.ref r) H'
theorem laidT {X : Cx} {pins : List (Addr × Obj)} {σ : St} {H : Hp} {s : Shared} {xs : List V} {us : List Value} {t : Nat} (I : Inv X pins σ H s) (r : Vals xs us) (z : xs.length ≤ sizeLine) {Q : VK} (q : GiveT H xs Q) :
    EP X pins σ Q (.ref s.heap.objs.size) { s with heap := s.heap.push { cls := .type "tuple", data := .seq us.toArray }, toks := t } := by
  have fresh := I.hok.fresh (Nat.le_refl _)
  have look : (s.heap.push { cls := .type "tuple", data := .seq us.toArray }).get? s.heap.objs.size = some { cls := .type "tuple", data := .seq us.toArray } := Heap.get?_push_size _ rfl
  refine ⟨.ref s.heap.objs.size, _, I.laid (o := .frz { cls := .type "tuple", data := .seq us.toArray } (.tup xs)) (fun b u e => Heap.get?_push_of_some _ e) (Nat.le_refl _) ⟨look, z, us, r, _, look, rfl, _, rfl⟩, rfl, q _ _ (same_new fresh) ⟨_, upd_same, rfl, rfl⟩⟩
def tTupF (t : TA) : TE := fun σ H Q => t σ H fun xs H1 => xs.length ≤ sizeLine ∧ GiveT H1 xs Q
section
variable {X : Cx}
theorem pe_tupF {es : List Expr} {t : TA} {x1 : Nat} {pos : Pos} (h : PA X es t) : PE X (.Tuple es x1 pos) (tTupF t) := by
  refine ⟨fun pins s σ H Q I hq => ?_⟩
  exact wpAny_Tuple_spliced (thn (h.run pos pins s σ H _ I hq) fun us s1 ⟨xs, H1, I1, r, z, q⟩ => ⟨by rw [← r.length]; exact z, laidT (t := s1.toks) I1 r z q⟩)
def rTupleF (K : PySem.W.Frag) : List V → Hp → VK → Prop := fun xs H Q => ∃ p ys, xs = [.ref p] ∧ (SqL K H p ys ∨ Tup H p ys) ∧ GiveT H ys Q
theorem call_tupleF {K : PySem.W.Frag} (h : X.K = K) : CallR X (.type "tuple") (rTupleF K) := by
  subst h
  intro pins s σ H xs us Q I r h
  obtain ⟨p, ys, rfl, h, q⟩ := h
  obtain ⟨u, rfl, rx⟩ := vals1 r
  cases rx
  rcases h with hq | hq
  · obtain ⟨its, r', pl, hz⟩ := I.list hq
    refine call_tuple_list pl.isList (fun h' kp => ?_) (by simp only [List.size_toArray]; have := r'.length; omega)
    have q' : GiveT H ys Q := q
    exact laidT (s := { s with heap := h' }) (t := s.toks) (I.kept (t' := s.toks) kp) r' hz q'
  · obtain ⟨its, r', pl, hz⟩ := I.tuple (hq.t (K := X.K))
    exact call_tuple_same pl ⟨.ref p, H, I, rfl, q p H (Same.refl _) hq⟩
def rCatF : R2 := fun x y H Q => ∃ a b xs ys, x = .ref a ∧ y = .ref b ∧ Tup H a xs ∧ Tup H b ys ∧ xs.length + ys.length ≤ sizeLine ∧ GiveT H (xs ++ ys) Q
theorem op_catF : OpR X (binaryOp .Add) rCatF := by
  intro pins s σ H x y v u Q I rx ry h
  obtain ⟨a, b, xs, ys, rfl, rfl, ha, hb, hz, q⟩ := h
  cases rx
  cases ry
  obtain ⟨its, r1, p1, _⟩ := I.tuple (ha.t (K := X.K))
  obtain ⟨its2, r2, p2, _⟩ := I.tuple (hb.t (K := X.K))
  by_cases hx : xs = []
  · subst hx
    cases r1
    exact cat_tup0 p1 p2 ⟨.ref b, H, I, rfl, q b H (Same.refl _) hb⟩
  · refine HT.cat_tup p1 p2 (fun z => hx (r1.nil_iff.mp z)) (fun z => ⟨.ref a, H, I, rfl, q a H (Same.refl _) ?_⟩) (fun z => ?_) (by rw [← r1.length, ← r2.length]; exact hz)
    · rw [r2.nil_iff.mp z, List.append_nil]
      exact ha
    · exact laidT (t := s.toks) I (r1.append r2) (by rw [List.length_append]; exact hz) q
theorem cutV_whole {xs : List V} {lo hi : Option Int} (h : HT.sIx xs.length 0 lo = 0 ∧ HT.sIx xs.length xs.length hi = xs.length) : cutV xs lo hi = xs := by
  unfold cutV
  rw [h.1, h.2, Nat.sub_zero, List.drop_zero]
  exact List.take_of_length_le (Nat.le_refl _)
def rSlF : V → Option Int → Option Int → Hp → VK → Prop := fun x lo hi H Q => ∃ a xs, x = .ref a ∧ Tup H a xs ∧ GiveT H (cutV xs lo hi) Q
theorem sl_tupF : SlR X rSlF := by
  intro pins s σ H x v vl vu lo hi sl Q I rx hs pl pu h
  obtain ⟨a, xs, rfl, hx, q⟩ := h
  cases rx
  obtain ⟨its, r, ht, hz⟩ := I.tuple (hx.t (K := X.K))
  have hlen : its.toArray.size = xs.length := by rw [List.size_toArray]; exact r.length.symm
  refine ⟨"tuple", _, PyProof.Rows.slot_tuple_getitem.lookup, ht.typeIs, ?_⟩
  by_cases hw : HT.sIx xs.length 0 lo = 0 ∧ HT.sIx xs.length xs.length hi = xs.length
  · exact getItem_tuple_whole ht hs pl pu (by rw [hlen]; exact hw) ⟨.ref a, H, I, rfl, q a H (Same.refl _) (by rw [cutV_whole hw]; exact hx)⟩
  · refine HT.getItem_tuple_cut ht hs pl pu (by rw [hlen]; exact hw) ?_ (by rw [hlen]; exact hz)
    rw [hlen]
    exact laidT (t := s.toks) I ((r.drop (HT.sIx xs.length 0 lo)).take (HT.sIx xs.length xs.length hi - HT.sIx xs.length 0 lo)) (Nat.le_trans (cutV_length xs lo hi) hz) q
def tTupRgF (te : St → Hp → (Int → Int → Hp → Prop) → Prop) : TE := fun σ H Q => te σ H fun a b H1 => RgOk a b ∧ GiveT H1 (rgV a b) Q
theorem pe_tupRgF {e : Expr} {te : St → Hp → (Int → Int → Hp → Prop) → Prop} {p pos : Pos} (hc : X.calm = true) (hg : Gl X "tuple") (hm : X.mg "tuple" = none) (he : PRg X e te)
    (na : starEach [e] X.env = (false, eval e X.env) :: starEach [] X.env := by rfl) : PE X (.Call (.Name "tuple" p) [e] [] pos) (tTupRgF te) := by
  refine ⟨fun pins s σ H Q I h => ?_⟩
  refine PyProof.Rows.Call_ (ld_blt I hg hm PyProof.Rows.boot_tuple (PyProof.Rows.callWith_type1 (PyProof.Rows.args_cons (thn (he pins s σ H _ I h) fun x s1 ⟨r, a, b, t, u, v, H1, ex, hr, I1, ok, q⟩ => PyProof.Rows.args_nil ?_) na) na))
  subst ex
  obtain ⟨b1, b2, b3, b4, b5⟩ := ok
  refine call_tuple_range (n := (b - a).toNat) (I1.ok.hd hc) hr (small_one b1 b2 b3 b4) (PyProof.Rows.rangeSize_nat a b) b5 fun h' tk acc hk hi => ?_
  have fin := laidT (s := { s1 with heap := h', toks := tk }) (t := tk) (us := acc.toList) (I1.kept hk) (vals_rg hi) (by rw [rgV_length, sizeLine_eq]; omega) q
  rw [Array.toArray_toList] at fin
  exact fin
/-! methods of such a tuple -/
def tBMT (r : V → List V → Hp → VK → Prop) (to : TE) (t : TA) : TE := fun σ H Q => to σ H fun x H1 => (∃ a xs, x = .ref a ∧ Tup H1 a xs) ∧ t σ H1 fun xs H2 => r x xs H2 Q
theorem pe_bmT {o e : Expr} {es : List Expr} {to : TE} {t : TA} {name : Str} {apos cpos : Pos} {id : String} {r : V → List V → Hp → VK → Prop} (slot : Slot "tuple" name id) (hty : typeOf (.builtin id) = pure (.type "method_descriptor")) (hm : MtR X id r) (ho : PE X o to) (ha : PA X (e :: es) t)
    (hbase : attributeBase o name X.env (eval o X.env) = eval o X.env := by rfl)
    (hfew : ((backTo cpos (starEach (e :: es) X.env)).all (fun x => !x.1) && (backToKw cpos (keywordEach [] X.env)).all (fun x => x.1.isSome)
      && decide ((e :: es).length + ([] : List Keyword).length + (if ([] : List Keyword).isEmpty then 0 else 1) < 30)) = true := by rfl)
    (hline : (apos.endLine == cpos.line) = true := by rfl) (hs : starEach (e :: es) X.env = (false, eval e X.env) :: starEach es X.env := by rfl) (hplain : (backTo cpos (starEach es X.env)).any (·.1) = false := by rfl) :
    PE X (.Call (.Attribute o name apos) (e :: es) [] cpos) (tBMT r to t) := by
  refine ⟨fun pins s σ H Q I h => ?_⟩
  refine wpAny_Call_method_late hbase hfew hline rfl (thn (ho.run pins s σ H _ I h) fun v s1 ⟨x, H1, I1, r1, ⟨a, ys, ex, hT⟩, q1⟩ => ?_)
  subst ex
  cases r1
  obtain ⟨ob, eo, hd, hc⟩ := hT
  have here : s1.heap.get? a = some ob := (show ObjOk X.prog X.w H1 s1.heap a (.frz ob (.tup ys)) from I1.hok a _ eo).1
  refine ⟨"tuple", id, PySem.F.plainAttrs_tuple, slot, hty, ⟨ob, here, hc⟩, fun b z => ?_, ?_⟩
  · cases z
    exact ⟨ob, here, hd⟩
  · have hA := ha.run cpos pins s1 σ H1 _ I1 q1
    rw [hs] at hA ⊢
    refine Calls.callWith_builtin ?_ (Calls.evalArgs_plain ?_)
    · show (false || (backTo cpos (starEach es X.env)).any (·.1)) = false
      rw [hplain]
      rfl
    · exact thn hA fun us s2 ⟨vs, H2, I2, r2, q2⟩ => hm pins s2 σ H2 (.ref a) vs (.ref a) us Q I2 rfl r2 q2
end

/-- a list or a tuple of xs, tracked -/
def Sq (H : Hp) (a : Addr) (xs : List V) : Prop := H a = some (.lst xs) ∨ Tup H a xs
theorem Sq.same {H H' : Hp} {a : Addr} {xs : List V} (h : Sq H a xs) (s : Same H H') : Sq H' a xs := h.imp (s _ _) fun t => t.same s
theorem Sq.sameX {H H' : Hp} {a p c : Addr} {N : Nat} {xs : List V} (h : Sq H a xs) (s : SameX p H H') (P : PenAt H p c N) : Sq H' a xs := h.imp (s.lst P) fun t => t.sameX s P
theorem Sq.lt {K : PySem.W.Frag} {H : Hp} {a : Addr} {xs : List V} (h : Sq H a xs) : SqL K H a xs ∨ SqT K H a xs := h.imp SqL.of fun t => t.t
theorem Sq.lf {K : PySem.W.Frag} {H : Hp} {a : Addr} {xs : List V} (h : Sq H a xs) : SqL K H a xs ∨ Tup H a xs := h.imp SqL.of id
theorem Sq.ty {K : PySem.W.Frag} {H : Hp} {a : Addr} {xs : List V} (h : Sq H a xs) : TyX K H (.ref a) (.type "list") ∨ TyX K H (.ref a) (.type "tuple") := h.imp (fun e => .base (.lst e)) fun t => t.ty
theorem sl_seqF {X : Cx} {K : PySem.W.Frag} (h : X.K = K) : SlR X (fun x lo hi H Q => rSlL K x lo hi H Q ∨ rSlF x lo hi H Q) := by
  subst h
  exact sl_list.or sl_tupF
/-- a slice of either: a list or a tuple again -/
theorem sl_by {K : PySem.W.Frag} {a : Addr} {xs : List V} {lo hi : Option Int} {H : Hp} {Q : VK} (h : Sq H a xs) (k : ∀ r H', Same H H' → Sq H' r (cutV xs lo hi) → Q (.ref r) H') : rSlL K (.ref a) lo hi H Q ∨ rSlF (.ref a) lo hi H Q := by
  rcases h with h | h
  · exact .inl ⟨a, xs, rfl, SqL.of h, fun p np => k p _ (same_new np) (.inl upd_same)⟩
  · exact .inr ⟨a, xs, rfl, h, fun r H' s t => k r H' s (.inr t)⟩
theorem sIx_nat' (n d k : Nat) (h : k ≤ n) : HT.sIx n d (some (k : Int)) = k := by rw [HT.sIx_nat]; omega
theorem cut_to {ns : List Int} {k : Nat} (h : k ≤ ns.length) : cutV (ns.map V.int) none (some (k : Int)) = (ns.take k).map V.int := by
  unfold cutV
  rw [sIx_nat' _ _ _ (by rw [List.length_map]; exact h), HT.sIx_none, Nat.sub_zero, List.drop_zero, List.map_take]
theorem cut_from {ns : List Int} {k : Nat} (h : k ≤ ns.length) : cutV (ns.map V.int) (some (k : Int)) none = (ns.drop k).map V.int := by
  unfold cutV
  rw [sIx_nat' _ _ _ (by rw [List.length_map]; exact h), HT.sIx_none, List.map_drop]
  exact List.take_of_length_le (by simp)
theorem rg_idl (n : Nat) : rgV 0 (n : Int) = (idl n).map V.int := by
  unfold rgV idl
  rw [List.map_map]
  have : ((n : Int) - 0).toNat = n := by omega
  rw [this]
  apply List.map_congr_left
  intro i _
  simp
theorem at_int' {ns : List Int} {i : Nat} {z : Int} (h : ns[i]? = some z) : atI (ns.map V.int) (i : Int) = some (.int z) := atI_nat (by rw [List.getElem?_map, h]; rfl)
theorem map_get {ns : List Int} {i : Nat} {v : V} (h : (ns.map V.int)[i]? = some v) : ∃ z, ns[i]? = some z ∧ v = .int z := by
  rw [List.getElem?_map] at h
  cases e : ns[i]? with
  | none => rw [e] at h; cases h
  | some z => rw [e] at h; exact ⟨z, rfl, (Option.some.inj h).symm⟩
theorem flat_ints (ns : List Int) : (ns.map V.int).all flatV = true := by
  rw [List.all_map]
  exact List.all_eq_true.mpr fun _ _ => rfl
theorem inV_int (z : Int) (ns : List Int) : inV (.int z) (ns.map V.int) = decide (z ∈ ns) := by
  unfold inV
  rw [List.any_map]
  induction ns with
  | nil => simp
  | cons n ns ih =>
    have e : eqV (V.int n) (V.int z) = decide (z = n) := by
      simp only [eqV]
      by_cases h : n = z
      · subst h; simp
      · have h' : ¬ z = n := fun q => h q.symm
        simp [h, h']
    rw [List.any_cons, ih]
    simp only [Function.comp, e, List.mem_cons, Bool.decide_or]
theorem small_line {n : Nat} (h : n ≤ 10000) : n ≤ sizeLine := Nat.le_trans h (by decide)
theorem small_lt {n : Nat} (h : n ≤ 10000) : n < sizeLine := Nat.lt_of_le_of_lt h (by decide)

/-! enumerate over either -/
/-- what a for asks of the iterator -/
abbrev ForGo (g : TG) (tb : TS) (D : Ends) (σ : St) (J : It) (H1 : Hp) : Prop := ∃ W : Nat → Nat → St → Hp → Prop, (∃ m, W 0 m σ H1) ∧ ∀ i m σ H, W i m σ H →
  (J.stop i H ∧ D.nx σ H) ∨ (J.go i H ∧ ∃ N : St → Hp → Prop, (∀ σ' H', N σ' H' → ∃ m', m' < m ∧ W (i + 1) m' σ' H') ∧ ∀ x H', J.yld i H x H' → g x σ H' fun σ2 H2 => tb { D with nx := N, ct := N, bk := D.nx } σ2 H2)
theorem enum_go {K : PySem.W.Frag} {a : Addr} {xs : List V} {H0 H : Hp} (hq : Sq H0 a xs) {g : TG} {tb : TS} {D : Ends} {σ : St} (Pv : Nat → St → Hp → Prop) (h0 : Pv 0 σ H) (hG : ∀ i σ H, i ≤ xs.length → Pv i σ H → Same H0 H)
    (hs : ∀ i x σ H T, xs[i]? = some x → Pv i σ H → H T = none → g (.ref T) σ (upd H T (.tup [.int (i : Nat), x])) fun σ2 H2 => tb { D with nx := Pv (i + 1), ct := Pv (i + 1), bk := D.nx } σ2 H2) (hd : ∀ σ H, Pv xs.length σ H → D.nx σ H) :
    ∃ a' xs', [V.ref a] = [V.ref a'] ∧ ((SqL K H a' xs' ∧ ForGo g tb D σ (Ite K a') H) ∨ (SqT K H a' xs' ∧ ForGo g tb D σ (IteT K a') H)) := by
  have step : ∀ i x σ H H', i < xs.length → Pv i σ H → YPair (fun i => some (.int (i : Nat))) (fun i => xs[i]?) i H x H' → g x σ H' fun σ2 H2 => tb { D with nx := Pv (i + 1), ct := Pv (i + 1), bk := D.nx } σ2 H2 := by
    rintro i x σ H H' _ p ⟨T, y, z, rfl, nT, rfl, e1, e2⟩
    have e1' : V.int (i : Nat) = y := Option.some.inj e1
    subst e1'
    exact hs i z σ H T e2 p nT
  have hH := hG 0 σ H (Nat.zero_le _) h0
  rcases hq with q | q
  · exact ⟨a, xs, rfl, .inl ⟨SqL.of (hH _ _ q), for_it walk_enumL Pv h0 (fun i σ H l p => SqL.of (hG i σ H l p _ _ q)) step hd⟩⟩
  · exact ⟨a, xs, rfl, .inr ⟨(q.same hH).t, for_it walk_enumT Pv h0 (fun i σ H l p => (q.same (hG i σ H l p)).t) step hd⟩⟩

/-! t.index(n), the first place -/
def rTupIx (K : PySem.W.Frag) : V → List V → Hp → VK → Prop := fun x xs H Q => ∃ (p : Addr) (ys : List Int) (z : Int) (j : Nat), x = .ref p ∧ xs = [.int z] ∧ SqT K H p (ys.map V.int) ∧ ys[j]? = some z ∧ (∀ m, m < j → ys[m]? ≠ some z) ∧ Q (.int (j : Nat)) H
theorem mt_tupIndexI {X : Cx} : MtR X "tuple.index" (rTupIx X.K) := by
  intro pins s σ H x xs v us Q I rx rs h
  obtain ⟨p, ys, z, j, rfl, rfl, hq, hy, hno, q⟩ := h
  cases rx
  obtain ⟨u, rfl, t, rfl⟩ := vals1 rs
  obtain ⟨its, r, pl, hz⟩ := I.tuple hq
  obtain ⟨⟨cls, dd, dt, sl⟩, ho, hc, n, hd⟩ := pl
  simp only at hc hd
  subst hc
  subst hd
  have hl : its.toArray.size = ys.length := by
    rw [List.size_toArray, ← r.length, List.length_map]
  have hj : j < its.toArray.size := by
    rw [hl]
    exact (List.getElem?_eq_some_iff.mp hy).1
  have item : ∀ (m : Nat) (hm : m < its.toArray.size), ∃ y t', ys[m]? = some y ∧ its.toArray[m] = Value.int y t' := fun m hm => by
    have hm' : m < ys.length := hl ▸ hm
    obtain ⟨w, hw, t', hw'⟩ := r.get (i := m) (x := .int ys[m]) (by simp [hm'])
    have e := (List.getElem?_eq_some_iff.mp hw).2
    exact ⟨ys[m], t', List.getElem?_eq_getElem hm', by rw [← hw', ← e]; simp⟩
  have eqi : ∀ (y : Int) (t' : Tok), eqU (.int z) (Value.int y t') = decide (y = z) := fun y t' => by
    have e := eqU_of (x := .int z) (y := .int y) (u := Value.int y t') ⟨t', rfl⟩ rfl
    rw [e]
    simp only [eqV]
    by_cases h : y = z <;> simp [h]
  refine call_meets PySem.F.slot_tuple_index ⟨_, ho, rfl⟩ PySem.F.entry_tuple_index (PySem.F.args_tuple_index_2 _ _)
    (TI.tuple_indexAt p its.toArray n dd sl (.int z t) (eqU (.int z)) j hj ?_ fun m hm hmj => ?_) ⟨ho, fun w hw => mem_eqAt (x := .int z) ⟨t, rfl⟩ rfl r (flat_ints ys) w (by simpa using hw), ⟨.int (j : Nat), H, I.tok _, ⟨_, rfl⟩, q⟩⟩
  · obtain ⟨y, t', h1, h2⟩ := item j hj
    rw [hy] at h1
    cases h1
    rw [h2, eqi]
    exact decide_eq_true rfl
  · obtain ⟨y, t', h1, h2⟩ := item m hm
    rw [h2, eqi]
    exact decide_eq_false fun e => hno m hmj (e ▸ h1)

/-! the same rules, the written part given: for a comprehension's block -/
section
variable {X : Cx} {K : PySem.W.Frag}
theorem ix_listK (h : X.K = K) : IxR X (rIxL K) := h ▸ ix_list
theorem ix_tupK (h : X.K = K) : IxR X (rIxT K) := h ▸ ix_tup
theorem ix_seqK (h : X.K = K) : IxR X (rIx K) := h ▸ ix_seq
theorem op_inK (h : X.K = K) : OpR X (compareOp .In) (rIn K false) := h ▸ op_in_seq
theorem op_notInK (h : X.K = K) : OpR X (compareOp .NotIn) (rIn K true) := h ▸ op_notIn_seq
theorem op_eqDK (h : X.K = K) (hu : X.A.units + 64 < cLine) : OpR X (compareOp .Eq) (rEqD K) := h ▸ op_eqD hu
theorem op_neDK (h : X.K = K) (hu : X.A.units + 64 < cLine) : OpR X (compareOp .NotEq) (rNeD K) := h ▸ op_neD hu
theorem sl_listK (h : X.K = K) : SlR X (rSlL K) := h ▸ sl_list
theorem mt_tupIndexK (h : X.K = K) : MtR X "tuple.index" (rTupIx K) := h ▸ mt_tupIndexI
def rLenK (K : PySem.W.Frag) : List V → Hp → VK → Prop := fun xs H Q => ∃ p ys, xs = [.ref p] ∧ (SqL K H p ys ∨ SqT K H p ys) ∧ Q (.int ys.length) H
theorem call_lenK (h : X.K = K) : CallR X (.builtin "len") (rLenK K) := by subst h; exact call_len_seq
def rListK (K : PySem.W.Frag) : List V → Hp → VK → Prop := fun xs H Q => ∃ p ys, xs = [.ref p] ∧ (SqL K H p ys ∨ SqT K H p ys) ∧ ∀ l, H l = none → Q (.ref l) (upd H l (.lst ys))
theorem call_listK (h : X.K = K) : CallR X (.type "list") (rListK K) := by subst h; exact call_list_of
theorem call_isiK' (h : X.K = K) : CallR X (.builtin "isinstance") (rIsi K) := h ▸ call_isi
theorem call_isiTK (h : X.K = K) : CallR X (.builtin "isinstance") (rIsiT K) := h ▸ call_isiT
theorem call_reprK (h : X.K = K) (hg : X.A.guards = some []) (hu : X.A.units + 64 < cLine) : CallR X (.builtin "repr") (rRepr K) := h ▸ call_repr hg hu
theorem pe_bmK {T : String} {r : V → List V → Hp → VK → Prop} {o e : Expr} {es : List Expr} {to : TE} {t : TA} {apos cpos : Pos} {nm : Str} (h : X.K = K)
    (g : PE X (.Call (.Attribute o nm apos) (e :: es) [] cpos) (tBM X.K T r to t)) : PE X (.Call (.Attribute o nm apos) (e :: es) [] cpos) (tBM K T r to t) := h ▸ g
theorem pe_bm0K {T : String} {r : V → List V → Hp → VK → Prop} {o : Expr} {to : TE} {apos cpos : Pos} {nm : Str} (h : X.K = K)
    (g : PE X (.Call (.Attribute o nm apos) [] [] cpos) (tBM0 X.K T r to)) : PE X (.Call (.Attribute o nm apos) [] [] cpos) (tBM0 K T r to) := h ▸ g
end
end Lw
set_option Elab.async false
set_option maxRecDepth 100000
/-! t[::-1] of a tuple. -/
namespace Lw
open PySem PySem.Spec PyProof.Rows L2

theorem places_rev (n : Nat) : Builtin.Slice.slicePlaces ((n : Int) - 1) (-1) (-1) = n := by
  unfold Builtin.Slice.slicePlaces
  have h : ¬ ((-1 : Int) > 0) := by omega
  simp only [h, if_false]
  split
  · have e : ((n : Int) - 1 - -1 - 1) / - -1 = (n : Int) - 1 := by
      have : - -1 = (1 : Int) := rfl
      rw [this, Int.ediv_one]
      omega
    rw [e]
    omega
  · omega
theorem fm_congr {α β : Type} {f g : α → Option β} : ∀ {l : List α}, (∀ x ∈ l, f x = g x) → l.filterMap f = l.filterMap g
  | [], _ => rfl
  | a :: l, h => by
    rw [List.filterMap_cons, List.filterMap_cons, h a (by simp), fm_congr fun x hx => h x (by simp [hx])]
theorem pick_rev (xs : Array Value) : ((List.range xs.size).filterMap fun (m : Nat) => xs[((xs.size : Int) - 1 + (m : Int) * -1).toNat]?) = xs.toList.reverse := by
  have e : ((List.range xs.size).filterMap fun (m : Nat) => xs[((xs.size : Int) - 1 + (m : Int) * -1).toNat]?) = ((List.range xs.size).map fun k => xs.size - 1 - k).filterMap (xs[·]?) := by
    rw [List.filterMap_map]
    refine fm_congr fun m hm => ?_
    have := List.mem_range.mp hm
    have e2 : ((xs.size : Int) - 1 + (m : Int) * -1).toNat = xs.size - 1 - m := by omega
    simp only [Function.comp, e2]
  rw [e, PySem.W.krv_range, List.filterMap_reverse, PySem.W.krv_all]
section
variable {prog : Program} {w : World} {A : Around} {E : Value → Shared → Prop} {s : Shared}
theorem applied_rev {sl : Addr} {vl vu vs : Value} {n : Nat} {Q : Int × Int × Nat → Shared → Prop} (hs : s.heap.IsSliceOf sl vl vu vs) (pl : IsPart vl none) (pu : IsPart vu none) (ps : IsPart vs (some (-1)))
    (h : Q ((n : Int) - 1, -1, n) s) : wpAny (model prog w) A (Builtin.Slice.sliceApplied (.ref sl) (pure (n : Int))) Q E s := by
  obtain ⟨os, hos, hcs, hds⟩ := id hs
  unfold Builtin.Slice.sliceApplied Builtin.Slice.sliceFields
  refine wpAny_bind (wpAny_bind (wpAny_field hos hds (x := vl) rfl (wpAny_bind (wpAny_field hos hds (x := vu) rfl (wpAny_bind (wpAny_field hos hds (x := vs) rfl (wpAny_pure ?_)))))))
  refine wpAny_bind (HT.slicePart_ ps ?_)
  show wpAny _ _ (if ((-1 : Int) == 0) = true then _ else _) _ _ s
  rw [if_neg (by decide)]
  refine wpAny_bind (HT.slicePart_ pl (wpAny_bind (HT.slicePart_ pu (wpAny_bind (wpAny_pure ?_)))))
  show wpAny _ _ (pure ((n : Int) - 1, (-1 : Int), Builtin.Slice.slicePlaces ((n : Int) - 1) (-1) (-1))) _ _ s
  rw [places_rev]
  exact wpAny_pure h
theorem getItem_rev {t sl : Addr} {items : Array Value} {vl vu vs : Value} {Q : Value → Shared → Prop} (ht : IsTup s.heap t items) (hs : s.heap.IsSliceOf sl vl vu vs) (pl : IsPart vl none) (pu : IsPart vu none) (ps : IsPart vs (some (-1)))
    (h : Q (.ref s.heap.objs.size) { s with heap := s.heap.push { cls := .type "tuple", data := .seq items.toList.reverse.toArray } }) (hsz : items.size ≤ sizeLine) : wpAny (model prog w) A (getItem (.ref t) (.ref sl)) Q E s := by
  have fits : sizeOk (.seq items.toList.reverse.toArray) := by
    show items.toList.reverse.toArray.size ≤ sizeLine
    rw [List.size_toArray, List.length_reverse, Array.length_toList]
    exact hsz
  obtain ⟨os, hos, hcs, hds⟩ := id hs
  have isSl : s.TypeIs (.ref sl) "slice" := ⟨os, hos, hcs⟩
  unfold getItem
  try with_reducible refine wpAny_holding ?_
  first | refine wpAny_bind (wpAny_pure ?_) | skip
  refine wpAny_bind (wpAny_sequenceKey ht.typeIs (by decide) ?_)
  refine wpAny_bind (wpAny_callSpecial?_slot (name := Str.ofString "__getitem__") ht.typeIs slot_tuple_getitem
    (wpAny_call_entry slot_tuple_getitem ht.typeIs entry_tuple_getitem ?_ (args_tuple_getitem _ _)))
  show wpAny _ _ (Builtin.Tuple.tupleItemsOf (.ref t) >>= _) _ _ s
  refine wpAny_bind (tupleItemsOf_ ht ?_)
  refine wpAny_bind (wpAny_typeOf isSl ?_)
  rw [if_pos (by decide)]
  refine wpAny_bind (applied_rev hs pl pu ps ?_)
  have no : ¬ (((((items.size : Nat) : Int) - 1) == 0 && (-1 : Int) == 1 && items.size == items.size) = true) := by
    intro q
    rw [Bool.and_eq_true, Bool.and_eq_true] at q
    exact absurd q.1.2 (by decide)
  show wpAny _ _ (if ((((items.size : Nat) : Int) - 1) == 0 && (-1 : Int) == 1 && items.size == items.size) = true then _ else _) _ _ s
  rw [if_neg no, pick_rev]
  first
    | exact wpAny_bind (m := Builtin.Tuple.tupleExact _) (wpAny_newObj_type (wpAny_pure ⟨_, rfl, wpAny_pure h⟩) fits)
    | exact wpAny_bind (wpAny_bind (m := Builtin.Tuple.tupleExact _) (wpAny_newObj_type (wpAny_pure (wpAny_pure ⟨_, rfl, wpAny_pure h⟩)) fits))
    | exact wpAny_bind (wpAny_bind (m := Builtin.Tuple.tupleExact _) (wpAny_newObj_type (wpAny_pure ⟨_, rfl, wpAny_pure h⟩) fits))
end
def tRevT (te : TE) : TE := fun σ H Q => te σ H fun x H1 => ∃ a xs, x = .ref a ∧ Tup H1 a xs ∧ GiveT H1 xs.reverse Q
theorem pe_revT {X : Cx} {e : Expr} {te : TE} {k : Nat} {p1 p2 p3 pos : Pos} (he : PE X e te) : PE X (.Subscript e (.Slice none none (some (.UnaryOp .USub (.Constant (.int 1) k p1) p2)) p3) pos) (tRevT te) := by
  refine ⟨fun pins s σ H Q I h => Subscript_ (thn (he.run pins s σ H _ I h) fun v s1 ⟨x, H1, I1, r1, q1⟩ => ?_)⟩
  obtain ⟨a, xs, ex, hx, q⟩ := q1
  subst ex
  cases r1
  have hst : PO X (some (.UnaryOp .USub (.Constant (.int 1) k p1) p2)) (tPart (tUn (rU fun i => .int (-i)) (tC (.int 1)))) := po_some (pe_un un_neg pe_int)
  refine wpAny_Slice (thn (po_none.run pins s1 σ H1 (fun o H2 => o = none ∧ H2 = H1) I1 ⟨rfl, rfl⟩) fun vl s2 ⟨l, H2, I2, pl, el, e2⟩ => ?_)
  subst el e2
  refine thn (po_none.run pins s2 σ H2 (fun o H3 => o = none ∧ H3 = H2) I2 ⟨rfl, rfl⟩) fun vu s3 ⟨u, H3, I3, pu, eu, e3⟩ => ?_
  subst eu e3
  refine thn (hst.run pins s3 σ H3 (fun o H4 => o = some (-1) ∧ H4 = H3) I3 ⟨1, rfl, -1, rfl, rfl, rfl⟩) fun vs s4 ⟨o, H4, I4, ps, eo, e4⟩ => ?_
  subst eo e4
  have I5 : Inv X pins σ H4 { s4 with heap := s4.heap.push { cls := .type "slice", data := .fields #[vl, vu, vs] } } := I4.kept (t' := s4.toks) fun b ob q => Heap.get?_push_of_some _ q
  obtain ⟨its, r, ht, hz⟩ := I5.tuple (hx.t (K := X.K))
  have hlen := r.length
  refine tail_any (ops := [.ref a, .ref s4.heap.objs.size]) ht.typeIs slot_tuple_getitem.lookup ?_ (by with_unfolding_all rfl)
  refine getItem_rev ht (Heap.IsSliceOf.new _ vl vu vs) pl pu ps ?_ (by rw [List.size_toArray]; omega)
  exact laidT (t := s4.toks) I5 r.reverse (by rw [List.length_reverse]; exact hz) q
end Lw
set_option Elab.async false
set_option maxRecDepth 100000
/-! repr of lists and tuples of ints. -/
namespace Lw
open PySem L2
def Small (ns : List Int) : Prop := (∀ x ∈ ns, x.natAbs < 10 ^ 9) ∧ ns.length ≤ 10000
theorem shown_int (i : Int) (h : i.natAbs < 10 ^ 9) : (PyData.shown (.int i)).length ≤ 10 := by
  have := int_text_length_le10 (a := i) (k := 9) (by decide) h
  show (Str.ofString (toString i)).length ≤ 10
  rw [ofString_length]
  exact this
theorem shown_sum : ∀ ns : List Int, (∀ x ∈ ns, x.natAbs < 10 ^ 9) → ((PyData.shownAll (ns.map PyData.int)).map (·.length)).sum ≤ 10 * ns.length ∧ (PyData.shownAll (ns.map PyData.int)).length = ns.length
  | [], _ => by simp [PyData.shownAll]
  | n :: ns, h => by
    obtain ⟨h1, h2⟩ := shown_sum ns fun x hx => h x (by simp [hx])
    have h3 := shown_int n (h n (by simp))
    simp only [List.map_cons, PyData.shownAll, List.sum_cons, List.length_cons]
    omega
theorem showable_ints : ∀ ns : List Int, (∀ x ∈ ns, x.natAbs < 10 ^ 9) → PyData.showableAll (ns.map PyData.int) = true
  | [], _ => by simp [PyData.showableAll]
  | n :: ns, h => by
    have h1 := showable_ints ns fun x hx => h x (by simp [hx])
    have h2 : n.natAbs.log2 < 1920 := by
      have hn := h n (by simp)
      by_cases e : n.natAbs = 0
      · rw [e]; decide
      · have h30 : n.natAbs.log2 < 30 := (Nat.log2_lt e).mpr (Nat.lt_of_lt_of_le hn (by decide))
        omega
    simp only [List.map_cons, PyData.showableAll, PyData.showable, h1, Bool.and_true, decide_eq_true_eq]
    exact h2
theorem hasDict_ints : ∀ ns : List Int, PyData.hasDictAll (ns.map PyData.int) = false
  | [] => by simp [PyData.hasDictAll]
  | n :: ns => by simp [PyData.hasDictAll, PyData.hasDict, hasDict_ints ns]
theorem len_tup {ns : List Int} (h : Small ns) : (PyData.shown (.tuple (ns.map PyData.int))).length ≤ sizeLine := by
  obtain ⟨h1, h2⟩ := shown_sum ns h.1
  have h3 := tupleText_len_le (PyData.shownAll (ns.map PyData.int))
  have h4 := h.2
  simp only [PyData.shown]
  have : (200000 : Nat) ≤ sizeLine := by decide
  omega
theorem len_list {ns : List Int} (h : Small ns) : (PyData.shown (.list (ns.map PyData.int))).length ≤ sizeLine := by
  obtain ⟨h1, h2⟩ := shown_sum ns h.1
  have h3 := listText_len_le (PyData.shownAll (ns.map PyData.int))
  have h4 := h.2
  simp only [PyData.shown]
  have : (200000 : Nat) ≤ sizeLine := by decide
  omega
theorem repr_tup {K : PySem.W.Frag} {H : Hp} {a : Addr} {ns : List Int} {Q : VK} (h : Tup H a (ns.map V.int)) (sm : Small ns) (q : Q (.str (PyData.shown (.tuple (ns.map PyData.int)))) H) : rRepr K [.ref a] H Q :=
  ⟨a, _, rfl, dp_tupF h, by simpa only [PyData.showable] using showable_ints ns sm.1, by simpa only [PyData.hasDict] using hasDict_ints ns, by simp only [PyData.depth, depth_ints]; omega, len_tup sm, q⟩
theorem repr_list {K : PySem.W.Frag} {H : Hp} {a : Addr} {ns : List Int} {Q : VK} (h : H a = some (.lst (ns.map V.int))) (sm : Small ns) (q : Q (.str (PyData.shown (.list (ns.map PyData.int)))) H) : rRepr K [.ref a] H Q :=
  ⟨a, _, rfl, dp_list h, by simpa only [PyData.showable] using showable_ints ns sm.1, by simpa only [PyData.hasDict] using hasDict_ints ns, by simp only [PyData.depth, depth_ints]; omega, len_list sm, q⟩
/-- what repr asks of a tuple, a list of ints -/
theorem rpT {ns : List Int} (sm : Small ns) : (PyData.tuple (ns.map PyData.int)).showable = true ∧ (PyData.tuple (ns.map PyData.int)).hasDict = false ∧ (PyData.tuple (ns.map PyData.int)).depth ≤ 60 ∧ (PyData.tuple (ns.map PyData.int)).shown.length ≤ sizeLine :=
  ⟨by simpa only [PyData.showable] using showable_ints ns sm.1, by simpa only [PyData.hasDict] using hasDict_ints ns, by simp only [PyData.depth, depth_ints]; omega, len_tup sm⟩
theorem rpL {ns : List Int} (sm : Small ns) : (PyData.list (ns.map PyData.int)).showable = true ∧ (PyData.list (ns.map PyData.int)).hasDict = false ∧ (PyData.list (ns.map PyData.int)).depth ≤ 60 ∧ (PyData.list (ns.map PyData.int)).shown.length ≤ sizeLine :=
  ⟨by simpa only [PyData.showable] using showable_ints ns sm.1, by simpa only [PyData.hasDict] using hasDict_ints ns, by simp only [PyData.depth, depth_ints]; omega, len_list sm⟩
theorem small_ord {n : Nat} {p : List Int} (h : Ord n p) (h60 : n ≤ 60) : Small p := by
  refine ⟨fun x hx => ?_, by rw [h.len]; omega⟩
  have := h.mem.mp hx
  have e : (10 : Nat) ^ 9 = 1000000000 := by decide
  omega
theorem small_word {n : Nat} {ws : List Int} (h : OkW n ws) (h60 : n ≤ 60) (hl : ws.length ≤ 10000) : Small ws := by
  refine ⟨fun x hx => ?_, hl⟩
  have := h x hx
  have e : (10 : Nat) ^ 9 = 1000000000 := by decide
  omega
theorem eqv_refl_ints (ns : List Int) : (!PyData.eqv (.list (ns.map PyData.int)) (.list (ns.map PyData.int))) = false := by rw [eqv_list]; simp
theorem eqv_refl_tup (ns : List Int) : (!PyData.eqv (.tuple (ns.map PyData.int)) (.tuple (ns.map PyData.int))) = false := by rw [eqv_tup]; simp
theorem okw_append {n : Nat} {v w : List Int} (hv : OkW n v) (hw : OkW n w) : OkW n (v ++ w) := fun x hx => (List.mem_append.mp hx).elim (hv x) (hw x)
theorem okw_rev {n : Nat} {v : List Int} (hv : OkW n v) : OkW n v.reverse := fun x hx => hv x (List.mem_reverse.mp hx)
theorem ref_int {ls : List Addr} {ns : List Int} (h : ls.map V.ref = ns.map V.int) : ls = [] := by
  cases ls with
  | nil => rfl
  | cons x xs =>
    cases ns with
    | nil => cases h
    | cons y ys => cases h
theorem shaped_2 (u v : List Int) : SeqAt.shaped (.list [.list (u.map PyData.int), .list (v.map PyData.int)]) = true := by
  simp [SeqAt.shaped, PyData.canLay0, PyData.canLayAll0, lay_ints, PyData.depth, PyData.depthAll, depth_ints]
theorem eqv_2 (u v : List Int) : (!PyData.eqv (.list [.list (u.map PyData.int), .list (v.map PyData.int)]) (.list [.list (u.map PyData.int), .list (v.map PyData.int)])) = false := by
  simp [PyData.eqv, PyData.eqvAll, eqv_ints]
end Lw
set_option Elab.async false
set_option maxRecDepth 100000
namespace Lk10
open PySem L2 Lw
def top (i : Nat) : Stmt := PySem.Challenge.pw_passmarks_k10_orders_of_runners.main.body.getD i (.Pass ⟨0, 0, 0, 0⟩)
section
variable {P : Program} {w : World} {K : PySem.W.Frag} {mg : Str → Option Value} {base : Heap}
abbrev s_is_listing : Stmt := top 10
theorem sc_is_listing : FnScope ["thing"] ["thing"] (defScope s_is_listing) := ⟨rfl, rfl, rfl, by decide +kernel, rfl, by decide +kernel, by decide +kernel⟩
def spIsL : Sp := fun vs H Q _ => ∃ (a : Addr) (xs : List V), vs = [.ref a] ∧ Sq H a xs ∧ ∀ H', Same H H' → Q (.bl true) H'
theorem ok_is_listing {f : Addr} {fd : FuncData} (F : Fun K "is_listing" "is_listing" s_is_listing f fd) (T : Bare mg) : FnOk P w K mg base CX0 1 f fd ["thing"] spIsL := by
  refine F.ok sc_is_listing (fun vs H Q E h => ?_) (fun cdv A outer s H vs Q E hr h => ?_)
  · obtain ⟨a, xs, rfl, _⟩ := h
    rfl
  · obtain ⟨a, xs, rfl, hq, k⟩ := h
    refine ⟨_, (pss_one (ps_ret (pe_callB (call_isiTK (K := K) rfl) (by rfl) T.n_isinstance (by decide +kernel) (pa_cons (pv 0) (pa_cons (pe_tup (pa_cons (pe_bltn (v := .ty "list") (by rfl) T.n_list (by decide +kernel) rfl) (pa_cons (pe_bltn (v := .ty "tuple") (by rfl) T.n_tuple (by decide +kernel) rfl) pa_nil))) pa_nil))))), ?_⟩
    refine ⟨_, rfl, (by show 2 ≤ sizeLine; decide), fun t nt => ?_⟩
    have s1 : Same H (upd H t (.tup [.ty "list", .ty "tuple"])) := same_new nt
    rcases (hq.same s1).ty (K := K) with ty | ty
    · exact ⟨_, t, _, _, _, true, rfl, upd_same, .cons (.ty "list") (.cons (.ty "tuple") .nil), ty, kitAny_cons (kit_ty (r := true) (by decide +kernel)) nofun fun _ => rfl, k _ s1⟩
    · exact ⟨_, t, _, _, _, true, rfl, upd_same, .cons (.ty "list") (.cons (.ty "tuple") .nil), ty, kitAny_cons (kit_ty (r := false) (by decide +kernel)) (fun _ => kitAny_cons (kit_ty (r := true) (by decide +kernel)) nofun fun _ => rfl) nofun, k _ s1⟩
abbrev s_is_number : Stmt := top 11
theorem sc_is_number : FnScope ["thing", "least", "most"] ["thing", "least", "most"] (defScope s_is_number) := ⟨rfl, rfl, rfl, by decide +kernel, rfl, by decide +kernel, by decide +kernel⟩
def spIsN : Sp := fun vs H Q _ => ∃ (i a b : Int), vs = [.int i, .int a, .int b] ∧ Q (.bl (decide (a ≤ i ∧ i ≤ b))) H
theorem ok_is_number {f : Addr} {fd : FuncData} (F : Fun K "is_number" "is_number" s_is_number f fd) (T : Bare mg) : FnOk P w K mg base CX0 1 f fd ["thing", "least", "most"] spIsN := by
  refine F.ok sc_is_number (fun vs H Q E h => ?_) (fun cdv A outer s H vs Q E hr h => ?_)
  · obtain ⟨i, a, b, rfl, _⟩ := h
    rfl
  · obtain ⟨i, a, b, rfl, k⟩ := h
    refine ⟨_, (pss_one (ps_ret (pe_and (pe_callB (call_isiK' (K := K) rfl) (by rfl) T.n_isinstance (by decide +kernel) (pa_cons (pv 0) (pa_cons (pe_bltn (v := .ty "int") (by rfl) T.n_int (by decide +kernel) rfl) pa_nil))) (pe_and (pe_not (pe_callB (call_isiK' (K := K) rfl) (by rfl) T.n_isinstance (by decide +kernel) (pa_cons (pv 0) (pa_cons (pe_bltn (v := .ty "bool") (by rfl) T.n_bool (by decide +kernel) rfl) pa_nil)))) (pe_one (pe_chain op_le op_le (pv 1) (pv 0) (pv 2))))))), ?_⟩
    refine ⟨_, rfl, _, _, _, _, true, rfl, .ty "int", .base (.int i), kit_ty (by decide +kernel), _, rfl, iteT ?_⟩
    refine ⟨_, rfl, _, _, _, _, false, rfl, .ty "bool", .base (.int i), kit_ty (by decide +kernel), _, rfl, _, rfl, iteT ?_⟩
    refine ⟨_, rfl, _, rfl, _, _, rfl, rfl, _, rfl, ?_⟩
    refine ite2 (fun h => ?_) (fun h => ?_)
    · refine ⟨_, rfl, _, _, rfl, rfl, ?_⟩
      have e : decide (a ≤ i ∧ i ≤ b) = decide (i ≤ b) := by simp [of_decide_eq_true h]
      rw [e] at k
      exact k
    · have e : decide (a ≤ i ∧ i ≤ b) = false := by simp at h; simp; omega
      rw [e] at k
      exact k
abbrev s_word_fault : Stmt := top 12
theorem sc_word_fault : FnScope ["places", "word", "at", "place"] ["places", "word"] (defScope s_word_fault) := ⟨rfl, rfl, rfl, by decide +kernel, rfl, by decide +kernel, by decide +kernel⟩
def spWordF : Sp := fun vs H Q _ => ∃ (n : Nat) (a : Addr) (ws : List Int), vs = [.int n, .ref a] ∧ Sq H a (ws.map V.int) ∧ OkW n ws ∧ ws.length ≤ 2000 ∧ ∀ H', Same H H' → Q .non H'
theorem ok_word_fault {f : Addr} {fd : FuncData} (F : Fun K "word_fault" "word_fault" s_word_fault f fd) (T : Bare mg) (hW : ∃ t, mg "WORD" = some (.int 2000 t))
    (D1 : Has P w K mg base 1 "is_listing" ["thing"] spIsL) (D2 : Has P w K mg base 1 "is_number" ["thing", "least", "most"] spIsN) : FnOk P w K mg base CX0 2 f fd ["places", "word"] spWordF := by
  obtain ⟨tW, g_WORD⟩ := hW
  obtain ⟨_, _, G_is_listing, m_is_listing, k_is_listing, b_is_listing⟩ := D1
  obtain ⟨_, _, G_is_number, m_is_number, k_is_number, b_is_number⟩ := D2
  refine F.ok sc_word_fault (fun vs H Q E h => ?_) (fun cdv A outer s H vs Q E hr h => ?_)
  · obtain ⟨n, a, ws, rfl, _⟩ := h
    rfl
  · obtain ⟨n, a, ws, rfl, hq, hw, hl, k⟩ := h
    refine ⟨_, (pss_cons (ps_if (PW.pt (pw_or (pt_not (pt_val (pe_call G_is_listing (hr.mono (by decide)) rfl m_is_listing k_is_listing b_is_listing .nil pass0 (pa_cons (pv 1) pa_nil)))) (pw_or1 (pt_cmpR op_gt (pe_callB (call_lenK (K := K) rfl) (by rfl) T.n_len PySem.boot_len (pa_cons (pv 1) pa_nil)) (pe_glob (v := .int 2000) rfl g_WORD ⟨_, rfl⟩) (nomark _)))))
      (pss_one (ps_ret (pe_un un_neg pe_int))) pss_nil)
      (pss_cons (ps_for PassesOwn.never rfl (pi_enumA rfl T.n_enumerate (pa_cons (pv 1) pa_nil)) (pg_tup rfl (pgs_cons (pg_name (i := 2) sc_word_fault.nd rfl (Or.inl rfl)) (pgs_cons (pg_name (i := 3) sc_word_fault.nd rfl (Or.inl rfl)) pgs_nil)))
      (pss_one (ps_if (pt_not (pt_val (pe_call G_is_number (hr.mono (by decide)) rfl m_is_number k_is_number b_is_number .nil pass0 (pa_cons (pv 3) (pa_cons pe_int (pa_cons (pe_op op_sub (pv 0) pe_int) pa_nil))))))
      (pss_one (ps_ret (pv 2))) pss_nil)))
      (pss_one (ps_ret pe_non)))), ?_⟩
    refine ⟨_, rfl, a, _, rfl, hq, fun H1 s1 => ⟨_, rfl, iteF ⟨_, rfl, a, _, rfl, (hq.same s1).lt, _, _, rfl, rfl, _, rfl, ifF (decide_eq_false (by rw [List.length_map]; omega)) ?_⟩⟩⟩
    refine ⟨_, rfl, enum_go (K := K) hq (fun i σ H' => (∃ u v, σ = [some (.int n), some (.ref a), u, v]) ∧ Same H H') ⟨⟨_, _, rfl⟩, s1⟩ (fun i σ H' _ p => p.2) ?_ ?_⟩
    · rintro i x σ H' t hx ⟨⟨u, v, rfl⟩, s⟩ nt
      obtain ⟨z, hz, rfl⟩ := map_get hx
      have bz := hw z (List.mem_of_getElem? hz)
      refine ⟨t, _, rfl, SqT.of upd_same, rfl, _, _, rfl, _, _, rfl, rfl, ?_⟩
      refine ⟨_, rfl, _, rfl, _, _, rfl, rfl, _, _, _, rfl, _, rfl, ifF (by simp; omega) ?_⟩
      exact ⟨⟨_, _, rfl⟩, s.trans (same_new nt)⟩
    · rintro σ H' ⟨_, s⟩
      exact k H' s
abbrev s_order_fault : Stmt := top 13
theorem sc_order_fault : FnScope ["order", "at", "runner"] ["order"] (defScope s_order_fault) := ⟨rfl, rfl, rfl, by decide +kernel, rfl, by decide +kernel, by decide +kernel⟩
def spOrderF : Sp := fun vs H Q _ => ∃ (n : Nat) (a : Addr) (p : List Int), vs = [.ref a] ∧ Sq H a (p.map V.int) ∧ Ord n p ∧ 1 ≤ n ∧ n ≤ 60 ∧ ∀ H', Same H H' → Q .non H'
theorem ok_order_fault {f : Addr} {fd : FuncData} (F : Fun K "order_fault" "order_fault" s_order_fault f fd) (T : Bare mg) (hP : ∃ t, mg "PLACES" = some (.int 60 t))
    (D1 : Has P w K mg base 1 "is_listing" ["thing"] spIsL) (D2 : Has P w K mg base 1 "is_number" ["thing", "least", "most"] spIsN) : FnOk P w K mg base CX0 2 f fd ["order"] spOrderF := by
  obtain ⟨tP, g_PLACES⟩ := hP
  obtain ⟨_, _, G_is_listing, m_is_listing, k_is_listing, b_is_listing⟩ := D1
  obtain ⟨_, _, G_is_number, m_is_number, k_is_number, b_is_number⟩ := D2
  refine F.ok sc_order_fault (fun vs H Q E h => ?_) (fun cdv A outer s H vs Q E hr h => ?_)
  · obtain ⟨n, a, p, rfl, _⟩ := h
    rfl
  · obtain ⟨n, a, p, rfl, hq, ho, hn1, hn60, k⟩ := h
    have hlen : (p.map V.int).length = n := by rw [List.length_map, ho.len]
    refine ⟨_, (pss_cons (ps_if (PW.pt (pw_or (pt_not (pt_val (pe_call G_is_listing (hr.mono (by decide)) rfl m_is_listing k_is_listing b_is_listing .nil pass0 (pa_cons (pv 0) pa_nil)))) (pw_or1 (pt_not (pt_chain op_le op_le pe_int (pe_callB (call_lenK (K := K) rfl) (by rfl) T.n_len PySem.boot_len (pa_cons (pv 0) pa_nil)) (pe_glob (v := .int 60) rfl g_PLACES ⟨_, rfl⟩))))))
      (pss_one (ps_ret (pe_un un_neg pe_int))) pss_nil)
      (pss_cons (ps_for PassesOwn.never rfl (pi_enumA rfl T.n_enumerate (pa_cons (pv 0) pa_nil)) (pg_tup rfl (pgs_cons (pg_name (i := 1) sc_order_fault.nd rfl (Or.inl rfl)) (pgs_cons (pg_name (i := 2) sc_order_fault.nd rfl (Or.inl rfl)) pgs_nil)))
      (pss_one (ps_if (PW.pt (pw_or (pt_not (pt_val (pe_call G_is_number (hr.mono (by decide)) rfl m_is_number k_is_number b_is_number .nil pass0 (pa_cons (pv 2) (pa_cons pe_int (pa_cons (pe_op op_sub (pe_callB (call_lenK (K := K) rfl) (by rfl) T.n_len PySem.boot_len (pa_cons (pv 0) pa_nil)) pe_int) pa_nil)))))) (pw_or1 (pt_cmpR op_in_seq (pv 2) (pe_slice (sl_seqF (K := K) rfl) (pv 0) po_none (po_some (pv 1))) (by rfl)))))
      (pss_one (ps_ret (pv 1))) pss_nil)))
      (pss_one (ps_ret pe_non)))), ?_⟩
    refine ⟨_, rfl, a, _, rfl, hq, fun H1 s1 => ⟨_, rfl, iteF ?_⟩⟩
    refine ⟨_, rfl, a, _, rfl, (hq.same s1).lt, _, _, rfl, rfl, _, rfl, ifT (decide_eq_true (by rw [hlen]; omega)) ⟨_, _, rfl, rfl, _, rfl, ifF (by rw [hlen]; simp; omega) ?_⟩⟩
    refine ⟨_, rfl, enum_go (K := K) hq (fun i σ H' => (∃ u v, σ = [some (.ref a), u, v]) ∧ Same H H') ⟨⟨_, _, rfl⟩, s1⟩ (fun i σ H' _ p => p.2) ?_ ?_⟩
    · rintro i x σ H' t hx ⟨⟨u, v, rfl⟩, s⟩ nt
      obtain ⟨z, hz, rfl⟩ := map_get hx
      have bz := ho.mem.mp (List.mem_of_getElem? hz)
      have s2 : Same H (upd H' t (.tup [.int (i : Nat), .int z])) := s.trans (same_new nt)
      have hil : i ≤ p.length := Nat.le_of_lt (List.getElem?_eq_some_iff.mp hz).1
      have fresh : inV (.int z) ((p.take i).map V.int) = false := by
        rw [inV_int]
        refine decide_eq_false fun hm => ?_
        obtain ⟨j, hj⟩ := List.getElem?_of_mem hm
        have hji : j < i := by
          have := (List.getElem?_eq_some_iff.mp hj).1
          rw [List.length_take] at this
          omega
        rw [List.getElem?_take_of_lt hji] at hj
        have := nd_ix ho.nodup hj hz
        omega
      refine ⟨t, _, rfl, SqT.of upd_same, rfl, _, _, rfl, _, _, rfl, rfl, ?_⟩
      refine ⟨_, rfl, _, rfl, a, _, rfl, (hq.same s2).lt, _, _, rfl, rfl, _, _, _, rfl, _, rfl, ifF (by rw [hlen]; simp; omega) ?_⟩
      refine ⟨_, rfl, _, rfl, _, rfl, _, rfl, ?_⟩
      refine sl_by (hq.same s2) fun c H3 s3 hc => ?_
      refine ⟨c, _, rfl, hc.lt, rfl, (by rw [cut_to hil]; exact flat_ints _), _, rfl, ifF (by rw [cut_to hil]; exact fresh) ?_⟩
      exact ⟨⟨_, _, rfl⟩, s2.trans s3⟩
    · rintro σ H' ⟨_, s⟩
      exact k H' s
abbrev s_number_taken : Stmt := top 14
theorem sc_number_taken : FnScope ["thing", "least", "most"] ["thing", "least", "most"] (defScope s_number_taken) := ⟨rfl, rfl, rfl, by decide +kernel, rfl, by decide +kernel, by decide +kernel⟩
def spNumT : Sp := fun vs H Q _ => ∃ (i a b : Int), vs = [.int i, .int a, .int b] ∧ a ≤ i ∧ i ≤ b ∧ Q (.int i) H
theorem ok_number_taken {f : Addr} {fd : FuncData} (F : Fun K "number_taken" "number_taken" s_number_taken f fd)
    (D2 : Has P w K mg base 1 "is_number" ["thing", "least", "most"] spIsN) : FnOk P w K mg base CX0 2 f fd ["thing", "least", "most"] spNumT := by
  obtain ⟨_, _, G_is_number, m_is_number, k_is_number, b_is_number⟩ := D2
  refine F.ok sc_number_taken (fun vs H Q E h => ?_) (fun cdv A outer s H vs Q E hr h => ?_)
  · obtain ⟨i, a, b, rfl, _⟩ := h
    rfl
  · obtain ⟨i, a, b, rfl, h1, h2, k⟩ := h
    refine ⟨_, (pss_cons (ps_if (pt_not (pt_val (pe_call G_is_number (hr.mono (by decide)) rfl m_is_number k_is_number b_is_number .nil pass0 (pa_cons (pv 0) (pa_cons (pv 1) (pa_cons (pv 2) pa_nil))))))
      (pss_one ps_never) pss_nil)
      (pss_one (ps_ret (pv 0)))), ?_⟩
    exact ⟨_, rfl, _, rfl, _, rfl, _, _, _, rfl, _, rfl, ifF (by simp; omega) ⟨_, rfl, k⟩⟩
abbrev s_places_taken : Stmt := top 15
theorem sc_places_taken : FnScope ["thing"] ["thing"] (defScope s_places_taken) := ⟨rfl, rfl, rfl, by decide +kernel, rfl, by decide +kernel, by decide +kernel⟩
def spPlacesT : Sp := fun vs H Q _ => ∃ (n : Nat), vs = [.int n] ∧ 1 ≤ n ∧ n ≤ 60 ∧ Q (.int n) H
theorem ok_places_taken {f : Addr} {fd : FuncData} (F : Fun K "places_taken" "places_taken" s_places_taken f fd) (hP : ∃ t, mg "PLACES" = some (.int 60 t))
    (D : Has P w K mg base 2 "number_taken" ["thing", "least", "most"] spNumT) : FnOk P w K mg base CX0 3 f fd ["thing"] spPlacesT := by
  obtain ⟨tP, g_PLACES⟩ := hP
  obtain ⟨_, _, G_number_taken, m_number_taken, k_number_taken, b_number_taken⟩ := D
  refine F.ok sc_places_taken (fun vs H Q E h => ?_) (fun cdv A outer s H vs Q E hr h => ?_)
  · obtain ⟨n, rfl, _⟩ := h
    rfl
  · obtain ⟨n, rfl, h1, h2, k⟩ := h
    refine ⟨_, (pss_one (ps_ret (pe_call G_number_taken (hr.mono (by decide)) rfl m_number_taken k_number_taken b_number_taken .nil pass0 (pa_cons (pv 0) (pa_cons pe_int (pa_cons (pe_glob (v := .int 60) rfl g_PLACES ⟨_, rfl⟩) pa_nil)))))), ?_⟩
    exact ⟨_, rfl, _, _, _, rfl, by omega, by omega, k⟩
abbrev s_word_taken : Stmt := top 16
theorem sc_word_taken : FnScope ["places", "word", "at"] ["places", "word"] (defScope s_word_taken) := ⟨rfl, rfl, rfl, by decide +kernel, rfl, by decide +kernel, by decide +kernel⟩
def spWordT : Sp := fun vs H Q _ => ∃ (n : Nat) (a : Addr) (ws : List Int), vs = [.int n, .ref a] ∧ Sq H a (ws.map V.int) ∧ OkW n ws ∧ ws.length ≤ 2000 ∧ ∀ r H', Same H H' → Tup H' r (ws.map V.int) → Q (.ref r) H'
theorem ok_word_taken {f : Addr} {fd : FuncData} (F : Fun K "word_taken" "word_taken" s_word_taken f fd) (T : Bare mg)
    (D : Has P w K mg base 2 "word_fault" ["places", "word"] spWordF) : FnOk P w K mg base CX0 3 f fd ["places", "word"] spWordT := by
  obtain ⟨_, _, G_word_fault, m_word_fault, k_word_fault, b_word_fault⟩ := D
  refine F.ok sc_word_taken (fun vs H Q E h => ?_) (fun cdv A outer s H vs Q E hr h => ?_)
  · obtain ⟨n, a, ws, rfl, _⟩ := h
    rfl
  · obtain ⟨n, a, ws, rfl, hq, hw, hl, k⟩ := h
    refine ⟨_, (pss_cons (ps_set (i := 2) sc_word_taken.nd rfl (Or.inl rfl) (pe_call G_word_fault (hr.mono (by decide)) rfl m_word_fault k_word_fault b_word_fault .nil pass0 (pa_cons (pv 0) (pa_cons (pv 1) pa_nil))))
      (pss_cons (ps_if (pt_cmpR op_notN (pv 2) pe_non (nomark _))
      (pss_one ps_never) pss_nil)
      (pss_one (ps_ret (pe_callTy (call_tupleF (K := K) rfl) (by rfl) T.n_tuple (by decide +kernel) (pa_cons (pv 1) pa_nil)))))), ?_⟩
    refine ⟨_, rfl, _, rfl, n, a, ws, rfl, hq, hw, hl, fun H1 s1 => ?_⟩
    refine ⟨_, rfl, rfl, _, rfl, ifF rfl ⟨_, rfl, a, _, rfl, (hq.same s1).lf, fun r H2 s2 hr2 => k r H2 (s1.trans s2) hr2⟩⟩
abbrev s_order_taken : Stmt := top 17
theorem sc_order_taken : FnScope ["order", "at"] ["order"] (defScope s_order_taken) := ⟨rfl, rfl, rfl, by decide +kernel, rfl, by decide +kernel, by decide +kernel⟩
def spOrderT : Sp := fun vs H Q _ => ∃ (n : Nat) (a : Addr) (p : List Int), vs = [.ref a] ∧ Sq H a (p.map V.int) ∧ Ord n p ∧ 1 ≤ n ∧ n ≤ 60 ∧ ∀ r H', Same H H' → Tup H' r (p.map V.int) → Q (.ref r) H'
theorem ok_order_taken {f : Addr} {fd : FuncData} (F : Fun K "order_taken" "order_taken" s_order_taken f fd) (T : Bare mg)
    (D : Has P w K mg base 2 "order_fault" ["order"] spOrderF) : FnOk P w K mg base CX0 3 f fd ["order"] spOrderT := by
  obtain ⟨_, _, G_order_fault, m_order_fault, k_order_fault, b_order_fault⟩ := D
  refine F.ok sc_order_taken (fun vs H Q E h => ?_) (fun cdv A outer s H vs Q E hr h => ?_)
  · obtain ⟨n, a, p, rfl, _⟩ := h
    rfl
  · obtain ⟨n, a, p, rfl, hq, ho, hn1, hn60, k⟩ := h
    refine ⟨_, (pss_cons (ps_set (i := 1) sc_order_taken.nd rfl (Or.inl rfl) (pe_call G_order_fault (hr.mono (by decide)) rfl m_order_fault k_order_fault b_order_fault .nil pass0 (pa_cons (pv 0) pa_nil)))
      (pss_cons (ps_if (pt_cmpR op_notN (pv 1) pe_non (nomark _))
      (pss_one ps_never) pss_nil)
      (pss_one (ps_ret (pe_callTy (call_tupleF (K := K) rfl) (by rfl) T.n_tuple (by decide +kernel) (pa_cons (pv 0) pa_nil)))))), ?_⟩
    refine ⟨_, rfl, n, a, p, rfl, hq, ho, hn1, hn60, fun H1 s1 => ?_⟩
    refine ⟨_, rfl, rfl, _, rfl, ifF rfl ⟨_, rfl, a, _, rfl, (hq.same s1).lf, fun r H2 s2 hr2 => k r H2 (s1.trans s2) hr2⟩⟩
abbrev s_order_of : Stmt := top 19
theorem sc_order_of : FnScope ["places", "word", "order", "place"] ["places", "word"] (defScope s_order_of) := ⟨rfl, rfl, rfl, by decide +kernel, rfl, by decide +kernel, by decide +kernel⟩
def spOrderOf : Sp := fun vs H Q _ => ∃ (n : Nat) (a : Addr) (ws : List Int), vs = [.int n, .ref a] ∧ 1 ≤ n ∧ n ≤ 60 ∧ Sq H a (ws.map V.int) ∧ OkW n ws ∧ ws.length ≤ 2000 ∧
  ∀ r H', Same H H' → Tup H' r ((run (idl n) ws).map V.int) → Q (.ref r) H'
theorem ok_order_of {f : Addr} {fd : FuncData} (F : Fun K "order_of" "order_of" s_order_of f fd) (T : Bare mg)
    (D1 : Has P w K mg base 3 "places_taken" ["thing"] spPlacesT) (D2 : Has P w K mg base 3 "word_taken" ["places", "word"] spWordT) : FnOk P w K mg base CX0 4 f fd ["places", "word"] spOrderOf := by
  obtain ⟨_, _, G_places_taken, m_places_taken, k_places_taken, b_places_taken⟩ := D1
  obtain ⟨_, _, G_word_taken, m_word_taken, k_word_taken, b_word_taken⟩ := D2
  refine F.ok sc_order_of (fun vs H Q E h => ?_) (fun cdv A outer s H vs Q E hr h => ?_)
  · obtain ⟨n, a, ws, rfl, _⟩ := h
    rfl
  · obtain ⟨n, a, ws, rfl, h1, h60, hq, hw, hl, k⟩ := h
    refine ⟨_, (pss_cons (ps_set (i := 2) sc_order_of.nd rfl (Or.inl rfl) (pe_listRg rfl rfl T.n_list (prg_1 rfl T.n_range (pe_call G_places_taken (hr.mono (by decide)) rfl m_places_taken k_places_taken b_places_taken .nil pass0 (pa_cons (pv 0) pa_nil)))))
      (pss_cons (ps_for PassesOwn.never rfl (pi_tup (pe_call G_word_taken (hr.mono (by decide)) rfl m_word_taken k_word_taken b_word_taken .nil pass0 (pa_cons (pv 0) (pa_cons (pv 1) pa_nil)))) (pg_name (i := 3) sc_order_of.nd rfl (Or.inl rfl))
      (pss_one (ps_asg (pe_tupF (pa_cons (pe_ix ix_list (pv 2) (pe_op op_add (pv 3) pe_int) (fun _ _ => rfl)) (pa_cons (pe_ix ix_list (pv 2) (pv 3) (fun _ _ => rfl)) pa_nil))) (pg_tup rfl (pgs_cons (pg_sub (pv 2) (pv 3) set_list) (pgs_cons (pg_sub (pv 2) (pe_op op_add (pv 3) pe_int) set_list) pgs_nil))))))
      (pss_one (ps_ret (pe_callTy (call_tupleF (K := K) rfl) (by rfl) T.n_tuple (by decide +kernel) (pa_cons (pv 2) pa_nil)))))), ?_⟩
    refine ⟨_, rfl, n, rfl, h1, h60, _, rfl, RgOk.of_le (by omega) (by omega) (by omega) (by omega), fun o no => ?_⟩
    rw [rg_idl]
    have s1 : Same H (upd H o (.lst ((idl n).map V.int))) := same_new no
    refine ⟨_, rfl, _, rfl, n, a, ws, rfl, hq.same s1, hw, hl, fun t H2 s2 ht => ?_⟩
    have nto : t ≠ o := ht.ne (s2 _ _ upd_same) fun _ _ => nofun
    have hno : H o = none := no
    refine ⟨t, rfl, ⟨_, ht.t⟩, for_tup (K := K) (a := t) (xs := ws.map V.int) (fun i σ H' => (∃ u, σ = [some (.int n), some (.ref a), some (.ref o), u]) ∧ Same H H' ∧ Tup H' t (ws.map V.int) ∧ H' o = some (.lst ((run (idl n) (ws.take i)).map V.int)))
      ⟨⟨_, rfl⟩, s1.trans s2, ht, s2 _ _ upd_same⟩ (fun i σ H' _ p => p.2.2.1.t) ?_ ?_⟩
    · rintro i x σ H' hx ⟨⟨u, rfl⟩, s, ht', ho'⟩
      obtain ⟨z, hz, rfl⟩ := map_get hx
      have bz := hw z (List.mem_of_getElem? hz)
      obtain ⟨j, rfl⟩ := Int.eq_ofNat_of_zero_le bz.1
      have hlen : (run (idl n) (ws.take i)).length = n := by rw [run_len, idl_len]
      obtain ⟨p, hp⟩ : ∃ p, (run (idl n) (ws.take i))[j]? = some p := ⟨_, List.getElem?_eq_getElem (by omega)⟩
      obtain ⟨q, hq'⟩ : ∃ q, (run (idl n) (ws.take i))[j + 1]? = some q := ⟨_, List.getElem?_eq_getElem (by omega)⟩
      have e1 : ((j : Int) + 1) = ((j + 1 : Nat) : Int) := by omega
      refine ⟨_, rfl, _, rfl, _, _, rfl, rfl, o, _, _, _, rfl, rfl, SqL.of ho', (by rw [e1]; exact at_int' hq'), _, rfl, _, rfl, o, _, _, _, rfl, rfl, SqL.of ho', at_int' hp, (by show 2 ≤ sizeLine; decide), fun c H3 s3 hc => ?_⟩
      have ix1 : ixN ((run (idl n) (ws.take i)).map V.int).length (j : Int) = some j := by
        unfold ixN
        rw [if_pos (by omega), List.length_map, hlen, if_pos (by omega)]
        simp
      refine ⟨c, _, rfl, hc.t, rfl, _, _, rfl, _, rfl, _, rfl, o, _, _, j, rfl, rfl, s3 _ _ ho', ix1, _, _, rfl, _, rfl, _, rfl, _, _, rfl, rfl, o, _, _, j + 1, rfl, rfl, upd_same, ?_, rfl, ?_⟩
      · unfold ixN
        rw [if_pos (by omega), List.length_set, List.length_map, hlen, if_pos (by omega)]
        simp
      · have hoH : ∀ b ob, H b = some ob → b ≠ o := fun b ob e => ne_of_none e hno
        refine ⟨⟨_, rfl⟩, fun b ob e => ?_, ?_, ?_⟩
        · rw [upd_ne (hoH _ _ e), upd_ne (hoH _ _ e)]
          exact s3 _ _ (s _ _ e)
        · exact ((ht'.same s3).upd nto).upd nto
        · have et : ws.take (i + 1) = ws.take i ++ [(j : Int)] := by rw [List.take_add_one, hz]; rfl
          rw [upd_same, et, run_snoc, Int.toNat_natCast, ← sw_set hp hq', List.map_set, List.map_set]
    · rintro σ H' ⟨⟨u, rfl⟩, s, _, ho'⟩
      rw [List.length_map, List.take_length] at ho'
      exact ⟨_, rfl, o, _, rfl, .inl (SqL.of ho'), fun r H2 s2 hr2 => k r H2 (s.trans s2) hr2⟩
abbrev s_joined : Stmt := top 20
theorem sc_joined : FnScope ["one", "other", "first", "place"] ["one", "other"] (defScope s_joined) := ⟨rfl, rfl, rfl, by decide +kernel, rfl, by decide +kernel, by decide +kernel⟩
def spJoined : Sp := fun vs H Q _ => ∃ (n : Nat) (a b : Addr) (p q : List Int), vs = [.ref a, .ref b] ∧ 1 ≤ n ∧ n ≤ 60 ∧ Sq H a (p.map V.int) ∧ Sq H b (q.map V.int) ∧ Ord n p ∧ Ord n q ∧
  ∀ r H', Same H H' → Tup H' r ((q.map fun i => p.getD i.toNat 0).map V.int) → Q (.ref r) H'
theorem ok_joined {f : Addr} {fd : FuncData} (F : Fun K "joined" "joined" s_joined f fd) (T : Bare mg)
    (D1 : Has P w K mg base 1 "is_listing" ["thing"] spIsL) (D2 : Has P w K mg base 3 "order_taken" ["order"] spOrderT) : FnOk P w K mg base CX0 4 f fd ["one", "other"] spJoined := by
  obtain ⟨_, _, G_is_listing, m_is_listing, k_is_listing, b_is_listing⟩ := D1
  obtain ⟨_, _, G_order_taken, m_order_taken, k_order_taken, b_order_taken⟩ := D2
  refine F.ok sc_joined (fun vs H Q E h => ?_) (fun cdv A outer s H vs Q E hr h => ?_)
  · obtain ⟨n, a, b, p, q, rfl, _⟩ := h
    rfl
  · obtain ⟨n, a, b, p, q, rfl, h1, h60, ha, hb, hp, hq, k⟩ := h
    refine ⟨_, (pss_cons (ps_set (i := 2) sc_joined.nd rfl (Or.inr rfl) (pe_call G_order_taken (hr.mono (by decide)) rfl m_order_taken k_order_taken b_order_taken .nil pass0 (pa_cons (pv 0) pa_nil)))
      (pss_cons (ps_if (PW.pt (pw_and (pt_val (pe_call G_is_listing (hr.mono (by decide)) rfl m_is_listing k_is_listing b_is_listing .nil pass0 (pa_cons (pv 1) pa_nil))) (pw_and1 (pt_cmpR op_ne (pe_callB (call_lenK (K := K) rfl) (by rfl) T.n_len PySem.boot_len (pa_cons (pv 1) pa_nil)) (pe_callB (call_lenK (K := K) rfl) (by rfl) T.n_len PySem.boot_len (pa_cons (pv 2) pa_nil)) (nomark _)))))
      (pss_one ps_never) pss_nil)
      (pss_one (ps_ret (pe_callTy (call_tupleF (K := K) rfl) (by rfl) T.n_tuple (by decide +kernel) (pa_cons (pe_lc (own := [("place", 3)]) (g := gName 3) (tt := tYes) rfl sc_joined.nd (pi_tup (pe_call G_order_taken (hr.mono (by decide)) rfl m_order_taken k_order_taken b_order_taken .nil pass0 (pa_cons (pv 1) pa_nil))) (blkOk_by (own := [("place", 3)]) (N := ["one", "other", "first", "place"]) (sc := defScope s_joined) (by decide +kernel)) (fun _ _ _ _ _ => pg_name (i := 3) sc_joined.nd rfl (Or.inl rfl)) (fun _ _ _ _ _ => pts_nil) (fun _ _ _ _ _ => (pe_ix (ix_tupK (K := K) rfl) (pv 2) (pv 3) (fun _ _ => rfl)))) pa_nil)))))), ?_⟩
    refine ⟨_, rfl, n, a, p, rfl, ha, hp, h1, h60, fun t H1 s1 ht => ?_⟩
    refine ⟨_, rfl, b, _, rfl, hb.same s1, fun H2 s2 => ⟨_, rfl, iteT ?_⟩⟩
    have s12 := s1.trans s2
    refine ⟨_, rfl, b, _, rfl, (hb.same s12).lt, _, rfl, t, _, rfl, .inr (ht.same s2).t, rfl, _, rfl, ifF (by simp [hp.len, hq.len]) ?_⟩
    refine ⟨_, rfl, n, b, q, rfl, hb.same s12, hq, h1, h60, fun u H3 s3 hu => ?_⟩
    have s13 := s12.trans s3
    have ht3 := (ht.same s2).same s3
    refine ⟨u, rfl, ⟨_, hu.t⟩, fun D nD => lc_tup (K := K) (a := u) (xs := q.map V.int) (fun i H' => Same H3 H' ∧ H' D = some (.lst (((q.take i).map fun i => p.getD i.toNat 0).map V.int))) ⟨same_new nD, upd_same⟩ (fun i H' _ z => (hu.same z.1).t) ?_ ?_⟩
    · rintro i x H' hx ⟨s4, hD⟩
      obtain ⟨z, hz, rfl⟩ := map_get hx
      have bz := hq.mem.mp (List.mem_of_getElem? hz)
      obtain ⟨j, rfl⟩ := Int.eq_ofNat_of_zero_le bz.1
      have hj : p[j]? = some (p.getD j 0) := by
        have hjl : j < p.length := by rw [hp.len]; omega
        rw [List.getD_eq_getElem?_getD, List.getElem?_eq_getElem hjl]
        rfl
      refine ⟨rfl, _, rfl, _, rfl, t, _, _, _, rfl, rfl, (ht3.same s4).t, at_int' hj, _, hD, ?_, ?_, ?_⟩
      · rw [List.length_map, List.length_map, List.length_take]
        have := hq.len
        exact small_lt (by omega)
      · exact fun b' o' e => by rw [upd_ne (ne_of_none e nD)]; exact s4 _ _ e
      · have et : q.take (i + 1) = q.take i ++ [(j : Int)] := by rw [List.take_add_one, hz]; rfl
        rw [upd_same, et, List.map_append, List.map_append]
        rfl
    · rintro H' ⟨s4, hD⟩
      rw [List.length_map, List.take_length] at hD
      exact ⟨D, _, rfl, .inl (SqL.of hD), fun r H5 s5 hr5 => k r H5 ((s13.trans s4).trans s5) hr5⟩
abbrev s_undone : Stmt := top 21
theorem sc_undone : FnScope ["order", "runners", "runner"] ["order"] (defScope s_undone) := ⟨rfl, rfl, rfl, by decide +kernel, rfl, by decide +kernel, by decide +kernel⟩
def spUndone : Sp := fun vs H Q _ => ∃ (n : Nat) (a : Addr) (p q : List Int), vs = [.ref a] ∧ 1 ≤ n ∧ n ≤ 60 ∧ Sq H a (p.map V.int) ∧ Ord n p ∧ Undoes n p q ∧
  ∀ r H', Same H H' → Tup H' r (q.map V.int) → Q (.ref r) H'
theorem ok_undone {f : Addr} {fd : FuncData} (F : Fun K "undone" "undone" s_undone f fd) (T : Bare mg)
    (D2 : Has P w K mg base 3 "order_taken" ["order"] spOrderT) : FnOk P w K mg base CX0 4 f fd ["order"] spUndone := by
  obtain ⟨_, _, G_order_taken, m_order_taken, k_order_taken, b_order_taken⟩ := D2
  refine F.ok sc_undone (fun vs H Q E h => ?_) (fun cdv A outer s H vs Q E hr h => ?_)
  · obtain ⟨n, a, p, q, rfl, _⟩ := h
    rfl
  · obtain ⟨n, a, p, q, rfl, h1, h60, ha, hp, hu, k⟩ := h
    refine ⟨_, (pss_cons (ps_set (i := 1) sc_undone.nd rfl (Or.inr rfl) (pe_call G_order_taken (hr.mono (by decide)) rfl m_order_taken k_order_taken b_order_taken .nil pass0 (pa_cons (pv 0) pa_nil)))
      (pss_one (ps_ret (pe_callTy (call_tupleF (K := K) rfl) (by rfl) T.n_tuple (by decide +kernel) (pa_cons (pe_lc (own := [("runner", 2)]) (g := gName 2) (tt := tYes) rfl sc_undone.nd (pi_range1 rfl T.n_range (pa_cons (pe_callB (call_lenK (K := K) rfl) (by rfl) T.n_len PySem.boot_len (pa_cons (pv 1) pa_nil)) pa_nil)) (blkOk_by (own := [("runner", 2)]) (N := ["order", "runners", "runner"]) (sc := defScope s_undone) (by decide +kernel)) (fun _ _ _ _ _ => pg_name (i := 2) sc_undone.nd rfl (Or.inl rfl)) (fun _ _ _ _ _ => pts_nil) (fun _ _ _ _ _ => (pe_bmT PySem.F.slot_tuple_index PySem.F.type_tuple_index (mt_tupIndexK (K := K) rfl) (pv 1) (pa_cons (pv 2) pa_nil)))) pa_nil))))), ?_⟩
    refine ⟨_, rfl, n, a, p, rfl, ha, hp, h1, h60, fun t H1 s1 ht => ?_⟩
    have hlen : ((p.map V.int).length : Int) = n := by rw [List.length_map, hp.len]
    refine ⟨_, rfl, t, _, rfl, .inr ht.t, _, rfl, by omega, by omega, fun D nD => ?_⟩
    rw [hlen, Int.toNat_natCast]
    refine lc_range (lo := 0) (n := n) (fun i H' => Same H1 H' ∧ H' D = some (.lst ((q.take i).map V.int))) ⟨same_new nD, upd_same⟩ ?_ ?_
    · rintro i H' hi ⟨s4, hD⟩
      have hiq : i < q.length := by rw [hu.1]; exact hi
      have hqi := List.getElem?_eq_getElem hiq
      obtain ⟨b0, hz⟩ := hu.2 i q[i] hqi
      have e0 : (0 : Int) + (i : Int) = (i : Int) := by omega
      refine ⟨rfl, _, rfl, ⟨t, _, rfl, ht.same s4⟩, _, rfl, t, p, (i : Int), q[i].toNat, rfl, (by rw [e0]), (ht.same s4).t, hz, fun m hm e => ?_, _, hD, ?_, ?_, ?_⟩
      · have := nd_ix hp.nodup e hz
        omega
      · rw [List.length_map, List.length_take]
        exact small_lt (by omega)
      · exact fun b' o' e => by rw [upd_ne (ne_of_none e nD)]; exact s4 _ _ e
      · have et : q.take (i + 1) = q.take i ++ [q[i]] := by rw [List.take_add_one, hqi]; rfl
        have ez : ((q[i].toNat : Nat) : Int) = q[i] := by omega
        rw [upd_same, et, List.map_append, ez]
        rfl
    · rintro H' ⟨s4, hD⟩
      have eq : q.take n = q := by rw [← hu.1]; exact List.take_length
      rw [eq] at hD
      exact ⟨D, _, rfl, .inl (SqL.of hD), fun r H5 s5 hr5 => k r H5 ((s1.trans s4).trans s5) hr5⟩
abbrev s_pen : Stmt := top 23
theorem sc_pen : FnScope ["_law_script"] ["_law_script"] (defScope s_pen) := ⟨rfl, rfl, rfl, by decide +kernel, rfl, by decide +kernel, by decide +kernel⟩
def spPen (K : PySem.W.Frag) : Sp := fun vs H Q _ => ∃ (a : Addr) (ns : List Int), vs = [.ref a] ∧ SqL K H a (ns.map V.int) ∧ ns.length ≤ 63 ∧ ∀ p c H', H p = none → Same H H' → PenAt H' p c 0 → Q (.ref p) H'
theorem ok_pen {f : Addr} {fd : FuncData} (F : Fun K "_law_pen" "_law_pen" s_pen f fd) (T : Bare mg) : FnOk P w K mg base CX0 1 f fd ["_law_script"] (spPen K) := by
  refine F.ok sc_pen (fun vs H Q E h => ?_) (fun cdv A outer s H vs Q E hr h => ?_)
  · obtain ⟨a, ns, rfl, _⟩ := h
    rfl
  · obtain ⟨a, ns, rfl, hS, hl, k⟩ := h
    have hu := hu_of hr
    refine ⟨_, (pss_one (ps_ret (pe_disp (pps_cons pe_str (pe_callTy (call_listK (K := K) rfl) (by rfl) T.n_list (by decide +kernel) (pa_cons (pe_slice sl_list (pv 0) po_none (po_some pe_int)) pa_nil)) (pps_cons pe_str pe_int (pps_cons pe_str pe_int pps_nil))) (by rfl) (by rfl) (fun z => by cases z) (by decide)))), ?_⟩
    intro p np
    have s0 : Same H (upd H p (.dK [])) := same_new np
    refine ⟨_, rfl, _, rfl, a, _, rfl, s0.seq hS, fun q nq => ?_⟩
    have s1 := s0.trans (same_new (o := .lst (cutV (ns.map V.int) none (some 63))) nq)
    refine ⟨q, _, rfl, .inl (SqL.of upd_same), fun l nl => ?_⟩
    have s2 := s1.trans (same_new (o := .lst (cutV (ns.map V.int) none (some 63))) nl)
    have npq : p ≠ q := fun e => by rw [e, upd_same] at nq; cases nq
    have npl : p ≠ l := fun e => by
      rw [← e, upd_ne npq, upd_same] at nl
      cases nl
    have ecut : cutV (ns.map V.int) none (some 63) = ns.map V.int := by
      have e63 : HT.sIx (ns.map V.int).length (ns.map V.int).length (some 63) = (ns.map V.int).length := by
        have z := HT.sIx_nat (ns.map V.int).length (ns.map V.int).length 63
        rw [List.length_map] at z ⊢
        exact z.trans (by omega)
      unfold cutV
      rw [e63, HT.sIx_none, Nat.sub_zero, List.drop_zero]
      exact List.take_of_length_le (Nat.le_refl _)
    refine ⟨by rw [upd_ne npl, upd_ne npq, upd_same], [((.inr "cells" : Key), V.ref l), (.inr "spot", V.int 0), (.inr "more", V.int 0)], rfl, (by show 3 ≤ 15; decide), k p l _ np (fun b o e => ?_) ⟨ns, 0, 0, ?_, ?_, Int.le_refl _, by omega, hl⟩⟩
    · rw [upd_ne (ne_of_none e np)]
      exact s2 _ _ e
    · rw [upd_same]
      simp [mergeK, putK, n_cs, n_cm, n_sm, kvP]
    · rw [upd_ne npl.symm, upd_same, ecut]
abbrev s_draw : Stmt := top 24
theorem sc_draw : FnScope ["_law_pen_here", "_law_many", "_law_digit", "_law_spot", "_law_cell", "_law_mix"] ["_law_pen_here", "_law_many"] (defScope s_draw) := ⟨rfl, rfl, rfl, by decide +kernel, rfl, by decide +kernel, by decide +kernel⟩
def spDraw : Sp := fun vs H Q _ => ∃ (p c : Addr) (n : Int) (N : Nat), vs = [.ref p, .int n] ∧ PenAt H p c N ∧ N ≤ 1000000000 ∧ 1 ≤ n ∧ n ≤ 1000000000 ∧
  ∀ d H', 0 ≤ d → d < n → PenAt H' p c (N + 1) → SameX p H H' → Q (.int d) H'
theorem ok_draw {f : Addr} {fd : FuncData} (F : Fun K "_law_draw" "_law_draw" s_draw f fd) (T : Bare mg) : FnOk P w K mg base CX0 1 f fd ["_law_pen_here", "_law_many"] spDraw := by
  refine F.ok sc_draw (fun vs H Q E h => ?_) (fun cdv A outer s H vs Q E hr h => ?_)
  · obtain ⟨p, c, n, N, rfl, _⟩ := h
    rfl
  · obtain ⟨p, c, n, N, rfl, ⟨ns, z, m, hp, hc, z0, zN, hl⟩, hN, n1, n9, k⟩ := h
    have hu := hu_of hr
    have gm : DGet H p (.str "more") (some (.int m)) := by have q := DGet.k (k := (.inr "more" : Key)) hp; rw [v_more] at q; exact q
    have gs : DGet H p (.str "spot") (some (.int z)) := by have q := DGet.k (k := (.inr "spot" : Key)) hp; rw [v_spot] at q; exact q
    have gc : DGet H p (.str "cells") (some (.ref c)) := by have q := DGet.k (k := (.inr "cells" : Key)) hp; rw [v_cells] at q; exact q
    refine ⟨_, (pss_cons (ps_if (pt_cmpR op_gt (pe_dget hu (pv 0) pe_str (fun _ _ => rfl)) pe_int (nomark _))
      (pss_cons (ps_set (i := 2) sc_draw.nd rfl (Or.inl rfl) (pe_op op_modN (pe_dget hu (pv 0) pe_str (fun _ _ => rfl)) (pv 1)))
      (pss_cons (ps_dput hu (pv 0) pe_str (pe_op op_fdivN (pe_dget hu (pv 0) pe_str (fun _ _ => rfl)) (pv 1)) rfl)
      (pss_one (ps_ret (pv 2))))) pss_nil)
      (pss_cons (ps_set (i := 3) sc_draw.nd rfl (Or.inl rfl) (pe_dget hu (pv 0) pe_str (fun _ _ => rfl)))
      (pss_cons (ps_dput hu (pv 0) pe_str (pe_op op_add (pv 3) pe_int) rfl)
      (pss_cons (ps_set (i := 4) sc_draw.nd rfl (Or.inl rfl) (pe_ifExp (pt_cmpR (op_neDK (K := K) rfl hr.units) (pe_dget hu (pv 0) pe_str (fun _ _ => rfl)) (pe_lst pa_nil) (nomark _)) (pe_ix ix_list (pe_dget hu (pv 0) pe_str (fun _ _ => rfl)) (pe_op op_modN (pv 3) (pe_callB (call_lenK (K := K) rfl) (by rfl) T.n_len PySem.boot_len (pa_cons (pe_dget hu (pv 0) pe_str (fun _ _ => rfl)) pa_nil))) (fun _ _ => rfl)) (pe_op op_add (pe_op op_mul pe_int (pv 3)) pe_int)))
      (pss_cons (ps_if (PW.pt (pw_and (pt_cmpR op_lt (pv 3) (pe_callB (call_lenK (K := K) rfl) (by rfl) T.n_len PySem.boot_len (pa_cons (pe_dget hu (pv 0) pe_str (fun _ _ => rfl)) pa_nil)) (nomark _)) (pw_and1 (pt_cmpR op_ge (pe_callB call_abs (by rfl) T.n_abs (by decide +kernel) (pa_cons (pv 4) pa_nil)) (pe_op op_pow pe_int pe_int) (nomark _)))))
      (pss_cons (ps_dput hu (pv 0) pe_str (pe_op op_fdivN (pe_op op_sub (pe_callB call_abs (by rfl) T.n_abs (by decide +kernel) (pa_cons (pv 4) pa_nil)) (pe_op op_pow pe_int pe_int)) (pv 1)) rfl)
      (pss_one (ps_ret (pe_op op_modN (pe_op op_sub (pe_callB call_abs (by rfl) T.n_abs (by decide +kernel) (pa_cons (pv 4) pa_nil)) (pe_op op_pow pe_int pe_int)) (pv 1))))) pss_nil)
      (pss_cons (ps_set (i := 5) sc_draw.nd rfl (Or.inl rfl) (pe_op op_modN (pe_op op_add (pe_op op_add (pe_op op_add (pe_op op_mul (pe_op op_modN (pv 4) pe_int) pe_int) (pe_op op_mul (pe_op op_mul pe_int (pv 3)) (pv 3))) (pe_op op_mul pe_int (pv 3))) pe_int) pe_int))
      (pss_cons (ps_set (i := 5) sc_draw.nd rfl (Or.inl rfl) (pe_op op_modN (pe_op op_add (pe_op op_add (pe_op op_add (pe_op op_mul (pv 5) (pv 5)) (pe_op op_mul pe_int (pv 5))) (pe_op op_mul pe_int (pv 3))) pe_int) pe_int))
      (pss_one (ps_ret (pe_op op_modN (pe_op op_fdivN (pe_op op_modN (pe_op op_mul (pv 5) (pe_op op_add (pv 5) pe_int)) pe_int) pe_int) (pv 1))))))))))), ?_⟩
    refine ⟨_, rfl, p, _, rfl, gm, _, _, rfl, rfl, _, rfl, ?_⟩
    refine ite2 (fun _ => ?_) (fun _ => ?_)
    · refine ⟨_, rfl, p, _, rfl, gm, _, rfl, _, _, rfl, rfl, (by omega), ?_⟩
      refine ⟨_, rfl, p, _, rfl, gm, _, rfl, _, _, rfl, rfl, ⟨by omega, by omega⟩, _, rfl, p, _, rfl, DPut.k (k := (.inr "more" : Key)) hp (by show 3 < sizeLine; decide), ?_⟩
      refine ⟨_, rfl, ?_⟩
      refine k _ _ (fmod_lo _ (by omega)) (fmod_hi _ (by omega)) ⟨ns, z, m.fdiv n, ?_, ?_, z0, by omega, hl⟩ SameX.upd
      · rw [upd_same, p_more]
      · rw [upd_ne (ne_of hc hp nofun)]
        exact hc
    · refine ⟨_, rfl, p, _, rfl, gs, ?_⟩
      refine ⟨_, rfl, _, _, rfl, rfl, _, rfl, p, _, rfl, DPut.k (k := (.inr "spot" : Key)) hp (by show 3 < sizeLine; decide), ?_⟩
      have hp1 : (upd H p (.dK (putK (kvP c z m) (.inr "spot") (.int (z + 1))))) p = some (.dK (kvP c (z + 1) m)) := by rw [upd_same, p_spot]
      have hc1 : (upd H p (.dK (putK (kvP c z m) (.inr "spot") (.int (z + 1))))) c = some (.lst (ns.map V.int)) := by rw [upd_ne (ne_of hc hp nofun)]; exact hc
      have sx1 : SameX p H (upd H p (.dK (putK (kvP c z m) (.inr "spot") (.int (z + 1))))) := SameX.upd
      generalize upd H p (.dK (putK (kvP c z m) (.inr "spot") (.int (z + 1)))) = H1 at hp1 hc1 sx1
      have gc1 : ∀ H2 : Hp, Same H1 H2 → DGet H2 p (.str "cells") (some (.ref c)) := fun H2 s2 => by have q := DGet.k (k := (.inr "cells" : Key)) (s2 _ _ hp1); rw [v_cells] at q; exact q
      (try dsimp only [gName])
      refine seq_set_cut (fun v H2 => ∃ y : Int, v = .int y ∧ Same H1 H2) (fun Q hQ => ?_) ?_
      · refine ⟨_, rfl, p, _, rfl, gc1 H1 (Same.refl _), Nat.zero_le _, fun q nq => ?_⟩
        have s2 : Same H1 (upd H1 q (.lst [])) := same_new nq
        refine ⟨_, _, dp_list (s2 _ _ hc1), dp_list (ns := []) upd_same, shaped_list _, shaped_list [], _, rfl, ?_⟩
        refine ite2 (fun ne => ?_) (fun _ => ?_)
        · rw [eqv_list] at ne
          have pos : 0 < ns.length := by
            cases ns with
            | nil => simp at ne
            | cons _ _ => simp
          have hlen : ((ns.map V.int).length : Int) = (ns.length : Int) := by simp
          obtain ⟨y, hy⟩ := at_int (ns := ns) (i := z.fmod ns.length) (fmod_lo _ (by omega)) (fmod_hi _ (by omega))
          refine ⟨_, rfl, p, _, rfl, gc1 _ s2, _, rfl, _, rfl, p, _, rfl, gc1 _ s2, c, _, rfl, .inl (SqL.of (s2 _ _ hc1)), _, _, rfl, rfl, (by rw [hlen]; omega), c, _, _, _, rfl, rfl, SqL.of (s2 _ _ hc1), (by rw [hlen]; exact hy), ?_⟩
          exact hQ _ _ ⟨y, rfl, s2⟩
        · refine ⟨_, rfl, _, _, rfl, rfl, .inl (by constructor <;> decide), _, _, rfl, rfl, ?_⟩
          exact hQ _ _ ⟨_, rfl, s2⟩
      · rintro v H2 ⟨y, rfl, s2⟩
        have hp2 := s2 _ _ hp1
        have hc2 := s2 _ _ hc1
        have sx2 : SameX p H H2 := sx1.trans (.of s2)
        (try dsimp only [gName])
        refine seq_cut (fun σ' H' => σ' = [some (.ref p), some (.int n), none, some (.int z), some (.int y), none] ∧ H' = H2) (fun N hN' => ?_) ?_
        · refine ⟨_, rfl, _, rfl, p, _, rfl, gc1 _ s2, c, _, rfl, .inl (SqL.of hc2), _, _, rfl, rfl, _, rfl, ?_⟩
          refine ite2 (fun _ => ?_) (fun _ => iteF (hN' _ _ ⟨rfl, rfl⟩))
          refine ⟨_, rfl, _, rfl, _, _, rfl, rfl, ⟨by decide, by decide, by decide⟩, _, _, rfl, rfl, _, rfl, ?_⟩
          refine ite2 (fun _ => ?_) (fun _ => hN' _ _ ⟨rfl, rfl⟩)
          refine ⟨_, rfl, _, rfl, _, _, rfl, rfl, ⟨by decide, by decide, by decide⟩, _, _, rfl, rfl, _, rfl, _, _, rfl, rfl, ⟨by omega, by omega⟩, _, rfl, p, _, rfl, DPut.k (k := (.inr "more" : Key)) hp2 (by show 3 < sizeLine; decide), ?_⟩
          refine ⟨_, rfl, _, rfl, _, _, rfl, rfl, ⟨by decide, by decide, by decide⟩, _, _, rfl, rfl, _, rfl, _, _, rfl, rfl, (by omega), ?_⟩
          refine k _ _ (fmod_lo _ (by omega)) (fmod_hi _ (by omega)) ⟨ns, z + 1, _, Eq.trans upd_same (by rw [p_more]), ?_, by omega, by omega, hl⟩ (sx2.trans SameX.upd)
          rw [upd_ne (ne_of hc2 hp2 nofun)]
          exact hc2
        · rintro σ' H' ⟨rfl, rfl⟩
          have a1 := fmod_lo y (b := 2147483647) (by decide)
          have a2 := fmod_hi y (b := 2147483647) (by decide)
          refine ⟨_, rfl, _, _, rfl, rfl, (show (2147483647 : Int) ≠ 0 by decide), _, _, rfl, rfl, .inl ⟨by omega, by omega⟩, _, rfl, _, _, rfl, rfl, .inl ⟨by decide, by decide⟩, _, rfl, _, _, rfl, rfl, .inr ⟨by omega, by omega⟩, _, _, rfl, rfl, _, rfl, _, _, rfl, rfl, .inl ⟨by decide, by decide⟩, _, _, rfl, rfl, _, _, rfl, rfl, _, _, rfl, rfl, (show (2147483629 : Int) ≠ 0 by decide), ?_⟩
          dsimp only [gName]
          generalize hm1 : Int.fmod _ 2147483629 = m1
          have b1 : 0 ≤ m1 := hm1 ▸ fmod_lo _ (by decide)
          have b2 : m1 < 2147483629 := hm1 ▸ fmod_hi _ (by decide)
          clear hm1
          refine ⟨_, rfl, _, rfl, _, _, rfl, rfl, .inl ⟨by omega, by omega⟩, _, rfl, _, _, rfl, rfl, .inl ⟨by decide, by decide⟩, _, _, rfl, rfl, _, rfl, _, _, rfl, rfl, .inl ⟨by decide, by decide⟩, _, _, rfl, rfl, _, _, rfl, rfl, _, _, rfl, rfl, (show (2147483587 : Int) ≠ 0 by decide), ?_⟩
          dsimp only [gName]
          generalize hm2 : Int.fmod _ 2147483587 = m2
          have c1 : 0 ≤ m2 := hm2 ▸ fmod_lo _ (by decide)
          have c2 : m2 < 2147483587 := hm2 ▸ fmod_hi _ (by decide)
          clear hm2
          refine ⟨_, rfl, _, rfl, _, _, rfl, rfl, _, _, rfl, rfl, .inl ⟨by omega, by omega⟩, _, _, rfl, rfl, (show (2147483579 : Int) ≠ 0 by decide), _, _, rfl, rfl, ⟨by decide, by decide⟩, _, rfl, _, _, rfl, rfl, (by omega), ?_⟩
          exact k _ _ (fmod_lo _ (by omega)) (fmod_hi _ (by omega)) ⟨ns, z + 1, m, hp2, hc2, by omega, by omega, hl⟩ sx2
abbrev s_word : Stmt := top 26
theorem sc_word : FnScope ["_law_pen_here", "_law_places", "_law_many", "_law_turn"] ["_law_pen_here", "_law_places", "_law_many"] (defScope s_word) := ⟨rfl, rfl, rfl, by decide +kernel, rfl, by decide +kernel, by decide +kernel⟩
def spWord : Sp := fun vs H Q _ => ∃ (p c : Addr) (n m N : Nat), vs = [.ref p, .int n, .int m] ∧ PenAt H p c N ∧ N ≤ 100000000 ∧ 1 ≤ n ∧ n ≤ 60 ∧ m ≤ 5000 ∧
  ∀ r ws H', Tup H' r (ws.map V.int) → OkW n ws → ws.length ≤ m → PenAt H' p c (N + m + 1) → SameX p H H' → Q (.ref r) H'
theorem ok_word {f : Addr} {fd : FuncData} (F : Fun K "_law_word" "_law_word" s_word f fd) (T : Bare mg) (D1 : Has P w K mg base 1 "_law_draw" ["_law_pen_here", "_law_many"] spDraw) :
    FnOk P w K mg base CX0 2 f fd ["_law_pen_here", "_law_places", "_law_many"] spWord := by
  obtain ⟨_, _, G_draw, m_draw, k_draw, b_draw⟩ := D1
  refine F.ok sc_word (fun vs H Q E h => ?_) (fun cdv A outer s H vs Q E hr h => ?_)
  · obtain ⟨p, c, n, m, N, rfl, _⟩ := h
    rfl
  · obtain ⟨p, c, n, m, N, rfl, hP, hN, n1, n60, hm, k⟩ := h
    refine ⟨_, (pss_one (ps_ret (pe_callTy (call_tupleF (K := K) rfl) (by rfl) T.n_tuple (by decide +kernel) (pa_cons (pe_lc (own := [("_law_turn", 3)]) (g := gName 3) (tt := tYes) rfl sc_word.nd (pi_range1 rfl T.n_range (pa_cons (pe_op op_mul (pe_call G_draw (hr.mono (by decide)) rfl m_draw k_draw b_draw .nil pass0 (pa_cons (pv 0) (pa_cons (pe_op op_add (pv 2) pe_int) pa_nil))) (pe_callTy call_int1 (by rfl) T.n_int (by decide +kernel) (pa_cons (pe_cmpR op_gt (pv 1) pe_int (nomark _)) pa_nil))) pa_nil)) (blkOk_by (own := [("_law_turn", 3)]) (N := ["_law_pen_here", "_law_places", "_law_many", "_law_turn"]) (sc := defScope s_word) (by decide +kernel)) (fun _ _ _ _ _ => pg_name (i := 3) sc_word.nd rfl (Or.inl rfl)) (fun _ _ _ _ _ => pts_nil) (fun _ _ _ _ _ => (pe_call G_draw (hr.mono (by decide)) rfl m_draw k_draw b_draw .nil pass0 (pa_cons (pv 0) (pa_cons (pe_op op_sub (pv 1) pe_int) pa_nil))))) pa_nil)))), ?_⟩
    refine ⟨_, rfl, _, rfl, _, _, rfl, rfl, p, c, _, N, rfl, hP, by omega, by omega, by omega, fun d H1 d0 d1 P1 s1 => ?_⟩
    refine ⟨_, rfl, _, _, rfl, rfl, .inr ⟨_, rfl, _, _, rfl, rfl, .inl ⟨by omega, by omega⟩, ?_⟩⟩
    have hj : ∃ e : Nat, d * (if decide ((1 : Int) < (n : Int)) = true then 1 else 0) = (e : Int) ∧ e ≤ m ∧ (0 < e → 1 < n) := by
      by_cases h1 : (1 : Int) < (n : Int)
      · exact ⟨d.toNat, by rw [if_pos (decide_eq_true h1)]; omega, by omega, fun _ => by omega⟩
      · exact ⟨0, by rw [if_neg (by simpa using h1)]; simp, by omega, fun h => by omega⟩
    obtain ⟨e, hc, cm, c1⟩ := hj
    refine ⟨_, rfl, by omega, by omega, fun D nD => ?_⟩
    rw [hc, Int.toNat_natCast]
    refine lc_range (lo := 0) (n := e) (fun i H' => ∃ ws : List Int, ws.length = i ∧ OkW n ws ∧ H' D = some (.lst (ws.map V.int)) ∧ PenAt H' p c (N + 1 + i) ∧ SameX p H H')
      ⟨[], rfl, (fun _ h => by cases h), upd_same, P1.same (same_new nD), s1.trans (.of (same_new nD))⟩ ?_ ?_
    · rintro i H' hi ⟨ws, hl, ok, hD, P2, s2⟩
      have n2 := c1 (by omega)
      refine ⟨rfl, _, rfl, _, rfl, _, _, rfl, rfl, p, c, _, N + 1 + i, rfl, P2, by omega, by omega, by omega, fun z H4 z0 z1 P4 s4 => ?_⟩
      have hD4 := s4.lst P2 hD
      have nDp : D ≠ p := P1.new nD
      have nDc : D ≠ c := P1.newC nD
      refine ⟨_, hD4, by rw [List.length_map]; exact small_lt (by omega), ws ++ [z], by rw [List.length_append, hl]; rfl, fun x hx => ?_, by rw [upd_same, List.map_append]; rfl, ?_, ?_⟩
      · rcases List.mem_append.mp hx with h | h
        · exact ok x h
        · rw [List.mem_singleton.mp h]
          omega
      · exact (P4.upd nDp nDc).more (by omega)
      · exact (s2.trans s4).new (s1.free P1 nD)
    · rintro H' ⟨ws, hl, ok, hD, P2, s2⟩
      exact ⟨D, _, rfl, .inl (SqL.of hD), fun r H5 s5 hr5 => k r ws H5 hr5 ok (by omega) ((P2.same s5).more (by omega)) (s2.trans (.of s5))⟩
abbrev s_handed : Stmt := top 27
theorem sc_handed : FnScope ["_law_pen_here", "_law_some"] ["_law_pen_here", "_law_some"] (defScope s_handed) := ⟨rfl, rfl, rfl, by decide +kernel, rfl, by decide +kernel, by decide +kernel⟩
def spHanded : Sp := fun vs H Q _ => ∃ (p c a : Addr) (xs : List V) (N : Nat), vs = [.ref p, .ref a] ∧ Sq H a xs ∧ PenAt H p c N ∧ N ≤ 100000000 ∧
  ∀ r H', Sq H' r xs → PenAt H' p c (N + 1) → SameX p H H' → Q (.ref r) H'
theorem ok_handed {f : Addr} {fd : FuncData} (F : Fun K "_law_handed" "_law_handed" s_handed f fd) (T : Bare mg) (D1 : Has P w K mg base 1 "_law_draw" ["_law_pen_here", "_law_many"] spDraw) :
    FnOk P w K mg base CX0 2 f fd ["_law_pen_here", "_law_some"] spHanded := by
  obtain ⟨_, _, G_draw, m_draw, k_draw, b_draw⟩ := D1
  refine F.ok sc_handed (fun vs H Q E h => ?_) (fun cdv A outer s H vs Q E hr h => ?_)
  · obtain ⟨p, c, a, xs, N, rfl, _⟩ := h
    rfl
  · obtain ⟨p, c, a, xs, N, rfl, hq, hP, hN, k⟩ := h
    refine ⟨_, (pss_one (ps_ret (pe_ix ix_list (pe_lst (pa_cons (pe_callTy (call_listK (K := K) rfl) (by rfl) T.n_list (by decide +kernel) (pa_cons (pv 1) pa_nil)) (pa_cons (pe_callTy (call_tupleF (K := K) rfl) (by rfl) T.n_tuple (by decide +kernel) (pa_cons (pv 1) pa_nil)) pa_nil))) (pe_call G_draw (hr.mono (by decide)) rfl m_draw k_draw b_draw .nil pass0 (pa_cons (pv 0) (pa_cons pe_int pa_nil))) (fun _ _ => rfl)))), ?_⟩
    refine ⟨_, rfl, a, _, rfl, hq.lt, fun l nl => ?_⟩
    have s1 : Same H (upd H l (.lst xs)) := same_new nl
    refine ⟨_, rfl, a, _, rfl, (hq.same s1).lf, fun t H2 s2 ht => ⟨by show 2 ≤ sizeLine; decide, fun d nd => ?_⟩⟩
    have s3 : Same H2 (upd H2 d (.lst [.ref l, .ref t])) := same_new nd
    have P3 := ((hP.same s1).same s2).same s3
    have hl3 := s3 _ _ (s2 _ _ upd_same)
    have ht3 := ht.same s3
    refine ⟨_, rfl, p, c, _, N, rfl, P3, by omega, by omega, by omega, fun i H4 i0 i1 P4 s4 => ?_⟩
    have sx : SameX p H H4 := (SameX.of ((s1.trans s2).trans s3)).trans s4
    have hd4 := s4.lst P3 upd_same
    have two : i = 0 ∨ i = 1 := by omega
    rcases two with rfl | rfl
    · exact ⟨d, _, 0, .ref l, rfl, rfl, SqL.of hd4, rfl, k l H4 (.inl (s4.lst P3 hl3)) P4 sx⟩
    · exact ⟨d, _, 1, .ref t, rfl, rfl, SqL.of hd4, rfl, k t H4 (.inr (ht3.sameX s4 P3)) P4 sx⟩
abbrev s_stand : Stmt := top 28
theorem sc_stand : FnScope ["_law_places", "_law_word_here", "_law_line", "_law_spot"] ["_law_places", "_law_word_here"] (defScope s_stand) := ⟨rfl, rfl, rfl, by decide +kernel, rfl, by decide +kernel, by decide +kernel⟩
def spStand : Sp := fun vs H Q _ => ∃ (n : Nat) (a : Addr) (ws : List Int), vs = [.int n, .ref a] ∧ n ≤ 60 ∧ Tup H a (ws.map V.int) ∧ OkW n ws ∧ GiveT H ((run (idl n) ws).map V.int) Q
theorem ok_stand {f : Addr} {fd : FuncData} (F : Fun K "_law_stand" "_law_stand" s_stand f fd) (T : Bare mg) : FnOk P w K mg base CX0 1 f fd ["_law_places", "_law_word_here"] spStand := by
  refine F.ok sc_stand (fun vs H Q E h => ?_) (fun cdv A outer s H vs Q E hr h => ?_)
  · obtain ⟨n, a, ws, rfl, _⟩ := h
    rfl
  · obtain ⟨n, a, ws, rfl, h60, ha, hw, k⟩ := h
    refine ⟨_, (pss_cons (ps_set (i := 2) sc_stand.nd rfl (Or.inl rfl) (pe_tupRgF rfl rfl T.n_tuple (prg_1 rfl T.n_range (pv 0))))
      (pss_cons (ps_for PassesOwn.never rfl (pi_tup (pv 1)) (pg_name (i := 3) sc_stand.nd rfl (Or.inl rfl))
      (pss_one (ps_set (i := 2) sc_stand.nd rfl (Or.inl rfl) (pe_op op_catF (pe_op op_catF (pe_slice sl_tupF (pv 2) po_none (po_some (pv 3))) (pe_tupF (pa_cons (pe_ix ix_tup (pv 2) (pe_op op_add (pv 3) pe_int) (fun _ _ => rfl)) (pa_cons (pe_ix ix_tup (pv 2) (pv 3) (fun _ _ => rfl)) pa_nil)))) (pe_slice sl_tupF (pv 2) (po_some (pe_op op_add (pv 3) pe_int)) po_none)))))
      (pss_one (ps_ret (pv 2))))), ?_⟩
    refine ⟨_, rfl, _, rfl, RgOk.of_le (by omega) (by omega) (by omega) (by omega), fun l H1 s1 hl => ?_⟩
    rw [rg_idl] at hl
    refine ⟨_, rfl, a, rfl, ⟨_, (ha.same s1).t⟩, for_tup (K := K) (a := a) (xs := ws.map V.int) (fun i σ H' => ∃ l u, σ = [some (.int n), some (.ref a), some (.ref l), u] ∧ Same H H' ∧ Tup H' l ((run (idl n) (ws.take i)).map V.int))
      ⟨l, _, rfl, s1, hl⟩ (fun i σ H' _ p => by obtain ⟨_, _, _, s, _⟩ := p; exact (ha.same s).t) ?_ ?_⟩
    · rintro i x σ H' hx ⟨l, u, rfl, s, hl'⟩
      obtain ⟨z, hz, rfl⟩ := map_get hx
      have bz := hw z (List.mem_of_getElem? hz)
      obtain ⟨j, rfl⟩ := Int.eq_ofNat_of_zero_le bz.1
      have hlen : (run (idl n) (ws.take i)).length = n := by rw [run_len, idl_len]
      obtain ⟨p, hp⟩ : ∃ p, (run (idl n) (ws.take i))[j]? = some p := ⟨_, List.getElem?_eq_getElem (by omega)⟩
      obtain ⟨q, hq⟩ : ∃ q, (run (idl n) (ws.take i))[j + 1]? = some q := ⟨_, List.getElem?_eq_getElem (by omega)⟩
      have e1 : ((j : Int) + 1) = ((j + 1 : Nat) : Int) := by omega
      have e2 : ((j : Int) + 2) = ((j + 2 : Nat) : Int) := by omega
      have small : ∀ ys : List V, ys.length ≤ 100 → ys.length ≤ sizeLine := fun ys h => small_line (by omega)
      have c1 : cutV ((run (idl n) (ws.take i)).map V.int) none (some (j : Int)) = ((run (idl n) (ws.take i)).take j).map V.int := cut_to (by omega)
      have c2 : cutV ((run (idl n) (ws.take i)).map V.int) (some ((j : Int) + 2)) none = ((run (idl n) (ws.take i)).drop (j + 2)).map V.int := by rw [e2]; exact cut_from (by omega)
      refine ⟨_, rfl, _, rfl, _, rfl, l, _, rfl, hl', fun r1 H2 s2 h1 => ?_⟩
      refine ⟨_, rfl, _, rfl, _, _, rfl, rfl, l, _, _, _, rfl, rfl, (hl'.same s2).t, (by rw [e1]; exact at_int' hq), _, rfl, _, rfl, l, _, _, _, rfl, rfl, (hl'.same s2).t, at_int' hp, (by show 2 ≤ sizeLine; decide), fun r2 H3 s3 h2 => ?_⟩
      refine ⟨r1, r2, _, _, rfl, rfl, h1.same s3, h2, ?_, fun r3 H4 s4 h3 => ?_⟩
      · rw [c1, List.length_map, List.length_take]
        exact small_line (by show min j _ + 2 ≤ _; omega)
      refine ⟨_, rfl, _, rfl, _, _, rfl, rfl, _, rfl, l, _, rfl, ((hl'.same s2).same s3).same s4, fun r4 H5 s5 h4 => ?_⟩
      refine ⟨r3, r4, _, _, rfl, rfl, h3.same s5, h4, ?_, fun r5 H6 s6 h5 => ?_⟩
      · rw [c1, c2, List.length_append, List.length_map, List.length_map, List.length_take, List.length_drop]
        exact small_line (by show min j _ + 2 + _ ≤ _; omega)
      refine ⟨r5, _, rfl, ((((s.trans s2).trans s3).trans s4).trans s5).trans s6, ?_⟩
      have et : ws.take (i + 1) = ws.take i ++ [(j : Int)] := by rw [List.take_add_one, hz]; rfl
      have ef : (run (idl n) (ws.take (i + 1))).map V.int = cutV ((run (idl n) (ws.take i)).map V.int) none (some (j : Int)) ++ [V.int q, V.int p] ++ cutV ((run (idl n) (ws.take i)).map V.int) (some ((j : Int) + 2)) none := by
        rw [c1, c2, et, run_snoc, Int.toNat_natCast, ← sw_cut hp hq]
        simp
      rw [ef]
      exact h5
    · rintro σ H' ⟨l, u, rfl, s, hl'⟩
      rw [List.length_map, List.take_length] at hl'
      exact ⟨_, rfl, k l H' s hl'⟩
abbrev s_form : Stmt := top 29
theorem sc_form : FnScope ["_law_order", "_law_found", "_law_runner", "_law_behind_own", "_law_other", "_law_k"] ["_law_order"] (defScope s_form) := ⟨rfl, rfl, rfl, by decide +kernel, rfl, by decide +kernel, by decide +kernel⟩
def spForm : Sp := fun vs H Q _ => ∃ (n : Nat) (a : Addr) (p : List Int), vs = [.ref a] ∧ 1 ≤ n ∧ n ≤ 60 ∧ Tup H a (p.map V.int) ∧ Ord n p ∧ GiveT H ((form n p).map V.int) Q
theorem ok_form {f : Addr} {fd : FuncData} (F : Fun K "_law_form" "_law_form" s_form f fd) (T : Bare mg) : FnOk P w K mg base CX0 1 f fd ["_law_order"] spForm := by
  refine F.ok sc_form (fun vs H Q E h => ?_) (fun cdv A outer s H vs Q E hr h => ?_)
  · obtain ⟨n, a, p, rfl, _⟩ := h
    rfl
  · obtain ⟨n, a, p, rfl, h1, h60, ha, hp, k⟩ := h
    refine ⟨_, (pss_cons (ps_set (i := 1) sc_form.nd rfl (Or.inl rfl) (pe_lst pa_nil))
      (pss_cons (ps_for PassesOwn.never rfl (pi_range2 rfl T.n_range (pa_cons pe_int (pa_cons (pe_callB (call_lenK (K := K) rfl) (by rfl) T.n_len PySem.boot_len (pa_cons (pv 0) pa_nil)) pa_nil))) (pg_name (i := 2) sc_form.nd rfl (Or.inr rfl))
      (pss_cons (ps_setLc (i := 3) (own := [("_law_other", 4)]) (g := gName 4) rfl sc_form.nd rfl rfl (sw_true rfl rfl rfl (by decide +kernel)) (pi_tup (pe_slice sl_tupF (pv 0) (po_some (pe_bmT PySem.F.slot_tuple_index PySem.F.type_tuple_index (mt_tupIndexK (K := K) rfl) (pv 0) (pa_cons (pv 2) pa_nil))) po_none)) (blkOk_by (own := [("_law_other", 4)]) (N := ["_law_order", "_law_found", "_law_runner", "_law_behind_own", "_law_other", "_law_k"]) (sc := defScope s_form) (by decide +kernel)) (fun _ _ _ _ _ => pg_name (i := 4) sc_form.nd rfl (Or.inl rfl)) (fun _ _ _ _ _ => (pts_one (pt_cmpR op_lt (pv 4) (pv 2) (nomark _)))) (fun _ _ _ _ _ => (pv 4)))
      (pss_one (ps_expr (pe_bm PySem.F.plainAttrs_list PySem.F.slot_list_extend PySem.F.type_list_extend mt_extend (pv 1) (pa_cons (pe_lc (own := [("_law_k", 5)]) (g := gName 5) (tt := tYes) rfl sc_form.nd (pi_range1 rfl T.n_range (pa_cons (pe_callB (call_lenK (K := K) rfl) (by rfl) T.n_len PySem.boot_len (pa_cons (pv 3) pa_nil)) pa_nil)) (blkOk_by (own := [("_law_k", 5)]) (N := ["_law_order", "_law_found", "_law_runner", "_law_behind_own", "_law_other", "_law_k"]) (sc := defScope s_form) (by decide +kernel)) (fun _ _ _ _ _ => pg_name (i := 5) sc_form.nd rfl (Or.inl rfl)) (fun _ _ _ _ _ => pts_nil) (fun _ _ _ _ _ => (pe_op op_sub (pe_op op_sub (pv 2) pe_int) (pv 5)))) pa_nil))))))
      (pss_one (ps_ret (pe_callTy (call_tupleF (K := K) rfl) (by rfl) T.n_tuple (by decide +kernel) (pa_cons (pv 1) pa_nil)))))), ?_⟩
    refine ⟨Nat.zero_le _, fun l nl => ?_⟩
    have hlen : ((p.map V.int).length : Int) = n := by rw [List.length_map, hp.len]
    have s1 : Same H (upd H l (.lst [])) := same_new nl
    refine ⟨_, rfl, a, _, rfl, .inr (ha.same s1).t, _, _, rfl, by omega, ?_⟩
    rw [hlen]
    have en : ((n : Int) - 1).toNat = n - 1 := by omega
    rw [en]
    refine for_range (lo := 1) (n := n - 1) (fun i σ H' => (∃ u v x y, σ = [some (.ref a), some (.ref l), u, v, x, y]) ∧ Same H H' ∧ H' l = some (.lst ((formTo p i).map V.int))) ⟨⟨_, _, _, _, rfl⟩, s1, upd_same⟩ ?_ ?_
    · rintro i σ H' hi ⟨⟨u, v, x, y, rfl⟩, s, hl⟩
      have er : (1 : Int) + (i : Int) = (i : Int) + 1 := by omega
      have hm : ((i : Int) + 1) ∈ p := hp.mem.mpr ⟨by omega, by omega⟩
      have hj := List.idxOf_lt_length_of_mem hm
      have hget : p[p.idxOf ((i : Int) + 1)]? = some ((i : Int) + 1) := by rw [List.getElem?_eq_getElem hj, List.getElem_idxOf]
      refine ⟨_, rfl, _, rfl, ⟨a, _, rfl, ha.same s⟩, _, rfl, a, p, (i : Int) + 1, p.idxOf ((i : Int) + 1), rfl, (by rw [er]), (ha.same s).t, hget, fun m hm' e => ?_, _, rfl, a, _, rfl, ha.same s, fun b H2 s2 hb => ?_⟩
      · have := nd_ix hp.nodup e hget
        omega
      rw [cut_from (by omega)] at hb
      refine ⟨b, rfl, ⟨_, hb.t⟩, fun D nD => ?_⟩
      have nDl : D ≠ l := (ne_of_none (s2 _ _ hl) nD).symm
      refine lc_tup (K := K) (a := b) (xs := (p.drop (p.idxOf ((i : Int) + 1))).map V.int) (fun k H3 => Same H2 H3 ∧ H3 D = some (.lst ((((p.drop (p.idxOf ((i : Int) + 1))).take k).filter fun z => decide (z < (i : Int) + 1)).map V.int))) ⟨same_new nD, upd_same⟩ (fun k H3 _ z => (hb.same z.1).t) ?_ ?_
      · rintro k z H3 hz ⟨s3, hD⟩
        obtain ⟨z, hz', rfl⟩ := map_get hz
        refine ⟨rfl, _, rfl, _, rfl, _, _, rfl, rfl, _, rfl, ?_⟩
        have et : (p.drop (p.idxOf ((i : Int) + 1))).take (k + 1) = (p.drop (p.idxOf ((i : Int) + 1))).take k ++ [z] := by rw [List.take_add_one, hz']; rfl
        refine ite2 (fun h => ?_) (fun h => ?_)
        · refine ⟨_, rfl, _, hD, ?_, fun b' o' e => by rw [upd_ne (ne_of_none e nD)]; exact s3 _ _ e, ?_⟩
          · have hle : (((p.drop (p.idxOf ((i : Int) + 1))).take k).filter fun z => decide (z < (i : Int) + 1)).length ≤ p.length :=
              Nat.le_trans (List.length_filter_le _ _) (by rw [List.length_take, List.length_drop]; omega)
            have := hp.len
            rw [List.length_map]
            exact small_lt (by omega)
          · have h' : decide (z < (i : Int) + 1) = true := by rw [← er]; exact h
            rw [upd_same, et, List.filter_append, List.map_append, List.filter_cons, if_pos h']
            rfl
        · refine ⟨s3, ?_⟩
          have h' : ¬ (decide (z < (i : Int) + 1) = true) := by rw [← er]; exact h
          rw [et, List.filter_append, List.filter_cons, if_neg h', List.filter_nil, List.append_nil]
          exact hD
      · rintro H3 ⟨s3, hD⟩
        rw [List.length_map, List.take_length] at hD
        have hD' : H3 D = some (.lst ((behind p ((i : Int) + 1)).map V.int)) := hD
        have hbl : (behind p ((i : Int) + 1)).length ≤ i + 1 := by
          have := behind_len hp (k := i + 1) (by omega)
          simpa using this
        have hl3 := s3 _ _ (s2 _ _ hl)
        refine ⟨_, rfl, .inl ⟨rfl, _, SqL.of hl3⟩, _, rfl, D, _, rfl, .inl (SqL.of hD'), _, rfl, by omega, by rw [List.length_map]; omega, fun D2 nD2 => ?_⟩
        rw [List.length_map, Int.toNat_natCast]
        have nl2 : l ≠ D2 := ne_of_none hl3 nD2
        refine lc_range (lo := 0) (n := (behind p ((i : Int) + 1)).length) (fun k H4 => Same H3 H4 ∧ H4 D2 = some (.lst (((idl k).map fun z => (i : Int) + 1 - 1 - z).map V.int))) ⟨same_new nD2, upd_same⟩ ?_ ?_
        · rintro k H4 hk ⟨s4, hD4⟩
          refine ⟨rfl, _, rfl, _, _, rfl, rfl, _, rfl, _, _, rfl, rfl, _, hD4, ?_, fun b' o' e => by rw [upd_ne (ne_of_none e nD2)]; exact s4 _ _ e, ?_⟩
          · rw [List.length_map, List.length_map, idl_len]
            exact small_lt (by omega)
          · rw [upd_same, idl_succ, List.map_append, List.map_append]
            simp only [List.map_cons, List.map_nil]
            have ez : (i : Int) + 1 - 1 - (k : Int) = 1 + (i : Int) - 1 - (0 + (k : Int)) := by omega
            rw [ez]
        · rintro H4 ⟨s4, hD4⟩
          have ft := formTo_ok hp i (by omega)
          refine ⟨l, D2, _, _, rfl, rfl, s4 _ _ hl3, hD4, ?_, ⟨_, _, _, _, rfl⟩, fun b' o' e => ?_, ?_⟩
          · rw [List.length_map, List.length_map, List.length_map, idl_len]
            have : i * (i + 1) ≤ 60 * 60 := Nat.mul_le_mul (by omega) (by omega)
            exact small_line (by omega)
          · rw [upd_ne (ne_of_none e nl)]
            exact s4 _ _ (s3 _ _ (s2 _ _ (s _ _ e)))
          · rw [upd_same, formTo, List.map_append]
            rfl
    · rintro σ H' ⟨⟨u, v, x, y, rfl⟩, s, hl⟩
      exact ⟨_, rfl, l, _, rfl, .inl (SqL.of hl), fun r H5 s5 hr5 => k r H5 (s.trans s5) hr5⟩
abbrev s_shuffled : Stmt := top 25
theorem sc_shuffled : FnScope ["_law_pen_here", "_law_some", "_law_rest", "_law_found"] ["_law_pen_here", "_law_some"] (defScope s_shuffled) := ⟨rfl, rfl, rfl, by decide +kernel, rfl, by decide +kernel, by decide +kernel⟩
def spShuffled : Sp := fun vs H Q _ => ∃ (p c a : Addr) (ns : List Int) (N : Nat), vs = [.ref p, .ref a] ∧ Sq H a (ns.map V.int) ∧ ns.length ≤ 60 ∧ PenAt H p c N ∧ N ≤ 100000000 ∧
  ∀ (r : Addr) (ms : List Int) (H' : Hp), H r = none → H' r = some (.lst (ms.map V.int)) → ms.Perm ns → PenAt H' p c (N + 60) → SameX p H H' → Q (.ref r) H'
theorem ok_shuffled {f : Addr} {fd : FuncData} (F : Fun K "_law_shuffled" "_law_shuffled" s_shuffled f fd) (T : Bare mg) (D1 : Has P w K mg base 1 "_law_draw" ["_law_pen_here", "_law_many"] spDraw) :
    FnOk P w K mg base CX0 2 f fd ["_law_pen_here", "_law_some"] spShuffled := by
  obtain ⟨_, _, G_draw, m_draw, k_draw, b_draw⟩ := D1
  refine F.ok sc_shuffled (fun vs H Q E h => ?_) (fun cdv A outer s H vs Q E hr h => ?_)
  · obtain ⟨p, c, a, ns, N, rfl, _⟩ := h
    rfl
  · obtain ⟨p, c, a, ns, N, rfl, hq, hl60, hP, hN, k⟩ := h
    refine ⟨_, (pss_cons (ps_par (i := 2) (j := 3) rfl sc_shuffled.nd rfl rfl (by decide) rfl rfl (pa_cons (pe_callTy (call_listK (K := K) rfl) (by rfl) T.n_list (by decide +kernel) (pa_cons (pv 1) pa_nil)) (pa_cons (pe_lst pa_nil) pa_nil)) (by rfl))
      (pss_cons (ps_while PassesOwn.never (pt_cmpR (op_neDK (K := K) rfl hr.units) (pv 2) (pe_lst pa_nil) (nomark _))
      (pss_one (ps_expr (pe_bm PySem.F.plainAttrs_list PySem.F.slot_list_append PySem.F.type_list_append mt_append (pv 3) (pa_cons (pe_bm PySem.F.plainAttrs_list PySem.F.slot_list_pop PySem.F.type_list_pop mt_popAt (pv 2) (pa_cons (pe_call G_draw (hr.mono (by decide)) rfl m_draw k_draw b_draw .nil pass0 (pa_cons (pv 0) (pa_cons (pe_callB (call_lenK (K := K) rfl) (by rfl) T.n_len PySem.boot_len (pa_cons (pv 2) pa_nil)) pa_nil))) pa_nil)) pa_nil)))))
      (pss_one (ps_ret (pv 3))))), ?_⟩
    refine ⟨_, rfl, a, _, rfl, hq.lt, fun l nl => ⟨Nat.zero_le _, fun g ng => ⟨_, _, rfl, ?_⟩⟩⟩
    have s1 : Same H (upd H l (.lst (ns.map V.int))) := same_new nl
    have s2 : Same (upd H l (.lst (ns.map V.int))) (upd (upd H l (.lst (ns.map V.int))) g (.lst [])) := same_new ng
    have hl2 := s2 _ _ (upd_same (H := H) (a := l) (o := .lst (ns.map V.int)))
    have nlg : l ≠ g := ne_of_none (upd_same (H := H)) ng
    have hg0 : H g = none := s1.free ng
    have nlp := hP.new nl
    have nlc := hP.newC nl
    have ngp := hP.new hg0
    have ngc := hP.newC hg0
    refine ⟨fun m σ H' => ∃ rs fs : List Int, σ = [some (.ref p), some (.ref a), some (.ref l), some (.ref g)] ∧ rs.length = m ∧ (fs ++ rs).Perm ns ∧ H' l = some (.lst (rs.map V.int)) ∧ H' g = some (.lst (fs.map V.int)) ∧
      PenAt H' p c (N + fs.length) ∧ SameX p H H', ⟨ns.length, ns, [], rfl, rfl, .refl _, hl2, upd_same, (hP.same s1).same s2, .of (s1.trans s2)⟩, ?_⟩
    rintro m σ H' ⟨rs, fs, rfl, hm, hperm, hl, hg, P1, sx⟩
    have hsum : fs.length + rs.length = ns.length := by rw [← List.length_append]; exact hperm.length_eq
    refine ⟨_, rfl, Nat.zero_le _, fun e ne => ?_⟩
    have s3 : Same H' (upd H' e (.lst [])) := same_new ne
    refine ⟨_, _, dp_list (s3 _ _ hl), dp_list (ns := []) upd_same, shaped_list _, shaped_list [], _, rfl, ?_⟩
    refine ite2 (fun hne => ?_) (fun hne => ?_)
    · rw [eqv_list] at hne
      have pos : 0 < rs.length := by
        cases rs with
        | nil => simp at hne
        | cons _ _ => simp
      refine ⟨fun σ' H'' => ∃ m', m' < m ∧ ∃ rs fs : List Int, σ' = [some (.ref p), some (.ref a), some (.ref l), some (.ref g)] ∧ rs.length = m' ∧ (fs ++ rs).Perm ns ∧ H'' l = some (.lst (rs.map V.int)) ∧ H'' g = some (.lst (fs.map V.int)) ∧
        PenAt H'' p c (N + fs.length) ∧ SameX p H H'', fun σ' H'' h => h, ?_⟩
      have P3 := P1.same s3
      refine ⟨_, rfl, .inl ⟨rfl, _, SqL.of (s3 _ _ hg)⟩, _, rfl, .inl ⟨rfl, _, SqL.of (s3 _ _ hl)⟩, _, rfl, _, rfl, l, _, rfl, .inl (SqL.of (s3 _ _ hl)), p, c, _, _, rfl, P3, by omega, by rw [List.length_map]; omega, by rw [List.length_map]; omega, fun d H4 d0 d1 P4 s4 => ?_⟩
      rw [List.length_map] at d1
      obtain ⟨j, rfl⟩ := Int.eq_ofNat_of_zero_le d0
      have hj : j < rs.length := by omega
      have hl4 := s4.lst P3 (s3 _ _ hl)
      have hg4 := s4.lst P3 (s3 _ _ hg)
      have hseq : seqIndex? (j : Int) (rs.map V.int).length = some j := by
        rw [List.length_map]
        exact (ixN_seq (n := rs.length) (i := (j : Int)) (by unfold ixN; rw [if_pos (by omega), if_pos (by omega)]; simp)).1
      refine ⟨l, _, _, j, .int rs[j], rfl, rfl, hl4, by omega, by omega, hseq, by rw [List.getElem?_map, List.getElem?_eq_getElem hj]; rfl, ?_⟩
      refine ⟨g, _, _, rfl, rfl, (by rw [upd_ne nlg.symm]; exact hg4), by rw [List.length_map]; exact small_lt (by omega), ?_⟩
      refine ⟨m - 1, by omega, rs.eraseIdx j, fs ++ [rs[j]], rfl, by rw [List.length_eraseIdx_of_lt hj]; omega, ?_, ?_, ?_, ?_, ?_⟩
      · rw [List.append_assoc]
        exact ((erase_perm hj).append_left fs).trans hperm
      · rw [upd_ne nlg, upd_same, erase_map]
      · rw [upd_same, List.map_append]
        rfl
      · refine ((P4.upd nlp nlc).upd ngp ngc).more ?_
        rw [List.length_append, List.length_singleton]
        omega
      · exact ((sx.trans (.of s3)).trans s4 |>.new nl).new hg0
    · rw [eqv_list] at hne
      have e0 : rs = [] := by
        cases rs with
        | nil => rfl
        | cons _ _ => simp at hne
      subst e0
      rw [List.append_nil] at hperm
      exact ⟨_, rfl, k g fs _ hg0 (s3 _ _ hg) hperm ((P1.same s3).more (by simp at hsum; omega)) (sx.trans (.of s3))⟩
end
end Lk10
set_option Elab.async false
set_option maxRecDepth 100000
namespace Lk10
open PySem L2 Lw
section
variable {P : Program} {w : World} {K : PySem.W.Frag} {mg : Str → Option Value} {base : Heap}
abbrev s_law : Stmt := top 30
theorem sc_law : FnScope ["_law_script", "_law_pen_here", "_law_turn", "_law_places", "_law_one", "_law_other", "_law_first", "_law_second", "_law_word_here", "_law_due", "_law_handed_here", "_law_drawn", "_law_order"] ["_law_script"] (defScope s_law) := ⟨rfl, rfl, rfl, by decide +kernel, rfl, by decide +kernel, by decide +kernel⟩
def spLaw (K : PySem.W.Frag) : Sp := fun vs H Q _ => ∃ (a : Addr) (ns : List Int), vs = [.ref a] ∧ SqL K H a (ns.map V.int) ∧ ns.length ≤ 63 ∧ ∀ H', Q (.bl true) H'
set_option maxHeartbeats 4000000 in
theorem ok_law {f : Addr} {fd : FuncData} (F : Fun K "law" "law" s_law f fd) (T : Bare mg)
    (D_pen : Has P w K mg base 1 "_law_pen" ["_law_script"] (spPen K)) (D_draw : Has P w K mg base 1 "_law_draw" ["_law_pen_here", "_law_many"] spDraw)
    (D_word : Has P w K mg base 2 "_law_word" ["_law_pen_here", "_law_places", "_law_many"] spWord) (D_stand : Has P w K mg base 1 "_law_stand" ["_law_places", "_law_word_here"] spStand)
    (D_handed : Has P w K mg base 2 "_law_handed" ["_law_pen_here", "_law_some"] spHanded) (D_form : Has P w K mg base 1 "_law_form" ["_law_order"] spForm)
    (D_shuffled : Has P w K mg base 2 "_law_shuffled" ["_law_pen_here", "_law_some"] spShuffled) (D_order_of : Has P w K mg base 4 "order_of" ["places", "word"] spOrderOf)
    (D_joined : Has P w K mg base 4 "joined" ["one", "other"] spJoined) (D_undone : Has P w K mg base 4 "undone" ["order"] spUndone) : FnG P w K mg base 5 f fd ["_law_script"] (spLaw K) := by
  obtain ⟨_, _, G_pen, m_pen, k_pen, b_pen⟩ := D_pen
  obtain ⟨_, _, G_draw, m_draw, k_draw, b_draw⟩ := D_draw
  obtain ⟨_, _, G_word, m_word, k_word, b_word⟩ := D_word
  obtain ⟨_, _, G_stand, m_stand, k_stand, b_stand⟩ := D_stand
  obtain ⟨_, _, G_handed, m_handed, k_handed, b_handed⟩ := D_handed
  obtain ⟨_, _, G_form, m_form, k_form, b_form⟩ := D_form
  obtain ⟨_, _, G_shuffled, m_shuffled, k_shuffled, b_shuffled⟩ := D_shuffled
  obtain ⟨_, _, G_order_of, m_order_of, k_order_of, b_order_of⟩ := D_order_of
  obtain ⟨_, _, G_joined, m_joined, k_joined, b_joined⟩ := D_joined
  obtain ⟨_, _, G_undone, m_undone, k_undone, b_undone⟩ := D_undone
  refine gok F sc_law (fun vs H Q E h => ?_) (fun cdv A outer s H vs Q E hgA hr h => ?_)
  · obtain ⟨a, ns, rfl, _⟩ := h
    rfl
  · obtain ⟨a, ns, rfl, hS, hl, k⟩ := h
    have hg : (A.deeper (PyProof.Rows.envOfC "law" (defScope s_law) s.heap.objs.size f cdv)).guards = some [] := hgA
    refine ⟨_, (pss_cons (ps_set (i := 1) sc_law.nd rfl (Or.inl rfl) (pe_call G_pen (hr.mono (by decide)) rfl m_pen k_pen b_pen .nil pass0 (pa_cons (pv 0) pa_nil)))
      (pss_cons (ps_for PassesOwn.never rfl (pi_range1 rfl T.n_range (pa_cons pe_int pa_nil)) (pg_name (i := 2) sc_law.nd rfl (Or.inl rfl))
      (pss_cons (ps_set (i := 3) sc_law.nd rfl (Or.inl rfl) (pe_op op_add pe_int (pe_call G_draw (hr.mono (by decide)) rfl m_draw k_draw b_draw .nil pass0 (pa_cons (pv 1) (pa_cons (pe_ix ix_list (pe_lst (pa_cons pe_int (pa_cons pe_int (pa_cons pe_int pa_nil)))) (pe_call G_draw (hr.mono (by decide)) rfl m_draw k_draw b_draw .nil pass0 (pa_cons (pv 1) (pa_cons pe_int pa_nil))) (fun _ _ => rfl)) pa_nil)))))
      (pss_cons (ps_par (i := 4) (j := 5) rfl sc_law.nd rfl rfl (by decide) rfl rfl (pa_cons (pe_call G_word (hr.mono (by decide)) rfl m_word k_word b_word .nil pass0 (pa_cons (pv 1) (pa_cons (pv 3) (pa_cons pe_int pa_nil)))) (pa_cons (pe_call G_word (hr.mono (by decide)) rfl m_word k_word b_word .nil pass0 (pa_cons (pv 1) (pa_cons (pv 3) (pa_cons pe_int pa_nil)))) pa_nil)) (by rfl))
      (pss_cons (ps_par (i := 6) (j := 7) rfl sc_law.nd rfl rfl (by decide) rfl rfl (pa_cons (pe_call G_stand (hr.mono (by decide)) rfl m_stand k_stand b_stand .nil pass0 (pa_cons (pv 3) (pa_cons (pv 4) pa_nil))) (pa_cons (pe_call G_stand (hr.mono (by decide)) rfl m_stand k_stand b_stand .nil pass0 (pa_cons (pv 3) (pa_cons (pv 5) pa_nil))) pa_nil)) (by rfl))
      (pss_cons (ps_for PassesOwn.never rfl (pi_tup (pe_tupF (pa_cons (pe_tupF (pa_cons (pv 4) (pa_cons (pv 6) pa_nil))) (pa_cons (pe_tupF (pa_cons (pv 5) (pa_cons (pv 7) pa_nil))) (pa_cons (pe_tupF (pa_cons (pe_op op_catF (pv 4) (pv 5)) (pa_cons (pe_call G_stand (hr.mono (by decide)) rfl m_stand k_stand b_stand .nil pass0 (pa_cons (pv 3) (pa_cons (pe_op op_catF (pv 4) (pv 5)) pa_nil))) pa_nil))) pa_nil))))) (pg_tup rfl (pgs_cons (pg_name (i := 8) sc_law.nd rfl (Or.inl rfl)) (pgs_cons (pg_name (i := 9) sc_law.nd rfl (Or.inl rfl)) pgs_nil)))
      (pss_cons (ps_set (i := 10) sc_law.nd rfl (Or.inl rfl) (pe_call G_handed (hr.mono (by decide)) rfl m_handed k_handed b_handed .nil pass0 (pa_cons (pv 1) (pa_cons (pv 8) pa_nil))))
      (pss_one (ps_if (PW.pt (pw_or (pt_cmpR op_ne (pe_callB (call_reprK (K := K) rfl hg hr.units) (by rfl) T.n_repr (by decide +kernel) (pa_cons (pe_call G_order_of (hr.mono (by decide)) rfl m_order_of k_order_of b_order_of .nil pass0 (pa_cons (pv 3) (pa_cons (pv 10) pa_nil))) pa_nil)) (pe_callB (call_reprK (K := K) rfl hg hr.units) (by rfl) T.n_repr (by decide +kernel) (pa_cons (pv 9) pa_nil)) (nomark _)) (pw_or1 (pt_cmpR (op_neDK (K := K) rfl hr.units) (pe_callTy (call_listK (K := K) rfl) (by rfl) T.n_list (by decide +kernel) (pa_cons (pv 10) pa_nil)) (pe_callTy (call_listK (K := K) rfl) (by rfl) T.n_list (by decide +kernel) (pa_cons (pv 8) pa_nil)) (nomark _)))))
      (pss_one (ps_ret pe_bl)) pss_nil))))
      (pss_cons (ps_set (i := 10) sc_law.nd rfl (Or.inl rfl) (pe_lst (pa_cons (pe_call G_handed (hr.mono (by decide)) rfl m_handed k_handed b_handed .nil pass0 (pa_cons (pv 1) (pa_cons (pv 6) pa_nil))) (pa_cons (pe_call G_handed (hr.mono (by decide)) rfl m_handed k_handed b_handed .nil pass0 (pa_cons (pv 1) (pa_cons (pv 7) pa_nil))) pa_nil))))
      (pss_cons (ps_if (pt_cmpR op_ne (pe_callB (call_reprK (K := K) rfl hg hr.units) (by rfl) T.n_repr (by decide +kernel) (pa_cons (pe_call G_joined (hr.mono (by decide)) rfl m_joined k_joined b_joined .nil pass0 (pa_cons (pe_ix ix_list (pv 10) pe_int (fun _ _ => rfl)) (pa_cons (pe_ix ix_list (pv 10) pe_int (fun _ _ => rfl)) pa_nil))) pa_nil)) (pe_callB (call_reprK (K := K) rfl hg hr.units) (by rfl) T.n_repr (by decide +kernel) (pa_cons (pe_call G_stand (hr.mono (by decide)) rfl m_stand k_stand b_stand .nil pass0 (pa_cons (pv 3) (pa_cons (pe_op op_catF (pv 4) (pv 5)) pa_nil))) pa_nil)) (nomark _))
      (pss_one (ps_ret pe_bl)) pss_nil)
      (pss_cons (ps_if (pt_cmpR op_ne (pe_callB (call_reprK (K := K) rfl hg hr.units) (by rfl) T.n_repr (by decide +kernel) (pa_cons (pe_call G_undone (hr.mono (by decide)) rfl m_undone k_undone b_undone .nil pass0 (pa_cons (pe_ix ix_list (pv 10) pe_int (fun _ _ => rfl)) pa_nil)) pa_nil)) (pe_callB (call_reprK (K := K) rfl hg hr.units) (by rfl) T.n_repr (by decide +kernel) (pa_cons (pe_call G_stand (hr.mono (by decide)) rfl m_stand k_stand b_stand .nil pass0 (pa_cons (pv 3) (pa_cons (pe_revT (pv 4)) pa_nil))) pa_nil)) (nomark _))
      (pss_one (ps_ret pe_bl)) pss_nil)
      (pss_cons (ps_if (pt_cmpR (op_neDK (K := K) rfl hr.units) (pe_lc (own := [("_law_order", 12)]) (g := gName 12) (tt := tYes) rfl sc_law.nd (pi_list (pv 10)) (blkOk_by (own := [("_law_order", 12)]) (N := ["_law_script", "_law_pen_here", "_law_turn", "_law_places", "_law_one", "_law_other", "_law_first", "_law_second", "_law_word_here", "_law_due", "_law_handed_here", "_law_drawn", "_law_order"]) (sc := defScope s_law) (by decide +kernel)) (fun _ _ _ _ _ => pg_name (i := 12) sc_law.nd rfl (Or.inl rfl)) (fun _ _ _ _ _ => pts_nil) (fun _ _ _ _ _ => (pe_callTy (call_listK (K := K) rfl) (by rfl) T.n_list (by decide +kernel) (pa_cons (pv 12) pa_nil)))) (pe_lst (pa_cons (pe_callTy (call_listK (K := K) rfl) (by rfl) T.n_list (by decide +kernel) (pa_cons (pv 6) pa_nil)) (pa_cons (pe_callTy (call_listK (K := K) rfl) (by rfl) T.n_list (by decide +kernel) (pa_cons (pv 7) pa_nil)) pa_nil))) (nomark _))
      (pss_one (ps_ret pe_bl)) pss_nil)
      (pss_cons (ps_set (i := 11) sc_law.nd rfl (Or.inl rfl) (pe_callTy (call_tupleF (K := K) rfl) (by rfl) T.n_tuple (by decide +kernel) (pa_cons (pe_call G_shuffled (hr.mono (by decide)) rfl m_shuffled k_shuffled b_shuffled .nil pass0 (pa_cons (pv 1) (pa_cons (pe_listRg rfl rfl T.n_list (prg_1 rfl T.n_range (pv 3))) pa_nil))) pa_nil)))
      (pss_one (ps_if (PW.pt (pw_or (pt_cmpR (op_neDK (K := K) rfl hr.units) (pe_call G_order_of (hr.mono (by decide)) rfl m_order_of k_order_of b_order_of .nil pass0 (pa_cons (pv 3) (pa_cons (pe_call G_form (hr.mono (by decide)) rfl m_form k_form b_form .nil pass0 (pa_cons (pv 11) pa_nil)) pa_nil))) (pv 11) (nomark _)) (pw_or1 (pt_cmpR (op_neDK (K := K) rfl hr.units) (pe_call G_joined (hr.mono (by decide)) rfl m_joined k_joined b_joined .nil pass0 (pa_cons (pv 11) (pa_cons (pe_call G_undone (hr.mono (by decide)) rfl m_undone k_undone b_undone .nil pass0 (pa_cons (pv 11) pa_nil)) pa_nil))) (pe_tupRgF rfl rfl T.n_tuple (prg_1 rfl T.n_range (pv 3))) (nomark _)))))
      (pss_one (ps_ret pe_bl)) pss_nil))))))))))))
      (pss_one (ps_ret pe_bl)))), ?_⟩
    refine ⟨_, rfl, a, ns, rfl, hS, hl, fun p c H1 np s1 P1 => ?_⟩
    refine ⟨_, rfl, by decide, by decide, for_range (lo := 0) (n := 6) (fun i σ H' => (∃ x2 x3 x4 x5 x6 x7 x8 x9 x10 x11 x12, σ = [some (.ref a), some (.ref p), x2, x3, x4, x5, x6, x7, x8, x9, x10, x11, x12]) ∧ PenAt H' p c (i * 1000))
      ⟨⟨_, _, _, _, _, _, _, _, _, _, _, rfl⟩, P1.more (by omega)⟩ ?_ (fun σ H' _ => k H')⟩
    rintro i σ H2 hi ⟨⟨x2, x3, x4, x5, x6, x7, x8, x9, x10, x11, x12, rfl⟩, P2⟩
    -- the number of places
    (try dsimp only [gName])
    refine seq_set_cut (fun v H' => ∃ n : Nat, v = .int n ∧ 1 ≤ n ∧ n ≤ 60 ∧ PenAt H' p c (i * 1000 + 2)) (fun Q hQ => ?_) ?_
    · refine ⟨_, rfl, (by show 3 ≤ sizeLine; decide), fun l nl => ?_⟩
      have Pl := P2.same (same_new (o := .lst [.int 4, .int 9, .int 60]) nl)
      refine ⟨_, rfl, p, c, _, _, rfl, Pl, by omega, by decide, by decide, fun d H4 d0 d1 P4 s4 => ?_⟩
      have three : ∃ v : Int, atI [V.int 4, V.int 9, V.int 60] d = some (.int v) ∧ 1 ≤ v ∧ v ≤ 60 := by
        have : d = 0 ∨ d = 1 ∨ d = 2 := by omega
        rcases this with rfl | rfl | rfl
        · exact ⟨4, rfl, by decide, by decide⟩
        · exact ⟨9, rfl, by decide, by decide⟩
        · exact ⟨60, rfl, by decide, by decide⟩
      obtain ⟨v, hv, v1, v60⟩ := three
      refine ⟨l, _, _, _, rfl, rfl, SqL.of (s4.lst Pl upd_same), hv, p, c, _, _, rfl, P4, by omega, v1, by omega, fun e H5 e0 e1 P5 s5 => ?_⟩
      refine ⟨_, _, rfl, rfl, hQ _ _ ⟨(1 + e).toNat, ?_, by omega, by omega, P5⟩⟩
      have : (1 : Int) + e = ((1 + e).toNat : Int) := by omega
      rw [← this]
    rintro v H3 ⟨n, rfl, n1, n60, P3⟩
    -- two words, where they lead
    refine ⟨_, rfl, _, rfl, p, c, n, 60, _, rfl, P3, by omega, n1, n60, by decide, fun r1 w1 H4 t1 ok1 l1 P4 s4 => ?_⟩
    refine ⟨_, rfl, _, rfl, p, c, n, 60, _, rfl, P4, by omega, n1, n60, by decide, fun r2 w2 H5 t2 ok2 l2 P5 s5 => ⟨_, _, rfl, ?_⟩⟩
    have t1 := t1.sameX s5 P4
    refine ⟨_, rfl, _, rfl, n, r1, w1, rfl, n60, t1, ok1, fun r3 H6 s6 t3 => ?_⟩
    refine ⟨_, rfl, _, rfl, n, r2, w2, rfl, n60, t2.same s6, ok2, fun r4 H7 s7 t4 => ⟨_, _, rfl, ?_⟩⟩
    have t1 := (t1.same s6).same s7
    have t2 := (t2.same s6).same s7
    have t3 := t3.same s7
    have P7 := (P5.same s6).same s7
    have ok12 := okw_append ok1 ok2
    have l12 : (w1 ++ w2).length ≤ 120 := by rw [List.length_append]; omega
    have line2 : (2 : Nat) ≤ sizeLine := by decide
    have lineW : (w1.map V.int).length + (w2.map V.int).length ≤ sizeLine := by rw [List.length_map, List.length_map]; exact small_line (by omega)
    clear P5 P4 P3 s5 s4 s6 s7 s1 P1
    -- the three of them
    dsimp only
    refine seq_cut (fun σ' H' => (∃ x8 x9 x10 x11 x12, σ' = [some (.ref a), some (.ref p), some (.int (0 + (i : Int))), some (.int n), some (.ref r1), some (.ref r2), some (.ref r3), some (.ref r4), x8, x9, x10, x11, x12]) ∧
      PenAt H' p c (i * 1000 + 130) ∧ SameX p H7 H') (fun N hN => ?_) ?_
    · refine ⟨_, rfl, _, rfl, line2, fun a1 G1 z1 ta1 => ⟨_, rfl, _, rfl, line2, fun a2 G2 z2 ta2 => ?_⟩⟩
      have z12 := z1.trans z2
      refine ⟨_, rfl, _, rfl, r1, r2, _, _, rfl, rfl, t1.same z12, t2.same z12, lineW, fun r5 G3 z3 t5 => ?_⟩
      have z13 := z12.trans z3
      rw [← List.map_append] at t5
      refine ⟨_, rfl, _, rfl, _, rfl, r1, r2, _, _, rfl, rfl, t1.same z13, t2.same z13, lineW, fun r6 G4 z4 t6 => ?_⟩
      rw [← List.map_append] at t6
      refine ⟨n, r6, _, rfl, n60, t6, ok12, fun r7 G5 z5 t7 => ⟨line2, fun a3 G6 z6 ta3 => ⟨by show 3 ≤ sizeLine; decide, fun tT G7 z7 hT => ?_⟩⟩⟩
      have z37 := ((z4.trans z5).trans z6).trans z7
      have z27 := z3.trans z37
      have z17 := z12.trans z27
      have pairs : ∀ (j : Nat) (x : V), [V.ref a1, V.ref a2, V.ref a3][j]? = some x → ∃ (t wa da : Addr) (ws : List Int), x = V.ref t ∧ Tup G7 t [V.ref wa, V.ref da] ∧ Tup G7 wa (ws.map V.int) ∧ OkW n ws ∧ ws.length ≤ 120 ∧ Tup G7 da ((run (idl n) ws).map V.int) := by
        intro j x hx
        match j, hx with
        | 0, hx =>
          cases hx
          exact ⟨a1, r1, r3, w1, rfl, ta1.same (z2.trans z27), t1.same z17, ok1, by omega, t3.same z17⟩
        | 1, hx =>
          cases hx
          exact ⟨a2, r2, r4, w2, rfl, ta2.same z27, t2.same z17, ok2, by omega, t4.same z17⟩
        | 2, hx =>
          cases hx
          exact ⟨a3, r5, r7, w1 ++ w2, rfl, ta3.same z7, t5.same z37, ok12, l12, t7.same (z6.trans z7)⟩
      have Pg := P7.same z17
      refine ⟨tT, rfl, ⟨_, hT.t⟩, for_tup (K := K) (a := tT) (xs := [V.ref a1, V.ref a2, V.ref a3]) (fun j σ' H' => (∃ x8 x9 x10 x11 x12, σ' = [some (.ref a), some (.ref p), some (.int (0 + (i : Int))), some (.int n), some (.ref r1), some (.ref r2), some (.ref r3), some (.ref r4), x8, x9, x10, x11, x12]) ∧
        PenAt H' p c (i * 1000 + 124 + j) ∧ SameX p G7 H') ⟨⟨_, _, _, _, _, rfl⟩, Pg.more (by omega), SameX.refl _ _⟩ (fun j σ' H' _ z => (hT.sameX z.2.2 Pg).t) ?_ ?_⟩
      · rintro j x σ' H' hx ⟨⟨x8, x9, x10, x11, x12, rfl⟩, Pj, sj⟩
        have hj3 : j < 3 := (List.getElem?_eq_some_iff.mp hx).1
        obtain ⟨t, wa, da, ws, rfl, ht, hwa, okw, lw, hda⟩ := pairs j x hx
        have ht := ht.sameX sj Pg
        have hwa := hwa.sameX sj Pg
        have hda := hda.sameX sj Pg
        refine ⟨t, _, rfl, ht.t, rfl, _, _, rfl, _, _, rfl, rfl, ?_⟩
        refine ⟨_, rfl, _, rfl, p, c, wa, _, _, rfl, .inr hwa, Pj, by omega, fun h K1 hq K1P ks => ?_⟩
        have hwa := hwa.sameX ks Pj
        have hda := hda.sameX ks Pj
        refine ⟨_, rfl, _, rfl, n, h, ws, rfl, n1, n60, hq, okw, by omega, fun r K2 ks2 hr2 => ?_⟩
        refine ⟨r, _, rfl, dp_tupF hr2, (rpT (small_ord (ord_run n _) n60)).1, (rpT (small_ord (ord_run n _) n60)).2.1, (rpT (small_ord (ord_run n _) n60)).2.2.1, (rpT (small_ord (ord_run n _) n60)).2.2.2, ?_⟩
        refine ⟨_, rfl, ?_⟩
        refine ⟨da, _, rfl, dp_tupF (hda.same ks2), (rpT (small_ord (ord_run n _) n60)).1, (rpT (small_ord (ord_run n _) n60)).2.1, (rpT (small_ord (ord_run n _) n60)).2.2.1, (rpT (small_ord (ord_run n _) n60)).2.2.2, ?_⟩
        refine ⟨rfl, _, rfl, ifF (by simp) ?_⟩
        have hq2 := hq.same ks2
        refine ⟨_, rfl, h, _, rfl, hq2.lt, fun c1 nc1 => ⟨_, rfl, wa, _, rfl, .inr ((hwa.same ks2).same (same_new nc1)).t, fun c2 nc2 => ?_⟩⟩
        refine ⟨_, _, dp_list (same_new nc2 _ _ upd_same), dp_list upd_same, shaped_list _, shaped_list _, _, rfl, ifF (eqv_refl_ints ws) ?_⟩
        exact ⟨⟨_, _, _, _, _, rfl⟩, (((K1P.same ks2).same (same_new nc1)).same (same_new nc2)).more (by omega), (sj.trans ks).trans (.of ((ks2.trans (same_new nc1)).trans (same_new nc2)))⟩
      · rintro σ' H' ⟨hσ, Pj, sj⟩
        exact hN _ _ ⟨hσ, Pj.more (by show i * 1000 + 124 + 3 ≤ _; omega), (SameX.of z17).trans sj⟩
    rintro σ' H8 ⟨⟨x8, x9, x10, x11, x12, rfl⟩, P8, s8⟩
    have t1 := t1.sameX s8 P7
    have t2 := t2.sameX s8 P7
    have t3 := t3.sameX s8 P7
    have t4 := t4.sameX s8 P7
    have o1 := ord_run n w1
    have o2 := ord_run n w2
    clear P7 s8
    -- both handed on
    refine ⟨_, rfl, _, rfl, p, c, r3, _, _, rfl, .inr t3, P8, by omega, fun h1 H9 q1 P9 s9 => ?_⟩
    refine ⟨_, rfl, _, rfl, p, c, r4, _, _, rfl, .inr (t4.sameX s9 P8), P9, by omega, fun h2 H10 q2 P10 s10 => ⟨line2, fun hs nhs => ?_⟩⟩
    have q1 := (q1.sameX s10 P9).same (same_new (o := .lst [.ref h1, .ref h2]) nhs)
    have q2 := q2.same (same_new (o := .lst [.ref h1, .ref h2]) nhs)
    have t1 := ((t1.sameX s9 P8).sameX s10 P9).same (same_new (o := .lst [.ref h1, .ref h2]) nhs)
    have t2 := ((t2.sameX s9 P8).sameX s10 P9).same (same_new (o := .lst [.ref h1, .ref h2]) nhs)
    have t3 := ((t3.sameX s9 P8).sameX s10 P9).same (same_new (o := .lst [.ref h1, .ref h2]) nhs)
    have t4 := ((t4.sameX s9 P8).sameX s10 P9).same (same_new (o := .lst [.ref h1, .ref h2]) nhs)
    have P11 := P10.same (same_new (o := .lst [.ref h1, .ref h2]) nhs)
    have hh : (upd H10 hs (.lst [.ref h1, .ref h2])) hs = some (.lst [.ref h1, .ref h2]) := upd_same
    generalize upd H10 hs (.lst [.ref h1, .ref h2]) = H11 at q1 q2 t1 t2 t3 t4 P11 hh
    clear P8 P9 P10 s9 s10
    -- joined
    refine ⟨_, rfl, hs, _, 0, .ref h1, rfl, rfl, SqL.of hh, rfl, _, rfl, hs, _, 1, .ref h2, rfl, rfl, SqL.of hh, rfl, ?_⟩
    refine ⟨n, h1, h2, _, _, rfl, n1, n60, q1, q2, o1, o2, fun r5 H12 s12 t5 => ?_⟩
    rw [← run_join] at t5
    refine ⟨r5, _, rfl, dp_tupF t5, (rpT (small_ord (ord_run n _) n60)).1, (rpT (small_ord (ord_run n _) n60)).2.1, (rpT (small_ord (ord_run n _) n60)).2.2.1, (rpT (small_ord (ord_run n _) n60)).2.2.2, ?_⟩
    refine ⟨_, rfl, _, rfl, _, rfl, r1, r2, _, _, rfl, rfl, t1.same s12, t2.same s12, lineW, fun r6 H13 s13 t6 => ?_⟩
    rw [← List.map_append] at t6
    refine ⟨n, r6, _, rfl, n60, t6, ok12, fun r7 H14 s14 t7 => ?_⟩
    refine ⟨r7, _, rfl, dp_tupF t7, (rpT (small_ord (ord_run n _) n60)).1, (rpT (small_ord (ord_run n _) n60)).2.1, (rpT (small_ord (ord_run n _) n60)).2.2.1, (rpT (small_ord (ord_run n _) n60)).2.2.2, ?_⟩
    refine ⟨rfl, _, rfl, ifF (by simp) ?_⟩
    have z14 := (s12.trans s13).trans s14
    -- undone
    refine ⟨_, rfl, hs, _, 0, .ref h1, rfl, rfl, SqL.of (z14 _ _ hh), rfl, n, h1, _, _, rfl, n1, n60, q1.same z14, o1, undoes_run n w1, fun r8 H15 s15 t8 => ?_⟩
    refine ⟨r8, _, rfl, dp_tupF t8, (rpT (small_ord (ord_run n _) n60)).1, (rpT (small_ord (ord_run n _) n60)).2.1, (rpT (small_ord (ord_run n _) n60)).2.2.1, (rpT (small_ord (ord_run n _) n60)).2.2.2, ?_⟩
    refine ⟨_, rfl, _, rfl, r1, _, rfl, t1.same (z14.trans s15), fun r9 H16 s16 t9 => ?_⟩
    rw [← List.map_reverse] at t9
    refine ⟨n, r9, _, rfl, n60, t9, okw_rev ok1, fun r10 H17 s17 t10 => ?_⟩
    refine ⟨r10, _, rfl, dp_tupF t10, (rpT (small_ord (ord_run n _) n60)).1, (rpT (small_ord (ord_run n _) n60)).2.1, (rpT (small_ord (ord_run n _) n60)).2.2.1, (rpT (small_ord (ord_run n _) n60)).2.2.2, ?_⟩
    refine ⟨rfl, _, rfl, ifF (by simp) ?_⟩
    have z17 := ((z14.trans s15).trans s16).trans s17
    have hh17 := z17 _ _ hh
    have P17 := P11.same z17
    have q1 := q1.same z17
    have q2 := q2.same z17
    have t3 := t3.same z17
    have t4 := t4.same z17
    clear t1 t2 t5 t6 t7 t8 t9 t10 P11 hh z14 s12 s13 s14 s15 s16 s17
    -- [list(order) for order in handed] != [list(first), list(second)]
    refine ⟨_, rfl, hs, rfl, ⟨_, SqL.of hh17⟩, fun D nD => ?_⟩
    refine lc_list (K := K) (a := hs) (xs := [V.ref h1, V.ref h2]) (fun j H' => Same H17 H' ∧ ∃ ls : List Addr, ls.length = j ∧ H' D = some (.lst (ls.map V.ref)) ∧ (∀ u, ls[0]? = some u → H' u = some (.lst ((run (idl n) w1).map V.int))) ∧ (∀ u, ls[1]? = some u → H' u = some (.lst ((run (idl n) w2).map V.int))))
      ⟨same_new nD, [], rfl, upd_same, (fun u h => by cases h), fun u h => by cases h⟩ (fun j H' _ z => SqL.of (z.1 _ _ hh17)) ?_ ?_
    · rintro j x H' hx ⟨s18, ls, hls, hD, e0, e1⟩
      have pick : ∃ (h : Addr) (us : List Int), x = V.ref h ∧ Sq H' h (us.map V.int) ∧ (j = 0 → us = run (idl n) w1) ∧ (j = 1 → us = run (idl n) w2) ∧ j < 2 := by
        match j, hx with
        | 0, hx =>
          cases hx
          exact ⟨h1, _, rfl, q1.same s18, fun _ => rfl, (fun h => by cases h), by decide⟩
        | 1, hx =>
          cases hx
          exact ⟨h2, _, rfl, q2.same s18, (fun h => by cases h), fun _ => rfl, by decide⟩
      obtain ⟨h, us, rfl, hq, ju0, ju1, hj2⟩ := pick
      refine ⟨rfl, _, rfl, h, _, rfl, hq.lt, fun l nl => ?_⟩
      have nDl : D ≠ l := ne_of_none hD nl
      refine ⟨_, by rw [upd_ne nDl]; exact hD, by rw [List.length_map]; exact small_lt (by omega), fun b o e => ?_, ls ++ [l], by rw [List.length_append, hls]; rfl, by rw [upd_same, List.map_append]; rfl, fun u hu => ?_, fun u hu => ?_⟩
      · rw [upd_ne (ne_of_none e nD), upd_ne (ne_of_none (s18 _ _ e) nl)]
        exact s18 _ _ e
      · by_cases h0 : j = 0
        · subst h0
          have : ls = [] := List.length_eq_zero_iff.mp hls
          subst this
          cases hu
          rw [upd_ne nDl.symm, upd_same, ju0 rfl]
        · rw [List.getElem?_append_left (by omega)] at hu
          have hu' := e0 u hu
          have nuD : u ≠ D := fun e => by
            rw [e, hD] at hu'
            have := ref_int (HO.lst.inj (Option.some.inj hu'))
            rw [this] at hls
            exact h0 hls.symm
          rw [upd_ne nuD, upd_ne (ne_of_none hu' nl)]
          exact hu'
      · have hlen : 1 < (ls ++ [l]).length := (List.getElem?_eq_some_iff.mp hu).1
        rw [List.length_append, hls] at hlen
        have j1 : j = 1 := by simp at hlen; omega
        subst j1
        have hu' : (ls ++ [l])[1]? = some l := by rw [List.getElem?_append_right (by omega), hls]; rfl
        rw [hu'] at hu
        cases hu
        rw [upd_ne nDl.symm, upd_same, ju1 rfl]
    · rintro H' ⟨s18, ls, hls, hD, e0, e1⟩
      obtain ⟨u0, u1, rfl⟩ : ∃ u0 u1, ls = [u0, u1] := by
        match ls, hls with
        | [u0, u1], _ => exact ⟨u0, u1, rfl⟩
      have e0 := e0 u0 rfl
      have e1 := e1 u1 rfl
      refine ⟨_, rfl, r3, _, rfl, .inr (t3.same s18).t, fun l3 nl3 => ?_⟩
      have z1 := same_new (o := .lst ((run (idl n) w1).map V.int)) nl3
      refine ⟨_, rfl, r4, _, rfl, .inr ((t4.same s18).same z1).t, fun l4 nl4 => ⟨line2, fun M nM => ?_⟩⟩
      have z2 := same_new (o := .lst ((run (idl n) w2).map V.int)) nl4
      have z3 := same_new (o := .lst [.ref l3, .ref l4]) nM
      have z := (z1.trans z2).trans z3
      refine ⟨_, _, .lst (SqL.of (z _ _ hD)) (.cons (dp_list (z _ _ e0)) (.cons (dp_list (z _ _ e1)) .nil)), .lst (SqL.of upd_same) (.cons (dp_list (z3 _ _ (z2 _ _ upd_same))) (.cons (dp_list (z3 _ _ upd_same)) .nil)), shaped_2 _ _, shaped_2 _ _, _, rfl, ifF (eqv_2 _ _) ?_⟩
      have P20 := (P17.same s18).same z
      have t3 := (t3.same s18).same z
      generalize upd (upd (upd H' l3 _) l4 _) M _ = H20 at P20
      clear z z1 z2 z3
      -- a drawn order
      refine ⟨_, rfl, _, rfl, _, rfl, RgOk.of_le (by omega) (by omega) (by omega) (by omega), fun l nl => ?_⟩
      rw [rg_idl]
      have P21 := P20.same (same_new (o := .lst ((idl n).map V.int)) nl)
      refine ⟨p, c, l, idl n, _, rfl, .inl upd_same, by rw [idl_len]; exact n60, P21, by omega, fun r ms H22 nr hr perm P22 s22 => ⟨r, _, rfl, .inl (SqL.of hr), fun d H23 s23 hd => ?_⟩⟩
      have om : Ord n ms := perm
      obtain ⟨okf, lf⟩ := form_ok om n1 n60
      have fr := form_run om n1
      refine ⟨_, rfl, _, rfl, n, d, ms, rfl, n1, n60, hd, om, fun g H24 s24 hg => ?_⟩
      refine ⟨n, g, _, rfl, n1, n60, .inr hg, okf, by omega, fun r2 H25 s25 hr2 => ?_⟩
      rw [fr] at hr2
      have z25 := s24.trans s25
      refine ⟨_, rfl, _, _, dp_tupF hr2, dp_tupF (hd.same z25), shaped_tup _, shaped_tup _, _, rfl, ifF (eqv_refl_tup _) ?_⟩
      have un := undoes_run n (form n ms)
      rw [fr] at un
      refine ⟨_, rfl, _, rfl, n, d, ms, _, rfl, n1, n60, .inr (hd.same z25), om, un, fun u H26 s26 hu => ?_⟩
      refine ⟨n, d, u, ms, _, rfl, n1, n60, .inr ((hd.same z25).same s26), .inr hu, om, ord_run n _, fun r3' H27 s27 hr3 => ?_⟩
      rw [un.join] at hr3
      refine ⟨_, rfl, _, rfl, RgOk.of_le (by omega) (by omega) (by omega) (by omega), fun q H28 s28 hq => ?_⟩
      rw [rg_idl] at hq
      refine ⟨_, _, dp_tupF (hr3.same s28), dp_tupF hq, shaped_tup _, shaped_tup _, _, rfl, ifF (eqv_refl_tup _) ?_⟩
      exact ⟨⟨_, _, _, _, _, _, _, _, _, _, _, rfl⟩, ((((P22.same s23).same z25).same s26).same (s27.trans s28)).more (by omega)⟩
end
end Lk10
set_option Elab.async false
set_option maxRecDepth 100000
namespace Lk10
open PySem L2 Lw
theorem all_mk {l : PySem.W.OpenLaw} {w : World} {K : PySem.W.Frag} {h : Heap} {mg : Str → Option Value} {fa : Addr} (X : K.In h) (G : h.Ns mainGlobals mg) (hfa : mg "law" = some (.ref fa))
    {f_is_listing f_is_number f_word_fault f_order_fault f_number_taken f_places_taken f_word_taken f_order_taken f_order_of f_joined f_undone f_pen f_draw f_word f_handed f_stand f_form f_shuffled f_law : Addr} {od_is_listing an_is_listing od_is_number an_is_number od_word_fault an_word_fault od_order_fault an_order_fault od_number_taken an_number_taken od_places_taken an_places_taken od_word_taken an_word_taken od_order_taken an_order_taken od_order_of an_order_of od_joined an_joined od_undone an_undone od_pen an_pen od_draw an_draw od_word an_word od_handed an_handed od_stand an_stand od_form an_form od_shuffled an_shuffled od_law an_law : Option Addr} {sl_is_listing sl_is_number sl_word_fault sl_order_fault sl_number_taken sl_places_taken sl_word_taken sl_order_taken sl_order_of sl_joined sl_undone sl_pen sl_draw sl_word sl_handed sl_stand sl_form sl_shuffled sl_law : Array (Option Value)}
    {oc_is_listing kV_is_listing dc_is_listing pm_is_listing cd_is_listing ct_is_listing oc_is_number kV_is_number dc_is_number pm_is_number cd_is_number ct_is_number oc_word_fault kV_word_fault dc_word_fault pm_word_fault cd_word_fault ct_word_fault oc_order_fault kV_order_fault dc_order_fault pm_order_fault cd_order_fault ct_order_fault oc_number_taken kV_number_taken dc_number_taken pm_number_taken cd_number_taken ct_number_taken oc_places_taken kV_places_taken dc_places_taken pm_places_taken cd_places_taken ct_places_taken oc_word_taken kV_word_taken dc_word_taken pm_word_taken cd_word_taken ct_word_taken oc_order_taken kV_order_taken dc_order_taken pm_order_taken cd_order_taken ct_order_taken oc_order_of kV_order_of dc_order_of pm_order_of cd_order_of ct_order_of oc_joined kV_joined dc_joined pm_joined cd_joined ct_joined oc_undone kV_undone dc_undone pm_undone cd_undone ct_undone oc_pen kV_pen dc_pen pm_pen cd_pen ct_pen oc_draw kV_draw dc_draw pm_draw cd_draw ct_draw oc_word kV_word dc_word pm_word cd_word ct_word oc_handed kV_handed dc_handed pm_handed cd_handed ct_handed oc_stand kV_stand dc_stand pm_stand cd_stand ct_stand oc_form kV_form dc_form pm_form cd_form ct_form oc_shuffled kV_shuffled dc_shuffled pm_shuffled cd_shuffled ct_shuffled oc_law kV_law dc_law pm_law cd_law ct_law : Value} {t_WORD t_PLACES : Tok}
    (a_is_listing : PySem.W.nsIn K mainGlobals "is_listing" = some (some (.ref f_is_listing)))
    (l_is_listing : K.lookup f_is_listing = some ⟨oc_is_listing, od_is_listing, .func (PySem.W.fnOf "is_listing" "is_listing" (defArgs s_is_listing) (defBody s_is_listing) (defScope s_is_listing) .none kV_is_listing dc_is_listing pm_is_listing an_is_listing cd_is_listing ct_is_listing), sl_is_listing⟩)
    (c_is_listing : PySem.W.codeIn K cd_is_listing "is_listing" = true) (k_is_listing : PySem.W.keepIn K (.ref f_is_listing) = true)
    (a_is_number : PySem.W.nsIn K mainGlobals "is_number" = some (some (.ref f_is_number)))
    (l_is_number : K.lookup f_is_number = some ⟨oc_is_number, od_is_number, .func (PySem.W.fnOf "is_number" "is_number" (defArgs s_is_number) (defBody s_is_number) (defScope s_is_number) .none kV_is_number dc_is_number pm_is_number an_is_number cd_is_number ct_is_number), sl_is_number⟩)
    (c_is_number : PySem.W.codeIn K cd_is_number "is_number" = true) (k_is_number : PySem.W.keepIn K (.ref f_is_number) = true)
    (a_word_fault : PySem.W.nsIn K mainGlobals "word_fault" = some (some (.ref f_word_fault)))
    (l_word_fault : K.lookup f_word_fault = some ⟨oc_word_fault, od_word_fault, .func (PySem.W.fnOf "word_fault" "word_fault" (defArgs s_word_fault) (defBody s_word_fault) (defScope s_word_fault) .none kV_word_fault dc_word_fault pm_word_fault an_word_fault cd_word_fault ct_word_fault), sl_word_fault⟩)
    (c_word_fault : PySem.W.codeIn K cd_word_fault "word_fault" = true) (k_word_fault : PySem.W.keepIn K (.ref f_word_fault) = true)
    (a_order_fault : PySem.W.nsIn K mainGlobals "order_fault" = some (some (.ref f_order_fault)))
    (l_order_fault : K.lookup f_order_fault = some ⟨oc_order_fault, od_order_fault, .func (PySem.W.fnOf "order_fault" "order_fault" (defArgs s_order_fault) (defBody s_order_fault) (defScope s_order_fault) .none kV_order_fault dc_order_fault pm_order_fault an_order_fault cd_order_fault ct_order_fault), sl_order_fault⟩)
    (c_order_fault : PySem.W.codeIn K cd_order_fault "order_fault" = true) (k_order_fault : PySem.W.keepIn K (.ref f_order_fault) = true)
    (a_number_taken : PySem.W.nsIn K mainGlobals "number_taken" = some (some (.ref f_number_taken)))
    (l_number_taken : K.lookup f_number_taken = some ⟨oc_number_taken, od_number_taken, .func (PySem.W.fnOf "number_taken" "number_taken" (defArgs s_number_taken) (defBody s_number_taken) (defScope s_number_taken) .none kV_number_taken dc_number_taken pm_number_taken an_number_taken cd_number_taken ct_number_taken), sl_number_taken⟩)
    (c_number_taken : PySem.W.codeIn K cd_number_taken "number_taken" = true) (k_number_taken : PySem.W.keepIn K (.ref f_number_taken) = true)
    (a_places_taken : PySem.W.nsIn K mainGlobals "places_taken" = some (some (.ref f_places_taken)))
    (l_places_taken : K.lookup f_places_taken = some ⟨oc_places_taken, od_places_taken, .func (PySem.W.fnOf "places_taken" "places_taken" (defArgs s_places_taken) (defBody s_places_taken) (defScope s_places_taken) .none kV_places_taken dc_places_taken pm_places_taken an_places_taken cd_places_taken ct_places_taken), sl_places_taken⟩)
    (c_places_taken : PySem.W.codeIn K cd_places_taken "places_taken" = true) (k_places_taken : PySem.W.keepIn K (.ref f_places_taken) = true)
    (a_word_taken : PySem.W.nsIn K mainGlobals "word_taken" = some (some (.ref f_word_taken)))
    (l_word_taken : K.lookup f_word_taken = some ⟨oc_word_taken, od_word_taken, .func (PySem.W.fnOf "word_taken" "word_taken" (defArgs s_word_taken) (defBody s_word_taken) (defScope s_word_taken) .none kV_word_taken dc_word_taken pm_word_taken an_word_taken cd_word_taken ct_word_taken), sl_word_taken⟩)
    (c_word_taken : PySem.W.codeIn K cd_word_taken "word_taken" = true) (k_word_taken : PySem.W.keepIn K (.ref f_word_taken) = true)
    (a_order_taken : PySem.W.nsIn K mainGlobals "order_taken" = some (some (.ref f_order_taken)))
    (l_order_taken : K.lookup f_order_taken = some ⟨oc_order_taken, od_order_taken, .func (PySem.W.fnOf "order_taken" "order_taken" (defArgs s_order_taken) (defBody s_order_taken) (defScope s_order_taken) .none kV_order_taken dc_order_taken pm_order_taken an_order_taken cd_order_taken ct_order_taken), sl_order_taken⟩)
    (c_order_taken : PySem.W.codeIn K cd_order_taken "order_taken" = true) (k_order_taken : PySem.W.keepIn K (.ref f_order_taken) = true)
    (a_order_of : PySem.W.nsIn K mainGlobals "order_of" = some (some (.ref f_order_of)))
    (l_order_of : K.lookup f_order_of = some ⟨oc_order_of, od_order_of, .func (PySem.W.fnOf "order_of" "order_of" (defArgs s_order_of) (defBody s_order_of) (defScope s_order_of) .none kV_order_of dc_order_of pm_order_of an_order_of cd_order_of ct_order_of), sl_order_of⟩)
    (c_order_of : PySem.W.codeIn K cd_order_of "order_of" = true) (k_order_of : PySem.W.keepIn K (.ref f_order_of) = true)
    (a_joined : PySem.W.nsIn K mainGlobals "joined" = some (some (.ref f_joined)))
    (l_joined : K.lookup f_joined = some ⟨oc_joined, od_joined, .func (PySem.W.fnOf "joined" "joined" (defArgs s_joined) (defBody s_joined) (defScope s_joined) .none kV_joined dc_joined pm_joined an_joined cd_joined ct_joined), sl_joined⟩)
    (c_joined : PySem.W.codeIn K cd_joined "joined" = true) (k_joined : PySem.W.keepIn K (.ref f_joined) = true)
    (a_undone : PySem.W.nsIn K mainGlobals "undone" = some (some (.ref f_undone)))
    (l_undone : K.lookup f_undone = some ⟨oc_undone, od_undone, .func (PySem.W.fnOf "undone" "undone" (defArgs s_undone) (defBody s_undone) (defScope s_undone) .none kV_undone dc_undone pm_undone an_undone cd_undone ct_undone), sl_undone⟩)
    (c_undone : PySem.W.codeIn K cd_undone "undone" = true) (k_undone : PySem.W.keepIn K (.ref f_undone) = true)
    (a_pen : PySem.W.nsIn K mainGlobals "_law_pen" = some (some (.ref f_pen)))
    (l_pen : K.lookup f_pen = some ⟨oc_pen, od_pen, .func (PySem.W.fnOf "_law_pen" "_law_pen" (defArgs s_pen) (defBody s_pen) (defScope s_pen) .none kV_pen dc_pen pm_pen an_pen cd_pen ct_pen), sl_pen⟩)
    (c_pen : PySem.W.codeIn K cd_pen "_law_pen" = true) (k_pen : PySem.W.keepIn K (.ref f_pen) = true)
    (a_draw : PySem.W.nsIn K mainGlobals "_law_draw" = some (some (.ref f_draw)))
    (l_draw : K.lookup f_draw = some ⟨oc_draw, od_draw, .func (PySem.W.fnOf "_law_draw" "_law_draw" (defArgs s_draw) (defBody s_draw) (defScope s_draw) .none kV_draw dc_draw pm_draw an_draw cd_draw ct_draw), sl_draw⟩)
    (c_draw : PySem.W.codeIn K cd_draw "_law_draw" = true) (k_draw : PySem.W.keepIn K (.ref f_draw) = true)
    (a_word : PySem.W.nsIn K mainGlobals "_law_word" = some (some (.ref f_word)))
    (l_word : K.lookup f_word = some ⟨oc_word, od_word, .func (PySem.W.fnOf "_law_word" "_law_word" (defArgs s_word) (defBody s_word) (defScope s_word) .none kV_word dc_word pm_word an_word cd_word ct_word), sl_word⟩)
    (c_word : PySem.W.codeIn K cd_word "_law_word" = true) (k_word : PySem.W.keepIn K (.ref f_word) = true)
    (a_handed : PySem.W.nsIn K mainGlobals "_law_handed" = some (some (.ref f_handed)))
    (l_handed : K.lookup f_handed = some ⟨oc_handed, od_handed, .func (PySem.W.fnOf "_law_handed" "_law_handed" (defArgs s_handed) (defBody s_handed) (defScope s_handed) .none kV_handed dc_handed pm_handed an_handed cd_handed ct_handed), sl_handed⟩)
    (c_handed : PySem.W.codeIn K cd_handed "_law_handed" = true) (k_handed : PySem.W.keepIn K (.ref f_handed) = true)
    (a_stand : PySem.W.nsIn K mainGlobals "_law_stand" = some (some (.ref f_stand)))
    (l_stand : K.lookup f_stand = some ⟨oc_stand, od_stand, .func (PySem.W.fnOf "_law_stand" "_law_stand" (defArgs s_stand) (defBody s_stand) (defScope s_stand) .none kV_stand dc_stand pm_stand an_stand cd_stand ct_stand), sl_stand⟩)
    (c_stand : PySem.W.codeIn K cd_stand "_law_stand" = true) (k_stand : PySem.W.keepIn K (.ref f_stand) = true)
    (a_form : PySem.W.nsIn K mainGlobals "_law_form" = some (some (.ref f_form)))
    (l_form : K.lookup f_form = some ⟨oc_form, od_form, .func (PySem.W.fnOf "_law_form" "_law_form" (defArgs s_form) (defBody s_form) (defScope s_form) .none kV_form dc_form pm_form an_form cd_form ct_form), sl_form⟩)
    (c_form : PySem.W.codeIn K cd_form "_law_form" = true) (k_form : PySem.W.keepIn K (.ref f_form) = true)
    (a_shuffled : PySem.W.nsIn K mainGlobals "_law_shuffled" = some (some (.ref f_shuffled)))
    (l_shuffled : K.lookup f_shuffled = some ⟨oc_shuffled, od_shuffled, .func (PySem.W.fnOf "_law_shuffled" "_law_shuffled" (defArgs s_shuffled) (defBody s_shuffled) (defScope s_shuffled) .none kV_shuffled dc_shuffled pm_shuffled an_shuffled cd_shuffled ct_shuffled), sl_shuffled⟩)
    (c_shuffled : PySem.W.codeIn K cd_shuffled "_law_shuffled" = true) (k_shuffled : PySem.W.keepIn K (.ref f_shuffled) = true)
    (a_law : PySem.W.nsIn K mainGlobals "law" = some (some (.ref f_law)))
    (l_law : K.lookup f_law = some ⟨oc_law, od_law, .func (PySem.W.fnOf "law" "law" (defArgs s_law) (defBody s_law) (defScope s_law) .none kV_law dc_law pm_law an_law cd_law ct_law), sl_law⟩)
    (c_law : PySem.W.codeIn K cd_law "law" = true) (k_law : PySem.W.keepIn K (.ref f_law) = true)
    (v_WORD : PySem.W.nsIn K mainGlobals "WORD" = some (some (.int 2000 t_WORD)))
    (v_PLACES : PySem.W.nsIn K mainGlobals "PLACES" = some (some (.int 60 t_PLACES)))
    (z_len : PySem.W.nsIn K mainGlobals "len" = some none)
    (z_list : PySem.W.nsIn K mainGlobals "list" = some none)
    (z_tuple : PySem.W.nsIn K mainGlobals "tuple" = some none)
    (z_range : PySem.W.nsIn K mainGlobals "range" = some none)
    (z_enumerate : PySem.W.nsIn K mainGlobals "enumerate" = some none)
    (z_isinstance : PySem.W.nsIn K mainGlobals "isinstance" = some none)
    (z_int : PySem.W.nsIn K mainGlobals "int" = some none)
    (z_bool : PySem.W.nsIn K mainGlobals "bool" = some none)
    (z_abs : PySem.W.nsIn K mainGlobals "abs" = some none)
    (z_repr : PySem.W.nsIn K mainGlobals "repr" = some none)
    : ∃ fd : FuncData, (∀ (s : Shared) (v : Value), BindsTo s fd ⟨[v], []⟩ [("_law_script", v)]) ∧ ∀ base : Heap, K.In base → base.Ns mainGlobals mg → FnG l.prog w K mg base 5 fa fd ["_law_script"] (spLaw K) := by
  have e := hfa.symm.trans (PySem.W.mg_of X G a_law)
  cases e
  have T : Bare mg := { n_len := PySem.W.mg_none_of X G z_len, n_list := PySem.W.mg_none_of X G z_list, n_tuple := PySem.W.mg_none_of X G z_tuple, n_range := PySem.W.mg_none_of X G z_range, n_enumerate := PySem.W.mg_none_of X G z_enumerate, n_isinstance := PySem.W.mg_none_of X G z_isinstance, n_int := PySem.W.mg_none_of X G z_int, n_bool := PySem.W.mg_none_of X G z_bool, n_abs := PySem.W.mg_none_of X G z_abs, n_repr := PySem.W.mg_none_of X G z_repr }
  have C_WORD : ∃ t, mg "WORD" = some (.int 2000 t) := ⟨_, PySem.W.mg_of X G v_WORD⟩
  have C_PLACES : ∃ t, mg "PLACES" = some (.int 60 t) := ⟨_, PySem.W.mg_of X G v_PLACES⟩
  refine ⟨PySem.W.fnOf "law" "law" (defArgs s_law) (defBody s_law) (defScope s_law) .none kV_law dc_law pm_law an_law cd_law ct_law, fun s v => .of_eq rfl, fun base _ _ => ?_⟩
  have F_is_listing := fun_mk (st := s_is_listing) l_is_listing c_is_listing k_is_listing
  have H_is_listing : Has l.prog w K mg base 1 "is_listing" ["thing"] spIsL := ⟨_, _, ok_is_listing F_is_listing T, PySem.W.mg_of X G a_is_listing, k_is_listing, F_is_listing.binds (ps := ["thing"]) fun _ _ _ _ _ _ us hl => match us, hl with | [_], _ => rfl⟩
  have F_is_number := fun_mk (st := s_is_number) l_is_number c_is_number k_is_number
  have H_is_number : Has l.prog w K mg base 1 "is_number" ["thing", "least", "most"] spIsN := ⟨_, _, ok_is_number F_is_number T, PySem.W.mg_of X G a_is_number, k_is_number, F_is_number.binds (ps := ["thing", "least", "most"]) fun _ _ _ _ _ _ us hl => match us, hl with | [_, _, _], _ => rfl⟩
  have F_word_fault := fun_mk (st := s_word_fault) l_word_fault c_word_fault k_word_fault
  have H_word_fault : Has l.prog w K mg base 2 "word_fault" ["places", "word"] spWordF := ⟨_, _, ok_word_fault F_word_fault T C_WORD H_is_listing H_is_number, PySem.W.mg_of X G a_word_fault, k_word_fault, F_word_fault.binds (ps := ["places", "word"]) fun _ _ _ _ _ _ us hl => match us, hl with | [_, _], _ => rfl⟩
  have F_order_fault := fun_mk (st := s_order_fault) l_order_fault c_order_fault k_order_fault
  have H_order_fault : Has l.prog w K mg base 2 "order_fault" ["order"] spOrderF := ⟨_, _, ok_order_fault F_order_fault T C_PLACES H_is_listing H_is_number, PySem.W.mg_of X G a_order_fault, k_order_fault, F_order_fault.binds (ps := ["order"]) fun _ _ _ _ _ _ us hl => match us, hl with | [_], _ => rfl⟩
  have F_number_taken := fun_mk (st := s_number_taken) l_number_taken c_number_taken k_number_taken
  have H_number_taken : Has l.prog w K mg base 2 "number_taken" ["thing", "least", "most"] spNumT := ⟨_, _, ok_number_taken F_number_taken H_is_number, PySem.W.mg_of X G a_number_taken, k_number_taken, F_number_taken.binds (ps := ["thing", "least", "most"]) fun _ _ _ _ _ _ us hl => match us, hl with | [_, _, _], _ => rfl⟩
  have F_places_taken := fun_mk (st := s_places_taken) l_places_taken c_places_taken k_places_taken
  have H_places_taken : Has l.prog w K mg base 3 "places_taken" ["thing"] spPlacesT := ⟨_, _, ok_places_taken F_places_taken C_PLACES H_number_taken, PySem.W.mg_of X G a_places_taken, k_places_taken, F_places_taken.binds (ps := ["thing"]) fun _ _ _ _ _ _ us hl => match us, hl with | [_], _ => rfl⟩
  have F_word_taken := fun_mk (st := s_word_taken) l_word_taken c_word_taken k_word_taken
  have H_word_taken : Has l.prog w K mg base 3 "word_taken" ["places", "word"] spWordT := ⟨_, _, ok_word_taken F_word_taken T H_word_fault, PySem.W.mg_of X G a_word_taken, k_word_taken, F_word_taken.binds (ps := ["places", "word"]) fun _ _ _ _ _ _ us hl => match us, hl with | [_, _], _ => rfl⟩
  have F_order_taken := fun_mk (st := s_order_taken) l_order_taken c_order_taken k_order_taken
  have H_order_taken : Has l.prog w K mg base 3 "order_taken" ["order"] spOrderT := ⟨_, _, ok_order_taken F_order_taken T H_order_fault, PySem.W.mg_of X G a_order_taken, k_order_taken, F_order_taken.binds (ps := ["order"]) fun _ _ _ _ _ _ us hl => match us, hl with | [_], _ => rfl⟩
  have F_order_of := fun_mk (st := s_order_of) l_order_of c_order_of k_order_of
  have H_order_of : Has l.prog w K mg base 4 "order_of" ["places", "word"] spOrderOf := ⟨_, _, ok_order_of F_order_of T H_places_taken H_word_taken, PySem.W.mg_of X G a_order_of, k_order_of, F_order_of.binds (ps := ["places", "word"]) fun _ _ _ _ _ _ us hl => match us, hl with | [_, _], _ => rfl⟩
  have F_joined := fun_mk (st := s_joined) l_joined c_joined k_joined
  have H_joined : Has l.prog w K mg base 4 "joined" ["one", "other"] spJoined := ⟨_, _, ok_joined F_joined T H_is_listing H_order_taken, PySem.W.mg_of X G a_joined, k_joined, F_joined.binds (ps := ["one", "other"]) fun _ _ _ _ _ _ us hl => match us, hl with | [_, _], _ => rfl⟩
  have F_undone := fun_mk (st := s_undone) l_undone c_undone k_undone
  have H_undone : Has l.prog w K mg base 4 "undone" ["order"] spUndone := ⟨_, _, ok_undone F_undone T H_order_taken, PySem.W.mg_of X G a_undone, k_undone, F_undone.binds (ps := ["order"]) fun _ _ _ _ _ _ us hl => match us, hl with | [_], _ => rfl⟩
  have F_pen := fun_mk (st := s_pen) l_pen c_pen k_pen
  have H_pen : Has l.prog w K mg base 1 "_law_pen" ["_law_script"] (spPen K) := ⟨_, _, ok_pen F_pen T, PySem.W.mg_of X G a_pen, k_pen, F_pen.binds (ps := ["_law_script"]) fun _ _ _ _ _ _ us hl => match us, hl with | [_], _ => rfl⟩
  have F_draw := fun_mk (st := s_draw) l_draw c_draw k_draw
  have H_draw : Has l.prog w K mg base 1 "_law_draw" ["_law_pen_here", "_law_many"] spDraw := ⟨_, _, ok_draw F_draw T, PySem.W.mg_of X G a_draw, k_draw, F_draw.binds (ps := ["_law_pen_here", "_law_many"]) fun _ _ _ _ _ _ us hl => match us, hl with | [_, _], _ => rfl⟩
  have F_word := fun_mk (st := s_word) l_word c_word k_word
  have H_word : Has l.prog w K mg base 2 "_law_word" ["_law_pen_here", "_law_places", "_law_many"] spWord := ⟨_, _, ok_word F_word T H_draw, PySem.W.mg_of X G a_word, k_word, F_word.binds (ps := ["_law_pen_here", "_law_places", "_law_many"]) fun _ _ _ _ _ _ us hl => match us, hl with | [_, _, _], _ => rfl⟩
  have F_handed := fun_mk (st := s_handed) l_handed c_handed k_handed
  have H_handed : Has l.prog w K mg base 2 "_law_handed" ["_law_pen_here", "_law_some"] spHanded := ⟨_, _, ok_handed F_handed T H_draw, PySem.W.mg_of X G a_handed, k_handed, F_handed.binds (ps := ["_law_pen_here", "_law_some"]) fun _ _ _ _ _ _ us hl => match us, hl with | [_, _], _ => rfl⟩
  have F_stand := fun_mk (st := s_stand) l_stand c_stand k_stand
  have H_stand : Has l.prog w K mg base 1 "_law_stand" ["_law_places", "_law_word_here"] spStand := ⟨_, _, ok_stand F_stand T, PySem.W.mg_of X G a_stand, k_stand, F_stand.binds (ps := ["_law_places", "_law_word_here"]) fun _ _ _ _ _ _ us hl => match us, hl with | [_, _], _ => rfl⟩
  have F_form := fun_mk (st := s_form) l_form c_form k_form
  have H_form : Has l.prog w K mg base 1 "_law_form" ["_law_order"] spForm := ⟨_, _, ok_form F_form T, PySem.W.mg_of X G a_form, k_form, F_form.binds (ps := ["_law_order"]) fun _ _ _ _ _ _ us hl => match us, hl with | [_], _ => rfl⟩
  have F_shuffled := fun_mk (st := s_shuffled) l_shuffled c_shuffled k_shuffled
  have H_shuffled : Has l.prog w K mg base 2 "_law_shuffled" ["_law_pen_here", "_law_some"] spShuffled := ⟨_, _, ok_shuffled F_shuffled T H_draw, PySem.W.mg_of X G a_shuffled, k_shuffled, F_shuffled.binds (ps := ["_law_pen_here", "_law_some"]) fun _ _ _ _ _ _ us hl => match us, hl with | [_, _], _ => rfl⟩
  exact ok_law (fun_mk (st := s_law) l_law c_law k_law) T H_pen H_draw H_word H_stand H_handed H_form H_shuffled H_order_of H_joined H_undone
theorem walk {l : PySem.W.OpenLaw} {q : Program} {loose : List Str} {XP : (Str → Option Value) → Heap → Prop} {YP : World → Heap → Prop} {d : DefRec} {K : Params → PySem.W.Frag} (hn : l.most = some 63) (hdf : d.params.defaults = [])
    (hY : ∀ (w : World) (h : Heap), YP w h → (K w.params).In h) (F : ∀ (w : World) (mg : Str → Option Value) (fa : Addr) (h : Heap), (K w.params).In h → h.Ns mainGlobals mg → mg d.name = some (.ref fa) →
      ∃ fd : FuncData, (∀ (s : Shared) (u : Value), BindsTo s fd ⟨[u], []⟩ [("_law_script", u)]) ∧ ∀ base : Heap, (K w.params).In base → base.Ns mainGlobals mg → FnG l.prog w (K w.params) mg base 5 fa fd ["_law_script"] (spLaw (K w.params))) :
    PySem.W.WalkO q loose XP YP l.row.toRowW d [] (fun f vs => PySem.call f vs) :=
  walkG (n := 63) (k := 5) (sp := spLaw) hn (by decide) hdf ⟨rfl, by decide, by decide⟩ hY F fun K H a ns hl hS => ⟨a, ns, rfl, hS, hl, fun _ => rfl⟩
end Lk10
open PySem PySem.W PyProof.Rows
set_option maxRecDepth 100000 in
set_option maxHeartbeats 0 in
theorem PySem.Challenge.cw_passmarks_k10_orders_of_runners_holds : PySem.Challenge.rw_passmarks_k10_orders_of_runners.Holds := by
  w_on; o_law; k_head; (case hw => w_witness2)
  k_fill
  refine Lk10.walk (l := PySem.Challenge.rw_passmarks_k10_orders_of_runners) rfl rfl (fun w h Y => PySem.W.kIn_of Y) ?F
  case F =>
    intro w mg fa h KX G hmg
    refine' Lk10.all_mk KX G hmg ?a_is_listing ?l_is_listing ?c_is_listing ?k_is_listing ?a_is_number ?l_is_number ?c_is_number ?k_is_number ?a_word_fault ?l_word_fault ?c_word_fault ?k_word_fault ?a_order_fault ?l_order_fault ?c_order_fault ?k_order_fault ?a_number_taken ?l_number_taken ?c_number_taken ?k_number_taken ?a_places_taken ?l_places_taken ?c_places_taken ?k_places_taken ?a_word_taken ?l_word_taken ?c_word_taken ?k_word_taken ?a_order_taken ?l_order_taken ?c_order_taken ?k_order_taken ?a_order_of ?l_order_of ?c_order_of ?k_order_of ?a_joined ?l_joined ?c_joined ?k_joined ?a_undone ?l_undone ?c_undone ?k_undone ?a_pen ?l_pen ?c_pen ?k_pen ?a_draw ?l_draw ?c_draw ?k_draw ?a_word ?l_word ?c_word ?k_word ?a_handed ?l_handed ?c_handed ?k_handed ?a_stand ?l_stand ?c_stand ?k_stand ?a_form ?l_form ?c_form ?k_form ?a_shuffled ?l_shuffled ?c_shuffled ?k_shuffled ?a_law ?l_law ?c_law ?k_law ?v_WORD ?v_PLACES ?z_len ?z_list ?z_tuple ?z_range ?z_enumerate ?z_isinstance ?z_int ?z_bool ?z_abs ?z_repr
    (case a_is_listing => k_is); (case l_is_listing => k_is); (case c_is_listing => k_is); (case k_is_listing => k_is); (case a_is_number => k_is); (case l_is_number => k_is)
    (case c_is_number => k_is); (case k_is_number => k_is); (case a_word_fault => k_is); (case l_word_fault => k_is); (case c_word_fault => k_is); (case k_word_fault => k_is)
    (case a_order_fault => k_is); (case l_order_fault => k_is); (case c_order_fault => k_is); (case k_order_fault => k_is); (case a_number_taken => k_is); (case l_number_taken => k_is)
    (case c_number_taken => k_is); (case k_number_taken => k_is); (case a_places_taken => k_is); (case l_places_taken => k_is); (case c_places_taken => k_is); (case k_places_taken => k_is)
    (case a_word_taken => k_is); (case l_word_taken => k_is); (case c_word_taken => k_is); (case k_word_taken => k_is); (case a_order_taken => k_is); (case l_order_taken => k_is)
    (case c_order_taken => k_is); (case k_order_taken => k_is); (case a_order_of => k_is); (case l_order_of => k_is); (case c_order_of => k_is); (case k_order_of => k_is)
    (case a_joined => k_is); (case l_joined => k_is); (case c_joined => k_is); (case k_joined => k_is); (case a_undone => k_is); (case l_undone => k_is)
    (case c_undone => k_is); (case k_undone => k_is); (case a_pen => k_is); (case l_pen => k_is); (case c_pen => k_is); (case k_pen => k_is)
    (case a_draw => k_is); (case l_draw => k_is); (case c_draw => k_is); (case k_draw => k_is); (case a_word => k_is); (case l_word => k_is)
    (case c_word => k_is); (case k_word => k_is); (case a_handed => k_is); (case l_handed => k_is); (case c_handed => k_is); (case k_handed => k_is)
    (case a_stand => k_is); (case l_stand => k_is); (case c_stand => k_is); (case k_stand => k_is); (case a_form => k_is); (case l_form => k_is)
    (case c_form => k_is); (case k_form => k_is); (case a_shuffled => k_is); (case l_shuffled => k_is); (case c_shuffled => k_is); (case k_shuffled => k_is)
    (case a_law => k_is); (case l_law => k_is); (case c_law => k_is); (case k_law => k_is); (case v_WORD => k_is); (case v_PLACES => k_is)
    (case z_len => k_is); (case z_list => k_is); (case z_tuple => k_is); (case z_range => k_is); (case z_enumerate => k_is); (case z_isinstance => k_is)
    (case z_int => k_is); (case z_bool => k_is); (case z_abs => k_is); (case z_repr => k_is)
