import PyProof.Rows.All
import Wide.All
import OpenK.AllK
import Wide.FinOn
import HandS.ForMost
import HandS.Conv
import HandS.TupAny
import HandS.Strs
import HandS.Walk
import HandS.IsInst
import HandS.Wide
import KE.GoesEnum
import HandS.Style
import PyProof.ReprLen
import HandS.Deep
import HandS.SortRule
import HandS.Zip
import HandS.Text
import HandS.NoneIn
import HandS.ForExc
import HandS.AnyAll
import HandS.SetFor
import HandS.Rev
import PySem.Challenge.RW_passmarks_k53_whole_who_goes_behind_keep
set_option Elab.async false
set_option maxRecDepth 100000
/-! Rules of my own over the layer: repr of data, enumerate of a tuple, tuple.index of ints, promises where no repr runs. -/
namespace Lw
open PySem L2

/-! ### repr of data -/
def rRepr (K : PySem.W.Frag) : List V → Hp → VK → Prop := fun xs H Q => ∃ (a : Addr) (d : PyData), xs = [.ref a] ∧ Dp K H (.ref a) d ∧
  d.showable = true ∧ d.hasDict = false ∧ d.depth ≤ 60 ∧ d.shown.length ≤ sizeLine ∧ Q (.str d.shown) H
theorem call_repr {X : Cx} (hg : X.A.guards = some []) (hu : X.A.units + 64 < cLine) : CallR X (.builtin "repr") (rRepr X.K) := by
  intro pins s σ H xs us Q I r h
  obtain ⟨a, d, rfl, hd, hs, hn, hdep, hsz, q⟩ := h
  obtain ⟨u, rfl, ru⟩ := vals1 r
  cases ru
  obtain ⟨as, rd⟩ := Dp.reads I d _ _ hd rfl
  exact repr_of_reads' rd hs (PyData.noDict_hsm hn) hg (by omega) (fun _ _ e => e) (fun h' u tk hk => ⟨.str d.shown, H, I.kept hk, ⟨_, rfl⟩, q⟩) hsz

/-! ### enumerate of a tuple -/
/-- the tuple at a, each item in a new pair with its number -/
def IteT (K : PySem.W.Frag) (a : Addr) : It :=
  { go := fun i H => ∃ (xs : List V) (x : V), SqT K H a xs ∧ xs[i]? = some x
    yld := fun i H v H' => ∃ T x, v = .ref T ∧ H T = none ∧ H' = upd H T (.tup [.int (i : Nat), x]) ∧ ∀ xs, SqT K H a xs → xs[i]? = some x
    stop := fun i H => ∃ xs : List V, SqT K H a xs ∧ xs.length = i }
theorem turn_enumT {P : Program} {w : World} {K : PySem.W.Frag} {elts : List Expr} {kk : Nat} {tpos : Pos} (a e it : Addr) (hai : a ≠ it) (hae : a ≠ e) :
    Turn P w K (.Tuple elts kk tpos) (IteT K a) [e, it] e (fun i h => (∃ old, IsEnum h e it ((i : Nat) : Int) old) ∧ h.IsTupleIter it a i ∧ e ≠ it) where
  mem := by simp
  obj := fun i h st b hb => by
    obtain ⟨⟨old, he⟩, ⟨o, ho, hc, hd⟩, _⟩ := st
    rcases (show b = e ∨ b = it by simpa using hb) with z | z
    · subst z
      exact ⟨_, he, fun v q => nomatch q⟩
    · subst z
      exact ⟨o, ho, fun v q => by rw [hd] at q; cases q⟩
  keep := fun i h h' st k => by
    obtain ⟨⟨old, he⟩, hi, hne⟩ := st
    exact ⟨⟨old, k e (by simp) _ he⟩, hi.at fun o q => k it (by simp) o q, hne⟩
  item := by
    intro X hP hw hK hc i pins s σ H E I hf st hg
    subst hP hw hK
    obtain ⟨⟨old, he⟩, hit, hne⟩ := st
    obtain ⟨xs, x, hq, hx⟩ := hg
    obtain ⟨its, rv, p, hz⟩ := I.tuple hq
    obtain ⟨u, hu, ru⟩ := rv.get hx
    have hel : e < s.heap.objs.size := Heap.lt_size he
    have hil : it < s.heap.objs.size := by obtain ⟨_, q, _⟩ := hit; exact Heap.lt_size q
    have hlt : i < its.toArray.size := by rw [List.size_toArray]; exact (List.getElem?_eq_some_iff.mp hu).1
    refine wpAny_pyNext_enum_itemD (Draws.tuple (A := X.A.in1) (I.ok.hd hc) it a hai its.toArray) he ⟨hit, p⟩ hlt hne (by simpa using ⟨hne, Ne.symm hae⟩) fun x' h' tk hx' ho hst hT hsz hk => ?_
    have hxu : x' = u := by
      have hu' : its.toArray[i]? = some u := by simpa using hu
      rw [hu'] at hx'
      exact (Option.some.inj hx').symm
    subst hxu
    refine ⟨_, rfl, wpAny_letOwnedTupleGo_enum (s := { s with heap := h', toks := tk + 1 }) ho fun h'' he' sb => ?_⟩
    have hT2 : h''.get? s.heap.objs.size = some { cls := .type "tuple", data := .seq #[.int i tk, x'] } := (sb.2 _ (Nat.ne_of_gt hel)).trans hT
    have new : ObjOk X.prog X.w (upd H s.heap.objs.size (.tup [.int (i : Nat), x])) h'' s.heap.objs.size (.tup [.int (i : Nat), x]) :=
      ⟨by show 2 ≤ sizeLine; decide, [.int i tk, x'], .cons ⟨_, rfl⟩ (.cons ru .nil), ⟨_, hT2, rfl, _, rfl⟩⟩
    have I1 : Inv X pins σ (upd H s.heap.objs.size (.tup [.int (i : Nat), x])) { s with heap := h'', toks := tk + 1 } :=
      I.turnedNew (ch := [e, it]) (fun b ob hb q => (sb.2 b (fun z => hb (by simp [z]))).trans (hk b ob (fun z => hb (by simp [z])) (fun z => hb (by simp [z])) q)) hf (Nat.le_refl _) new
    refine ⟨.ref s.heap.objs.size, _, I1, rfl, ⟨_, x, rfl, I.hok.fresh (Nat.le_refl _), rfl, fun ys hy => by rw [I.tuple_inj hy hq]; exact hx⟩, ⟨⟨x', ?_⟩, hst.1.at fun o q => (sb.2 it (Ne.symm hne)).trans q, hne⟩, fun b hb => ?_⟩
    · have e1 : ((i + 1 : Nat) : Int) = (i : Int) + 1 := by omega
      rw [e1]
      exact he'
    · have hb' : b < s.heap.objs.size := by
        rcases (show b = e ∨ b = it by simpa using hb) with z | z
        · rw [z]; exact hel
        · rw [z]; exact hil
      rw [upd_ne (Nat.ne_of_lt hb')]
      exact (hf b hb).1
  done := by
    intro X hP hw hK hc i pins s σ H E I hf st hg
    subst hP hw hK
    obtain ⟨⟨old, he⟩, hit, hne⟩ := st
    obtain ⟨xs, hq, hx⟩ := hg
    obtain ⟨its, rv, p, hz⟩ := I.tuple hq
    obtain ⟨f0, f1, f2, f3, f4, f5⟩ := hf it (by simp)
    have hl := rv.length
    have hge : i = its.toArray.size := by rw [List.size_toArray]; omega
    subst hge
    exact wpAny_pyNext_enum_endD (Draws.tuple (A := X.A.in1) (I.ok.hd hc) it a hai its.toArray) he ⟨hit, p⟩ fun h' eb => ⟨rfl, I.turned (t' := s.toks) (fun b o hb q => eb b o hb q) f0 f1 f3 f4 f5⟩
  self := fun A i s Q E st h => by
    obtain ⟨⟨_, he⟩, _⟩ := st
    exact wpAny_pyIter_enum he h
theorem enum_newT (l : Addr) (items : Array Value) (n : Nat) (dct : Option Addr) (sl : Array (Option Value)) :
    Meets (Builtin.«enumerate.__new__» ⟨[.type "enumerate", .ref l], []⟩) (fun _ R s => s.heap.get? l = some { cls := .type "tuple", dict := dct, data := .seq items n, slots := sl } ∧
      R (.ok (.ret (.ref (s.heap.push { cls := .type "tuple_iterator", data := .fields #[.ref l, .int 0 0] }).objs.size)))
        { s with heap := (s.heap.push { cls := .type "tuple_iterator", data := .fields #[.ref l, .int 0 0] }).push { cls := .type "enumerate", data := .fields #[.none, .bool false, .ref s.heap.objs.size, rawInt 0, .none, .none] } }) :=
  .of_wp fun prog w A R s h => by
    obtain ⟨hp, g, d, tk, os⟩ := s
    obtain ⟨hl, h⟩ := h
    have hsub := sub_enumerate
    have hT : Heap.IsTuple (Shared.heap ⟨hp, g, d, tk, os⟩) l items := ⟨_, hl, rfl, n, rfl⟩
    wp_walk using AutoSeq1.wpAny_loadPart' hl
    refine wpAny_stack_any fun st => wpAny_pure ?_
    split
    · rename_i c _ _ _ _ _
      cases (c == Value.type "enumerate")
      · wp_walk using AutoSeq1.wpAny_loadPart' hl, wpAny_pyIter_tuple hT
        exact ⟨_, rfl, h⟩
      · wp_walk using AutoSeq1.wpAny_loadPart' hl, wpAny_pyIter_tuple hT
        exact ⟨_, rfl, h⟩
    · wp_walk using AutoSeq1.wpAny_loadPart' hl, wpAny_pyIter_tuple hT
      exact ⟨_, rfl, h⟩
theorem enum1_tuple {prog : Program} {w : World} {A : Around} {E : Value → Shared → Prop} {s : Shared} {t : Addr} {items : Array Value} {Q : Value → Shared → Prop} (ht : s.heap.IsTuple t items)
    (h : ∀ h', IsEnum h' (s.heap.objs.size + 1) s.heap.objs.size 0 .none → h'.get? s.heap.objs.size = some { cls := .type "tuple_iterator", data := .fields #[.ref t, .int 0 0] } →
      (∀ b o, s.heap.get? b = some o → h'.get? b = some o) → Q (.ref (s.heap.objs.size + 1)) { s with heap := h' }) :
    wpAny (model prog w) A (call (.type "enumerate") [.ref t]) Q E s := by
  obtain ⟨⟨c, dct, dt, sl⟩, hl, hc, n, hd⟩ := id ht
  replace hc : c = .type "tuple" := hc
  replace hd : dt = .seq items n := hd
  subst hc hd
  refine callType_new F.called_enumerate (by decide) (F.typeCall_enumerate_1 _) (F.newCall_enumerate_1 _) (fun obj => F.args_object_init_2 obj _) F.entry_enumerate_new (enum_newT t items n dct sl) ⟨hl, ?_⟩
  have hz : (s.heap.push { cls := .type "tuple_iterator", data := .fields #[.ref t, .int 0 0] }).objs.size = s.heap.objs.size + 1 := Heap.size_push ..
  show _ ∧ _
  rw [hz]
  have he : IsEnum ((s.heap.push { cls := .type "tuple_iterator", data := .fields #[.ref t, .int 0 0] }).push { cls := .type "enumerate", data := .fields #[.none, .bool false, .ref s.heap.objs.size, rawInt 0, .none, .none] })
      (s.heap.objs.size + 1) s.heap.objs.size 0 .none := by
    have q := Heap.get?_push_size (s.heap.push { cls := .type "tuple_iterator", data := .fields #[.ref t, .int 0 0] }) (o := { cls := .type "enumerate", data := .fields #[.none, .bool false, .ref s.heap.objs.size, rawInt 0, .none, .none] }) rfl
    rw [hz] at q
    exact q
  exact ⟨⟨_, he, rfl⟩, h _ he (Heap.get?_push_of_some _ (Heap.get?_push_size _ rfl)) fun b o x => Heap.get?_push_of_some _ (Heap.get?_push_of_some _ x)⟩
def iEnumA (K : PySem.W.Frag) (ta : TA) : TI := fun σ H R => ta σ H fun vs H1 => ∃ a xs, vs = [.ref a] ∧ ((SqL K H1 a xs ∧ R (Ite K a) H1) ∨ (SqT K H1 a xs ∧ R (IteT K a) H1))
/-- for i, x in enumerate(xs), xs a list or a tuple -/
theorem pi_enumA {X : Cx} {e : Expr} {ta : TA} {p pos tpos : Pos} {elts : List Expr} {kk : Nat} (hg : Gl X "enumerate") (hm : X.mg "enumerate" = none) (ha : PA X [e] ta) (hs : starEach [e] X.env = [(false, eval e X.env)] := by rfl) :
    PI X (.Tuple elts kk tpos) (.Call (.Name "enumerate" p) [e] [] pos) (iEnumA X.K ta) := by
  refine ⟨fun pins s σ H R I h => ?_⟩
  refine PyProof.Rows.Call_ (ld_blt I hg hm PyProof.Rows.boot_enumerate (PyProof.Rows.callWith_type1 (thn (ha.run pos pins s σ H _ I h) fun us s1 ⟨vs, H1, I1, r1, q1⟩ => ?_) hs rfl))
  obtain ⟨a, xs, ex, hq⟩ := q1
  subst ex
  cases r1 with
  | cons r rr =>
    cases rr
    cases r
    have two : ∀ b ∈ [s1.heap.objs.size + 1, s1.heap.objs.size], s1.heap.objs.size ≤ b := fun b hb => by
      rcases (show b = s1.heap.objs.size + 1 ∨ b = s1.heap.objs.size by simpa using hb) with z | z
      · rw [z]; exact Nat.le_add_right _ _
      · rw [z]; exact Nat.le_refl _
    rcases hq with ⟨hq, q⟩ | ⟨hq, q⟩
    · obtain ⟨its, rv, p', hz⟩ := I1.list hq
      refine call_enumerate_list p'.isList fun h' he hit hsz hk => wpAny_pyIter_enum he ?_
      have I2 : Inv X pins σ H1 { s1 with heap := h' } := I1.kept (t' := s1.toks) hk
      exact ⟨s1.heap.objs.size + 1, [s1.heap.objs.size + 1, s1.heap.objs.size], _, _, H1, rfl, I2, turn_enum a (s1.heap.objs.size + 1) s1.heap.objs.size, ⟨⟨.none, he⟩, hit, Nat.succ_ne_self _⟩,
        fun b hb => I1.fpOk (two b hb) (I1.hok.fresh (two b hb)), q⟩
    · obtain ⟨its, rv, p', hz⟩ := I1.tuple hq
      have hal : a < s1.heap.objs.size := by obtain ⟨_, q', _⟩ := id p'; exact Heap.lt_size q'
      refine enum1_tuple p' fun h' he hit hk => wpAny_pyIter_enum he ?_
      have I2 : Inv X pins σ H1 { s1 with heap := h' } := I1.kept (t' := s1.toks) hk
      exact ⟨s1.heap.objs.size + 1, [s1.heap.objs.size + 1, s1.heap.objs.size], _, _, H1, rfl, I2, turn_enumT a (s1.heap.objs.size + 1) s1.heap.objs.size (Nat.ne_of_lt hal) (Nat.ne_of_lt (Nat.lt_succ_of_lt hal)), ⟨⟨.none, he⟩, ⟨_, hit, rfl, rfl⟩, Nat.succ_ne_self _⟩,
        fun b hb => I1.fpOk (two b hb) (I1.hok.fresh (two b hb)), q⟩
theorem walk_enumL {K : PySem.W.Frag} {a : Addr} {xs : List V} : Walk (Ite K a) xs.length (fun H => SqL K H a xs) (YPair (fun i => some (.int (i : Nat))) (fun i => xs[i]?)) := walk_enum
theorem walk_enumT {K : PySem.W.Frag} {a : Addr} {xs : List V} : Walk (IteT K a) xs.length (fun H => SqT K H a xs) (YPair (fun i => some (.int (i : Nat))) (fun i => xs[i]?)) where
  goes := fun i H hi h => ⟨xs, xs[i], h, List.getElem?_eq_getElem hi⟩
  stops := fun H h => ⟨xs, h, rfl⟩
  yields := fun i H x H' hi h y => by
    obtain ⟨T, z, e1, e2, e3, e4⟩ := y
    exact ⟨T, .int (i : Nat), z, e1, e2, e3, rfl, e4 xs h⟩
end Lw
set_option Elab.async false
set_option maxRecDepth 100000
/-! Promises of defs that run where no repr is under way (guards = some []), and the end of a law over them. -/
namespace Lw
open PySem PySem.Spec PyProof.Rows L2

structure FnG (P : Program) (w : World) (K : PySem.W.Frag) (mg : Str → Option Value) (base : Heap) (k : Nat) (f : Addr) (fd : FuncData) (ps : List Str) (sp : Sp) : Prop where
  many : ∀ vs H Q E, sp vs H Q E → vs.length = ps.length
  goes : ∀ (A : Around) (outer : List Env) (s : Shared) (H : Hp) (args : Args) (us : List Value) (vs : List V) (Q : VK) (E : XK), A.guards = some [] → Room k A → Env0 P w K mg base A outer s H →
    BindsTo s fd args (ps.zip us) → Vals vs us → sp vs H Q E → codeAny (model P w) A (.call (.ref f) args) (CR CX0 outer P w H s Q E) s

section
variable {P : Program} {w : World} {K : PySem.W.Frag} {mg : Str → Option Value} {base : Heap}
theorem FnG.of_ok {k : Nat} {f : Addr} {fd : FuncData} {ps : List Str} {sp : Sp} (F : FnOk P w K mg base CX0 k f fd ps sp) : FnG P w K mg base k f fd ps sp :=
  ⟨F.len, fun A outer s H args us vs Q E _ => F.run A outer s H args us vs Q E⟩
/-- a def by its body, the guards known -/
theorem gok {x qual : Str} {st : Stmt} {f : Addr} {fd : FuncData} {N ps : List Str} {k : Nat} {sp : Sp} (F : Fun K x qual st f fd) (S : FnScope N ps (defScope st)) (len : ∀ vs H Q E, sp vs H Q E → vs.length = ps.length)
    (hb : ∀ (cdv : Value) (A : Around) (outer : List Env) (s : Shared) (H : Hp) (vs : List V) (Q : VK) (E : XK), A.guards = some [] → Room k (A.deeper (envOfC qual (defScope st) s.heap.objs.size f cdv)) → sp vs H Q E →
      ∃ t, PSs (cxOf CX0 P w K mg base N qual (defScope st) f cdv A outer s H E).nox (defBody st) t ∧ t { nx := fun _ H' => Q .non H', rt := Q } (start N vs) H) : FnG P w K mg base (k + 1) f fd ps sp := by
  obtain ⟨oc, od, kV, doc, pm, an, cdv, ct, osl, rfl, lk, hcd⟩ := F.ex
  refine ⟨len, fun A outer s H args us vs Q E hg hr e0 hbind rv hsp => ?_⟩
  have kIn : K.In s.heap := e0.mod.kin.keeps fun b o e => (e0.bs b o e).1
  have limit : s.heap.NoLimit :=
    e0.mod.nolimit.keeps fun b o e => (e0.bs b o e).1
  refine codeAny_call_function hr.depth (kIn _ _ lk) rfl S.co S.gen rfl
    (PySem.W.codeRec_of kIn hcd) (hbind _ _ _ _ ?_)
  refine wpAny_newFunctionEnv_cells S.kind (fun ⟨n, v⟩ hy => ?_) fun env he s1 inCall => ?_
  · rcases S.par n (List.of_mem_zip hy).1 with q | q
    · exact .inl q
    · exact .inr ⟨q, PySem.W.cellsFrom_some _ _ _ (.inl q)⟩
  subst he
  refine ⟨limit.keeps inCall.toInCall.keep, codeAny_func ?_⟩
  obtain ⟨t, ht, hq⟩ := hb cdv A outer s H vs Q E hg (hr.deeper _) hsp
  have I0 := inv_start (CX := CX0) (E := E) S hr.hd e0 (len _ _ _ _ hsp) rv inCall
  refine wpAny_mono (ht.nox.run [] s1 (start N vs) H _ I0 hq) (fun flow s' hs => ?_) fun e s' hs => hs
  cases flow with
  | ret u =>
    obtain ⟨v, σ', H', J, r, q⟩ := hs
    exact ⟨v, H', J.os, J.bare, J.base, J.hok, r, q⟩
  | next =>
    obtain ⟨σ', H', J, q⟩ := hs
    exact ⟨V.non, H', J.os, J.bare, J.base, J.hok, rfl, q⟩
  | brk =>
    obtain ⟨_, _, _, q⟩ := hs
    exact q.elim
  | cont =>
    obtain ⟨_, _, _, q⟩ := hs
    exact q.elim
end

section
variable {X : Cx} {k : Nat} {f : Addr} {fd : FuncData} {ps : List Str} {sp : Sp} {x : Str} {p pos : Pos} {e : Expr} {es : List Expr} {t : TA}
theorem pe_callG (F : FnG X.prog X.w X.K X.mg X.base k f fd ps sp) (hg : X.A.guards = some []) (hr : Room k X.A) (gl : Gl X x) (hm : X.mg x = some (.ref f)) (hk : PySem.W.keepIn X.K (.ref f) = true) (hb : Binds X.K fd ps [])
    (ha : PA X (e :: es) t) (hdb : (x == ("__debug__" : Str)) = false := by decide) (he : starEach (e :: es) X.env = (false, eval e X.env) :: starEach es X.env := by rfl)
    (hpl : (backTo pos (starEach es X.env)).any (·.1) = false := by rfl) : PE X (.Call (.Name x p) (e :: es) [] pos) (tCall sp [] E0 t) := by
  refine ⟨fun pins s σ H Q I h => wpAny_Call_Name_kw (ld_glob I gl hm ?_ hdb)⟩
  refine PySem.W.callWith_K (h₀ := X.base) I.ok.mod.kin hk
    (thn (ha.run pos pins s σ H _ I h) fun us s1 ⟨vs, H1, I1, r, q⟩ => ⟨I1.kIn, ?_⟩) he hpl
  have q' : sp vs H1 Q E0 := by
    have z : sp (vs ++ []) H1 Q E0 := q
    rwa [List.append_nil] at z
  have hl : (us ++ []).length = ps.length := by
    rw [List.append_nil, ← r.length]
    exact F.many _ _ _ _ q'
  have hz := hb s1 us I1.kIn hl
  rw [List.append_nil] at hz
  refine wpAny_call (codeAny_mono (F.goes X.A X.stack s1 H1 ⟨us, []⟩ us vs Q E0 hg hr I1.env0 hz r q') fun res s' hq => ?_)
  match res, hq with
  | .error _, hq => exact (show False from hq).elim
  | .ok (.ret _), hq => exact I1.after hq
  | .ok .next, hq => exact (show False from hq).elim
  | .ok .brk, hq => exact (show False from hq).elim
  | .ok .cont, hq => exact (show False from hq).elim
end

/-- the law's own def, called on the script -/
theorem callG {P : Program} {w : World} {K : PySem.W.Frag} {mg mb : Str → Option Value} {k : Nat} {fa a : Addr} {fd : FuncData} {x : Str} {sp : Sp} {s : Shared} {vs : List Value} {ns : List Int}
    (kin : K.In s.heap) (glob : s.heap.Ns mainGlobals mg) (blt : s.heap.Ns builtinsNs mb) (boots : ∀ x : Str, x ≠ "__name__" → mb x = bootBuiltins x) (lim : s.heap.NoLimit) (gens : s.gens = #[])
    (ha : s.heap.get? a = some { cls := .type "list", data := .seq vs.toArray }) (hints : PyProof.Rows.IntsAre vs ns) (hl : ns.length ≤ sizeLine) (hr : Room k callerA)
    (F : ∀ base : Heap, K.In base → base.Ns mainGlobals mg → FnG P w K mg base k fa fd [x] sp) (bind : ∀ (s : Shared) (u : Value), BindsTo s fd ⟨[u], []⟩ [(x, u)])
    (hsp : ∀ H : Hp, SqL K H a (ns.map V.int) → sp [.ref a] H (fun v _ => v = .bl true) fun _ _ _ => False) :
    codeAny (model P w) callerA (.call (.ref fa) ⟨[.ref a], []⟩) (fun r s' => r = .ok (.ret (.bool true)) ∧ OldK s.heap s'.heap ∧ s'.os = s.os ∧ AllBare s'.gens) s := by
  have rv := vals_ints hints
  have lenV := hints.length
  have main : ∀ H : Hp, (∀ b, H b = none ∨ (b = a ∧ ∃ o xs, H b = some (.frz o (.lst xs)))) → SqL K H a (ns.map V.int) → HOk P w H s.heap → (H a ≠ none → K.lookup a = none) →
      codeAny (model P w) callerA (.call (.ref fa) ⟨[.ref a], []⟩) (fun r s' => r = .ok (.ret (.bool true)) ∧ OldK s.heap s'.heap ∧ s'.os = s.os ∧ AllBare s'.gens) s := by
    intro H only sq hok outside
    have there : ∀ {b : Addr} {m : Str → Option Value}, s.heap.Ns b m → (hidT s.heap H).Ns b m := by
      rintro b m ⟨o, es, ep, e, d, r⟩
      refine ⟨o, es, ep, hidT_get e ?_, d, r⟩
      rcases only b with z | ⟨z, _⟩
      · exact z
      · rw [z, ha] at e
        cases e
        exact nomatch d
    have kin' : K.In (hidT s.heap H) := fun b o e => hidT_get (kin b o e) (by
      rcases only b with z | ⟨z, o', xs, q⟩
      · exact z
      · have n := outside (by rw [← z, q]; simp)
        rw [← z, e] at n
        cases n)
    have M : Mod K mg (hidT s.heap H) := by
      obtain ⟨mc, h1, h2⟩ := lim
      exact ⟨kin', there glob, ⟨mb, there blt, boots⟩, ⟨mc, there h1, h2⟩⟩
    have e0 : Env0 P w K mg (hidT s.heap H) callerA [] s H := by
      refine ⟨rfl, M, fun b o e => of_hidT e, Nat.le_of_eq (hidT_size _ _), trivial, fun b hb => ?_, hok, .of_eq gens⟩
      exact absurd (show b ∈ ([] : List Addr) from hb) (by simp)
    have ran := (F _ kin' (there glob)).goes callerA [] s H ⟨[.ref a], []⟩ [.ref a] [.ref a] _ _ rfl hr e0
      (bind s (.ref a)) (.cons rfl .nil) (hsp H sq)
    refine codeAny_mono ran fun r s' h => ?_
    match r, h with
    | .error _, h => exact (show False from h).elim
    | .ok .next, h => exact (show False from h).elim
    | .ok .brk, h => exact (show False from h).elim
    | .ok .cont, h => exact (show False from h).elim
    | .ok (.ret u), ⟨v, H', os, bare, un, hok', r', q⟩ =>
      have q' : v = .bl true := q
      subst q'
      obtain rfl : u = Value.bool true := r'
      refine ⟨rfl, OldK.of_keep fun b o e => ?_, os, bare⟩
      rcases only b with z | ⟨_, ob, xs, z⟩
      · exact un.keep b o e z (by intro y; exact absurd (show b ∈ ([] : List Addr) from y) (by simp)) (by simp)
      · obtain ⟨e1, _⟩ := hok b _ z
        obtain ⟨e2, _⟩ := hok' b _ (un.frzs b ob _ z)
        rw [e] at e1
        cases e1
        exact e2
  cases hk : K.lookup a with
  | some o =>
    have e := kin a o hk
    rw [ha] at e
    cases e
    refine main (fun _ => none) (fun _ => .inl rfl) (.inr ⟨_, vs.toArray, _, hk, rfl, rfl, rfl, ?_, by simpa using rv⟩) (fun b u z => nomatch z) fun z => absurd rfl z
    rw [List.size_toArray, lenV]
    exact hl
  | none =>
    refine main (fun b => if b = a then some (.frz { cls := .type "list", data := .seq vs.toArray } (.lst (ns.map V.int))) else none) (fun b => ?_) (.inl (.inr ⟨_, if_pos rfl⟩)) (fun b u z => ?_) fun _ => hk
    · by_cases hb : b = a
      · exact .inr ⟨hb, _, _, if_pos hb⟩
      · exact .inl (if_neg hb)
    · by_cases hb : b = a
      · have z' := (if_pos hb).symm.trans z
        cases z'
        subst hb
        exact ⟨ha, by rw [List.length_map]; exact hl, vs, _, rv, ha⟩
      · have z' := (if_neg hb).symm.trans z
        cases z'

/-- the goal that the head leaves -/
theorem walkG {l : PySem.W.OpenLaw} {n k : Nat} {q : Program} {loose : List Str} {XP : (Str → Option Value) → Heap → Prop} {YP : World → Heap → Prop} {d : DefRec} {K : Params → PySem.W.Frag} {sp : PySem.W.Frag → Sp} {x : Str}
    (hn : l.most = some n) (hn2 : n ≤ sizeLine) (hdf : d.params.defaults = []) (hr : Room k callerA) (hY : ∀ (w : World) (h : Heap), YP w h → (K w.params).In h)
    (F : ∀ (w : World) (mg : Str → Option Value) (fa : Addr) (h : Heap), (K w.params).In h → h.Ns mainGlobals mg → mg d.name = some (.ref fa) → ∃ fd : FuncData, (∀ (s : Shared) (u : Value), BindsTo s fd ⟨[u], []⟩ [(x, u)]) ∧
      ∀ base : Heap, (K w.params).In base → base.Ns mainGlobals mg → FnG l.prog w (K w.params) mg base k fa fd [x] (sp (K w.params)))
    (hsp : ∀ (K : PySem.W.Frag) (H : Hp) (a : Addr) (ns : List Int), ns.length ≤ n → SqL K H a (ns.map V.int) → sp K [.ref a] H (fun v _ => v = .bl true) fun _ _ _ => False) :
    PySem.W.WalkO q loose XP YP l.row.toRowW d [] (fun f vs => PySem.call f vs) := by
  refine Att.attach_call hn hdf fun w s₀ s₁ mg mb fa o pm cd doc a vs ns G Y ho hd hcd hmg hobj hints hlen hg => ?_
  obtain ⟨fd, hb, hF⟩ := F w mg fa _ (hY w _ Y) G.T.g hmg
  exact callG (hY w _ Y) G.T.g G.T.b G.T.builtins G.T.nolimit hg hobj hints (Nat.le_trans hlen hn2) hr hF hb fun H hS => hsp _ H a ns hlen hS
end Lw
set_option Elab.async false
set_option maxRecDepth 100000
/-! What the drawn numbers stand in, and small lemmas about lists of ints in the heap. -/
namespace Lw
open PySem L2

/-- all that was tracked but p is as it was -/
def SameX (p : Addr) (H H' : Hp) : Prop := ∀ b o, H b = some o → b ≠ p → H' b = some o
theorem SameX.refl (p : Addr) (H : Hp) : SameX p H H := fun _ _ h _ => h
theorem SameX.trans {p : Addr} {H H1 H2 : Hp} (a : SameX p H H1) (b : SameX p H1 H2) : SameX p H H2 := fun c o h n => b c o (a c o h n) n
theorem SameX.of {p : Addr} {H H1 : Hp} (a : Same H H1) : SameX p H H1 := fun c o h _ => a c o h
theorem SameX.upd {p : Addr} {H : Hp} {o : HO} : SameX p H (upd H p o) := fun c o h n => by rw [upd_ne n]; exact h
theorem same_new {H : Hp} {q : Addr} {o : HO} (h : H q = none) : Same H (upd H q o) := fun c o' e => by rw [upd_ne (ne_of_none e h)]; exact e

abbrev kvP (c : Addr) (s m : Int) : List (Key × V) := [((.inr "cells" : Key), V.ref c), (.inr "spot", V.int s), (.inr "more", V.int m)]
theorem n_cs : ¬ (("cells" : Str) = "spot") := by decide +kernel
theorem n_cm : ¬ (("cells" : Str) = "more") := by decide +kernel
theorem n_sm : ¬ (("spot" : Str) = "more") := by decide +kernel
theorem n_ms : ¬ (("more" : Str) = "spot") := by decide +kernel
theorem v_cells (c : Addr) (s m : Int) : valV (kvP c s m) (.inr "cells") = some (.ref c) := by
  unfold valV kvP
  simp
theorem v_spot (c : Addr) (s m : Int) : valV (kvP c s m) (.inr "spot") = some (.int s) := by
  unfold valV kvP
  rw [List.find?_cons_of_neg (by simpa using n_cs)]
  simp
theorem v_more (c : Addr) (s m : Int) : valV (kvP c s m) (.inr "more") = some (.int m) := by
  unfold valV kvP
  rw [List.find?_cons_of_neg (by simpa using n_cm), List.find?_cons_of_neg (by simpa using n_sm)]
  simp
theorem p_spot (c : Addr) (s m t : Int) : putK (kvP c s m) (.inr "spot") (.int t) = kvP c t m := by
  simp [kvP, putK, n_cs, n_ms]
theorem p_more (c : Addr) (s m t : Int) : putK (kvP c s m) (.inr "more") (.int t) = kvP c s t := by
  simp [kvP, putK, n_cm, n_sm]

/-- the pen at p, its cells at c, at most N numbers drawn -/
def PenAt (H : Hp) (p c : Addr) (N : Nat) : Prop :=
  ∃ (ns : List Int) (s m : Int), H p = some (.dK (kvP c s m)) ∧ H c = some (.lst (ns.map V.int)) ∧ 0 ≤ s ∧ s ≤ N ∧ ns.length ≤ 63
section
variable {H H' : Hp} {p c q : Addr} {N M : Nat}
theorem PenAt.more (h : PenAt H p c N) (l : N ≤ M) : PenAt H p c M := by
  obtain ⟨ns, s, m, h1, h2, h3, h4, h5⟩ := h
  exact ⟨ns, s, m, h1, h2, h3, by omega, h5⟩
theorem PenAt.same (h : PenAt H p c N) (s : Same H H') : PenAt H' p c N := by
  obtain ⟨ns, z, m, h1, h2, h3⟩ := h
  exact ⟨ns, z, m, s _ _ h1, s _ _ h2, h3⟩
theorem PenAt.upd {o : HO} (h : PenAt H p c N) (n1 : q ≠ p) (n2 : q ≠ c) : PenAt (upd H q o) p c N := by
  obtain ⟨ns, z, m, h1, h2, h3⟩ := h
  exact ⟨ns, z, m, by rw [upd_ne n1.symm]; exact h1, by rw [upd_ne n2.symm]; exact h2, h3⟩
theorem PenAt.ne {o : HO} (h : PenAt H p c N) (e : H q = some o) (no : ∀ kvs, o ≠ .dK kvs) : q ≠ p := by
  obtain ⟨ns, z, m, h1, _⟩ := h
  intro z
  rw [z, h1] at e
  exact no _ (Option.some.inj e).symm
theorem PenAt.new (h : PenAt H p c N) (e : H q = none) : q ≠ p := by
  obtain ⟨ns, z, m, h1, _⟩ := h
  intro z
  rw [z, h1] at e
  cases e
theorem PenAt.newC (h : PenAt H p c N) (e : H q = none) : q ≠ c := by
  obtain ⟨ns, z, m, _, h1, _⟩ := h
  intro z
  rw [z, h1] at e
  cases e
/-- a tracked list, tuple stays where just the pen changes -/
theorem SameX.lst {xs : List V} (s : SameX p H H') (h : PenAt H p c N) (e : H q = some (.lst xs)) : H' q = some (.lst xs) := s _ _ e (h.ne e fun _ => nofun)
theorem SameX.tup {xs : List V} (s : SameX p H H') (h : PenAt H p c N) (e : H q = some (.tup xs)) : H' q = some (.tup xs) := s _ _ e (h.ne e fun _ => nofun)
theorem SameX.free (s : SameX p H H') (h : PenAt H' p c N) (e : H' q = none) : H q = none := by
  cases z : H q with
  | none => rfl
  | some o =>
    rw [s _ _ z (h.new e)] at e
    cases e
/-- a new thing is changed -/
theorem SameX.new {o : HO} (s : SameX p H H') (e : H q = none) : SameX p H (L2.upd H' q o) := fun b u h n => by
  rw [upd_ne (ne_of_none h e)]
  exact s b u h n
end

/-! ### where ways meet -/
theorem set_cut {te : TE} {g : TG} {D : Ends} {σ : St} {H : Hp} (P : V → Hp → Prop) (h : ∀ Q : VK, (∀ v H', P v H' → Q v H') → te σ H Q) (k : ∀ v H', P v H' → g v σ H' D.nx) : tAsg te g D σ H := h _ k
theorem seq_cut {t u : TS} {D : Ends} {σ : St} {H : Hp} (P : St → Hp → Prop) (h : ∀ N : St → Hp → Prop, (∀ σ' H', P σ' H' → N σ' H') → t { D with nx := N } σ H) (k : ∀ σ' H', P σ' H' → u D σ' H') : tSeq t u D σ H := h _ k
theorem seq_set_cut {te : TE} {g : TG} {u : TS} {D : Ends} {σ : St} {H : Hp} (P : V → Hp → Prop) (h : ∀ Q : VK, (∀ v H', P v H' → Q v H') → te σ H Q) (k : ∀ v H', P v H' → g v σ H' (u D)) : tSeq (tAsg te g) u D σ H := h _ k
theorem fmod_lo (a : Int) {b : Int} (h : 0 < b) : 0 ≤ a.fmod b := Int.fmod_nonneg_of_pos a h
theorem fmod_hi (a : Int) {b : Int} (h : 0 < b) : a.fmod b < b := Int.fmod_lt_of_pos a h
theorem at_int {ns : List Int} {i : Int} (h0 : 0 ≤ i) (h1 : i < ns.length) : ∃ z, atI (ns.map V.int) i = some (.int z) := by
  obtain ⟨n, rfl⟩ := Int.eq_ofNat_of_zero_le h0
  have hn : n < ns.length := by omega
  exact ⟨ns[n], atI_nat (by simp [hn])⟩
theorem dp_ints {K : PySem.W.Frag} {H : Hp} : ∀ ns : List Int, DpAll K H (ns.map V.int) (ns.map PyData.int)
  | [] => .nil
  | n :: ns => .cons (.int n) (dp_ints ns)
theorem dp_list {K : PySem.W.Frag} {H : Hp} {a : Addr} {ns : List Int} (h : H a = some (.lst (ns.map V.int))) : Dp K H (.ref a) (.list (ns.map PyData.int)) := .lst (SqL.of h) (dp_ints ns)
theorem dp_tup {K : PySem.W.Frag} {H : Hp} {a : Addr} {ns : List Int} (h : H a = some (.tup (ns.map V.int))) : Dp K H (.ref a) (.tuple (ns.map PyData.int)) := .tup (SqT.of h) (dp_ints ns)
theorem depth_ints : ∀ ns : List Int, PyData.depthAll (ns.map PyData.int) = 0
  | [] => by simp [PyData.depthAll]
  | n :: ns => by simp [PyData.depthAll, PyData.depth, depth_ints ns]
theorem lay_ints : ∀ ns : List Int, PyData.canLayAll0 (ns.map PyData.int) = true
  | [] => by simp [PyData.canLayAll0]
  | n :: ns => by simp [PyData.canLayAll0, PyData.canLay0, lay_ints ns]
theorem shaped_list (ns : List Int) : SeqAt.shaped (.list (ns.map PyData.int)) = true := by
  simp [SeqAt.shaped, PyData.canLay0, lay_ints, PyData.depth, depth_ints]
theorem shaped_tup (ns : List Int) : SeqAt.shaped (.tuple (ns.map PyData.int)) = true := by
  simp [SeqAt.shaped, PyData.canLay0, lay_ints, PyData.depth, depth_ints]
theorem eqv_ints : ∀ ns ms : List Int, PyData.eqvAll (ns.map PyData.int) (ms.map PyData.int) = decide (ns = ms)
  | [], [] => by simp [PyData.eqvAll]
  | [], _ :: _ => by simp [PyData.eqvAll]
  | _ :: _, [] => by simp [PyData.eqvAll]
  | n :: ns, m :: ms => by
    have e : PyData.eqv (PyData.int n) (PyData.int m) = decide (n = m) := by
      simp only [PyData.eqv]
      by_cases h : n = m <;> simp [h]
    simp only [List.map_cons, PyData.eqvAll, e, eqv_ints ns ms, List.cons.injEq, Bool.decide_and]
theorem eqv_list (ns ms : List Int) : PyData.eqv (.list (ns.map PyData.int)) (.list (ms.map PyData.int)) = decide (ns = ms) := by
  simp only [PyData.eqv, eqv_ints]
theorem eqv_tup (ns ms : List Int) : PyData.eqv (.tuple (ns.map PyData.int)) (.tuple (ms.map PyData.int)) = decide (ns = ms) := by
  simp only [PyData.eqv, eqv_ints]
end Lw
set_option linter.all false
/-! Rows of runners as lists of ints: passes, words, orders. Core Lean alone. -/
namespace Lw
/-- a pass at the k-th place -/
def sw : List Int → Nat → List Int
  | a :: b :: l, 0 => b :: a :: l
  | a :: l, k + 1 => a :: sw l k
  | l, _ => l
def run (l : List Int) (w : List Int) : List Int := w.foldl (fun l k => sw l k.toNat) l
def idl (n : Nat) : List Int := (List.range n).map fun (i : Nat) => (i : Int)
def OkW (n : Nat) (w : List Int) : Prop := ∀ k ∈ w, 0 ≤ k ∧ k + 1 < n

theorem sw_len : ∀ (l : List Int) (k : Nat), (sw l k).length = l.length
  | [], 0 => rfl
  | [], _ + 1 => rfl
  | [_], 0 => rfl
  | _ :: _ :: _, 0 => rfl
  | a :: l, k + 1 => by simp [sw, sw_len l k]
theorem run_len (l : List Int) : ∀ w : List Int, (run l w).length = l.length := by
  intro w
  unfold run
  induction w generalizing l with
  | nil => rfl
  | cons k w ih => rw [List.foldl_cons, ih, sw_len]
theorem run_nil (l : List Int) : run l [] = l := rfl
theorem run_cons (l : List Int) (k : Int) (w : List Int) : run l (k :: w) = run (sw l k.toNat) w := rfl
theorem run_append (l : List Int) (v w : List Int) : run l (v ++ w) = run (run l v) w := by unfold run; rw [List.foldl_append]
theorem run_snoc (l : List Int) (w : List Int) (k : Int) : run l (w ++ [k]) = sw (run l w) k.toNat := by rw [run_append]; rfl
theorem sw_perm : ∀ (l : List Int) (k : Nat), (sw l k).Perm l
  | [], 0 => .refl _
  | [], _ + 1 => .refl _
  | [_], 0 => .refl _
  | a :: b :: l, 0 => .swap a b l
  | a :: l, k + 1 => by
    have h : sw (a :: l) (k + 1) = a :: sw l k := by simp [sw]
    rw [h]
    exact (sw_perm l k).cons a
theorem run_perm (l w : List Int) : (run l w).Perm l := by
  induction w generalizing l with
  | nil => exact .refl _
  | cons k w ih => rw [run_cons]; exact (ih _).trans (sw_perm _ _)
theorem sw_map (g : Int → Int) : ∀ (l : List Int) (k : Nat), sw (l.map g) k = (sw l k).map g
  | [], 0 => rfl
  | [], _ + 1 => rfl
  | [_], 0 => rfl
  | _ :: _ :: _, 0 => rfl
  | a :: l, k + 1 => by simp [sw, sw_map g l k]
theorem run_map (g : Int → Int) (l w : List Int) : run (l.map g) w = (run l w).map g := by
  induction w generalizing l with
  | nil => rfl
  | cons k w ih => rw [run_cons, run_cons, sw_map, ih]
theorem sw_sw : ∀ (l : List Int) (k : Nat), sw (sw l k) k = l
  | [], 0 => rfl
  | [], _ + 1 => rfl
  | [_], 0 => rfl
  | _ :: _ :: _, 0 => rfl
  | a :: l, k + 1 => by simp [sw, sw_sw l k]
theorem run_back (l w : List Int) : run (run l w) w.reverse = l := by
  induction w generalizing l with
  | nil => rfl
  | cons k w ih => rw [run_cons, List.reverse_cons, run_snoc, ih, sw_sw]
theorem sw_at : ∀ (A : List Int) (a b : Int) (R : List Int), sw (A ++ a :: b :: R) A.length = A ++ b :: a :: R
  | [], _, _, _ => rfl
  | x :: A, a, b, R => by simp [sw, sw_at A a b R]
theorem split2 {l : List Int} {k : Nat} (h : k + 1 < l.length) : ∃ A a b R, l = A ++ a :: b :: R ∧ A.length = k := by
  refine ⟨l.take k, l[k], l[k + 1], l.drop (k + 2), ?_, by rw [List.length_take]; omega⟩
  rw [List.getElem_cons_drop h, List.getElem_cons_drop (by omega), List.take_append_drop]
/-- the pass as slices tell it -/
theorem sw_cut {l : List Int} {k : Nat} {a b : Int} (ha : l[k]? = some a) (hb : l[k + 1]? = some b) : l.take k ++ b :: a :: l.drop (k + 2) = sw l k := by
  have h : k + 1 < l.length := (List.getElem?_eq_some_iff.mp hb).1
  obtain ⟨A, x, y, R, rfl, rfl⟩ := split2 h
  have e1 : x = a := by simpa using ha
  have e2 : y = b := by simpa [List.getElem?_append_right] using hb
  subst e1 e2
  rw [sw_at]
  simp [List.drop_append]
/-- .. as two stores tell it -/
theorem sw_set {l : List Int} {k : Nat} {a b : Int} (ha : l[k]? = some a) (hb : l[k + 1]? = some b) : (l.set k b).set (k + 1) a = sw l k := by
  have h : k + 1 < l.length := (List.getElem?_eq_some_iff.mp hb).1
  obtain ⟨A, x, y, R, rfl, rfl⟩ := split2 h
  have e1 : x = a := by simpa using ha
  have e2 : y = b := by simpa [List.getElem?_append_right] using hb
  subst e1 e2
  rw [sw_at]
  simp [List.set_append]

theorem erase_perm {l : List Int} {j : Nat} (h : j < l.length) : (l[j] :: l.eraseIdx j).Perm l := by
  have e : l = l.take j ++ l[j] :: l.drop (j + 1) := by rw [List.getElem_cons_drop h, List.take_append_drop]
  have e2 : l.eraseIdx j = l.take j ++ l.drop (j + 1) := List.eraseIdx_eq_take_drop_succ l j
  rw [e2]
  conv => rhs; rw [e]
  exact List.perm_middle.symm
theorem erase_map {α β : Type} (f : α → β) (l : List α) (j : Nat) : (l.map f).eraseIdx j = (l.eraseIdx j).map f := by
  rw [List.eraseIdx_eq_take_drop_succ, List.eraseIdx_eq_take_drop_succ, List.map_append, List.map_take, List.map_drop]
theorem idl_len (n : Nat) : (idl n).length = n := by simp [idl]
theorem idl_get {n i : Nat} (h : i < n) : (idl n)[i]? = some (i : Int) := by simp [idl, h]
theorem mem_idl {n : Nat} {x : Int} : x ∈ idl n ↔ 0 ≤ x ∧ x < n := by
  unfold idl
  rw [List.mem_map]
  constructor
  · rintro ⟨i, hi, rfl⟩
    have := List.mem_range.mp hi
    omega
  · rintro ⟨h0, h1⟩
    exact ⟨x.toNat, List.mem_range.mpr (by omega), by omega⟩
theorem idl_nodup (n : Nat) : (idl n).Nodup := by
  unfold idl
  rw [List.nodup_iff_pairwise_ne, List.pairwise_map]
  exact (List.nodup_iff_pairwise_ne.mp List.nodup_range).imp (by intro a b h e; exact h (by omega))
theorem idl_succ (n : Nat) : idl (n + 1) = idl n ++ [(n : Int)] := by simp [idl, List.range_succ]
theorem idl_of {n : Nat} (p : List Int) (h : p.length = n) : (idl n).map (fun r => p.getD r.toNat 0) = p := by
  apply List.ext_getElem?
  intro i
  by_cases hi : i < n
  · rw [List.getElem?_map, idl_get hi]
    simp [List.getD_eq_getElem?_getD, List.getElem?_eq_getElem (h ▸ hi : i < p.length)]
  · rw [List.getElem?_eq_none (by rw [List.length_map, idl_len]; omega), List.getElem?_eq_none (by omega)]
/-- a word of the one, then one of the other -/
theorem run_join (n : Nat) (v w : List Int) : run (idl n) (v ++ w) = (run (idl n) w).map fun r => (run (idl n) v).getD r.toNat 0 := by
  rw [run_append, ← run_map, idl_of _ (by rw [run_len, idl_len])]
/-- the word from behind undoes it -/
theorem run_undo (n : Nat) (w : List Int) : (run (idl n) w.reverse).map (fun r => (run (idl n) w).getD r.toNat 0) = idl n := by
  rw [← run_join, run_append, run_back]

/-- orders of n runners -/
def Ord (n : Nat) (p : List Int) : Prop := p.Perm (idl n)
theorem Ord.len {n : Nat} {p : List Int} (h : Ord n p) : p.length = n := by rw [h.length_eq, idl_len]
theorem Ord.nodup {n : Nat} {p : List Int} (h : Ord n p) : p.Nodup := h.nodup_iff.mpr (idl_nodup n)
theorem Ord.mem {n : Nat} {p : List Int} (h : Ord n p) {x : Int} : x ∈ p ↔ 0 ≤ x ∧ x < n := by rw [h.mem_iff, mem_idl]
theorem ord_run (n : Nat) (w : List Int) : Ord n (run (idl n) w) := run_perm _ _
theorem ord_idl (n : Nat) : Ord n (idl n) := .refl _
/-- q undoes p -/
def Undoes (n : Nat) (p q : List Int) : Prop := q.length = n ∧ ∀ (i : Nat) (x : Int), q[i]? = some x → 0 ≤ x ∧ p[x.toNat]? = some (i : Int)
theorem undoes_run (n : Nat) (w : List Int) : Undoes n (run (idl n) w) (run (idl n) w.reverse) := by
  refine ⟨by rw [run_len, idl_len], fun i x hx => ?_⟩
  have hi : i < n := by
    have := (List.getElem?_eq_some_iff.mp hx).1
    rwa [run_len, idl_len] at this
  have hm : x ∈ run (idl n) w.reverse := List.mem_of_getElem? hx
  have hb := (ord_run n w.reverse).mem.mp hm
  refine ⟨hb.1, ?_⟩
  have e := congrArg (fun l => l[i]?) (run_undo n w)
  simp only [List.getElem?_map, hx, idl_get hi, Option.map_some, Option.some.injEq, List.getD_eq_getElem?_getD] at e
  have hl : x.toNat < (run (idl n) w).length := by rw [run_len, idl_len]; omega
  rw [List.getElem?_eq_getElem hl] at e ⊢
  simpa using e
theorem undoes_idx {n : Nat} {p : List Int} (h : Ord n p) : Undoes n p ((idl n).map fun i => ((p.idxOf i : Nat) : Int)) := by
  refine ⟨by rw [List.length_map, idl_len], fun i x hx => ?_⟩
  have hi : i < n := by
    have := (List.getElem?_eq_some_iff.mp hx).1
    rwa [List.length_map, idl_len] at this
  rw [List.getElem?_map, idl_get hi] at hx
  simp only [Option.map_some, Option.some.injEq] at hx
  subst hx
  have hm : (i : Int) ∈ p := h.mem.mpr ⟨by omega, by omega⟩
  refine ⟨by omega, ?_⟩
  rw [Int.toNat_natCast, List.getElem?_eq_getElem (List.idxOf_lt_length_of_mem hm), List.getElem_idxOf]
theorem Undoes.join {n : Nat} {p q : List Int} (h : Undoes n p q) : q.map (fun r => p.getD r.toNat 0) = idl n := by
  apply List.ext_getElem?
  intro i
  by_cases hi : i < n
  · have hq : i < q.length := by rw [h.1]; exact hi
    have e := (h.2 i q[i] (List.getElem?_eq_getElem hq)).2
    rw [List.getElem?_map, List.getElem?_eq_getElem hq, idl_get hi, Option.map_some, List.getD_eq_getElem?_getD, e]
    rfl
  · rw [List.getElem?_eq_none (by rw [List.length_map, h.1]; omega), List.getElem?_eq_none (by rw [idl_len]; omega)]

/-! ### the told form -/
/-- the lesser ones that stand behind r -/
def behind (d : List Int) (r : Int) : List Int := (d.drop (d.idxOf r)).filter fun x => decide (x < r)
def leads (d : List Int) (r : Int) : List Int := (idl (behind d r).length).map fun k => r - 1 - k
def formTo (d : List Int) : Nat → List Int
  | 0 => []
  | k + 1 => formTo d k ++ leads d ((k : Int) + 1)
def form (n : Nat) (d : List Int) : List Int := formTo d (n - 1)

theorem run_move (A : List Int) (x : Int) : ∀ (m : Nat) (B R : List Int), B.length = m → run (A ++ (B ++ x :: R)) ((idl m).map fun j => ((A.length + m : Nat) : Int) - 1 - j) = A ++ x :: (B ++ R) := by
  intro m
  induction m with
  | zero =>
    intro B R hB
    have : B = [] := List.length_eq_zero_iff.mp hB
    subst this
    simp [idl, run]
  | succ m ih =>
    intro B R hB
    have hne : B ≠ [] := by intro e; subst e; simp at hB
    obtain ⟨C, b, rfl⟩ : ∃ C b, B = C ++ [b] := ⟨B.dropLast, B.getLast hne, (List.dropLast_concat_getLast hne).symm⟩
    have hC : C.length = m := by simpa using hB
    have e1 : (idl (m + 1)).map (fun j => ((A.length + (m + 1) : Nat) : Int) - 1 - j) = ((A.length + m : Nat) : Int) :: (idl m).map fun j => ((A.length + m : Nat) : Int) - 1 - j := by
      unfold idl
      rw [List.range_succ_eq_map]
      simp only [List.map_cons, List.map_map]
      congr 1
      · omega
      · apply List.map_congr_left
        intro i _
        simp only [Function.comp]
        omega
    rw [e1, run_cons]
    have e2 : A ++ (C ++ [b] ++ x :: R) = (A ++ C) ++ b :: x :: R := by simp
    have e3 : ((A.length + m : Nat) : Int).toNat = (A ++ C).length := by rw [Int.toNat_natCast, List.length_append, hC]
    rw [e2, e3, sw_at, List.append_assoc, ih C (b :: R) hC]
    simp

theorem split_at {p : List Int} {x : Int} (hn : p.Nodup) (hm : x ∈ p) : ∃ A B, p = A ++ x :: B ∧ p.idxOf x = A.length ∧ x ∉ A ∧ x ∉ B := by
  have hl := List.idxOf_lt_length_of_mem hm
  have e : p = p.take (p.idxOf x) ++ x :: p.drop (p.idxOf x + 1) := by
    have h1 := List.getElem_cons_drop hl
    rw [List.getElem_idxOf] at h1
    rw [h1, List.take_append_drop]
  have hn' := hn
  rw [e] at hn'
  rw [List.nodup_append] at hn'
  refine ⟨_, _, e, by rw [List.length_take]; omega, fun q => hn'.2.2 x q x (by simp) rfl, fun q => ?_⟩
  exact (List.nodup_cons.mp hn'.2.1).1 q
/-- the lesser ones, as they stand -/
def low (d : List Int) (k : Int) : List Int := d.filter fun x => decide (x < k)
theorem low_len {n : Nat} {d : List Int} (h : Ord n d) {k : Nat} (hk : k ≤ n) : (low d k).length = k := by
  have e : (low d k).length = (low (idl n) k).length := (h.filter _).length_eq
  rw [e]
  have : low (idl n) k = idl k := by
    unfold low idl
    rw [List.filter_map]
    congr 1
    have : ∀ n, k ≤ n → (List.range n).filter ((fun x : Int => decide (x < (k : Int))) ∘ fun i : Nat => (i : Int)) = List.range k := by
      intro n hk
      induction n with
      | zero => have : k = 0 := by omega
                subst this; rfl
      | succ n ih =>
        by_cases e : k = n + 1
        · subst e
          apply List.filter_eq_self.mpr
          intro a ha
          have := List.mem_range.mp ha
          simp only [Function.comp, decide_eq_true_eq]
          omega
        · rw [List.range_succ, List.filter_append, ih (by omega)]
          simp only [Function.comp, List.filter_cons, List.filter_nil]
          rw [if_neg (by simp; omega), List.append_nil]
    exact this n hk
  rw [this, idl_len]
theorem formTo_run {n : Nat} {d : List Int} (h : Ord n d) : ∀ k : Nat, k + 1 ≤ n → run (idl n) (formTo d k) = low d ((k : Int) + 1) ++ ((List.range (n - (k + 1))).map fun i => ((k + 1 + i : Nat) : Int)) := by
  intro k
  induction k with
  | zero =>
    intro hk
    have h1 : (low d ((0 : Nat) + 1 : Int)).length = 1 := by have := low_len h (k := 1) hk; simpa using this
    have h2 : ∀ x ∈ low d ((0 : Nat) + 1 : Int), x = 0 := by
      intro x hx
      have hx' := List.mem_filter.mp hx
      have hb := h.mem.mp hx'.1
      have := of_decide_eq_true hx'.2
      omega
    have h3 : low d ((0 : Nat) + 1 : Int) = [0] := by
      match q : low d ((0 : Nat) + 1 : Int), h1, h2 with
      | [x], _, h2 => rw [h2 x (by simp)]
    rw [h3]
    obtain ⟨m, rfl⟩ : ∃ m, n = m + 1 := ⟨n - 1, by omega⟩
    simp only [formTo, run_nil, idl, List.range_succ_eq_map, List.map_cons, List.map_map]
    simp [Nat.add_comm]
  | succ k ih =>
    intro hk
    have i0 := ih (by omega)
    have hm : ((k : Int) + 1) ∈ d := h.mem.mpr ⟨by omega, by omega⟩
    obtain ⟨A, B, e, hi, hA, hB⟩ := split_at h.nodup hm
    have lowk : low d ((k : Int) + 1) = low A ((k : Int) + 1) ++ low B ((k : Int) + 1) := by
      rw [e]
      simp [low, List.filter_append, List.filter_cons]
    have keep : ∀ (C : List Int), ((k : Int) + 1) ∉ C → low C (((k + 1 : Nat) : Int) + 1) = low C ((k : Int) + 1) := by
      intro C hC
      unfold low
      apply List.filter_congr
      intro x hx
      have : x ≠ (k : Int) + 1 := fun q => hC (q ▸ hx)
      rw [decide_eq_decide]
      omega
    have lowk1 : low d (((k + 1 : Nat) : Int) + 1) = low A ((k : Int) + 1) ++ ((k : Int) + 1) :: low B ((k : Int) + 1) := by
      have e2 : low d (((k + 1 : Nat) : Int) + 1) = low A (((k + 1 : Nat) : Int) + 1) ++ low (((k : Int) + 1) :: B) (((k + 1 : Nat) : Int) + 1) := by
        rw [e]
        simp [low, List.filter_append]
      rw [e2, keep A hA]
      congr 1
      have e3 : low (((k : Int) + 1) :: B) (((k + 1 : Nat) : Int) + 1) = ((k : Int) + 1) :: low B (((k + 1 : Nat) : Int) + 1) := by
        unfold low
        rw [List.filter_cons, if_pos (by simp; omega)]
      rw [e3, keep B hB]
    have hbeh : behind d ((k : Int) + 1) = low B ((k : Int) + 1) := by
      unfold behind
      rw [hi, e]
      simp [low, List.filter_cons]
    have hlen : (low A ((k : Int) + 1)).length + (low B ((k : Int) + 1)).length = k + 1 := by
      have := low_len h (k := k + 1) (by omega)
      have e4 : low d ((k + 1 : Nat) : Int) = low d ((k : Int) + 1) := by congr 1
      rw [e4, lowk, List.length_append] at this
      exact this
    have hr : ((List.range (n - (k + 1))).map fun i => ((k + 1 + i : Nat) : Int)) = ((k : Int) + 1) :: ((List.range (n - (k + 1 + 1))).map fun i => ((k + 1 + 1 + i : Nat) : Int)) := by
      obtain ⟨m, hm⟩ : ∃ m, n - (k + 1) = m + 1 := ⟨n - (k + 1) - 1, by omega⟩
      have hm2 : n - (k + 1 + 1) = m := by omega
      rw [hm, hm2, List.range_succ_eq_map]
      simp only [List.map_cons, List.map_map]
      congr 1
      apply List.map_congr_left
      intro i _
      simp only [Function.comp]
      omega
    rw [formTo, run_append, i0, lowk, hr, leads, hbeh]
    have mv := run_move (low A ((k : Int) + 1)) ((k : Int) + 1) (low B ((k : Int) + 1)).length (low B ((k : Int) + 1)) ((List.range (n - (k + 1 + 1))).map fun i => ((k + 1 + 1 + i : Nat) : Int)) rfl
    have ew : (fun j : Int => (((low A ((k : Int) + 1)).length + (low B ((k : Int) + 1)).length : Nat) : Int) - 1 - j) = fun j => (k : Int) + 1 - 1 - j := by
      funext j
      rw [hlen]
      omega
    rw [ew] at mv
    rw [List.append_assoc, mv, lowk1, List.append_assoc]
    simp
theorem form_run {n : Nat} {d : List Int} (h : Ord n d) (hn : 1 ≤ n) : run (idl n) (form n d) = d := by
  have e := formTo_run h (n - 1) (by omega)
  have e2 : n - (n - 1 + 1) = 0 := by omega
  have e3 : low d (((n - 1 : Nat) : Int) + 1) = d := by
    apply List.filter_eq_self.mpr
    intro x hx
    have := h.mem.mp hx
    simp only [decide_eq_true_eq]
    omega
  rw [e2, e3] at e
  simpa [form] using e
theorem behind_len {n : Nat} {d : List Int} (h : Ord n d) {k : Nat} (hk : k + 1 < n + 1) : (behind d (k : Int)).length ≤ k := by
  have h1 : (behind d (k : Int)).length ≤ (low d (k : Int)).length := by
    unfold behind low
    exact ((List.drop_sublist _ _).filter _).length_le
  rw [low_len h (by omega)] at h1
  exact h1
theorem formTo_ok {n : Nat} {d : List Int} (h : Ord n d) : ∀ k : Nat, k + 1 ≤ n → OkW n (formTo d k) ∧ 2 * (formTo d k).length ≤ k * (k + 1) := by
  intro k
  induction k with
  | zero =>
    intro _
    refine ⟨fun x hx => ?_, by simp [formTo]⟩
    simp [formTo] at hx
  | succ k ih =>
    intro hk
    obtain ⟨h1, h2⟩ := ih (by omega)
    have hb : (behind d ((k : Int) + 1)).length ≤ k + 1 := by
      have := behind_len h (k := k + 1) (by omega)
      simpa using this
    refine ⟨fun x hx => ?_, ?_⟩
    · rw [formTo] at hx
      rcases List.mem_append.mp hx with q | q
      · exact h1 x q
      · unfold leads at q
        obtain ⟨j, hj, rfl⟩ := List.mem_map.mp q
        have := mem_idl.mp hj
        omega
    · rw [formTo, List.length_append]
      have : (leads d ((k : Int) + 1)).length ≤ k + 1 := by unfold leads; rw [List.length_map, idl_len]; exact hb
      have e : (k + 1) * (k + 1 + 1) = k * (k + 1) + 2 * (k + 1) := by
        rw [Nat.mul_add, Nat.add_mul, Nat.add_mul]
        omega
      omega
theorem form_ok {n : Nat} {d : List Int} (h : Ord n d) (hn : 1 ≤ n) (h60 : n ≤ 60) : OkW n (form n d) ∧ (form n d).length ≤ 1770 := by
  obtain ⟨h1, h2⟩ := formTo_ok h (n - 1) (by omega)
  refine ⟨h1, ?_⟩
  have : (n - 1) * (n - 1 + 1) ≤ 59 * 60 := Nat.mul_le_mul (by omega) (by omega)
  unfold form
  omega
end Lw
set_option linter.all false
/-! Who pass one another; words in which the lesser one is always ahead. Core Lean alone. -/
namespace Lw
def met (l : List Int) : List Int → List (Int × Int)
  | [] => []
  | k :: w => (l.getD k.toNat 0, l.getD (k.toNat + 1) 0) :: met (sw l k.toNat) w
def Good (l w : List Int) : Prop := ∀ p ∈ met l w, p.1 < p.2
theorem met_append (l v w : List Int) : met l (v ++ w) = met l v ++ met (run l v) w := by
  induction v generalizing l with
  | nil => rfl
  | cons k v ih => simp [met, ih, run_cons]
theorem met_snoc (l v : List Int) (k : Int) : met l (v ++ [k]) = met l v ++ [((run l v).getD k.toNat 0, (run l v).getD (k.toNat + 1) 0)] := by rw [met_append]; rfl
theorem met_len (l w : List Int) : (met l w).length = w.length := by
  induction w generalizing l with
  | nil => rfl
  | cons k w ih => simp [met, ih]
theorem good_append {l v w : List Int} : Good l (v ++ w) ↔ Good l v ∧ Good (run l v) w := by
  unfold Good
  rw [met_append]
  constructor
  · intro h
    exact ⟨fun p hp => h p (List.mem_append_left _ hp), fun p hp => h p (List.mem_append_right _ hp)⟩
  · rintro ⟨h1, h2⟩ p hp
    exact (List.mem_append.mp hp).elim (h1 p) (h2 p)

/-! what stands ahead of what -/
def Ahead (l : List Int) (y x : Int) : Prop := l.idxOf y < l.idxOf x
theorem idx_mid {A R : List Int} {a b : Int} (hn : (A ++ a :: b :: R).Nodup) (z : Int) :
    (A ++ a :: b :: R).idxOf z = if z ∈ A then A.idxOf z else if z = a then A.length else if z = b then A.length + 1 else A.length + 2 + R.idxOf z := by
  rw [List.idxOf_append]
  split
  · rfl
  · rw [List.idxOf_cons, List.idxOf_cons]
    by_cases h1 : z = a
    · subst h1; simp
    · have h1' : ¬ (a == z) = true := by simpa using fun e => h1 e.symm
      rw [if_neg h1]
      by_cases h2 : z = b
      · subst h2
        simp [h1']
        omega
      · have h2' : ¬ (b == z) = true := by simpa using fun e => h2 e.symm
        simp [h1', h2', h2]
        omega
/-- a pass turns just the two that pass -/
theorem ahead_sw {l : List Int} {k : Nat} {a b : Int} (hn : l.Nodup) (ha : l[k]? = some a) (hb : l[k + 1]? = some b) {x y : Int} (hxy : x ≠ y) :
    Ahead (sw l k) y x ↔ (y = b ∧ x = a) ∨ (¬ (y = a ∧ x = b) ∧ Ahead l y x) := by
  have h : k + 1 < l.length := (List.getElem?_eq_some_iff.mp hb).1
  obtain ⟨A, p, q, R, rfl, rfl⟩ := split2 h
  have e1 : p = a := by simpa using ha
  have e2 : q = b := by simpa [List.getElem?_append_right] using hb
  subst e1 e2
  rw [sw_at]
  have hn2 : (A ++ q :: p :: R).Nodup := by
    have := (sw_perm (A ++ p :: q :: R) A.length).nodup_iff.mpr hn
    rwa [sw_at] at this
  have hpq : p ≠ q := by
    intro e
    subst e
    have := (List.nodup_append.mp hn).2.1
    simp at this
  have hpA : p ∉ A := fun m => (List.nodup_append.mp hn).2.2 p m p (by simp) rfl
  have hqA : q ∉ A := fun m => (List.nodup_append.mp hn).2.2 q m q (by simp) rfl
  unfold Ahead
  rw [idx_mid hn2 y, idx_mid hn2 x, idx_mid hn y, idx_mid hn x]
  have hA : ∀ z, z ∈ A → A.idxOf z < A.length := fun z m => List.idxOf_lt_length_of_mem m
  by_cases yA : y ∈ A
  · have yp : y ≠ p := fun e => hpA (e ▸ yA)
    have yq : y ≠ q := fun e => hqA (e ▸ yA)
    have := hA y yA
    by_cases xA : x ∈ A
    · simp [yA, xA, yp, yq]
    · simp only [yA, xA, yp, yq, if_true, if_false, false_and, false_or, not_false_eq_true, true_and]
      by_cases h1 : x = q
      · by_cases h2 : x = p
        · exact absurd (h2.symm.trans h1) hpq
        · rw [if_pos h1, if_neg h2, if_pos h1]
          omega
      · rw [if_neg h1, if_neg h1]
        by_cases h2 : x = p
        · rw [if_pos h2, if_pos h2]
          omega
        · rw [if_neg h2, if_neg h2]
  · by_cases xA : x ∈ A
    · have := hA x xA
      have xp : x ≠ p := fun e => hpA (e ▸ xA)
      have xq : x ≠ q := fun e => hqA (e ▸ xA)
      simp only [yA, xA, xp, xq, if_true, if_false, and_false, false_or, not_false_eq_true, true_and]
      by_cases h1 : y = q
      · by_cases h2 : y = p
        · exact absurd (h2.symm.trans h1) hpq
        · rw [if_pos h1, if_neg h2, if_pos h1]
          omega
      · rw [if_neg h1, if_neg h1]
        by_cases h2 : y = p
        · rw [if_pos h2, if_pos h2]
          omega
        · rw [if_neg h2, if_neg h2]
    · simp only [yA, xA, if_false]
      by_cases yp : y = p
      · subst yp
        by_cases xq : x = q
        · subst xq
          have : ¬ x = y := hxy
          simp [hpq, hxy, Ne.symm hpq]
        · have xp : ¬ x = y := hxy
          simp [xq, xp, hpq]
          omega
      · by_cases yq : y = q
        · subst yq
          by_cases xp : x = p
          · subst xp
            simp [hpq, Ne.symm hpq]
          · have xq : ¬ x = y := hxy
            simp [xp, xq, yp]
            omega
        · by_cases xp : x = p
          · subst xp
            simp [yp, yq, hpq]
            omega
          · by_cases xq : x = q
            · subst xq
              simp [yp, yq, xp]
              omega
            · simp [yp, yq, xp, xq]

/-- what has been passed is just what stands the other way about -/
def Turned (l : List Int) (M : List (Int × Int)) : Prop := ∀ x y, x < y → x ∈ l → y ∈ l → ((x, y) ∈ M ↔ Ahead l y x)
theorem turned_start (n : Nat) : Turned (idl n) [] := by
  intro x y hxy hx hy
  have pos : ∀ z, z ∈ idl n → (idl n).idxOf z = z.toNat := by
    intro z hz
    have hb := mem_idl.mp hz
    have hl : z.toNat < (idl n).length := by rw [idl_len]; omega
    have e := (idl_nodup n).idxOf_getElem z.toNat hl
    have eg : (idl n)[z.toNat] = z := by
      have := idl_get (n := n) (i := z.toNat) (by omega)
      rw [List.getElem?_eq_getElem hl] at this
      have := Option.some.inj this
      omega
    rw [eg] at e
    exact e
  have h1 := mem_idl.mp hx
  have h2 := mem_idl.mp hy
  unfold Ahead
  rw [pos x hx, pos y hy]
  simp
  omega
theorem getD_of {l : List Int} {k : Nat} {a : Int} (h : l[k]? = some a) : l.getD k 0 = a := by rw [List.getD_eq_getElem?_getD, h]; rfl
theorem turned_step {l : List Int} {M : List (Int × Int)} {k : Nat} {a b : Int} (hn : l.Nodup) (ht : Turned l M) (ha : l[k]? = some a) (hb : l[k + 1]? = some b) (hab : a < b) : Turned (sw l k) (M ++ [(a, b)]) := by
  intro x y hxy hx hy
  have hx' := (sw_perm l k).mem_iff.mp hx
  have hy' := (sw_perm l k).mem_iff.mp hy
  rw [ahead_sw hn ha hb (by omega : x ≠ y), List.mem_append, ht x y hxy hx' hy', List.mem_singleton, Prod.mk.injEq]
  constructor
  · rintro (h | ⟨h1, h2⟩)
    · exact .inr ⟨fun e => by omega, h⟩
    · exact .inl ⟨h2, h1⟩
  · rintro (⟨h1, h2⟩ | ⟨_, h⟩)
    · exact .inr ⟨h2, h1⟩
    · exact .inl h
theorem adj {n : Nat} {l : List Int} {k : Int} (hl : l.length = n) (h : 0 ≤ k ∧ k + 1 < n) : ∃ a b, l[k.toNat]? = some a ∧ l[k.toNat + 1]? = some b :=
  ⟨_, _, List.getElem?_eq_getElem (by omega), List.getElem?_eq_getElem (by omega)⟩
/-- while the lesser one is always ahead: who has passed, and nobody twice -/
theorem turned_run {n : Nat} : ∀ (w : List Int) (l : List Int) (M : List (Int × Int)), l.Nodup → l.length = n → OkW n w → Turned l M → M.Nodup → (∀ p ∈ M, p.1 < p.2 ∧ p.1 ∈ l ∧ p.2 ∈ l) → Good l w →
    Turned (run l w) (M ++ met l w) ∧ (M ++ met l w).Nodup
  | [], l, M, _, _, _, ht, hm, _, _ => by simpa [met, run_nil] using ⟨ht, hm⟩
  | k :: w, l, M, hn, hl, hw, ht, hm, hM, hg => by
    obtain ⟨a, b, ha, hb⟩ := adj hl (hw k (by simp))
    have hab : a < b := by
      have := hg (l.getD k.toNat 0, l.getD (k.toNat + 1) 0) (by simp [met])
      rwa [getD_of ha, getD_of hb] at this
    have hal : a ∈ l := List.mem_of_getElem? ha
    have hbl : b ∈ l := List.mem_of_getElem? hb
    have new : (a, b) ∉ M := by
      intro h
      have := (ht a b hab hal hbl).mp h
      obtain ⟨A, p, q, R, rfl, e⟩ := split2 (List.getElem?_eq_some_iff.mp hb).1
      have e1 : p = a := by rw [← e] at ha; simpa using ha
      have e2 : q = b := by rw [← e] at hb; simpa [List.getElem?_append_right] using hb
      subst e1 e2
      unfold Ahead at this
      rw [idx_mid hn, idx_mid hn] at this
      have hpA : p ∉ A := fun m => (List.nodup_append.mp hn).2.2 p m p (by simp) rfl
      have hqA : q ∉ A := fun m => (List.nodup_append.mp hn).2.2 q m q (by simp) rfl
      have hpq : q ≠ p := by omega
      simp only [hpA, hqA, hpq, if_false, if_true] at this
      omega
    have hp := sw_perm l k.toNat
    have ih := turned_run w (sw l k.toNat) (M ++ [(a, b)]) (hp.nodup_iff.mpr hn) (by rw [sw_len, hl]) (fun x hx => hw x (by simp [hx])) (turned_step hn ht ha hb hab)
      (by rw [List.nodup_append]; exact ⟨hm, by simp, fun p hp q hq e => by rw [List.mem_singleton.mp hq] at e; exact new (e ▸ hp)⟩)
      (fun p hp' => by
        rcases List.mem_append.mp hp' with h | h
        · have := hM p h
          exact ⟨this.1, hp.mem_iff.mpr this.2.1, hp.mem_iff.mpr this.2.2⟩
        · rw [List.mem_singleton.mp h]
          exact ⟨hab, hp.mem_iff.mpr hal, hp.mem_iff.mpr hbl⟩)
      (fun p hp' => hg p (by simp [met, hp']))
    have e : M ++ met l (k :: w) = M ++ [(a, b)] ++ met (sw l k.toNat) w := by
      show M ++ ((l.getD k.toNat 0, l.getD (k.toNat + 1) 0) :: met (sw l k.toNat) w) = _
      rw [getD_of ha, getD_of hb, List.append_assoc]
      rfl
    rw [e, run_cons]
    exact ih
theorem good_nodup {n : Nat} {w : List Int} (hw : OkW n w) (hg : Good (idl n) w) : (met (idl n) w).Nodup := by
  have := (turned_run w (idl n) [] (idl_nodup n) (idl_len n) hw (turned_start n) (by simp) (fun p h => by cases h) hg).2
  simpa using this

/-! the told form is so -/
theorem met_move (A : List Int) (x : Int) : ∀ (m : Nat) (B R : List Int), B.length = m → met (A ++ (B ++ x :: R)) ((idl m).map fun j => ((A.length + m : Nat) : Int) - 1 - j) = B.reverse.map fun b => (b, x) := by
  intro m
  induction m with
  | zero =>
    intro B R hB
    have : B = [] := List.length_eq_zero_iff.mp hB
    subst this
    simp [idl, met]
  | succ m ih =>
    intro B R hB
    have hne : B ≠ [] := by intro e; subst e; simp at hB
    obtain ⟨C, b, rfl⟩ : ∃ C b, B = C ++ [b] := ⟨B.dropLast, B.getLast hne, (List.dropLast_concat_getLast hne).symm⟩
    have hC : C.length = m := by simpa using hB
    have e1 : (idl (m + 1)).map (fun j => ((A.length + (m + 1) : Nat) : Int) - 1 - j) = ((A.length + m : Nat) : Int) :: (idl m).map fun j => ((A.length + m : Nat) : Int) - 1 - j := by
      unfold idl
      rw [List.range_succ_eq_map]
      simp only [List.map_cons, List.map_map]
      congr 1
      · omega
      · apply List.map_congr_left
        intro i _
        simp only [Function.comp]
        omega
    have e2 : A ++ (C ++ [b] ++ x :: R) = (A ++ C) ++ b :: x :: R := by simp
    have e3 : ((A.length + m : Nat) : Int).toNat = (A ++ C).length := by rw [Int.toNat_natCast, List.length_append, hC]
    have g1 : ((A ++ C) ++ b :: x :: R).getD (A ++ C).length 0 = b := getD_of (by rw [List.getElem?_append_right (Nat.le_refl _), Nat.sub_self]; rfl)
    have g2 : ((A ++ C) ++ b :: x :: R).getD ((A ++ C).length + 1) 0 = x := getD_of (by rw [List.getElem?_append_right (by omega), show (A ++ C).length + 1 - (A ++ C).length = 1 by omega]; rfl)
    rw [e1, e2]
    show (_, _) :: met _ _ = _
    rw [e3, g1, g2, sw_at, List.append_assoc, ih C (b :: R) hC]
    simp
theorem formTo_good {n : Nat} {d : List Int} (h : Ord n d) : ∀ k : Nat, k + 1 ≤ n → Good (idl n) (formTo d k) := by
  intro k
  induction k with
  | zero =>
    intro _ p hp
    simp [formTo, met] at hp
  | succ k ih =>
    intro hk
    rw [formTo, good_append]
    refine ⟨ih (by omega), ?_⟩
    rw [formTo_run h k (by omega)]
    have hm : ((k : Int) + 1) ∈ d := h.mem.mpr ⟨by omega, by omega⟩
    obtain ⟨A, B, e, hi, hA, hB⟩ := split_at h.nodup hm
    have lowk : low d ((k : Int) + 1) = low A ((k : Int) + 1) ++ low B ((k : Int) + 1) := by
      rw [e]
      simp [low, List.filter_append, List.filter_cons]
    have hbeh : behind d ((k : Int) + 1) = low B ((k : Int) + 1) := by
      unfold behind
      rw [hi, e]
      simp [low, List.filter_cons]
    have hlen : (low A ((k : Int) + 1)).length + (low B ((k : Int) + 1)).length = k + 1 := by
      have := low_len h (k := k + 1) (by omega)
      have e4 : low d ((k + 1 : Nat) : Int) = low d ((k : Int) + 1) := by congr 1
      rw [e4, lowk, List.length_append] at this
      exact this
    have hr : ((List.range (n - (k + 1))).map fun i => ((k + 1 + i : Nat) : Int)) = ((k : Int) + 1) :: ((List.range (n - (k + 1 + 1))).map fun i => ((k + 1 + 1 + i : Nat) : Int)) := by
      obtain ⟨m, hm⟩ : ∃ m, n - (k + 1) = m + 1 := ⟨n - (k + 1) - 1, by omega⟩
      have hm2 : n - (k + 1 + 1) = m := by omega
      rw [hm, hm2, List.range_succ_eq_map]
      simp only [List.map_cons, List.map_map]
      congr 1
      apply List.map_congr_left
      intro i _
      simp only [Function.comp]
      omega
    have mv := met_move (low A ((k : Int) + 1)) ((k : Int) + 1) (low B ((k : Int) + 1)).length (low B ((k : Int) + 1)) ((List.range (n - (k + 1 + 1))).map fun i => ((k + 1 + 1 + i : Nat) : Int)) rfl
    have ew : (fun j : Int => (((low A ((k : Int) + 1)).length + (low B ((k : Int) + 1)).length : Nat) : Int) - 1 - j) = fun j => (k : Int) + 1 - 1 - j := by
      funext j
      rw [hlen]
      omega
    rw [ew] at mv
    intro p hp
    rw [lowk, hr, leads, hbeh, List.append_assoc, mv] at hp
    obtain ⟨b, hb, rfl⟩ := List.mem_map.mp hp
    exact of_decide_eq_true (List.mem_filter.mp (List.mem_reverse.mp hb)).2
theorem form_good {n : Nat} {d : List Int} (h : Ord n d) (hn : 1 ≤ n) : Good (idl n) (form n d) := formTo_good h (n - 1) (by omega)
end Lw
set_option Elab.async false
set_option maxRecDepth 100000
/-! Lists and tuples of ints at addresses: short readings. -/
namespace Lw
open PySem L2

/-- the def called x stands, and keeps its promise -/
def Has (P : Program) (w : World) (K : PySem.W.Frag) (mg : Str → Option Value) (base : Heap) (k : Nat) (x : Str) (ps : List Str) (sp : Sp) : Prop :=
  ∃ (f : Addr) (fd : FuncData), FnOk P w K mg base CX0 k f fd ps sp ∧ mg x = some (.ref f) ∧ PySem.W.keepIn K (.ref f) = true ∧ Binds K fd ps []
theorem ifF {b : Bool} {A B : Prop} (h : b = false) (hB : B) : if b = true then A else B := by subst h; exact iteF hB
theorem ifT {b : Bool} {A B : Prop} (h : b = true) (hA : A) : if b = true then A else B := by subst h; exact iteT hA
/-- the built-in names that the program leaves as they are -/
structure Bare (mg : Str → Option Value) : Prop where
  n_len : mg "len" = none
  n_list : mg "list" = none
  n_tuple : mg "tuple" = none
  n_range : mg "range" = none
  n_enumerate : mg "enumerate" = none
  n_isinstance : mg "isinstance" = none
  n_int : mg "int" = none
  n_bool : mg "bool" = none
  n_abs : mg "abs" = none
  n_repr : mg "repr" = none
  n_all : mg "all" = none
  n_min : mg "min" = none
  n_max : mg "max" = none
  n_sorted : mg "sorted" = none
  n_set : mg "set" = none
  n_sum : mg "sum" = none
  n_str : mg "str" = none
  n_dict : mg "dict" = none
  n_any : mg "any" = none
  n_reversed : mg "reversed" = none
  n_zip : mg "zip" = none
/-- a tuple whose object is known: it has no dict of its own -/
def Tup (H : Hp) (a : Addr) (xs : List V) : Prop := ∃ o : Obj, H a = some (.frz o (.tup xs)) ∧ o.dict = none ∧ o.cls = .type "tuple"
theorem Tup.same {H H' : Hp} {a : Addr} {xs : List V} (h : Tup H a xs) (s : Same H H') : Tup H' a xs := by
  obtain ⟨o, e, r⟩ := h
  exact ⟨o, s _ _ e, r⟩
theorem Tup.sameX {H H' : Hp} {a p c : Addr} {N : Nat} {xs : List V} (h : Tup H a xs) (s : SameX p H H') (P : PenAt H p c N) : Tup H' a xs := by
  obtain ⟨o, e, r⟩ := h
  exact ⟨o, s _ _ e (P.ne e fun _ => nofun), r⟩
theorem Tup.t {K : PySem.W.Frag} {H : Hp} {a : Addr} {xs : List V} (h : Tup H a xs) : SqT K H a xs := by
  obtain ⟨o, e, _⟩ := h
  exact .inl (.inr ⟨o, e⟩)
theorem Tup.ty {K : PySem.W.Frag} {H : Hp} {a : Addr} {xs : List V} (h : Tup H a xs) : TyX K H (.ref a) (.type "tuple") := by
  obtain ⟨o, e, _⟩ := h
  exact .fTuple e
theorem Tup.ne {H : Hp} {a b : Addr} {xs : List V} {o : HO} (h : Tup H a xs) (e : H b = some o) (no : ∀ u v, o ≠ .frz u v) : a ≠ b := by
  obtain ⟨u, e', _⟩ := h
  intro z
  rw [z, e] at e'
  exact no _ _ (Option.some.inj e')
theorem Tup.neN {H : Hp} {a b : Addr} {xs : List V} (h : Tup H a xs) (e : H b = none) : a ≠ b := by
  obtain ⟨u, e', _⟩ := h
  exact ne_of_none e' e
/-- all but b as it was -/
theorem Tup.upd {H : Hp} {a b : Addr} {xs : List V} {o : HO} (h : Tup H a xs) (n : a ≠ b) : Tup (upd H b o) a xs := by
  obtain ⟨u, e, r⟩ := h
  exact ⟨u, by rw [upd_ne n]; exact e, r⟩
theorem dp_tupF {K : PySem.W.Frag} {H : Hp} {a : Addr} {ns : List Int} (h : Tup H a (ns.map V.int)) : Dp K H (.ref a) (.tuple (ns.map PyData.int)) := .tup h.t (dp_ints ns)
/-- a new one, or one that stood -/
abbrev GiveT (H : Hp) (xs : List V) (Q : VK) : Prop := ∀ r H', Same H H' → Tup H' r xs → Q (.ref r) H'
theorem laidT {X : Cx} {pins : List (Addr × Obj)} {σ : St} {H : Hp} {s : Shared} {xs : List V} {us : List Value} {t : Nat} (I : Inv X pins σ H s) (r : Vals xs us) (z : xs.length ≤ sizeLine) {Q : VK} (q : GiveT H xs Q) :
    EP X pins σ Q (.ref s.heap.objs.size) { s with heap := s.heap.push { cls := .type "tuple", data := .seq us.toArray }, toks := t } := by
  have fresh := I.hok.fresh (Nat.le_refl _)
  have look : (s.heap.push { cls := .type "tuple", data := .seq us.toArray }).get? s.heap.objs.size = some { cls := .type "tuple", data := .seq us.toArray } := Heap.get?_push_size _ rfl
  refine ⟨.ref s.heap.objs.size, _, I.laid (o := .frz { cls := .type "tuple", data := .seq us.toArray } (.tup xs)) (fun b u e => Heap.get?_push_of_some _ e) (Nat.le_refl _) ⟨look, z, us, r, _, look, rfl, _, rfl⟩, rfl, q _ _ (same_new fresh) ⟨_, upd_same, rfl, rfl⟩⟩
def tTupF (t : TA) : TE := fun σ H Q => t σ H fun xs H1 => xs.length ≤ sizeLine ∧ GiveT H1 xs Q
section
variable {X : Cx}
theorem pe_tupF {es : List Expr} {t : TA} {x1 : Nat} {pos : Pos} (h : PA X es t) : PE X (.Tuple es x1 pos) (tTupF t) := by
  refine ⟨fun pins s σ H Q I hq => ?_⟩
  exact wpAny_Tuple_spliced (thn (h.run pos pins s σ H _ I hq) fun us s1 ⟨xs, H1, I1, r, z, q⟩ => ⟨by rw [← r.length]; exact z, laidT (t := s1.toks) I1 r z q⟩)
def rTupleF (K : PySem.W.Frag) : List V → Hp → VK → Prop := fun xs H Q => ∃ p ys, xs = [.ref p] ∧ (SqL K H p ys ∨ Tup H p ys) ∧ GiveT H ys Q
theorem call_tupleF {K : PySem.W.Frag} (h : X.K = K) : CallR X (.type "tuple") (rTupleF K) := by
  subst h
  intro pins s σ H xs us Q I r h
  obtain ⟨p, ys, rfl, h, q⟩ := h
  obtain ⟨u, rfl, rx⟩ := vals1 r
  cases rx
  rcases h with hq | hq
  · obtain ⟨its, r', pl, hz⟩ := I.list hq
    refine call_tuple_list pl.isList (fun h' kp => ?_) (by simp only [List.size_toArray]; have := r'.length; omega)
    have q' : GiveT H ys Q := q
    exact laidT (s := { s with heap := h' }) (t := s.toks) (I.kept (t' := s.toks) kp) r' hz q'
  · obtain ⟨its, r', pl, hz⟩ := I.tuple (hq.t (K := X.K))
    exact call_tuple_same pl ⟨.ref p, H, I, rfl, q p H (Same.refl _) hq⟩
def rCatF : R2 := fun x y H Q => ∃ a b xs ys, x = .ref a ∧ y = .ref b ∧ Tup H a xs ∧ Tup H b ys ∧ xs.length + ys.length ≤ sizeLine ∧ GiveT H (xs ++ ys) Q
theorem op_catF : OpR X (binaryOp .Add) rCatF := by
  intro pins s σ H x y v u Q I rx ry h
  obtain ⟨a, b, xs, ys, rfl, rfl, ha, hb, hz, q⟩ := h
  cases rx
  cases ry
  obtain ⟨its, r1, p1, _⟩ := I.tuple (ha.t (K := X.K))
  obtain ⟨its2, r2, p2, _⟩ := I.tuple (hb.t (K := X.K))
  by_cases hx : xs = []
  · subst hx
    cases r1
    exact cat_tup0 p1 p2 ⟨.ref b, H, I, rfl, q b H (Same.refl _) hb⟩
  · refine HT.cat_tup p1 p2 (fun z => hx (r1.nil_iff.mp z)) (fun z => ⟨.ref a, H, I, rfl, q a H (Same.refl _) ?_⟩) (fun z => ?_) (by rw [← r1.length, ← r2.length]; exact hz)
    · rw [r2.nil_iff.mp z, List.append_nil]
      exact ha
    · exact laidT (t := s.toks) I (r1.append r2) (by rw [List.length_append]; exact hz) q
theorem cutV_whole {xs : List V} {lo hi : Option Int} (h : HT.sIx xs.length 0 lo = 0 ∧ HT.sIx xs.length xs.length hi = xs.length) : cutV xs lo hi = xs := by
  unfold cutV
  rw [h.1, h.2, Nat.sub_zero, List.drop_zero]
  exact List.take_of_length_le (Nat.le_refl _)
def rSlF : V → Option Int → Option Int → Hp → VK → Prop := fun x lo hi H Q => ∃ a xs, x = .ref a ∧ Tup H a xs ∧ GiveT H (cutV xs lo hi) Q
theorem sl_tupF : SlR X rSlF := by
  intro pins s σ H x v vl vu lo hi sl Q I rx hs pl pu h
  obtain ⟨a, xs, rfl, hx, q⟩ := h
  cases rx
  obtain ⟨its, r, ht, hz⟩ := I.tuple (hx.t (K := X.K))
  have hlen : its.toArray.size = xs.length := by rw [List.size_toArray]; exact r.length.symm
  refine ⟨"tuple", _, PyProof.Rows.slot_tuple_getitem.lookup, ht.typeIs, ?_⟩
  by_cases hw : HT.sIx xs.length 0 lo = 0 ∧ HT.sIx xs.length xs.length hi = xs.length
  · exact getItem_tuple_whole ht hs pl pu (by rw [hlen]; exact hw) ⟨.ref a, H, I, rfl, q a H (Same.refl _) (by rw [cutV_whole hw]; exact hx)⟩
  · refine HT.getItem_tuple_cut ht hs pl pu (by rw [hlen]; exact hw) ?_ (by rw [hlen]; exact hz)
    rw [hlen]
    exact laidT (t := s.toks) I ((r.drop (HT.sIx xs.length 0 lo)).take (HT.sIx xs.length xs.length hi - HT.sIx xs.length 0 lo)) (Nat.le_trans (cutV_length xs lo hi) hz) q
def tTupRgF (te : St → Hp → (Int → Int → Hp → Prop) → Prop) : TE := fun σ H Q => te σ H fun a b H1 => RgOk a b ∧ GiveT H1 (rgV a b) Q
theorem pe_tupRgF {e : Expr} {te : St → Hp → (Int → Int → Hp → Prop) → Prop} {p pos : Pos} (hc : X.calm = true) (hg : Gl X "tuple") (hm : X.mg "tuple" = none) (he : PRg X e te)
    (na : starEach [e] X.env = (false, eval e X.env) :: starEach [] X.env := by rfl) : PE X (.Call (.Name "tuple" p) [e] [] pos) (tTupRgF te) := by
  refine ⟨fun pins s σ H Q I h => ?_⟩
  refine PyProof.Rows.Call_ (ld_blt I hg hm PyProof.Rows.boot_tuple (PyProof.Rows.callWith_type1 (PyProof.Rows.args_cons (thn (he pins s σ H _ I h) fun x s1 ⟨r, a, b, t, u, v, H1, ex, hr, I1, ok, q⟩ => PyProof.Rows.args_nil ?_) na) na))
  subst ex
  obtain ⟨b1, b2, b3, b4, b5⟩ := ok
  refine call_tuple_range (n := (b - a).toNat) (I1.ok.hd hc) hr (small_one b1 b2 b3 b4) (PyProof.Rows.rangeSize_nat a b) b5 fun h' tk acc hk hi => ?_
  have fin := laidT (s := { s1 with heap := h', toks := tk }) (t := tk) (us := acc.toList) (I1.kept hk) (vals_rg hi) (by rw [rgV_length, sizeLine_eq]; omega) q
  rw [Array.toArray_toList] at fin
  exact fin
/-! methods of such a tuple -/
def tBMT (r : V → List V → Hp → VK → Prop) (to : TE) (t : TA) : TE := fun σ H Q => to σ H fun x H1 => (∃ a xs, x = .ref a ∧ Tup H1 a xs) ∧ t σ H1 fun xs H2 => r x xs H2 Q
theorem pe_bmT {o e : Expr} {es : List Expr} {to : TE} {t : TA} {name : Str} {apos cpos : Pos} {id : String} {r : V → List V → Hp → VK → Prop} (slot : Slot "tuple" name id) (hty : typeOf (.builtin id) = pure (.type "method_descriptor")) (hm : MtR X id r) (ho : PE X o to) (ha : PA X (e :: es) t)
    (hbase : attributeBase o name X.env (eval o X.env) = eval o X.env := by rfl)
    (hfew : ((backTo cpos (starEach (e :: es) X.env)).all (fun x => !x.1) && (backToKw cpos (keywordEach [] X.env)).all (fun x => x.1.isSome)
      && decide ((e :: es).length + ([] : List Keyword).length + (if ([] : List Keyword).isEmpty then 0 else 1) < 30)) = true := by rfl)
    (hline : (apos.endLine == cpos.line) = true := by rfl) (hs : starEach (e :: es) X.env = (false, eval e X.env) :: starEach es X.env := by rfl) (hplain : (backTo cpos (starEach es X.env)).any (·.1) = false := by rfl) :
    PE X (.Call (.Attribute o name apos) (e :: es) [] cpos) (tBMT r to t) := by
  refine ⟨fun pins s σ H Q I h => ?_⟩
  refine wpAny_Call_method_late hbase hfew hline rfl (thn (ho.run pins s σ H _ I h) fun v s1 ⟨x, H1, I1, r1, ⟨a, ys, ex, hT⟩, q1⟩ => ?_)
  subst ex
  cases r1
  obtain ⟨ob, eo, hd, hc⟩ := hT
  have here : s1.heap.get? a = some ob := (show ObjOk X.prog X.w H1 s1.heap a (.frz ob (.tup ys)) from I1.hok a _ eo).1
  refine ⟨"tuple", id, PySem.F.plainAttrs_tuple, slot, hty, ⟨ob, here, hc⟩, fun b z => ?_, ?_⟩
  · cases z
    exact ⟨ob, here, hd⟩
  · have hA := ha.run cpos pins s1 σ H1 _ I1 q1
    rw [hs] at hA ⊢
    refine Calls.callWith_builtin ?_ (Calls.evalArgs_plain ?_)
    · show (false || (backTo cpos (starEach es X.env)).any (·.1)) = false
      rw [hplain]
      rfl
    · exact thn hA fun us s2 ⟨vs, H2, I2, r2, q2⟩ => hm pins s2 σ H2 (.ref a) vs (.ref a) us Q I2 rfl r2 q2
end

/-- a list or a tuple of xs, tracked -/
def Sq (H : Hp) (a : Addr) (xs : List V) : Prop := H a = some (.lst xs) ∨ Tup H a xs
theorem Sq.same {H H' : Hp} {a : Addr} {xs : List V} (h : Sq H a xs) (s : Same H H') : Sq H' a xs := h.imp (s _ _) fun t => t.same s
theorem Sq.sameX {H H' : Hp} {a p c : Addr} {N : Nat} {xs : List V} (h : Sq H a xs) (s : SameX p H H') (P : PenAt H p c N) : Sq H' a xs := h.imp (s.lst P) fun t => t.sameX s P
theorem Sq.lt {K : PySem.W.Frag} {H : Hp} {a : Addr} {xs : List V} (h : Sq H a xs) : SqL K H a xs ∨ SqT K H a xs := h.imp SqL.of fun t => t.t
theorem Sq.lf {K : PySem.W.Frag} {H : Hp} {a : Addr} {xs : List V} (h : Sq H a xs) : SqL K H a xs ∨ Tup H a xs := h.imp SqL.of id
theorem Sq.ty {K : PySem.W.Frag} {H : Hp} {a : Addr} {xs : List V} (h : Sq H a xs) : TyX K H (.ref a) (.type "list") ∨ TyX K H (.ref a) (.type "tuple") := h.imp (fun e => .base (.lst e)) fun t => t.ty
theorem sl_seqF {X : Cx} {K : PySem.W.Frag} (h : X.K = K) : SlR X (fun x lo hi H Q => rSlL K x lo hi H Q ∨ rSlF x lo hi H Q) := by
  subst h
  exact sl_list.or sl_tupF
/-- a slice of either: a list or a tuple again -/
theorem sl_by {K : PySem.W.Frag} {a : Addr} {xs : List V} {lo hi : Option Int} {H : Hp} {Q : VK} (h : Sq H a xs) (k : ∀ r H', Same H H' → Sq H' r (cutV xs lo hi) → Q (.ref r) H') : rSlL K (.ref a) lo hi H Q ∨ rSlF (.ref a) lo hi H Q := by
  rcases h with h | h
  · exact .inl ⟨a, xs, rfl, SqL.of h, fun p np => k p _ (same_new np) (.inl upd_same)⟩
  · exact .inr ⟨a, xs, rfl, h, fun r H' s t => k r H' s (.inr t)⟩
theorem sIx_nat' (n d k : Nat) (h : k ≤ n) : HT.sIx n d (some (k : Int)) = k := by rw [HT.sIx_nat]; omega
theorem cut_to {ns : List Int} {k : Nat} (h : k ≤ ns.length) : cutV (ns.map V.int) none (some (k : Int)) = (ns.take k).map V.int := by
  unfold cutV
  rw [sIx_nat' _ _ _ (by rw [List.length_map]; exact h), HT.sIx_none, Nat.sub_zero, List.drop_zero, List.map_take]
theorem cut_from {ns : List Int} {k : Nat} (h : k ≤ ns.length) : cutV (ns.map V.int) (some (k : Int)) none = (ns.drop k).map V.int := by
  unfold cutV
  rw [sIx_nat' _ _ _ (by rw [List.length_map]; exact h), HT.sIx_none, List.map_drop]
  exact List.take_of_length_le (by simp)
theorem rg_idl (n : Nat) : rgV 0 (n : Int) = (idl n).map V.int := by
  unfold rgV idl
  rw [List.map_map]
  have : ((n : Int) - 0).toNat = n := by omega
  rw [this]
  apply List.map_congr_left
  intro i _
  simp
theorem at_int' {ns : List Int} {i : Nat} {z : Int} (h : ns[i]? = some z) : atI (ns.map V.int) (i : Int) = some (.int z) := atI_nat (by rw [List.getElem?_map, h]; rfl)
theorem map_get {ns : List Int} {i : Nat} {v : V} (h : (ns.map V.int)[i]? = some v) : ∃ z, ns[i]? = some z ∧ v = .int z := by
  rw [List.getElem?_map] at h
  cases e : ns[i]? with
  | none => rw [e] at h; cases h
  | some z => rw [e] at h; exact ⟨z, rfl, (Option.some.inj h).symm⟩
theorem flat_ints (ns : List Int) : (ns.map V.int).all flatV = true := by
  rw [List.all_map]
  exact List.all_eq_true.mpr fun _ _ => rfl
theorem inV_int (z : Int) (ns : List Int) : inV (.int z) (ns.map V.int) = decide (z ∈ ns) := by
  unfold inV
  rw [List.any_map]
  induction ns with
  | nil => simp
  | cons n ns ih =>
    have e : eqV (V.int n) (V.int z) = decide (z = n) := by
      simp only [eqV]
      by_cases h : n = z
      · subst h; simp
      · have h' : ¬ z = n := fun q => h q.symm
        simp [h, h']
    rw [List.any_cons, ih]
    simp only [Function.comp, e, List.mem_cons, Bool.decide_or]
theorem small_line {n : Nat} (h : n ≤ 10000) : n ≤ sizeLine := Nat.le_trans h (by decide)
theorem small_lt {n : Nat} (h : n ≤ 10000) : n < sizeLine := Nat.lt_of_le_of_lt h (by decide)

/-! enumerate over either -/
/-- what a for asks of the iterator -/
abbrev ForGo (g : TG) (tb : TS) (D : Ends) (σ : St) (J : It) (H1 : Hp) : Prop := ∃ W : Nat → Nat → St → Hp → Prop, (∃ m, W 0 m σ H1) ∧ ∀ i m σ H, W i m σ H →
  (J.stop i H ∧ D.nx σ H) ∨ (J.go i H ∧ ∃ N : St → Hp → Prop, (∀ σ' H', N σ' H' → ∃ m', m' < m ∧ W (i + 1) m' σ' H') ∧ ∀ x H', J.yld i H x H' → g x σ H' fun σ2 H2 => tb { D with nx := N, ct := N, bk := D.nx } σ2 H2)
theorem enum_go {K : PySem.W.Frag} {a : Addr} {xs : List V} {H0 H : Hp} (hq : Sq H0 a xs) {g : TG} {tb : TS} {D : Ends} {σ : St} (Pv : Nat → St → Hp → Prop) (h0 : Pv 0 σ H) (hG : ∀ i σ H, i ≤ xs.length → Pv i σ H → Same H0 H)
    (hs : ∀ i x σ H T, xs[i]? = some x → Pv i σ H → H T = none → g (.ref T) σ (upd H T (.tup [.int (i : Nat), x])) fun σ2 H2 => tb { D with nx := Pv (i + 1), ct := Pv (i + 1), bk := D.nx } σ2 H2) (hd : ∀ σ H, Pv xs.length σ H → D.nx σ H) :
    ∃ a' xs', [V.ref a] = [V.ref a'] ∧ ((SqL K H a' xs' ∧ ForGo g tb D σ (Ite K a') H) ∨ (SqT K H a' xs' ∧ ForGo g tb D σ (IteT K a') H)) := by
  have step : ∀ i x σ H H', i < xs.length → Pv i σ H → YPair (fun i => some (.int (i : Nat))) (fun i => xs[i]?) i H x H' → g x σ H' fun σ2 H2 => tb { D with nx := Pv (i + 1), ct := Pv (i + 1), bk := D.nx } σ2 H2 := by
    rintro i x σ H H' _ p ⟨T, y, z, rfl, nT, rfl, e1, e2⟩
    have e1' : V.int (i : Nat) = y := Option.some.inj e1
    subst e1'
    exact hs i z σ H T e2 p nT
  have hH := hG 0 σ H (Nat.zero_le _) h0
  rcases hq with q | q
  · exact ⟨a, xs, rfl, .inl ⟨SqL.of (hH _ _ q), for_it walk_enumL Pv h0 (fun i σ H l p => SqL.of (hG i σ H l p _ _ q)) step hd⟩⟩
  · exact ⟨a, xs, rfl, .inr ⟨(q.same hH).t, for_it walk_enumT Pv h0 (fun i σ H l p => (q.same (hG i σ H l p)).t) step hd⟩⟩

/-! t.index(n), the first place -/
def rTupIx (K : PySem.W.Frag) : V → List V → Hp → VK → Prop := fun x xs H Q => ∃ (p : Addr) (ys : List Int) (z : Int) (j : Nat), x = .ref p ∧ xs = [.int z] ∧ SqT K H p (ys.map V.int) ∧ ys[j]? = some z ∧ (∀ m, m < j → ys[m]? ≠ some z) ∧ Q (.int (j : Nat)) H
theorem mt_tupIndexI {X : Cx} : MtR X "tuple.index" (rTupIx X.K) := by
  intro pins s σ H x xs v us Q I rx rs h
  obtain ⟨p, ys, z, j, rfl, rfl, hq, hy, hno, q⟩ := h
  cases rx
  obtain ⟨u, rfl, t, rfl⟩ := vals1 rs
  obtain ⟨its, r, pl, hz⟩ := I.tuple hq
  obtain ⟨⟨cls, dd, dt, sl⟩, ho, hc, n, hd⟩ := pl
  simp only at hc hd
  subst hc
  subst hd
  have hl : its.toArray.size = ys.length := by
    rw [List.size_toArray, ← r.length, List.length_map]
  have hj : j < its.toArray.size := by
    rw [hl]
    exact (List.getElem?_eq_some_iff.mp hy).1
  have item : ∀ (m : Nat) (hm : m < its.toArray.size), ∃ y t', ys[m]? = some y ∧ its.toArray[m] = Value.int y t' := fun m hm => by
    have hm' : m < ys.length := hl ▸ hm
    obtain ⟨w, hw, t', hw'⟩ := r.get (i := m) (x := .int ys[m]) (by simp [hm'])
    have e := (List.getElem?_eq_some_iff.mp hw).2
    exact ⟨ys[m], t', List.getElem?_eq_getElem hm', by rw [← hw', ← e]; simp⟩
  have eqi : ∀ (y : Int) (t' : Tok), eqU (.int z) (Value.int y t') = decide (y = z) := fun y t' => by
    have e := eqU_of (x := .int z) (y := .int y) (u := Value.int y t') ⟨t', rfl⟩ rfl
    rw [e]
    simp only [eqV]
    by_cases h : y = z <;> simp [h]
  refine call_meets PySem.F.slot_tuple_index ⟨_, ho, rfl⟩ PySem.F.entry_tuple_index (PySem.F.args_tuple_index_2 _ _)
    (TI.tuple_indexAt p its.toArray n dd sl (.int z t) (eqU (.int z)) j hj ?_ fun m hm hmj => ?_) ⟨ho, fun w hw => mem_eqAt (x := .int z) ⟨t, rfl⟩ rfl r (flat_ints ys) w (by simpa using hw), ⟨.int (j : Nat), H, I.tok _, ⟨_, rfl⟩, q⟩⟩
  · obtain ⟨y, t', h1, h2⟩ := item j hj
    rw [hy] at h1
    cases h1
    rw [h2, eqi]
    exact decide_eq_true rfl
  · obtain ⟨y, t', h1, h2⟩ := item m hm
    rw [h2, eqi]
    exact decide_eq_false fun e => hno m hmj (e ▸ h1)

/-! the same rules, the written part given: for a comprehension's block -/
section
variable {X : Cx} {K : PySem.W.Frag}
theorem ix_listK (h : X.K = K) : IxR X (rIxL K) := h ▸ ix_list
theorem ix_tupK (h : X.K = K) : IxR X (rIxT K) := h ▸ ix_tup
theorem ix_seqK (h : X.K = K) : IxR X (rIx K) := h ▸ ix_seq
theorem op_inK (h : X.K = K) : OpR X (compareOp .In) (rIn K false) := h ▸ op_in_seq
theorem op_notInK (h : X.K = K) : OpR X (compareOp .NotIn) (rIn K true) := h ▸ op_notIn_seq
theorem op_eqDK (h : X.K = K) (hu : X.A.units + 64 < cLine) : OpR X (compareOp .Eq) (rEqD K) := h ▸ op_eqD hu
theorem op_neDK (h : X.K = K) (hu : X.A.units + 64 < cLine) : OpR X (compareOp .NotEq) (rNeD K) := h ▸ op_neD hu
theorem sl_listK (h : X.K = K) : SlR X (rSlL K) := h ▸ sl_list
theorem mt_tupIndexK (h : X.K = K) : MtR X "tuple.index" (rTupIx K) := h ▸ mt_tupIndexI
def rLenK (K : PySem.W.Frag) : List V → Hp → VK → Prop := fun xs H Q => ∃ p ys, xs = [.ref p] ∧ (SqL K H p ys ∨ SqT K H p ys) ∧ Q (.int ys.length) H
theorem call_lenK (h : X.K = K) : CallR X (.builtin "len") (rLenK K) := by subst h; exact call_len_seq
def rListK (K : PySem.W.Frag) : List V → Hp → VK → Prop := fun xs H Q => ∃ p ys, xs = [.ref p] ∧ (SqL K H p ys ∨ SqT K H p ys) ∧ ∀ l, H l = none → Q (.ref l) (upd H l (.lst ys))
theorem call_listK (h : X.K = K) : CallR X (.type "list") (rListK K) := by subst h; exact call_list_of
theorem call_isiK' (h : X.K = K) : CallR X (.builtin "isinstance") (rIsi K) := h ▸ call_isi
theorem call_isiTK (h : X.K = K) : CallR X (.builtin "isinstance") (rIsiT K) := h ▸ call_isiT
theorem call_reprK (h : X.K = K) (hg : X.A.guards = some []) (hu : X.A.units + 64 < cLine) : CallR X (.builtin "repr") (rRepr K) := h ▸ call_repr hg hu
theorem pe_bmK {T : String} {r : V → List V → Hp → VK → Prop} {o e : Expr} {es : List Expr} {to : TE} {t : TA} {apos cpos : Pos} {nm : Str} (h : X.K = K)
    (g : PE X (.Call (.Attribute o nm apos) (e :: es) [] cpos) (tBM X.K T r to t)) : PE X (.Call (.Attribute o nm apos) (e :: es) [] cpos) (tBM K T r to t) := h ▸ g
theorem pe_bm0K {T : String} {r : V → List V → Hp → VK → Prop} {o : Expr} {to : TE} {apos cpos : Pos} {nm : Str} (h : X.K = K)
    (g : PE X (.Call (.Attribute o nm apos) [] [] cpos) (tBM0 X.K T r to)) : PE X (.Call (.Attribute o nm apos) [] [] cpos) (tBM0 K T r to) := h ▸ g
end
end Lw
set_option Elab.async false
set_option maxRecDepth 100000
/-! t[::-1] of a tuple. -/
namespace Lw
open PySem PySem.Spec PyProof.Rows L2

theorem places_rev (n : Nat) : Builtin.Slice.slicePlaces ((n : Int) - 1) (-1) (-1) = n := by
  unfold Builtin.Slice.slicePlaces
  have h : ¬ ((-1 : Int) > 0) := by omega
  simp only [h, if_false]
  split
  · have e : ((n : Int) - 1 - -1 - 1) / - -1 = (n : Int) - 1 := by
      have : - -1 = (1 : Int) := rfl
      rw [this, Int.ediv_one]
      omega
    rw [e]
    omega
  · omega
theorem fm_congr {α β : Type} {f g : α → Option β} : ∀ {l : List α}, (∀ x ∈ l, f x = g x) → l.filterMap f = l.filterMap g
  | [], _ => rfl
  | a :: l, h => by
    rw [List.filterMap_cons, List.filterMap_cons, h a (by simp), fm_congr fun x hx => h x (by simp [hx])]
theorem pick_rev (xs : Array Value) : ((List.range xs.size).filterMap fun (m : Nat) => xs[((xs.size : Int) - 1 + (m : Int) * -1).toNat]?) = xs.toList.reverse := by
  have e : ((List.range xs.size).filterMap fun (m : Nat) => xs[((xs.size : Int) - 1 + (m : Int) * -1).toNat]?) = ((List.range xs.size).map fun k => xs.size - 1 - k).filterMap (xs[·]?) := by
    rw [List.filterMap_map]
    refine fm_congr fun m hm => ?_
    have := List.mem_range.mp hm
    have e2 : ((xs.size : Int) - 1 + (m : Int) * -1).toNat = xs.size - 1 - m := by omega
    simp only [Function.comp, e2]
  rw [e, PySem.W.krv_range, List.filterMap_reverse, PySem.W.krv_all]
section
variable {prog : Program} {w : World} {A : Around} {E : Value → Shared → Prop} {s : Shared}
theorem applied_rev {sl : Addr} {vl vu vs : Value} {n : Nat} {Q : Int × Int × Nat → Shared → Prop} (hs : s.heap.IsSliceOf sl vl vu vs) (pl : IsPart vl none) (pu : IsPart vu none) (ps : IsPart vs (some (-1)))
    (h : Q ((n : Int) - 1, -1, n) s) : wpAny (model prog w) A (Builtin.Slice.sliceApplied (.ref sl) (pure (n : Int))) Q E s := by
  obtain ⟨os, hos, hcs, hds⟩ := id hs
  unfold Builtin.Slice.sliceApplied Builtin.Slice.sliceFields
  refine wpAny_bind (wpAny_bind (wpAny_field hos hds (x := vl) rfl (wpAny_bind (wpAny_field hos hds (x := vu) rfl (wpAny_bind (wpAny_field hos hds (x := vs) rfl (wpAny_pure ?_)))))))
  refine wpAny_bind (HT.slicePart_ ps ?_)
  show wpAny _ _ (if ((-1 : Int) == 0) = true then _ else _) _ _ s
  rw [if_neg (by decide)]
  refine wpAny_bind (HT.slicePart_ pl (wpAny_bind (HT.slicePart_ pu (wpAny_bind (wpAny_pure ?_)))))
  show wpAny _ _ (pure ((n : Int) - 1, (-1 : Int), Builtin.Slice.slicePlaces ((n : Int) - 1) (-1) (-1))) _ _ s
  rw [places_rev]
  exact wpAny_pure h
theorem getItem_rev {t sl : Addr} {items : Array Value} {vl vu vs : Value} {Q : Value → Shared → Prop} (ht : IsTup s.heap t items) (hs : s.heap.IsSliceOf sl vl vu vs) (pl : IsPart vl none) (pu : IsPart vu none) (ps : IsPart vs (some (-1)))
    (h : Q (.ref s.heap.objs.size) { s with heap := s.heap.push { cls := .type "tuple", data := .seq items.toList.reverse.toArray } }) (hsz : items.size ≤ sizeLine) : wpAny (model prog w) A (getItem (.ref t) (.ref sl)) Q E s := by
  have fits : sizeOk (.seq items.toList.reverse.toArray) := by
    show items.toList.reverse.toArray.size ≤ sizeLine
    rw [List.size_toArray, List.length_reverse, Array.length_toList]
    exact hsz
  obtain ⟨os, hos, hcs, hds⟩ := id hs
  have isSl : s.TypeIs (.ref sl) "slice" := ⟨os, hos, hcs⟩
  unfold getItem
  try with_reducible refine wpAny_holding ?_
  first | refine wpAny_bind (wpAny_pure ?_) | skip
  refine wpAny_bind (wpAny_sequenceKey ht.typeIs (by decide) ?_)
  refine wpAny_bind (wpAny_callSpecial?_slot (name := Str.ofString "__getitem__") ht.typeIs slot_tuple_getitem
    (wpAny_call_entry slot_tuple_getitem ht.typeIs entry_tuple_getitem ?_ (args_tuple_getitem _ _)))
  show wpAny _ _ (Builtin.Tuple.tupleItemsOf (.ref t) >>= _) _ _ s
  refine wpAny_bind (tupleItemsOf_ ht ?_)
  refine wpAny_bind (wpAny_typeOf isSl ?_)
  rw [if_pos (by decide)]
  refine wpAny_bind (applied_rev hs pl pu ps ?_)
  have no : ¬ (((((items.size : Nat) : Int) - 1) == 0 && (-1 : Int) == 1 && items.size == items.size) = true) := by
    intro q
    rw [Bool.and_eq_true, Bool.and_eq_true] at q
    exact absurd q.1.2 (by decide)
  show wpAny _ _ (if ((((items.size : Nat) : Int) - 1) == 0 && (-1 : Int) == 1 && items.size == items.size) = true then _ else _) _ _ s
  rw [if_neg no, pick_rev]
  first
    | exact wpAny_bind (m := Builtin.Tuple.tupleExact _) (wpAny_newObj_type (wpAny_pure ⟨_, rfl, wpAny_pure h⟩) fits)
    | exact wpAny_bind (wpAny_bind (m := Builtin.Tuple.tupleExact _) (wpAny_newObj_type (wpAny_pure (wpAny_pure ⟨_, rfl, wpAny_pure h⟩)) fits))
    | exact wpAny_bind (wpAny_bind (m := Builtin.Tuple.tupleExact _) (wpAny_newObj_type (wpAny_pure ⟨_, rfl, wpAny_pure h⟩) fits))
end
def tRevT (te : TE) : TE := fun σ H Q => te σ H fun x H1 => ∃ a xs, x = .ref a ∧ Tup H1 a xs ∧ GiveT H1 xs.reverse Q
theorem pe_revT {X : Cx} {e : Expr} {te : TE} {k : Nat} {p1 p2 p3 pos : Pos} (he : PE X e te) : PE X (.Subscript e (.Slice none none (some (.UnaryOp .USub (.Constant (.int 1) k p1) p2)) p3) pos) (tRevT te) := by
  refine ⟨fun pins s σ H Q I h => Subscript_ (thn (he.run pins s σ H _ I h) fun v s1 ⟨x, H1, I1, r1, q1⟩ => ?_)⟩
  obtain ⟨a, xs, ex, hx, q⟩ := q1
  subst ex
  cases r1
  have hst : PO X (some (.UnaryOp .USub (.Constant (.int 1) k p1) p2)) (tPart (tUn (rU fun i => .int (-i)) (tC (.int 1)))) := po_some (pe_un un_neg pe_int)
  refine wpAny_Slice (thn (po_none.run pins s1 σ H1 (fun o H2 => o = none ∧ H2 = H1) I1 ⟨rfl, rfl⟩) fun vl s2 ⟨l, H2, I2, pl, el, e2⟩ => ?_)
  subst el e2
  refine thn (po_none.run pins s2 σ H2 (fun o H3 => o = none ∧ H3 = H2) I2 ⟨rfl, rfl⟩) fun vu s3 ⟨u, H3, I3, pu, eu, e3⟩ => ?_
  subst eu e3
  refine thn (hst.run pins s3 σ H3 (fun o H4 => o = some (-1) ∧ H4 = H3) I3 ⟨1, rfl, -1, rfl, rfl, rfl⟩) fun vs s4 ⟨o, H4, I4, ps, eo, e4⟩ => ?_
  subst eo e4
  have I5 : Inv X pins σ H4 { s4 with heap := s4.heap.push { cls := .type "slice", data := .fields #[vl, vu, vs] } } := I4.kept (t' := s4.toks) fun b ob q => Heap.get?_push_of_some _ q
  obtain ⟨its, r, ht, hz⟩ := I5.tuple (hx.t (K := X.K))
  have hlen := r.length
  refine tail_any (ops := [.ref a, .ref s4.heap.objs.size]) ht.typeIs slot_tuple_getitem.lookup ?_ (by with_unfolding_all rfl)
  refine getItem_rev ht (Heap.IsSliceOf.new _ vl vu vs) pl pu ps ?_ (by rw [List.size_toArray]; omega)
  exact laidT (t := s4.toks) I5 r.reverse (by rw [List.length_reverse]; exact hz) q
end Lw
set_option Elab.async false
set_option maxRecDepth 100000
/-! repr of lists and tuples of ints. -/
namespace Lw
open PySem L2
def Small (ns : List Int) : Prop := (∀ x ∈ ns, x.natAbs < 10 ^ 9) ∧ ns.length ≤ 10000
theorem shown_int (i : Int) (h : i.natAbs < 10 ^ 9) : (PyData.shown (.int i)).length ≤ 10 := by
  have := int_text_length_le10 (a := i) (k := 9) (by decide) h
  show (Str.ofString (toString i)).length ≤ 10
  rw [ofString_length]
  exact this
theorem shown_sum : ∀ ns : List Int, (∀ x ∈ ns, x.natAbs < 10 ^ 9) → ((PyData.shownAll (ns.map PyData.int)).map (·.length)).sum ≤ 10 * ns.length ∧ (PyData.shownAll (ns.map PyData.int)).length = ns.length
  | [], _ => by simp [PyData.shownAll]
  | n :: ns, h => by
    obtain ⟨h1, h2⟩ := shown_sum ns fun x hx => h x (by simp [hx])
    have h3 := shown_int n (h n (by simp))
    simp only [List.map_cons, PyData.shownAll, List.sum_cons, List.length_cons]
    omega
theorem showable_ints : ∀ ns : List Int, (∀ x ∈ ns, x.natAbs < 10 ^ 9) → PyData.showableAll (ns.map PyData.int) = true
  | [], _ => by simp [PyData.showableAll]
  | n :: ns, h => by
    have h1 := showable_ints ns fun x hx => h x (by simp [hx])
    have h2 : n.natAbs.log2 < 1920 := by
      have hn := h n (by simp)
      by_cases e : n.natAbs = 0
      · rw [e]; decide
      · have h30 : n.natAbs.log2 < 30 := (Nat.log2_lt e).mpr (Nat.lt_of_lt_of_le hn (by decide))
        omega
    simp only [List.map_cons, PyData.showableAll, PyData.showable, h1, Bool.and_true, decide_eq_true_eq]
    exact h2
theorem hasDict_ints : ∀ ns : List Int, PyData.hasDictAll (ns.map PyData.int) = false
  | [] => by simp [PyData.hasDictAll]
  | n :: ns => by simp [PyData.hasDictAll, PyData.hasDict, hasDict_ints ns]
theorem len_tup {ns : List Int} (h : Small ns) : (PyData.shown (.tuple (ns.map PyData.int))).length ≤ sizeLine := by
  obtain ⟨h1, h2⟩ := shown_sum ns h.1
  have h3 := tupleText_len_le (PyData.shownAll (ns.map PyData.int))
  have h4 := h.2
  simp only [PyData.shown]
  have : (200000 : Nat) ≤ sizeLine := by decide
  omega
theorem len_list {ns : List Int} (h : Small ns) : (PyData.shown (.list (ns.map PyData.int))).length ≤ sizeLine := by
  obtain ⟨h1, h2⟩ := shown_sum ns h.1
  have h3 := listText_len_le (PyData.shownAll (ns.map PyData.int))
  have h4 := h.2
  simp only [PyData.shown]
  have : (200000 : Nat) ≤ sizeLine := by decide
  omega
theorem repr_tup {K : PySem.W.Frag} {H : Hp} {a : Addr} {ns : List Int} {Q : VK} (h : Tup H a (ns.map V.int)) (sm : Small ns) (q : Q (.str (PyData.shown (.tuple (ns.map PyData.int)))) H) : rRepr K [.ref a] H Q :=
  ⟨a, _, rfl, dp_tupF h, by simpa only [PyData.showable] using showable_ints ns sm.1, by simpa only [PyData.hasDict] using hasDict_ints ns, by simp only [PyData.depth, depth_ints]; omega, len_tup sm, q⟩
theorem repr_list {K : PySem.W.Frag} {H : Hp} {a : Addr} {ns : List Int} {Q : VK} (h : H a = some (.lst (ns.map V.int))) (sm : Small ns) (q : Q (.str (PyData.shown (.list (ns.map PyData.int)))) H) : rRepr K [.ref a] H Q :=
  ⟨a, _, rfl, dp_list h, by simpa only [PyData.showable] using showable_ints ns sm.1, by simpa only [PyData.hasDict] using hasDict_ints ns, by simp only [PyData.depth, depth_ints]; omega, len_list sm, q⟩
/-- what repr asks of a tuple, a list of ints -/
theorem rpT {ns : List Int} (sm : Small ns) : (PyData.tuple (ns.map PyData.int)).showable = true ∧ (PyData.tuple (ns.map PyData.int)).hasDict = false ∧ (PyData.tuple (ns.map PyData.int)).depth ≤ 60 ∧ (PyData.tuple (ns.map PyData.int)).shown.length ≤ sizeLine :=
  ⟨by simpa only [PyData.showable] using showable_ints ns sm.1, by simpa only [PyData.hasDict] using hasDict_ints ns, by simp only [PyData.depth, depth_ints]; omega, len_tup sm⟩
theorem rpL {ns : List Int} (sm : Small ns) : (PyData.list (ns.map PyData.int)).showable = true ∧ (PyData.list (ns.map PyData.int)).hasDict = false ∧ (PyData.list (ns.map PyData.int)).depth ≤ 60 ∧ (PyData.list (ns.map PyData.int)).shown.length ≤ sizeLine :=
  ⟨by simpa only [PyData.showable] using showable_ints ns sm.1, by simpa only [PyData.hasDict] using hasDict_ints ns, by simp only [PyData.depth, depth_ints]; omega, len_list sm⟩
theorem small_ord {n : Nat} {p : List Int} (h : Ord n p) (h60 : n ≤ 60) : Small p := by
  refine ⟨fun x hx => ?_, by rw [h.len]; omega⟩
  have := h.mem.mp hx
  have e : (10 : Nat) ^ 9 = 1000000000 := by decide
  omega
theorem small_word {n : Nat} {ws : List Int} (h : OkW n ws) (h60 : n ≤ 60) (hl : ws.length ≤ 10000) : Small ws := by
  refine ⟨fun x hx => ?_, hl⟩
  have := h x hx
  have e : (10 : Nat) ^ 9 = 1000000000 := by decide
  omega
theorem eqv_refl_ints (ns : List Int) : (!PyData.eqv (.list (ns.map PyData.int)) (.list (ns.map PyData.int))) = false := by rw [eqv_list]; simp
theorem eqv_refl_tup (ns : List Int) : (!PyData.eqv (.tuple (ns.map PyData.int)) (.tuple (ns.map PyData.int))) = false := by rw [eqv_tup]; simp
theorem okw_append {n : Nat} {v w : List Int} (hv : OkW n v) (hw : OkW n w) : OkW n (v ++ w) := fun x hx => (List.mem_append.mp hx).elim (hv x) (hw x)
theorem okw_rev {n : Nat} {v : List Int} (hv : OkW n v) : OkW n v.reverse := fun x hx => hv x (List.mem_reverse.mp hx)
theorem ref_int {ls : List Addr} {ns : List Int} (h : ls.map V.ref = ns.map V.int) : ls = [] := by
  cases ls with
  | nil => rfl
  | cons x xs =>
    cases ns with
    | nil => cases h
    | cons y ys => cases h
theorem shaped_2 (u v : List Int) : SeqAt.shaped (.list [.list (u.map PyData.int), .list (v.map PyData.int)]) = true := by
  simp [SeqAt.shaped, PyData.canLay0, PyData.canLayAll0, lay_ints, PyData.depth, PyData.depthAll, depth_ints]
theorem eqv_2 (u v : List Int) : (!PyData.eqv (.list [.list (u.map PyData.int), .list (v.map PyData.int)]) (.list [.list (u.map PyData.int), .list (v.map PyData.int)])) = false := by
  simp [PyData.eqv, PyData.eqvAll, eqv_ints]

/-! ### lists of pairs of ints -/
abbrev PairT (H : Hp) (t : Addr) (p : Int × Int) : Prop := Tup H t [.int p.1, .int p.2]
def PairsAt (H : Hp) (M : Addr) (ps : List (Int × Int)) : Prop := ∃ ts : List Addr, H M = some (.lst (ts.map V.ref)) ∧ Paired (PairT H) ts ps
theorem PairsAt.same {H H' : Hp} {M : Addr} {ps : List (Int × Int)} (h : PairsAt H M ps) (s : Same H H') : PairsAt H' M ps := by
  obtain ⟨ts, h1, h2⟩ := h
  exact ⟨ts, s _ _ h1, L2.Paired.mapP h2 fun _ _ t => t.same s⟩
theorem PairsAt.upd {H : Hp} {M b : Addr} {ps : List (Int × Int)} {xs : List V} {o : HO} (h : PairsAt H M ps) (n : M ≠ b) (hb : H b = some (.lst xs)) : PairsAt (upd H b o) M ps := by
  obtain ⟨ts, h1, h2⟩ := h
  exact ⟨ts, by rw [upd_ne n]; exact h1, L2.Paired.mapP h2 fun _ _ t => t.upd (t.ne hb fun _ _ => nofun)⟩
theorem PairsAt.new {H : Hp} {M : Addr} (h : H M = some (.lst [])) : PairsAt H M [] := ⟨[], h, .nil⟩
theorem pairs_get {H : Hp} : ∀ {ts : List Addr} {ps : List (Int × Int)} {i : Nat} {v : V}, Paired (PairT H) ts ps → (ts.map V.ref)[i]? = some v → ∃ t p, v = .ref t ∧ ps[i]? = some p ∧ PairT H t p
  | _, _, _, _, .nil, h => by simp at h
  | _, _, 0, _, .cons r _, h => ⟨_, _, (Option.some.inj h).symm, rfl, r⟩
  | _, _, i + 1, _, .cons _ t, h => pairs_get (i := i) t h
theorem PairsAt.push {H : Hp} {M c : Addr} {ts : List Addr} {ps : List (Int × Int)} {p : Int × Int} (h1 : H M = some (.lst (ts.map V.ref))) (h2 : Paired (PairT H) ts ps) (hc : PairT H c p) :
    PairsAt (L2.upd H M (.lst (ts.map V.ref ++ [.ref c]))) M (ps ++ [p]) := by
  refine ⟨ts ++ [c], by rw [upd_same, List.map_append]; rfl, ?_⟩
  exact Paired.snoc (L2.Paired.mapP h2 fun _ _ t => t.upd (t.ne h1 fun _ _ => nofun)) (hc.upd (hc.ne h1 fun _ _ => nofun))
abbrev pD (p : Int × Int) : PyData := .tuple [.int p.1, .int p.2]
theorem dp_pair {K : PySem.W.Frag} {H : Hp} {t : Addr} {p : Int × Int} (h : PairT H t p) : Dp K H (.ref t) (pD p) := .tup h.t (.cons (.int _) (.cons (.int _) .nil))
theorem dp_pairs {K : PySem.W.Frag} {H : Hp} : ∀ {ts : List Addr} {ps : List (Int × Int)}, Paired (PairT H) ts ps → DpAll K H (ts.map V.ref) (ps.map pD)
  | _, _, .nil => .nil
  | _, _, .cons r t => .cons (dp_pair r) (dp_pairs t)
theorem PairsAt.dp {K : PySem.W.Frag} {H : Hp} {M : Addr} {ps : List (Int × Int)} (h : PairsAt H M ps) : Dp K H (.ref M) (.list (ps.map pD)) := by
  obtain ⟨ts, h1, h2⟩ := h
  exact .lst (SqL.of h1) (dp_pairs h2)
theorem pD_depth : ∀ ps : List (Int × Int), PyData.depthAll (ps.map pD) ≤ 1
  | [] => by simp [PyData.depthAll]
  | p :: ps => by
    have := pD_depth ps
    simp only [List.map_cons, PyData.depthAll, PyData.depth]
    omega
theorem pD_lay : ∀ ps : List (Int × Int), PyData.canLayAll0 (ps.map pD) = true
  | [] => by simp [PyData.canLayAll0]
  | p :: ps => by simp [PyData.canLayAll0, PyData.canLay0, pD_lay ps]
theorem shaped_pairs (ps : List (Int × Int)) : SeqAt.shaped (.list (ps.map pD)) = true := by
  have := pD_depth ps
  simp [SeqAt.shaped, PyData.canLay0, pD_lay, PyData.depth]
  omega
theorem shaped_pair (p : Int × Int) : SeqAt.shaped (pD p) = true := by
  simp [SeqAt.shaped, PyData.canLay0, PyData.canLayAll0, PyData.depth, PyData.depthAll]
theorem eqv_pD (p q : Int × Int) : PyData.eqv (pD p) (pD q) = decide (p = q) := by
  obtain ⟨a, b⟩ := p
  obtain ⟨c, d⟩ := q
  simp only [PyData.eqv, PyData.eqvAll, Bool.and_true, Prod.mk.injEq]
  by_cases h1 : a = c <;> by_cases h2 : b = d <;> simp [h1, h2]
theorem in_pairs (p : Int × Int) (ps : List (Int × Int)) : ((ps.map pD).any fun z => PyData.eqv z (pD p)) = decide (p ∈ ps) := by
  rw [List.any_map]
  induction ps with
  | nil => simp
  | cons q ps ih =>
    rw [List.any_cons, ih]
    simp only [Function.comp, eqv_pD, List.mem_cons, Bool.decide_or]
    by_cases h : q = p
    · subst h; simp
    · have h' : ¬ p = q := fun e => h e.symm
      simp [h, h']
theorem units65 {k : Nat} {A : Around} (r : Room k A) : A.units + 65 < cLine := by have := r.un; omega
section
variable {X : Cx} {K : PySem.W.Frag}
theorem op_inDK (h : X.K = K) (hu : X.A.units + 65 < cLine) : OpR X (compareOp .In) (rInD K) := h ▸ op_inD hu
theorem cr_allK (h : X.K = K) (hc : X.calm = true) : CallR X (.builtin "all") (rAll K) := h ▸ cr_all hc
theorem pg_tupK {es : List Expr} {k : Nat} {t : TGs} {n : Nat} {pos : Pos} (e : X.K = K) (hc : X.calm = true) (h : PGs X es t) (hn : (assignEach es X.env).length = n := by rfl)
    (hst : (assignEach es X.env).findIdx? (·.1) = none := by rfl) : PG X (.Tuple es k pos) (gTup K n t) := e ▸ pg_tup hc h hn hst
theorem pe_revLK {e : Expr} {te : TE} {k : Nat} {p1 p2 p3 pos : Pos} (h : X.K = K) (he : PE X e te) : PE X (.Subscript e (.Slice none none (some (.UnaryOp .USub (.Constant (.int 1) k p1) p2)) p3) pos) (tRevL K te) := h ▸ pe_revL he
end
/-- a slice in the middle -/
theorem cut_mid {ns : List Int} {i j : Nat} (h1 : i ≤ j) (h2 : j ≤ ns.length) : cutV (ns.map V.int) (some (i : Int)) (some (j : Int)) = ((ns.drop i).take (j - i)).map V.int := by
  unfold cutV
  rw [sIx_nat' _ _ i (by rw [List.length_map]; omega), sIx_nat' _ _ j (by rw [List.length_map]; exact h2), List.map_take, List.map_drop]
end Lw
set_option linter.all false
/-! How many pairs stand the wrong way about; how short a word can be. Core Lean alone. -/
namespace Lw
def inv : List Int → Nat
  | [] => 0
  | a :: l => (l.countP fun z => decide (z < a)) + inv l
theorem inv_sw : ∀ (l : List Int) (k : Nat) (a b : Int), l[k]? = some a → l[k + 1]? = some b → (a < b → inv (sw l k) = inv l + 1) ∧ (b < a → inv l = inv (sw l k) + 1)
  | [], k, a, b, h, _ => by simp at h
  | [x], 0, a, b, _, h => by simp at h
  | x :: y :: l, 0, a, b, h1, h2 => by
    simp at h1 h2
    subst h1 h2
    have e : sw (x :: y :: l) 0 = y :: x :: l := rfl
    rw [e]
    simp only [inv, List.countP_cons]
    constructor
    · intro h
      have h' : ¬ y < x := by omega
      simp [h, h']
      omega
    · intro h
      have h' : ¬ x < y := by omega
      simp [h, h']
      omega
  | x :: l, k + 1, a, b, h1, h2 => by
    have e : sw (x :: l) (k + 1) = x :: sw l k := by
      cases l with
      | nil => rfl
      | cons y l => rfl
    have ih := inv_sw l k a b (by simpa using h1) (by simpa using h2)
    rw [e]
    simp only [inv]
    rw [(sw_perm l k).countP_eq]
    constructor
    · intro h
      have := ih.1 h
      omega
    · intro h
      have := ih.2 h
      omega
theorem inv_asc : ∀ {l : List Int}, l.Pairwise (· < ·) → inv l = 0
  | [], _ => rfl
  | a :: l, h => by
    have h' := List.pairwise_cons.mp h
    simp only [inv]
    rw [inv_asc h'.2, List.countP_eq_zero.mpr]
    intro z hz
    have := h'.1 z hz
    simp
    omega
theorem idl_asc (n : Nat) : (idl n).Pairwise (· < ·) := by
  unfold idl
  rw [List.pairwise_map]
  exact List.Pairwise.imp (fun {a b} h => by omega) List.pairwise_lt_range
theorem inv_idl (n : Nat) : inv (idl n) = 0 := inv_asc (idl_asc n)
theorem asc_of : ∀ {l : List Int}, (∀ k a b, l[k]? = some a → l[k + 1]? = some b → a < b) → l.Pairwise (· < ·)
  | [], _ => .nil
  | [x], _ => by simp
  | x :: y :: l, h => by
    have ih : (y :: l).Pairwise (· < ·) := asc_of fun k a b h1 h2 => h (k + 1) a b (by simpa using h1) (by simpa using h2)
    have hxy := h 0 x y rfl rfl
    refine List.pairwise_cons.mpr ⟨fun z hz => ?_, ih⟩
    rcases List.mem_cons.mp hz with rfl | hz
    · exact hxy
    · have := (List.pairwise_cons.mp ih).1 z hz
      omega
theorem ord_asc {n : Nat} {l : List Int} (h : Ord n l) (ha : l.Pairwise (· < ·)) : l = idl n :=
  List.Perm.eq_of_pairwise (le := (· < ·)) (fun a b _ _ h1 h2 => by omega) ha (idl_asc n) h
theorem inv_run {n : Nat} : ∀ (w l : List Int), l.Nodup → l.length = n → OkW n w → inv (run l w) ≤ inv l + w.length ∧ (inv (run l w) + inv l + w.length) % 2 = 0 ∧ (Good l w ↔ inv (run l w) = inv l + w.length)
  | [], l, _, _, _ => ⟨by simp [run_nil], by simp [run_nil]; omega, by simp [run_nil, Good, met]⟩
  | k :: w, l, hn, hl, hw => by
    obtain ⟨a, b, ha, hb⟩ := adj hl (hw k (by simp))
    have hp := sw_perm l k.toNat
    obtain ⟨i1, i2, i3⟩ := inv_run w (sw l k.toNat) (hp.nodup_iff.mpr hn) (by rw [sw_len, hl]) (fun x hx => hw x (by simp [hx]))
    obtain ⟨s1, s2⟩ := inv_sw l k.toNat a b ha hb
    have gd : Good l (k :: w) ↔ a < b ∧ Good (sw l k.toNat) w := by
      unfold Good
      have e : met l (k :: w) = (a, b) :: met (sw l k.toNat) w := by
        show (l.getD k.toNat 0, l.getD (k.toNat + 1) 0) :: _ = _
        rw [getD_of ha, getD_of hb]
      rw [e]
      constructor
      · intro h
        exact ⟨h (a, b) (by simp), fun p hp => h p (List.mem_cons_of_mem _ hp)⟩
      · rintro ⟨h1, h2⟩ p hp
        rcases List.mem_cons.mp hp with rfl | hp
        · exact h1
        · exact h2 p hp
    have hab : a ≠ b := by
      intro e
      subst e
      have g1 : l[k.toNat]? = l[k.toNat + 1]? := by rw [ha, hb]
      have hlt : k.toNat + 1 < l.length := (List.getElem?_eq_some_iff.mp hb).1
      have := (List.getElem?_inj (by omega) hn).mp g1
      omega
    rw [run_cons, gd, List.length_cons]
    rcases Int.lt_or_gt_of_ne hab with h | h
    · have := s1 h
      refine ⟨by omega, by omega, ?_⟩
      rw [i3]
      constructor
      · rintro ⟨_, h2⟩; omega
      · intro h2; exact ⟨h, by omega⟩
    · have := s2 h
      refine ⟨by omega, by omega, ?_⟩
      constructor
      · rintro ⟨h2, _⟩; omega
      · intro h2; omega
section
variable {n : Nat}
theorem len_le {w : List Int} (hw : OkW n w) : inv (run (idl n) w) ≤ w.length := by
  have := (inv_run w (idl n) (idl_nodup n) (idl_len n) hw).1
  rw [inv_idl] at this
  omega
theorem len_par {w : List Int} (hw : OkW n w) : (inv (run (idl n) w) + w.length) % 2 = 0 := by
  have := (inv_run w (idl n) (idl_nodup n) (idl_len n) hw).2.1
  rw [inv_idl] at this
  omega
theorem good_len {w : List Int} (hw : OkW n w) : Good (idl n) w ↔ w.length = inv (run (idl n) w) := by
  have := (inv_run w (idl n) (idl_nodup n) (idl_len n) hw).2.2
  rw [inv_idl] at this
  rw [this]
  omega
theorem form_len {p : List Int} (h : Ord n p) (h1 : 1 ≤ n) (h60 : n ≤ 60) : (form n p).length = inv p := by
  have := (good_len (form_ok h h1 h60).1).mp (form_good h h1)
  rw [form_run h h1] at this
  exact this
theorem okw_back {w : List Int} (hw : OkW n w) : OkW n w.reverse := fun x hx => hw x (List.mem_reverse.mp hx)
theorem okw_sub {w v : List Int} (hw : OkW n w) (h : ∀ x ∈ v, x ∈ w) : OkW n v := fun x hx => hw x (h x hx)
theorem run_back_of {u v : List Int} (h : run (idl n) u = run (idl n) v) : run (idl n) u.reverse = run (idl n) v.reverse := by
  have hu := undoes_run n u
  have hv := undoes_run n v
  rw [h] at hu
  refine List.ext_getElem? fun i => ?_
  have key : ∀ {q q' : List Int}, Undoes n (run (idl n) v) q → Undoes n (run (idl n) v) q' → ∀ x, q[i]? = some x → q'[i]? = some x := by
    intro q q' hq hq' x hx
    have hi : i < n := by rw [← hq.1]; exact (List.getElem?_eq_some_iff.mp hx).1
    obtain ⟨y, hy⟩ : ∃ y, q'[i]? = some y := ⟨_, List.getElem?_eq_getElem (by rw [hq'.1]; exact hi)⟩
    obtain ⟨x0, ex⟩ := hq.2 i x hx
    obtain ⟨y0, ey⟩ := hq'.2 i y hy
    have nd : (run (idl n) v).Nodup := (ord_run n v).nodup
    have hlt : x.toNat < (run (idl n) v).length := (List.getElem?_eq_some_iff.mp ex).1
    have := (List.getElem?_inj hlt nd).mp (ex.trans ey.symm)
    rw [hy]
    congr 1
    omega
  cases e : (run (idl n) u.reverse)[i]? with
  | some x => exact (key hu hv x e).symm
  | none =>
    cases e' : (run (idl n) v.reverse)[i]? with
    | some x =>
      rw [key hv hu x e'] at e
      cases e
    | none => rfl
/-- the least length of a word: for the way back the same -/
theorem inv_back (h1 : 1 ≤ n) (h60 : n ≤ 60) (w : List Int) (hw : OkW n w) : inv (run (idl n) w.reverse) = inv (run (idl n) w) := by
  have half : ∀ w : List Int, OkW n w → inv (run (idl n) w.reverse) ≤ inv (run (idl n) w) := by
    intro w hw
    have ho := ord_run n w
    have hf := form_run ho h1
    have hb : run (idl n) (form n (run (idl n) w)).reverse = run (idl n) w.reverse := run_back_of hf
    rw [← hb, ← form_len ho h1 h60]
    have := len_le (okw_back (form_ok ho h1 h60).1)
    rwa [List.length_reverse] at this
  refine Nat.le_antisymm (half w hw) ?_
  have := half w.reverse (okw_back hw)
  rwa [List.reverse_reverse] at this
theorem good_back (h1 : 1 ≤ n) (h60 : n ≤ 60) {w : List Int} (hw : OkW n w) (hg : Good (idl n) w) : Good (idl n) w.reverse := by
  rw [good_len (okw_back hw), inv_back h1 h60 w hw, List.length_reverse]
  exact (good_len hw).mp hg
theorem okw_take {w : List Int} (hw : OkW n w) (k : Nat) : OkW n (w.take k) := okw_sub hw fun x hx => List.mem_of_mem_take hx
theorem okw_drop {w : List Int} (hw : OkW n w) (k : Nat) : OkW n (w.drop k) := okw_sub hw fun x hx => List.mem_of_mem_drop hx
theorem good_take {w : List Int} (hg : Good (idl n) w) (k : Nat) : Good (idl n) (w.take k) := by
  have e := List.take_append_drop k w
  rw [← e] at hg
  exact (good_append.mp hg).1
theorem good_drop (h1 : 1 ≤ n) (h60 : n ≤ 60) {w : List Int} (hw : OkW n w) (hg : Good (idl n) w) (k : Nat) : Good (idl n) (w.drop k) := by
  have hb := good_back h1 h60 hw hg
  have e : w.reverse = (w.drop k).reverse ++ (w.take k).reverse := by rw [← List.reverse_append, List.take_append_drop]
  rw [e] at hb
  have := good_back h1 h60 (okw_back (okw_drop hw k)) (good_append.mp hb).1
  rwa [List.reverse_reverse] at this
/-- a place passed twice on end makes a word longer than it need be -/
theorem bad_twice {w : List Int} (hw : OkW n w) (k : Nat) (z : Int) (hz : 0 ≤ z ∧ z + 1 < n) : OkW n (w.take k ++ [z, z] ++ w.drop k) ∧ ¬ Good (idl n) (w.take k ++ [z, z] ++ w.drop k) := by
  have ok : OkW n (w.take k ++ [z, z] ++ w.drop k) := by
    intro x hx
    simp only [List.mem_append, List.mem_cons, List.not_mem_nil, or_false, or_self] at hx
    rcases hx with (hx | hx) | hx
    · exact hw x (List.mem_of_mem_take hx)
    · exact hx ▸ hz
    · exact hw x (List.mem_of_mem_drop hx)
  refine ⟨ok, fun h => ?_⟩
  have e : run (idl n) (w.take k ++ [z, z] ++ w.drop k) = run (idl n) w := by
    rw [run_append, run_append, run_cons, run_cons, run_nil, sw_sw, ← run_append, List.take_append_drop]
  have h' := (good_len ok).mp h
  rw [e] at h'
  have := len_le hw
  have l1 : (w.take k ++ [z, z] ++ w.drop k).length = w.length + 2 := by
    have := congrArg List.length (List.take_append_drop k w)
    rw [List.length_append] at this
    simp only [List.length_append, List.length_cons, List.length_nil]
    omega
  omega
theorem good_iff_form (h1 : 1 ≤ n) (h60 : n ≤ 60) {w : List Int} (hw : OkW n w) : Good (idl n) w ↔ w.length = (form n (run (idl n) w)).length := by
  rw [form_len (ord_run n w) h1 h60]
  exact good_len hw
/-- short words of one order let the same runners pass one another -/
theorem met_perm {v w : List Int} (hv : OkW n v) (hw : OkW n w) (gv : Good (idl n) v) (gw : Good (idl n) w) (h : run (idl n) v = run (idl n) w) : (met (idl n) v).Perm (met (idl n) w) := by
  refine (List.perm_ext_iff_of_nodup (good_nodup hv gv) (good_nodup hw gw)).mpr ?_
  have t1 := (turned_run v (idl n) [] (idl_nodup n) (idl_len n) hv (turned_start n) (by simp) (fun p h => by cases h) gv).1
  have t2 := (turned_run w (idl n) [] (idl_nodup n) (idl_len n) hw (turned_start n) (by simp) (fun p h => by cases h) gw).1
  rw [List.nil_append] at t1 t2
  rw [h] at t1
  have inn : ∀ {u : List Int}, OkW n u → ∀ p ∈ met (idl n) u, p.1 ∈ run (idl n) w ∧ p.2 ∈ run (idl n) w := by
    intro u hu p hp
    have m : ∀ (u l : List Int), l.Perm (idl n) → OkW n u → ∀ p ∈ met l u, p.1 ∈ idl n ∧ p.2 ∈ idl n := by
      intro u
      induction u with
      | nil => intro l _ _ p hp; cases hp
      | cons k u ih =>
        intro l hl hu p hp
        obtain ⟨a, b, ha, hb⟩ := adj (n := n) (by rw [hl.length_eq, idl_len]) (hu k (by simp))
        have e : met l (k :: u) = (a, b) :: met (sw l k.toNat) u := by
          show (l.getD k.toNat 0, l.getD (k.toNat + 1) 0) :: _ = _
          rw [getD_of ha, getD_of hb]
        rw [e] at hp
        rcases List.mem_cons.mp hp with rfl | hp
        · exact ⟨hl.mem_iff.mp (List.mem_of_getElem? ha), hl.mem_iff.mp (List.mem_of_getElem? hb)⟩
        · exact ih _ ((sw_perm l k.toNat).trans hl) (fun x hx => hu x (by simp [hx])) p hp
    have := m u (idl n) (.refl _) hu p hp
    exact ⟨(ord_run n w).mem_iff.mpr this.1, (ord_run n w).mem_iff.mpr this.2⟩
  intro p
  constructor
  · intro hp
    have i := inn hv p hp
    exact (t2 p.1 p.2 (gv p hp) i.1 i.2).mpr ((t1 p.1 p.2 (gv p hp) i.1 i.2).mp hp)
  · intro hp
    have i := inn hw p hp
    exact (t1 p.1 p.2 (gw p hp) i.1 i.2).mpr ((t2 p.1 p.2 (gw p hp) i.1 i.2).mp hp)
/-- one order behind another: no longer than both, and of their parity -/
theorem form_join (h1 : 1 ≤ n) (h60 : n ≤ 60) {p w : List Int} (hp : Ord n p) (hw : OkW n w) : let j := (form n ((run (idl n) w).map fun r => p.getD r.toNat 0)).length
    j ≤ (form n p).length + w.length ∧ ((form n p).length + w.length + j) % 2 = 0 := by
  intro j
  have e : (run (idl n) w).map (fun r => p.getD r.toNat 0) = run (idl n) (form n p ++ w) := by rw [run_join, form_run hp h1]
  have ok : OkW n (form n p ++ w) := fun x hx => (List.mem_append.mp hx).elim ((form_ok hp h1 h60).1 x) (hw x)
  have ej : j = inv (run (idl n) (form n p ++ w)) := by
    show (form n _).length = _
    rw [e, form_len (ord_run n _) h1 h60]
  have a1 := len_le ok
  have a2 := len_par ok
  rw [List.length_append] at a1 a2
  rw [ej]
  exact ⟨a1, by omega⟩
end
end Lw
set_option Elab.async false
set_option maxRecDepth 100000
/-! sorted of lists of pairs of ints whose tuples are known. -/
namespace Lw
open PySem L2
def pk (H : Hp) : V → Int × Int
  | .ref t => match H t with
    | some (.frz _ (.tup [.int i, .int j])) => (i, j)
    | _ => (0, 0)
  | _ => (0, 0)
theorem pk_of {H : Hp} {t : Addr} {p : Int × Int} (h : PairT H t p) : pk H (.ref t) = p := by
  obtain ⟨o, e, _⟩ := h
  show (match H t with
    | some (.frz _ (.tup [.int i, .int j])) => (i, j)
    | _ => (0, 0)) = p
  rw [e]
theorem pk_all {H : Hp} : ∀ {ts : List Addr} {ps : List (Int × Int)}, Paired (PairT H) ts ps → (ts.map V.ref).map (pk H) = ps ∧ ∀ y ∈ ts.map V.ref, ∃ t, y = V.ref t ∧ PairT H t (pk H y)
  | _, _, .nil => ⟨rfl, fun y hy => by cases hy⟩
  | _, _, .cons r t => by
    obtain ⟨h1, h2⟩ := pk_all t
    refine ⟨by rw [List.map_cons, List.map_cons, h1, pk_of r], fun y hy => ?_⟩
    rcases List.mem_cons.mp hy with rfl | hy
    · exact ⟨_, rfl, by rw [pk_of r]; exact r⟩
    · exact h2 y hy
theorem pk_back {H : Hp} : ∀ {ys : List V}, (∀ y ∈ ys, ∃ t, y = V.ref t ∧ PairT H t (pk H y)) → ∃ ts : List Addr, ys = ts.map V.ref ∧ Paired (PairT H) ts (ys.map (pk H))
  | [], _ => ⟨[], rfl, .nil⟩
  | y :: ys, h => by
    obtain ⟨t, rfl, ht⟩ := h y (by simp)
    obtain ⟨ts, e, hp⟩ := pk_back (ys := ys) fun z hz => h z (by simp [hz])
    exact ⟨t :: ts, by rw [List.map_cons, ← e], .cons ht hp⟩
def rSortedT : List V → Hp → VK → Prop := fun vs H Q => ∃ (a : Addr) (ps : List (Int × Int)), vs = [V.ref a] ∧ PairsAt H a ps ∧
  ∀ qs r H', H r = none → Same H H' → PairsAt H' r qs → qs.Perm ps → qs.Pairwise (fun p q => SrtO.lexB q p = false) → Q (.ref r) H'
section
variable {X : Cx}
theorem cr_sortedT : CallR X (.builtin "sorted") rSortedT := by
  intro pins s σ H vs us Q I r h
  obtain ⟨a, ps, rfl, ⟨ts, ha, hp⟩, q⟩ := h
  obtain ⟨its, rv, hl, hz⟩ := I.list (SqL.of (K := X.K) ha)
  obtain ⟨u, rfl, ru⟩ := vals1 r
  obtain rfl : u = Value.ref a := ru
  obtain ⟨k1, k2⟩ := pk_all hp
  obtain ⟨e1, e2⟩ := refs_back rv fun x m => by
    obtain ⟨t, e, _⟩ := k2 x m
    exact ⟨t, e⟩
  refine SrtO.sorted_pairsO (k := fun u => pk H (backV u)) hl.isList (by rw [← rv.length]; exact hz) (fun v hv => ?_) fun h' d out h1 h2 kp hd hn => ?_
  · obtain ⟨t, rfl⟩ := e2 v hv
    have hm : V.ref t ∈ ts.map V.ref := by rw [e1]; exact List.mem_map.mpr ⟨_, hv, rfl⟩
    obtain ⟨t', e, ht⟩ := k2 _ hm
    cases e
    obtain ⟨w, ew, _⟩ := ht
    obtain ⟨_, _, its2, r2, o, ho, hc, n, hd⟩ := I.hok _ _ ew
    obtain ⟨u1, u2, rfl, ri, rj⟩ := vals2 r2
    obtain ⟨t1, rfl⟩ := ri
    obtain ⟨t2, rfl⟩ := rj
    exact ⟨t, o, t1, t2, n, rfl, ho, hc, hd⟩
  · have h3 : ∀ u ∈ out, ∃ a, u = Value.ref a := fun u hu => e2 u (h2.perm.mem_iff.mp hu)
    obtain ⟨n, hn⟩ := hn
    have hb : SrtO.Stb (ltP (pk H)) (out.map backV) (ts.map V.ref) := by
      rw [e1]
      exact SrtO.Stb.map (ltP_swo (pk H)) backV h2
    have hs : SrtO.Srtd (ltP (pk H)) (out.map backV) := SrtO.srtd_map h1
    have fr := I.hok.fresh hd
    have sm : Same H (upd H d (.lst (out.map backV))) := same_new fr
    obtain ⟨ts', e', hp'⟩ := pk_back (H := H) (ys := out.map backV) fun y hy => k2 y (hb.perm.mem_iff.mp hy)
    refine ⟨.ref d, upd H d (.lst (out.map backV)), I.laid (t' := s.toks) kp hd ⟨?_, out, n, vals_back h3, hn⟩, rfl, q ((out.map backV).map (pk H)) d _ fr sm ⟨ts', by rw [upd_same, e'], L2.Paired.mapP hp' fun _ _ t => t.same sm⟩ ?_ ?_⟩
    · rw [hb.len]
      exact hz
    · rw [← k1]
      exact hb.perm.map _
    · rw [List.pairwise_map]
      exact hs
end
theorem lex_uniq {qs rs : List (Int × Int)} (h1 : qs.Pairwise (fun p q => SrtO.lexB q p = false)) (h2 : rs.Pairwise (fun p q => SrtO.lexB q p = false)) (h : qs.Perm rs) : qs = rs := by
  refine List.Perm.eq_of_pairwise (fun p q _ _ a b => ?_) h1 h2 h
  have a' := SrtO.lexB_no.mp a
  have b' := SrtO.lexB_no.mp b
  obtain ⟨p1, p2⟩ := p
  obtain ⟨q1, q2⟩ := q
  simp only at a' b'
  have : p1 = q1 := by omega
  subst this
  have : p2 = q2 := by omega
  subst this
  rfl
theorem eqv_refl_pairs (ps : List (Int × Int)) : (!PyData.eqv (.list (ps.map pD)) (.list (ps.map pD))) = false := by
  have : ∀ ps : List (Int × Int), PyData.eqvAll (ps.map pD) (ps.map pD) = true := by
    intro ps
    induction ps with
    | nil => simp [PyData.eqvAll]
    | cons p ps ih =>
      simp only [List.map_cons, PyData.eqvAll, ih, eqv_pD]
      simp
  simp [PyData.eqv, this]
end Lw
set_option Elab.async false
set_option maxRecDepth 100000
/-! A set made of a list of texts, no two alike: how many there are. -/
namespace Lw
open PySem PySem.Spec PyProof.Rows
section
variable {prog : Program} {w : World} {A : Around} {E : Value → Shared → Prop} {s : Shared}
abbrev newSet (led : Bool) : Obj := { cls := .type "set", dict := none, data := .set #[] 0 (.fresh 0 0 led) }
abbrev twoNew (h : Heap) (led : Bool) (l : Addr) : Heap := (h.push (newSet led)).push { cls := .type "list_iterator", data := .fields #[.ref l, .int 0 0] }
section
variable {R : Result → Shared → Prop} {I : Addr} {fp wr : List Addr} {G : Array GenState → Array GenState → Prop} {n : Nat} {P : Nat → Value → Prop} {St : Nat → Shared → Prop}
/-- the first i of them are in -/
abbrev Held (prog : Program) (w : World) (S : Addr) (xs : List Str) (i : Nat) (s : Shared) : Prop := s.heap.SetOf (PySem.strKind prog w) S (fun k => decide (k ∈ xs.take i)) i
theorem Held.moved {S : Addr} {xs : List Str} {i : Nat} {s s' : Shared} (h : Held prog w S xs i s) (hm : Moved wr G s s') (n : S ∉ wr) : Held prog w S xs i s' := by
  obtain ⟨o, es, ep, t, ho, r⟩ := h
  exact ⟨o, es, ep, t, hm.heap S _ n ho, r⟩
theorem set_loop (W : WalksS prog w A.in1 I fp wr G n P St) {S : Addr} (hS : S ∉ fp) {xs : List Str} (hn : xs.Nodup) (hl : xs.length = n) (hb : n + 1 < scanBound) (hv : ∀ i v, P i v → ∃ t, v = .str (xs.getD i Str.empty) t) :
    ∀ (m i : Nat) (s : Shared), i + m = n → St i s → Held prog w S xs i s → (∀ s', Moved (S :: wr) G s s' → Held prog w S xs n s' → R (.ok (.ret .none)) s') →
      codeAny (model prog w) A (.builtin "set.update.loop" ⟨[.ref S, .ref I], []⟩) R s := by
  have nw : S ∉ wr := fun h => hS (W.sub _ h)
  have up : ∀ b ∈ wr, b ∈ S :: wr := fun b h => List.mem_cons_of_mem _ h
  intro m
  induction m with
  | zero =>
    intro i s e st hs q
    have : i = n := by omega
    subst this
    refine codeAny_builtin F.entry_set_update_loop ?_
    rw [Around.under_plainId F.plain_set_update_loop _]
    exact wpAny_bind (W.done s _ _ st fun s' hm => wpAny_pure (q s' (hm.mono up) (hs.moved hm nw)))
  | succ m ih =>
    intro i s e st hs q
    have lt : i < n := by omega
    refine codeAny_builtin F.entry_set_update_loop ?_
    rw [Around.under_plainId F.plain_set_update_loop _]
    refine wpAny_bind (W.item i s _ _ lt st fun v s' hP st' hm => ?_)
    obtain ⟨t, rfl⟩ := hv i v hP
    have hs' := hs.moved hm nw
    have hx : xs.getD i Str.empty = xs[i] := by rw [List.getD_eq_getElem?_getD, List.getElem?_eq_getElem (by omega)]; rfl
    have fresh : xs.getD i Str.empty ∉ xs.take i := by
      rw [hx]
      intro h
      obtain ⟨j, hj, ej⟩ := List.getElem_of_mem h
      rw [List.length_take] at hj
      rw [List.getElem_take] at ej
      exact List.pairwise_iff_getElem.mp hn j i (by omega) (by omega) (by omega) ej
    show wpAny _ A.in1 (holding [Value.str (xs.getD i Str.empty) t] (setAdd S (.str (xs.getD i Str.empty) t)) >>= _) _ _ s'
    refine wpAny_bind (wpAny_holding ?_)
    unfold setAdd
    refine wpAny_holding (wpAny_bind ((PySem.strKind prog w).pyHash (k := xs.getD i Str.empty) (strKind_is _ _ _ _) ?_))
    refine wpAny_setAddHashed_of (knd := PySem.strKind prog w) (s := { s' with toks := s'.toks + 1 }) (strKind_is _ _ _ _) rfl hs' (by omega) fun h' hsb h2 => ?_
    have step : h'.SetOf (PySem.strKind prog w) S (fun k => decide (k ∈ xs.take (i + 1))) (i + 1) := by
      refine SetOf_congr h2 (fun k => ?_) (by simp only [decide_eq_true_eq]; rw [if_neg fresh])
      have et : xs.take (i + 1) = xs.take i ++ [xs.getD i Str.empty] := by rw [List.take_add_one, List.getElem?_eq_getElem (by omega), hx]; rfl
      rw [et]
      by_cases e1 : k ∈ xs.take i <;> by_cases e2 : k = xs.getD i Str.empty <;> simp [e1, e2]
    refine wpAny_pure ⟨plainId_quiet F.plain_set_update_loop _, ih (i + 1) _ (by omega) (W.frame _ s' _ _ st' (Nat.le_succ _) fun b hb o eo => ?_) step fun s2 hm2 hs2 => q s2 (Moved.trans W.gtrans ((hm.mono up).then_heap (Nat.le_succ _) fun b o hb eo => ?_) hm2) hs2⟩
    · rw [hsb.2 b (fun h : b = S => hS (h ▸ hb))]
      exact eo
    · rw [hsb.2 b (fun h : b = S => hb (h ▸ List.mem_cons_self))]
      exact eo
end
set_option maxHeartbeats 4000000 in
/-- set(xs): down to the loop that fills it -/
theorem set_call {l : Addr} {items : Array Value} {Q : Value → Shared → Prop} {Post : Shared → Prop} (hh : A.handled = none) (hl : s.heap.IsList l items)
    (loop : ∀ (led : Bool) (B : Around) (tk : Nat), B.handled = none → codeAny (model prog w) B (.builtin "set.update.loop" ⟨[.ref s.heap.objs.size, .ref (s.heap.push (newSet led)).objs.size], []⟩) (fun r s' => r = .ok (.ret .none) ∧ Post s') { s with heap := twoNew s.heap led l, toks := tk })
    (fin : ∀ s', Post s' → Q (.ref s.heap.objs.size) s') : wpAny (model prog w) A (call (.type "set") [.ref l]) Q E s := by
  obtain ⟨c, tl, hmro⟩ := PySem.F.called_set.mro
  have hmade := PySem.F.called_set.made
  have hsub := PySem.F.called_set.sub
  have h1 := PySem.F.called_set.notType
  have h2 := PySem.F.called_set.canCreate
  have hct := PySem.F.typeCall_set_1 (.ref l)
  refine wpAny_call (codeAny_of_tree (wpAny_pure ⟨Code.quiet_builtin _ (by decide +kernel), codeAny_builtin PySem.F.entry_type_call ?_⟩))
  rw [Around.under_plain (weight_type_call_type "set" [.ref l] []) rfl]
  repeat (any_goals (first | assumption | wp_step))
  refine codeAny_mono (code_set_new_1 (.ref l) (E := E) (Q₁ := fun v t => ∃ led : Bool, v = .ref s.heap.objs.size ∧ t = { s with heap := s.heap.push (newSet led) }) fun led => ⟨led, rfl, rfl⟩) fun r t hr => ?_
  match r, hr with
  | .error e, hr => exact hr
  | .ok (.ret v), hr =>
    obtain ⟨led, rfl, rfl⟩ := hr
    have hS : (s.heap.push (newSet led)).get? s.heap.objs.size = some (newSet led) := Heap.get?_push_size _ rfl
    have hT : Shared.TypeIs { s with heap := s.heap.push (newSet led) } (.ref s.heap.objs.size) "set" := ⟨_, hS, rfl⟩
    have hli := PySem.F.called_set.init.lookup
    have hbi := PySem.F.called_set.init.bind (.ref s.heap.objs.size)
    repeat (any_goals (first | assumption | wp_step))
    refine codeAny_mono (codeAny_call_builtin (R := wants (fun r s₂ => r = .none ∧ Post s₂) E) PySem.F.called_set.init.plain PySem.F.entry_set_init (check_set_init_1 hT ?_)) fun r2 t2 hr2 => ?_
    · obtain ⟨⟨oc, od, ot, os⟩, ho, hc, n, hd⟩ := hl
      simp only at hc hd
      subst hc hd
      have ho' : (s.heap.push (newSet led)).get? l = some { cls := Value.type "list", dict := od, data := Data.seq items n, slots := os } := Heap.get?_push_of_some _ ho
      have hl1 : (s.heap.push (newSet led)).IsList l items := ⟨_, ho', rfl, n, rfl⟩
      have g1 := PySem.F.sub_list_set
      have g2 := PySem.F.sub_list_frozenset
      have g3 : (Value.type "list" == Value.type "dict") = false := by decide
      unfold Builtin.«set.__init__» noKeywords Builtin.Frozenset.updateFrom
      generalize hPI : pyIter = PI
      wp_walk
      subst hPI
      refine wpAny_pyIter_list hl1 (wpAny_bind (wpAny_runValue ?_))
      have hh3 : A.in1.in1.handled = none := by simp [hh]
      refine codeAny_mono (loop led _ _ hh3) fun r3 t3 hr3 => ?_
      obtain ⟨rfl, hp⟩ := hr3
      exact wpAny_pure (wpAny_pure ⟨rfl, hp⟩)
    · match r2, hr2 with
      | .error e, hr2 => exact hr2
      | .ok (.ret v2), hr2 =>
        obtain ⟨rfl, hp⟩ := hr2
        repeat (any_goals (first | assumption | wp_step))
        exact fin _ hp
      | .ok .next, hr2 => exact hr2.elim
      | .ok .brk, hr2 => exact hr2.elim
      | .ok .cont, hr2 => exact hr2.elim
theorem call_set_strs {l : Addr} {items : Array Value} {xs : List Str} {Q : Value → Shared → Prop} (hh : A.handled = none) (hl : s.heap.IsList l items) (hi : StrsAre items.toList xs) (hn : xs.Nodup) (hb : xs.length + 1 < scanBound)
    (h : ∀ (h' : Heap) (tk : Nat), h'.SetOf (PySem.strKind prog w) s.heap.objs.size (fun k => decide (k ∈ xs)) xs.length → (∀ b o, s.heap.get? b = some o → h'.get? b = some o) → Q (.ref s.heap.objs.size) { s with heap := h', toks := tk }) :
    wpAny (model prog w) A (call (.type "set") [.ref l]) Q E s := by
  have hsz : xs.length = items.size := by rw [← StrsAre.len_eq hi, Array.length_toList]
  have hlS : l < s.heap.objs.size := by
    obtain ⟨o, ho, _⟩ := hl
    exact Heap.lt_size ho
  refine set_call (Post := fun s' => ∃ h' tk, s' = { s with heap := h', toks := tk } ∧ h'.SetOf (PySem.strKind prog w) s.heap.objs.size (fun k => decide (k ∈ xs)) xs.length ∧ ∀ b o, s.heap.get? b = some o → h'.get? b = some o) hh hl (fun led B tk hB => ?_) fun s' hp => ?_
  · have hS : (s.heap.push (newSet led)).get? s.heap.objs.size = some (newSet led) := Heap.get?_push_size _ rfl
    have hl1 : (s.heap.push (newSet led)).IsList l items := hl.push _
    have n1 : l ≠ (s.heap.push (newSet led)).objs.size := by
      rw [Heap.size_push]
      exact Nat.ne_of_lt (Nat.lt_succ_of_lt hlS)
    have n2 : s.heap.objs.size ∉ [(s.heap.push (newSet led)).objs.size, l] := by
      rw [Heap.size_push]
      simp only [List.mem_cons, List.not_mem_nil, or_false, not_or]
      exact ⟨Nat.ne_of_lt (Nat.lt_succ_self _), Nat.ne_of_gt hlS⟩
    refine set_loop (xs := xs) ((Walks.list (A := B.in1) hB _ l n1 items).toS) n2 hn hsz (by omega) (fun i v hv => SS.strs_at hi i v (by rw [Array.getElem?_toList]; exact hv)) items.size 0 _ (by omega) ⟨⟨_, Heap.get?_push_size _ rfl, rfl, rfl⟩, hl1.push _⟩ ?_ ?_
    · have hget : ((s.heap.push (newSet led)).push { cls := .type "list_iterator", data := .fields #[.ref l, .int 0 0] }).get? s.heap.objs.size = some (newSet led) := Heap.get?_push_of_some _ hS
      exact SetOf_congr ((setObjOf_fresh (knd := PySem.strKind prog w) led).setOf hget (by unfold scanBound; omega)) (fun k => by simp) rfl
    · intro s' hm hs
      obtain ⟨h', g', d', tk', os'⟩ := s'
      have eg : g' = s.gens := hm.gens
      have ed : d' = s.drawn := hm.drawn
      have eo : os' = s.os := hm.os
      subst eg ed eo
      refine ⟨rfl, h', tk', rfl, ?_, fun b o e => ?_⟩
      · refine SetOf_congr hs (fun k => ?_) hsz.symm
        rw [← hsz, List.take_length]
      · have hb1 := Heap.lt_size e
        refine hm.heap b o ?_ (Heap.get?_push_of_some _ (Heap.get?_push_of_some _ e))
        rw [Heap.size_push]
        simp only [List.mem_cons, List.not_mem_nil, or_false, not_or]
        exact ⟨Nat.ne_of_lt hb1, Nat.ne_of_lt (Nat.lt_succ_of_lt hb1)⟩
  · obtain ⟨h', tk, rfl, hs, hk⟩ := hp
    exact h h' tk hs hk
end
end Lw
set_option Elab.async false
set_option maxRecDepth 100000
namespace Lw
open PySem PySem.Spec PyProof.Rows L2
section
variable {X : Cx} {K : PySem.W.Frag}
/-- len(set(xs)), xs a list of texts, no two alike -/
def tLenSetS (K : PySem.W.Frag) (ta : TE) : TE := fun σ H Q => ta σ H fun x H1 => ∃ (l : Addr) (xs : List Str), x = V.ref l ∧ SqL K H1 l (xs.map V.str) ∧ xs.Nodup ∧ xs.length ≤ 1000 ∧ Q (.int xs.length) H1
theorem pe_lenSetS {a : Expr} {ta : TE} {p p2 q pos : Pos} (hk : X.K = K) (hc : X.calm = true) (hg : Gl X "len") (hm : X.mg "len" = none) (hg2 : Gl X "set") (hm2 : X.mg "set" = none) (ha : PE X a ta)
    (na : starEach [a] X.env = (false, eval a X.env) :: starEach [] X.env := by rfl) : PE X (.Call (.Name "len" p) [.Call (.Name "set" p2) [a] [] q] [] pos) (tLenSetS K ta) := by
  subst hk
  refine ⟨fun pins s σ H Q I h => Call_ (ld_blt I hg hm PySem.boot_len (callWith_builtin1 (args_cons ?_ rfl) rfl rfl))⟩
  refine Call_ (ld_blt I hg2 hm2 boot_set (callWith_type1 (args_cons (thn (ha.run pins s σ H _ I h) fun v s1 ⟨x, H1, I1, r1, q1⟩ => args_nil ?_) na) na rfl))
  obtain ⟨l, xs, rfl, hq, hn, hl, q1⟩ := q1
  cases r1
  obtain ⟨its, r, pl, hz⟩ := I1.list hq
  refine call_set_strs (I1.ok.hd hc) pl.isList (xs := xs) (by simpa using r.strs) hn (by unfold scanBound; omega) fun h' tk hS hk => ?_
  obtain ⟨o, es, ep, t, ho, hex, hd, _, _, _, hf, hn'⟩ := hS
  have I2 : Inv X pins σ H1 { s1 with heap := h', toks := tk } := I1.kept fun b o e => hk b o e
  exact args_nil (call_len_set ho hex hd hf (by rw [hn']; omega) ⟨.int xs.length, H1, I2.tok _, ⟨_, by rw [hn']⟩, q1⟩)
end
end Lw
set_option Elab.async false
set_option maxRecDepth 100000
/-! Texts, lists of texts, tables. -/
namespace Lw
open PySem L2
section
variable {X : Cx} {K : PySem.W.Frag}
def rIxSome (K : PySem.W.Frag) : R2 := fun x y H Q => rIxS x y H Q ∨ rIxL K x y H Q
theorem ix_some (h : X.K = K) : IxR X (rIxSome K) := by
  subst h
  intro a b pins s σ H x y v u Q I rx ry h hs
  exact h.elim (fun h => ix_str a b pins s σ H x y v u Q I rx ry h hs) fun h => ix_list a b pins s σ H x y v u Q I rx ry h hs
def rLenSome (K : PySem.W.Frag) : List V → Hp → VK → Prop := fun xs H Q => (∃ z, xs = [.str z] ∧ z.length ≤ sizeLine ∧ Q (.int z.length) H) ∨ rLenK K xs H Q
theorem call_len_some (h : X.K = K) : CallR X (.builtin "len") (rLenSome K) := by
  intro pins s σ H x v Q I r h'
  exact h'.elim (fun h' => call_len_str pins s σ H x v Q I r h') fun h' => call_lenK h pins s σ H x v Q I r h'
end
theorem flatS (ns : List Str) : (ns.map V.str).all flatV = true := by
  rw [List.all_eq_true]
  intro x hx
  obtain ⟨z, _, rfl⟩ := List.mem_map.mp hx
  rfl
theorem inV_str (z : Str) (ns : List Str) : inV (.str z) (ns.map V.str) = decide (z ∈ ns) := by
  unfold inV
  rw [List.any_map]
  induction ns with
  | nil => simp
  | cons n ns ih =>
    have e : eqV (V.str n) (V.str z) = decide (z = n) := by
      simp only [eqV]
      by_cases h : n = z
      · subst h; simp
      · have h' : ¬ z = n := fun q => h q.symm
        simp [h, h']
    rw [List.any_cons, ih]
    simp only [Function.comp, e, List.mem_cons, Bool.decide_or]
theorem map_gets {ns : List Str} {i : Nat} {v : V} (h : (ns.map V.str)[i]? = some v) : ∃ z, ns[i]? = some z ∧ v = .str z := by
  rw [List.getElem?_map] at h
  cases e : ns[i]? with
  | none => rw [e] at h; cases h
  | some z => rw [e] at h; exact ⟨z, rfl, (Option.some.inj h).symm⟩
/-- a small letter -/
def Low (c : Nat) : Prop := 97 ≤ c ∧ c < 123
/-- one to eight small letters -/
def IsName (z : Str) : Prop := 1 ≤ z.length ∧ z.length ≤ 8 ∧ ∀ c ∈ z.cps.toList, Low c
theorem low_in : ∀ k : Fin 26, (Builtin.Str.occurrences (Str.ofString "abcdefghijklmnopqrstuvwxyz") ⟨#[97 + k.val]⟩ 0 26 1).isEmpty = false := by decide +kernel
theorem low_found {c : Nat} (h : Low c) : (!(Builtin.Str.occurrences (Str.ofString "abcdefghijklmnopqrstuvwxyz") ⟨#[c]⟩ 0 (Str.ofString "abcdefghijklmnopqrstuvwxyz").length 1).isEmpty) = true := by
  have e : (Str.ofString "abcdefghijklmnopqrstuvwxyz").length = 26 := by decide +kernel
  obtain ⟨h1, h2⟩ := h
  have := low_in ⟨c - 97, by omega⟩
  have e2 : 97 + (c - 97) = c := by omega
  simp only [e2] at this
  rw [e, this]
  rfl
/-! tables -/
abbrev StrPair (H : Hp) (t : Addr) (p : Str × Str) : Prop := Tup H t [.str p.1, .str p.2]
def LineT (H : Hp) (l : Addr) (ps : List (Str × Str)) : Prop := ∃ ts : List Addr, Tup H l (ts.map V.ref) ∧ Paired (StrPair H) ts ps
def LineL (H : Hp) (l : Addr) (ps : List (Str × Str)) : Prop := ∃ ts : List Addr, H l = some (.lst (ts.map V.ref)) ∧ Paired (StrPair H) ts ps
theorem StrPairs.same {H H' : Hp} {ts : List Addr} {ps : List (Str × Str)} (h : Paired (StrPair H) ts ps) (s : Same H H') : Paired (StrPair H') ts ps := L2.Paired.mapP h fun _ _ t => t.same s
theorem LineT.same {H H' : Hp} {l : Addr} {ps : List (Str × Str)} (h : LineT H l ps) (s : Same H H') : LineT H' l ps := by
  obtain ⟨ts, a, b⟩ := h
  exact ⟨ts, a.same s, StrPairs.same b s⟩
theorem LineL.same {H H' : Hp} {l : Addr} {ps : List (Str × Str)} (h : LineL H l ps) (s : Same H H') : LineL H' l ps := by
  obtain ⟨ts, a, b⟩ := h
  exact ⟨ts, s _ _ a, StrPairs.same b s⟩
theorem LineT.sameX {H H' : Hp} {l p c : Addr} {N : Nat} {ps : List (Str × Str)} (h : LineT H l ps) (s : SameX p H H') (P : PenAt H p c N) : LineT H' l ps := by
  obtain ⟨ts, a, b⟩ := h
  exact ⟨ts, a.sameX s P, L2.Paired.mapP b fun _ _ t => t.sameX s P⟩
/-- a table's object: its marks, its pairs -/
def TblAt (H : Hp) (C a : Addr) (ms : List Str) (ps : List (List (Str × Str))) : Prop :=
  ∃ (dx m q : Addr) (ls : List Addr), H a = some (.ins C dx [("_marks", .ref m), ("_pairs", .ref q)]) ∧ Tup H m (ms.map V.str) ∧ Tup H q (ls.map V.ref) ∧ Paired (LineT H) ls ps
theorem TblAt.same {H H' : Hp} {C a : Addr} {ms : List Str} {ps : List (List (Str × Str))} (h : TblAt H C a ms ps) (s : Same H H') : TblAt H' C a ms ps := by
  obtain ⟨dx, m, q, ls, h1, h2, h3, h4⟩ := h
  exact ⟨dx, m, q, ls, s _ _ h1, h2.same s, h3.same s, L2.Paired.mapP h4 fun _ _ t => t.same s⟩
theorem TblAt.sameX {H H' : Hp} {C a p c : Addr} {N : Nat} {ms : List Str} {ps : List (List (Str × Str))} (h : TblAt H C a ms ps) (s : SameX p H H') (P : PenAt H p c N) : TblAt H' C a ms ps := by
  obtain ⟨dx, m, q, ls, h1, h2, h3, h4⟩ := h
  exact ⟨dx, m, q, ls, s _ _ h1 (P.ne h1 fun _ => nofun), h2.sameX s P, h3.sameX s P, L2.Paired.mapP h4 fun _ _ t => t.sameX s P⟩
theorem prd_get {α β : Type} {F : α → β → Prop} : ∀ {as : List α} {bs : List β} {i : Nat} {a : α}, Paired F as bs → as[i]? = some a → ∃ b, bs[i]? = some b ∧ F a b
  | _, _, 0, _, .cons r _, h => ⟨_, rfl, (Option.some.inj h) ▸ r⟩
  | _, _, i + 1, _, .cons _ t, h => prd_get (i := i) t h
theorem prd_got {α β : Type} {F : α → β → Prop} : ∀ {as : List α} {bs : List β} {i : Nat} {b : β}, Paired F as bs → bs[i]? = some b → ∃ a, as[i]? = some a ∧ F a b
  | _, _, 0, _, .cons r _, h => ⟨_, rfl, (Option.some.inj h) ▸ r⟩
  | _, _, i + 1, _, .cons _ t, h => prd_got (i := i) t h
theorem map_getr {ts : List Addr} {i : Nat} {v : V} (h : (ts.map V.ref)[i]? = some v) : ∃ t, ts[i]? = some t ∧ v = .ref t := by
  rw [List.getElem?_map] at h
  cases e : ts[i]? with
  | none => rw [e] at h; cases h
  | some z => rw [e] at h; exact ⟨z, rfl, (Option.some.inj h).symm⟩
theorem at_str' {ns : List Str} {i : Nat} {z : Str} (h : ns[i]? = some z) : atI (ns.map V.str) (i : Int) = some (.str z) := atI_nat (by rw [List.getElem?_map, h]; rfl)
theorem at_ref' {ts : List Addr} {i : Nat} {t : Addr} (h : ts[i]? = some t) : atI (ts.map V.ref) (i : Int) = some (.ref t) := atI_nat (by rw [List.getElem?_map, h]; rfl)
/-- the class's facts -/
structure TabC (K : PySem.W.Frag) (mg : Str → Option Value) (C f : Addr) : Prop where
  cl : Cls K C
  make : Mk K C f
  mg : mg "Table" = some (.ref C)
  nM : NoAttr K C "_marks"
  nP : NoAttr K C "_pairs"
def HasM (P : Program) (w : World) (K : PySem.W.Frag) (mg : Str → Option Value) (base : Heap) (k : Nat) (C : Addr) (m : Str) (ps : List Str) (sp : Sp) : Prop :=
  ∃ (f : Addr) (fd : FuncData), FnOk P w K mg base CX0 k f fd ps sp ∧ Meth K C m f ∧ Binds K fd ps []
def HasI (P : Program) (w : World) (K : PySem.W.Frag) (mg : Str → Option Value) (base : Heap) (k : Nat) (C f : Addr) (ps : List Str) (sp : Sp) : Prop :=
  ∃ (fd : FuncData), FnOk P w K mg base CX0 k f fd ps sp ∧ Binds K fd ps []
end Lw
set_option Elab.async false
set_option maxRecDepth 100000
namespace Lw
open PySem PySem.Spec PyProof.Rows L2
def rTupIxS (K : PySem.W.Frag) : V → List V → Hp → VK → Prop := fun x xs H Q => ∃ (p : Addr) (ys : List Str) (z : Str) (j : Nat), x = .ref p ∧ xs = [.str z] ∧ SqT K H p (ys.map V.str) ∧ ys[j]? = some z ∧ (∀ m, m < j → ys[m]? ≠ some z) ∧ Q (.int (j : Nat)) H
theorem mt_tupIndexS0 {X : Cx} : MtR X "tuple.index" (rTupIxS X.K) := by
  intro pins s σ H x xs v us Q I rx rs h
  obtain ⟨p, ys, z, j, rfl, rfl, hq, hy, hno, q⟩ := h
  cases rx
  obtain ⟨u, rfl, t, rfl⟩ := vals1 rs
  obtain ⟨its, r, pl, hz⟩ := I.tuple hq
  obtain ⟨⟨cls, dd, dt, sl⟩, ho, hc, n, hd⟩ := pl
  simp only at hc hd
  subst hc
  subst hd
  have hl : its.toArray.size = ys.length := by
    rw [List.size_toArray, ← r.length, List.length_map]
  have hj : j < its.toArray.size := by
    rw [hl]
    exact (List.getElem?_eq_some_iff.mp hy).1
  have item : ∀ (m : Nat) (hm : m < its.toArray.size), ∃ y t', ys[m]? = some y ∧ its.toArray[m] = Value.str y t' := fun m hm => by
    have hm' : m < ys.length := hl ▸ hm
    obtain ⟨w, hw, t', hw'⟩ := r.get (i := m) (x := .str ys[m]) (by simp [hm'])
    have e := (List.getElem?_eq_some_iff.mp hw).2
    exact ⟨ys[m], t', List.getElem?_eq_getElem hm', by rw [← hw', ← e]; simp⟩
  have eqi : ∀ (y : Str) (t' : Tok), eqU (.str z) (Value.str y t') = decide (y = z) := fun y t' => by
    have e := eqU_of (x := .str z) (y := .str y) (u := Value.str y t') ⟨t', rfl⟩ rfl
    rw [e]
    simp only [eqV]
    by_cases h : y = z <;> simp [h]
  refine call_meets PySem.F.slot_tuple_index ⟨_, ho, rfl⟩ PySem.F.entry_tuple_index (PySem.F.args_tuple_index_2 _ _)
    (TI.tuple_indexAt p its.toArray n dd sl (.str z t) (eqU (.str z)) j hj ?_ fun m hm hmj => ?_) ⟨ho, fun w hw => mem_eqAt (x := .str z) ⟨t, rfl⟩ rfl r (flatS ys) w (by simpa using hw), ⟨.int (j : Nat), H, I.tok _, ⟨_, rfl⟩, q⟩⟩
  · obtain ⟨y, t', h1, h2⟩ := item j hj
    rw [hy] at h1
    cases h1
    rw [h2, eqi]
    exact decide_eq_true rfl
  · obtain ⟨y, t', h1, h2⟩ := item m hm
    rw [h2, eqi]
    exact decide_eq_false fun e => hno m hmj (e ▸ h1)


theorem mt_tupIndexS {X : Cx} {K : PySem.W.Frag} (h : X.K = K) : MtR X "tuple.index" (rTupIxS K) := h ▸ mt_tupIndexS0
end Lw
set_option Elab.async false
set_option maxRecDepth 100000
/-! What a table does to a row. -/
namespace Lw
open PySem L2
theorem pi_listK {X : Cx} {K : PySem.W.Frag} {tg l : Expr} {tl : TE} (h : X.K = K) (hl : PE X l tl) : PI X tg l (iList K tl) := h ▸ pi_list hl
theorem pi_tupK {X : Cx} {K : PySem.W.Frag} {tg l : Expr} {tl : TE} (h : X.K = K) (hl : PE X l tl) : PI X tg l (iTup K tl) := h ▸ pi_tup hl
theorem pe_fldK {X : Cx} {K : PySem.W.Frag} {e : Expr} {f : Str} {pos : Pos} {ta : TE} (h : X.K = K) (ha : PE X e ta) (hb : attributeBase e f X.env (eval e X.env) = eval e X.env) : PE X (e.Attribute f pos) (tFld K ta f) := h ▸ pe_fld ha hb
theorem cutT {xs : List V} {k : Nat} (h : k ≤ xs.length) : cutV xs none (some (k : Int)) = xs.take k := by
  unfold cutV
  rw [HT.sIx_none, sIx_nat' _ _ k h]
  simp
theorem cutD {xs : List V} {k : Nat} (h : k ≤ xs.length) : cutV xs (some (k : Int)) none = xs.drop k := by
  unfold cutV
  rw [HT.sIx_none, sIx_nat' _ _ k h]
  rw [List.take_of_length_le (by rw [List.length_drop]; omega)]
def FullLine (ms : List Str) (ps : List (Str × Str)) : Prop := ps.length = ms.length ∧ ∀ p ∈ ps, p.1 ∈ ms ∧ p.2 ∈ ms
def FullPairs (ms : List Str) (pss : List (List (Str × Str))) : Prop := pss.length = ms.length ∧ ∀ ps ∈ pss, FullLine ms ps
theorem FullPairs.at (h : FullPairs ms pss) {x y : Str} (hx : x ∈ ms) (hy : y ∈ ms) : ∃ ps p, pss[ms.idxOf x]? = some ps ∧ ps[ms.idxOf y]? = some p ∧ p.1 ∈ ms ∧ p.2 ∈ ms := by
  have hi := List.idxOf_lt_length_of_mem hx
  have hj := List.idxOf_lt_length_of_mem hy
  have h1 : ms.idxOf x < pss.length := by rw [h.1]; exact hi
  have fl := h.2 _ (List.getElem_mem h1)
  have h2 : ms.idxOf y < (pss[ms.idxOf x]).length := by rw [fl.1]; exact hj
  exact ⟨_, _, List.getElem?_eq_getElem h1, List.getElem?_eq_getElem h2, (fl.2 _ (List.getElem_mem h2)).1, (fl.2 _ (List.getElem_mem h2)).2⟩
/-- x and y pass -/
def passOf (ms : List Str) (pss : List (List (Str × Str))) (x y : Str) : Str × Str := (pss.getD (ms.idxOf x) []).getD (ms.idxOf y) (x, y)
theorem passOf_eq {ms : List Str} {pss : List (List (Str × Str))} {x y : Str} {ps : List (Str × Str)} {p : Str × Str} (h1 : pss[ms.idxOf x]? = some ps) (h2 : ps[ms.idxOf y]? = some p) : passOf ms pss x y = p := by
  unfold passOf
  have e : pss.getD (ms.idxOf x) [] = ps := by rw [List.getD_eq_getElem?_getD, h1]; rfl
  rw [e, List.getD_eq_getElem?_getD, h2]
  rfl
/-- the row after the pass at place j -/
def stepRow (ms : List Str) (pss : List (List (Str × Str))) (row : List Str) (j : Nat) : List Str :=
  let p := passOf ms pss (row.getD j Str.empty) (row.getD (j + 1) Str.empty)
  row.take j ++ [p.1, p.2] ++ row.drop (j + 2)
theorem stepRow_len {ms : List Str} {pss : List (List (Str × Str))} {row : List Str} {j : Nat} (h : j + 1 < row.length) : (stepRow ms pss row j).length = row.length := by
  unfold stepRow
  simp only [List.length_append, List.length_take, List.length_cons, List.length_nil, List.length_drop]
  omega
theorem getDs {l : List Str} {k : Nat} {a : Str} (h : l[k]? = some a) : l.getD k Str.empty = a := by rw [List.getD_eq_getElem?_getD, h]; rfl
theorem stepRow_in {ms : List Str} {pss : List (List (Str × Str))} {row : List Str} {j : Nat} (hf : FullPairs ms pss) (hm : ∀ z ∈ row, z ∈ ms) (h : j + 1 < row.length) : ∀ z ∈ stepRow ms pss row j, z ∈ ms := by
  have hx : row[j]? = some row[j] := List.getElem?_eq_getElem (by omega)
  have hy : row[j + 1]? = some row[j + 1] := List.getElem?_eq_getElem h
  obtain ⟨ps, p, h1, h2, p1, p2⟩ := hf.at (hm _ (List.mem_of_getElem? hx)) (hm _ (List.mem_of_getElem? hy))
  intro z hz
  unfold stepRow at hz
  rw [getDs hx, getDs hy, passOf_eq h1 h2] at hz
  simp only [List.mem_append, List.mem_cons, List.not_mem_nil, or_false] at hz
  rcases hz with (hz | hz | hz) | hz
  · exact hm z (List.mem_of_mem_take hz)
  · exact hz ▸ p1
  · exact hz ▸ p2
  · exact hm z (List.mem_of_mem_drop hz)
/-- the row behind a word -/
def rowRun (ms : List Str) (pss : List (List (Str × Str))) (row : List Str) (ws : List Int) : List Str := ws.foldl (fun r k => stepRow ms pss r k.toNat) row
theorem rowRun_snoc (ms : List Str) (pss : List (List (Str × Str))) (row : List Str) (ws : List Int) (k : Int) : rowRun ms pss row (ws ++ [k]) = stepRow ms pss (rowRun ms pss row ws) k.toNat := by
  unfold rowRun
  rw [List.foldl_append]
  rfl
theorem rowRun_ok {ms : List Str} {pss : List (List (Str × Str))} {n : Nat} (hf : FullPairs ms pss) : ∀ (ws : List Int) (row : List Str), row.length = n → (∀ z ∈ row, z ∈ ms) → OkW n ws → (rowRun ms pss row ws).length = n ∧ ∀ z ∈ rowRun ms pss row ws, z ∈ ms
  | [], row, hl, hm, _ => ⟨hl, hm⟩
  | k :: ws, row, hl, hm, hw => by
    have hk := hw k (by simp)
    have hj : k.toNat + 1 < row.length := by omega
    exact rowRun_ok hf ws (stepRow ms pss row k.toNat) (by rw [stepRow_len hj, hl]) (stepRow_in hf hm hj) fun x hx => hw x (by simp [hx])
theorem LineT.upd {H : Hp} {l b : Addr} {ps : List (Str × Str)} {xs : List V} {o : HO} (h : LineT H l ps) (hb : H b = some (.lst xs)) : LineT (upd H b o) l ps := by
  obtain ⟨ts, h1, h2⟩ := h
  exact ⟨ts, h1.upd (h1.ne hb fun _ _ => nofun), L2.Paired.mapP h2 fun _ _ t => t.upd (t.ne hb fun _ _ => nofun)⟩
theorem LineT.updI {H : Hp} {l b C dx : Addr} {ps : List (Str × Str)} {fs : List (Str × V)} {o : HO} (h : LineT H l ps) (hb : H b = some (.ins C dx fs)) : LineT (L2.upd H b o) l ps := by
  obtain ⟨ts, h1, h2⟩ := h
  exact ⟨ts, h1.upd (h1.ne hb fun _ _ => nofun), L2.Paired.mapP h2 fun _ _ t => t.upd (t.ne hb fun _ _ => nofun)⟩
theorem paired_take {α β : Type} {F : α → β → Prop} : ∀ {as : List α} {bs : List β}, Paired F as bs → as.length = bs.length := fun h => h.length
end Lw
set_option Elab.async false
set_option maxRecDepth 100000
/-! Names of small letters. -/
namespace Lw
open PySem L2
abbrev one (c : Nat) : Str := ⟨#[c]⟩
abbrev AZ : Str := Str.ofString "abcdefghijklmnopqrstuvwxyz"
theorem az_at : ∀ k : Fin 26, AZ.cps.toList[k.val]? = some (97 + k.val) := by decide +kernel
theorem az_low : ∀ c ∈ AZ.cps.toList, 97 ≤ c ∧ c < 123 := by decide +kernel
theorem az_len : AZ.length = 26 := by decide +kernel
theorem az_get {r : Int} (h0 : 0 ≤ r) (h1 : r < 26) : atI AZ.cps.toList r = some (97 + r.toNat) := by
  obtain ⟨j, rfl⟩ := Int.eq_ofNat_of_zero_le h0
  exact atI_nat (az_at ⟨j, by omega⟩)
theorem len_list' (z : Str) : z.length = z.cps.toList.length := by simp [Str.length]
theorem joined_ones (cs : List Nat) : (Txt.join (Str.ofString "") (cs.map one)).cps.toList = cs := by
  have e0 : (Str.ofString "").cps.toList = [] := by decide +kernel
  rw [TL.join_eq]
  have := TL.tl_join (Str.ofString "") (cs.map one)
  refine this.trans ?_
  show TL.joinL (Str.ofString "").cps.toList _ = cs
  rw [e0, List.map_map]
  clear this
  induction cs with
  | nil => rfl
  | cons a cs ih =>
    cases cs with
    | nil => rfl
    | cons b cs =>
      show [a] ++ ([] ++ TL.joinL [] ((b :: cs).map _)) = a :: b :: cs
      rw [ih]
      rfl
theorem cutS_list (z : Str) (lo hi : Option Int) : (cutS z lo hi).cps.toList = (z.cps.toList.drop (HT.sIx z.length 0 lo)).take (HT.sIx z.length z.length hi - HT.sIx z.length 0 lo) := by
  unfold cutS
  simp
theorem cutS_mem {z : Str} {lo hi : Option Int} {c : Nat} (h : c ∈ (cutS z lo hi).cps.toList) : c ∈ z.cps.toList := by
  rw [cutS_list] at h
  exact List.mem_of_mem_drop (List.mem_of_mem_take h)
theorem cutS_le (z : Str) (lo hi : Option Int) : (cutS z lo hi).length ≤ z.length - HT.sIx z.length 0 lo := by
  rw [len_list', cutS_list, len_list' z, List.length_take, List.length_drop]
  omega
theorem cutS_to {z : Str} {k : Nat} (h : k ≤ z.length) : (cutS z none (some (k : Int))).cps.toList = z.cps.toList.take k := by
  rw [cutS_list, HT.sIx_none, sIx_nat' _ _ k h]
  simp
theorem cutS_from_len {z : Str} {k : Nat} (h : k ≤ z.length) : (cutS z (some (k : Int)) none).length ≤ z.length - k := by
  have := cutS_le z (some (k : Int)) none
  rwa [sIx_nat' _ _ k h] at this
/-- a name: a stem whose letter at one place is another, its end cut -/
theorem name_is {stem A T : Str} {c at' : Nat} (h1 : at' + 1 ≤ stem.length) (h8 : stem.length ≤ 8) (low : ∀ c ∈ stem.cps.toList, Low c) (hA : A.cps.toList = stem.cps.toList.take at') (hT : ∀ c ∈ T.cps.toList, c ∈ stem.cps.toList) (hTl : T.length ≤ stem.length - (at' + 1)) (hc : Low c) :
    IsName (A ++ one c ++ T) := by
  have e : (A ++ one c ++ T).cps.toList = stem.cps.toList.take at' ++ [c] ++ T.cps.toList := by
    rw [Str.cps_append, Str.cps_append, Array.toList_append, Array.toList_append, hA]
  have hs := len_list' stem
  have ht := len_list' T
  have el : (A ++ one c ++ T).length = at' + 1 + T.length := by
    rw [len_list', e, List.length_append, List.length_append, List.length_take, List.length_singleton, ← ht, ← hs]
    omega
  refine ⟨by omega, by omega, fun d hd => ?_⟩
  rw [e, List.mem_append, List.mem_append] at hd
  rcases hd with (hd | hd) | hd
  · exact low d (List.mem_of_mem_take hd)
  · exact List.mem_singleton.mp hd ▸ hc
  · exact low d (hT d hd)
theorem name_ne {A T U : Str} {c d : Nat} (h : A ++ one c ++ T = A ++ one d ++ U) : c = d := by
  have e : ∀ (c : Nat) (T : Str), (A ++ one c ++ T).cps.toList[A.cps.toList.length]? = some c := by
    intro c T
    rw [Str.cps_append, Str.cps_append, Array.toList_append, Array.toList_append]
    simp
  have := e c T
  rw [h, e d U] at this
  exact (Option.some.inj this).symm
theorem steps_differ {b s i j : Int} (hs : s ∈ [(1 : Int), 3, 5, 7, 9, 11, 15, 17, 19, 21, 23, 25]) (hi : 0 ≤ i ∧ i < 6) (hj : 0 ≤ j ∧ j < 6) (h : (b + s * i) % 26 = (b + s * j) % 26) : i = j := by
  simp only [List.mem_cons, List.not_mem_nil, or_false] at hs
  rcases hs with rfl | rfl | rfl | rfl | rfl | rfl | rfl | rfl | rfl | rfl | rfl | rfl <;> omega
end Lw
set_option Elab.async false
set_option maxRecDepth 100000
/-! The table in which all just exchange. -/
namespace Lw
open PySem L2
def exch (ms : List Str) : List (List (Str × Str)) := ms.map fun mark => ms.map fun other => (other, mark)
theorem exch_full (ms : List Str) : FullPairs ms (exch ms) := by
  refine ⟨List.length_map .., fun ps hps => ?_⟩
  obtain ⟨mark, hm, rfl⟩ := List.mem_map.mp hps
  refine ⟨List.length_map .., fun p hp => ?_⟩
  obtain ⟨other, ho, rfl⟩ := List.mem_map.mp hp
  exact ⟨ho, hm⟩
theorem exch_pass {ms : List Str} {x y : Str} (hx : x ∈ ms) (hy : y ∈ ms) : passOf ms (exch ms) x y = (y, x) := by
  have hi := List.idxOf_lt_length_of_mem hx
  have hj := List.idxOf_lt_length_of_mem hy
  have e1 : (exch ms)[ms.idxOf x]? = some (ms.map fun other => (other, x)) := by
    unfold exch
    rw [List.getElem?_map, List.getElem?_eq_getElem hi, List.getElem_idxOf]
    rfl
  have e2 : (ms.map fun other => (other, x))[ms.idxOf y]? = some (y, x) := by
    rw [List.getElem?_map, List.getElem?_eq_getElem hj, List.getElem_idxOf]
    rfl
  exact passOf_eq e1 e2
/-- runners go where their order says -/
theorem exch_run {ms row : List Str} {n : Nat} (hl : row.length = n) (hm : ∀ z ∈ row, z ∈ ms) (ws : List Int) (hw : OkW n ws) : rowRun ms (exch ms) row ws = (run (idl n) ws).map fun r => row.getD r.toNat Str.empty := by
  have key : ∀ i, i ≤ ws.length → rowRun ms (exch ms) row (ws.take i) = (run (idl n) (ws.take i)).map fun r => row.getD r.toNat Str.empty := by
    intro i
    induction i with
    | zero =>
      intro _
      rw [List.take_zero, run_nil]
      show row = _
      refine List.ext_getElem? fun k => ?_
      rw [List.getElem?_map]
      by_cases hk : k < n
      · rw [idl_get hk]
        show row[k]? = some (row.getD ((k : Int)).toNat Str.empty)
        rw [Int.toNat_natCast, List.getD_eq_getElem?_getD, List.getElem?_eq_getElem (by omega)]
        rfl
      · rw [List.getElem?_eq_none (by omega), List.getElem?_eq_none (by rw [idl_len]; omega)]
        rfl
    | succ i ih =>
      intro hi
      have ih := ih (by omega)
      have hz : ws[i]? = some ws[i] := List.getElem?_eq_getElem (by omega)
      have bz := hw _ (List.getElem_mem (by omega : i < ws.length))
      obtain ⟨j, hj⟩ := Int.eq_ofNat_of_zero_le bz.1
      have et : ws.take (i + 1) = ws.take i ++ [(j : Int)] := by rw [List.take_add_one, hz, hj]; rfl
      obtain ⟨rl, rm⟩ := rowRun_ok (exch_full ms) (ws.take i) row hl hm fun x hx => hw x (List.mem_of_mem_take hx)
      have hlen : (run (idl n) (ws.take i)).length = n := by rw [run_len, idl_len]
      have ho := ord_run n (ws.take i)
      obtain ⟨p, hp⟩ : ∃ p, (run (idl n) (ws.take i))[j]? = some p := ⟨_, List.getElem?_eq_getElem (by omega)⟩
      obtain ⟨q, hq⟩ : ∃ q, (run (idl n) (ws.take i))[j + 1]? = some q := ⟨_, List.getElem?_eq_getElem (by omega)⟩
      rw [et, rowRun_snoc, run_snoc, Int.toNat_natCast, ← sw_cut hp hq]
      unfold stepRow
      have hx : (rowRun ms (exch ms) row (ws.take i))[j]? = some (row.getD p.toNat Str.empty) := by rw [ih, List.getElem?_map, hp]; rfl
      have hy : (rowRun ms (exch ms) row (ws.take i))[j + 1]? = some (row.getD q.toNat Str.empty) := by rw [ih, List.getElem?_map, hq]; rfl
      rw [getDs hx, getDs hy, exch_pass (rm _ (List.mem_of_getElem? hx)) (rm _ (List.mem_of_getElem? hy)), ih, List.map_append, List.map_cons, List.map_cons, List.map_take, List.map_drop]
      simp
  have := key ws.length (Nat.le_refl _)
  rwa [List.take_length] at this
theorem LineL.upd {H : Hp} {l b : Addr} {ps : List (Str × Str)} {xs : List V} {o : HO} (h : LineL H l ps) (n : l ≠ b) (hb : H b = some (.lst xs)) : LineL (L2.upd H b o) l ps := by
  obtain ⟨ts, h1, h2⟩ := h
  exact ⟨ts, by rw [upd_ne n]; exact h1, L2.Paired.mapP h2 fun _ _ t => t.upd (t.ne hb fun _ _ => nofun)⟩
/-! tuples of texts, compared -/
abbrev dS (ns : List Str) : List PyData := ns.map PyData.str
theorem dp_strs {K : PySem.W.Frag} {H : Hp} : ∀ ns : List Str, DpAll K H (ns.map V.str) (dS ns)
  | [] => .nil
  | n :: ns => .cons (.str n) (dp_strs ns)
theorem dp_tupS {K : PySem.W.Frag} {H : Hp} {a : Addr} {ns : List Str} (h : Tup H a (ns.map V.str)) : Dp K H (.ref a) (.tuple (dS ns)) := .tup h.t (dp_strs ns)
theorem depthS : ∀ ns : List Str, PyData.depthAll (dS ns) = 0
  | [] => rfl
  | n :: ns => by
    have := depthS ns
    simp only [dS, List.map_cons, PyData.depthAll, PyData.depth]
    simp [dS] at this
    omega
theorem name_ok {z : Str} (h : ∀ c ∈ z.cps.toList, Low c) : PyData.strOk z = true := by
  unfold PyData.strOk
  rw [← Array.all_toList, List.all_eq_true]
  intro c hc
  have := h c hc
  exact decide_eq_true (by unfold Low at this; omega)
theorem layS : ∀ ns : List Str, (∀ z ∈ ns, PyData.strOk z = true) → PyData.canLayAll0 (dS ns) = true
  | [], _ => by simp [PyData.canLayAll0]
  | n :: ns, h => by
    have := layS ns fun z hz => h z (by simp [hz])
    simp only [dS] at this
    simp [PyData.canLayAll0, PyData.canLay0, this, h n (by simp)]
theorem shaped_tupS (ns : List Str) (h : ∀ z ∈ ns, PyData.strOk z = true) : SeqAt.shaped (.tuple (dS ns)) = true := by
  have h1 := depthS ns
  have h2 := layS ns h
  simp only [dS] at h1 h2
  simp [SeqAt.shaped, PyData.canLay0, h2, PyData.depth, h1]
theorem eqv_refl_tupS (ns : List Str) : (!PyData.eqv (.tuple (dS ns)) (.tuple (dS ns))) = false := by
  have : ∀ ns : List Str, PyData.eqvAll (dS ns) (dS ns) = true := by
    intro ns
    induction ns with
    | nil => simp [PyData.eqvAll]
    | cons n ns ih =>
      simp only [dS] at ih
      simp [PyData.eqvAll, PyData.eqv, ih]
  have h := this ns
  simp only [dS] at h
  simp [PyData.eqv, h]
end Lw
set_option Elab.async false
set_option maxRecDepth 100000
/-! Squares of pairs of small ints, as lists of lists of tuples. -/
namespace Lw
open PySem L2
theorem mt_indexK {X : Cx} {K : PySem.W.Frag} (h : X.K = K) : MtR X "list.index" (rIndex K) := h ▸ mt_index
theorem cr_sumK {X : Cx} {K : PySem.W.Frag} (h : X.K = K) (hc : X.calm = true) : CallR X (.builtin "sum") (rSum K) := h ▸ cr_sum hc
def CellOk (m : Nat) (p : Int × Int) : Prop := 0 ≤ p.1 ∧ p.1 < m ∧ 0 ≤ p.2 ∧ p.2 < m
def LnOk (m : Nat) (ps : List (Int × Int)) : Prop := ps.length = m ∧ ∀ p ∈ ps, CellOk m p
def GridOk (m : Nat) (pss : List (List (Int × Int))) : Prop := pss.length = m ∧ ∀ ps ∈ pss, LnOk m ps
def GridI (H : Hp) (g : Addr) (pss : List (List (Int × Int))) : Prop := ∃ rs : List Addr, H g = some (.lst (rs.map V.ref)) ∧ Paired (PairsAt H) rs pss
theorem GridI.same {H H' : Hp} {g : Addr} {pss : List (List (Int × Int))} (h : GridI H g pss) (s : Same H H') : GridI H' g pss := by
  obtain ⟨rs, h1, h2⟩ := h
  exact ⟨rs, s _ _ h1, L2.Paired.mapP h2 fun _ _ t => t.same s⟩
theorem PairsAt.sameX {H H' : Hp} {M p c : Addr} {N : Nat} {ps : List (Int × Int)} (h : PairsAt H M ps) (s : SameX p H H') (P : PenAt H p c N) : PairsAt H' M ps := by
  obtain ⟨ts, h1, h2⟩ := h
  exact ⟨ts, s.lst P h1, L2.Paired.mapP h2 fun _ _ t => t.sameX s P⟩
theorem GridI.sameX {H H' : Hp} {g p c : Addr} {N : Nat} {pss : List (List (Int × Int))} (h : GridI H g pss) (s : SameX p H H') (P : PenAt H p c N) : GridI H' g pss := by
  obtain ⟨rs, h1, h2⟩ := h
  exact ⟨rs, s.lst P h1, L2.Paired.mapP h2 fun _ _ t => t.sameX s P⟩
theorem grid_row {H : Hp} {g : Addr} {m : Nat} {pss : List (List (Int × Int))} (h : GridI H g pss) (ok : GridOk m pss) {x : Int} (hx : 0 ≤ x ∧ x < m) :
    ∃ (rs : List Addr) (r : Addr) (ps : List (Int × Int)), H g = some (.lst (rs.map V.ref)) ∧ atI (rs.map V.ref) x = some (.ref r) ∧ PairsAt H r ps ∧ LnOk m ps := by
  obtain ⟨rs, h1, h2⟩ := h
  obtain ⟨j, rfl⟩ := Int.eq_ofNat_of_zero_le hx.1
  have hl : rs.length = m := by rw [h2.length, ok.1]
  have hr : rs[j]? = some rs[j] := List.getElem?_eq_getElem (by omega)
  obtain ⟨ps, hp, hpa⟩ := prd_get h2 hr
  exact ⟨rs, _, ps, h1, atI_nat (by rw [List.getElem?_map, hr]; rfl), hpa, ok.2 ps (List.mem_of_getElem? hp)⟩
theorem line_at {H : Hp} {r : Addr} {m : Nat} {ps : List (Int × Int)} (h : PairsAt H r ps) (ok : LnOk m ps) {y : Int} (hy : 0 ≤ y ∧ y < m) :
    ∃ (ts : List Addr) (t : Addr) (p : Int × Int), H r = some (.lst (ts.map V.ref)) ∧ atI (ts.map V.ref) y = some (.ref t) ∧ PairT H t p ∧ CellOk m p := by
  obtain ⟨ts, h1, h2⟩ := h
  obtain ⟨j, rfl⟩ := Int.eq_ofNat_of_zero_le hy.1
  have hl : ts.length = m := by rw [h2.length, ok.1]
  have hr : ts[j]? = some ts[j] := List.getElem?_eq_getElem (by omega)
  obtain ⟨p, hp, hpa⟩ := prd_get h2 hr
  exact ⟨ts, _, p, h1, atI_nat (by rw [List.getElem?_map, hr]; rfl), hpa, ok.2 p (List.mem_of_getElem? hp)⟩
theorem grid_at {H : Hp} {g : Addr} {m : Nat} {pss : List (List (Int × Int))} (h : GridI H g pss) (ok : GridOk m pss) {x y : Int} (hx : 0 ≤ x ∧ x < m) (hy : 0 ≤ y ∧ y < m) :
    ∃ (rs : List Addr) (r : Addr) (ts : List Addr) (t : Addr) (p : Int × Int), H g = some (.lst (rs.map V.ref)) ∧ atI (rs.map V.ref) x = some (.ref r) ∧ H r = some (.lst (ts.map V.ref)) ∧ atI (ts.map V.ref) y = some (.ref t) ∧ PairT H t p ∧ CellOk m p := by
  obtain ⟨rs, r, ps, h1, h2, h3, h4⟩ := grid_row h ok hx
  obtain ⟨ts, t, p, h5, h6, h7, h8⟩ := line_at h3 h4 hy
  exact ⟨rs, r, ts, t, p, h1, h2, h5, h6, h7, h8⟩
/-- what is built so far of a square: lines done, at other places than D -/
def Rows (m : Nat) (H : Hp) (D : Addr) (i : Nat) : Prop := ∃ (rs : List Addr) (pss : List (List (Int × Int))), H D = some (.lst (rs.map V.ref)) ∧ Paired (fun r ps => PairsAt H r ps ∧ r ≠ D) rs pss ∧ pss.length = i ∧ ∀ ps ∈ pss, LnOk m ps
theorem Rows.new {m : Nat} {H : Hp} {D : Addr} : Rows m (upd H D (.lst [])) D 0 := ⟨[], [], upd_same, .nil, rfl, fun _ h => by cases h⟩
theorem Rows.same {m i : Nat} {H H' : Hp} {D : Addr} (h : Rows m H D i) (s : Same H H') : Rows m H' D i := by
  obtain ⟨rs, pss, h1, h2, h3, h4⟩ := h
  exact ⟨rs, pss, s _ _ h1, L2.Paired.mapP h2 fun _ _ t => ⟨t.1.same s, t.2⟩, h3, h4⟩
theorem Rows.sameX {m i N : Nat} {H H' : Hp} {D p c : Addr} (h : Rows m H D i) (s : SameX p H H') (P : PenAt H p c N) : Rows m H' D i := by
  obtain ⟨rs, pss, h1, h2, h3, h4⟩ := h
  exact ⟨rs, pss, s.lst P h1, L2.Paired.mapP h2 fun _ _ t => ⟨t.1.sameX s P, t.2⟩, h3, h4⟩
theorem Rows.push {m i : Nat} {H : Hp} {D r : Addr} {ps : List (Int × Int)} (h : Rows m H D i) (hi : i < 100) (hr : PairsAt H r ps) (n : r ≠ D) (ok : LnOk m ps) :
    ∃ acc, H D = some (.lst acc) ∧ acc.length < sizeLine ∧ Rows m (upd H D (.lst (acc ++ [.ref r]))) D (i + 1) := by
  obtain ⟨rs, pss, h1, h2, h3, h4⟩ := h
  refine ⟨_, h1, ?_, rs ++ [r], pss ++ [ps], ?_, ?_, ?_, ?_⟩
  · rw [List.length_map, h2.length, h3]
    exact small_lt (by omega)
  · rw [upd_same, List.map_append]
    rfl
  · exact Paired.snoc (L2.Paired.mapP h2 fun _ _ t => ⟨t.1.upd t.2 h1, t.2⟩) ⟨hr.upd n h1, n⟩
  · rw [List.length_append, h3]
    rfl
  · intro q hq
    rcases List.mem_append.mp hq with hq | hq
    · exact h4 q hq
    · exact List.mem_singleton.mp hq ▸ ok
theorem Rows.done {m : Nat} {H : Hp} {D : Addr} (h : Rows m H D m) : ∃ pss, GridI H D pss ∧ GridOk m pss := by
  obtain ⟨rs, pss, h1, h2, h3, h4⟩ := h
  exact ⟨pss, ⟨rs, h1, L2.Paired.mapP h2 fun _ _ t => t.1⟩, h3, h4⟩
/-- what is built so far of a line -/
def Cells (m : Nat) (H : Hp) (D : Addr) (i : Nat) : Prop := ∃ ps, PairsAt H D ps ∧ ps.length = i ∧ ∀ p ∈ ps, CellOk m p
theorem Cells.new {m : Nat} {H : Hp} {D : Addr} : Cells m (upd H D (.lst [])) D 0 := ⟨[], .new upd_same, rfl, fun _ h => by cases h⟩
theorem Cells.same {m i : Nat} {H H' : Hp} {D : Addr} (h : Cells m H D i) (s : Same H H') : Cells m H' D i := by
  obtain ⟨ps, h1, h2⟩ := h
  exact ⟨ps, h1.same s, h2⟩
theorem Cells.sameX {m i N : Nat} {H H' : Hp} {D p c : Addr} (h : Cells m H D i) (s : SameX p H H') (P : PenAt H p c N) : Cells m H' D i := by
  obtain ⟨ps, h1, h2⟩ := h
  exact ⟨ps, h1.sameX s P, h2⟩
theorem Cells.push {m i : Nat} {H : Hp} {D t : Addr} {a b : Int} (h : Cells m H D i) (hi : i < 100) (ht : Tup H t [V.int a, V.int b]) (ok : CellOk m (a, b)) :
    ∃ acc, H D = some (.lst acc) ∧ acc.length < sizeLine ∧ Cells m (upd H D (.lst (acc ++ [.ref t]))) D (i + 1) := by
  obtain ⟨ps, ⟨ts, h1, h2⟩, h3, h4⟩ := h
  refine ⟨_, h1, ?_, ps ++ [(a, b)], PairsAt.push (p := (a, b)) h1 h2 ht, ?_, ?_⟩
  · rw [List.length_map, h2.length, h3]
    exact small_lt (by omega)
  · rw [List.length_append, h3]
    rfl
  · intro q hq
    rcases List.mem_append.mp hq with hq | hq
    · exact h4 q hq
    · exact List.mem_singleton.mp hq ▸ ok
theorem Cells.done {m : Nat} {H : Hp} {D : Addr} (h : Cells m H D m) : ∃ ps, PairsAt H D ps ∧ LnOk m ps := by
  obtain ⟨ps, h1, h2, h3⟩ := h
  exact ⟨ps, h1, h2, h3⟩
theorem Cells.at {m i : Nat} {H : Hp} {D : Addr} (h : Cells m H D i) : ∃ xs, H D = some (.lst xs) := by
  obtain ⟨ps, ⟨ts, h1, _⟩, _⟩ := h
  exact ⟨_, h1⟩
theorem Rows.at {m i : Nat} {H : Hp} {D : Addr} (h : Rows m H D i) : ∃ xs, H D = some (.lst xs) := by
  obtain ⟨rs, pss, h1, _⟩ := h
  exact ⟨_, h1⟩
end Lw
set_option Elab.async false
set_option maxRecDepth 100000
set_option linter.unusedVariables false
/-! A layer of plain functions over the hand layer: values as data, the heap out of sight. -/
namespace Fx
open PySem L2 Lw

/-- values as data; mut: a list that only one name, or nothing yet, holds -/
inductive D where
  | non | bl (b : Bool) | int (i : Int) | str (x : Str)
  | tup (ds : List D) | lst (ds : List D) | own (ds : List D)
  | wtup (ds : List D) | pen | scr (n : Nat) | tbl (ms : List Str) (pss : List (List (Str × Str)))
  | dct (kvs : List (Key × D))
  | exc (n : Str) (fs : List (Str × D))
/-- an exception: its class, its fields -/
structure Xn where
  cls : Str
  fs : List (Str × D)
/-- the pen -/
structure Pn where
  cells : List Int
  spot : Int
  more : Int
abbrev Env := List (Option D)
abbrev M (α : Type) := Pn → Option (Except Xn α × Pn)
abbrev Ex := Env → M D
abbrev Fn := List D → M D
def M.ret {α : Type} (a : α) : M α := fun π => some (.ok a, π)
def M.bind {α β : Type} (m : M α) (k : α → M β) : M β := fun π => match m π with
  | none => none
  | some (.error x, π') => some (.error x, π')
  | some (.ok a, π') => k a π'
def M.lift {α : Type} (o : Option α) : M α := fun π => match o with
  | none => none
  | some a => some (.ok a, π)
def M.raise {α : Type} (x : Xn) : M α := fun π => some (.error x, π)
@[simp] theorem ret_bind {α β : Type} (a : α) (k : α → M β) : (M.ret a).bind k = k a := rfl
@[simp] theorem lift_some {α : Type} (a : α) : (M.lift (some a) : M α) = M.ret a := rfl
@[simp] theorem raise_bind {α β : Type} (x : Xn) (k : α → M β) : (M.raise x : M α).bind k = M.raise x := rfl
theorem bind_assoc {α β γ : Type} (m : M α) (k : α → M β) (l : β → M γ) : (m.bind k).bind l = m.bind fun a => (k a).bind l := by
  funext π
  unfold M.bind
  cases m π with
  | none => rfl
  | some r =>
    obtain ⟨e, π'⟩ := r
    cases e with
    | error x => rfl
    | ok a => rfl
/-- what comes out -/
def RM {α : Type} (r : Option (Except Xn α × Pn)) (ok : α → Pn → Prop) (er : Xn → Pn → Prop) : Prop :=
  match r with
  | none => False
  | some (.error x, π) => er x π
  | some (.ok a, π) => ok a π
theorem RM_bind {α β : Type} {m : M α} {k : α → M β} {π : Pn} {ok : β → Pn → Prop} {er : Xn → Pn → Prop} : RM (m.bind k π) ok er ↔ RM (m π) (fun a π' => RM (k a π') ok er) er := by
  unfold M.bind
  cases m π with
  | none => exact Iff.rfl
  | some r =>
    obtain ⟨e, π'⟩ := r
    cases e with
    | error x => exact Iff.rfl
    | ok a => exact Iff.rfl
theorem RM.imp {α : Type} {r : Option (Except Xn α × Pn)} {ok ok' : α → Pn → Prop} {er er' : Xn → Pn → Prop} (h : RM r ok er) (h1 : ∀ a π, ok a π → ok' a π) (h2 : ∀ x π, er x π → er' x π) : RM r ok' er' := by
  unfold RM at h ⊢
  split at h
  · exact h
  · exact h2 _ _ h
  · exact h1 _ _ h
theorem RM_lift {α : Type} {o : Option α} {π : Pn} {ok : α → Pn → Prop} {er : Xn → Pn → Prop} : RM (M.lift o π) ok er ↔ ∃ a, o = some a ∧ ok a π := by
  unfold M.lift
  cases o with
  | none => exact ⟨fun h => h.elim, fun ⟨_, h, _⟩ => nomatch h⟩
  | some a => exact ⟨fun h => ⟨a, rfl, h⟩, fun ⟨b, h, q⟩ => by cases h; exact q⟩

/-! ### data in the heap -/
structure Rc where
  K : PySem.W.Frag
  C : Addr
  pen : Option (Addr × Addr)
/-- what never changes -/
def Fz : HO → Prop
  | .frz _ _ => True
  | .ins _ _ _ => True
  | .tup _ => True
  | .own _ => True
  | .xd _ => True
  | _ => False
def Kp (H H' : Hp) : Prop := ∀ b o, H b = some o → Fz o → H' b = some o
/-- all but the pen is as it was -/
def Stp (c : Rc) (H H' : Hp) : Prop := (∀ b o, H b = some o → (∀ q, c.pen = some q → b ≠ q.1) → H' b = some o) ∧ Kp H H'
theorem Kp.refl (H : Hp) : Kp H H := fun _ _ h _ => h
theorem Kp.trans {H H1 H2 : Hp} (a : Kp H H1) (b : Kp H1 H2) : Kp H H2 := fun d o h z => b d o (a d o h z) z
theorem Stp.refl (c : Rc) (H : Hp) : Stp c H H := ⟨fun _ _ h _ => h, .refl H⟩
theorem Stp.trans {c : Rc} {H H1 H2 : Hp} (a : Stp c H H1) (b : Stp c H1 H2) : Stp c H H2 := ⟨fun d o h n => b.1 d o (a.1 d o h n) n, a.2.trans b.2⟩
theorem Stp.of {c : Rc} {H H' : Hp} (s : Same H H') : Stp c H H' := ⟨fun b o h _ => s b o h, fun b o h _ => s b o h⟩
theorem Kp.of {H H' : Hp} (s : Same H H') : Kp H H' := fun b o h _ => s b o h
/-- a locked list -/
def FrL (H : Hp) (a : Addr) (vs : List V) : Prop := ∃ o : Obj, H a = some (.frz o (.lst vs)) ∧ o.dict = none ∧ o.cls = .type "list"
theorem FrL.rd {H : Hp} {a : Addr} {vs : List V} (h : FrL H a vs) : Rd H a (.lst vs) := by
  obtain ⟨o, h, _⟩ := h
  exact .inr ⟨o, h⟩
theorem FrL.kp {H H' : Hp} {a : Addr} {vs : List V} (h : FrL H a vs) (k : Kp H H') : FrL H' a vs := by
  obtain ⟨o, e, r⟩ := h
  exact ⟨o, k _ _ e trivial, r⟩
/-- the script -/
def Scr (K : PySem.W.Frag) (H : Hp) (a : Addr) (n : Nat) : Prop := ∃ vs : List V, vs.length = n ∧ ((∃ o : Obj, H a = some (.frz o (.lst vs))) ∨
    ∃ (o : Obj) (its : Array Value) (n : Nat), K.lookup a = some o ∧ o.cls = .type "list" ∧ o.dict = none ∧ o.data = .seq its n ∧ its.size ≤ sizeLine ∧ Vals vs its.toList)
theorem Scr.kp {K : PySem.W.Frag} {H H' : Hp} {a : Addr} {n : Nat} (h : Scr K H a n) (k : Kp H H') : Scr K H' a n := by
  obtain ⟨vs, l, h⟩ := h
  exact ⟨vs, l, h.imp (fun ⟨o, e⟩ => ⟨o, k _ _ e trivial⟩) id⟩
theorem Scr.sq {K : PySem.W.Frag} {H : Hp} {a : Addr} {n : Nat} (h : Scr K H a n) : ∃ vs : List V, vs.length = n ∧ SqL K H a vs := by
  obtain ⟨vs, l, h⟩ := h
  refine ⟨vs, l, ?_⟩
  rcases h with ⟨o, h⟩ | h
  · exact .inl (.inr ⟨o, h⟩)
  · exact .inr h
theorem tup_kp {H H' : Hp} {a : Addr} {vs : List V} (h : Tup H a vs) (k : Kp H H') : Tup H' a vs := by
  obtain ⟨o, e, r⟩ := h
  exact ⟨o, k _ _ e trivial, r⟩
theorem PairedM {α β : Type} {F G : α → β → Prop} {l : List α} {m : List β} (h : Paired F l m) (f : ∀ a b, F a b → G a b) : Paired G l m := L2.Paired.mapP h f
theorem tbl_kp {H H' : Hp} {C a : Addr} {ms : List Str} {ps : List (List (Str × Str))} (h : TblAt H C a ms ps) (k : Kp H H') : TblAt H' C a ms ps := by
  obtain ⟨dx, m, q, ls, h1, h2, h3, h4⟩ := h
  refine ⟨dx, m, q, ls, k _ _ h1 trivial, tup_kp h2 k, tup_kp h3 k, PairedM h4 fun _ _ t => ?_⟩
  obtain ⟨ts, a, b⟩ := t
  exact ⟨ts, tup_kp a k, PairedM b fun _ _ t => tup_kp t k⟩
mutual
inductive Rp (c : Rc) (H : Hp) : D → V → Prop
  | non : Rp c H .non .non
  | bl (b : Bool) : Rp c H (.bl b) (.bl b)
  | int (i : Int) : Rp c H (.int i) (.int i)
  | str (x : Str) : Rp c H (.str x) (.str x)
  | tup {a : Addr} {vs : List V} {ds : List D} : Tup H a vs → Rps c H ds vs → Rp c H (.tup ds) (.ref a)
  | lst {a : Addr} {vs : List V} {ds : List D} : FrL H a vs → Rps c H ds vs → Rp c H (.lst ds) (.ref a)
  | pen {q : Addr × Addr} : c.pen = some q → Rp c H .pen (.ref q.1)
  | scr {a : Addr} {n : Nat} : Scr c.K H a n → Rp c H (.scr n) (.ref a)
  | tbl {a : Addr} {ms : List Str} {pss : List (List (Str × Str))} : TblAt H c.C a ms pss → Rp c H (.tbl ms pss) (.ref a)
inductive Rps (c : Rc) (H : Hp) : List D → List V → Prop
  | nil : Rps c H [] []
  | cons {d : D} {v : V} {ds : List D} {vs : List V} : Rp c H d v → Rps c H ds vs → Rps c H (d :: ds) (v :: vs)
end
mutual
theorem Rp.kp {c : Rc} {H H' : Hp} (k : Kp H H') : ∀ {d : D} {v : V}, Rp c H d v → Rp c H' d v
  | _, _, .non => .non
  | _, _, .bl b => .bl b
  | _, _, .int i => .int i
  | _, _, .str x => .str x
  | _, _, .tup h r => .tup (tup_kp h k) (Rps.kp k r)
  | _, _, .lst h r => .lst (FrL.kp h k) (Rps.kp k r)
  | _, _, .pen h => .pen h
  | _, _, .scr h => .scr (h.kp k)
  | _, _, .tbl h => .tbl (tbl_kp h k)
theorem Rps.kp {c : Rc} {H H' : Hp} (k : Kp H H') : ∀ {ds : List D} {vs : List V}, Rps c H ds vs → Rps c H' ds vs
  | _, _, .nil => .nil
  | _, _, .cons r t => .cons (Rp.kp k r) (Rps.kp k t)
end
section
variable {c : Rc} {H H' : Hp}
theorem Rps.length : ∀ {ds : List D} {vs : List V}, Rps c H ds vs → ds.length = vs.length
  | _, _, .nil => rfl
  | _, _, .cons _ t => by simp [Rps.length t]
theorem Rps.get : ∀ {ds : List D} {vs : List V} {i : Nat} {d : D}, Rps c H ds vs → ds[i]? = some d → ∃ v, vs[i]? = some v ∧ Rp c H d v
  | _, _, _, _, .nil, e => by simp at e
  | _, _, 0, _, .cons r _, e => ⟨_, rfl, (Option.some.inj e) ▸ r⟩
  | _, _, i + 1, _, .cons _ t, e => Rps.get (i := i) t (by simpa using e)
theorem Rps.got : ∀ {ds : List D} {vs : List V} {i : Nat} {v : V}, Rps c H ds vs → vs[i]? = some v → ∃ d, ds[i]? = some d ∧ Rp c H d v
  | _, _, _, _, .nil, e => by simp at e
  | _, _, 0, _, .cons r _, e => ⟨_, rfl, (Option.some.inj e) ▸ r⟩
  | _, _, i + 1, _, .cons _ t, e => Rps.got (i := i) t (by simpa using e)
theorem Rps.append : ∀ {ds es : List D} {vs us : List V}, Rps c H ds vs → Rps c H es us → Rps c H (ds ++ es) (vs ++ us)
  | _, _, _, _, .nil, s => s
  | _, _, _, _, .cons r t, s => .cons r (Rps.append t s)
theorem Rps.take : ∀ {ds : List D} {vs : List V} (n : Nat), Rps c H ds vs → Rps c H (ds.take n) (vs.take n)
  | _, _, 0, _ => .nil
  | _, _, _ + 1, .nil => .nil
  | _, _, n + 1, .cons r t => .cons r (Rps.take n t)
theorem Rps.drop : ∀ {ds : List D} {vs : List V} (n : Nat), Rps c H ds vs → Rps c H (ds.drop n) (vs.drop n)
  | _, _, 0, r => r
  | _, _, _ + 1, .nil => .nil
  | _, _, n + 1, .cons _ t => Rps.drop n t
theorem Rps.set {d : D} {v : V} (r : Rp c H d v) : ∀ {ds : List D} {vs : List V} (i : Nat), Rps c H ds vs → Rps c H (ds.set i d) (vs.set i v)
  | _, _, _, .nil => .nil
  | _, _, 0, .cons _ t => .cons r t
  | _, _, i + 1, .cons q t => .cons q (Rps.set r i t)
theorem Rps.erase : ∀ {ds : List D} {vs : List V} (i : Nat), Rps c H ds vs → Rps c H (ds.eraseIdx i) (vs.eraseIdx i)
  | _, _, _, .nil => .nil
  | _, _, 0, .cons _ t => t
  | _, _, i + 1, .cons q t => .cons q (Rps.erase i t)
theorem Rps.reverse : ∀ {ds : List D} {vs : List V}, Rps c H ds vs → Rps c H ds.reverse vs.reverse
  | _, _, .nil => .nil
  | _, _, .cons r t => by
    rw [List.reverse_cons, List.reverse_cons]
    exact Rps.append (Rps.reverse t) (.cons r .nil)
theorem Rps.one {d : D} {v : V} (r : Rp c H d v) : Rps c H [d] [v] := .cons r .nil
theorem Rps.ints : ∀ ns : List Int, Rps c H (ns.map D.int) (ns.map V.int)
  | [] => .nil
  | n :: ns => .cons (.int n) (Rps.ints ns)
theorem Rps.strs : ∀ ns : List Str, Rps c H (ns.map D.str) (ns.map V.str)
  | [] => .nil
  | n :: ns => .cons (.str n) (Rps.strs ns)
theorem Rps.bls : ∀ ns : List Bool, Rps c H (ns.map D.bl) (ns.map V.bl)
  | [] => .nil
  | n :: ns => .cons (.bl n) (Rps.bls ns)
theorem Rps.flat : ∀ {dss : List (List D)} {vss : List (List V)}, Paired (fun d v => Rps c H d v) dss vss → Rps c H dss.flatten vss.flatten
  | _, _, .nil => .nil
  | _, _, .cons r t => by
    rw [List.flatten_cons, List.flatten_cons]
    exact Rps.append r (Rps.flat t)
theorem Rps.rep {d : List D} {v : List V} (r : Rps c H d v) : ∀ n : Nat, Rps c H (List.replicate n d).flatten (List.replicate n v).flatten
  | 0 => .nil
  | n + 1 => by
    rw [List.replicate_succ, List.replicate_succ, List.flatten_cons, List.flatten_cons]
    exact Rps.append r (Rps.rep r n)
end
/-- the pen is as π tells -/
def PenR (c : Rc) (π : Pn) (H : Hp) : Prop := ∀ q, c.pen = some q → H q.1 = some (.dK (kvP q.2 π.spot π.more)) ∧ H q.2 = some (.lst (π.cells.map V.int)) ∧ π.cells.length ≤ 63
/-- a value that is read: data, or a list that is still to change, made since H0 -/
def RpR (c : Rc) (H0 H : Hp) (d : D) (v : V) : Prop := Rp c H d v ∨ ∃ (ds : List D) (a : Addr) (vs : List V), d = .own ds ∧ v = .ref a ∧ H a = some (.lst vs) ∧ Rps c H ds vs ∧ H0 a = none
theorem RpR.stp {c : Rc} {H0 H H' : Hp} {d : D} {v : V} {π0 : Pn} (p0 : PenR c π0 H0) (h : RpR c H0 H d v) (s : Stp c H H') : RpR c H0 H' d v := by
  rcases h with h | ⟨ds, a, vs, rfl, rfl, h1, h2, h3⟩
  · exact .inl (h.kp s.2)
  · refine .inr ⟨ds, a, vs, rfl, rfl, s.1 _ _ h1 fun q hq => ?_, h2.kp s.2, h3⟩
    rintro rfl
    rw [(p0 q hq).1] at h3
    cases h3
/-- the slots -/
structure Hd (c : Rc) (H0 : Hp) (ρ : Env) (π : Pn) (σ : St) (H : Hp) : Prop where
  len : ρ.length = σ.length
  slot : ∀ (i : Nat) (d : D), ρ[i]? = some (some d) → ∃ v, σ[i]? = some (some v) ∧ RpR c H0 H d v
  apart : ∀ (i j : Nat) (ds es : List D) (a : Addr), ρ[i]? = some (some (.own ds)) → ρ[j]? = some (some (.own es)) → σ[i]? = some (some (.ref a)) → σ[j]? = some (some (.ref a)) → i = j
  pen0 : ∃ π0, PenR c π0 H0
  pen : PenR c π H
  stp : Stp c H0 H
theorem Hd.step {c : Rc} {H0 H H' : Hp} {ρ : Env} {π π' : Pn} {σ : St} (h : Hd c H0 ρ π σ H) (s : Stp c H H') (p : PenR c π' H') : Hd c H0 ρ π' σ H' := by
  obtain ⟨π0, p0⟩ := h.pen0
  exact ⟨h.len, fun i d e => by
    obtain ⟨v, e1, r⟩ := h.slot i d e
    exact ⟨v, e1, r.stp p0 s⟩, h.apart, ⟨π0, p0⟩, p, h.stp.trans s⟩
/-- a value that is kept: data, or a list made since H -/
def RpN (c : Rc) (H H' : Hp) (d : D) (v : V) : Prop := Rp c H' d v ∨ ∃ (ds : List D) (a : Addr) (vs : List V), d = .own ds ∧ v = .ref a ∧ H' a = some (.lst vs) ∧ Rps c H' ds vs ∧ H a = none
theorem Stp.free {c : Rc} {H H' : Hp} {π : Pn} {a : Addr} (s : Stp c H H') (p : PenR c π H) (p' : ∃ π', PenR c π' H') (h : H' a = none) : H a = none := by
  cases e : H a with
  | none => rfl
  | some o =>
    by_cases hq : ∃ q, c.pen = some q ∧ a = q.1
    · obtain ⟨q, h1, rfl⟩ := hq
      obtain ⟨π', p'⟩ := p'
      rw [(p' q h1).1] at h
      cases h
    · rw [s.1 a o e fun q hq' z => hq ⟨q, hq', z⟩] at h
      cases h
theorem RpN.r {c : Rc} {H0 H H' : Hp} {ρ : Env} {π : Pn} {σ : St} {d : D} {v : V} (h : Hd c H0 ρ π σ H) (r : RpN c H H' d v) : RpR c H0 H' d v := by
  rcases r with r | ⟨ds, a, vs, h1, h2, h3, h4, h5⟩
  · exact .inl r
  · obtain ⟨π0, p0⟩ := h.pen0
    exact .inr ⟨ds, a, vs, h1, h2, h3, h4, h.stp.free p0 ⟨π, h.pen⟩ h5⟩
/-- an exception in the heap: its class's value, its own dict -/
def XR (c : Rc) (mg : Str → Option Value) (H : Hp) (x : Xn) (cls : Value) (dx : Option Addr) : Prop :=
  mg x.cls = some cls ∧ ∃ (d : Addr) (vs : List V), dx = some d ∧ H d = some (.xd ((x.fs.map (·.1)).zip vs)) ∧ Rps c H (x.fs.map (·.2)) vs
end Fx
set_option Elab.async false
set_option maxRecDepth 100000
set_option linter.unusedVariables false
namespace Fx
open PySem L2 Lw
/-! ### readings that are weakened -/
section
variable {X : Cx}
theorem PEi {e : Expr} {t t' : TE} (h : PE X e t) (i : ∀ σ H Q, t' σ H Q → t σ H Q) : PE X e t' := ⟨fun pins s σ H Q I hq => h.run pins s σ H Q I (i σ H Q hq)⟩
theorem PTi {e : Expr} {t t' : TT} (h : PT X e t) (i : ∀ σ H Q, t' σ H Q → t σ H Q) : PT X e t' := ⟨fun pins s σ H Q I hq => h.run pins s σ H Q I (i σ H Q hq)⟩
theorem PAi {es : List Expr} {t t' : TA} (h : PA X es t) (i : ∀ σ H Q, t' σ H Q → t σ H Q) : PA X es t' := ⟨fun pos pins s σ H Q I hq => h.run pos pins s σ H Q I (i σ H Q hq)⟩
theorem PSi {st : Stmt} {t t' : TS} (h : PS X st t) (i : ∀ D σ H, t' D σ H → t D σ H) : PS X st t' := ⟨fun pins s σ H D I hq => h.run pins s σ H D I (i D σ H hq)⟩
theorem PSsi {st : List Stmt} {t t' : TS} (h : PSs X st t) (i : ∀ D σ H, t' D σ H → t D σ H) : PSs X st t' := ⟨fun pins s σ H D I hq => h.run pins s σ H D I (i D σ H hq)⟩
theorem PIi {tg it : Expr} {t t' : TI} (h : PI X tg it t) (i : ∀ σ H R, t' σ H R → t σ H R) : PI X tg it t' := ⟨fun pins s σ H R I hq => h.run pins s σ H R I (i σ H R hq)⟩
theorem PGi {tg : Expr} {t t' : TG} (h : PG X tg t) (i : ∀ v σ H Q, t' v σ H Q → t v σ H Q) : PG X tg t' := ⟨fun pins s σ H v u Q I r hq => h.run pins s σ H v u Q I r (i v σ H Q hq)⟩
end

/-! ### a list is locked as it is -/
section
variable {X : Cx} {pins : List (Addr × Obj)} {σ : St} {H : Hp} {s : Shared} {a : Addr} {vs : List V}
theorem freeze (I : Inv X pins σ H s) (e : H a = some (.lst vs)) : ∃ o : Obj, o.dict = none ∧ o.cls = .type "list" ∧ Inv X pins σ (upd H a (.frz o (.lst vs))) s := by
  obtain ⟨z, its, n, r, ho⟩ := (show ObjOk X.prog X.w H s.heap a (.lst vs) from I.hok a _ e)
  have ne : ∀ b u, H b = some u → (∀ xs, u ≠ .lst xs) → b ≠ a := fun b u hb nu z => by
    rw [z, e] at hb
    exact nu _ (Option.some.inj hb).symm
  have un : Un X.fs X.ex H (upd H a (.frz { cls := .type "list", data := .seq its.toArray n } (.lst vs))) s.heap s.heap :=
    ⟨fun b o q _ _ _ => q, fun b o q _ _ _ => ⟨o.slots, q⟩, fun b o _ q _ => by rw [upd_ne (by rintro rfl; rw [e] at q; cases q)]; exact q, fun b o q _ => ⟨o, q⟩,
      fun b xs q => by rw [upd_ne (ne b _ q fun _ => nofun)]; exact q, fun b o u q => by rw [upd_ne (ne b _ q fun _ => nofun)]; exact q, fun b ps q => ⟨#[], by rw [upd_ne (ne b _ q fun _ => nofun), q]; simp⟩⟩
  refine ⟨{ cls := .type "list", data := .seq its.toArray n }, rfl, rfl, ⟨I.ok, I.os, I.bare, I.base.trans un, I.loc, I.cell, ?_, fun x c hc => ?_, fun p hp => ?_, fun b u hb => ?_, I.len⟩⟩
  · rw [upd_ne (by rintro rfl; rw [I.free] at e; cases e)]
    exact I.free
  · rw [upd_ne (by rintro rfl; rw [I.freeC x c hc] at e; cases e)]
    exact I.freeC x c hc
  · obtain ⟨h1, h2, h3⟩ := I.pin p hp
    refine ⟨h1, ?_, h3⟩
    rw [upd_ne (by rintro rfl; rw [h2] at e; cases e)]
    exact h2
  · by_cases hba : b = a
    · subst hba
      rw [upd_same] at hb
      cases hb
      exact ⟨ho, z, its, n, r, ho⟩
    · rw [upd_ne hba] at hb
      exact (I.hok b u hb).stay (fun c v _ q => q) (fun c q => by rw [upd_ne (ne c _ q fun _ => nofun)]; exact q) fun c xs q => by rw [upd_ne (ne c _ q fun _ => nofun)]; exact q
end
/-- what follows the lock -/
def Lck (H : Hp) (a : Addr) (vs : List V) (k : Hp → Prop) : Prop := ∀ o : Obj, o.dict = none → o.cls = .type "list" → k (upd H a (.frz o (.lst vs)))
def tFrz (t : TE) : TE := fun σ H Q => t σ H fun v H1 => Q v H1 ∨ ∃ a vs, v = .ref a ∧ H1 a = some (.lst vs) ∧ Lck H1 a vs (Q v)
theorem pe_frz {X : Cx} {e : Expr} {t : TE} (h : PE X e t) : PE X e (tFrz t) := by
  refine ⟨fun pins s σ H Q I hq => ?_⟩
  refine thn (h.run pins s σ H _ I hq) fun u s1 ⟨v, H1, I1, r1, q1⟩ => ?_
  rcases q1 with q | ⟨a, vs, rfl, e1, q⟩
  · exact ⟨v, H1, I1, r1, q⟩
  · obtain ⟨o, h1, h2, I2⟩ := freeze I1 e1
    exact ⟨.ref a, _, I2, r1, q o h1 h2⟩
/-- a list that a slot holds is locked ahead of a block -/
theorem pss_frz {X : Cx} {sts : List Stmt} {t : TS} (h : PSs X sts t) : PSs X sts (fun D σ H => ∃ a vs, H a = some (.lst vs) ∧ Lck H a vs (fun H' => t D σ H')) := by
  refine ⟨fun pins s σ H D I hq => ?_⟩
  obtain ⟨a, vs, e, q⟩ := hq
  obtain ⟨o, h1, h2, I2⟩ := freeze I e
  exact h.run pins s σ _ D I2 (q o h1 h2)

/-! ### plain functions as readings -/
structure Fc where
  c : Rc
  mg : Str → Option Value
  W : WX
  H0 : Hp
abbrev Fc.calm (F : Fc) : Fc := { F with W := fun _ _ _ _ => False }
abbrev FHd (F : Fc) (ρ : Env) (π : Pn) (σ : St) (H : Hp) : Prop := Hd F.c F.H0 ρ π σ H
def XP (F : Fc) (ρ : Env) (σ : St) : Xn → Pn → Prop := fun x π' => ∀ cls dx H', FHd F ρ π' σ H' → XR F.c F.mg H' x cls dx → F.W cls dx σ H'
abbrev RX (α β : Type) := Hp → Hp → α → β → Prop
abbrev RD := RX D V
abbrev Fc.RR (F : Fc) : RD := fun _ H' d v => RpR F.c F.H0 H' d v
abbrev Fc.RN (F : Fc) : RD := fun H H' d v => RpN F.c H H' d v
/-- what is wanted of the result -/
def Po {α β : Type} (F : Fc) (R : RX α β) (ρ : Env) (σ : St) (H : Hp) (Q : β → Hp → Prop) : α → Pn → Prop := fun d π' => ∀ v H', FHd F ρ π' σ H' → Stp F.c H H' → R H H' d v → Q v H'
def At {α β : Type} (F : Fc) (R : RX α β) (ρ : Env) (m : M α) (σ : St) (H : Hp) (Q : β → Hp → Prop) : Prop := ∃ π, FHd F ρ π σ H ∧ RM (m π) (Po F R ρ σ H Q) (XP F ρ σ)
def tX {α β : Type} (F : Fc) (R : RX α β) (f : Env → M α) : St → Hp → (β → Hp → Prop) → Prop := fun σ H Q => ∃ ρ, At F R ρ (f ρ) σ H Q
abbrev tE (F : Fc) (R : RD) (f : Ex) : TE := tX F R f
/-- e gives what f tells: data, or a list that a name holds (FE); data, or a list just made (FN) -/
abbrev FE (X : Cx) (F : Fc) (e : Expr) (f : Ex) : Prop := PE X e (tE F F.RR f)
abbrev FN (X : Cx) (F : Fc) (e : Expr) (f : Ex) : Prop := PE X e (tE F F.RN f)
abbrev RB : RX Bool Bool := fun _ _ b k => b = k
abbrev FT (X : Cx) (F : Fc) (e : Expr) (f : Env → M Bool) : Prop := PT X e (tX F RB f)
def RpRs (c : Rc) (H0 H : Hp) : List D → List V → Prop := Paired (RpR c H0 H)
abbrev Fc.RA (F : Fc) : RX (List D) (List V) := fun _ H' ds vs => RpRs F.c F.H0 H' ds vs
abbrev FA (X : Cx) (F : Fc) (es : List Expr) (f : Env → M (List D)) : Prop := PA X es (tX F F.RA f)
/-- a relation that may look from further back -/
def Bk {α β : Type} (F : Fc) (R : RX α β) : Prop := ∀ ρ π π1 σ H H1 H' d v, FHd F ρ π σ H → FHd F ρ π1 σ H1 → Stp F.c H H1 → R H1 H' d v → R H H' d v
theorem bkR {F : Fc} : Bk F F.RR := fun _ _ _ _ _ _ _ _ _ _ _ _ h => h
theorem bkB {F : Fc} : Bk F RB := fun _ _ _ _ _ _ _ _ _ _ _ _ h => h
theorem bkA {F : Fc} : Bk F F.RA := fun _ _ _ _ _ _ _ _ _ _ _ _ h => h
section
variable {α β γ δ : Type} {F : Fc} {R : RX α β} {S : RX γ δ} {ρ : Env} {σ : St} {H : Hp} {Q : δ → Hp → Prop} {m : M α} {k : α → M γ}
/-- the first of two -/
theorem At.bind (bk : Bk F S) (h : At F S ρ (m.bind k) σ H Q) : At F R ρ m σ H (fun v H1 => Stp F.c H H1 ∧ ∃ d, R H H1 d v ∧ At F S ρ (k d) σ H1 Q) := by
  obtain ⟨π, hd, r⟩ := h
  refine ⟨π, hd, (RM_bind.mp r).imp (fun d π1 h1 v H1 hd1 s1 r1 => ⟨s1, d, r1, π1, hd1, h1.imp (fun e π2 h2 u H2 hd2 s2 r2 => h2 u H2 hd2 (s1.trans s2) (bk _ _ _ _ _ _ _ _ _ hd hd1 s1 r2)) fun _ _ q => q⟩) fun _ _ q => q⟩
theorem At.lift {o : Option γ} (h : At F S ρ (M.lift o) σ H Q) : ∃ z π, FHd F ρ π σ H ∧ o = some z ∧ Po F S ρ σ H Q z π := by
  obtain ⟨π, hd, r⟩ := h
  obtain ⟨z, e, q⟩ := RM_lift.mp r
  exact ⟨z, π, hd, e, q⟩
theorem At.mono {Q' : δ → Hp → Prop} {m : M γ} (h : At F S ρ m σ H Q) (i : ∀ v H', Q v H' → Q' v H') : At F S ρ m σ H Q' := by
  obtain ⟨π, hd, r⟩ := h
  exact ⟨π, hd, r.imp (fun d π' q v H' a b c => i v H' (q v H' a b c)) fun _ _ q => q⟩
theorem At.ret {z : γ} (h : At F S ρ (M.ret z) σ H Q) : ∃ π, FHd F ρ π σ H ∧ Po F S ρ σ H Q z π := h
theorem At.x {m : M γ} (h : At F S ρ m σ H Q) (f : Env → M γ) (e : f ρ = m) : tX F S f σ H Q := ⟨ρ, by rw [e]; exact h⟩
end
/-- no list that may change -/
def D.still : D → Bool
  | .own _ => false
  | .wtup _ => false
  | _ => true
def stillD (d : D) : M D := M.lift (if d.still then some d else none)
def lockD : D → D
  | .own ds => .lst ds
  | d => d
theorem RpR.still {c : Rc} {H0 H : Hp} {d : D} {v : V} (h : RpR c H0 H d v) (s : d.still = true) : Rp c H d v := by
  rcases h with h | ⟨ds, a, vs, rfl, _⟩
  · exact h
  · cases s
theorem Rp.still {c : Rc} {H : Hp} {d : D} {v : V} (h : Rp c H d v) : d.still = true := by
  cases h <;> rfl
theorem RpN.still {c : Rc} {H0 H : Hp} {d : D} {v : V} (h : RpN c H0 H d v) (s : d.still = true) : Rp c H d v := by
  rcases h with h | ⟨ds, a, vs, rfl, _⟩
  · exact h
  · cases s
theorem RpN.back {c : Rc} {H H1 H' : Hp} {π π1 : Pn} {d : D} {v : V} (r : RpN c H1 H' d v) (s : Stp c H H1) (p : PenR c π H) (p1 : PenR c π1 H1) : RpN c H H' d v := by
  rcases r with r | ⟨ds, a, vs, h1, h2, h3, h4, h5⟩
  · exact .inl r
  · exact .inr ⟨ds, a, vs, h1, h2, h3, h4, s.free p ⟨π1, p1⟩ h5⟩
theorem PenR.same {c : Rc} {π : Pn} {H H' : Hp} (p : PenR c π H) (s : Same H H') : PenR c π H' := fun q hq => ⟨s _ _ (p q hq).1, s _ _ (p q hq).2.1, (p q hq).2.2⟩
theorem Hd.same {c : Rc} {H0 H H' : Hp} {ρ : Env} {π : Pn} {σ : St} (h : Hd c H0 ρ π σ H) (s : Same H H') : Hd c H0 ρ π σ H' := h.step (.of s) (h.pen.same s)
theorem bkN {F : Fc} : Bk F F.RN := fun _ _ _ _ _ _ _ _ _ hd hd1 s r => r.back s hd.pen hd1.pen
section
variable {X : Cx} {F : Fc} {e a b : Expr} {f g : Ex} {pos : Pos}
theorem FN.fe (h : FN X F e f) : FE X F e f := PEi h fun σ H Q ⟨ρ, π, hd, r⟩ => ⟨ρ, π, hd, r.imp (fun d π' q v H' hd' s rn => q v H' hd' s (rn.r hd)) fun _ _ q => q⟩
theorem FE.fn (h : FE X F e f) : FN X F e (fun ρ => (f ρ).bind stillD) := PEi h fun σ H Q ⟨ρ, π, hd, r⟩ => ⟨ρ, π, hd, (RM_bind.mp r).imp (fun d π' q v H' hd' s rr => by
  obtain ⟨z, hz, q⟩ := RM_lift.mp q
  cases hs : d.still with
  | false => rw [hs] at hz; cases hz
  | true =>
    rw [hs] at hz
    cases hz
    exact q v H' hd' s (.inl (rr.still hs))) fun _ _ q => q⟩
theorem FN.frz (h : FN X F e f) : FN X F e (fun ρ => (f ρ).bind fun d => M.ret (lockD d)) := PEi (pe_frz h) fun σ H Q ⟨ρ, π, hd, r⟩ => ⟨ρ, π, hd, (RM_bind.mp r).imp (fun d π' q v H' hd' s rn => by
  have q : Po F F.RN ρ σ H Q (lockD d) π' := q
  rcases rn with rn | ⟨ds, a, vs, rfl, rfl, h1, h2, h3⟩
  · have e1 : lockD d = d := by
      cases rn <;> rfl
    rw [e1] at q
    exact .inl (q v H' hd' s (.inl rn))
  · refine .inr ⟨a, vs, rfl, h1, fun o o1 o2 => ?_⟩
    have kp : Kp H' (upd H' a (.frz o (.lst vs))) := fun b u hb z => by
      rw [upd_ne (by rintro rfl; rw [h1] at hb; cases hb; exact z.elim)]
      exact hb
    have st : Stp F.c H (upd H' a (.frz o (.lst vs))) := ⟨fun b u hb nq => by rw [upd_ne (ne_of_none hb h3)]; exact s.1 b u hb nq, s.2.trans kp⟩
    have pen : PenR F.c π' (upd H' a (.frz o (.lst vs))) := fun q hq => by
      have g1 := hd.pen q hq
      rw [upd_ne (ne_of_none g1.1 h3), upd_ne (ne_of_none g1.2.1 h3)]
      exact hd'.pen q hq
    exact q (.ref a) _ (hd.step st pen) st (.inl (.lst ⟨o, upd_same, o1, o2⟩ (h2.kp kp)))) fun _ _ q => q⟩
end
end Fx
set_option Elab.async false
set_option maxRecDepth 100000
set_option linter.unusedVariables false
/-! Operators by values. -/
namespace Fx
open PySem L2 Lw
/-- data, or a list that may change, to be read -/
def RpB (c : Rc) (H : Hp) (d : D) (v : V) : Prop := Rp c H d v ∨ ∃ (ds : List D) (a : Addr) (vs : List V), d = .own ds ∧ v = .ref a ∧ H a = some (.lst vs) ∧ Rps c H ds vs
section
variable {c : Rc} {H H0 H' : Hp} {v : V}
theorem RpR.b {d : D} (h : RpR c H0 H d v) : RpB c H d v := h.imp id fun ⟨ds, a, vs, h1, h2, h3, h4, _⟩ => ⟨ds, a, vs, h1, h2, h3, h4⟩
theorem RpB.int {i : Int} (h : RpB c H (.int i) v) : v = .int i := by
  rcases h with h | ⟨_, _, _, h, _⟩
  · cases h; rfl
  · cases h
theorem RpB.bl {i : Bool} (h : RpB c H (.bl i) v) : v = .bl i := by
  rcases h with h | ⟨_, _, _, h, _⟩
  · cases h; rfl
  · cases h
theorem RpB.str {i : Str} (h : RpB c H (.str i) v) : v = .str i := by
  rcases h with h | ⟨_, _, _, h, _⟩
  · cases h; rfl
  · cases h
theorem RpB.non (h : RpB c H .non v) : v = .non := by
  rcases h with h | ⟨_, _, _, h, _⟩
  · cases h; rfl
  · cases h
theorem RpB.tup {ds : List D} (h : RpB c H (.tup ds) v) : ∃ a vs, v = .ref a ∧ Tup H a vs ∧ Rps c H ds vs := by
  rcases h with h | ⟨_, _, _, h, _⟩
  · cases h with
    | tup h r => exact ⟨_, _, rfl, h, r⟩
  · cases h
theorem RpB.lst {ds : List D} (h : RpB c H (.lst ds) v) : ∃ a vs, v = .ref a ∧ Rd H a (.lst vs) ∧ Rps c H ds vs := by
  rcases h with h | ⟨_, _, _, h, _⟩
  · cases h with
    | lst h r => exact ⟨_, _, rfl, h.rd, r⟩
  · cases h
theorem RpB.own {ds : List D} (h : RpB c H (.own ds) v) : ∃ a vs, v = .ref a ∧ Rd H a (.lst vs) ∧ Rps c H ds vs := by
  rcases h with h | ⟨_, a, vs, h, rfl, h1, h2⟩
  · cases h
  · cases h
    exact ⟨a, vs, rfl, .of h1, h2⟩
/-- a list -/
def D.asL : D → Option (List D)
  | .lst ds => some ds
  | .own ds => some ds
  | _ => none
def D.asQ : D → Option (List D)
  | .lst ds => some ds
  | .own ds => some ds
  | .tup ds => some ds
  | _ => none
theorem RpB.asL {d : D} {ds : List D} (h : RpB c H d v) (e : d.asL = some ds) : ∃ a vs, v = .ref a ∧ Rd H a (.lst vs) ∧ Rps c H ds vs := by
  cases d with
  | lst es => cases e; exact h.lst
  | own es => cases e; exact h.own
  | _ => cases e
theorem RpB.asQ {d : D} {ds : List D} (h : RpB c H d v) (e : d.asQ = some ds) : ∃ a vs, v = .ref a ∧ (Rd H a (.lst vs) ∨ Tup H a vs) ∧ Rps c H ds vs := by
  cases d with
  | lst es =>
    cases e
    obtain ⟨a, vs, h1, h2, h3⟩ := h.lst
    exact ⟨a, vs, h1, .inl h2, h3⟩
  | own es =>
    cases e
    obtain ⟨a, vs, h1, h2, h3⟩ := h.own
    exact ⟨a, vs, h1, .inl h2, h3⟩
  | tup es =>
    cases e
    obtain ⟨a, vs, h1, h2, h3⟩ := h.tup
    exact ⟨a, vs, h1, .inr h2, h3⟩
  | _ => cases e
theorem sq_of {K : PySem.W.Frag} {a : Addr} {vs : List V} (h : Rd H a (.lst vs) ∨ Tup H a vs) : SqL K H a vs ∨ SqT K H a vs := h.imp .inl fun t => t.t
end
/-- an operator, by a plain function -/
def rO (c : Rc) (o : D → D → Option D) : R2 := fun x y H Q => ∃ d e z, RpB c H d x ∧ RpB c H e y ∧ o d e = some z ∧ ∀ v H', Same H H' → RpN c H H' z v → Q v H'
/-- a list just made -/
theorem newL {c : Rc} {H : Hp} {l : Addr} {ds : List D} {vs : List V} (n : H l = none) (r : Rps c H ds vs) : Same H (upd H l (.lst vs)) ∧ RpN c H (upd H l (.lst vs)) (.own ds) (.ref l) :=
  ⟨same_new n, .inr ⟨ds, l, vs, rfl, rfl, upd_same, r.kp (.of (same_new n)), n⟩⟩
section
variable {X : Cx} {c : Rc}
/-- by what the values are -/
theorem op_by {f : Value → Value → Sem Value} {o : D → D → Option D} {r : R2} (h : OpR X f r) (i : ∀ H x y Q d e z, RpB c H d x → RpB c H e y → o d e = some z → (∀ v H', Same H H' → RpN c H H' z v → Q v H') → r x y H Q) : OpR X f (rO c o) := by
  intro pins s σ H x y v u Q I rx ry h'
  obtain ⟨d, e, z, h1, h2, h3, q⟩ := h'
  exact h pins s σ H x y v u Q I rx ry (i H x y Q d e z h1 h2 h3 q)
theorem op_or {f : Value → Value → Sem Value} {r r' : R2} (h : OpR X f r) (h' : OpR X f r') : OpR X f (fun x y H Q => r x y H Q ∨ r' x y H Q) := by
  intro pins s σ H x y v u Q I rx ry q
  exact q.elim (fun q => h pins s σ H x y v u Q I rx ry q) fun q => h' pins s σ H x y v u Q I rx ry q
/-- the result is small data -/
theorem fin {c : Rc} {H : Hp} {d : D} {v : V} {Q : VK} (q : ∀ v H', Same H H' → RpN c H H' d v → Q v H') (r : Rp c H d v) : Q v H := q v H (Same.refl H) (.inl r)
def rCatR : R2 := fun x y H Q => ∃ l b xs zs, x = .ref l ∧ y = .ref b ∧ Rd H l (.lst xs) ∧ Rd H b (.lst zs) ∧ xs.length + zs.length ≤ sizeLine ∧ ∀ p, H p = none → Q (.ref p) (upd H p (.lst (xs ++ zs)))
theorem op_catR : OpR X (binaryOp .Add) rCatR := by
  intro pins s σ H x y v u Q I rx ry h
  obtain ⟨l, b, xs, zs, rfl, rfl, hH, hB, hz, q⟩ := h
  cases rx
  cases ry
  obtain ⟨z, its, n, r, e⟩ := hH.ok I.hok
  obtain ⟨z2, its2, n2, r2, e2⟩ := hB.ok I.hok
  refine PySem.P.add_list e e2 ?_ (by rw [List.size_toArray, List.size_toArray, ← r.length, ← r2.length]; omega)
  have ea : its.toArray ++ its2.toArray = (its ++ its2).toArray := by simp
  rw [ea]
  exact ⟨.ref _, _, I.lnew (t' := s.toks) (r.append r2) (by rw [List.length_append]; omega), rfl, q _ I.fresh⟩
def addD : D → D → Option D
  | .int i, .int j => some (.int (i + j))
  | .str x, .str y => if x.length + y.length ≤ sizeLine then some (.str (x ++ y)) else none
  | .tup a, .tup b => if a.length + b.length ≤ sizeLine then some (.tup (a ++ b)) else none
  | .lst a, .lst b => if a.length + b.length ≤ sizeLine then some (.own (a ++ b)) else none
  | .lst a, .own b => if a.length + b.length ≤ sizeLine then some (.own (a ++ b)) else none
  | .own a, .lst b => if a.length + b.length ≤ sizeLine then some (.own (a ++ b)) else none
  | .own a, .own b => if a.length + b.length ≤ sizeLine then some (.own (a ++ b)) else none
  | _, _ => none
theorem addL {c : Rc} {H : Hp} {a b z : D} {da db : List D} {x y : V} {Q : VK} (ea : a.asL = some da) (eb : b.asL = some db) (h1 : RpB c H a x) (h2 : RpB c H b y) (h3 : (if da.length + db.length ≤ sizeLine then some (D.own (da ++ db)) else none) = some z)
    (q : ∀ v H', Same H H' → RpN c H H' z v → Q v H') : rCatR x y H Q := by
  obtain ⟨l, vs, rfl, r1, p1⟩ := h1.asL ea
  obtain ⟨l2, vs2, rfl, r2, p2⟩ := h2.asL eb
  split at h3
  · rename_i hz
    cases h3
    refine ⟨l, l2, vs, vs2, rfl, rfl, r1, r2, by rw [← p1.length, ← p2.length]; exact hz, fun p np => ?_⟩
    obtain ⟨s, n⟩ := newL (c := c) np (p1.append p2)
    exact q _ _ s n
  · cases h3
theorem op_addD : OpR X (binaryOp .Add) (rO c addD) := op_by (op_or op_add (op_or op_add_str (op_or op_catF op_catR))) fun H x y Q d e z h1 h2 h3 q => by
  unfold addD at h3
  split at h3
  · cases h3
    exact .inl ⟨_, _, h1.int, h2.int, fin q (.int _)⟩
  · split at h3
    · rename_i hz
      cases h3
      exact .inr (.inl ⟨_, _, h1.str, h2.str, hz, fin q (.str _)⟩)
    · cases h3
  · split at h3
    · rename_i hz
      cases h3
      obtain ⟨l, vs, rfl, r1, p1⟩ := h1.tup
      obtain ⟨l2, vs2, rfl, r2, p2⟩ := h2.tup
      exact .inr (.inr (.inl ⟨l, l2, vs, vs2, rfl, rfl, r1, r2, by rw [← p1.length, ← p2.length]; exact hz, fun r H' s t => q _ _ s (.inl (.tup t ((p1.append p2).kp (.of s))))⟩))
    · cases h3
  · exact .inr (.inr (.inr (addL rfl rfl h1 h2 h3 q)))
  · exact .inr (.inr (.inr (addL rfl rfl h1 h2 h3 q)))
  · exact .inr (.inr (.inr (addL rfl rfl h1 h2 h3 q)))
  · exact .inr (.inr (.inr (addL rfl rfl h1 h2 h3 q)))
  · cases h3
def subD : D → D → Option D
  | .int i, .int j => some (.int (i - j))
  | _, _ => none
theorem op_subD : OpR X (binaryOp .Sub) (rO c subD) := op_by op_sub fun H x y Q d e z h1 h2 h3 q => by
  unfold subD at h3
  split at h3
  · cases h3
    exact ⟨_, _, h1.int, h2.int, fin q (.int _)⟩
  · cases h3
/-! what is asked of numbers: great ones stand in it, so it is never computed -/
noncomputable instance (i j : Int) : Decidable (CMulW i j) := Classical.propDecidable _
noncomputable instance (i j : Int) : Decidable (CDivW i j) := Classical.propDecidable _
noncomputable instance (i j : Int) : Decidable (CPow i j) := Classical.propDecidable _
/-- ranges that can be walked -/
def Rg62 (j : Int) : Prop := -(2 ^ 62) ≤ j ∧ j < 2 ^ 62
noncomputable instance (j : Int) : Decidable (Rg62 j) := Classical.propDecidable _
theorem rg62 {j : Int} (h : -1000000000 ≤ j ∧ j ≤ 1000000000) : Rg62 j := ⟨by omega, by omega⟩
def Rg62b (i j : Int) : Prop := -(2 ^ 62) ≤ i ∧ i < 2 ^ 62 ∧ -(2 ^ 62) ≤ j ∧ j < 2 ^ 62
noncomputable instance (i j : Int) : Decidable (Rg62b i j) := Classical.propDecidable _
theorem rg62b {i j : Int} (h : -1000000000 ≤ i ∧ i ≤ 1000000000) (h' : -1000000000 ≤ j ∧ j ≤ 1000000000) : Rg62b i j := ⟨by omega, by omega, by omega, by omega⟩
def PopOk (z : Int) (n m i j : Nat) : Prop := 0 ≤ z ∧ z < (n : Int) ∧ z < 2 ^ 63 ∧ m < sizeLine ∧ i ≠ j
noncomputable instance (z : Int) (n m i j : Nat) : Decidable (PopOk z n m i j) := Classical.propDecidable _
theorem popOk {z : Int} {n m i j : Nat} (h : 0 ≤ z) (h1 : z < (n : Int)) (h2 : n ≤ 1000000000) (h3 : m < sizeLine) (h4 : i ≠ j) : PopOk z n m i j := ⟨h, h1, by omega, h3, h4⟩
def RepOk (n : Nat) (k : Int) : Prop := -(2 ^ 63) ≤ k ∧ k < 2 ^ 63 ∧ n * k.toNat ≤ sizeLine
noncomputable instance (n : Nat) (k : Int) : Decidable (RepOk n k) := Classical.propDecidable _
theorem repOk {n : Nat} {k : Int} (h : 0 ≤ k) (h1 : k ≤ 1000000000) (h2 : n * k.toNat ≤ sizeLine) : RepOk n k := ⟨by omega, by omega, h2⟩
def DrawOk (z n : Int) : Prop := 0 ≤ z ∧ z ≤ 1000000000 ∧ 1 ≤ n ∧ n.natAbs.log2 < 9000
noncomputable instance (z n : Int) : Decidable (DrawOk z n) := Classical.propDecidable _
def rRepR : R2 := fun x y H Q => ∃ l k xs, x = .ref l ∧ y = .int k ∧ Rd H l (.lst xs) ∧ -(2 ^ 63) ≤ k ∧ k < 2 ^ 63 ∧ xs.length * k.toNat ≤ sizeLine ∧
  ∀ p, H p = none → Q (.ref p) (upd H p (.lst (List.replicate k.toNat xs).flatten))
noncomputable def mulD : D → D → Option D
  | .int i, .int j => if CMulW i j then some (.int (i * j)) else none
  | _, _ => none
theorem op_mulD : OpR X (binaryOp .Mult) (rO c mulD) := op_by op_mulW fun H x y Q d e z h1 h2 h3 q => by
  unfold mulD at h3
  split at h3
  · split at h3
    · rename_i hz
      cases h3
      exact ⟨_, _, h1.int, h2.int, hz, fin q (.int _)⟩
    · cases h3
  · cases h3
/-- // : by a positive number of any size to 2^9000, or any small one -/
noncomputable def fdivD : D → D → Option D
  | .int i, .int j => if CDivW i j then some (.int (i.fdiv j)) else none
  | _, _ => none
theorem op_fdivD : OpR X (binaryOp .FloorDiv) (rO c fdivD) := op_by op_fdivW fun H x y Q d e z h1 h2 h3 q => by
  unfold fdivD at h3
  split at h3
  · split at h3
    · rename_i i j hz
      cases h3
      have e := Int.fdiv_eq_ediv_of_nonneg i (Int.le_of_lt hz.1)
      rw [e] at q
      exact ⟨_, _, h1.int, h2.int, hz, fin q (.int _)⟩
    · cases h3
  · cases h3
def modD : D → D → Option D
  | .int i, .int j => if j ≠ 0 then some (.int (i.fmod j)) else none
  | _, _ => none
theorem op_modD : OpR X (binaryOp .Mod) (rO c modD) := op_by op_modN fun H x y Q d e z h1 h2 h3 q => by
  unfold modD at h3
  split at h3
  · split at h3
    · rename_i hz
      cases h3
      exact ⟨_, _, h1.int, h2.int, hz, fin q (.int _)⟩
    · cases h3
  · cases h3
noncomputable def powD : D → D → Option D
  | .int i, .int j => if CPow i j then some (.int (i ^ j.toNat)) else none
  | _, _ => none
theorem op_powD : OpR X (binaryOp .Pow) (rO c powD) := op_by op_pow fun H x y Q d e z h1 h2 h3 q => by
  unfold powD at h3
  split at h3
  · split at h3
    · rename_i hz
      cases h3
      exact ⟨_, _, h1.int, h2.int, hz, fin q (.int _)⟩
    · cases h3
  · cases h3
end
end Fx
set_option Elab.async false
set_option maxRecDepth 100000
set_option linter.unusedVariables false
/-! Expressions. -/
namespace Fx
open PySem L2 Lw
def getV : Env → Nat → Option D
  | [], _ => none
  | d :: _, 0 => d
  | _ :: t, n + 1 => getV t n
def setV : Env → Nat → Option D → Env
  | [], _, _ => []
  | _ :: t, 0, d => d :: t
  | e :: t, n + 1, d => e :: setV t n d
theorem getV_eq : ∀ {ρ : Env} {i : Nat} {d : D}, getV ρ i = some d → ρ[i]? = some (some d)
  | [], _, _, h => by cases h
  | e :: t, 0, d, h => by simpa [getV] using h
  | e :: t, n + 1, d, h => by simpa using getV_eq (ρ := t) h
theorem setV_eq : ∀ (ρ : Env) (i : Nat) (d : Option D), setV ρ i d = ρ.set i d
  | [], _, _ => rfl
  | e :: t, 0, d => rfl
  | e :: t, n + 1, d => by simp [setV, setV_eq t n d]
def eVar (i : Nat) : Ex := fun ρ => M.lift (getV ρ i)
def eC (d : D) : Ex := fun _ => M.ret d
def eOp (o : D → D → Option D) (f g : Ex) : Ex := fun ρ => (f ρ).bind fun x => (g ρ).bind fun y => M.lift (o x y)
def asB (d : D) : M Bool := M.lift (match d with
  | .bl b => some b
  | _ => none)
section
variable {X : Cx} {F : Fc} {e a b c : Expr} {f g h : Ex} {pos : Pos}
theorem fv (i : Nat) {x : Str} {pos : Pos} (hN : X.N[i]? = some x := by rfl) (hv : Vis X.env.scope x := by first | exact Or.inl rfl | exact Or.inr (Or.inl rfl) | exact Or.inr (Or.inr rfl)) (hd : (x == ("__debug__" : Str)) = false := by decide)
    (hcd : (x == ("__classdict__" : Str)) = false := by decide) : FE X F (.Name x pos) (eVar i) := PEi (pe_var hN hv hd hcd) fun σ H Q ⟨ρ, h⟩ => by
  obtain ⟨d, π, hd, e, q⟩ := h.lift
  obtain ⟨v, ev, r⟩ := hd.slot i d (getV_eq e)
  exact ⟨v, ev, q v H hd (.refl _ _) r⟩
theorem fc {d : D} {v : V} (h : PE X e (tC v)) (r : ∀ H, Rp F.c H d v) : FN X F e (eC d) := PEi h fun σ H Q ⟨ρ, h⟩ => by
  obtain ⟨π, hd, q⟩ := At.ret h
  exact q v H hd (.refl _ _) (.inl (r H))
theorem f_int {i j pos} : FN X F (.Constant (.int i) j pos) (eC (.int i)) := fc pe_int fun _ => .int i
theorem f_bl {i j pos} : FN X F (.Constant (.bool i) j pos) (eC (.bl i)) := fc pe_bl fun _ => .bl i
theorem f_non {j pos} : FN X F (.Constant .none j pos) (eC .non) := fc pe_non fun _ => .non
theorem f_str {i j pos} : FN X F (.Constant (.str i) j pos) (eC (.str i)) := fc pe_str fun _ => .str i
theorem f_op {op : Operator} {o : D → D → Option D} (ho : OpR X (binaryOp op) (rO F.c o)) (ha : FE X F a f) (hb : FE X F b g) : FN X F (.BinOp a op b pos) (eOp o f g) := PEi (pe_op ho ha hb) fun σ H Q ⟨ρ, h⟩ => by
  refine ⟨ρ, (At.bind bkN h).mono fun x H1 ⟨s1, d, r1, h2⟩ => ⟨ρ, (At.bind bkN h2).mono fun y H2 ⟨s2, e, r2, h3⟩ => ?_⟩⟩
  obtain ⟨z, π, hd, ez, q⟩ := h3.lift
  obtain ⟨π0, p0⟩ := hd.pen0
  exact ⟨d, e, z, (r1.stp p0 s2).b, r2.b, ez, fun v H' s rn => q v H' (hd.same s) (.of s) rn⟩
theorem f_cmp {op : CmpOp} {o : D → D → Option D} (ho : OpR X (compareOp op) (rO F.c o)) (ha : FE X F a f) (hb : FE X F b g) (hm : behindInMarks op b = false) : FN X F (.Compare a [op] [b] pos) (eOp o f g) := PEi (pe_cmpR ho ha hb hm) fun σ H Q ⟨ρ, h⟩ => by
  refine ⟨ρ, (At.bind bkN h).mono fun x H1 ⟨s1, d, r1, h2⟩ => ⟨ρ, (At.bind bkN h2).mono fun y H2 ⟨s2, e, r2, h3⟩ => ?_⟩⟩
  obtain ⟨z, π, hd, ez, q⟩ := h3.lift
  obtain ⟨π0, p0⟩ := hd.pen0
  exact ⟨d, e, z, (r1.stp p0 s2).b, r2.b, ez, fun v H' s rn => q v H' (hd.same s) (.of s) rn⟩
def tst (f : Ex) : Env → M Bool := fun ρ => (f ρ).bind asB
theorem asB_some {d : D} {b : Bool} (h : (match d with
  | .bl b => some b
  | _ => none) = some b) : d = .bl b := by
  split at h
  · cases h; rfl
  · cases h
theorem t_cmp {op : CmpOp} {o : D → D → Option D} (ho : OpR X (compareOp op) (rO F.c o)) (ha : FE X F a f) (hb : FE X F b g) (hm : behindInMarks op b = false) : FT X F (.Compare a [op] [b] pos) (tst (eOp o f g)) := PTi (pt_cmpR ho ha hb hm) fun σ H Q ⟨ρ, h⟩ => by
  unfold tst eOp at h
  rw [bind_assoc] at h
  refine ⟨ρ, (At.bind bkB h).mono fun x H1 ⟨s1, d, r1, h2⟩ => ⟨ρ, ?_⟩⟩
  rw [bind_assoc] at h2
  refine (At.bind bkB h2).mono fun y H2 ⟨s2, e, r2, h3⟩ => ?_
  obtain ⟨π, hd, r⟩ := h3
  obtain ⟨z, ez, r⟩ := RM_lift.mp (RM_bind.mp r)
  obtain ⟨k, ek, q⟩ := RM_lift.mp r
  cases asB_some ek
  obtain ⟨π0, p0⟩ := hd.pen0
  exact ⟨d, e, .bl k, (r1.stp p0 s2).b, r2.b, ez, fun v H' s rn => ⟨k, by rw [(rn.r hd).b.bl], q k H' (hd.same s) (.of s) rfl⟩⟩
/-- a value that is a truth, as a test -/
theorem t_val (ha : FE X F a f) (he : ∀ whole, isTrue a X.env whole = (do let v ← whole; standAt a.pos; holding [v] (truthy v)) := by intro _; rfl) : FT X F a (tst f) := PTi (pt_val ha he) fun σ H Q ⟨ρ, h⟩ => by
  refine ⟨ρ, (At.bind bkB h).mono fun x H1 ⟨s1, d, r1, h2⟩ => ?_⟩
  obtain ⟨π, hd, r⟩ := h2
  obtain ⟨k, ek, q⟩ := RM_lift.mp r
  cases asB_some ek
  exact ⟨k, r1.b.bl, q k H1 hd (.refl _ _) rfl⟩
def tAndF (f g : Env → M Bool) : Env → M Bool := fun ρ => (f ρ).bind fun b => if b then g ρ else M.ret false
def tOrF (f g : Env → M Bool) : Env → M Bool := fun ρ => (f ρ).bind fun b => if b then M.ret true else g ρ
def tNotF (f : Env → M Bool) : Env → M Bool := fun ρ => (f ρ).bind fun b => M.ret (!b)
variable {p q : Env → M Bool} {rest : List Expr}
abbrev FW (X : Cx) (F : Fc) (e : Expr) (f : Env → M Bool) : Prop := PW X e (tX F RB f)
theorem PWi {e : Expr} {t t' : TT} (h : PW X e t) (i : ∀ σ H Q, t' σ H Q → t σ H Q) : PW X e t' := ⟨fun w pins s σ H Q I hq => h.run w pins s σ H Q I (i σ H Q hq)⟩
theorem w_and1 (ha : FT X F a p) : FW X F (.BoolOp .And [a] pos) p := pw_and1 ha
theorem w_or1 (ha : FT X F a p) : FW X F (.BoolOp .Or [a] pos) p := pw_or1 ha
theorem w_and (ha : FT X F a p) (hb : FW X F (.BoolOp .And (b :: rest) pos) q) : FW X F (.BoolOp .And (a :: b :: rest) pos) (tAndF p q) := PWi (pw_and ha hb) fun σ H Q ⟨ρ, h⟩ => by
  refine ⟨ρ, (At.bind bkB h).mono fun x H1 ⟨s1, d, r1, h2⟩ => ?_⟩
  cases r1
  cases x with
  | true => exact ⟨ρ, h2⟩
  | false =>
    obtain ⟨π, hd, q⟩ := At.ret h2
    exact q false H1 hd (.refl _ _) rfl
theorem w_or (ha : FT X F a p) (hb : FW X F (.BoolOp .Or (b :: rest) pos) q) : FW X F (.BoolOp .Or (a :: b :: rest) pos) (tOrF p q) := PWi (pw_or ha hb) fun σ H Q ⟨ρ, h⟩ => by
  refine ⟨ρ, (At.bind bkB h).mono fun x H1 ⟨s1, d, r1, h2⟩ => ?_⟩
  cases r1
  cases x with
  | false => exact ⟨ρ, h2⟩
  | true =>
    obtain ⟨π, hd, q⟩ := At.ret h2
    exact q true H1 hd (.refl _ _) rfl
theorem w_pt (h : FW X F a p) : FT X F a p := PW.pt h
theorem t_not (ha : FT X F a p) : FT X F (.UnaryOp .Not a pos) (tNotF p) := PTi (pt_not ha) fun σ H Q ⟨ρ, h⟩ => by
  refine ⟨ρ, (At.bind bkB h).mono fun x H1 ⟨s1, d, r1, h2⟩ => ?_⟩
  cases r1
  obtain ⟨π, hd, q⟩ := At.ret h2
  exact q _ H1 hd (.refl _ _) rfl
/-- and, or, not as values of truths -/
def eAnd (f g : Ex) : Ex := fun ρ => (f ρ).bind fun d => (asB d).bind fun b => if b then g ρ else M.ret (.bl false)
def eOr (f g : Ex) : Ex := fun ρ => (f ρ).bind fun d => (asB d).bind fun b => if b then M.ret (.bl true) else g ρ
def eNot (f : Ex) : Ex := fun ρ => (f ρ).bind fun d => (asB d).bind fun b => M.ret (.bl (!b))
theorem At.asB {α β : Type} {R : RX α β} {ρ : Env} {σ : St} {H : Hp} {Q : β → Hp → Prop} {d : D} {k : Bool → M α} (h : At F R ρ ((asB d).bind k) σ H Q) : ∃ b, d = .bl b ∧ At F R ρ (k b) σ H Q := by
  obtain ⟨π, hd, r⟩ := h
  obtain ⟨b, e, r⟩ := RM_lift.mp (RM_bind.mp r)
  exact ⟨b, asB_some e, π, hd, r⟩
theorem f_one {op} (h : FE X F a f) : FE X F (.BoolOp op [a] pos) f := pe_one h
theorem f_and (ha : FE X F a f) (hb : FE X F (.BoolOp .And (b :: rest) pos) g) : FE X F (.BoolOp .And (a :: b :: rest) pos) (eAnd f g) := PEi (pe_and ha hb) fun σ H Q ⟨ρ, h⟩ => by
  refine ⟨ρ, (At.bind bkR h).mono fun x H1 ⟨s1, d, r1, h2⟩ => ?_⟩
  obtain ⟨k, rfl, h2⟩ := h2.asB
  refine ⟨k, r1.b.bl, ?_⟩
  cases k with
  | true => exact ⟨ρ, h2⟩
  | false =>
    obtain ⟨π, hd, q⟩ := At.ret h2
    exact q _ H1 hd (.refl _ _) (.inl (.bl false))
theorem f_or (ha : FE X F a f) (hb : FE X F (.BoolOp .Or (b :: rest) pos) g) : FE X F (.BoolOp .Or (a :: b :: rest) pos) (eOr f g) := PEi (pe_or ha hb) fun σ H Q ⟨ρ, h⟩ => by
  refine ⟨ρ, (At.bind bkR h).mono fun x H1 ⟨s1, d, r1, h2⟩ => ?_⟩
  obtain ⟨k, rfl, h2⟩ := h2.asB
  refine ⟨k, r1.b.bl, ?_⟩
  cases k with
  | false => exact ⟨ρ, h2⟩
  | true =>
    obtain ⟨π, hd, q⟩ := At.ret h2
    exact q _ H1 hd (.refl _ _) (.inl (.bl true))
theorem f_not (ha : FE X F a f) : FN X F (.UnaryOp .Not a pos) (eNot f) := PEi (pe_not ha) fun σ H Q ⟨ρ, h⟩ => by
  refine ⟨ρ, (At.bind bkN h).mono fun x H1 ⟨s1, d, r1, h2⟩ => ?_⟩
  obtain ⟨k, rfl, h2⟩ := h2.asB
  obtain ⟨π, hd, q⟩ := At.ret h2
  exact ⟨k, r1.b.bl, q _ H1 hd (.refl _ _) (.inl (.bl _))⟩
/-- a if t else b -/
def eIf (p : Env → M Bool) (f g : Ex) : Ex := fun ρ => (p ρ).bind fun b => if b then f ρ else g ρ
theorem f_if (hc : FT X F c p) (ha : FE X F a f) (hb : FE X F b g) : FE X F (.IfExp c a b pos) (eIf p f g) := PEi (pe_ifExp hc ha hb) fun σ H Q ⟨ρ, h⟩ => by
  refine ⟨ρ, (At.bind bkR h).mono fun x H1 ⟨s1, d, r1, h2⟩ => ?_⟩
  cases r1
  cases x with
  | true => exact ⟨ρ, h2⟩
  | false => exact ⟨ρ, h2⟩
theorem f_ifN (hc : FT X F c p) (ha : FN X F a f) (hb : FN X F b g) : FN X F (.IfExp c a b pos) (eIf p f g) := PEi (pe_ifExp hc ha hb) fun σ H Q ⟨ρ, h⟩ => by
  refine ⟨ρ, (At.bind bkN h).mono fun x H1 ⟨s1, d, r1, h2⟩ => ?_⟩
  cases r1
  cases x with
  | true => exact ⟨ρ, h2⟩
  | false => exact ⟨ρ, h2⟩
/-- - x -/
def negD : D → Option D
  | .int i => some (.int (-i))
  | _ => none
def eUn (o : D → Option D) (f : Ex) : Ex := fun ρ => (f ρ).bind fun d => M.lift (o d)
theorem f_neg (ha : FE X F a f) : FN X F (.UnaryOp .USub a pos) (eUn negD f) := PEi (pe_un un_neg ha) fun σ H Q ⟨ρ, h⟩ => by
  refine ⟨ρ, (At.bind bkN h).mono fun x H1 ⟨s1, d, r1, h2⟩ => ?_⟩
  obtain ⟨z, π, hd, ez, q⟩ := h2.lift
  unfold negD at ez
  split at ez
  · cases ez
    exact ⟨_, r1.b.int, q _ H1 hd (.refl _ _) (.inl (.int _))⟩
  · cases ez
/-! arguments -/
def aNil : Env → M (List D) := fun _ => M.ret []
def aCons (f : Ex) (g : Env → M (List D)) : Env → M (List D) := fun ρ => (f ρ).bind fun d => (g ρ).bind fun ds => M.ret (d :: ds)
variable {es : List Expr} {r : Env → M (List D)}
theorem a_nil : FA X F [] aNil := PAi pa_nil fun σ H Q ⟨ρ, h⟩ => by
  obtain ⟨π, hd, q⟩ := At.ret h
  exact q [] H hd (.refl _ _) .nil
theorem a_cons (ha : FE X F e f) (hr : FA X F es r) (hs : starEach (e :: es) X.env = (false, eval e X.env) :: starEach es X.env := by rfl) : FA X F (e :: es) (aCons f r) := PAi (pa_cons ha hr hs) fun σ H Q ⟨ρ, h⟩ => by
  refine ⟨ρ, (At.bind bkA h).mono fun x H1 ⟨s1, d, r1, h2⟩ => ⟨ρ, (At.bind bkA h2).mono fun ys H2 ⟨s2, ds, r2, h3⟩ => ?_⟩⟩
  obtain ⟨π, hd, q⟩ := At.ret h3
  obtain ⟨π0, p0⟩ := hd.pen0
  exact q _ H2 hd (.refl _ _) (.cons (r1.stp p0 s2) r2)
def stills (ds : List D) : Bool := ds.all D.still
theorem RpRs.still {c : Rc} {H0 H : Hp} : ∀ {ds : List D} {vs : List V}, RpRs c H0 H ds vs → stills ds = true → Rps c H ds vs
  | _, _, .nil, _ => .nil
  | _, _, .cons r t, h => by
    simp only [stills, List.all_cons, Bool.and_eq_true] at h
    exact .cons (r.still h.1) (RpRs.still t h.2)
/-- (a, b, ..) -/
def eTup (r : Env → M (List D)) : Ex := fun ρ => (r ρ).bind fun ds => M.lift (if stills ds = true ∧ ds.length ≤ sizeLine then some (.tup ds) else none)
theorem if_some {α : Type} {p : Prop} [Decidable p] {a z : α} (h : (if p then some a else none) = some z) : p ∧ a = z := by
  split at h
  · rename_i hp
    cases h
    exact ⟨hp, rfl⟩
  · cases h
theorem f_tup {k : Nat} (h : FA X F es r) : FN X F (.Tuple es k pos) (eTup r) := PEi (pe_tupF h) fun σ H Q ⟨ρ, h⟩ => by
  refine ⟨ρ, (At.bind bkN h).mono fun xs H1 ⟨s1, ds, r1, h2⟩ => ?_⟩
  obtain ⟨z, π, hd, ez, q⟩ := h2.lift
  obtain ⟨⟨h1, h2⟩, rfl⟩ := if_some ez
  have rs := r1.still h1
  exact ⟨by rw [← rs.length]; exact h2, fun t H' s ht => q _ H' (hd.same s) (.of s) (.inl (.tup ht (rs.kp (.of s))))⟩
/-- [a, b, ..] -/
def eLst (r : Env → M (List D)) : Ex := fun ρ => (r ρ).bind fun ds => M.lift (if stills ds = true ∧ ds.length ≤ sizeLine then some (.own ds) else none)
theorem f_lst (h : FA X F es r) : FN X F (.List es pos) (eLst r) := PEi (pe_lst h) fun σ H Q ⟨ρ, h⟩ => by
  refine ⟨ρ, (At.bind bkN h).mono fun xs H1 ⟨s1, ds, r1, h2⟩ => ?_⟩
  obtain ⟨z, π, hd, ez, q⟩ := h2.lift
  obtain ⟨⟨h1, h2⟩, rfl⟩ := if_some ez
  have rs := r1.still h1
  refine ⟨by rw [← rs.length]; exact h2, fun p np => ?_⟩
  obtain ⟨s, n⟩ := newL (c := F.c) np rs
  exact q _ _ (hd.same s) (.of s) n
end
end Fx
set_option Elab.async false
set_option maxRecDepth 100000
set_option linter.unusedVariables false
/-! Comparisons, subscripts, built-in functions. -/
namespace Fx
open PySem L2 Lw
mutual
def D.py : D → Option PyData
  | .non => some .none
  | .bl b => some (.bool b)
  | .int i => some (.int i)
  | .str x => some (.str x)
  | .tup ds => (D.pys ds).map .tuple
  | .lst ds => (D.pys ds).map .list
  | .own ds => (D.pys ds).map .list
  | _ => none
def D.pys : List D → Option (List PyData)
  | [] => some []
  | d :: ds => (D.py d).bind fun p => (D.pys ds).map fun ps => p :: ps
end
section
variable {c : Rc} {H : Hp}
mutual
theorem Rp.dp {K : PySem.W.Frag} : ∀ {d : D} {v : V} {p : PyData}, Rp c H d v → d.py = some p → Dp K H v p
  | _, _, _, .non, e => by cases e; exact .non
  | _, _, _, .bl b, e => by cases e; exact .bl b
  | _, _, _, .int i, e => by cases e; exact .int i
  | _, _, _, .str x, e => by cases e; exact .str x
  | .tup ds, _, _, .tup h r, e => by
    cases hp : D.pys ds with
    | none => simp [D.py, hp] at e
    | some ps =>
      simp [D.py, hp] at e
      subst e
      exact .tup h.t (Rps.dp r hp)
  | .lst ds, _, _, .lst h r, e => by
    cases hp : D.pys ds with
    | none => simp [D.py, hp] at e
    | some ps =>
      simp [D.py, hp] at e
      subst e
      exact .lst (.inl h.rd) (Rps.dp r hp)
  | _, _, _, .pen _, e => by simp [D.py] at e
  | _, _, _, .scr _, e => by simp [D.py] at e
  | _, _, _, .tbl _, e => by simp [D.py] at e
theorem Rps.dp {K : PySem.W.Frag} : ∀ {ds : List D} {vs : List V} {ps : List PyData}, Rps c H ds vs → D.pys ds = some ps → DpAll K H vs ps
  | _, _, _, .nil, e => by cases e; exact .nil
  | d :: ds, _, _, .cons r t, e => by
    cases hd : D.py d with
    | none => simp [D.pys, hd] at e
    | some p =>
      cases hp : D.pys ds with
      | none => simp [D.pys, hd, hp] at e
      | some ps =>
        simp [D.pys, hd, hp] at e
        subst e
        exact .cons (Rp.dp r hd) (Rps.dp t hp)
end
theorem RpB.dp {K : PySem.W.Frag} {d : D} {v : V} {p : PyData} (h : RpB c H d v) (e : d.py = some p) : Dp K H v p := by
  rcases h with h | ⟨ds, a, vs, rfl, rfl, h1, h2⟩
  · exact h.dp e
  · cases hp : D.pys ds with
    | none => simp [D.py, hp] at e
    | some ps =>
      simp [D.py, hp] at e
      subst e
      exact .lst (.of h1) (h2.dp hp)
end
def eqP (d e : D) : Option Bool := match d.py, e.py with
  | some p, some q => if SeqAt.shaped p = true ∧ SeqAt.shaped q = true then some (PyData.eqv p q) else none
  | _, _ => none
/-- == -/
def eqB : D → D → Option Bool
  | .int i, .int j => some (decide (i = j))
  | .str x, .str y => some (decide (x = y))
  | .bl x, .bl y => some (decide (x = y))
  | .non, .non => some true
  | .int i, .non => some false
  | d, e => eqP d e
def eqD (d e : D) : Option D := (eqB d e).map .bl
def neD (d e : D) : Option D := (eqB d e).map fun b => .bl (!b)
section
variable {X : Cx} {c : Rc}
theorem eqP_some {d e : D} {b : Bool} (h : eqP d e = some b) : ∃ p q, d.py = some p ∧ e.py = some q ∧ SeqAt.shaped p = true ∧ SeqAt.shaped q = true ∧ PyData.eqv p q = b := by
  unfold eqP at h
  split at h
  · rename_i p q h1 h2
    obtain ⟨⟨a1, a2⟩, a3⟩ := if_some h
    exact ⟨p, q, h1, h2, a1, a2, a3⟩
  · cases h
theorem map_bl {o : Option Bool} {f : Bool → D} {z : D} (h : o.map f = some z) : ∃ b, o = some b ∧ z = f b := by
  cases o with
  | none => cases h
  | some b => exact ⟨b, rfl, (Option.some.inj h).symm⟩
theorem eq_cases {H : Hp} {x y : V} {d e : D} {b : Bool} (h1 : RpB c H d x) (h2 : RpB c H e y) (h : eqB d e = some b) :
    (scal x y = true ∧ decide (x = y) = b) ∨ ∃ p q, Dp c.K H x p ∧ Dp c.K H y q ∧ SeqAt.shaped p = true ∧ SeqAt.shaped q = true ∧ PyData.eqv p q = b := by
  unfold eqB at h
  split at h
  · cases h
    rw [h1.int, h2.int]
    exact .inl ⟨rfl, by simp⟩
  · cases h
    rw [h1.str, h2.str]
    exact .inl ⟨rfl, by simp⟩
  · cases h
    rw [h1.bl, h2.bl]
    exact .inl ⟨rfl, by simp⟩
  · cases h
    rw [h1.non, h2.non]
    exact .inl ⟨rfl, by simp⟩
  · cases h
    rw [h1.int, h2.non]
    exact .inl ⟨rfl, by simp⟩
  · obtain ⟨p, q, e1, e2, s1, s2, e3⟩ := eqP_some h
    exact .inr ⟨p, q, h1.dp e1, h2.dp e2, s1, s2, e3⟩
theorem op_eqF (hK : X.K = c.K) (hu : X.A.units + 64 < cLine) : OpR X (compareOp .Eq) (rO c eqD) := op_by (op_or op_eq (op_eqD hu)) fun H x y Q d e z h1 h2 h3 q => by
  obtain ⟨b, hb, rfl⟩ := map_bl h3
  rcases eq_cases h1 h2 hb with ⟨s, rfl⟩ | ⟨p, q', a1, a2, a3, a4, rfl⟩
  · exact .inl ⟨s, fin q (.bl _)⟩
  · rw [← hK] at a1 a2
    exact .inr ⟨p, q', a1, a2, a3, a4, fin q (.bl _)⟩
theorem op_neF (hK : X.K = c.K) (hu : X.A.units + 64 < cLine) : OpR X (compareOp .NotEq) (rO c neD) := op_by (op_or op_ne (op_neD hu)) fun H x y Q d e z h1 h2 h3 q => by
  obtain ⟨b, hb, rfl⟩ := map_bl h3
  rcases eq_cases h1 h2 hb with ⟨s, rfl⟩ | ⟨p, q', a1, a2, a3, a4, rfl⟩
  · exact .inl ⟨s, fin q (.bl _)⟩
  · rw [← hK] at a1 a2
    exact .inr ⟨p, q', a1, a2, a3, a4, fin q (.bl _)⟩
def cmpD (p : Int → Int → Bool) : D → D → Option D
  | .int i, .int j => some (.bl (p i j))
  | _, _ => none
theorem op_cmp {op : CmpOp} {p : Int → Int → Bool} (h : OpR X (compareOp op) (rI0 fun i j => .bl (p i j))) : OpR X (compareOp op) (rO c (cmpD p)) := op_by h fun H x y Q d e z h1 h2 h3 q => by
  unfold cmpD at h3
  split at h3
  · cases h3
    exact ⟨_, _, h1.int, h2.int, fin q (.bl _)⟩
  · cases h3
abbrev ltD := cmpD fun i j => decide (i < j)
abbrev leD := cmpD fun i j => decide (i ≤ j)
abbrev gtD := cmpD fun i j => decide (j < i)
abbrev geD := cmpD fun i j => decide (j ≤ i)
theorem op_ltF : OpR X (compareOp .Lt) (rO c ltD) := op_cmp op_lt
theorem op_leF : OpR X (compareOp .LtE) (rO c leD) := op_cmp op_le
theorem op_gtF : OpR X (compareOp .Gt) (rO c gtD) := op_cmp op_gt
theorem op_geF : OpR X (compareOp .GtE) (rO c geD) := op_cmp op_ge
def isNonD : D → Bool
  | .non => true
  | _ => false
theorem RpB.isNon {H : Hp} {d : D} {v : V} (h : RpB c H d v) : decide (v = .non) = isNonD d := by
  rcases h with h | ⟨ds, a, vs, rfl, rfl, _⟩
  · cases h <;> simp [isNonD]
  · simp [isNonD]
def isN : D → D → Option D
  | d, .non => some (.bl (isNonD d))
  | _, _ => none
def notN : D → D → Option D
  | d, .non => some (.bl (!isNonD d))
  | _, _ => none
theorem op_isNF : OpR X (compareOp .Is) (rO c isN) := op_by op_isN fun H x y Q d e z h1 h2 h3 q => by
  unfold isN at h3
  split at h3
  · cases h3
    exact ⟨h2.non, by rw [h1.isNon]; exact fin q (.bl _)⟩
  · cases h3
theorem op_notNF : OpR X (compareOp .IsNot) (rO c notN) := op_by op_notN fun H x y Q d e z h1 h2 h3 q => by
  unfold notN at h3
  split at h3
  · cases h3
    exact ⟨h2.non, by rw [h1.isNon]; exact fin q (.bl _)⟩
  · cases h3
/-- a flat value -/
def D.fl : D → Option V
  | .non => some .non
  | .bl b => some (.bl b)
  | .int i => some (.int i)
  | .str x => some (.str x)
  | _ => none
def D.fls : List D → Option (List V)
  | [] => some []
  | d :: ds => d.fl.bind fun v => (D.fls ds).map fun vs => v :: vs
theorem Rp.flat {H : Hp} {d : D} {v w : V} (h : Rp c H d v) (e : d.fl = some w) : v = w ∧ flatV w = true := by
  cases h <;> first | (cases e; exact ⟨rfl, rfl⟩) | cases e
theorem RpB.flat {H : Hp} {d : D} {v w : V} (h : RpB c H d v) (e : d.fl = some w) : v = w ∧ flatV w = true := by
  rcases h with h | ⟨ds, a, vs, rfl, rfl, _⟩
  · exact h.flat e
  · cases e
theorem Rps.flats {H : Hp} : ∀ {ds : List D} {vs ws : List V}, Rps c H ds vs → D.fls ds = some ws → vs = ws ∧ ws.all flatV = true
  | _, _, _, .nil, e => by cases e; exact ⟨rfl, rfl⟩
  | d :: ds, _, _, .cons r t, e => by
    cases hd : d.fl with
    | none => simp [D.fls, hd] at e
    | some w =>
      cases hp : D.fls ds with
      | none => simp [D.fls, hd, hp] at e
      | some ws =>
        simp [D.fls, hd, hp] at e
        subst e
        obtain ⟨e1, f1⟩ := r.flat hd
        obtain ⟨e2, f2⟩ := Rps.flats t hp
        subst e1 e2
        exact ⟨rfl, by simp [f1, f2]⟩
/-- x in xs, of flat things; a letter in a text -/
def inB (x y : D) : Option Bool := match y with
  | .str t => match x with
    | .str z => some (!(Builtin.Str.occurrences t z 0 t.length 1).isEmpty)
    | _ => none
  | _ => match y.asQ, x.fl with
    | some ds, some v => (D.fls ds).map fun vs => inV v vs
    | _, _ => none
def inD (x y : D) : Option D := (inB x y).map .bl
def notInD (x y : D) : Option D := (inB x y).map fun b => .bl (!b)
end
end Fx
set_option Elab.async false
set_option maxRecDepth 100000
set_option linter.unusedVariables false
/-! in, subscripts, slices, built-in functions and methods. -/
namespace Fx
open PySem L2 Lw
section
variable {X : Cx} {c : Rc}
theorem sqK {K : PySem.W.Frag} {H : Hp} {a : Addr} {vs : List V} (h : Rd H a (.lst vs) ∨ Tup H a vs) : SqL K H a vs ∨ SqT K H a vs := h.imp .inl fun t => t.t
theorem in_cases {H : Hp} {d e : D} {x y : V} {b : Bool} (h1 : RpB c H d x) (h2 : RpB c H e y) (h : inB d e = some b) :
    (∃ i j, x = .str i ∧ y = .str j ∧ (!(Builtin.Str.occurrences j i 0 j.length 1).isEmpty) = b) ∨
    ∃ p xs, y = .ref p ∧ (SqL X.K H p xs ∨ SqT X.K H p xs) ∧ flatV x = true ∧ xs.all flatV = true ∧ inV x xs = b := by
  unfold inB at h
  split at h
  · split at h
    · cases h
      exact .inl ⟨_, _, h1.str, h2.str, rfl⟩
    · cases h
  · split at h
    · rename_i ds v e1 e2
      obtain ⟨a, vs, rfl, hq, r⟩ := h2.asQ e1
      obtain ⟨rfl, fx⟩ := h1.flat e2
      cases hf : D.fls ds with
      | none => rw [hf] at h; cases h
      | some ws =>
        rw [hf] at h
        cases h
        obtain ⟨rfl, fs⟩ := r.flats hf
        exact .inr ⟨a, vs, rfl, sqK hq, fx, fs, rfl⟩
    · cases h
theorem op_inF : OpR X (compareOp .In) (rO c inD) := op_by (op_or op_in_str op_in_seq) fun H x y Q d e z h1 h2 h3 q => by
  obtain ⟨b, hb, rfl⟩ := map_bl h3
  rcases in_cases (X := X) h1 h2 hb with ⟨i, j, e1, e2, rfl⟩ | ⟨p, xs, e1, e2, e3, e4, rfl⟩
  · exact .inl ⟨i, j, e1, e2, fin q (.bl _)⟩
  · exact .inr ⟨p, xs, e1, e2, e3, e4, fin q (.bl _)⟩
theorem op_notInF : OpR X (compareOp .NotIn) (rO c notInD) := op_by (op_or op_notIn_str op_notIn_seq) fun H x y Q d e z h1 h2 h3 q => by
  obtain ⟨b, hb, rfl⟩ := map_bl h3
  rcases in_cases (X := X) h1 h2 hb with ⟨i, j, e1, e2, rfl⟩ | ⟨p, xs, e1, e2, e3, e4, rfl⟩
  · exact .inl ⟨i, j, e1, e2, fin q (.bl _)⟩
  · exact .inr ⟨p, xs, e1, e2, e3, e4, fin q (.bl _)⟩
/-- x in xs, things of any depth in a list -/
def inPB (x y : D) : Option Bool := match x.py, y.asL with
  | some p, some ds => match D.pys ds with
    | some ps => if SeqAt.shaped p = true ∧ SeqAt.shaped (.list ps) = true then some (ps.any fun z => PyData.eqv z p) else none
    | none => none
  | _, _ => none
def inPD (x y : D) : Option D := (inPB x y).map .bl
def notInPD (x y : D) : Option D := (inPB x y).map fun b => .bl (!b)
theorem inP_cases {H : Hp} {d e : D} {x y : V} {b : Bool} (hK : X.K = c.K) (h1 : RpB c H d x) (h2 : RpB c H e y) (h : inPB d e = some b) :
    ∃ p ps, Dp X.K H x p ∧ Dp X.K H y (.list ps) ∧ SeqAt.shaped p = true ∧ SeqAt.shaped (.list ps) = true ∧ (ps.any fun z => PyData.eqv z p) = b := by
  unfold inPB at h
  split at h
  · rename_i p ds e1 e2
    split at h
    · rename_i ps e3
      obtain ⟨⟨s1, s2⟩, rfl⟩ := if_some h
      refine ⟨p, ps, h1.dp e1, h2.dp ?_, s1, s2, rfl⟩
      cases e with
      | lst es => cases e2; simp [D.py, e3]
      | own es => cases e2; simp [D.py, e3]
      | _ => cases e2
    · cases h
  · cases h
theorem op_inPF (hK : X.K = c.K) (hu : X.A.units + 65 < cLine) : OpR X (compareOp .In) (rO c inPD) := op_by (op_inD hu) fun H x y Q d e z h1 h2 h3 q => by
  obtain ⟨b, hb, rfl⟩ := map_bl h3
  obtain ⟨p, ps, e1, e2, e3, e4, rfl⟩ := inP_cases (X := X) hK h1 h2 hb
  exact ⟨p, ps, e1, e2, e3, e4, fin q (.bl _)⟩
theorem op_notInPF (hK : X.K = c.K) (hu : X.A.units + 65 < cLine) : OpR X (compareOp .NotIn) (rO c notInPD) := op_by (op_notInD hu) fun H x y Q d e z h1 h2 h3 q => by
  obtain ⟨b, hb, rfl⟩ := map_bl h3
  obtain ⟨p, ps, e1, e2, e3, e4, rfl⟩ := inP_cases (X := X) hK h1 h2 hb
  exact ⟨p, ps, e1, e2, e3, e4, fin q (.bl _)⟩
/-! ### subscripts -/
def ixD (x y : D) : Option D := match y with
  | .int i => match x with
    | .str z => if z.length ≤ sizeLine then (atI z.cps.toList i).map fun k => .str ⟨#[k]⟩ else none
    | _ => x.asQ.bind fun ds => atI ds i
  | _ => none
theorem atI_rep {H : Hp} {ds : List D} {vs : List V} {i : Int} {d : D} (r : Rps c H ds vs) (h : atI ds i = some d) : ∃ v, atI vs i = some v ∧ Rp c H d v := by
  unfold atI at h ⊢
  rw [← r.length]
  cases e : ixN ds.length i with
  | none => rw [e] at h; cases h
  | some j =>
    rw [e] at h
    exact r.get h
def rIxF (c : Rc) : R2 := fun x y H Q => ∃ d e z, RpB c H d x ∧ RpB c H e y ∧ ixD d e = some z ∧ ∀ v, Rp c H z v → Q v H
theorem ix_F : IxR X (rIxF c) := by
  intro va sl pins s σ H x y v u Q I rx ry h hs
  obtain ⟨d, e, z, h1, h2, h3, q⟩ := h
  unfold ixD at h3
  split at h3
  · split at h3
    · split at h3
      · rename_i i _ t hz
        cases ea : atI t.cps.toList i with
        | none => rw [ea] at h3; cases h3
        | some k =>
          rw [ea] at h3
          cases h3
          exact ix_str va sl pins s σ H x y v u Q I rx ry ⟨t, i, k, h1.str, h2.int, hz, ea, q _ (.str _)⟩ hs
      · cases h3
    · rename_i i _ _
      cases ea : d.asQ with
      | none => rw [ea] at h3; cases h3
      | some ds =>
        rw [ea] at h3
        obtain ⟨a, vs, rfl, hq, r⟩ := h1.asQ ea
        obtain ⟨w, e1, e2⟩ := atI_rep r h3
        rcases hq with hq | hq
        · exact ix_list va sl pins s σ H _ y v u Q I rx ry ⟨a, vs, i, w, rfl, h2.int, .inl hq, e1, q _ e2⟩ hs
        · exact ix_tup va sl pins s σ H _ y v u Q I rx ry ⟨a, vs, i, w, rfl, h2.int, hq.t, e1, q _ e2⟩ hs
  · cases h3
variable {F : Fc} {e a b o : Expr} {f g h : Ex} {pos p2 : Pos} {es : List Expr} {r : Env → M (List D)}
theorem f_ix (ha : FE X F a f) (hb : FE X F b g) (hs : PlainIx b) : FN X F (.Subscript a b pos) (eOp ixD f g) := PEi (pe_ix (ix_F (c := F.c)) ha hb hs) fun σ H Q ⟨ρ, h⟩ => by
  refine ⟨ρ, (At.bind bkN h).mono fun x H1 ⟨s1, d, r1, h2⟩ => ⟨ρ, (At.bind bkN h2).mono fun y H2 ⟨s2, e, r2, h3⟩ => ?_⟩⟩
  obtain ⟨z, π, hd, ez, q⟩ := h3.lift
  obtain ⟨π0, p0⟩ := hd.pen0
  exact ⟨d, e, z, (r1.stp p0 s2).b, r2.b, ez, fun v rn => q v H2 hd (.refl _ _) (.inl rn)⟩
/-! ### slices -/
def cutL {α : Type} (xs : List α) (lo hi : Option Int) : List α := (xs.drop (HT.sIx xs.length 0 lo)).take (HT.sIx xs.length xs.length hi - HT.sIx xs.length 0 lo)
theorem cutL_rep {H : Hp} {ds : List D} {vs : List V} (r : Rps c H ds vs) (lo hi : Option Int) : Rps c H (cutL ds lo hi) (cutV vs lo hi) := by
  unfold cutL cutV
  rw [← r.length]
  exact (r.drop _).take _
def slD (x : D) (lo hi : Option Int) : Option D := match x with
  | .str z => if z.length ≤ sizeLine then some (.str (cutS z lo hi)) else none
  | .tup ds => some (.tup (cutL ds lo hi))
  | .lst ds => some (.own (cutL ds lo hi))
  | .own ds => some (.own (cutL ds lo hi))
  | _ => none
def rSlG (c : Rc) : V → Option Int → Option Int → Hp → VK → Prop := fun x lo hi H Q => ∃ d z, RpB c H d x ∧ slD d lo hi = some z ∧ ∀ v H', Same H H' → RpN c H H' z v → Q v H'
theorem sl_R : SlR X (fun x lo hi H Q => ∃ a xs, x = .ref a ∧ Rd H a (.lst xs) ∧ ∀ p, H p = none → Q (.ref p) (upd H p (.lst (cutV xs lo hi)))) := by
  intro pins s σ H x v vl vu lo hi sl Q I rx hs pl pu ⟨a, xs, e, h, q⟩
  exact sl_list pins s σ H x v vl vu lo hi sl Q I rx hs pl pu ⟨a, xs, e, .inl h, q⟩
theorem sl_G : SlR X (rSlG c) := by
  intro pins s σ H x v vl vu lo hi sl Q I rx hs pl pu h
  obtain ⟨d, z, h1, h3, q⟩ := h
  unfold slD at h3
  split at h3
  · obtain ⟨hz, rfl⟩ := if_some h3
    exact sl_str pins s σ H x v vl vu lo hi sl Q I rx hs pl pu ⟨_, h1.str, hz, fin q (.str _)⟩
  · cases h3
    obtain ⟨a, vs, rfl, ht, r⟩ := h1.tup
    exact sl_tupF pins s σ H _ v vl vu lo hi sl Q I rx hs pl pu ⟨a, vs, rfl, ht, fun t H' s t' => q _ _ s (.inl (.tup t' ((cutL_rep r lo hi).kp (.of s))))⟩
  · cases h3
    obtain ⟨a, vs, rfl, ht, r⟩ := h1.lst
    exact sl_R pins s σ H _ v vl vu lo hi sl Q I rx hs pl pu ⟨a, vs, rfl, ht, fun p np => by
      obtain ⟨s, n⟩ := newL (c := c) np (cutL_rep r lo hi)
      exact q _ _ s n⟩
  · cases h3
    obtain ⟨a, vs, rfl, ht, r⟩ := h1.own
    exact sl_R pins s σ H _ v vl vu lo hi sl Q I rx hs pl pu ⟨a, vs, rfl, ht, fun p np => by
      obtain ⟨s, n⟩ := newL (c := c) np (cutL_rep r lo hi)
      exact q _ _ s n⟩
  · cases h3
abbrev RO : RX (Option Int) (Option Int) := fun _ _ b k => b = k
abbrev FO (X : Cx) (F : Fc) (e : Option Expr) (f : Env → M (Option Int)) : Prop := PO X e (tX F RO f)
theorem bkO {F : Fc} : Bk F RO := fun _ _ _ _ _ _ _ _ _ _ _ _ h => h
def oNone : Env → M (Option Int) := fun _ => M.ret none
def asI (d : D) : Option Int := match d with
  | .int i => some i
  | _ => none
theorem asI_some {d : D} {i : Int} (h : asI d = some i) : d = .int i := by
  unfold asI at h
  split at h
  · cases h; rfl
  · cases h
def oSome (f : Ex) : Env → M (Option Int) := fun ρ => (f ρ).bind fun d => M.lift ((asI d).map some)
theorem o_none : FO X F none oNone := ⟨fun pins s σ H Q I h => po_none.run pins s σ H Q I (by
  obtain ⟨ρ, π, hd, q⟩ := h
  exact q none H hd (.refl _ _) rfl)⟩
theorem o_some (ha : FE X F e f) : FO X F (some e) (oSome f) := ⟨fun pins s σ H Q I h => (po_some ha).run pins s σ H Q I (by
  obtain ⟨ρ, h⟩ := h
  refine ⟨ρ, (At.bind bkO h).mono fun x H1 ⟨s1, d, r1, h2⟩ => ?_⟩
  obtain ⟨z, π, hd, ez, q⟩ := h2.lift
  cases hi : asI d with
  | none => rw [hi] at ez; cases ez
  | some i =>
    rw [hi] at ez
    cases ez
    cases asI_some hi
    exact ⟨i, r1.b.int, q _ H1 hd (.refl _ _) rfl⟩)⟩
def eSl (f : Ex) (l h : Env → M (Option Int)) : Ex := fun ρ => (f ρ).bind fun d => (l ρ).bind fun lo => (h ρ).bind fun hi => M.lift (slD d lo hi)
theorem f_slice {lo hi : Option Expr} {l u : Env → M (Option Int)} (ha : FE X F e f) (hl : FO X F lo l) (hu : FO X F hi u) : FN X F (.Subscript e (.Slice lo hi none p2) pos) (eSl f l u) := PEi (pe_slice (sl_G (c := F.c)) ha hl hu) fun σ H Q ⟨ρ, h⟩ => by
  refine ⟨ρ, (At.bind bkN h).mono fun x H1 ⟨s1, d, r1, h2⟩ => ⟨ρ, (At.bind bkN h2).mono fun y H2 ⟨s2, lo, r2, h3⟩ => ⟨ρ, (At.bind bkN h3).mono fun z H3 ⟨s3, hi, r3, h4⟩ => ?_⟩⟩⟩
  obtain ⟨z', π, hd, ez, q⟩ := h4.lift
  obtain ⟨π0, p0⟩ := hd.pen0
  cases r2
  cases r3
  exact ⟨d, z', ((r1.stp p0 s2).stp p0 s3).b, ez, fun v H' s rn => q v H' (hd.same s) (.of s) rn⟩
/-- xs[::-1] -/
def revT : D → Option D
  | .tup ds => some (.tup ds.reverse)
  | _ => none
def revL (d : D) : Option D := d.asL.map fun ds => .own ds.reverse
theorem f_revT {k : Nat} {p1 p3 p4 : Pos} (ha : FE X F e f) : FN X F (.Subscript e (.Slice none none (some (.UnaryOp .USub (.Constant (.int 1) k p1) p4)) p3) pos) (eUn revT f) := PEi (pe_revT ha) fun σ H Q ⟨ρ, h⟩ => by
  refine ⟨ρ, (At.bind bkN h).mono fun x H1 ⟨s1, d, r1, h2⟩ => ?_⟩
  obtain ⟨z, π, hd, ez, q⟩ := h2.lift
  unfold revT at ez
  split at ez
  · cases ez
    obtain ⟨a, vs, rfl, ht, r⟩ := r1.b.tup
    exact ⟨a, vs, rfl, ht, fun t H' s t' => q _ _ (hd.same s) (.of s) (.inl (.tup t' (r.reverse.kp (.of s))))⟩
  · cases ez
theorem f_revL (hK : X.K = F.c.K) {k : Nat} {p1 p3 p4 : Pos} (ha : FE X F e f) : FN X F (.Subscript e (.Slice none none (some (.UnaryOp .USub (.Constant (.int 1) k p1) p4)) p3) pos) (eUn revL f) := PEi (pe_revLK hK ha) fun σ H Q ⟨ρ, h⟩ => by
  refine ⟨ρ, (At.bind bkN h).mono fun x H1 ⟨s1, d, r1, h2⟩ => ?_⟩
  obtain ⟨z, π, hd, ez, q⟩ := h2.lift
  unfold revL at ez
  cases ea : d.asL with
  | none => rw [ea] at ez; cases ez
  | some ds =>
    rw [ea] at ez
    cases ez
    obtain ⟨a, vs, rfl, ht, r⟩ := r1.b.asL ea
    refine ⟨a, vs, rfl, .inl ht, fun p np => ?_⟩
    obtain ⟨s, n⟩ := newL (c := F.c) np r.reverse
    exact q _ _ (hd.same s) (.of s) n
/-! ### built-in functions by values -/
def RpBs (c : Rc) (H : Hp) : List D → List V → Prop := Paired (RpB c H)
def rF (c : Rc) (o : List D → Option D) : List V → Hp → VK → Prop := fun xs H Q => ∃ ds z, RpBs c H ds xs ∧ o ds = some z ∧ ∀ v H', Same H H' → RpN c H H' z v → Q v H'
def eFn (o : List D → Option D) (r : Env → M (List D)) : Ex := fun ρ => (r ρ).bind fun ds => M.lift (o ds)
theorem rF_of {o : List D → Option D} {σ : St} {H : Hp} {Q : VK} (h : tE F F.RN (eFn o r) σ H Q) : tX F F.RA r σ H (fun vs H1 => rF F.c o vs H1 Q) := by
  obtain ⟨ρ, h⟩ := h
  refine ⟨ρ, (At.bind bkN h).mono fun xs H1 ⟨s1, ds, r1, h2⟩ => ?_⟩
  obtain ⟨z, π, hd, ez, q⟩ := h2.lift
  exact ⟨ds, z, PairedM r1 fun _ _ t => t.b, ez, fun v H' s rn => q v H' (hd.same s) (.of s) rn⟩
theorem f_callB {id : String} {x : Str} {p : Pos} {o : List D → Option D} (hc : CallR X (.builtin id) (rF F.c o)) (hg : Gl X x) (hm : X.mg x = none) (hv : bootBuiltins x = some (.builtin id)) (ha : FA X F (e :: es) r) (hn : x ≠ "__name__" := by decide) (hdb : (x == ("__debug__" : Str)) = false := by decide)
    (he : starEach (e :: es) X.env = (false, eval e X.env) :: starEach es X.env := by rfl) (hpl : (backTo pos (starEach es X.env)).any (·.1) = false := by rfl) : FN X F (.Call (.Name x p) (e :: es) [] pos) (eFn o r) :=
  PEi (pe_callB hc hg hm hv ha hn hdb he hpl) fun σ H Q h => rF_of h
theorem f_callTy {T : String} {x : Str} {p : Pos} {o : List D → Option D} (hc : CallR X (.type T) (rF F.c o)) (hg : Gl X x) (hm : X.mg x = none) (hv : bootBuiltins x = some (.type T)) (ha : FA X F (e :: es) r) (hn : x ≠ "__name__" := by decide) (hdb : (x == ("__debug__" : Str)) = false := by decide)
    (he : starEach (e :: es) X.env = (false, eval e X.env) :: starEach es X.env := by rfl) (hpl : (backTo pos (starEach es X.env)).any (·.1) = false := by rfl) : FN X F (.Call (.Name x p) (e :: es) [] pos) (eFn o r) :=
  PEi (pe_callTy hc hg hm hv ha hn hdb he hpl) fun σ H Q h => rF_of h
theorem call_by {f : Value} {o : List D → Option D} {r : List V → Hp → VK → Prop} (h : CallR X f r) (i : ∀ H xs Q ds z, RpBs c H ds xs → o ds = some z → (∀ v H', Same H H' → RpN c H H' z v → Q v H') → r xs H Q) : CallR X f (rF c o) := by
  intro pins s σ H xs us Q I r h'
  obtain ⟨ds, z, h1, h2, q⟩ := h'
  exact h pins s σ H xs us Q I r (i H xs Q ds z h1 h2 q)
theorem bs1 {H : Hp} {d : D} {xs : List V} (h : RpBs c H [d] xs) : ∃ x, xs = [x] ∧ RpB c H d x := by
  cases h with
  | cons h t =>
    cases t
    exact ⟨_, rfl, h⟩
theorem bs2 {H : Hp} {d e : D} {xs : List V} (h : RpBs c H [d, e] xs) : ∃ x y, xs = [x, y] ∧ RpB c H d x ∧ RpB c H e y := by
  cases h with
  | cons h t =>
    cases t with
    | cons h' t =>
      cases t
      exact ⟨_, _, rfl, h, h'⟩
def lenD : List D → Option D
  | [.str z] => if z.length ≤ sizeLine then some (.int z.length) else none
  | [.scr n] => some (.int n)
  | [d] => d.asQ.map fun ds => .int ds.length
  | _ => none
theorem call_lenF (hK : X.K = c.K) : CallR X (.builtin "len") (rF c lenD) := call_by (CallR.or call_len_str (call_lenK (K := c.K) hK)) fun H xs Q ds z h1 h2 q => by
  unfold lenD at h2
  split at h2
  · obtain ⟨hz, rfl⟩ := if_some h2
    obtain ⟨x, rfl, hx⟩ := bs1 h1
    exact .inl ⟨_, by rw [hx.str], hz, fin q (.int _)⟩
  · cases h2
    obtain ⟨x, rfl, hx⟩ := bs1 h1
    rcases hx with hx | ⟨_, _, _, hx, _⟩
    · cases hx with
      | scr hs =>
        obtain ⟨vs, hl, hq⟩ := hs.sq
        rw [← hl] at q
        exact .inr ⟨_, vs, rfl, .inl hq, fin q (.int _)⟩
    · cases hx
  · rename_i d _ _
    obtain ⟨x, rfl, hx⟩ := bs1 h1
    cases ea : d.asQ with
    | none => rw [ea] at h2; cases h2
    | some es =>
      rw [ea] at h2
      cases h2
      obtain ⟨a, vs, rfl, hq, r⟩ := hx.asQ ea
      have q' := fin q (.int _)
      rw [r.length] at q'
      exact .inr ⟨a, vs, rfl, sqK hq, q'⟩
  · cases h2
def listD : List D → Option D
  | [d] => d.asQ.map .own
  | _ => none
theorem call_listF : CallR X (.type "list") (rF c listD) := call_by (call_listK (K := X.K) rfl) fun H xs Q ds z h1 h2 q => by
  unfold listD at h2
  split at h2
  · rename_i d
    obtain ⟨x, rfl, hx⟩ := bs1 h1
    cases ea : d.asQ with
    | none => rw [ea] at h2; cases h2
    | some es =>
      rw [ea] at h2
      cases h2
      obtain ⟨a, vs, rfl, hq, r⟩ := hx.asQ ea
      refine ⟨a, vs, rfl, sqK hq, fun p np => ?_⟩
      obtain ⟨s, n⟩ := newL (c := c) np r
      exact q _ _ s n
  · cases h2
def tupleD : List D → Option D
  | [d] => d.asQ.map .tup
  | _ => none
theorem call_tupleG : CallR X (.type "tuple") (rF c tupleD) := call_by (call_tupleF (K := X.K) rfl) fun H xs Q ds z h1 h2 q => by
  unfold tupleD at h2
  split at h2
  · rename_i d
    obtain ⟨x, rfl, hx⟩ := bs1 h1
    cases ea : d.asQ with
    | none => rw [ea] at h2; cases h2
    | some es =>
      rw [ea] at h2
      cases h2
      obtain ⟨a, vs, rfl, hq, r⟩ := hx.asQ ea
      exact ⟨a, vs, rfl, hq.imp .inl id, fun t H' s t' => q _ _ s (.inl (.tup t' (r.kp (.of s))))⟩
  · cases h2
def absD : List D → Option D
  | [.int i] => some (.int (if i < 0 then -i else i))
  | _ => none
theorem call_absF : CallR X (.builtin "abs") (rF c absD) := call_by call_abs fun H xs Q ds z h1 h2 q => by
  unfold absD at h2
  split at h2
  · cases h2
    obtain ⟨x, rfl, hx⟩ := bs1 h1
    exact ⟨_, by rw [hx.int], fin q (.int _)⟩
  · cases h2
def intD : List D → Option D
  | [.int i] => some (.int i)
  | [.bl b] => some (.int (if b then 1 else 0))
  | _ => none
theorem call_intF : CallR X (.type "int") (rF c intD) := call_by call_int1 fun H xs Q ds z h1 h2 q => by
  unfold intD at h2
  split at h2
  · cases h2
    obtain ⟨x, rfl, hx⟩ := bs1 h1
    exact .inl ⟨_, by rw [hx.int], fin q (.int _)⟩
  · cases h2
    obtain ⟨x, rfl, hx⟩ := bs1 h1
    exact .inr ⟨_, by rw [hx.bl], fin q (.int _)⟩
  · cases h2
def D.ints : List D → Option (List Int)
  | [] => some []
  | .int i :: ds => (D.ints ds).map fun ns => i :: ns
  | _ => none
def D.bls : List D → Option (List Bool)
  | [] => some []
  | .bl i :: ds => (D.bls ds).map fun ns => i :: ns
  | _ => none
theorem ints_eq : ∀ {ds : List D} {ns : List Int}, D.ints ds = some ns → ds = ns.map .int
  | [], _, h => by cases h; rfl
  | d :: ds, _, h => by
    cases d with
    | int i =>
      cases e : D.ints ds with
      | none => simp [D.ints, e] at h
      | some ms =>
        simp [D.ints, e] at h
        subst h
        rw [ints_eq e]
        rfl
    | _ => simp [D.ints] at h
theorem bls_eq : ∀ {ds : List D} {ns : List Bool}, D.bls ds = some ns → ds = ns.map .bl
  | [], _, h => by cases h; rfl
  | d :: ds, _, h => by
    cases d with
    | bl i =>
      cases e : D.bls ds with
      | none => simp [D.bls, e] at h
      | some ms =>
        simp [D.bls, e] at h
        subst h
        rw [bls_eq e]
        rfl
    | _ => simp [D.bls] at h
theorem ints_map : ∀ ns : List Int, D.ints (ns.map .int) = some ns
  | [] => rfl
  | n :: ns => by simp [D.ints, ints_map ns]
theorem bls_map : ∀ ns : List Bool, D.bls (ns.map .bl) = some ns
  | [] => rfl
  | n :: ns => by simp [D.bls, bls_map ns]
theorem Rps.toInts {H : Hp} : ∀ {ns : List Int} {vs : List V}, Rps c H (ns.map .int) vs → vs = ns.map .int
  | [], _, .nil => rfl
  | n :: ns, _, .cons r t => by
    cases r
    rw [Rps.toInts t]
    rfl
theorem Rps.toBls {H : Hp} : ∀ {ns : List Bool} {vs : List V}, Rps c H (ns.map .bl) vs → vs = ns.map .bl
  | [], _, .nil => rfl
  | n :: ns, _, .cons r t => by
    cases r
    rw [Rps.toBls t]
    rfl
def minD : List D → Option D
  | [.int i, .int j] => some (.int (if j < i then j else i))
  | _ => none
def maxD : List D → Option D
  | [.int i, .int j] => some (.int (if j > i then j else i))
  | _ => none
theorem call_minF (hc : X.calm = true) : CallR X (.builtin "min") (rF c minD) := call_by (call_min2 hc) fun H xs Q ds z h1 h2 q => by
  unfold minD at h2
  split at h2
  · cases h2
    obtain ⟨x, y, rfl, hx, hy⟩ := bs2 h1
    exact ⟨_, _, by rw [hx.int, hy.int], fin q (.int _)⟩
  · cases h2
theorem call_maxF (hc : X.calm = true) : CallR X (.builtin "max") (rF c maxD) := call_by (call_max2 hc) fun H xs Q ds z h1 h2 q => by
  unfold maxD at h2
  split at h2
  · cases h2
    obtain ⟨x, y, rfl, hx, hy⟩ := bs2 h1
    exact ⟨_, _, by rw [hx.int, hy.int], fin q (.int _)⟩
  · cases h2
def sumD : List D → Option D
  | [d] => d.asL.bind fun ds => (D.ints ds).map fun ns => .int ns.sum
  | _ => none
def allD : List D → Option D
  | [d] => d.asL.bind fun ds => (D.bls ds).map fun ns => .bl (ns.all id)
  | _ => none
def anyD : List D → Option D
  | [d] => d.asL.bind fun ds => (D.bls ds).map fun ns => .bl (ns.any id)
  | _ => none
theorem call_sumF (hc : X.calm = true) : CallR X (.builtin "sum") (rF c sumD) := call_by (cr_sum hc) fun H xs Q ds z h1 h2 q => by
  unfold sumD at h2
  split at h2
  · rename_i d
    obtain ⟨x, rfl, hx⟩ := bs1 h1
    cases ea : d.asL with
    | none => rw [ea] at h2; cases h2
    | some es =>
      rw [ea] at h2
      cases eb : D.ints es with
      | none => simp [eb] at h2
      | some ns =>
        simp [eb] at h2
        subst h2
        cases ints_eq eb
        obtain ⟨a, vs, rfl, hq, r⟩ := hx.asL ea
        cases r.toInts
        exact ⟨a, ns, rfl, .inl hq, fin q (.int _)⟩
  · cases h2
theorem call_allF (hc : X.calm = true) : CallR X (.builtin "all") (rF c allD) := call_by (cr_all hc) fun H xs Q ds z h1 h2 q => by
  unfold allD at h2
  split at h2
  · rename_i d
    obtain ⟨x, rfl, hx⟩ := bs1 h1
    cases ea : d.asL with
    | none => rw [ea] at h2; cases h2
    | some es =>
      rw [ea] at h2
      cases eb : D.bls es with
      | none => simp [eb] at h2
      | some ns =>
        simp [eb] at h2
        subst h2
        cases bls_eq eb
        obtain ⟨a, vs, rfl, hq, r⟩ := hx.asL ea
        cases r.toBls
        exact ⟨a, ns, rfl, .inl hq, fin q (.bl _)⟩
  · cases h2
theorem call_anyF (hc : X.calm = true) : CallR X (.builtin "any") (rF c anyD) := call_by (cr_any hc) fun H xs Q ds z h1 h2 q => by
  unfold anyD at h2
  split at h2
  · rename_i d
    obtain ⟨x, rfl, hx⟩ := bs1 h1
    cases ea : d.asL with
    | none => rw [ea] at h2; cases h2
    | some es =>
      rw [ea] at h2
      cases eb : D.bls es with
      | none => simp [eb] at h2
      | some ns =>
        simp [eb] at h2
        subst h2
        cases bls_eq eb
        obtain ⟨a, vs, rfl, hq, r⟩ := hx.asL ea
        cases r.toBls
        exact ⟨a, ns, rfl, .inl hq, fin q (.bl _)⟩
  · cases h2
/-! ### list(range(..)), tuple(range(..)) -/
def rgD (a b : Int) : List D := (List.range (b - a).toNat).map fun i => .int (a + (i : Nat))
theorem rgD_rep {H : Hp} (a b : Int) : Rps c H (rgD a b) (rgV a b) := by
  have e1 : rgD a b = ((List.range (b - a).toNat).map fun (i : Nat) => a + (i : Int)).map D.int := by unfold rgD; rw [List.map_map]; rfl
  have e2 : rgV a b = ((List.range (b - a).toNat).map fun (i : Nat) => a + (i : Int)).map V.int := by unfold rgV; rw [List.map_map]; rfl
  rw [e1, e2]
  exact Rps.ints _
noncomputable instance (a b : Int) : Decidable (RgOk a b) := Classical.propDecidable _
/-- a range's ends -/
def rg1 (f : Ex) : Env → M (Int × Int) := fun ρ => (f ρ).bind fun d => M.lift ((asI d).map fun n => (0, n))
def rg2 (f g : Ex) : Env → M (Int × Int) := fun ρ => (f ρ).bind fun d => (g ρ).bind fun e => M.lift ((asI d).bind fun i => (asI e).map fun j => (i, j))
abbrev RG : RX (Int × Int) (Int × Int) := fun _ _ b k => b = k
theorem bkG {F : Fc} : Bk F RG := fun _ _ _ _ _ _ _ _ _ _ _ _ h => h
def FG (X : Cx) (F : Fc) (e : Expr) (f : Env → M (Int × Int)) : Prop := PRg X e (fun σ H Q => tX F RG f σ H fun p H1 => Q p.1 p.2 H1)
theorem PRgi {e : Expr} {t t' : St → Hp → (Int → Int → Hp → Prop) → Prop} (h : PRg X e t) (i : ∀ σ H Q, t' σ H Q → t σ H Q) : PRg X e t' := fun pins s σ H Q I hq => h pins s σ H Q I (i σ H Q hq)
theorem g_1 {p pos : Pos} (hg : Gl X "range") (hm : X.mg "range" = none) (ha : FE X F a f) (na : starEach [a] X.env = (false, eval a X.env) :: starEach [] X.env := by rfl) : FG X F (.Call (.Name "range" p) [a] [] pos) (rg1 f) := PRgi (prg_1 hg hm ha na) fun σ H Q ⟨ρ, h⟩ => by
  refine ⟨ρ, (At.bind bkG h).mono fun x H1 ⟨s1, d, r1, h2⟩ => ?_⟩
  obtain ⟨z, π, hd, ez, q⟩ := h2.lift
  cases hi : asI d with
  | none => rw [hi] at ez; cases ez
  | some i =>
    rw [hi] at ez
    cases ez
    cases asI_some hi
    exact ⟨i, r1.b.int, q (0, i) H1 hd (.refl _ _) rfl⟩
theorem g_2 {p pos : Pos} (hg : Gl X "range") (hm : X.mg "range" = none) (ha : FE X F a f) (hb : FE X F b g) (na : starEach [a, b] X.env = (false, eval a X.env) :: starEach [b] X.env := by rfl)
    (nb : starEach [b] X.env = (false, eval b X.env) :: starEach [] X.env := by rfl) (hp : (backTo pos (starEach [b] X.env)).any (·.1) = false := by rfl) : FG X F (.Call (.Name "range" p) [a, b] [] pos) (rg2 f g) := PRgi (prg_2 hg hm ha hb na nb hp) fun σ H Q ⟨ρ, h⟩ => by
  refine ⟨ρ, (At.bind bkG h).mono fun x H1 ⟨s1, d, r1, h2⟩ => ⟨ρ, (At.bind bkG h2).mono fun y H2 ⟨s2, e, r2, h3⟩ => ?_⟩⟩
  obtain ⟨z, π, hd, ez, q⟩ := h3.lift
  obtain ⟨π0, p0⟩ := hd.pen0
  cases hi : asI d with
  | none => rw [hi] at ez; cases ez
  | some i =>
    cases hj : asI e with
    | none => rw [hi, hj] at ez; cases ez
    | some j =>
      rw [hi, hj] at ez
      cases ez
      cases asI_some hi
      cases asI_some hj
      exact ⟨i, j, (r1.stp p0 s2).b.int, r2.b.int, q (i, j) H2 hd (.refl _ _) rfl⟩
noncomputable def eRgL (r : Env → M (Int × Int)) : Ex := fun ρ => (r ρ).bind fun p => M.lift (if RgOk p.1 p.2 then some (.own (rgD p.1 p.2)) else none)
noncomputable def eRgT (r : Env → M (Int × Int)) : Ex := fun ρ => (r ρ).bind fun p => M.lift (if RgOk p.1 p.2 then some (.tup (rgD p.1 p.2)) else none)
variable {rr : Env → M (Int × Int)}
theorem f_rgL {p pos : Pos} (hc : X.calm = true) (hg : Gl X "list") (hm : X.mg "list" = none) (he : FG X F e rr) (na : starEach [e] X.env = (false, eval e X.env) :: starEach [] X.env := by rfl) : FN X F (.Call (.Name "list" p) [e] [] pos) (eRgL rr) :=
  PEi (pe_listRg hc hg hm he na) fun σ H Q ⟨ρ, h⟩ => by
  refine ⟨ρ, (At.bind bkN h).mono fun x H1 ⟨s1, d, r1, h2⟩ => ?_⟩
  obtain ⟨z, π, hd, ez, q⟩ := h2.lift
  obtain ⟨ok, rfl⟩ := if_some ez
  cases r1
  refine ⟨ok, fun p np => ?_⟩
  obtain ⟨s, n⟩ := newL (c := F.c) np (rgD_rep _ _)
  exact q _ _ (hd.same s) (.of s) n
theorem f_rgT {p pos : Pos} (hc : X.calm = true) (hg : Gl X "tuple") (hm : X.mg "tuple" = none) (he : FG X F e rr) (na : starEach [e] X.env = (false, eval e X.env) :: starEach [] X.env := by rfl) : FN X F (.Call (.Name "tuple" p) [e] [] pos) (eRgT rr) :=
  PEi (pe_tupRgF hc hg hm he na) fun σ H Q ⟨ρ, h⟩ => by
  refine ⟨ρ, (At.bind bkN h).mono fun x H1 ⟨s1, d, r1, h2⟩ => ?_⟩
  obtain ⟨z, π, hd, ez, q⟩ := h2.lift
  obtain ⟨ok, rfl⟩ := if_some ez
  cases r1
  exact ⟨ok, fun t H' s t' => q _ _ (hd.same s) (.of s) (.inl (.tup t' ((rgD_rep _ _).kp (.of s))))⟩
end
end Fx
set_option Elab.async false
set_option maxRecDepth 100000
set_option linter.unusedVariables false
/-! Walks, targets, comprehensions. -/
namespace Fx
open PySem L2 Lw
/-- data, or a pair that a walk just laid -/
def RpW (c : Rc) (H : Hp) (d : D) (v : V) : Prop := Rp c H d v ∨ ∃ (ds : List D) (a : Addr) (vs : List V), d = .wtup ds ∧ v = .ref a ∧ H a = some (.tup vs) ∧ Rps c H ds vs
/-- the walk goes through ds -/
def Goes (c : Rc) (H' : Hp) (J : It) (ds : List D) : Prop := ∀ (i : Nat) (H'' : Hp), Kp H' H'' → (∀ d, ds[i]? = some d → J.go i H'' ∧ ∀ v H3, J.yld i H'' v H3 → Same H'' H3 ∧ RpW c H3 d v) ∧ (ds.length ≤ i → i ≤ ds.length → J.stop i H'')
abbrev Fc.RI (F : Fc) : RX (List D) It := fun _ H' ds J => Goes F.c H' J ds
theorem bkI {F : Fc} : Bk F F.RI := fun _ _ _ _ _ _ _ _ _ _ _ _ h => h
abbrev FI (X : Cx) (F : Fc) (tg e : Expr) (f : Env → M (List D)) : Prop := PI X tg e (tX F F.RI f)
theorem goes_at {c : Rc} {H' : Hp} {J : It} {ds : List D} {vs : List V} {G : Hp → Prop} (w : Walk J vs.length G (YAt vs)) (r : Rps c H' ds vs) (g : ∀ H'', Kp H' H'' → G H'') : Goes c H' J ds := fun i H'' k =>
  ⟨fun d hd => by
    have hi : i < vs.length := by
      have := (List.getElem?_eq_some_iff.mp hd).1
      rw [r.length] at this
      exact this
    refine ⟨w.goes i H'' hi (g H'' k), fun v H3 y => ?_⟩
    obtain ⟨rfl, hv⟩ := w.yields i H'' v H3 hi (g H'' k) y
    obtain ⟨u, hu, ru⟩ := r.get hd
    rw [hv] at hu
    cases hu
    exact ⟨Same.refl _, .inl (ru.kp k)⟩, fun h1 h2 => by
    have : i = vs.length := by rw [← r.length]; omega
    subst this
    exact w.stops H'' (g H'' k)⟩
def lockedQ : D → Option (List D)
  | .lst ds => some ds
  | .tup ds => some ds
  | _ => none
section
variable {X : Cx} {F : Fc} {e a b tg : Expr} {f g : Ex} {pos : Pos}
theorem frl_kp {K : PySem.W.Frag} {H : Hp} {a : Addr} {vs : List V} (h : ∃ o : Obj, H a = some (.frz o (.lst vs))) : ∀ H'', Kp H H'' → SqL K H'' a vs := fun H'' k => by
  obtain ⟨o, e⟩ := h
  exact .inl (.inr ⟨o, k _ _ e trivial⟩)
/-- over a list that does not change -/
def iL (f : Ex) : Env → M (List D) := fun ρ => (f ρ).bind fun d => M.lift (match d with
  | .lst ds => some ds
  | _ => none)
def iT (f : Ex) : Env → M (List D) := fun ρ => (f ρ).bind fun d => M.lift (match d with
  | .tup ds => some ds
  | _ => none)
def iS (f : Ex) : Env → M (List D) := fun ρ => (f ρ).bind fun d => M.lift (match d with
  | .str z => some (z.cps.toList.map fun k => .str ⟨#[k]⟩)
  | _ => none)
theorem lst_some {d : D} {ds : List D} (h : (match d with
  | .lst ds => some ds
  | _ => none) = some ds) : d = .lst ds := by
  split at h
  · cases h; rfl
  · cases h
theorem tup_some {d : D} {ds : List D} (h : (match d with
  | .tup ds => some ds
  | _ => none) = some ds) : d = .tup ds := by
  split at h
  · cases h; rfl
  · cases h
theorem Rp.lst' {c : Rc} {H : Hp} {ds : List D} {v : V} (h : RpB c H (.lst ds) v) : ∃ a vs, v = .ref a ∧ FrL H a vs ∧ Rps c H ds vs := by
  rcases h with h | ⟨_, _, _, h, _⟩
  · cases h with
    | lst h r => exact ⟨_, _, rfl, h, r⟩
  · cases h
theorem i_list (ha : FE X F e f) : FI X F tg e (iL f) := PIi (pi_list ha) fun σ H R ⟨ρ, h⟩ => by
  refine ⟨ρ, (At.bind bkI h).mono fun x H1 ⟨s1, d, r1, h2⟩ => ?_⟩
  obtain ⟨ds, π, hd, ez, q⟩ := h2.lift
  cases lst_some ez
  obtain ⟨a, vs, rfl, hf, r⟩ := Rp.lst' r1.b
  obtain ⟨o, ho, _⟩ := hf
  exact ⟨a, rfl, ⟨vs, .inl (.inr ⟨o, ho⟩)⟩, q _ H1 hd (.refl _ _) (goes_at walk_list r (frl_kp ⟨o, ho⟩))⟩
theorem i_tup (ha : FE X F e f) : FI X F tg e (iT f) := PIi (pi_tup ha) fun σ H R ⟨ρ, h⟩ => by
  refine ⟨ρ, (At.bind bkI h).mono fun x H1 ⟨s1, d, r1, h2⟩ => ?_⟩
  obtain ⟨ds, π, hd, ez, q⟩ := h2.lift
  cases tup_some ez
  obtain ⟨a, vs, rfl, hf, r⟩ := r1.b.tup
  exact ⟨a, rfl, ⟨vs, hf.t⟩, q _ H1 hd (.refl _ _) (goes_at walk_tup r fun H'' k => (tup_kp hf k).t)⟩
theorem i_str (ha : FE X F e f) : FI X F tg e (iS f) := PIi (pi_str ha) fun σ H R ⟨ρ, h⟩ => by
  refine ⟨ρ, (At.bind bkI h).mono fun x H1 ⟨s1, d, r1, h2⟩ => ?_⟩
  obtain ⟨ds, π, hd, ez, q⟩ := h2.lift
  split at ez
  · rename_i z
    cases ez
    refine ⟨z, r1.b.str, q _ H1 hd (.refl _ _) fun i H'' k => ⟨fun d hd => ?_, fun h1 h2 => ?_⟩⟩
    · rw [List.getElem?_map] at hd
      cases hk : z.cps.toList[i]? with
      | none => rw [hk] at hd; cases hd
      | some kk =>
        rw [hk] at hd
        cases hd
        have hi : i < z.cps.size := by simpa using (List.getElem?_eq_some_iff.mp hk).1
        refine ⟨walk_str.goes i H'' hi trivial, fun v H3 y => ?_⟩
        obtain ⟨rfl, c', hc, rfl⟩ := walk_str.yields i H'' v H3 hi trivial y
        have : c' = kk := by
          have e1 : z.cps.toList[i]? = z.cps[i]? := Array.getElem?_toList
          rw [e1, hc] at hk
          exact Option.some.inj hk
        subst this
        exact ⟨Same.refl _, .inl (.str _)⟩
    · have : i = z.cps.size := by simp at h1 h2; omega
      subst this
      exact walk_str.stops H'' trivial
  · cases ez
/-- range -/
noncomputable def iR1 (r : Env → M (List D)) : Env → M (List D) := fun ρ => (r ρ).bind fun ds => M.lift (match ds with
  | [.int j] => if Rg62 j then some (rgD 0 j) else none
  | _ => none)
noncomputable def iR2 (r : Env → M (List D)) : Env → M (List D) := fun ρ => (r ρ).bind fun ds => M.lift (match ds with
  | [.int i, .int j] => if Rg62b i j then some (rgD i j) else none
  | _ => none)
theorem goes_range {c : Rc} {H' : Hp} (i j : Int) : Goes c H' (Itr i (j - i).toNat) (rgD i j) := fun k H'' kp => by
  have hl : (rgD i j).length = (j - i).toNat := by unfold rgD; rw [List.length_map, List.length_range]
  refine ⟨fun d hd => ?_, fun h1 h2 => ?_⟩
  · have hk : k < (j - i).toNat := by rw [← hl]; exact (List.getElem?_eq_some_iff.mp hd).1
    refine ⟨walk_range.goes k H'' hk trivial, fun v H3 y => ?_⟩
    obtain ⟨rfl, rfl⟩ := walk_range.yields k H'' v H3 hk trivial y
    unfold rgD at hd
    rw [List.getElem?_map, List.getElem?_range hk] at hd
    cases hd
    exact ⟨Same.refl _, .inl (.int _)⟩
  · have : k = (j - i).toNat := by omega
    subst this
    exact walk_range.stops H'' trivial
theorem i_range1 {r : Env → M (List D)} {p pos : Pos} (hg : Gl X "range") (hm : X.mg "range" = none) (ha : FA X F [a] r) (hs : starEach [a] X.env = [(false, eval a X.env)] := by rfl) : FI X F tg (.Call (.Name "range" p) [a] [] pos) (iR1 r) :=
  PIi (pi_range1 hg hm ha hs) fun σ H R ⟨ρ, h⟩ => by
  refine ⟨ρ, (At.bind bkI h).mono fun xs H1 ⟨s1, ds, r1, h2⟩ => ?_⟩
  obtain ⟨es, π, hd, ez, q⟩ := h2.lift
  split at ez
  · rename_i j
    obtain ⟨⟨b1, b2⟩, rfl⟩ := if_some ez
    cases r1 with
    | cons h t =>
      cases t
      have := goes_range (c := F.c) (H' := H1) 0 j
      rw [Int.sub_zero] at this
      exact ⟨j, by rw [h.b.int], b1, b2, q _ H1 hd (.refl _ _) this⟩
  · cases ez
theorem i_range2 {r : Env → M (List D)} {p pos : Pos} (hg : Gl X "range") (hm : X.mg "range" = none) (ha : FA X F [a, b] r) (hs : starEach [a, b] X.env = [(false, eval a X.env), (false, eval b X.env)] := by rfl) (hs2 : starEach [b] X.env = [(false, eval b X.env)] := by rfl) : FI X F tg (.Call (.Name "range" p) [a, b] [] pos) (iR2 r) :=
  PIi (pi_range2 hg hm ha hs hs2) fun σ H R ⟨ρ, h⟩ => by
  refine ⟨ρ, (At.bind bkI h).mono fun xs H1 ⟨s1, ds, r1, h2⟩ => ?_⟩
  obtain ⟨es, π, hd, ez, q⟩ := h2.lift
  split at ez
  · rename_i i j
    obtain ⟨bs, rfl⟩ := if_some ez
    cases r1 with
    | cons h t =>
      cases t with
      | cons h' t =>
        cases t
        exact ⟨i, j, by rw [h.b.int, h'.b.int], bs, q _ H1 hd (.refl _ _) (goes_range i j)⟩
  · cases ez
/-- enumerate -/
def numD : Nat → List D → List D
  | _, [] => []
  | n, d :: ds => .wtup [.int n, d] :: numD (n + 1) ds
theorem numD_get : ∀ {ds : List D} {n i : Nat} {d : D}, (numD n ds)[i]? = some d → ∃ e, ds[i]? = some e ∧ d = .wtup [.int ((n + i : Nat) : Int), e]
  | [], n, i, d, h => by simp [numD] at h
  | e :: ds, n, 0, d, h => by
    simp [numD] at h
    exact ⟨e, rfl, by rw [← h]; rfl⟩
  | e :: ds, n, i + 1, d, h => by
    obtain ⟨e', h1, h2⟩ := numD_get (ds := ds) (n := n + 1) (i := i) (by simpa [numD] using h)
    exact ⟨e', by simpa using h1, by rw [h2]; simp; omega⟩
theorem numD_len : ∀ (ds : List D) (n : Nat), (numD n ds).length = ds.length
  | [], _ => rfl
  | d :: ds, n => by simp [numD, numD_len ds (n + 1)]
def iE (r : Env → M (List D)) : Env → M (List D) := fun ρ => (r ρ).bind fun ds => M.lift (match ds with
  | [d] => (lockedQ d).map (numD 0)
  | _ => none)
theorem goes_enum {c : Rc} {K : PySem.W.Frag} {H' : Hp} {J : It} {ds : List D} {vs : List V} {G : Hp → Prop} (w : Walk J vs.length G (YPair (fun i => some (.int (i : Nat))) (fun i => vs[i]?))) (r : Rps c H' ds vs) (g : ∀ H'', Kp H' H'' → G H'') : Goes c H' J (numD 0 ds) := fun i H'' k =>
  ⟨fun d hd => by
    obtain ⟨e, he, rfl⟩ := numD_get hd
    have hi : i < vs.length := by
      have := (List.getElem?_eq_some_iff.mp he).1
      rw [r.length] at this
      exact this
    refine ⟨w.goes i H'' hi (g H'' k), fun v H3 y => ?_⟩
    obtain ⟨T, x, y', rfl, hT, rfl, hx, hy⟩ := w.yields i H'' v H3 hi (g H'' k) y
    obtain ⟨u, hu, ru⟩ := r.get he
    cases hx
    have hu' : vs[i]? = some y' := hy
    rw [hu'] at hu
    cases hu
    refine ⟨same_new hT, .inr ⟨_, T, _, rfl, rfl, upd_same, .cons ?_ (.cons ((ru.kp k).kp (.of (same_new hT))) .nil)⟩⟩
    rw [Nat.zero_add]
    exact .int _, fun h1 h2 => by
    rw [numD_len] at h1 h2
    have : i = vs.length := by rw [← r.length]; omega
    subst this
    exact w.stops H'' (g H'' k)⟩
theorem i_enum {r : Env → M (List D)} {p pos tpos : Pos} {elts : List Expr} {kk : Nat} (hg : Gl X "enumerate") (hm : X.mg "enumerate" = none) (ha : FA X F [e] r) (hs : starEach [e] X.env = [(false, eval e X.env)] := by rfl) : FI X F (.Tuple elts kk tpos) (.Call (.Name "enumerate" p) [e] [] pos) (iE r) :=
  PIi (pi_enumA hg hm ha hs) fun σ H R ⟨ρ, h⟩ => by
  refine ⟨ρ, (At.bind bkI h).mono fun xs H1 ⟨s1, ds, r1, h2⟩ => ?_⟩
  obtain ⟨es, π, hd, ez, q⟩ := h2.lift
  split at ez
  · rename_i d
    cases r1 with
    | cons h t =>
      cases t
      cases el : lockedQ d with
      | none => rw [el] at ez; cases ez
      | some ds =>
        rw [el] at ez
        cases ez
        cases d with
        | lst es =>
          cases el
          obtain ⟨a, vs, rfl, hf, r⟩ := Rp.lst' h.b
          obtain ⟨o, ho, _⟩ := hf
          exact ⟨a, vs, rfl, .inl ⟨.inl (.inr ⟨o, ho⟩), q _ H1 hd (.refl _ _) (goes_enum (K := X.K) walk_enumL r (frl_kp ⟨o, ho⟩))⟩⟩
        | tup es =>
          cases el
          obtain ⟨a, vs, rfl, hf, r⟩ := h.b.tup
          exact ⟨a, vs, rfl, .inr ⟨hf.t, q _ H1 hd (.refl _ _) (goes_enum (K := X.K) walk_enumT r fun H'' k => (tup_kp hf k).t)⟩⟩
        | _ => cases el
  · cases ez
end
/-! ### targets -/
inductive Tg where
  | name (i : Nat)
  | tup (ts : List Tg)
mutual
def Tg.ix : Tg → List Nat
  | .name i => [i]
  | .tup ts => Tg.ixs ts
def Tg.ixs : List Tg → List Nat
  | [] => []
  | t :: ts => t.ix ++ Tg.ixs ts
end
def unpk : D → Option (List D)
  | .tup ds => some ds
  | .wtup ds => some ds
  | _ => none
mutual
def Tg.bind : Tg → D → Env → Option Env
  | .name i, d, ρ => if d.still then some (setV ρ i (some d)) else none
  | .tup ts, d, ρ => (unpk d).bind fun ds => Tg.binds ts ds ρ
def Tg.binds : List Tg → List D → Env → Option Env
  | [], [], ρ => some ρ
  | t :: ts, d :: ds, ρ => (t.bind d ρ).bind fun ρ' => Tg.binds ts ds ρ'
  | _, _, _ => none
end
/-- but for the places is the slots are as they were -/
def SameBut (is : List Nat) (σ σ' : St) : Prop := σ'.length = σ.length ∧ ∀ j, j ∉ is → σ'[j]? = σ[j]?
def tG (F : Fc) (t : Tg) : TG := fun v σ H Q => ∃ ρ π d ρ', FHd F ρ π σ H ∧ RpW F.c H d v ∧ t.bind d ρ = some ρ' ∧ ∀ σ', FHd F ρ' π σ' H → SameBut t.ix σ σ' → Q σ' H
def tGs (F : Fc) (ts : List Tg) : TGs := fun vs σ H Q => ∃ ρ π ds ρ', FHd F ρ π σ H ∧ Paired (RpW F.c H) ds vs ∧ Tg.binds ts ds ρ = some ρ' ∧ ∀ σ', FHd F ρ' π σ' H → SameBut (Tg.ixs ts) σ σ' → Q σ' H
abbrev FTg (X : Cx) (F : Fc) (e : Expr) (t : Tg) : Prop := PG X e (tG F t)
abbrev FTgs (X : Cx) (F : Fc) (es : List Expr) (ts : List Tg) : Prop := PGs X es (tGs F ts)
/-- a slot is set to data -/
theorem Hd.set {c : Rc} {H0 H : Hp} {ρ : Env} {π : Pn} {σ : St} {i : Nat} {d : D} {v : V} (h : Hd c H0 ρ π σ H) (r : Rp c H d v) : Hd c H0 (setV ρ i (some d)) π (σ.set i (some v)) H := by
  rw [setV_eq]
  refine ⟨by rw [List.length_set, List.length_set, h.len], fun j e he => ?_, fun j k ds es a hj hk sj sk => ?_, h.pen0, h.pen, h.stp⟩
  · by_cases hji : j = i
    · subst hji
      rw [List.getElem?_set] at he
      split at he
      · split at he
        · rename_i h1 h2
          cases he
          exact ⟨v, by rw [List.getElem?_set, if_pos rfl, if_pos (by rw [← h.len]; exact h2)], .inl r⟩
        · cases he
      · rename_i h1
        exact (h1 rfl).elim
    · rw [List.getElem?_set_ne (Ne.symm hji)] at he ⊢
      exact h.slot j e he
  · have ne : ∀ (j : Nat) (ds : List D), (ρ.set i (some d))[j]? = some (some (.own ds)) → j ≠ i := by
      rintro j ds hj rfl
      rw [List.getElem?_set] at hj
      split at hj
      · split at hj
        · cases hj
          have := r.still
          cases this
        · cases hj
      · rename_i h1
        exact h1 rfl
    have n1 := ne _ _ hj
    have n2 := ne _ _ hk
    rw [List.getElem?_set_ne (Ne.symm n1)] at hj sj
    rw [List.getElem?_set_ne (Ne.symm n2)] at hk sk
    exact h.apart j k ds es a hj hk sj sk
section
variable {X : Cx} {F : Fc} {es : List Expr} {e : Expr} {pos : Pos}
theorem RpW.still {c : Rc} {H : Hp} {d : D} {v : V} (h : RpW c H d v) (s : d.still = true) : Rp c H d v := by
  rcases h with h | ⟨ds, a, vs, rfl, _⟩
  · exact h
  · cases s
theorem sameBut_set (σ : St) (i : Nat) (v : Option V) : SameBut [i] σ (σ.set i v) := ⟨by rw [List.length_set], fun j hj => by
  rw [List.getElem?_set_ne]
  intro z
  exact hj (by simp [z])⟩
theorem tg_name {i : Nat} {x : Str} (hN : X.N.Nodup) (hi : X.N[i]? = some x) (hx : Loc X.env.scope x) (hf : X.fn x = true ∨ X.env.scope.names.lookup x = some .local := by first | exact .inl rfl | exact .inr rfl | assumption) : FTg X F (.Name x pos) (.name i) :=
  PGi (pg_name hN hi hx hf) fun v σ H Q ⟨ρ, π, d, ρ', hd, r, hb, q⟩ => by
  simp only [Tg.bind] at hb
  obtain ⟨hs, rfl⟩ := if_some hb
  exact q _ (hd.set (r.still hs)) (sameBut_set σ i _)
theorem tgs_nil : FTgs X F [] [] := ⟨fun pins s σ H vs us Q I rv ⟨ρ, π, ds, ρ', hd, r, hb, q⟩ => pgs_nil.run pins s σ H vs us Q I rv (by
  cases r with
  | nil =>
    cases hb
    exact ⟨rfl, q σ hd ⟨rfl, fun _ _ => rfl⟩⟩
  | cons _ _ => cases hb)⟩
theorem tgs_cons {t : Tg} {ts : List Tg} (h1 : FTg X F e t) (h2 : FTgs X F es ts) (hs : (assignEach (e :: es) X.env).map (·.2) = assign e X.env :: (assignEach es X.env).map (·.2) := by rfl) : FTgs X F (e :: es) (t :: ts) :=
  ⟨fun pins s σ H vs us Q I rv ⟨ρ, π, ds, ρ', hd, r, hb, q⟩ => (pgs_cons h1 h2 hs).run pins s σ H vs us Q I rv (by
  cases r with
  | nil => cases hb
  | @cons d v ds' vs' r1 rr =>
    have hb : ((t.bind d ρ).bind fun ρ' => Tg.binds ts ds' ρ') = some ρ' := hb
    cases e1 : t.bind d ρ with
    | none => rw [e1] at hb; cases hb
    | some ρ1 =>
      rw [e1] at hb
      refine ⟨v, vs', rfl, ρ, π, d, ρ1, hd, r1, e1, fun σ1 hd1 sb1 => ⟨ρ1, π, ds', ρ', hd1, rr, hb, fun σ2 hd2 sb2 => q σ2 hd2 ⟨sb2.1.trans sb1.1, fun j hj => ?_⟩⟩⟩
      have hj' : j ∉ t.ix ∧ j ∉ Tg.ixs ts := by
        have hj : j ∉ t.ix ++ Tg.ixs ts := hj
        exact ⟨fun z => hj (List.mem_append_left _ z), fun z => hj (List.mem_append_right _ z)⟩
      rw [sb2.2 j hj'.2, sb1.2 j hj'.1])⟩
theorem rps_w {c : Rc} {H : Hp} : ∀ {ds : List D} {vs : List V}, Rps c H ds vs → Paired (RpW c H) ds vs
  | _, _, .nil => .nil
  | _, _, .cons r t => .cons (.inl r) (rps_w t)
theorem tg_tup {k n : Nat} {ts : List Tg} (hK : X.K = F.c.K) (hc : X.calm = true) (h : FTgs X F es ts) (hl : ts.length = n := by rfl)
    (hn : (assignEach es X.env).length = n := by rfl) (hst : (assignEach es X.env).findIdx? (·.1) = none := by rfl) : FTg X F (.Tuple es k pos) (.tup ts) :=
  PGi (pg_tup hc h hn hst) fun v σ H Q ⟨ρ, π, d, ρ', hd, r, hb, q⟩ => by
  have hb : ((unpk d).bind fun ds => Tg.binds ts ds ρ) = some ρ' := hb
  have len : ∀ {ts : List Tg} {ds : List D} {ρ ρ' : Env}, Tg.binds ts ds ρ = some ρ' → ts.length = ds.length := by
    intro ts
    induction ts with
    | nil =>
      intro ds ρ ρ' h
      cases ds with
      | nil => rfl
      | cons _ _ => cases h
    | cons t ts ih =>
      intro ds ρ ρ' h
      cases ds with
      | nil => cases h
      | cons d ds =>
        have h : ((t.bind d ρ).bind fun ρ' => Tg.binds ts ds ρ') = some ρ' := h
        cases e1 : t.bind d ρ with
        | none => rw [e1] at h; cases h
        | some ρ1 =>
          rw [e1] at h
          simp [ih h]
  rcases r with r | ⟨ds, a, vs, rfl, rfl, e1, rs⟩
  · cases r with
    | @tup a vs ds ht rs =>
      have hb : Tg.binds ts ds ρ = some ρ' := hb
      exact ⟨a, vs, rfl, ht.t, by rw [← rs.length, ← len hb, hl], ρ, π, ds, ρ', hd, rps_w rs, hb, q⟩
    | _ => cases hb
  · have hb : Tg.binds ts ds ρ = some ρ' := hb
    exact ⟨a, vs, rfl, .of e1, by rw [← rs.length, ← len hb, hl], ρ, π, ds, ρ', hd, rps_w rs, hb, q⟩
end
end Fx
set_option Elab.async false
set_option maxRecDepth 100000
set_option linter.unusedVariables false
/-! Comprehensions. -/
namespace Fx
open PySem L2 Lw
def wipeE (ρ : Env) : List Nat → Env
  | [] => ρ
  | v :: vs => setV (wipeE ρ vs) v none
theorem Hd.drop {c : Rc} {H0 H : Hp} {ρ : Env} {π : Pn} {σ : St} (h : Hd c H0 ρ π σ H) (i : Nat) (w : Option V) : Hd c H0 (setV ρ i none) π (σ.set i w) H := by
  rw [setV_eq]
  have key : ∀ (j : Nat) (d : D), (ρ.set i none)[j]? = some (some d) → j ≠ i := by
    rintro j d hj rfl
    rw [List.getElem?_set] at hj
    split at hj
    · split at hj
      · cases hj
      · cases hj
    · rename_i h1
      exact h1 rfl
  refine ⟨by rw [List.length_set, List.length_set, h.len], fun j e he => ?_, fun j k ds es a hj hk sj sk => ?_, h.pen0, h.pen, h.stp⟩
  · have n := key j e he
    rw [List.getElem?_set_ne (Ne.symm n)] at he ⊢
    exact h.slot j e he
  · have n1 := key j _ hj
    have n2 := key k _ hk
    rw [List.getElem?_set_ne (Ne.symm n1)] at hj sj
    rw [List.getElem?_set_ne (Ne.symm n2)] at hk sk
    exact h.apart j k ds es a hj hk sj sk
theorem Hd.wipe {c : Rc} {H0 H : Hp} {ρ : Env} {π : Pn} {σ : St} (h : Hd c H0 ρ π σ H) : ∀ vs : List Nat, Hd c H0 (wipeE ρ vs) π (L2.wipe σ vs) H
  | [] => h
  | v :: vs => (Hd.wipe h vs).drop v none
theorem wipe_at : ∀ (σ : St) (vs : List Nat) (j : Nat), (L2.wipe σ vs)[j]? = if j ∈ vs then (σ[j]?).map (fun _ => none) else σ[j]?
  | σ, [], j => by simp [L2.wipe]
  | σ, v :: vs, j => by
    show ((L2.wipe σ vs).set v none)[j]? = _
    rw [List.getElem?_set]
    have hl := wipe_length σ vs
    by_cases h : v = j
    · subst h
      have hm : v ∈ v :: vs := by simp
      rw [if_pos rfl, if_pos hm]
      by_cases hj : v < (L2.wipe σ vs).length
      · rw [if_pos hj, List.getElem?_eq_getElem (by omega)]
        rfl
      · rw [if_neg hj, List.getElem?_eq_none (by omega)]
        rfl
    · rw [if_neg h, wipe_at σ vs j]
      have : (j ∈ v :: vs) ↔ j ∈ vs := by simp [Ne.symm h]
      by_cases hj : j ∈ vs
      · rw [if_pos hj, if_pos (this.mpr hj)]
      · rw [if_neg hj, if_neg fun z => hj (this.mp z)]
theorem wipe_same {σ σ2 : St} {is vs : List Nat} (sb : SameBut is (L2.wipe σ vs) σ2) (hs : ∀ i ∈ is, i ∈ vs) : L2.wipe σ2 vs = L2.wipe σ vs := by
  refine List.ext_getElem? fun j => ?_
  rw [wipe_at, wipe_at]
  by_cases hj : j ∈ vs
  · rw [if_pos hj, if_pos hj]
    have hl : σ2.length = σ.length := by rw [sb.1, wipe_length]
    by_cases h : j < σ.length
    · rw [List.getElem?_eq_getElem h, List.getElem?_eq_getElem (by omega)]
      rfl
    · rw [List.getElem?_eq_none (by omega), List.getElem?_eq_none (by omega)]
  · rw [if_neg hj, if_neg hj, sb.2 j fun z => hj (hs j z), wipe_at, if_neg hj]
/-- nothing raises -/
def calmM {α : Type} (m : M α) : M α := fun π => match m π with
  | some (.ok a, π') => some (.ok a, π')
  | _ => none
theorem RM_calm {α : Type} {m : M α} {π : Pn} {ok : α → Pn → Prop} {er er' : Xn → Pn → Prop} (h : RM (calmM m π) ok er) : RM (m π) ok er' := by
  unfold calmM at h
  cases e : m π with
  | none => rw [e] at h; exact h.elim
  | some r =>
    obtain ⟨x, π'⟩ := r
    cases x with
    | error x => rw [e] at h; exact h.elim
    | ok a => rw [e] at h; exact h
@[simp] theorem calm_ret {α : Type} (a : α) : calmM (M.ret a) = M.ret a := rfl
def compF (t : Tg) (cond : Env → M Bool) (elt : Ex) (ρ0 : Env) : List D → List D → M D
  | [], acc => M.ret (.own acc)
  | d :: ds, acc => (M.lift (t.bind d ρ0)).bind fun ρ' => (calmM (cond ρ')).bind fun b =>
      if b then (calmM (elt ρ')).bind fun y => (M.lift (if y.still = true ∧ acc.length < sizeLine then some () else none)).bind fun _ => compF t cond elt ρ0 ds (acc ++ [y]) else compF t cond elt ρ0 ds acc
def eComp (it : Env → M (List D)) (t : Tg) (cond : Env → M Bool) (elt : Ex) (vs : List Nat) : Ex := fun ρ => (it ρ).bind fun ds => compF t cond elt (wipeE ρ vs) ds []
def cYes : Env → M Bool := fun _ => M.ret true
abbrev FTs (X : Cx) (F : Fc) (ifs : List Expr) (f : Env → M Bool) : Prop := PTs X ifs (tX F RB f)
section
variable {X : Cx} {F : Fc}
theorem ts_nil : FTs X F [] cYes := ⟨fun pins s σ H Q I ⟨ρ, h⟩ => pts_nil.run pins s σ H Q I (by
  obtain ⟨π, hd, q⟩ := At.ret h
  exact q true H hd (.refl _ _) rfl)⟩
theorem ts_one {c : Expr} {f : Env → M Bool} (h : FT X F c f) : FTs X F [c] f := pts_one h
/-- a list that grows, which no slot holds -/
theorem Hd.upd {c : Rc} {H0 H Hs : Hp} {ρ : Env} {π πs : Pn} {σ : St} {D' : Addr} {xs ys : List V} (h : Hd c H0 ρ π σ H) (hD : H D' = some (.lst xs)) (hn : Hs D' = none) (hs : Hd c H0 ρ πs σ Hs) (st : Stp c Hs H) :
    Hd c H0 ρ π σ (upd H D' (.lst ys)) ∧ Stp c Hs (upd H D' (.lst ys)) := by
  have kp : Kp H (L2.upd H D' (.lst ys)) := fun b u hb z => by
    rw [upd_ne (by rintro rfl; rw [hD] at hb; cases hb; exact z.elim)]
    exact hb
  have s2 : Stp c Hs (L2.upd H D' (.lst ys)) := ⟨fun b u hb nq => by rw [upd_ne (ne_of_none hb hn)]; exact st.1 b u hb nq, st.2.trans kp⟩
  have pen : PenR c π (L2.upd H D' (.lst ys)) := fun q hq => by
    have h1 := hs.pen q hq
    have h2 := h.pen q hq
    rw [upd_ne (ne_of_none h1.1 hn), upd_ne (ne_of_none h1.2.1 hn)]
    exact h2
  exact ⟨hs.step s2 pen, s2⟩
theorem comp_read {it : Env → M (List D)} {t : Tg} {cond : Env → M Bool} {g : Ex} {vs : List Nat} (hx : ∀ i ∈ t.ix, i ∈ vs) {σ : St} {H : Hp} {Q : VK} (h0 : tE F F.RN (eComp it t cond g vs) σ H Q) :
    tLc (tX F F.RI it) (tG F.calm t) (tX F.calm RB cond) (tX F.calm F.calm.RR g) vs σ H Q := by
  obtain ⟨ρ, h⟩ := h0
  refine ⟨ρ, (At.bind bkN h).mono fun J H1 ⟨s1, ds, gs, h2⟩ D' hD => ?_⟩
  obtain ⟨π0, hd0, rm0⟩ := h2
  let W : Nat → Hp → Prop := fun i H'' => i ≤ ds.length ∧ ∃ π acc vacc, FHd F ρ π σ H'' ∧ H'' D' = some (.lst vacc) ∧ Rps F.c H'' acc vacc ∧ Stp F.c H1 H'' ∧ RM (compF t cond g (wipeE ρ vs) (ds.drop i) acc π) (Po F F.RN ρ σ H1 Q) (XP F ρ σ)
  refine ⟨fun i m H'' => m = ds.length - i ∧ W i H'', ⟨ds.length, by simp, Nat.zero_le _, π0, [], [], hd0.same (same_new hD), upd_same, .nil, .of (same_new hD), by simpa using rm0⟩, ?_⟩
  rintro i m H'' ⟨rfl, hi, π, acc, vacc, hd, hD'', ra, st, rm⟩
  by_cases hend : i = ds.length
  · subst hend
    rw [List.drop_length] at rm
    exact .inl ⟨(gs _ H'' st.2).2 (Nat.le_refl _) (Nat.le_refl _), rm (.ref D') H'' hd st (.inr ⟨acc, D', vacc, rfl, rfl, hD'', ra, hD⟩)⟩
  · have hlt : i < ds.length := by omega
    have hdi : ds[i]? = some ds[i] := List.getElem?_eq_getElem hlt
    obtain ⟨go, yld⟩ := (gs i H'' st.2).1 _ hdi
    refine .inr ⟨go, fun H' => W (i + 1) H', fun H' w => ⟨ds.length - (i + 1), by omega, rfl, w⟩, fun x H3 hy => ?_⟩
    obtain ⟨s3, rw3⟩ := yld x H3 hy
    rw [List.drop_eq_getElem_cons hlt] at rm
    obtain ⟨ρ', hb, rm⟩ := RM_lift.mp (RM_bind.mp rm)
    have hd3 := hd.same s3
    refine ⟨wipeE ρ vs, π, _, ρ', hd3.wipe vs, rw3, hb, fun σ2 hd2 sb => ⟨wipe_same sb hx, ρ', π, hd2, ?_⟩⟩
    refine (RM_calm (er' := XP F.calm ρ' σ2) (RM_bind.mp rm)).imp (fun b π1 h4 k H4 hd4 s4 rb => ?_) fun _ _ q => q
    cases rb
    have sD : ∀ {Hx Hy : Hp}, Stp F.c H1 Hx → Stp F.c Hx Hy → Hx D' = some (.lst vacc) → Hy D' = some (.lst vacc) := fun {Hx Hy} _ sy e => sy.1 _ _ e fun q hq z => by
      have p1 := (hd0.pen q hq).1
      rw [z, p1] at hD
      cases hD
    have st3 : Stp F.c H1 H3 := st.trans (.of s3)
    have st4 := st3.trans s4
    have hD4 := sD st3 s4 (s3 _ _ hD'')
    cases b with
    | false =>
      exact ⟨by omega, π1, acc, vacc, hd3.step s4 hd4.pen, hD4, (ra.kp (.of s3)).kp s4.2, st4, h4⟩
    | true =>
      have h4 : RM ((calmM (g ρ')).bind (fun y => (M.lift (if y.still = true ∧ acc.length < sizeLine then some () else none)).bind fun _ => compF t cond g (wipeE ρ vs) (ds.drop (i + 1)) (acc ++ [y])) π1) (Po F F.RN ρ σ H1 Q) (XP F ρ σ) := h4
      refine ⟨ρ', π1, hd4, (RM_calm (er' := XP F.calm ρ' σ2) (RM_bind.mp h4)).imp (fun y π2 h5 w H5 hd5 s5 ry => ?_) fun _ _ q => q⟩
      obtain ⟨_, eu, h5⟩ := RM_lift.mp (RM_bind.mp h5)
      obtain ⟨⟨hst, hsz⟩, _⟩ := if_some eu
      have st5 := st4.trans s5
      have hD5 := sD st4 s5 hD4
      have ra5 := ((ra.kp (.of s3)).kp s4.2).kp s5.2
      have hdo := (hd3.step s4 hd4.pen).step s5 hd5.pen
      obtain ⟨hd6, st6⟩ := hdo.upd (ys := vacc ++ [w]) hD5 hD hd0 st5
      have kp6 : Kp H5 (upd H5 D' (.lst (vacc ++ [w]))) := fun b u hb z => by
        rw [upd_ne (by rintro rfl; rw [hD5] at hb; cases hb; exact z.elim)]
        exact hb
      exact ⟨vacc, hD5, by rw [← ra.length]; exact hsz, by omega, π2, acc ++ [y], vacc ++ [w], hd6, upd_same, (ra5.kp kp6).append (.one ((ry.still hst).kp kp6)), st6, h5⟩
theorem f_comp {elt tg iter : Expr} {ifs : List Expr} {scope : Scope} {own : List (Str × Nat)} {pos : Pos} {it : Env → M (List D)} {t : Tg} {cond : Env → M Bool} {g : Ex} (hc : X.calm = true) (hN : X.N.Nodup) (hi : FI X F tg iter it) (ok : BlkOk X.N X.env.scope scope own) (hx : ∀ i ∈ t.ix, i ∈ own.map (·.2))
    (hg : ∀ (s : Shared) (H : Hp) (C : Addr) (cl : List (Str × Addr)) (fp : List Addr), FTg (X.blk s H scope (compEnvC scope cl C X.env) fp) F.calm tg t) (ht : ∀ (s : Shared) (H : Hp) (C : Addr) (cl : List (Str × Addr)) (fp : List Addr), FTs (X.blk s H scope (compEnvC scope cl C X.env) fp) F.calm ifs cond)
    (he : ∀ (s : Shared) (H : Hp) (C : Addr) (cl : List (Str × Addr)) (fp : List Addr), FE (X.blk s H scope (compEnvC scope cl C X.env) fp) F.calm elt g) (hs : ∀ x, foldedSetIterable iter X.env x = pure x := by intro _; rfl) :
    FN X F (.ListComp elt [⟨tg, iter, ifs, 0⟩] scope pos) (eComp it t cond g (own.map (·.2))) := PEi (pe_lc hc hN hi ok hg ht he hs) fun σ H Q h => comp_read hx h
end
end Fx
set_option Elab.async false
set_option maxRecDepth 100000
set_option linter.unusedVariables false
/-! Statements. -/
namespace Fx
open PySem L2 Lw
inductive Fl where
  | nx (ρ : Env) | rt (d : D) | bk (ρ : Env) | ct (ρ : Env) | er (x : Xn) (ρ : Env)
abbrev Sx := Env → M Fl
def M.orX {α : Type} (m : M α) (ρ : Env) (k : α → M Fl) : M Fl := fun π => match m π with
  | none => none
  | some (.error x, π') => some (.ok (.er x ρ), π')
  | some (.ok a, π') => k a π'
@[simp] theorem ret_orX {α : Type} (a : α) (ρ : Env) (k : α → M Fl) : (M.ret a).orX ρ k = k a := rfl
@[simp] theorem raise_orX {α : Type} (x : Xn) (ρ : Env) (k : α → M Fl) : (M.raise x : M α).orX ρ k = M.ret (.er x ρ) := rfl
def SPo (F : Fc) (H : Hp) (D : Ends) : Fl → Pn → Prop
  | .nx ρ', π' => ∀ σ' H', FHd F ρ' π' σ' H' → Kp H H' → D.nx σ' H'
  | .rt d, π' => ∀ v H', Stp F.c F.H0 H' → PenR F.c π' H' → RpN F.c F.H0 H' d v → D.rt v H'
  | .bk ρ', π' => ∀ σ' H', FHd F ρ' π' σ' H' → Kp H H' → D.bk σ' H'
  | .ct ρ', π' => ∀ σ' H', FHd F ρ' π' σ' H' → Kp H H' → D.ct σ' H'
  | .er x ρ', π' => ∀ σ' cls dx H', FHd F ρ' π' σ' H' → XR F.c F.mg H' x cls dx → F.W cls dx σ' H'
def SAt (F : Fc) (m : M Fl) (ρ : Env) (σ : St) (H : Hp) (D : Ends) : Prop := ∃ π, FHd F ρ π σ H ∧ RM (m π) (SPo F H D) (fun _ _ => False)
def tS (F : Fc) (g : Sx) : TS := fun D σ H => ∃ ρ, SAt F (g ρ) ρ σ H D
abbrev FS (X : Cx) (F : Fc) (st : Stmt) (g : Sx) : Prop := PS X st (tS F g)
abbrev FSs (X : Cx) (F : Fc) (sts : List Stmt) (g : Sx) : Prop := PSs X sts (tS F g)
section
variable {X : Cx} {F : Fc}
theorem SPo.on {H H1 : Hp} {D : Ends} (k : Kp H H1) : ∀ {f : Fl} {π : Pn}, SPo F H D f π → SPo F H1 D f π
  | .nx ρ', π', h => fun σ' H' a b => h σ' H' a (k.trans b)
  | .rt d, π', h => h
  | .bk ρ', π', h => fun σ' H' a b => h σ' H' a (k.trans b)
  | .ct ρ', π', h => fun σ' H' a b => h σ' H' a (k.trans b)
  | .er x ρ', π', h => h
theorem RM_orX {α : Type} {m : M α} {ρ : Env} {k : α → M Fl} {π : Pn} {ok : Fl → Pn → Prop} {er : Xn → Pn → Prop} : RM (m.orX ρ k π) ok er ↔ RM (m π) (fun a π' => RM (k a π') ok er) (fun x π' => ok (.er x ρ) π') := by
  unfold M.orX
  cases m π with
  | none => exact Iff.rfl
  | some r =>
    obtain ⟨e, π'⟩ := r
    cases e with
    | error x => exact Iff.rfl
    | ok a => exact Iff.rfl
/-- an expression ahead of the rest of a statement -/
theorem SAt.orX {α β : Type} {R : RX α β} {ρ : Env} {σ : St} {H : Hp} {D : Ends} {m : M α} {k : α → M Fl} (h : SAt F (m.orX ρ k) ρ σ H D) : At F R ρ m σ H (fun v H1 => Stp F.c H H1 ∧ ∃ d, R H H1 d v ∧ SAt F (k d) ρ σ H1 D) := by
  obtain ⟨π, hd, r⟩ := h
  exact ⟨π, hd, (RM_orX.mp r).imp (fun d π1 h1 v H1 hd1 s1 r1 => ⟨s1, d, r1, π1, hd1, h1.imp (fun f π2 h2 => h2.on s1.2) fun _ _ q => q⟩) fun x π1 q cls dx H' a b => q σ cls dx H' a b⟩
theorem SAt.ret {ρ : Env} {σ : St} {H : Hp} {D : Ends} {f : Fl} (h : SAt F (M.ret f) ρ σ H D) : ∃ π, FHd F ρ π σ H ∧ SPo F H D f π := h
theorem SAt.lift {ρ : Env} {σ : St} {H : Hp} {D : Ends} {o : Option Fl} (h : SAt F (M.lift o) ρ σ H D) : ∃ f π, o = some f ∧ FHd F ρ π σ H ∧ SPo F H D f π := by
  obtain ⟨π, hd, r⟩ := h
  obtain ⟨f, e, q⟩ := RM_lift.mp r
  exact ⟨f, π, e, hd, q⟩
/-! blocks -/
def Fl.go (f : Fl) (k : Sx) : M Fl := match f with
  | .nx ρ => k ρ
  | f => M.ret f
def sNil : Sx := fun ρ => M.ret (.nx ρ)
def sSeq (g h : Sx) : Sx := fun ρ => (g ρ).bind fun f => f.go h
theorem ss_nil : FSs X F [] sNil := PSsi pss_nil fun D σ H ⟨ρ, h⟩ => by
  obtain ⟨π, hd, q⟩ := h.ret
  exact q σ H hd (.refl _)
variable {st : Stmt} {sts : List Stmt} {g h : Sx}
/-- a part of a statement, then what hangs on how it ended -/
theorem RM_go {g : M Fl} {h : Sx} {π : Pn} {H : Hp} {D : Ends} (r : RM ((g.bind fun f => f.go h) π) (SPo F H D) fun _ _ => False) : RM (g π) (SPo F H { D with nx := fun σ' H' => tS F h D σ' H' }) (fun _ _ => False) :=
  (RM_bind.mp r).imp (fun f π1 q => by
    cases f with
    | nx ρ' => exact fun σ' H' hd k => ⟨ρ', π1, hd, RM.imp q (fun f π2 q => q.on k) fun _ _ q => q⟩
    | rt d => exact q
    | bk ρ' => exact q
    | ct ρ' => exact q
    | er x ρ' => exact q) fun _ _ q => q
theorem ss_cons (h1 : FS X F st g) (h2 : FSs X F sts h) : FSs X F (st :: sts) (sSeq g h) := PSsi (pss_cons h1 h2) fun D σ H ⟨ρ, π, hd, r⟩ => ⟨ρ, π, hd, RM_go r⟩
theorem ss_one (h1 : FS X F st g) : FSs X F [st] g := pss_one h1
/-- code that is never come to -/
theorem s_never : FS X F st (fun _ => M.lift none) := PSi ps_never fun D σ H ⟨ρ, h⟩ => by
  obtain ⟨f, π, e, _⟩ := h.lift
  cases e
theorem s_pass {pos : Pos} : FS X F (.Pass pos) sNil := PSi ps_pass fun D σ H ⟨ρ, h⟩ => by
  obtain ⟨π, hd, q⟩ := h.ret
  exact q σ H hd (.refl _)
def sBrk : Sx := fun ρ => M.ret (.bk ρ)
def sCnt : Sx := fun ρ => M.ret (.ct ρ)
theorem s_break {pos : Pos} : FS X F (.Break pos) sBrk := PSi ps_break fun D σ H ⟨ρ, h⟩ => by
  obtain ⟨π, hd, q⟩ := h.ret
  exact q σ H hd (.refl _)
theorem s_cont {pos : Pos} : FS X F (.Continue pos) sCnt := PSi ps_continue fun D σ H ⟨ρ, h⟩ => by
  obtain ⟨π, hd, q⟩ := h.ret
  exact q σ H hd (.refl _)
variable {e : Expr} {f : Ex} {pos : Pos}
def sDrop (f : Ex) : Sx := fun ρ => (f ρ).orX ρ fun _ => M.ret (.nx ρ)
theorem s_expr (he : FE X F e f) (hs : swapsWith e none pos.line X.env = pure false := by rfl) : FS X F (.Expr e pos) (sDrop f) := PSi (ps_expr he hs) fun D σ H ⟨ρ, h⟩ => by
  refine ⟨ρ, (SAt.orX h).mono fun v H1 ⟨s1, d, r1, h2⟩ => ?_⟩
  obtain ⟨π, hd, q⟩ := h2.ret
  exact q σ H1 hd (.refl _)
def sRet (f : Ex) : Sx := fun ρ => (f ρ).orX ρ fun d => M.ret (.rt d)
theorem s_ret (he : FE X F e f) : FS X F (.Return (some e) pos) (sRet f) := PSi (ps_ret he) fun D σ H ⟨ρ, h⟩ => by
  refine ⟨ρ, (SAt.orX h).mono fun v H1 ⟨s1, d, r1, h2⟩ => ?_⟩
  obtain ⟨π, hd, q⟩ := h2.ret
  exact q v H1 hd.stp hd.pen r1
theorem s_retN : FS X F (.Return none pos) (fun _ => M.ret (.rt .non)) := PSi ps_retN fun D σ H ⟨ρ, h⟩ => by
  obtain ⟨π, hd, q⟩ := h.ret
  exact q .non H hd.stp hd.pen (.inl .non)
def sIf (c : Env → M Bool) (g h : Sx) : Sx := fun ρ => (c ρ).orX ρ fun b => if b then g ρ else h ρ
theorem s_if {c : Expr} {a b : List Stmt} {p : Env → M Bool} (hc : FT X F c p) (ha : FSs X F a g) (hb : FSs X F b h) : FS X F (.If c a b pos) (sIf p g h) := PSi (ps_if hc ha hb) fun D σ H ⟨ρ, hh⟩ => by
  refine ⟨ρ, (SAt.orX hh).mono fun v H1 ⟨s1, d, r1, h2⟩ => ?_⟩
  cases r1
  cases v with
  | true => exact ⟨ρ, h2⟩
  | false => exact ⟨ρ, h2⟩
/-! ### slots -/
theorem Hd.setOwn {c : Rc} {H0 H : Hp} {ρ : Env} {π : Pn} {σ : St} {i : Nat} {ds : List D} {a : Addr} {vs : List V} (h : Hd c H0 ρ π σ H) (hi : i < ρ.length) (e : H a = some (.lst vs)) (r : Rps c H ds vs) (n : H0 a = none)
    (ap : ∀ j es, ρ[j]? = some (some (.own es)) → j ≠ i → σ[j]? ≠ some (some (.ref a))) : Hd c H0 (setV ρ i (some (.own ds))) π (σ.set i (some (.ref a))) H := by
  rw [setV_eq]
  have hi' : i < σ.length := by rw [← h.len]; exact hi
  refine ⟨by rw [List.length_set, List.length_set, h.len], fun j d he => ?_, fun j k es fs b hj hk sj sk => ?_, h.pen0, h.pen, h.stp⟩
  · by_cases hji : j = i
    · subst hji
      rw [List.getElem?_set_self hi] at he
      cases he
      exact ⟨_, List.getElem?_set_self hi', .inr ⟨ds, a, vs, rfl, rfl, e, r, n⟩⟩
    · rw [List.getElem?_set_ne (Ne.symm hji)] at he ⊢
      exact h.slot j d he
  · by_cases hji : j = i
    · by_cases hki : k = i
      · rw [hji, hki]
      · exfalso
        subst hji
        rw [List.getElem?_set_ne (Ne.symm hki)] at hk sk
        rw [List.getElem?_set_self hi'] at sj
        cases sj
        exact ap k _ hk hki sk
    · by_cases hki : k = i
      · exfalso
        subst hki
        rw [List.getElem?_set_ne (Ne.symm hji)] at hj sj
        rw [List.getElem?_set_self hi'] at sk
        cases sk
        exact ap j _ hj hji sj
      · rw [List.getElem?_set_ne (Ne.symm hji)] at hj sj
        rw [List.getElem?_set_ne (Ne.symm hki)] at hk sk
        exact h.apart j k es fs b hj hk sj sk
/-- an address that the slots of an earlier heap do not hold -/
theorem Hd.away {c : Rc} {H0 H : Hp} {ρ : Env} {π : Pn} {σ : St} {a : Addr} (h : Hd c H0 ρ π σ H) (n : H a = none) (j : Nat) (es : List D) (hj : ρ[j]? = some (some (.own es))) : σ[j]? ≠ some (some (.ref a)) := fun z => by
  obtain ⟨v, e1, r⟩ := h.slot j _ hj
  rw [z] at e1
  cases e1
  rcases r with r | ⟨_, a', _, _, e, e2, _⟩
  · cases r
  · cases e
    rw [n] at e2
    cases e2
theorem Hd.setN {c : Rc} {H0 H H1 : Hp} {ρ : Env} {π π0 : Pn} {σ : St} {i : Nat} {d : D} {v : V} (h : Hd c H0 ρ π σ H1) (h0 : Hd c H0 ρ π0 σ H) (s : Stp c H H1) (hi : i < ρ.length) (r : RpN c H H1 d v) : Hd c H0 (setV ρ i (some d)) π (σ.set i (some v)) H1 := by
  rcases r with r | ⟨ds, a, vs, rfl, rfl, e, rs, n⟩
  · exact h.set r
  · obtain ⟨π1, p1⟩ := h.pen0
    exact h.setOwn hi e rs (h0.stp.free p1 ⟨π0, h0.pen⟩ n) fun j es hj _ => h0.away n j es hj
def sSet (i : Nat) (f : Ex) : Sx := fun ρ => (f ρ).orX ρ fun d => M.lift (if i < ρ.length then some (.nx (setV ρ i (some d))) else none)
theorem s_set {i : Nat} {x : Str} {pos' : Pos} (hN : X.N.Nodup) (hi : X.N[i]? = some x) (hx : Loc X.env.scope x) (he : FN X F e f) (hs : swapsWith e (some (.Name x pos')) pos.line X.env = pure false := by rfl) (hf : X.fn x = true ∨ X.env.scope.names.lookup x = some .local := by first | exact .inl rfl | exact .inr rfl | assumption) :
    FS X F (.Assign [.Name x pos'] e pos) (sSet i f) := PSi (ps_set hN hi hx he hs hf) fun D σ H ⟨ρ, h⟩ => by
  obtain ⟨π0, hd0, rm0⟩ := h
  refine ⟨ρ, (SAt.orX (R := F.RN) ⟨π0, hd0, rm0⟩).mono fun v H1 ⟨s1, d, r1, h2⟩ => ?_⟩
  obtain ⟨fl, π, ef, hd, q⟩ := h2.lift
  obtain ⟨hlt, rfl⟩ := if_some ef
  exact q _ H1 (hd.setN hd0 s1 hlt r1) (.refl _)
/-- x = [..], a comprehension on one line -/
theorem s_setLc {elt tg iter : Expr} {ifs : List Expr} {scope : Scope} {own : List (Str × Nat)} {i : Nat} {y : Str} {py spos : Pos} {it : Env → M (List D)} {t : Tg} {cond : Env → M Bool} {g : Ex} (hc : X.calm = true) (hN : X.N.Nodup) (hy : X.N[i]? = some y) (hyl : X.env.scope.names.lookup y = some .local)
    (hsw : swapsWith (.ListComp elt [⟨tg, iter, ifs, 0⟩] scope pos) (some (.Name y py)) spos.line X.env = pure true) (hi : FI X F tg iter it) (ok : BlkOk X.N X.env.scope scope own) (hx : ∀ i ∈ t.ix, i ∈ own.map (·.2))
    (hg : ∀ (s : Shared) (H : Hp) (C : Addr) (cl : List (Str × Addr)) (fp : List Addr), FTg (X.blk s H scope (compEnvC scope cl C X.env) fp) F.calm tg t) (ht : ∀ (s : Shared) (H : Hp) (C : Addr) (cl : List (Str × Addr)) (fp : List Addr), FTs (X.blk s H scope (compEnvC scope cl C X.env) fp) F.calm ifs cond)
    (he : ∀ (s : Shared) (H : Hp) (C : Addr) (cl : List (Str × Addr)) (fp : List Addr), FE (X.blk s H scope (compEnvC scope cl C X.env) fp) F.calm elt g) (hs : ∀ x, foldedSetIterable iter X.env x = pure x := by intro _; rfl) :
    FS X F (.Assign [.Name y py] (.ListComp elt [⟨tg, iter, ifs, 0⟩] scope pos) spos) (sSet i (eComp it t cond g (own.map (·.2)))) := PSi (ps_setLc hc hN hy hyl hsw hi ok hg ht he hs) fun D σ H ⟨ρ, h⟩ => by
  obtain ⟨π0, hd0, rm0⟩ := h
  have := (SAt.orX (R := F.RN) (F := F) (σ := σ) (H := H) (D := D) ⟨π0, hd0, rm0⟩).mono fun v H1 ⟨s1, d, r1, h2⟩ => (show gName i v σ H1 D.nx by
    obtain ⟨fl, π, ef, hd, q⟩ := h2.lift
    obtain ⟨hlt, rfl⟩ := if_some ef
    exact q _ H1 (hd.setN hd0 s1 hlt r1) (.refl _))
  exact comp_read hx ⟨ρ, this⟩
end
end Fx
set_option Elab.async false
set_option maxRecDepth 100000
set_option linter.unusedVariables false
/-! Loops, assignments, lists that change. -/
namespace Fx
open PySem L2 Lw
def Fl.lp (f : Fl) (k : Sx) : M Fl := match f with
  | .nx ρ => k ρ
  | .ct ρ => k ρ
  | .bk ρ => M.ret (.nx ρ)
  | f => M.ret f
def forF (t : Tg) (b : Sx) : List D → Sx
  | [] => fun ρ => M.ret (.nx ρ)
  | d :: ds => fun ρ => (M.lift (t.bind d ρ)).bind fun ρ1 => (b ρ1).bind fun f => f.lp (forF t b ds)
def sFor (it : Env → M (List D)) (t : Tg) (b : Sx) : Sx := fun ρ => (it ρ).orX ρ fun ds => forF t b ds ρ
def whileF (c : Env → M Bool) (b : Sx) : Nat → Sx
  | 0 => fun _ => M.lift none
  | n + 1 => fun ρ => (c ρ).orX ρ fun k => if k then (b ρ).bind fun f => f.lp (whileF c b n) else M.ret (.nx ρ)
section
variable {X : Cx} {F : Fc}
theorem SPo.lp {H1 H' : Hp} {D : Ends} {k : Sx} {f : Fl} {π1 : Pn} {N : St → Hp → Prop} (kp : Kp H1 H') (q : RM (f.lp k π1) (SPo F H1 D) fun _ _ => False)
    (go : ∀ ρ' σ3 H3, (f = .nx ρ' ∨ f = .ct ρ') → FHd F ρ' π1 σ3 H3 → Kp H1 H3 → RM (k ρ' π1) (SPo F H1 D) (fun _ _ => False) → N σ3 H3) : SPo F H' { D with nx := N, ct := N, bk := D.nx } f π1 := by
  cases f with
  | nx ρ' => exact fun σ3 H3 hd k3 => go ρ' σ3 H3 (.inl rfl) hd (kp.trans k3) q
  | ct ρ' => exact fun σ3 H3 hd k3 => go ρ' σ3 H3 (.inr rfl) hd (kp.trans k3) q
  | bk ρ' => exact fun σ3 H3 hd k3 => (show SPo F H1 D (.nx ρ') π1 from q) σ3 H3 hd (kp.trans k3)
  | rt d => exact (show SPo F H1 D (.rt d) π1 from q)
  | er x ρ' => exact (show SPo F H1 D (.er x ρ') π1 from q)
variable {tg iter : Expr} {body : List Stmt} {pos : Pos} {it : Env → M (List D)} {t : Tg} {b : Sx} {c : Env → M Bool}
theorem s_for (hp : PassesOwn (model X.prog X.w) X.A X.env X.xe) (hc : X.calm = true) (hi : FI X F tg iter it) (hg : FTg X F tg t) (hb : FSs X F body b)
    (hs : ∀ x, foldedSetIterable iter X.env x = pure x := by intro _; rfl) : FS X F (.For tg iter body [] pos) (sFor it t b) := PSi (ps_for hp hc hi hg hb hs) fun D σ H ⟨ρ, h⟩ => by
  refine ⟨ρ, (SAt.orX h).mono fun J H1 ⟨s1, ds, gs, h2⟩ => ?_⟩
  obtain ⟨π0, hd0, rm0⟩ := h2
  let W : Nat → St → Hp → Prop := fun i σ'' H'' => i ≤ ds.length ∧ ∃ ρ π, FHd F ρ π σ'' H'' ∧ Kp H1 H'' ∧ RM (forF t b (ds.drop i) ρ π) (SPo F H1 D) (fun _ _ => False)
  refine ⟨fun i m σ'' H'' => m = ds.length - i ∧ W i σ'' H'', ⟨ds.length, by simp, Nat.zero_le _, ρ, π0, hd0, .refl _, by simpa using rm0⟩, ?_⟩
  rintro i m σ'' H'' ⟨rfl, hi, ρ', π, hd, kp, rm⟩
  by_cases hend : i = ds.length
  · subst hend
    rw [List.drop_length] at rm
    exact .inl ⟨(gs _ H'' kp).2 (Nat.le_refl _) (Nat.le_refl _), (show SPo F H1 D (.nx ρ') π from rm) σ'' H'' hd kp⟩
  · have hlt : i < ds.length := by omega
    obtain ⟨go, yld⟩ := (gs i H'' kp).1 _ (List.getElem?_eq_getElem hlt)
    refine .inr ⟨go, W (i + 1), fun σ' H' w => ⟨ds.length - (i + 1), by omega, rfl, w⟩, fun x H3 hy => ?_⟩
    obtain ⟨s3, rw3⟩ := yld x H3 hy
    rw [List.drop_eq_getElem_cons hlt] at rm
    obtain ⟨ρ1, hb1, rm⟩ := RM_lift.mp (RM_bind.mp rm)
    have kp3 : Kp H1 H3 := kp.trans (.of s3)
    exact ⟨ρ', π, _, ρ1, hd.same s3, rw3, hb1, fun σ2 hd2 sb => ⟨ρ1, π, hd2, (RM_bind.mp rm).imp (fun f π1 q => SPo.lp kp3 q fun ρ2 σ3 H4 _ hd4 kp4 r4 => ⟨by omega, ρ2, π1, hd4, kp4, r4⟩) fun _ _ q => q⟩⟩
theorem s_while (n : Nat) {cond : Expr} (hp : PassesOwn (model X.prog X.w) X.A X.env X.xe) (hc : FT X F cond c) (hb : FSs X F body b) : FS X F (.While cond body [] pos) (whileF c b n) := PSi (ps_while hp hc hb) fun D σ H ⟨ρ, h⟩ => by
  refine ⟨fun m σ'' H'' => ∃ ρ π, FHd F ρ π σ'' H'' ∧ Kp H H'' ∧ RM (whileF c b m ρ π) (SPo F H D) (fun _ _ => False), ⟨n, ρ, ?_⟩, ?_⟩
  · obtain ⟨π, hd, rm⟩ := h
    exact ⟨π, hd, .refl _, rm⟩
  · rintro m σ'' H'' ⟨ρ', π, hd, kp, rm⟩
    cases m with
    | zero => exact (show False from rm).elim
    | succ m =>
      refine ⟨ρ', π, hd, (RM_orX.mp rm).imp (fun k π1 q v H1 hd1 s1 rb => ?_) fun x π1 q cls dx H' a b => q σ'' cls dx H' a b⟩
      cases rb
      have kp1 := kp.trans s1.2
      cases k with
      | false => exact (show SPo F H D (.nx ρ') π1 from q) σ'' H1 hd1 kp1
      | true =>
        refine ⟨fun σ' H' => ∃ m', m' < m + 1 ∧ ∃ ρ π, FHd F ρ π σ' H' ∧ Kp H H' ∧ RM (whileF c b m' ρ π) (SPo F H D) (fun _ _ => False), fun σ' H' w => w, ρ', π1, hd1, (RM_bind.mp q).imp (fun f π2 q => SPo.lp kp1 q fun ρ2 σ3 H4 _ hd4 kp4 r4 => ⟨m, Nat.lt_succ_self m, ρ2, π2, hd4, kp4, r4⟩) fun _ _ q => q⟩
/-! ### several names at once -/
inductive Rns (c : Rc) (H' : Hp) : Hp → List D → List V → Prop
  | nil {H : Hp} : Stp c H H' → Rns c H' H [] []
  | cons {H Hm : Hp} {π : Pn} {d : D} {v : V} {ds : List D} {vs : List V} : RpN c H Hm d v → Stp c H Hm → PenR c π Hm → Rns c H' Hm ds vs → Rns c H' H (d :: ds) (v :: vs)
abbrev Fc.RNs (F : Fc) : RX (List D) (List V) := fun H H' ds vs => Rns F.c H' H ds vs
abbrev FAN (X : Cx) (F : Fc) (es : List Expr) (f : Env → M (List D)) : Prop := PA X es (tX F F.RNs f)
theorem bkNs {F : Fc} : Bk F F.RNs := fun ρ π π1 σ H H1 H' d v hd hd1 s r => by
  cases r with
  | nil s' => exact .nil (s.trans s')
  | cons r1 s1 p1 rr => exact .cons (r1.back s hd.pen hd1.pen) (s.trans s1) p1 rr
variable {es : List Expr} {e : Expr} {f : Ex} {r : Env → M (List D)}
theorem n_nil : FAN X F [] aNil := PAi pa_nil fun σ H Q ⟨ρ, h⟩ => by
  obtain ⟨π, hd, q⟩ := At.ret h
  exact q [] H hd (.refl _ _) (.nil (.refl _ _))
theorem n_cons (ha : FN X F e f) (hr : FAN X F es r) (hs : starEach (e :: es) X.env = (false, eval e X.env) :: starEach es X.env := by rfl) : FAN X F (e :: es) (aCons f r) := PAi (pa_cons ha hr hs) fun σ H Q ⟨ρ, h⟩ => by
  obtain ⟨π0, hd0, rm0⟩ := h
  exact ⟨ρ, π0, hd0, (RM_bind.mp rm0).imp (fun d π1 h1 x H1 hd1 s1 r1 => ⟨ρ, π1, hd1, (RM_bind.mp h1).imp (fun ds π2 h2 ys H2 hd2 s2 r2 => h2 (x :: ys) H2 hd2 (s1.trans s2) (.cons r1 s1 hd1.pen r2)) fun _ _ q => q⟩) fun _ _ q => q⟩
/-- slots set, one behind the other -/
def setVs : Env → List Nat → List D → Env
  | ρ, i :: is, d :: ds => setVs (setV ρ i (some d)) is ds
  | ρ, _, _ => ρ
def setSs : St → List Nat → List V → St
  | σ, i :: is, v :: vs => setSs (σ.set i (some v)) is vs
  | σ, _, _ => σ
theorem setV_len (ρ : Env) (i : Nat) (d : Option D) : (setV ρ i d).length = ρ.length := by rw [setV_eq, List.length_set]
theorem Rns.sets {c : Rc} {H0 H' : Hp} {π' : Pn} (p' : PenR c π' H') : ∀ {ds : List D} {vs : List V} {is : List Nat} {H : Hp} {ρ : Env} {π : Pn} {σ : St}, Rns c H' H ds vs → Hd c H0 ρ π σ H → (∀ i ∈ is, i < ρ.length) → is.length = ds.length → Hd c H0 (setVs ρ is ds) π' (setSs σ is vs) H'
  | [], _, is, H, ρ, π, σ, .nil s, h, hi, hl => by
    cases is with
    | nil => exact h.step s p'
    | cons _ _ => cases hl
  | d :: ds, _, [], H, ρ, π, σ, _, h, hi, hl => by cases hl
  | d :: ds, _, i :: is, H, ρ, π, σ, .cons r s p rr, h, hi, hl => by
    have hm := (h.step s p).setN h s (hi i (by simp)) r
    exact Rns.sets p' (ds := ds) (is := is) rr hm (fun j hj => by rw [setV_len]; exact hi j (by simp [hj])) (by simpa using hl)
def sPar (is : List Nat) (r : Env → M (List D)) : Sx := fun ρ => (r ρ).orX ρ fun ds => M.lift (if is.length = ds.length ∧ (∀ i ∈ is, i < ρ.length) then some (.nx (setVs ρ is ds)) else none)
theorem par_read {En : Ends} {σ : St} {H : Hp} {is : List Nat} (h : tS F (sPar is r) En σ H) : tX F F.RNs r σ H fun vs H1 => is.length = vs.length ∧ En.nx (setSs σ is vs) H1 := by
  obtain ⟨ρ, π0, hd0, rm0⟩ := h
  refine ⟨ρ, (SAt.orX (R := F.RNs) ⟨π0, hd0, rm0⟩).mono fun vs H1 ⟨s1, ds, r1, h2⟩ => ?_⟩
  obtain ⟨fl, π, ef, hd, q⟩ := h2.lift
  obtain ⟨⟨hl, hi⟩, rfl⟩ := if_some ef
  have lv : ∀ {ds : List D} {vs : List V} {Ha Hb : Hp}, Rns F.c Hb Ha ds vs → ds.length = vs.length := by
    intro ds
    induction ds with
    | nil => intro vs Ha Hb r; cases r; rfl
    | cons d ds ih =>
      intro vs Ha Hb r
      cases r with
      | cons _ _ _ rr => simp [ih rr]
  exact ⟨by rw [hl, lv r1], q _ H1 (Rns.sets hd.pen r1 hd0 hi hl) (.refl _)⟩
theorem s_par {i j : Nat} {x y : Str} {a b : Expr} {px py pt : Pos} {kt k2 pt2} (hc : X.calm = true) (hN : X.N.Nodup) (hi : X.N[i]? = some x) (hj : X.N[j]? = some y) (hij : i ≠ j)
    (hx : X.env.scope.names.lookup x = some .local) (hy : X.env.scope.names.lookup y = some .local) (ha : FAN X F [a, b] r)
    (hw : swappedStores [.Tuple [.Name x px, .Name y py] kt pt] (.Tuple [a, b] k2 pt2) X.env = pure (some [x, y]))
    (hs : swapsWithSole [.Tuple [.Name x px, .Name y py] kt pt] (.Tuple [a, b] k2 pt2) pos.line X.env = pure false := by rfl) :
    FS X F (.Assign [.Tuple [.Name x px, .Name y py] kt pt] (.Tuple [a, b] k2 pt2) pos) (sPar [i, j] r) := PSi (ps_par hc hN hi hj hij hx hy ha hw hs) fun En σ H h => by
  obtain ⟨ρ, h⟩ := par_read h
  refine ⟨ρ, h.mono fun vs H1 ⟨hl, q⟩ => ?_⟩
  match vs, hl with
  | [v, w], _ => exact ⟨v, w, rfl, q⟩
theorem s_par3 {i j l : Nat} {x y z : Str} {a b c : Expr} {px py pz : Pos} {kt pt k2 pt2} (hc : X.calm = true) (hN : X.N.Nodup) (hi : X.N[i]? = some x) (hj : X.N[j]? = some y) (hl : X.N[l]? = some z) (hij : i ≠ j) (hil : i ≠ l) (hjl : j ≠ l)
    (hx : X.env.scope.names.lookup x = some .local) (hy : X.env.scope.names.lookup y = some .local) (hz : X.env.scope.names.lookup z = some .local) (ha : FAN X F [a, b, c] r)
    (hw : swappedStores [.Tuple [.Name x px, .Name y py, .Name z pz] kt pt] (.Tuple [a, b, c] k2 pt2) X.env = pure (some [x, y, z]))
    (hs : swapsWithSole [.Tuple [.Name x px, .Name y py, .Name z pz] kt pt] (.Tuple [a, b, c] k2 pt2) pos.line X.env = pure false := by rfl) :
    FS X F (.Assign [.Tuple [.Name x px, .Name y py, .Name z pz] kt pt] (.Tuple [a, b, c] k2 pt2) pos) (sPar [i, j, l] r) := PSi (ps_par3 hc hN hi hj hl hij hil hjl hx hy hz ha hw hs) fun En σ H h => by
  obtain ⟨ρ, h⟩ := par_read h
  refine ⟨ρ, h.mono fun vs H1 ⟨hl, q⟩ => ?_⟩
  match vs, hl with
  | [v, w, u], _ => exact ⟨v, w, u, rfl, q⟩
/-! ### lists that change -/
theorem Hd.grow {c : Rc} {H0 H : Hp} {ρ : Env} {π : Pn} {σ : St} {i : Nat} {ds es : List D} {a : Addr} {vs us : List V} (h : Hd c H0 ρ π σ H) (hi : getV ρ i = some (.own ds)) (hv : σ[i]? = some (some (.ref a))) (e : H a = some (.lst vs)) (n : H0 a = none) (r : Rps c H es us) :
    Hd c H0 (setV ρ i (some (.own es))) π σ (L2.upd H a (.lst us)) ∧ Kp H (L2.upd H a (.lst us)) := by
  have kp : Kp H (L2.upd H a (.lst us)) := fun b u hb z => by
    rw [upd_ne (by rintro rfl; rw [e] at hb; cases hb; exact z.elim)]
    exact hb
  have hi' := getV_eq hi
  have hlt := (List.getElem?_eq_some_iff.mp hi').1
  refine ⟨⟨by rw [setV_len, h.len], fun j d he => ?_, fun j k fs gs b hj hk sj sk => ?_, h.pen0, fun q hq => ?_, ⟨fun b u hb nq => ?_, h.stp.2.trans kp⟩⟩, kp⟩
  · rw [setV_eq] at he
    by_cases hji : j = i
    · subst hji
      rw [List.getElem?_set_self hlt] at he
      cases he
      exact ⟨_, hv, .inr ⟨es, a, us, rfl, rfl, upd_same, r.kp kp, n⟩⟩
    · rw [List.getElem?_set_ne (Ne.symm hji)] at he
      obtain ⟨v, e1, r1⟩ := h.slot j d he
      refine ⟨v, e1, ?_⟩
      rcases r1 with r1 | ⟨fs, b, ws, rfl, rfl, e2, r2, n2⟩
      · exact .inl (r1.kp kp)
      · refine .inr ⟨fs, b, ws, rfl, rfl, ?_, r2.kp kp, n2⟩
        rw [upd_ne (by rintro rfl; exact hji (h.apart j i _ _ _ he hi' e1 hv))]
        exact e2
  · rw [setV_eq] at hj hk
    have old : ∀ (j : Nat) (fs : List D), (ρ.set i (some (.own es)))[j]? = some (some (.own fs)) → ∃ gs, ρ[j]? = some (some (.own gs)) := fun j fs hj => by
      by_cases hji : j = i
      · exact ⟨ds, by rw [hji]; exact hi'⟩
      · rw [List.getElem?_set_ne (Ne.symm hji)] at hj
        exact ⟨fs, hj⟩
    obtain ⟨_, g1⟩ := old j _ hj
    obtain ⟨_, g2⟩ := old k _ hk
    exact h.apart j k _ _ b g1 g2 sj sk
  · obtain ⟨π0, p0⟩ := h.pen0
    have h1 := p0 q hq
    have h2 := h.pen q hq
    rw [upd_ne (ne_of_none h1.1 n), upd_ne (ne_of_none h1.2.1 n)]
    exact h2
  · rw [upd_ne (ne_of_none hb n)]
    exact h.stp.1 b u hb nq
/-- a list that a slot holds, and its heap -/
theorem Hd.own {c : Rc} {H0 H : Hp} {ρ : Env} {π : Pn} {σ : St} {i : Nat} {ds : List D} (h : Hd c H0 ρ π σ H) (hi : getV ρ i = some (.own ds)) : ∃ a vs, σ[i]? = some (some (.ref a)) ∧ H a = some (.lst vs) ∧ Rps c H ds vs ∧ H0 a = none := by
  obtain ⟨v, e, r⟩ := h.slot i _ (getV_eq hi)
  rcases r with r | ⟨es, a, vs, e1, rfl, h1, h2, h3⟩
  · cases r
  · cases e1
    exact ⟨a, vs, e, h1, h2, h3⟩
def sOn (i : Nat) (f : Ex) (k : List D → D → Option (List D)) : Sx := fun ρ => match getV ρ i with
  | some (.own ds) => (f ρ).orX ρ fun d => M.lift ((k ds d).map fun es => .nx (setV ρ i (some (.own es))))
  | _ => M.lift none
theorem SAt.own {i : Nat} {f : Ex} {k : List D → D → Option (List D)} {ρ : Env} {σ : St} {H : Hp} {En : Ends} (h : SAt F (sOn i f k ρ) ρ σ H En) : ∃ ds, getV ρ i = some (.own ds) ∧ SAt F ((f ρ).orX ρ fun d => M.lift ((k ds d).map fun es => .nx (setV ρ i (some (.own es))))) ρ σ H En := by
  unfold sOn at h
  split at h
  · rename_i ds e
    exact ⟨ds, e, h⟩
  · obtain ⟨_, _, e, _⟩ := h.lift
    cases e
def appD (ds : List D) (d : D) : Option (List D) := if d.still = true ∧ ds.length < sizeLine then some (ds ++ [d]) else none
variable {o : Expr} {apos cpos pos : Pos}
/-- x.append(e) -/
theorem s_append {i : Nat} {x : Str} {px : Pos} (hN : X.N[i]? = some x) (hv : Vis X.env.scope x) (hd1 : (x == ("__debug__" : Str)) = false) (hcd : (x == ("__classdict__" : Str)) = false) (he : FE X F e f)
    (hbase : attributeBase (.Name x px) "append" X.env (eval (.Name x px) X.env) = eval (.Name x px) X.env := by rfl)
    (hfew : ((backTo cpos (starEach [e] X.env)).all (fun x => !x.1) && (backToKw cpos (keywordEach [] X.env)).all (fun x => x.1.isSome)
      && decide ([e].length + ([] : List Keyword).length + (if ([] : List Keyword).isEmpty then 0 else 1) < 30)) = true := by rfl)
    (hline : (apos.endLine == cpos.line) = true := by rfl) (hs : starEach [e] X.env = (false, eval e X.env) :: starEach [] X.env := by rfl) (hplain : (backTo cpos (starEach [] X.env)).any (·.1) = false := by rfl)
    (hsw : swapsWith (.Call (.Attribute (.Name x px) "append" apos) [e] [] cpos) none pos.line X.env = pure false := by rfl) :
    FS X F (.Expr (.Call (.Attribute (.Name x px) "append" apos) [e] [] cpos) pos) (sOn i f appD) :=
  PSi (ps_expr (pe_bm PySem.F.plainAttrs_list PySem.F.slot_list_append PySem.F.type_list_append mt_append (pe_var hN hv hd1 hcd) (pa_cons he pa_nil hs) hbase hfew hline hs hplain) hsw) fun En σ H ⟨ρ, h⟩ => by
  obtain ⟨ds, hi, h⟩ := h.own
  obtain ⟨π0, hd0, rm0⟩ := h
  obtain ⟨a, vs, hσ, ha, rs, n⟩ := hd0.own hi
  refine ⟨.ref a, hσ, .inl ⟨rfl, vs, SqL.of ha⟩, ρ, (SAt.orX (R := F.RR) ⟨π0, hd0, rm0⟩).mono fun v H1 ⟨s1, d, r1, h2⟩ => ?_⟩
  obtain ⟨fl, π, ef, hd, q⟩ := h2.lift
  unfold appD at ef
  split at ef
  · rename_i hz
    cases ef
    obtain ⟨a', vs', hσ', ha', rs', n'⟩ := hd.own hi
    rw [hσ] at hσ'
    cases hσ'
    obtain ⟨hd2, kp⟩ := hd.grow hi hσ ha' n' (rs'.append (.one (r1.still hz.1)))
    exact ⟨a, vs', v, rfl, rfl, ha', by rw [← rs'.length]; exact hz.2, q σ _ hd2 kp⟩
  · cases ef
def rExtR : V → List V → Hp → VK → Prop := fun x vs H Q => ∃ l b xs zs, x = .ref l ∧ vs = [.ref b] ∧ H l = some (.lst xs) ∧ Rd H b (.lst zs) ∧ xs.length + zs.length ≤ sizeLine ∧ Q .non (upd H l (.lst (xs ++ zs)))
theorem mt_extR : MtR X "list.extend" rExtR := by
  intro pins s σ H x vs v us Q I rx rv h
  obtain ⟨l, b, xs, zs, rfl, rfl, hH, hB, hz, q⟩ := h
  cases rx
  obtain ⟨u, rfl, ru⟩ := rv.one
  cases ru
  obtain ⟨z, its, n, r, hl, e⟩ := I.lstM hH
  obtain ⟨z2, its2, n2, r2, e2⟩ := hB.ok I.hok
  have hl2 := r2.length
  have hsz : its.toArray.size + its2.toArray.size ≤ sizeLine := by rw [List.size_toArray, List.size_toArray]; omega
  have hlong : ¬ (!its.toArray.isEmpty && Builtin.List.listTooLong (its.toArray.size + its2.toArray.size)) = true := by
    rw [notLongL hsz, Bool.and_false]
    exact Bool.false_ne_true
  refine call_meets PySem.F.slot_list_extend ⟨_, e, rfl⟩ PySem.F.entry_list_extend (PySem.F.args_list_extend_2 _ _)
    (AutoSeq1.list_extend_list_list_0 l its.toArray n b its2.toArray n2 hlong (by rw [List.size_toArray]; omega) (by omega)) ⟨e, e2, ?_⟩
  refine ⟨.non, _, I.lset (its' := its ++ its2) hH e (by simp) (r.append r2) ?_, rfl, q⟩
  rw [List.length_append]
  omega
def extD (ds : List D) (d : D) : Option (List D) := d.asL.bind fun es => if ds.length + es.length ≤ sizeLine then some (ds ++ es) else none
theorem s_extend {i : Nat} {x : Str} {px : Pos} (hN : X.N[i]? = some x) (hv : Vis X.env.scope x) (hd1 : (x == ("__debug__" : Str)) = false) (hcd : (x == ("__classdict__" : Str)) = false) (he : FE X F e f)
    (hbase : attributeBase (.Name x px) "extend" X.env (eval (.Name x px) X.env) = eval (.Name x px) X.env := by rfl)
    (hfew : ((backTo cpos (starEach [e] X.env)).all (fun x => !x.1) && (backToKw cpos (keywordEach [] X.env)).all (fun x => x.1.isSome)
      && decide ([e].length + ([] : List Keyword).length + (if ([] : List Keyword).isEmpty then 0 else 1) < 30)) = true := by rfl)
    (hline : (apos.endLine == cpos.line) = true := by rfl) (hs : starEach [e] X.env = (false, eval e X.env) :: starEach [] X.env := by rfl) (hplain : (backTo cpos (starEach [] X.env)).any (·.1) = false := by rfl)
    (hsw : swapsWith (.Call (.Attribute (.Name x px) "extend" apos) [e] [] cpos) none pos.line X.env = pure false := by rfl) :
    FS X F (.Expr (.Call (.Attribute (.Name x px) "extend" apos) [e] [] cpos) pos) (sOn i f extD) :=
  PSi (ps_expr (pe_bm PySem.F.plainAttrs_list PySem.F.slot_list_extend PySem.F.type_list_extend mt_extR (pe_var hN hv hd1 hcd) (pa_cons he pa_nil hs) hbase hfew hline hs hplain) hsw) fun En σ H ⟨ρ, h⟩ => by
  obtain ⟨ds, hi, h⟩ := h.own
  obtain ⟨π0, hd0, rm0⟩ := h
  obtain ⟨a, vs, hσ, ha, rs, n⟩ := hd0.own hi
  refine ⟨.ref a, hσ, .inl ⟨rfl, vs, SqL.of ha⟩, ρ, (SAt.orX (R := F.RR) ⟨π0, hd0, rm0⟩).mono fun v H1 ⟨s1, d, r1, h2⟩ => ?_⟩
  obtain ⟨fl, π, ef, hd, q⟩ := h2.lift
  unfold extD at ef
  cases ea : d.asL with
  | none => rw [ea] at ef; cases ef
  | some es =>
    rw [ea] at ef
    by_cases hz : ds.length + es.length ≤ sizeLine
    · have ef : some (Fl.nx (setV ρ i (some (.own (ds ++ es))))) = some fl := by
        rw [← ef]
        show _ = Option.map _ (if ds.length + es.length ≤ sizeLine then some (ds ++ es) else none)
        rw [if_pos hz]
        rfl
      cases ef
      obtain ⟨a', vs', hσ', ha', rs', n'⟩ := hd.own hi
      rw [hσ] at hσ'
      cases hσ'
      obtain ⟨b, ws, rfl, hb, rb⟩ := r1.b.asL ea
      obtain ⟨hd2, kp⟩ := hd.grow hi hσ ha' n' (rs'.append rb)
      exact ⟨a, b, vs', ws, rfl, rfl, ha', hb, by rw [← rs'.length, ← rb.length]; exact hz, q σ _ hd2 kp⟩
    · exfalso
      have : Option.map (fun es => Fl.nx (setV ρ i (some (.own es)))) (if ds.length + es.length ≤ sizeLine then some (ds ++ es) else none) = some fl := ef
      rw [if_neg hz] at this
      cases this
end
end Fx
set_option Elab.async false
set_option maxRecDepth 100000
set_option linter.unusedVariables false
/-! Locks, targets with subscripts, calls, defs. -/
namespace Fx
open PySem L2 Lw
section
variable {X : Cx} {F : Fc}
theorem PSs.orr {sts : List Stmt} {t t' : TS} (h : PSs X sts t) (h' : PSs X sts t') : PSs X sts (fun D σ H => t D σ H ∨ t' D σ H) := ⟨fun pins s σ H D I q => q.elim (fun q => h.run pins s σ H D I q) fun q => h'.run pins s σ H D I q⟩
theorem Hd.lockSlot {c : Rc} {H0 H : Hp} {ρ : Env} {π : Pn} {σ : St} {i : Nat} {ds : List D} {a : Addr} {vs : List V} {o : Obj} (h : Hd c H0 ρ π σ H) (hi : getV ρ i = some (.own ds)) (hv : σ[i]? = some (some (.ref a))) (e : H a = some (.lst vs)) (n : H0 a = none) (r : Rps c H ds vs) (o1 : o.dict = none) (o2 : o.cls = .type "list") :
    Hd c H0 (setV ρ i (some (.lst ds))) π σ (L2.upd H a (.frz o (.lst vs))) ∧ Kp H (L2.upd H a (.frz o (.lst vs))) := by
  have kp : Kp H (L2.upd H a (.frz o (.lst vs))) := fun b u hb z => by
    rw [upd_ne (by rintro rfl; rw [e] at hb; cases hb; exact z.elim)]
    exact hb
  have hi' := getV_eq hi
  have hlt := (List.getElem?_eq_some_iff.mp hi').1
  have old : ∀ (j : Nat) (d : D), (ρ.set i (some (.lst ds)))[j]? = some (some d) → j ≠ i → ρ[j]? = some (some d) := fun j d hj hji => by
    rwa [List.getElem?_set_ne (Ne.symm hji)] at hj
  have own : ∀ (j : Nat) (fs : List D), (ρ.set i (some (.lst ds)))[j]? = some (some (.own fs)) → j ≠ i := by
    rintro j fs hj rfl
    rw [List.getElem?_set_self hlt] at hj
    cases hj
  refine ⟨⟨by rw [setV_len, h.len], fun j d he => ?_, fun j k fs gs b hj hk sj sk => ?_, h.pen0, fun q hq => ?_, ⟨fun b u hb nq => ?_, h.stp.2.trans kp⟩⟩, kp⟩
  · rw [setV_eq] at he
    by_cases hji : j = i
    · subst hji
      rw [List.getElem?_set_self hlt] at he
      cases he
      exact ⟨_, hv, .inl (.lst ⟨o, upd_same, o1, o2⟩ (r.kp kp))⟩
    · rw [List.getElem?_set_ne (Ne.symm hji)] at he
      obtain ⟨v, e1, r1⟩ := h.slot j d he
      refine ⟨v, e1, ?_⟩
      rcases r1 with r1 | ⟨fs, b, ws, rfl, rfl, e2, r2, n2⟩
      · exact .inl (r1.kp kp)
      · refine .inr ⟨fs, b, ws, rfl, rfl, ?_, r2.kp kp, n2⟩
        rw [upd_ne (by rintro rfl; exact hji (h.apart j i _ _ _ he hi' e1 hv))]
        exact e2
  · rw [setV_eq] at hj hk
    exact h.apart j k _ _ b (old j _ hj (own j _ hj)) (old k _ hk (own k _ hk)) sj sk
  · obtain ⟨π0, p0⟩ := h.pen0
    have h1 := p0 q hq
    have h2 := h.pen q hq
    rw [upd_ne (ne_of_none h1.1 n), upd_ne (ne_of_none h1.2.1 n)]
    exact h2
  · rw [upd_ne (ne_of_none hb n)]
    exact h.stp.1 b u hb nq
/-- ahead of a block: the list in slot i is locked -/
def sFrz (i : Nat) (g : Sx) : Sx := fun ρ => match getV ρ i with
  | some (.own ds) => g (setV ρ i (some (.lst ds)))
  | _ => g ρ
theorem ss_frz (i : Nat) {sts : List Stmt} {g : Sx} (h : FSs X F sts g) : FSs X F sts (sFrz i g) := PSsi (PSs.orr h (pss_frz h)) fun En σ H ⟨ρ, hh⟩ => by
  unfold sFrz at hh
  split at hh
  · rename_i ds hi
    obtain ⟨π, hd, rm⟩ := hh
    obtain ⟨a, vs, hσ, ha, rs, n⟩ := hd.own hi
    refine .inr ⟨a, vs, ha, fun o o1 o2 => ?_⟩
    obtain ⟨hd2, kp⟩ := hd.lockSlot hi hσ ha n rs o1 o2
    exact ⟨_, π, hd2, rm.imp (fun f π1 q => q.on kp) fun _ _ q => q⟩
  · exact .inl ⟨ρ, hh⟩
/-! ### targets -/
inductive Tx where
  | name (i : Nat)
  | sub (i : Nat) (k : Ex)
  | tup (ts : List Tx)
  | unl (ts : List Tx)
def unpkL : D → Option (List D)
  | .lst ds => some ds
  | _ => none
def subX (i : Nat) (d : D) (ρ : Env) (ds : List D) (j : D) : M Env := M.lift (match asI j with
  | some z => match ixN ds.length z with
    | some n => if d.still = true then some (setV ρ i (some (.own (ds.set n d)))) else none
    | none => none
  | none => none)
mutual
def Tx.bind : Tx → D → Env → M Env
  | .name i, d, ρ => M.lift (if d.still = true then some (setV ρ i (some d)) else none)
  | .sub i k, d, ρ => match getV ρ i with
    | some (.own ds) => (k ρ).bind fun j => subX i d ρ ds j
    | _ => M.lift none
  | .tup ts, d, ρ => match unpk d with
    | some ds => Tx.binds ts ds ρ
    | none => M.lift none
  | .unl ts, d, ρ => match unpkL d with
    | some ds => Tx.binds ts ds ρ
    | none => M.lift none
def Tx.binds : List Tx → List D → Env → M Env
  | [], [], ρ => M.ret ρ
  | t :: ts, d :: ds, ρ => (t.bind d ρ).bind fun ρ' => Tx.binds ts ds ρ'
  | _, _, _ => M.lift none
end
/-- what follows a target's store -/
def TPo (F : Fc) (H : Hp) (Q : St → Hp → Prop) : Env → Pn → Prop := fun ρ' π' => ∀ σ' H', FHd F ρ' π' σ' H' → Kp H H' → Q σ' H'
def tX1 (F : Fc) (t : Tx) : TG := fun v σ H Q => ∃ ρ π d, FHd F ρ π σ H ∧ RpW F.c H d v ∧ RM (t.bind d ρ π) (TPo F H Q) (fun _ _ => False)
def tXs (F : Fc) (ts : List Tx) : TGs := fun vs σ H Q => ∃ ρ π ds, FHd F ρ π σ H ∧ Paired (RpW F.c H) ds vs ∧ RM (Tx.binds ts ds ρ π) (TPo F H Q) (fun _ _ => False)
abbrev FX (X : Cx) (F : Fc) (e : Expr) (t : Tx) : Prop := PG X e (tX1 F t)
abbrev FXs (X : Cx) (F : Fc) (es : List Expr) (ts : List Tx) : Prop := PGs X es (tXs F ts)
theorem RpW.kp {c : Rc} {H H' : Hp} {d : D} {v : V} (h : RpW c H d v) (k : Kp H H') : RpW c H' d v := h.imp (fun h => h.kp k) fun ⟨ds, a, vs, h1, h2, h3, h4⟩ => ⟨ds, a, vs, h1, h2, k _ _ h3 trivial, h4.kp k⟩
theorem x_name {i : Nat} {x : Str} {pos : Pos} (hN : X.N.Nodup) (hi : X.N[i]? = some x) (hx : Loc X.env.scope x) (hf : X.fn x = true ∨ X.env.scope.names.lookup x = some .local := by first | exact .inl rfl | exact .inr rfl | assumption) : FX X F (.Name x pos) (.name i) :=
  PGi (pg_name hN hi hx hf) fun v σ H Q ⟨ρ, π, d, hd, r, rm⟩ => by
  have rm : RM (M.lift (if d.still = true then some (setV ρ i (some d)) else none) π) (TPo F H Q) (fun _ _ => False) := rm
  obtain ⟨ρ', e, q⟩ := RM_lift.mp rm
  obtain ⟨hs, rfl⟩ := if_some e
  exact q _ H (hd.set (r.still hs)) (.refl _)
theorem x_sub {i : Nat} {x : Str} {px pos : Pos} {ie : Expr} {k : Ex} (hN : X.N[i]? = some x) (hv : Vis X.env.scope x) (hd1 : (x == ("__debug__" : Str)) = false) (hcd : (x == ("__classdict__" : Str)) = false) (hi : FE X F.calm ie k)
    (ha : ∀ v, assign (.Subscript (.Name x px) ie pos) X.env v = (do
      let ov ← holding [v] (eval (.Name x px) X.env)
      let iv ← holding [v, ov] (eval ie X.env)
      standAt pos
      holding [v, ov, iv] (setItem ov iv v)
      release [v, ov, iv] []) := by intro _; rfl) : FX X F (.Subscript (.Name x px) ie pos) (.sub i k) :=
  PGi (pg_sub (pe_var hN hv hd1 hcd) hi set_list ha) fun v σ H Q ⟨ρ, π, d, hd, r, rm⟩ => by
  have key : ∀ (m : Option D), getV ρ i = m → RM ((match m with
    | some (.own ds) => (k ρ).bind fun j => subX i d ρ ds j
    | _ => M.lift none) π) (TPo F H Q) (fun _ _ => False) → ∃ ds, m = some (.own ds) ∧ RM (((k ρ).bind fun j => subX i d ρ ds j) π) (TPo F H Q) (fun _ _ => False) := by
    intro m _ h
    split at h
    · exact ⟨_, rfl, h⟩
    · exact (show False from h).elim
  obtain ⟨ds, hg, rm⟩ := key _ rfl (by simpa only [Tx.bind] using rm)
  obtain ⟨a, vs, hσ, hla, rs, n⟩ := hd.own hg
  refine ⟨.ref a, hσ, ρ, π, hd, (RM_bind.mp rm).imp (fun j π1 q u H1 hd1 s1 r1 => ?_) fun _ _ q => q.elim⟩
  unfold subX at q
  obtain ⟨ρ', e, q2⟩ := RM_lift.mp q
  split at e
  · rename_i z ez
    split at e
    · rename_i m em
      obtain ⟨hs, rfl⟩ := if_some e
      obtain ⟨a', vs', hσ', hla', rs', n'⟩ := hd1.own hg
      rw [hσ] at hσ'
      cases hσ'
      cases asI_some ez
      obtain ⟨hd2, kp⟩ := hd1.grow hg hσ hla' n' (rs'.set ((r.still hs).kp s1.2) m)
      exact ⟨a, vs', z, m, rfl, r1.b.int, hla', by rw [← rs'.length]; exact em, q2 _ _ hd2 (s1.2.trans kp)⟩
    · cases e
  · cases e
theorem xs_nil : FXs X F [] [] := ⟨fun pins s σ H vs us Q I rv ⟨ρ, π, ds, hd, r, rm⟩ => pgs_nil.run pins s σ H vs us Q I rv (by
  cases r with
  | nil => exact ⟨rfl, (show TPo F H Q ρ π from rm) σ H hd (.refl _)⟩
  | cons _ _ => exact (show False from rm).elim)⟩
theorem xs_cons {e : Expr} {es : List Expr} {t : Tx} {ts : List Tx} (h1 : FX X F e t) (h2 : FXs X F es ts) (hs : (assignEach (e :: es) X.env).map (·.2) = assign e X.env :: (assignEach es X.env).map (·.2) := by rfl) : FXs X F (e :: es) (t :: ts) :=
  ⟨fun pins s σ H vs us Q I rv ⟨ρ, π, ds, hd, r, rm⟩ => (pgs_cons h1 h2 hs).run pins s σ H vs us Q I rv (by
  cases r with
  | nil => exact (show False from rm).elim
  | @cons d v ds' vs' r1 rr =>
    have rm : RM (((t.bind d ρ).bind fun ρ' => Tx.binds ts ds' ρ') π) (TPo F H Q) (fun _ _ => False) := rm
    exact ⟨v, vs', rfl, ρ, π, d, hd, r1, (RM_bind.mp rm).imp (fun ρ1 π1 q σ1 H1 hd1 k1 => ⟨ρ1, π1, ds', hd1, PairedM rr fun _ _ t => t.kp k1, RM.imp q (fun ρ2 π2 q σ2 H2 hd2 k2 => q σ2 H2 hd2 (k1.trans k2)) fun _ _ q => q⟩) fun _ _ q => q⟩)⟩
theorem x_tup {es : List Expr} {pos : Pos} {k n : Nat} {ts : List Tx} (hc : X.calm = true) (h : FXs X F es ts) (hl : ts.length = n := by rfl)
    (hn : (assignEach es X.env).length = n := by rfl) (hst : (assignEach es X.env).findIdx? (·.1) = none := by rfl) : FX X F (.Tuple es k pos) (.tup ts) :=
  PGi (pg_tup hc h hn hst) fun v σ H Q ⟨ρ, π, d, hd, r, rm⟩ => by
  have len : ∀ {ts : List Tx} {ds : List D} {ρ : Env} {π : Pn} {ok : Env → Pn → Prop}, RM (Tx.binds ts ds ρ π) ok (fun _ _ => False) → ts.length = ds.length := by
    intro ts
    induction ts with
    | nil =>
      intro ds ρ π ok h
      cases ds with
      | nil => rfl
      | cons _ _ => exact (show False from h).elim
    | cons t ts ih =>
      intro ds ρ π ok h
      cases ds with
      | nil => exact (show False from h).elim
      | cons d ds =>
        have h : RM (((t.bind d ρ).bind fun ρ' => Tx.binds ts ds ρ') π) ok (fun _ _ => False) := h
        have h := RM_bind.mp h
        unfold RM at h
        split at h
        · exact h.elim
        · exact h.elim
        · simp [ih h]
  simp only [Tx.bind] at rm
  rcases r with r | ⟨ds, a, vs, rfl, rfl, e1, rs⟩
  · cases r with
    | @tup a vs ds ht rs =>
      exact ⟨a, vs, rfl, ht.t, by rw [← rs.length, ← len rm, hl], ρ, π, ds, hd, rps_w rs, rm⟩
    | _ => exact (show False from rm).elim
  · exact ⟨a, vs, rfl, .of e1, by rw [← rs.length, ← len rm, hl], ρ, π, ds, hd, rps_w rs, rm⟩
theorem binds_len {ts : List Tx} : ∀ {ds : List D} {ρ : Env} {π : Pn} {ok : Env → Pn → Prop}, RM (Tx.binds ts ds ρ π) ok (fun _ _ => False) → ts.length = ds.length := by
    induction ts with
    | nil =>
      intro ds ρ π ok h
      cases ds with
      | nil => rfl
      | cons _ _ => exact (show False from h).elim
    | cons t ts ih =>
      intro ds ρ π ok h
      cases ds with
      | nil => exact (show False from h).elim
      | cons d ds =>
        have h : RM (((t.bind d ρ).bind fun ρ' => Tx.binds ts ds ρ') π) ok (fun _ _ => False) := h
        have h := RM_bind.mp h
        unfold RM at h
        split at h
        · exact h.elim
        · exact h.elim
        · simp [ih h]
theorem x_unl {es : List Expr} {pos : Pos} {k n : Nat} {ts : List Tx} (hc : X.calm = true) (h : FXs X F es ts) (hl : ts.length = n := by rfl)
    (hn : (assignEach es X.env).length = n := by rfl) (hst : (assignEach es X.env).findIdx? (·.1) = none := by rfl) : FX X F (.Tuple es k pos) (.unl ts) :=
  PGi (pg_unl hc h hn hst) fun v σ H Q ⟨ρ, π, d, hd, r, rm⟩ => by
  simp only [Tx.bind] at rm
  rcases r with r | ⟨ds, a, vs, rfl, rfl, e1, rs⟩
  · cases r with
    | @lst a vs ds ht rs =>
      exact ⟨a, vs, rfl, .inl ht.rd, by rw [← rs.length, ← binds_len rm, hl], ρ, π, ds, hd, rps_w rs, rm⟩
    | _ => exact (show False from rm).elim
  · exact (show False from rm).elim
/-- target = value -/
def sAsg (f : Ex) (t : Tx) : Sx := fun ρ => (f ρ).orX ρ fun d => if d.still = true then (calmM (t.bind d ρ)).bind fun ρ' => M.ret (.nx ρ') else M.lift none
theorem s_asg {tg e : Expr} {f : Ex} {t : Tx} {pos : Pos} (he : FE X F e f) (hg : FX X F tg t) (hs : swapsWithSole [tg] e pos.line X.env = pure false := by rfl) (hw : swappedStores [tg] e X.env = pure none := by rfl)
    (h1 : (assignEach [tg] X.env).map (·.2) = [assign tg X.env] := by rfl) : FS X F (.Assign [tg] e pos) (sAsg f t) := PSi (ps_asg he hg hs hw h1) fun En σ H ⟨ρ, h⟩ => by
  refine ⟨ρ, (SAt.orX h).mono fun v H1 ⟨s1, d, r1, h2⟩ => ?_⟩
  cases hs : d.still with
  | false =>
    rw [hs, if_neg Bool.false_ne_true] at h2
    obtain ⟨_, _, e, _⟩ := h2.lift
    cases e
  | true =>
    rw [hs, if_pos rfl] at h2
    obtain ⟨π, hd, rm⟩ := h2
    exact ⟨ρ, π, d, hd, .inl (r1.still hs), (RM_calm (er' := fun _ _ => False) (RM_bind.mp rm)).imp (fun ρ' π1 q σ' H' hd' k => q σ' H' hd' k) fun _ _ q => q⟩
/-- name op= e -/
def sAug (i : Nat) (f : Ex) (o : Int → Int → Int) : Sx := fun ρ => match getV ρ i with
  | some (.int a) => (f ρ).orX ρ fun d => M.lift ((asI d).map fun b => .nx (setV ρ i (some (.int (o a b)))))
  | _ => M.lift none
theorem s_aug {i : Nat} {x : Str} {e : Expr} {f : Ex} {op : Operator} {o : Int → Int → Int} {pos' pos : Pos} (hN : X.N.Nodup) (hi : X.N[i]? = some x) (hx : Loc X.env.scope x) (he : FE X F e f) (ho : PIp X op (ipI o)) (hf : X.fn x = true ∨ X.env.scope.names.lookup x = some .local := by first | exact .inl rfl | exact .inr rfl | assumption) :
    FS X F (.AugAssign (.Name x pos') op e pos) (sAug i f o) := PSi (ps_aug hN hi hx he ho hf) fun En σ H ⟨ρ, h⟩ => by
  unfold sAug at h
  split at h
  · rename_i a ha
    obtain ⟨π0, hd0, rm0⟩ := h
    obtain ⟨v, hv, rv⟩ := hd0.slot i _ (getV_eq ha)
    cases rv.b.int
    refine ⟨.int a, hv, ρ, (SAt.orX (R := F.RR) ⟨π0, hd0, rm0⟩).mono fun y H1 ⟨s1, d, r1, h2⟩ => ?_⟩
    obtain ⟨fl, π, ef, hd, q⟩ := h2.lift
    cases hb : asI d with
    | none => rw [hb] at ef; cases ef
    | some b =>
      rw [hb] at ef
      cases ef
      cases asI_some hb
      exact ⟨a, b, rfl, r1.b.int, q _ H1 (hd.set (.int _)) (.refl _)⟩
  · obtain ⟨_, _, e, _⟩ := h.lift
    cases e
/-- found.append(rest.pop(e)) -/
noncomputable def sAppPop (j i : Nat) (f : Ex) : Sx := fun ρ => match getV ρ i, getV ρ j with
  | some (.own ds), some (.own es) => (f ρ).orX ρ fun d => M.lift (match asI d with
    | some z => if PopOk z ds.length es.length i j then (ds[z.toNat]?).map fun y => .nx (setV (setV ρ i (some (.own (ds.eraseIdx z.toNat)))) j (some (.own (es ++ [y])))) else none
    | none => none)
  | _, _ => M.lift none
theorem getV_set_ne : ∀ {ρ : Env} {i j : Nat} {d : Option D}, i ≠ j → getV (setV ρ i d) j = getV ρ j
  | [], _, _, _, _ => rfl
  | e :: t, 0, 0, _, h => (h rfl).elim
  | e :: t, 0, j + 1, _, _ => rfl
  | e :: t, i + 1, 0, _, _ => rfl
  | e :: t, i + 1, j + 1, _, h => getV_set_ne (ρ := t) fun z => h (by rw [z])
theorem seqIx {z : Int} {n : Nat} (h0 : 0 ≤ z) (h1 : z < n) : seqIndex? z n = some z.toNat := by
  have h : ixN n z = some z.toNat := by
    unfold ixN
    rw [if_pos h0, if_pos h1]
  exact (ixN_seq h).1
theorem s_appPop {i j : Nat} {x y : Str} {px py a1 c1 a2 c2 pos : Pos} {e : Expr} {f : Ex} (hN : X.N[i]? = some x) (hv : Vis X.env.scope x) (hd1 : (x == ("__debug__" : Str)) = false) (hcd : (x == ("__classdict__" : Str)) = false)
    (hN2 : X.N[j]? = some y) (hv2 : Vis X.env.scope y) (hd2 : (y == ("__debug__" : Str)) = false) (hcd2 : (y == ("__classdict__" : Str)) = false) (he : FE X F e f)
    (hbase : attributeBase (.Name x px) "pop" X.env (eval (.Name x px) X.env) = eval (.Name x px) X.env := by rfl)
    (hfew : ((backTo c1 (starEach [e] X.env)).all (fun x => !x.1) && (backToKw c1 (keywordEach [] X.env)).all (fun x => x.1.isSome)
      && decide ([e].length + ([] : List Keyword).length + (if ([] : List Keyword).isEmpty then 0 else 1) < 30)) = true := by rfl)
    (hline : (a1.endLine == c1.line) = true := by rfl) (hs : starEach [e] X.env = (false, eval e X.env) :: starEach [] X.env := by rfl) (hplain : (backTo c1 (starEach [] X.env)).any (·.1) = false := by rfl)
    (hbase2 : attributeBase (.Name y py) "append" X.env (eval (.Name y py) X.env) = eval (.Name y py) X.env := by rfl)
    (hfew2 : ((backTo c2 (starEach [.Call (.Attribute (.Name x px) "pop" a1) [e] [] c1] X.env)).all (fun x => !x.1) && (backToKw c2 (keywordEach [] X.env)).all (fun x => x.1.isSome)
      && decide ([Expr.Call (.Attribute (.Name x px) "pop" a1) [e] [] c1].length + ([] : List Keyword).length + (if ([] : List Keyword).isEmpty then 0 else 1) < 30)) = true := by rfl)
    (hline2 : (a2.endLine == c2.line) = true := by rfl) (hs2 : starEach [.Call (.Attribute (.Name x px) "pop" a1) [e] [] c1] X.env = (false, eval (.Call (.Attribute (.Name x px) "pop" a1) [e] [] c1) X.env) :: starEach [] X.env := by rfl) (hplain2 : (backTo c2 (starEach [] X.env)).any (·.1) = false := by rfl)
    (hsw : swapsWith (.Call (.Attribute (.Name y py) "append" a2) [.Call (.Attribute (.Name x px) "pop" a1) [e] [] c1] [] c2) none pos.line X.env = pure false := by rfl) :
    FS X F (.Expr (.Call (.Attribute (.Name y py) "append" a2) [.Call (.Attribute (.Name x px) "pop" a1) [e] [] c1] [] c2) pos) (sAppPop j i f) :=
  PSi (ps_expr (pe_bm PySem.F.plainAttrs_list PySem.F.slot_list_append PySem.F.type_list_append mt_append (pe_var hN2 hv2 hd2 hcd2)
    (pa_cons (pe_bm PySem.F.plainAttrs_list PySem.F.slot_list_pop PySem.F.type_list_pop mt_popAt (pe_var hN hv hd1 hcd) (pa_cons he pa_nil hs) hbase hfew hline hs hplain) pa_nil hs2) hbase2 hfew2 hline2 hs2 hplain2) hsw) fun En σ H ⟨ρ, h⟩ => by
  unfold sAppPop at h
  split at h
  · rename_i ds es hi hj
    obtain ⟨π0, hd0, rm0⟩ := h
    obtain ⟨a, vs, hσ, ha, rs, n⟩ := hd0.own hi
    obtain ⟨b, us, hσ2, hb, rs2, n2⟩ := hd0.own hj
    refine ⟨.ref b, hσ2, .inl ⟨rfl, us, SqL.of hb⟩, .ref a, hσ, .inl ⟨rfl, vs, SqL.of ha⟩, ρ, (SAt.orX (R := F.RR) ⟨π0, hd0, rm0⟩).mono fun v H1 ⟨s1, d, r1, h2⟩ => ?_⟩
    obtain ⟨fl, π, ef, hd, q⟩ := h2.lift
    split at ef
    · rename_i z ez
      cases asI_some ez
      split at ef
      · rename_i hz
        obtain ⟨z0, z1, z2, z3, zij⟩ := hz
        cases ey : ds[z.toNat]? with
        | none => rw [ey] at ef; cases ef
        | some yv =>
          rw [ey] at ef
          cases ef
          obtain ⟨a', vs', hσ', ha', rs', n'⟩ := hd.own hi
          rw [hσ] at hσ'
          cases hσ'
          obtain ⟨w, hw, rw'⟩ := rs'.get ey
          obtain ⟨hd3, kp⟩ := hd.grow hi hσ ha' n' (rs'.erase z.toNat)
          have hj3 : getV (setV ρ i (some (.own (ds.eraseIdx z.toNat)))) j = some (.own es) := by rw [getV_set_ne zij]; exact hj
          obtain ⟨b', us', hσb, hb', rsb, nb⟩ := hd3.own hj3
          rw [hσ2] at hσb
          cases hσb
          obtain ⟨hd4, kp4⟩ := hd3.grow hj3 hσ2 hb' nb (rsb.append (.one (rw'.kp kp)))
          exact ⟨a, vs', z, z.toNat, w, rfl, by rw [r1.b.int], ha', by omega, z2, by rw [← rs'.length]; exact seqIx z0 z1, hw, b, us', w, rfl, rfl, hb', by rw [← rsb.length]; exact z3, q σ _ hd4 (kp.trans kp4)⟩
      · cases ef
    · cases ef
  · obtain ⟨_, _, e, _⟩ := h.lift
    cases e
end
end Fx
set_option Elab.async false
set_option maxRecDepth 100000
set_option linter.unusedVariables false
/-! Calls, defs. -/
namespace Fx
open PySem L2 Lw
/-- what a def promises: it does what G tells -/
def spF (K : PySem.W.Frag) (C : Addr) (mg : Str → Option Value) (G : Fn) : Sp := fun vs H Q E => ∃ (pen : Option (Addr × Addr)) (π : Pn) (ds : List D), PenR ⟨K, C, pen⟩ π H ∧ Rps ⟨K, C, pen⟩ H ds vs ∧
  RM (G ds π) (fun d π' => ∀ v H', Stp ⟨K, C, pen⟩ H H' → PenR ⟨K, C, pen⟩ π' H' → RpN ⟨K, C, pen⟩ H H' d v → Q v H') (fun x π' => ∀ cls dx H', Stp ⟨K, C, pen⟩ H H' → PenR ⟨K, C, pen⟩ π' H' → XR ⟨K, C, pen⟩ mg H' x cls dx → E cls dx H')
def Fn.few (m : Nat) (G : Fn) : Fn := fun ds => if ds.length = m then G ds else M.lift none
def Fl.fin : Fl → M D
  | .rt d => M.ret d
  | .nx _ => M.ret .non
  | .er x _ => M.raise x
  | _ => M.lift none
/-- a def by its body -/
def fnSem (n m : Nat) (g : Sx) : Fn := fun ds => if ds.length = m then (calmM (g (ds.map some ++ List.replicate (n - m) none))).bind Fl.fin else M.lift none
structure HasF (P : Program) (w : World) (K : PySem.W.Frag) (mg : Str → Option Value) (base : Heap) (C : Addr) (k : Nat) (x : Str) (ps : List Str) (G : Fn) : Prop where
  ex : ∃ (f : Addr) (fd : FuncData), FnOk P w K mg base (L2.CX P w) k f fd ps (spF K C mg G) ∧ mg x = some (.ref f) ∧ PySem.W.keepIn K (.ref f) = true ∧ Binds K fd ps []
/-- a def in which repr runs -/
structure HasG (P : Program) (w : World) (K : PySem.W.Frag) (mg : Str → Option Value) (base : Heap) (C : Addr) (k : Nat) (x : Str) (ps : List Str) (G : Fn) : Prop where
  ex : ∃ (f : Addr) (fd : FuncData), FnG P w K mg base k f fd ps (spF K C mg G) ∧ mg x = some (.ref f) ∧ PySem.W.keepIn K (.ref f) = true ∧ Binds K fd ps []
structure HasMF (P : Program) (w : World) (K : PySem.W.Frag) (mg : Str → Option Value) (base : Heap) (C : Addr) (k : Nat) (m : Str) (ps : List Str) (G : Fn) : Prop where
  ex : ∃ (f : Addr) (fd : FuncData), FnOk P w K mg base (L2.CX P w) k f fd ps (spF K C mg G) ∧ Meth K C m f ∧ Binds K fd ps []
section
variable {P : Program} {w : World} {K : PySem.W.Frag} {mg : Str → Option Value} {base : Heap} {C : Addr}
theorem start_hd {H : Hp} {c : Rc} {ds : List D} {vs : List V} {π : Pn} (N : List Str) (p : PenR c π H) (r : Rps c H ds vs) : Hd c H (ds.map some ++ List.replicate (N.length - ds.length) none) π (L2.start N vs) H := by
  have hl := r.length
  refine ⟨by unfold L2.start; simp [hl], fun i d h => ?_, fun i j es fs a hi hj _ _ => ?_, ⟨π, p⟩, p, .refl _ _⟩
  · have key : ds[i]? = some d := by
      by_cases hi : i < ds.length
      · rw [List.getElem?_append_left (by simpa using hi), List.getElem?_map] at h
        cases e : ds[i]? with
        | none => rw [e] at h; cases h
        | some d' => rw [e] at h; cases h; rfl
      · rw [List.getElem?_append_right (by simpa using hi), List.getElem?_replicate] at h
        split at h
        · cases h
        · cases h
    obtain ⟨v, hv, rv⟩ := r.get key
    refine ⟨v, ?_, .inl rv⟩
    unfold L2.start
    have hi : i < vs.length := (List.getElem?_eq_some_iff.mp hv).1
    rw [List.getElem?_append_left (by simpa using hi), List.getElem?_map, hv]
    rfl
  · exfalso
    have : ds[i]? = some (.own es) := by
      by_cases hi' : i < ds.length
      · rw [List.getElem?_append_left (by simpa using hi'), List.getElem?_map] at hi
        cases e : ds[i]? with
        | none => rw [e] at hi; cases hi
        | some d' => rw [e] at hi; cases hi; rfl
      · rw [List.getElem?_append_right (by simpa using hi'), List.getElem?_replicate] at hi
        split at hi
        · cases hi
        · cases hi
    obtain ⟨v, hv, rv⟩ := r.get this
    cases rv
abbrev fcOf (K : PySem.W.Frag) (C : Addr) (mg : Str → Option Value) (pen : Option (Addr × Addr)) (E : XK) (H : Hp) : Fc := ⟨⟨K, C, pen⟩, mg, fun cls d _ H' => E cls d H', H⟩
theorem spF_len {n m : Nat} {g : Sx} {vs : List V} {H : Hp} {Q : VK} {E : XK} (h : spF K C mg (fnSem n m g) vs H Q E) : vs.length = m := by
  obtain ⟨pen, π, ds, p, r, rm⟩ := h
  rw [← r.length]
  unfold fnSem at rm
  split at rm
  · assumption
  · exact (show False from rm).elim
theorem fn_body {N : List Str} {m : Nat} {g : Sx} {vs : List V} {H : Hp} {Q : VK} {E : XK} (hsp : spF K C mg (fnSem N.length m g) vs H Q E) :
    ∃ pen, tS (fcOf K C mg pen E H) g { nx := fun _ H' => Q .non H', rt := Q } (L2.start N vs) H := by
  obtain ⟨pen, π, ds, p, r, rm⟩ := hsp
  unfold fnSem at rm
  split at rm
  · rename_i hm
    refine ⟨pen, ds.map some ++ List.replicate (N.length - m) none, π, ?_, ?_⟩
    · rw [← hm]
      exact start_hd N p r
    · refine (RM_calm (er' := fun _ _ => False) (RM_bind.mp rm)).imp (fun f π1 q => ?_) fun x π1 q => q
      · cases f with
        | rt d => exact fun v H' s pn rn => q v H' s pn rn
        | nx ρ => exact fun σ' H' hd _ => q .non H' hd.stp hd.pen (.inl .non)
        | er x ρ => exact fun σ' cls dx H' hd xr => q cls dx H' hd.stp hd.pen xr
        | bk ρ => exact (show False from q).elim
        | ct ρ => exact (show False from q).elim
  · exact (show False from rm).elim
theorem fn_okX {x qual : Str} {st : Stmt} {f : Addr} {fd : FuncData} {N ps : List Str} {k : Nat} {g : Sx} (F : Fun K x qual st f fd) (S : FnScope N ps (defScope st))
    (hb : ∀ (cdv : Value) (A : Around) (outer : List PySem.Env) (s : Shared) (H : Hp) (E : XK) (pen : Option (Addr × Addr)), Room k (A.deeper (PyProof.Rows.envOfC qual (defScope st) s.heap.objs.size f cdv)) →
      FSs (cxOf (L2.CX P w) P w K mg base N qual (defScope st) f cdv A outer s H E) (fcOf K C mg pen E H) (defBody st) g) : FnOk P w K mg base (L2.CX P w) (k + 1) f fd ps (spF K C mg (fnSem N.length ps.length g)) :=
  F.okX S (fun vs H Q E h => spF_len h) fun cdv A outer s H vs Q E hr hsp => by
    obtain ⟨pen, q⟩ := fn_body hsp
    exact ⟨_, hb cdv A outer s H E pen hr, q⟩
abbrev fcNo (K : PySem.W.Frag) (C : Addr) (mg : Str → Option Value) (pen : Option (Addr × Addr)) (H : Hp) : Fc := ⟨⟨K, C, pen⟩, mg, fun _ _ _ _ => False, H⟩
/-- where nothing is raised -/
def Fl.finN : Fl → M D
  | .rt d => M.ret d
  | .nx _ => M.ret .non
  | _ => M.lift none
def fnSemN (n m : Nat) (g : Sx) : Fn := fun ds => if ds.length = m then (calmM (g (ds.map some ++ List.replicate (n - m) none))).bind Fl.finN else M.lift none
theorem fn_bodyN {N : List Str} {m : Nat} {g : Sx} {vs : List V} {H : Hp} {Q : VK} {E : XK} (hsp : spF K C mg (fnSemN N.length m g) vs H Q E) :
    ∃ pen, tS (fcNo K C mg pen H) g { nx := fun _ H' => Q .non H', rt := Q } (L2.start N vs) H := by
  obtain ⟨pen, π, ds, p, r, rm⟩ := hsp
  unfold fnSemN at rm
  split at rm
  · rename_i hm
    refine ⟨pen, ds.map some ++ List.replicate (N.length - m) none, π, ?_, ?_⟩
    · rw [← hm]
      exact start_hd N p r
    · refine (RM_calm (er' := fun _ _ => False) (RM_bind.mp rm)).imp (fun f π1 q => ?_) fun x π1 q => q
      cases f with
      | rt d => exact fun v H' s pn rn => q v H' s pn rn
      | nx ρ => exact fun σ' H' hd _ => q .non H' hd.stp hd.pen (.inl .non)
      | er x ρ => exact (show False from q).elim
      | bk ρ => exact (show False from q).elim
      | ct ρ => exact (show False from q).elim
  · exact (show False from rm).elim
theorem spFN_len {n m : Nat} {g : Sx} {vs : List V} {H : Hp} {Q : VK} {E : XK} (h : spF K C mg (fnSemN n m g) vs H Q E) : vs.length = m := by
  obtain ⟨pen, π, ds, p, r, rm⟩ := h
  rw [← r.length]
  unfold fnSemN at rm
  split at rm
  · assumption
  · exact (show False from rm).elim
/-- a def in which repr runs: the guards are known, nothing is raised -/
theorem fn_okG {x qual : Str} {st : Stmt} {f : Addr} {fd : FuncData} {N ps : List Str} {k : Nat} {g : Sx} (F : Fun K x qual st f fd) (S : FnScope N ps (defScope st))
    (hb : ∀ (cdv : Value) (A : Around) (outer : List PySem.Env) (s : Shared) (H : Hp) (E : XK) (pen : Option (Addr × Addr)), A.guards = some [] → Room k (A.deeper (PyProof.Rows.envOfC qual (defScope st) s.heap.objs.size f cdv)) →
      FSs (cxOf L2.CX0 P w K mg base N qual (defScope st) f cdv A outer s H E).nox (fcNo K C mg pen H) (defBody st) g) : FnG P w K mg base (k + 1) f fd ps (spF K C mg (fnSemN N.length ps.length g)) :=
  gok F S (fun vs H Q E h => spFN_len h) fun cdv A outer s H vs Q E hg hr hsp => by
    obtain ⟨pen, q⟩ := fn_bodyN hsp
    exact ⟨_, hb cdv A outer s H E pen hg hr, q⟩
/-- a def that raises nothing may stand for one that may -/
theorem FnOk.toX {k : Nat} {f : Addr} {fd : FuncData} {ps : List Str} {sp : Sp} (F : FnOk P w K mg base L2.CX0 k f fd ps sp) : FnOk P w K mg base (L2.CX P w) k f fd ps sp :=
  ⟨F.len, fun A outer s H args us vs Q E hr he hb hv hs => codeAny_mono (F.run A outer s H args us vs Q E hr he hb hv hs) fun r s' h => by
    cases r with
    | error e => exact (show False from h).elim
    | ok fl =>
      cases fl with
      | ret u => exact h
      | next => exact h
      | brk => exact h
      | cont => exact h⟩
end
def eCall (G : Fn) (r : Env → M (List D)) : Ex := fun ρ => (r ρ).bind fun ds => if stills ds = true then G ds else M.lift none
section
variable {X : Cx} {F : Fc} {k : Nat} {f : Addr} {fd : FuncData} {ps : List Str} {G : Fn} {x : Str} {p pos : Pos} {e : Expr} {es : List Expr} {r : Env → M (List D)}
theorem call_at {ρ : Env} {σ : St} {H : Hp} {Q : VK} {ds : List D} {vs : List V} (rs : RpRs F.c F.H0 H ds vs) (h : At F F.RN ρ (if stills ds = true then G ds else M.lift none) σ H Q) : spF F.c.K F.c.C F.mg G vs H Q (fun cls dx H' => F.W cls dx σ H') := by
  split at h
  · rename_i hs
    obtain ⟨π, hd, rm⟩ := h
    exact ⟨F.c.pen, π, ds, hd.pen, rs.still hs, rm.imp (fun d π' q v H' st pn rn => q v H' (hd.step st pn) st rn) fun x π' q cls dx H' st pn xr => q cls dx H' (hd.step st pn) xr⟩
  · obtain ⟨_, _, _, e, _⟩ := h.lift
    cases e
theorem f_call (tk : Takes X F.W) (hF : FnOk X.prog X.w X.K X.mg X.base (L2.CX X.prog X.w) k f fd ps (spF F.c.K F.c.C F.mg G)) (hr : Room k X.A) (hg : Gl X x) (hm : X.mg x = some (.ref f)) (hk : PySem.W.keepIn X.K (.ref f) = true) (hb : Binds X.K fd ps []) (ha : FA X F (e :: es) r)
    (hdb : (x == ("__debug__" : Str)) = false := by decide) (he : starEach (e :: es) X.env = (false, eval e X.env) :: starEach es X.env := by rfl) (hpl : (backTo pos (starEach es X.env)).any (·.1) = false := by rfl) :
    FN X F (.Call (.Name x p) (e :: es) [] pos) (eCall G r) := PEi (pe_callS hF hr hg hm hk hb (fun σ => passAt tk σ) ha hdb he hpl) fun σ H Q ⟨ρ, h⟩ =>
  ⟨ρ, (At.bind bkN h).mono fun vs H1 ⟨s1, ds, r1, h2⟩ => call_at r1 h2⟩
theorem passE0 : Passes (L2.CX X.prog X.w) X L2.E0 := fun _ _ _ _ _ _ _ h => by
  obtain ⟨_, _, _, _, _, _, _, _, _, _, _, _, z⟩ := h
  exact z.elim
theorem f_call0 (hF : FnOk X.prog X.w X.K X.mg X.base (L2.CX X.prog X.w) k f fd ps (spF F.c.K F.c.C F.mg G)) (hr : Room k X.A) (hg : Gl X x) (hm : X.mg x = some (.ref f)) (hk : PySem.W.keepIn X.K (.ref f) = true) (hb : Binds X.K fd ps [])
    (hdb : (x == ("__debug__" : Str)) = false := by decide) : FN X F (.Call (.Name x p) [] [] pos) (fun _ => calmM (G [])) := PEi (pe_call0 hF hr hg hm hk hb .nil passE0 hdb) fun σ H Q ⟨ρ, h⟩ => by
  obtain ⟨π, hd, rm⟩ := h
  exact ⟨F.c.pen, π, [], hd.pen, .nil, (RM_calm (er' := fun _ _ => False) rm).imp (fun d π' q v H' st pn rn => q v H' (hd.step st pn) st rn) fun x π' q => q.elim⟩
theorem f_callG (hF : FnG X.prog X.w X.K X.mg X.base k f fd ps (spF F.c.K F.c.C F.mg G)) (hgd : X.A.guards = some []) (hr : Room k X.A) (hg : Gl X x) (hm : X.mg x = some (.ref f)) (hk : PySem.W.keepIn X.K (.ref f) = true) (hb : Binds X.K fd ps []) (ha : FA X F (e :: es) r)
    (hdb : (x == ("__debug__" : Str)) = false := by decide) (he : starEach (e :: es) X.env = (false, eval e X.env) :: starEach es X.env := by rfl) (hpl : (backTo pos (starEach es X.env)).any (·.1) = false := by rfl) :
    FN X F (.Call (.Name x p) (e :: es) [] pos) (eCall (fun ds => calmM (G ds)) r) := PEi (pe_callG hF hgd hr hg hm hk hb ha hdb he hpl) fun σ H Q ⟨ρ, h⟩ =>
  ⟨ρ, (At.bind bkN h).mono fun vs H1 ⟨s1, ds, r1, h2⟩ => by
    rw [List.append_nil]
    split at h2
    · rename_i hs
      obtain ⟨π, hd, rm⟩ := h2
      exact ⟨F.c.pen, π, ds, hd.pen, r1.still hs, (RM_calm (er' := fun _ _ => False) rm).imp (fun d π' q v H' st pn rn => q v H' (hd.step st pn) st rn) fun x π' q => q.elim⟩
    · obtain ⟨_, _, _, e, _⟩ := h2.lift
      cases e⟩
/-! methods of tables -/
variable {o : Expr} {g : Ex} {m : Str} {apos : Pos}
def eMeth (G : Fn) (g : Ex) (r : Env → M (List D)) : Ex := fun ρ => (g ρ).bind fun d => match d with
  | .tbl ms pss => (r ρ).bind fun ds => if stills ds = true then calmM (G (.tbl ms pss :: ds)) else M.lift none
  | _ => M.lift none
theorem tbl_of {c : Rc} {H : Hp} {x : V} {ms : List Str} {pss : List (List (Str × Str))} (h : RpB c H (.tbl ms pss) x) : ∃ a, x = .ref a ∧ TblAt H c.C a ms pss := by
  rcases h with h | ⟨_, _, _, h, _⟩
  · cases h with
    | tbl h => exact ⟨_, rfl, h⟩
  · cases h
theorem meth_in {α β : Type} {R : RX α β} {ρ : Env} {σ : St} {H : Hp} {Q : β → Hp → Prop} {d : D} {k : List Str → List (List (Str × Str)) → M α} (h : At F R ρ (match d with
  | .tbl ms pss => k ms pss
  | _ => M.lift none) σ H Q) : ∃ ms pss, d = .tbl ms pss ∧ At F R ρ (k ms pss) σ H Q := by
  split at h
  · exact ⟨_, _, rfl, h⟩
  · obtain ⟨_, _, _, e, _⟩ := h.lift
    cases e
theorem meth_end {ρ : Env} {σ : St} {H1 H2 : Hp} {Q : VK} {a : Addr} {ms : List Str} {pss : List (List (Str × Str))} {ds : List D} {vs : List V} {E : XK} (ht : TblAt H1 F.c.C a ms pss) (s : Stp F.c H1 H2) (rs : RpRs F.c F.H0 H2 ds vs)
    (h : At F F.RN ρ (if stills ds = true then calmM (G (.tbl ms pss :: ds)) else M.lift none) σ H2 Q) : spF F.c.K F.c.C F.mg G (.ref a :: vs) H2 Q E := by
  split at h
  · rename_i hs
    obtain ⟨π, hd, rm⟩ := h
    exact ⟨F.c.pen, π, .tbl ms pss :: ds, hd.pen, .cons (.tbl (tbl_kp ht s.2)) (rs.still hs), (RM_calm (er' := fun _ _ => False) rm).imp (fun d π' q v H' st pn rn => q v H' (hd.step st pn) st rn) fun x π' q => q.elim⟩
  · obtain ⟨_, _, _, e, _⟩ := h.lift
    cases e
theorem f_meth {pl : Sem Bool} (he : FE X F o g) (c : Cls X.K F.c.C) (hm : Meth X.K F.c.C m f) (hF : FnOk X.prog X.w X.K X.mg X.base (L2.CX X.prog X.w) k f fd ps (spF F.c.K F.c.C F.mg G)) (hr : Room k X.A) (hb : Binds X.K fd ps []) (ha : FA X F (e :: es) r)
    (hl : ∀ a b : V, ([("_marks", a), ("_pairs", b)] : List (Str × V)).lookup m = none)
    (hst : starEach (e :: es) X.env = (false, eval e X.env) :: starEach es X.env := by rfl) (hpl : (backTo pos (starEach es X.env)).any (·.1) = false := by rfl)
    (ht : eval (.Call (.Attribute o m apos) (e :: es) [] pos) X.env = (do
      let ov ← eval o X.env
      standAt apos.atName
      let (f, first) ← holding [ov] (getMethod ov m pl)
      callWith pos f first (backTo pos (starEach (e :: es) X.env)) (backToKw pos (keywordEach [] X.env))) := by rfl) :
    FN X F (.Call (.Attribute o m apos) (e :: es) [] pos) (eMeth G g r) := PEi (pe_meth he c hm hF hr hb .nil passE0 ha hst hpl ht) fun σ H Q ⟨ρ, h⟩ => by
  refine ⟨ρ, (At.bind bkN h).mono fun x H1 ⟨s1, d, r1, h2⟩ => ?_⟩
  obtain ⟨ms, pss, rfl, h2⟩ := meth_in h2
  obtain ⟨a, rfl, ht⟩ := tbl_of r1.b
  obtain ⟨dx, mm, q, ls, h1, _⟩ := id ht
  exact ⟨a, dx, _, rfl, h1, hl _ _, ρ, (At.bind bkN h2).mono fun vs H2 ⟨s2, ds, r2, h3⟩ => by
    rw [List.append_nil]
    exact meth_end ht s2 r2 h3⟩
theorem f_meth0 {pl : Sem Bool} (he : FE X F o g) (c : Cls X.K F.c.C) (hm : Meth X.K F.c.C m f) (hF : FnOk X.prog X.w X.K X.mg X.base (L2.CX X.prog X.w) k f fd ps (spF F.c.K F.c.C F.mg G)) (hr : Room k X.A) (hb : Binds X.K fd ps [])
    (hl : ∀ a b : V, ([("_marks", a), ("_pairs", b)] : List (Str × V)).lookup m = none)
    (ht : eval (.Call (.Attribute o m apos) [] [] pos) X.env = (do
      let ov ← eval o X.env
      standAt apos.atName
      let (f, first) ← holding [ov] (getMethod ov m pl)
      callWith pos f first (backTo pos (starEach [] X.env)) (backToKw pos (keywordEach [] X.env))) := by rfl) :
    FN X F (.Call (.Attribute o m apos) [] [] pos) (eMeth G g aNil) := PEi (pe_meth0 he c hm hF hr hb .nil passE0 ht) fun σ H Q ⟨ρ, h⟩ => by
  refine ⟨ρ, (At.bind bkN h).mono fun x H1 ⟨s1, d, r1, h2⟩ => ?_⟩
  obtain ⟨ms, pss, rfl, h2⟩ := meth_in h2
  obtain ⟨a, rfl, ht⟩ := tbl_of r1.b
  obtain ⟨dx, mm, q, ls, h1, _⟩ := id ht
  obtain ⟨π, hd, rm⟩ := h2
  have h3 : At F F.RN ρ (if stills [] = true then calmM (G (.tbl ms pss :: [])) else M.lift none) σ H1 Q := ⟨π, hd, rm⟩
  exact ⟨a, dx, _, rfl, h1, hl _ _, meth_end ht (.refl _ _) .nil h3⟩
/-! a table's own fields -/
def pairD (p : Str × Str) : D := .tup [.str p.1, .str p.2]
def lineD (ps : List (Str × Str)) : D := .tup (ps.map pairD)
def marksD (ms : List Str) : D := .tup (ms.map .str)
def pairsD (pss : List (List (Str × Str))) : D := .tup (pss.map lineD)
theorem rps_paired {c : Rc} {H : Hp} {α : Type} {f : α → D} {R : Addr → α → Prop} (h : ∀ a x, R a x → Rp c H (f x) (.ref a)) : ∀ {as : List Addr} {xs : List α}, Paired R as xs → Rps c H (xs.map f) (as.map V.ref)
  | _, _, .nil => .nil
  | _, _, .cons r t => .cons (h _ _ r) (rps_paired h t)
theorem rp_pair {c : Rc} {H : Hp} {t : Addr} {p : Str × Str} (h : StrPair H t p) : Rp c H (pairD p) (.ref t) := .tup h (.cons (.str _) (.cons (.str _) .nil))
theorem rp_line {c : Rc} {H : Hp} {l : Addr} {ps : List (Str × Str)} (h : LineT H l ps) : Rp c H (lineD ps) (.ref l) := by
  obtain ⟨ts, h1, h2⟩ := h
  exact .tup h1 (rps_paired (fun _ _ t => rp_pair t) h2)
def fldM (d : D) : Option D := match d with
  | .tbl ms pss => some (marksD ms)
  | _ => none
def fldP (d : D) : Option D := match d with
  | .tbl ms pss => some (pairsD pss)
  | _ => none
theorem f_marks {pos : Pos} (c : Cls X.K F.c.C) (n : NoAttr X.K F.c.C "_marks") (he : FE X F o g) (hb : attributeBase o "_marks" X.env (eval o X.env) = eval o X.env) : FN X F (.Attribute o "_marks" pos) (eUn fldM g) := PEi (pe_fld he hb) fun σ H Q ⟨ρ, h⟩ => by
  refine ⟨ρ, (At.bind bkN h).mono fun x H1 ⟨s1, d, r1, h2⟩ => ?_⟩
  obtain ⟨z, π, hd, ez, q⟩ := h2.lift
  unfold fldM at ez
  split at ez
  · cases ez
    obtain ⟨a, rfl, dx, mm, qq, ls, h1, h2, h3, h4⟩ := tbl_of r1.b
    exact ⟨a, F.c.C, dx, _, .ref mm, rfl, h1, c, n, rfl, q _ H1 hd (.refl _ _) (.inl (.tup h2 (Rps.strs _)))⟩
  · cases ez
theorem f_pairs {pos : Pos} (c : Cls X.K F.c.C) (n : NoAttr X.K F.c.C "_pairs") (he : FE X F o g) (hb : attributeBase o "_pairs" X.env (eval o X.env) = eval o X.env) : FN X F (.Attribute o "_pairs" pos) (eUn fldP g) := PEi (pe_fld he hb) fun σ H Q ⟨ρ, h⟩ => by
  refine ⟨ρ, (At.bind bkN h).mono fun x H1 ⟨s1, d, r1, h2⟩ => ?_⟩
  obtain ⟨z, π, hd, ez, q⟩ := h2.lift
  unfold fldP at ez
  split at ez
  · cases ez
    obtain ⟨a, rfl, dx, mm, qq, ls, h1, h2, h3, h4⟩ := tbl_of r1.b
    exact ⟨a, F.c.C, dx, _, .ref qq, rfl, h1, c, n, rfl, q _ H1 hd (.refl _ _) (.inl (.tup h3 (rps_paired (fun _ _ t => rp_line t) h4)))⟩
  · cases ez
end
end Fx
set_option Elab.async false
set_option maxRecDepth 100000
set_option linter.unusedVariables false
/-! Methods of built-in things, isinstance, repr. -/
namespace Fx
open PySem L2 Lw
section
variable {X : Cx} {F : Fc} {e o : Expr} {es : List Expr} {f g : Ex} {pos apos cpos : Pos} {r : Env → M (List D)}
theorem PEor {e : Expr} {t t' : TE} (h : PE X e t) (h' : PE X e t') : PE X e (fun σ H Q => t σ H Q ∨ t' σ H Q) := ⟨fun pins s σ H Q I q => q.elim (fun q => h.run pins s σ H Q I q) fun q => h'.run pins s σ H Q I q⟩
/-! ### isinstance -/
def D.tyN : D → Option String
  | .non => some "NoneType"
  | .bl _ => some "bool"
  | .int _ => some "int"
  | .str _ => some "str"
  | .tup _ => some "tuple"
  | .lst _ => some "list"
  | .own _ => some "list"
  | _ => none
def subTy (t u : String) : Bool := t == u || (t == "bool" && u == "int")
theorem kit_tab : ∀ t ∈ ["NoneType", "bool", "int", "str", "tuple", "list"], ∀ u ∈ ["bool", "int", "str", "tuple", "list", "dict"], kitB t u = some (subTy t u) := by decide +kernel
def isiD (tys : List String) (d : D) : Option D := match d.tyN with
  | some t => if ∀ u ∈ tys, u ∈ ["bool", "int", "str", "tuple", "list", "dict"] then some (.bl (tys.any fun u => subTy t u)) else none
  | none => none
theorem tyN_in {d : D} {t : String} (h : d.tyN = some t) : t ∈ ["NoneType", "bool", "int", "str", "tuple", "list"] := by
  cases d <;> first | (cases h; decide) | cases h
theorem tyX_of {c : Rc} {H : Hp} {d : D} {v : V} {t : String} (h : RpB c H d v) (e : d.tyN = some t) : TyX c.K H v (.type t) := by
  cases d with
  | non => cases e; rw [h.non]; exact .base .non
  | bl b => cases e; rw [h.bl]; exact .base (.bl b)
  | int b => cases e; rw [h.int]; exact .base (.int b)
  | str b => cases e; rw [h.str]; exact .base (.str b)
  | tup ds =>
    cases e
    obtain ⟨a, vs, rfl, ht, _⟩ := h.tup
    exact ht.ty
  | lst ds =>
    cases e
    obtain ⟨a, vs, rfl, ht, _⟩ := h.lst
    rcases ht with ht | ⟨o, ht⟩
    · exact .base (.lst ht)
    · exact .base (.frz ht)
  | own ds =>
    cases e
    obtain ⟨a, vs, rfl, ht, _⟩ := h.own
    rcases ht with ht | ⟨o, ht⟩
    · exact .base (.lst ht)
    · exact .base (.frz ht)
  | _ => cases e
theorem kitAny_tab {K : PySem.W.Frag} {t : String} (ht : t ∈ ["NoneType", "bool", "int", "str", "tuple", "list"]) : ∀ {tys : List String}, (∀ u ∈ tys, u ∈ ["bool", "int", "str", "tuple", "list", "dict"]) → PySem.W.kitAny K (.type t) (tys.map Value.type) = some (tys.any fun u => subTy t u)
  | [], _ => rfl
  | u :: tys, h => by
    refine kitAny_cons (kit_ty (kit_tab t ht u (h u (by simp)))) (fun hb => ?_) (fun hb => ?_)
    · rw [kitAny_tab ht (fun v hv => h v (by simp [hv])), List.any_cons, hb]
      rfl
    · rw [List.any_cons, hb]
      rfl
abbrev TyL (X : Cx) (es : List Expr) (tys : List String) : Prop := PA X es (fun _ H Q => Q (tys.map V.ty) H)
theorem ty_nil : TyL X [] [] := PAi pa_nil fun _ _ _ h => h
theorem ty_cons {T : String} {tys : List String} (h : PE X e (tC (.ty T))) (hr : TyL X es tys) (hs : starEach (e :: es) X.env = (false, eval e X.env) :: starEach es X.env := by rfl) : TyL X (e :: es) (T :: tys) := PAi (pa_cons h hr hs) fun _ _ _ h => h
theorem clsV_all : ∀ tys : List String, Paired ClsV (tys.map V.ty) (tys.map Value.type)
  | [] => .nil
  | t :: tys => .cons (.ty t) (clsV_all tys)
/-- isinstance(e, (T, ..)) -/
theorem f_isiT {tys : List String} {k : Nat} {x : Str} {p tp : Pos} (hx : x = "isinstance") (hK : X.K = F.c.K) (hg : Gl X x) (hm : X.mg x = none) (he : FE X F e f) (ht : TyL X es tys) (hl : tys.length ≤ sizeLine)
    (hv : bootBuiltins x = some (.builtin "isinstance")) (hn : x ≠ "__name__" := by decide) (hdb : (x == ("__debug__" : Str)) = false := by decide)
    (hs : starEach [e, .Tuple es k tp] X.env = (false, eval e X.env) :: starEach [.Tuple es k tp] X.env := by rfl) (hs2 : starEach [.Tuple es k tp] X.env = (false, eval (.Tuple es k tp) X.env) :: starEach [] X.env := by rfl)
    (hpl : (backTo pos (starEach [.Tuple es k tp] X.env)).any (·.1) = false := by rfl) :
    FN X F (.Call (.Name x p) [e, .Tuple es k tp] [] pos) (eUn (isiD tys) f) := PEi (pe_callB (call_isiTK (K := F.c.K) hK) hg hm hv (pa_cons he (pa_cons (pe_tup ht) pa_nil hs2) hs) hn hdb hs hpl) fun σ H Q ⟨ρ, h⟩ => by
  refine ⟨ρ, (At.bind bkN h).mono fun v H1 ⟨s1, d, r1, h2⟩ => ?_⟩
  obtain ⟨z, π, hd, ez, q⟩ := h2.lift
  unfold isiD at ez
  split at ez
  · rename_i t et
    obtain ⟨hu, rfl⟩ := if_some ez
    refine ⟨by rw [List.length_map]; exact hl, fun T nT => ?_⟩
    have s2 : Same H1 (upd H1 T (.tup (tys.map V.ty))) := same_new nT
    have hd2 := hd.same s2
    obtain ⟨π0, p0⟩ := hd.pen0
    exact ⟨v, T, _, .type t, _, _, rfl, upd_same, clsV_all tys, tyX_of ((r1.stp p0 (.of s2)).b) et, kitAny_tab (tyN_in et) hu, q _ _ hd2 (.of s2) (.inl (.bl _))⟩
  · cases ez
/-- isinstance(e, T) -/
theorem f_isi {T : String} {te : Expr} {x : Str} {p : Pos} (hK : X.K = F.c.K) (hg : Gl X x) (hm : X.mg x = none) (he : FE X F e f) (ht : PE X te (tC (.ty T)))
    (hv : bootBuiltins x = some (.builtin "isinstance")) (hn : x ≠ "__name__" := by decide) (hdb : (x == ("__debug__" : Str)) = false := by decide)
    (hs : starEach [e, te] X.env = (false, eval e X.env) :: starEach [te] X.env := by rfl) (hs2 : starEach [te] X.env = (false, eval te X.env) :: starEach [] X.env := by rfl)
    (hpl : (backTo pos (starEach [te] X.env)).any (·.1) = false := by rfl) :
    FN X F (.Call (.Name x p) [e, te] [] pos) (eUn (isiD [T]) f) := PEi (pe_callB (call_isiK' (K := F.c.K) hK) hg hm hv (pa_cons he (pa_cons ht pa_nil hs2) hs) hn hdb hs hpl) fun σ H Q ⟨ρ, h⟩ => by
  refine ⟨ρ, (At.bind bkN h).mono fun v H1 ⟨s1, d, r1, h2⟩ => ?_⟩
  obtain ⟨z, π, hd, ez, q⟩ := h2.lift
  unfold isiD at ez
  split at ez
  · rename_i t et
    obtain ⟨hu, rfl⟩ := if_some ez
    have kt := kit_ty (K := F.c.K) (kit_tab t (tyN_in et) T (hu T (by simp)))
    have e1 : ([T].any fun u => subTy t u) = subTy t T := by simp
    rw [e1] at q
    exact ⟨v, .ty T, .type t, .type T, _, rfl, .ty T, tyX_of r1.b et, kt, q _ _ hd (.refl _ _) (.inl (.bl _))⟩
  · cases ez
/-! ### repr -/
def reprD : List D → Option D
  | [d] => match d.asQ, d.py with
    | some _, some p => if p.showable = true ∧ p.hasDict = false ∧ p.depth ≤ 60 ∧ p.shown.length ≤ sizeLine then some (.str p.shown) else none
    | _, _ => none
  | _ => none
theorem call_reprF {c : Rc} (hK : X.K = c.K) (hg : X.A.guards = some []) (hu : X.A.units + 64 < cLine) : CallR X (.builtin "repr") (rF c reprD) := call_by (call_reprK (K := c.K) hK hg hu) fun H xs Q ds z h1 h2 q => by
  unfold reprD at h2
  split at h2
  · rename_i d
    obtain ⟨x, rfl, hx⟩ := bs1 h1
    split at h2
    · rename_i es p ea ep
      obtain ⟨⟨c1, c2, c3, c4⟩, rfl⟩ := if_some h2
      obtain ⟨a, vs, rfl, _⟩ := hx.asQ ea
      exact ⟨a, p, rfl, hx.dp ep, c1, c2, c3, c4, fin q (.str _)⟩
    · cases h2
  · cases h2
/-! ### index, join -/
def D.sts : List D → Option (List Str)
  | [] => some []
  | .str i :: ds => (D.sts ds).map fun ns => i :: ns
  | _ => none
theorem sts_eq : ∀ {ds : List D} {ns : List Str}, D.sts ds = some ns → ds = ns.map .str
  | [], _, h => by cases h; rfl
  | d :: ds, _, h => by
    cases d with
    | str i =>
      cases e : D.sts ds with
      | none => simp [D.sts, e] at h
      | some ms =>
        simp [D.sts, e] at h
        subst h
        rw [sts_eq e]
        rfl
    | _ => simp [D.sts] at h
theorem sts_map : ∀ ns : List Str, D.sts (ns.map .str) = some ns
  | [] => rfl
  | n :: ns => by simp [D.sts, sts_map ns]
theorem Rps.toSts {c : Rc} {H : Hp} : ∀ {ns : List Str} {vs : List V}, Rps c H (ns.map .str) vs → vs = ns.map .str
  | [], _, .nil => rfl
  | n :: ns, _, .cons r t => by
    cases r
    rw [Rps.toSts t]
    rfl
/-- xs.index(y), ints or texts -/
def idxD (ds : List D) (y : D) : Option D := match y with
  | .int z => (D.ints ds).bind fun ns => if z ∈ ns then some (.int (ns.idxOf z : Nat)) else none
  | .str z => (D.sts ds).bind fun ns => if z ∈ ns then some (.int (ns.idxOf z : Nat)) else none
  | _ => none
def eIdx (f g : Ex) : Ex := fun ρ => (f ρ).bind fun d => match d.asQ with
  | some ds => (g ρ).bind fun y => M.lift (idxD ds y)
  | none => M.lift none
theorem idx_at {α : Type} [DecidableEq α] {ns : List α} {z : α} (h : z ∈ ns) : ns[ns.idxOf z]? = some z ∧ ∀ m, m < ns.idxOf z → ns[m]? ≠ some z := by
  have hi := List.idxOf_lt_length_of_mem h
  refine ⟨by rw [List.getElem?_eq_getElem hi, List.getElem_idxOf], fun m hm e => ?_⟩
  have h2 : m < ns.length := by omega
  have h3 := (List.getElem?_eq_some_iff.mp e).2
  have := List.not_of_lt_findIdx (p := fun x => x == z) (xs := ns) (i := m) hm
  rw [h3] at this
  simp at this
theorem asL_asQ {d : D} {es : List D} (h : d.asL = some es) : d.asQ = some es := by
  cases d <;> first | exact h | cases h
set_option maxHeartbeats 1000000 in
theorem f_index (ho : FE X F o f) (he : FE X F e g)
    (hbase : attributeBase o "index" X.env (eval o X.env) = eval o X.env := by rfl)
    (hfew : ((backTo cpos (starEach [e] X.env)).all (fun x => !x.1) && (backToKw cpos (keywordEach [] X.env)).all (fun x => x.1.isSome)
      && decide ([e].length + ([] : List Keyword).length + (if ([] : List Keyword).isEmpty then 0 else 1) < 30)) = true := by rfl)
    (hline : (apos.endLine == cpos.line) = true := by rfl) (hs : starEach [e] X.env = (false, eval e X.env) :: starEach [] X.env := by rfl) (hplain : (backTo cpos (starEach [] X.env)).any (·.1) = false := by rfl) :
    FN X F (.Call (.Attribute o "index" apos) [e] [] cpos) (eIdx f g) :=
  PEi (PEor (pe_bm PySem.F.plainAttrs_list PySem.F.slot_list_index PySem.F.type_list_index mt_index ho (pa_cons he pa_nil hs) hbase hfew hline hs hplain)
    (PEor (pe_bmT PySem.F.slot_tuple_index PySem.F.type_tuple_index mt_tupIndexI ho (pa_cons he pa_nil hs) hbase hfew hline hs hplain)
      (pe_bmT PySem.F.slot_tuple_index PySem.F.type_tuple_index mt_tupIndexS0 ho (pa_cons he pa_nil hs) hbase hfew hline hs hplain))) fun σ H Q ⟨ρ, h⟩ => by
  obtain ⟨π, hd, rm⟩ := h
  have rm := RM_bind.mp rm
  have mk : ∀ {Q1 : V → Hp → Prop} (P : D → Prop), (∀ d π1, f ρ π = some (.ok d, π1) → P d) → (∀ d v H1, P d → Stp F.c H H1 → RpR F.c F.H0 H1 d v → At F F.RN ρ (match d.asQ with
      | some ds => (g ρ).bind fun y => M.lift (idxD ds y)
      | none => M.lift none) σ H1 Q → Q1 v H1) → tX F F.RR f σ H Q1 := fun P hP k => by
    refine ⟨ρ, π, hd, ?_⟩
    unfold RM at rm ⊢
    cases e1 : f ρ π with
    | none => rw [e1] at rm; exact rm.elim
    | some r =>
      obtain ⟨x, π1⟩ := r
      cases x with
      | error x => rw [e1] at rm; exact rm
      | ok d =>
        rw [e1] at rm
        intro v H1 hd1 s1 r1
        exact k d v H1 (hP d π1 e1) s1 r1 ⟨π1, hd1, RM.imp rm (fun e π2 q w H2 hd2 s2 r2 => q w H2 hd2 (s1.trans s2) (r2.back s1 hd.pen hd1.pen)) fun _ _ q => q⟩
  cases e1 : f ρ π with
  | none => unfold RM at rm; rw [e1] at rm; exact rm.elim
  | some r =>
    obtain ⟨x, π1⟩ := r
    cases x with
    | error x => exact .inl (mk (fun _ => False) (fun d π' h => by rw [e1] at h; cases h) fun d v H1 h => h.elim)
    | ok d0 =>
      have only : ∀ d π', f ρ π = some (.ok d, π') → d = d0 := fun d π' h => by rw [e1] at h; cases h; rfl
      cases hq : d0.asQ with
      | none =>
        refine .inl (mk (fun d => d = d0) only fun d v H1 hP s1 r1 h2 => ?_)
        subst hP
        rw [hq] at h2
        obtain ⟨_, _, _, e, _⟩ := h2.lift
        cases e
      | some ds =>
        by_cases hL : ∃ es, d0.asL = some es
        · refine .inl (mk (fun d => d = d0) only fun d v H1 hP s1 r1 h2 => ?_)
          subst hP
          rw [hq] at h2
          obtain ⟨es, hes⟩ := hL
          have ee := (asL_asQ hes).symm.trans hq
          cases ee
          obtain ⟨a, vs, rfl, hq', rs⟩ := r1.b.asL hes
          refine ⟨.inl ⟨rfl, vs, .inl hq'⟩, ρ, (At.bind bkN h2).mono fun y H2 ⟨s2, yd, r2, h3⟩ => ?_⟩
          obtain ⟨z, π2, hd2, ez, q⟩ := h3.lift
          obtain ⟨π0, p0⟩ := hd2.pen0
          obtain ⟨a', vs', e1, hq', rs'⟩ := (r1.stp p0 s2).b.asL hes
          cases e1
          unfold idxD at ez
          split at ez
          · rename_i z'
            cases ei : D.ints ds with
            | none => rw [ei] at ez; cases ez
            | some ns =>
              rw [ei] at ez
              obtain ⟨hm, rfl⟩ := if_some ez
              cases ints_eq ei
              cases rs'.toInts
              obtain ⟨g1, g2⟩ := idx_at hm
              refine ⟨a, _, y, ns.idxOf z', .int z', rfl, rfl, .inl hq', by rw [r2.b.int]; rfl, flat_ints _, by rw [List.getElem?_map, g1]; rfl, by rw [r2.b.int]; simp [eqV], fun m w hm' hw => ?_, q _ _ hd2 (.refl _ _) (.inl (.int _))⟩
              obtain ⟨u, hu, rfl⟩ := map_get hw
              rw [r2.b.int]
              have : u ≠ z' := fun e => g2 m hm' (by rw [hu, e])
              simp [eqV, this]
          · rename_i z'
            cases ei : D.sts ds with
            | none => rw [ei] at ez; cases ez
            | some ns =>
              rw [ei] at ez
              obtain ⟨hm, rfl⟩ := if_some ez
              cases sts_eq ei
              cases rs'.toSts
              obtain ⟨g1, g2⟩ := idx_at hm
              refine ⟨a, _, y, ns.idxOf z', .str z', rfl, rfl, .inl hq', by rw [r2.b.str]; rfl, flatS _, by rw [List.getElem?_map, g1]; rfl, by rw [r2.b.str]; simp [eqV], fun m w hm' hw => ?_, q _ _ hd2 (.refl _ _) (.inl (.int _))⟩
              obtain ⟨u, hu, rfl⟩ := map_gets hw
              rw [r2.b.str]
              have : u ≠ z' := fun e => g2 m hm' (by rw [hu, e])
              simp [eqV, this]
          · cases ez
        · have ht : d0 = .tup ds := by
            cases d0 with
            | tup es => cases hq; rfl
            | lst es => exact (hL ⟨_, rfl⟩).elim
            | own es => exact (hL ⟨_, rfl⟩).elim
            | _ => cases hq
          subst ht
          have two : ∀ {Q2 : VK}, (∀ y H2 a vs yd, RpB F.c H2 (.tup ds) (.ref a) → Tup H2 a vs → Rps F.c H2 ds vs → RpB F.c H2 yd y → (∃ z π2, FHd F ρ π2 σ H2 ∧ idxD ds yd = some z ∧ Po F F.RN ρ σ H2 Q z π2) → True) → True := fun _ => trivial
          by_cases hint : ∃ ns, D.ints ds = some ns ∧ ns ≠ []
          · refine .inr (.inl (mk (fun d => d = .tup ds) only fun d v H1 hP s1 r1 h2 => ?_))
            subst hP
            obtain ⟨a, vs, rfl, ht, rs⟩ := r1.b.tup
            have h2 : At F F.RN ρ ((g ρ).bind fun y => M.lift (idxD ds y)) σ H1 Q := h2
            refine ⟨⟨a, vs, rfl, ht⟩, ρ, (At.bind bkN h2).mono fun y H2 ⟨s2, yd, r2, h3⟩ => ?_⟩
            obtain ⟨z, π2, hd2, ez, q⟩ := h3.lift
            obtain ⟨π0, p0⟩ := hd2.pen0
            obtain ⟨a', vs', e1, ht', rs'⟩ := (r1.stp p0 s2).b.tup
            cases e1
            obtain ⟨ns, ei, nn⟩ := hint
            unfold idxD at ez
            split at ez
            · rename_i z'
              rw [ei] at ez
              obtain ⟨hm, rfl⟩ := if_some ez
              cases ints_eq ei
              cases rs'.toInts
              obtain ⟨g1, g2⟩ := idx_at hm
              exact ⟨a, ns, z', ns.idxOf z', rfl, by rw [r2.b.int], ht'.t, g1, g2, q _ _ hd2 (.refl _ _) (.inl (.int _))⟩
            · exfalso
              cases ints_eq ei
              cases ns with
              | nil => exact nn rfl
              | cons n ns => simp [D.sts] at ez
            · cases ez
          · refine .inr (.inr (mk (fun d => d = .tup ds) only fun d v H1 hP s1 r1 h2 => ?_))
            subst hP
            obtain ⟨a, vs, rfl, ht, rs⟩ := r1.b.tup
            have h2 : At F F.RN ρ ((g ρ).bind fun y => M.lift (idxD ds y)) σ H1 Q := h2
            refine ⟨⟨a, vs, rfl, ht⟩, ρ, (At.bind bkN h2).mono fun y H2 ⟨s2, yd, r2, h3⟩ => ?_⟩
            obtain ⟨z, π2, hd2, ez, q⟩ := h3.lift
            obtain ⟨π0, p0⟩ := hd2.pen0
            obtain ⟨a', vs', e1, ht', rs'⟩ := (r1.stp p0 s2).b.tup
            cases e1
            unfold idxD at ez
            split at ez
            · exfalso
              rename_i z'
              cases ei : D.ints ds with
              | none => rw [ei] at ez; cases ez
              | some ns =>
                rw [ei] at ez
                obtain ⟨hm, _⟩ := if_some ez
                exact hint ⟨ns, ei, fun z => by subst z; cases hm⟩
            · rename_i z'
              cases ei : D.sts ds with
              | none => rw [ei] at ez; cases ez
              | some ns =>
                rw [ei] at ez
                obtain ⟨hm, rfl⟩ := if_some ez
                cases sts_eq ei
                cases rs'.toSts
                obtain ⟨g1, g2⟩ := idx_at hm
                exact ⟨a, ns, z', ns.idxOf z', rfl, by rw [r2.b.str], ht'.t, g1, g2, q _ _ hd2 (.refl _ _) (.inl (.int _))⟩
            · cases ez
/-- ''.join(xs) -/
def joinD (d e : D) : Option D := match d, e.asQ.bind D.sts with
  | .str a, some ys => if (ys.map (·.length)).sum + ys.length * a.length ≤ 16777216 then some (.str (Txt.join a ys)) else none
  | _, _ => none
def eJoin (f g : Ex) : Ex := fun ρ => (f ρ).bind fun d => match d with
  | .str a => (g ρ).bind fun y => M.lift (joinD (.str a) y)
  | _ => M.lift none
theorem f_join (ho : FE X F o f) (he : FE X F e g) (hs : starEach [e] X.env = [(false, eval e X.env)] := by rfl) (hbase : attributeBase o "join" X.env (eval o X.env) = eval o X.env := by rfl) (hline : (apos.endLine == pos.line) = true := by rfl) :
    FN X F (.Call (.Attribute o "join" apos) [e] [] pos) (eJoin f g) := PEi (pe_join ho he hs hbase hline) fun σ H Q ⟨ρ, h⟩ => by
  refine ⟨ρ, (At.bind bkN h).mono fun x H1 ⟨s1, d, r1, h2⟩ => ?_⟩
  split at h2
  · rename_i a
    refine ⟨⟨a, r1.b.str⟩, ρ, (At.bind bkN h2).mono fun y H2 ⟨s2, yd, r2, h3⟩ => ?_⟩
    obtain ⟨z, π, hd, ez, q⟩ := h3.lift
    cases eq : yd.asQ with
    | none => simp [joinD, eq] at ez
    | some ds =>
      cases es : D.sts ds with
      | none => simp [joinD, eq, es] at ez
      | some ys =>
        have ez : (if (ys.map (·.length)).sum + ys.length * a.length ≤ 16777216 then some (D.str (Txt.join a ys)) else none) = some z := by
          rw [← ez]
          simp [joinD, eq, es]
        obtain ⟨hz, rfl⟩ := if_some ez
        obtain ⟨p, vs, rfl, hq, rs⟩ := r2.b.asQ eq
        cases sts_eq es
        cases rs.toSts
        obtain ⟨π0, p0⟩ := hd.pen0
        exact ⟨a, p, ys, (r1.stp p0 s2).b.str, rfl, sqK hq, hz, q _ _ hd (.refl _ _) (.inl (.str _))⟩
  · obtain ⟨_, _, _, e, _⟩ := h2.lift
    cases e
end
end Fx
set_option Elab.async false
set_option maxRecDepth 100000
set_option linter.unusedVariables false
/-! What hangs on what a value is: truth, walks, slices read from behind. -/
namespace Fx
open PySem L2 Lw
section
variable {X : Cx} {F : Fc} {e o tg : Expr} {es : List Expr} {f g : Ex} {pos apos cpos : Pos} {r : Env → M (List D)}
/-- a part that is plain: either it raises, or it gives one thing -/
theorem At.case {α β γ δ : Type} {R : RX α β} {S : RX γ δ} {ρ : Env} {σ : St} {H : Hp} {Q : δ → Hp → Prop} {m : M α} {k : α → M γ} (bk : Bk F S) (h : At F S ρ (m.bind k) σ H Q) :
    (∀ Q1 : β → Hp → Prop, At F R ρ m σ H Q1) ∨ ∃ d0, ∀ Q1 : β → Hp → Prop, (∀ v H1, Stp F.c H H1 → R H H1 d0 v → At F S ρ (k d0) σ H1 Q → Q1 v H1) → At F R ρ m σ H Q1 := by
  obtain ⟨π, hd, rm⟩ := h
  have rm := RM_bind.mp rm
  cases e1 : m π with
  | none =>
    unfold RM at rm
    rw [e1] at rm
    exact rm.elim
  | some r =>
    obtain ⟨x, π1⟩ := r
    cases x with
    | error x =>
      unfold RM at rm
      rw [e1] at rm
      refine .inl fun Q1 => ⟨π, hd, ?_⟩
      unfold RM
      rw [e1]
      exact rm
    | ok d =>
      unfold RM at rm
      rw [e1] at rm
      refine .inr ⟨d, fun Q1 k1 => ⟨π, hd, ?_⟩⟩
      unfold RM
      rw [e1]
      exact fun v H1 hd1 s1 r1 => k1 v H1 s1 r1 ⟨π1, hd1, RM.imp rm (fun e π2 q w H2 hd2 s2 r2 => q w H2 hd2 (s1.trans s2) (bk _ _ _ _ _ _ _ _ _ hd hd1 s1 r2)) fun _ _ q => q⟩
theorem PIor {t t' : TI} (h : PI X tg e t) (h' : PI X tg e t') : PI X tg e (fun σ H R => t σ H R ∨ t' σ H R) := ⟨fun pins s σ H R I q => q.elim (fun q => h.run pins s σ H R I q) fun q => h'.run pins s σ H R I q⟩
/-- a walk over a list that does not change, a tuple, a text -/
def itD : D → Option (List D)
  | .lst ds => some ds
  | .tup ds => some ds
  | .str z => some (z.cps.toList.map fun k => .str ⟨#[k]⟩)
  | _ => none
def iA (f : Ex) : Env → M (List D) := fun ρ => (f ρ).bind fun d => M.lift (itD d)
/-- one of three ways, by what the value is -/
theorem at_ways {α β : Type} {S : RX α β} {ρ : Env} {σ : St} {H : Hp} {Q : β → Hp → Prop} {m : M D} {o o1 o2 o3 : D → Option α} (bk : Bk F S) (h : At F S ρ (m.bind fun d => M.lift (o d)) σ H Q) (e : ∀ d, o d = o1 d ∨ o d = o2 d ∨ o d = o3 d) :
    At F S ρ (m.bind fun d => M.lift (o1 d)) σ H Q ∨ At F S ρ (m.bind fun d => M.lift (o2 d)) σ H Q ∨ At F S ρ (m.bind fun d => M.lift (o3 d)) σ H Q := by
  obtain ⟨π, hd, rm⟩ := h
  have rm := RM_bind.mp rm
  have fin : ∀ o' : D → Option α, (∀ d π', m π = some (.ok d, π') → o d = o' d) → At F S ρ (m.bind fun d => M.lift (o' d)) σ H Q := fun o' he => by
    refine ⟨π, hd, RM_bind.mpr ?_⟩
    unfold RM at rm ⊢
    cases e1 : m π with
    | none => rw [e1] at rm; exact rm
    | some r =>
      obtain ⟨x, π1⟩ := r
      cases x with
      | error x => rw [e1] at rm; exact rm
      | ok d =>
        rw [e1] at rm
        replace rm : RM (M.lift (o d) π1) (Po F S ρ σ H Q) (XP F ρ σ) := rm
        rw [he d π1 e1] at rm
        exact rm
  by_cases hh : ∃ d π', m π = some (.ok d, π')
  · obtain ⟨d, π', hm⟩ := hh
    have only : ∀ d2 π2, m π = some (.ok d2, π2) → d2 = d := fun d2 π2 h2 => by rw [hm] at h2; cases h2; rfl
    rcases e d with e | e | e
    · exact .inl (fin o1 fun d2 π2 h2 => by rw [only d2 π2 h2]; exact e)
    · exact .inr (.inl (fin o2 fun d2 π2 h2 => by rw [only d2 π2 h2]; exact e))
    · exact .inr (.inr (fin o3 fun d2 π2 h2 => by rw [only d2 π2 h2]; exact e))
  · exact .inl (fin o1 fun d2 π2 h2 => (hh ⟨d2, π2, h2⟩).elim)
theorem i_any (ha : FE X F e f) : FI X F tg e (iA f) := PIi (PIor (i_list ha) (PIor (i_tup ha) (i_str ha))) fun σ H R ⟨ρ, h⟩ => by
  have := at_ways (o1 := fun d => match d with
    | .lst ds => some ds
    | _ => none) (o2 := fun d => match d with
    | .tup ds => some ds
    | _ => none) (o3 := fun d => match d with
    | .str z => some (z.cps.toList.map fun k => D.str ⟨#[k]⟩)
    | _ => none) bkI h (fun d => by cases d <;> first | exact .inl rfl | exact .inr (.inl rfl) | exact .inr (.inr rfl))
  rcases this with h | h | h
  · exact .inl ⟨ρ, h⟩
  · exact .inr (.inl ⟨ρ, h⟩)
  · exact .inr (.inr ⟨ρ, h⟩)
def revD : D → Option D
  | .tup ds => some (.tup ds.reverse)
  | .lst ds => some (.own ds.reverse)
  | .own ds => some (.own ds.reverse)
  | _ => none
theorem f_rev (hK : X.K = F.c.K) {k : Nat} {p1 p3 p4 : Pos} (ha : FE X F e f) : FN X F (.Subscript e (.Slice none none (some (.UnaryOp .USub (.Constant (.int 1) k p1) p4)) p3) pos) (eUn revD f) := PEi (PEor (f_revT ha) (f_revL hK ha)) fun σ H Q ⟨ρ, h⟩ => by
  have := at_ways (o1 := revT) (o2 := revL) (o3 := revL) bkN h (fun d => by cases d <;> first | exact .inl rfl | exact .inr (.inl rfl))
  rcases this with h | h | h
  · exact .inl ⟨ρ, h⟩
  · exact .inr ⟨ρ, h⟩
  · exact .inr ⟨ρ, h⟩
/-! ### truth -/
def truD : D → Option Bool
  | .non => some false
  | .bl b => some b
  | .int i => some (i != 0)
  | .str y => if y.length ≤ sizeLine then some ((y.length : Int) != 0) else none
  | .tup ds => some (!ds.isEmpty)
  | .lst ds => some (!ds.isEmpty)
  | .own ds => some (!ds.isEmpty)
  | _ => none
def tTru (f : Ex) : Env → M Bool := fun ρ => (f ρ).bind fun d => M.lift (truD d)
theorem isE {c : Rc} {H : Hp} {ds : List D} {vs : List V} (r : Rps c H ds vs) : (!ds.isEmpty) = !vs.isEmpty := by
  cases r <;> rfl
theorem t_tru (ha : FE X F e f) (he : ∀ whole, isTrue e X.env whole = (do let v ← whole; standAt e.pos; holding [v] (truthy v))) : FT X F e (tTru f) := PTi (pt_truth ha he) fun σ H Q ⟨ρ, h⟩ => by
  refine ⟨ρ, (At.bind bkB h).mono fun x H1 ⟨s1, d, r1, h2⟩ => ?_⟩
  obtain ⟨k, π, hd, ek, q⟩ := h2.lift
  refine ⟨k, ?_, q k H1 hd (.refl _ _) rfl⟩
  have r1 := r1.b
  cases d with
  | non => cases ek; rw [r1.non]; exact rfl
  | bl b => cases ek; rw [r1.bl]; exact rfl
  | int b => cases ek; rw [r1.int]; exact rfl
  | str b =>
    obtain ⟨hz, rfl⟩ := if_some ek
    rw [r1.str]
    exact ⟨hz, rfl⟩
  | tup ds =>
    cases ek
    obtain ⟨a, vs, rfl, ht, rs⟩ := r1.tup
    exact .inr (.inl ⟨vs, ht.t, isE rs⟩)
  | lst ds =>
    cases ek
    obtain ⟨a, vs, rfl, ht, rs⟩ := r1.lst
    exact .inl ⟨vs, .inl ht, isE rs⟩
  | own ds =>
    cases ek
    obtain ⟨a, vs, rfl, ht, rs⟩ := r1.own
    exact .inl ⟨vs, .inl ht, isE rs⟩
  | _ => cases ek
/-! ### short names -/
def eStill (f : Ex) : Ex := fun ρ => (f ρ).bind stillD
def eLock (f : Ex) : Ex := fun ρ => (f ρ).bind fun d => M.ret (lockD d)
theorem toN (h : FE X F e f) : FN X F e (eStill f) := FE.fn h
theorem toE (h : FN X F e f) : FE X F e f := FN.fe h
theorem lockN (h : FN X F e f) : FE X F e (eLock f) := FN.fe (FN.frz h)
/-- a built-in type as a value -/
theorem ty_v {T : String} {x : Str} {p : Pos} (hg : Gl X x) (hm : X.mg x = none) (hv : bootBuiltins x = some (.type T)) (hn : x ≠ "__name__" := by decide) (hd : (x == ("__debug__" : Str)) = false := by decide) : PE X (.Name x p) (tC (.ty T)) := pe_bltn hg hm hv rfl hn hd
/-- a constant of the module -/
theorem g_int {x : Str} {i : Int} {pos : Pos} (hg : Gl X x) (hm : ∃ t, X.mg x = some (.int i t)) (hd : (x == ("__debug__" : Str)) = false := by decide) : FN X F (.Name x pos) (eC (.int i)) := by
  obtain ⟨t, hm⟩ := hm
  exact fc (pe_glob (v := .int i) hg hm ⟨t, rfl⟩ hd) fun _ => .int i
theorem g_str {x : Str} {i : Str} {pos : Pos} (hg : Gl X x) (hm : ∃ t, X.mg x = some (.str i t)) (hd : (x == ("__debug__" : Str)) = false := by decide) : FN X F (.Name x pos) (eC (.str i)) := by
  obtain ⟨t, hm⟩ := hm
  exact fc (pe_glob (v := .str i) hg hm ⟨t, rfl⟩ hd) fun _ => .str i
def eChain (o o' : D → D → Option D) (f g h : Ex) : Ex := fun ρ => (f ρ).bind fun x => (g ρ).bind fun y => (M.lift (o x y)).bind fun z => (asB z).bind fun b => if b then (h ρ).bind fun w => M.lift (o' y w) else M.ret (.bl false)
variable {a b c : Expr} {h : Ex}
theorem chain_read {o o' : D → D → Option D} {σ : St} {H : Hp} {Q : VK} (hh : tE F F.RN (eChain o o' f g h) σ H Q) : tChain (rO F.c o) (rO F.c o') (tE F F.RR f) (tE F F.RR g) (tE F F.RR h) σ H Q := by
  obtain ⟨ρ, hh⟩ := hh
  refine ⟨ρ, (At.bind bkN hh).mono fun x H1 ⟨s1, d, r1, h2⟩ => ⟨ρ, (At.bind bkN h2).mono fun y H2 ⟨s2, e, r2, h3⟩ => ?_⟩⟩
  obtain ⟨π, hd, rm⟩ := h3
  obtain ⟨z, ez, rm⟩ := RM_lift.mp (RM_bind.mp rm)
  obtain ⟨k, ek, rm⟩ := RM_lift.mp (RM_bind.mp rm)
  cases asB_some ek
  obtain ⟨π0, p0⟩ := hd.pen0
  refine ⟨d, e, .bl k, (r1.stp p0 s2).b, r2.b, ez, fun v H' s rn => ⟨k, by rw [(rn.r hd).b.bl], ?_⟩⟩
  have hd' := hd.same s
  cases k with
  | false => exact (show Po F F.RN ρ σ H2 Q (.bl false) π from rm) _ H' hd' (.of s) (.inl (.bl false))
  | true =>
    have h4 : At F F.RN ρ ((h ρ).bind fun w => M.lift (o' e w)) σ H' Q := ⟨π, hd', RM.imp rm (fun d π2 q w H3 hd3 s3 r3 => q w H3 hd3 ((Stp.of s).trans s3) (r3.back (.of s) hd.pen hd'.pen)) fun _ _ q => q⟩
    refine ⟨ρ, (At.bind bkN h4).mono fun w' H3 ⟨s3, d3, r3, h5⟩ => ?_⟩
    obtain ⟨z', π3, hd3, ez', q⟩ := h5.lift
    exact ⟨e, d3, z', ((r2.stp p0 (.of s)).stp p0 s3).b, r3.b, ez', fun v H4 s4 rn => q v H4 (hd3.same s4) (.of s4) rn⟩
theorem f_chain {op op' : CmpOp} {o o' : D → D → Option D} (ho : OpR X (compareOp op) (rO F.c o)) (ho' : OpR X (compareOp op') (rO F.c o')) (ha : FE X F a f) (hb : FE X F b g) (hc : FE X F c h)
    (hm : lastMarks [op, op'] [b, c] = false := by with_unfolding_all rfl) : FN X F (.Compare a [op, op'] [b, c] pos) (eChain o o' f g h) := PEi (pe_chain ho ho' ha hb hc hm) fun σ H Q h => chain_read h
theorem tst_read {ρ : Env} {σ : St} {H : Hp} {Q : Bool → Hp → Prop} {m : M D} (hh : At F RB ρ (m.bind asB) σ H Q) : At F F.RN ρ m σ H (fun x H' => ∃ k, x = .bl k ∧ Q k H') := by
  obtain ⟨π, hd, rm⟩ := hh
  refine ⟨π, hd, (RM_bind.mp rm).imp (fun d π1 q v H' hd' s rn => ?_) fun _ _ q => q⟩
  obtain ⟨k, ek, q⟩ := RM_lift.mp q
  cases asB_some ek
  exact ⟨k, (rn.r hd).b.bl, q k H' hd' s rfl⟩
theorem t_chain {op op' : CmpOp} {o o' : D → D → Option D} (ho : OpR X (compareOp op) (rO F.c o)) (ho' : OpR X (compareOp op') (rO F.c o')) (ha : FE X F a f) (hb : FE X F b g) (hc : FE X F c h)
    (hm : lastMarks [op, op'] [b, c] = false := by with_unfolding_all rfl) : FT X F (.Compare a [op, op'] [b, c] pos) (tst (eChain o o' f g h)) := PTi (pt_chain ho ho' ha hb hc hm) fun σ H Q ⟨ρ, hh⟩ => by
  exact chain_read (Q := fun x H' => ∃ k, x = .bl k ∧ Q k H') ⟨ρ, tst_read hh⟩
end
end Fx
set_option Elab.async false
set_option maxRecDepth 100000
set_option linter.unusedVariables false
/-! The pen, tables, the law's own def. -/
namespace Fx
open PySem L2 Lw
def absI (y : Int) : Int := if y < 0 then -y else y
def penCell (ns : List Int) (z : Int) : Int := if ns = [] then 37 * z + 11 else ns.getD (z.fmod ns.length).toNat 0
def drawN (ns : List Int) (z m n : Int) : Int × Int × Int :=
  if 0 < m then (m.fmod n, z, m / n) else
  if z < ns.length ∧ 10 ^ 18 ≤ absI (penCell ns z) then ((absI (penCell ns z) - 10 ^ 18).fmod n, z + 1, (absI (penCell ns z) - 10 ^ 18) / n) else
  let m1 := ((penCell ns z).fmod 2147483647 * 69621 + 48271 * z * z + 30011 * z + 13).fmod 2147483629
  let m2 := (m1 * m1 + 40692 * m1 + 7 * z + 3).fmod 2147483587
  (((m2 * (m2 + 16807)).fmod 2147483579 / 32).fmod n, z + 1, m)
def spDrawX : Sp := fun vs H Q _ => ∃ (p c : Addr) (ns : List Int) (z m n : Int), vs = [.ref p, .int n] ∧ H p = some (.dK (kvP c z m)) ∧ H c = some (.lst (ns.map V.int)) ∧ 0 ≤ z ∧ z ≤ 1000000000 ∧ 1 ≤ n ∧ n.natAbs.log2 < 9000 ∧ ns.length ≤ 63 ∧
  ∀ H', H' p = some (.dK (kvP c (drawN ns z m n).2.1 (drawN ns z m n).2.2)) → SameX p H H' → Q (.int (drawN ns z m n).1) H'
/-- a number drawn -/
noncomputable def drawG : Fn := fun ds π => match ds with
  | [.pen, .int n] => if DrawOk π.spot n then
      some (.ok (.int (drawN π.cells π.spot π.more n).1), ⟨π.cells, (drawN π.cells π.spot π.more n).2.1, (drawN π.cells π.spot π.more n).2.2⟩) else none
  | _ => none
theorem stp_x {c : Rc} {q : Addr × Addr} {H H' : Hp} {kvs : List (Key × V)} (hq : c.pen = some q) (e : H q.1 = some (.dK kvs)) (s : SameX q.1 H H') : Stp c H H' := ⟨fun b o hb n => s b o hb (n q hq), fun b o hb z => s b o hb (by
  rintro rfl
  rw [e] at hb
  cases hb
  exact z.elim)⟩
theorem draw_spF {K : PySem.W.Frag} {C : Addr} {mg : Str → Option Value} (vs : List V) (H : Hp) (Q : VK) (E : XK) (h : spF K C mg drawG vs H Q E) : spDrawX vs H Q E := by
  obtain ⟨pen, π, ds, p, r, rm⟩ := h
  unfold drawG at rm
  split at rm
  · rename_i n
    cases r with
    | cons r1 rr =>
      cases rr with
      | cons r2 rr =>
        cases rr
        cases r2
        cases r1 with
        | @pen q hq =>
          obtain ⟨h1, h2, h3⟩ := p q hq
          by_cases hc : DrawOk π.spot n
          · rw [if_pos hc] at rm
            have rm : ∀ v H', Stp ⟨K, C, pen⟩ H H' → PenR ⟨K, C, pen⟩ ⟨π.cells, (drawN π.cells π.spot π.more n).2.1, (drawN π.cells π.spot π.more n).2.2⟩ H' → RpN ⟨K, C, pen⟩ H H' (.int (drawN π.cells π.spot π.more n).1) v → Q v H' := rm
            refine ⟨q.1, q.2, π.cells, π.spot, π.more, n, rfl, h1, h2, hc.1, hc.2.1, hc.2.2.1, hc.2.2.2, h3, fun H' e s => rm _ H' (stp_x hq h1 s) (fun q' hq' => ?_) (.inl (.int _))⟩
            have : q' = q := by
              have := hq.symm.trans hq'
              exact (Option.some.inj this).symm
            subst this
            exact ⟨e, s _ _ h2 (by
              intro z
              rw [z, h1] at h2
              cases h2), h3⟩
          · rw [if_neg hc] at rm
            exact (show False from rm).elim
  · exact (show False from rm).elim
theorem draw_ok {ns : List Int} {z m n : Int} (h : 1 ≤ n) : 0 ≤ (drawN ns z m n).1 ∧ (drawN ns z m n).1 < n ∧ (drawN ns z m n).2.1 ≤ z + 1 ∧ z ≤ (drawN ns z m n).2.1 := by
  have lo : ∀ a : Int, 0 ≤ a.fmod n := fun a => fmod_lo a (by omega)
  have hi : ∀ a : Int, a.fmod n < n := fun a => fmod_hi a (by omega)
  unfold drawN
  split
  · exact ⟨lo _, hi _, by simp only; omega, by simp⟩
  · split
    · exact ⟨lo _, hi _, by simp, by simp only; omega⟩
    · exact ⟨lo _, hi _, by simp, by simp only; omega⟩
/-! ### tables -/
/-- one to eight small letters -/
instance (z : Str) : Decidable (IsName z) := by unfold IsName Low; exact inferInstance
def pairOf (ms : List Str) (d : D) : Option (Str × Str) := match lockedQ d with
  | some [.str x, .str y] => if x ∈ ms ∧ y ∈ ms then some (x, y) else none
  | _ => none
def manyOf {α : Type} (f : D → Option α) : List D → Option (List α)
  | [] => some []
  | d :: ds => (f d).bind fun x => (manyOf f ds).map fun xs => x :: xs
def lineOf (ms : List Str) (d : D) : Option (List (Str × Str)) := (lockedQ d).bind fun ds => if ds.length = ms.length then manyOf (pairOf ms) ds else none
def pairsOf (ms : List Str) (d : D) : Option (List (List (Str × Str))) := (lockedQ d).bind fun ds => if ds.length = ms.length then manyOf (lineOf ms) ds else none
def lockL : D → Option (List D)
  | .lst ds => some ds
  | _ => none
def marksOf (d : D) : Option (List Str) := ((lockL d).bind D.sts).bind fun ms => if 1 ≤ ms.length ∧ ms.length ≤ 6 ∧ (∀ z ∈ ms, IsName z) ∧ ms.Nodup then some ms else none
/-- Table(marks, pairs), where they are so -/
def tableG : Fn := fun ds => match ds with
  | [m, p] => M.lift ((marksOf m).bind fun ms => (pairsOf ms p).map fun pss => .tbl ms pss)
  | _ => M.lift none
/-! ### the law -/
def spPenX (K : PySem.W.Frag) : Sp := fun vs H Q _ => ∃ (a : Addr) (ns : List Int), vs = [.ref a] ∧ SqL K H a (ns.map V.int) ∧ ns.length ≤ 63 ∧
  ∀ p c H', H p = none → H c = none → Same H H' → H' p = some (.dK (kvP c 0 0)) → H' c = some (.lst (ns.map V.int)) → Q (.ref p) H'
def spLaw (K : PySem.W.Frag) : Sp := fun vs H Q _ => ∃ (a : Addr) (ns : List Int), vs = [.ref a] ∧ SqL K H a (ns.map V.int) ∧ ns.length ≤ 63 ∧ ∀ H', Q (.bl true) H'
theorem PSs.any {X : Cx} {α : Type} {sts : List Stmt} {t : α → TS} (h : ∀ a, PSs X sts (t a)) : PSs X sts (fun D σ H => ∃ a, t a D σ H) := ⟨fun pins s σ H D I ⟨a, q⟩ => (h a).run pins s σ H D I q⟩
def lawTail (K : PySem.W.Frag) (C : Addr) (mg : Str → Option Value) (g : Sx) : TS := fun D σ H => ∃ ph : Option (Addr × Addr) × Hp, tS (fcNo K C mg ph.1 ph.2) g D σ H
/-- behind the pen's making: the script is locked where it is not, then the rest runs -/
theorem law_rest {K : PySem.W.Frag} {C : Addr} {mg : Str → Option Value} {g : Sx} {X : Cx} {sts : List Stmt} (h : ∀ pen H, FSs X (fcNo K C mg pen H) sts g) : PSs X sts (fun D σ H => lawTail K C mg g D σ H ∨ ∃ a vs, H a = some (.lst vs) ∧ Lck H a vs (fun H' => lawTail K C mg g D σ H')) :=
  PSs.orr (PSs.any fun ph => h ph.1 ph.2) (pss_frz (PSs.any fun ph => h ph.1 ph.2))
def lawEnv (n m : Nat) : Env := some (.scr n) :: some .pen :: List.replicate m none
theorem law_goes {K : PySem.W.Frag} {C : Addr} {mg : Str → Option Value} {g : Sx} {n : Nat} {ns : List Int} {a p ca : Addr} {H : Hp} {Q : VK} (hS : (Rd H a (.lst (ns.map V.int)) ∧ ca ≠ a) ∨ ∃ (o : Obj) (its : Array Value) (n : Nat), K.lookup a = some o ∧ o.cls = .type "list" ∧ o.dict = none ∧ o.data = .seq its n ∧ its.size ≤ sizeLine ∧ Vals (ns.map V.int) its.toList) (hl : ns.length ≤ 63) (hp : H p = some (.dK (kvP ca 0 0))) (hc : H ca = some (.lst (ns.map V.int))) (hQ : ∀ H', Q (.bl true) H')
    (pure : ∃ π', g (lawEnv ns.length n) ⟨ns, 0, 0⟩ = some (.ok (.rt (.bl true)), π')) : (fun D σ H => lawTail K C mg g D σ H ∨ ∃ a vs, H a = some (.lst vs) ∧ Lck H a vs (fun H' => lawTail K C mg g D σ H')) { nx := fun _ H' => Q .non H', rt := Q } (some (.ref a) :: some (.ref p) :: List.replicate n none) H := by
  obtain ⟨π', hg⟩ := pure
  have key : ∀ H1 : Hp, Scr K H1 a ns.length → H1 p = some (.dK (kvP ca 0 0)) → H1 ca = some (.lst (ns.map V.int)) → lawTail K C mg g { nx := fun _ H' => Q .non H', rt := Q } (some (.ref a) :: some (.ref p) :: List.replicate n none) H1 := fun H1 s1 p1 c1 => by
    have pr : PenR ⟨K, C, some (p, ca)⟩ ⟨ns, 0, 0⟩ H1 := fun q hq => by
      cases hq
      exact ⟨p1, c1, hl⟩
    refine ⟨(some (p, ca), H1), lawEnv ns.length n, ⟨ns, 0, 0⟩, ⟨by simp [lawEnv], fun i d hd => ?_, fun i j es fs b hi hj _ _ => ?_, ⟨_, pr⟩, pr, .refl _ _⟩, ?_⟩
    · unfold lawEnv at hd
      match i, hd with
      | 0, hd =>
        cases hd
        exact ⟨_, rfl, .inl (.scr s1)⟩
      | 1, hd =>
        cases hd
        exact ⟨_, rfl, .inl (.pen (q := (p, ca)) rfl)⟩
      | i + 2, hd =>
        simp [List.getElem?_replicate] at hd
    · exfalso
      unfold lawEnv at hi
      match i, hi with
      | 0, hi => cases hi
      | 1, hi => cases hi
      | i + 2, hi => simp [List.getElem?_replicate] at hi
    · unfold RM
      rw [hg]
      intro v H' st pn rn
      have : v = .bl true := by
        rcases rn with rn | ⟨_, _, _, e, _⟩
        · cases rn; rfl
        · cases e
      subst this
      exact hQ H'
  rcases hS with ⟨hS, hne⟩ | hS
  · rcases hS with hS | ⟨o, hS⟩
    · refine .inr ⟨a, _, hS, fun o o1 o2 => ?_⟩
      have np : p ≠ a := fun z => by rw [z, hS] at hp; cases hp
      exact key _ ⟨_, by simp, .inl ⟨o, upd_same⟩⟩ (by rw [upd_ne np]; exact hp) (by rw [upd_ne hne]; exact hc)
    · exact .inl (key H ⟨_, by simp, .inl ⟨o, hS⟩⟩ hp hc)
  · exact .inl (key H ⟨_, by simp, .inr hS⟩ hp hc)
end Fx
set_option Elab.async false
set_option maxRecDepth 100000
set_option linter.unusedVariables false
/-! Fuel; rules that came later. -/
namespace Fx
open PySem L2 Lw
def FUEL : Nat := 100000
end Fx
set_option Elab.async false
set_option maxRecDepth 100000
set_option linter.unusedVariables false
/-! Plain functions, run by simp. -/
namespace Fx
open PySem L2 Lw
section
variable {ρ : Env}
@[simp] theorem u_fnSem (n m : Nat) (g : Sx) (ds : List D) (h : ds.length = m) : fnSem n m g ds = (calmM (g (ds.map some ++ List.replicate (n - m) none))).bind Fl.fin := if_pos h
@[simp] theorem u_fnSemN (n m : Nat) (g : Sx) (ds : List D) (h : ds.length = m) : fnSemN n m g ds = (calmM (g (ds.map some ++ List.replicate (n - m) none))).bind Fl.finN := if_pos h
@[simp] theorem u_fin_rt (d : D) : Fl.fin (.rt d) = M.ret d := rfl
@[simp] theorem u_fin_nx (ρ : Env) : Fl.fin (.nx ρ) = M.ret .non := rfl
@[simp] theorem u_finN_rt (d : D) : Fl.finN (.rt d) = M.ret d := rfl
@[simp] theorem u_finN_nx (ρ : Env) : Fl.finN (.nx ρ) = M.ret .non := rfl
@[simp] theorem u_go_nx (ρ : Env) (k : Sx) : Fl.go (.nx ρ) k = k ρ := rfl
@[simp] theorem u_go_rt (d : D) (k : Sx) : Fl.go (.rt d) k = M.ret (.rt d) := rfl
@[simp] theorem u_go_bk (ρ : Env) (k : Sx) : Fl.go (.bk ρ) k = M.ret (.bk ρ) := rfl
@[simp] theorem u_go_ct (ρ : Env) (k : Sx) : Fl.go (.ct ρ) k = M.ret (.ct ρ) := rfl
@[simp] theorem u_lp_nx (ρ : Env) (k : Sx) : Fl.lp (.nx ρ) k = k ρ := rfl
@[simp] theorem u_lp_ct (ρ : Env) (k : Sx) : Fl.lp (.ct ρ) k = k ρ := rfl
@[simp] theorem u_lp_bk (ρ : Env) (k : Sx) : Fl.lp (.bk ρ) k = M.ret (.nx ρ) := rfl
@[simp] theorem u_lp_rt (d : D) (k : Sx) : Fl.lp (.rt d) k = M.ret (.rt d) := rfl
@[simp] theorem u_eVar (i : Nat) : eVar i ρ = M.lift (getV ρ i) := rfl
@[simp] theorem u_eC (d : D) : eC d ρ = M.ret d := rfl
@[simp] theorem u_eOp (o : D → D → Option D) (f g : Ex) : eOp o f g ρ = (f ρ).bind fun x => (g ρ).bind fun y => M.lift (o x y) := rfl
@[simp] theorem u_eUn (o : D → Option D) (f : Ex) : eUn o f ρ = (f ρ).bind fun d => M.lift (o d) := rfl
@[simp] theorem u_tst (f : Ex) : tst f ρ = (f ρ).bind asB := rfl
@[simp] theorem u_asB (b : Bool) : asB (.bl b) = M.ret b := rfl
@[simp] theorem u_tAnd (f g : Env → M Bool) : tAndF f g ρ = (f ρ).bind fun b => if b then g ρ else M.ret false := rfl
@[simp] theorem u_tOr (f g : Env → M Bool) : tOrF f g ρ = (f ρ).bind fun b => if b then M.ret true else g ρ := rfl
@[simp] theorem u_tNot (f : Env → M Bool) : tNotF f ρ = (f ρ).bind fun b => M.ret (!b) := rfl
@[simp] theorem u_tTru (f : Ex) : tTru f ρ = (f ρ).bind fun d => M.lift (truD d) := rfl
@[simp] theorem u_eAnd (f g : Ex) : eAnd f g ρ = (f ρ).bind fun d => (asB d).bind fun b => if b then g ρ else M.ret (.bl false) := rfl
@[simp] theorem u_eOr (f g : Ex) : eOr f g ρ = (f ρ).bind fun d => (asB d).bind fun b => if b then M.ret (.bl true) else g ρ := rfl
@[simp] theorem u_eNot (f : Ex) : eNot f ρ = (f ρ).bind fun d => (asB d).bind fun b => M.ret (.bl (!b)) := rfl
@[simp] theorem u_eIf (p : Env → M Bool) (f g : Ex) : eIf p f g ρ = (p ρ).bind fun b => if b then f ρ else g ρ := rfl
@[simp] theorem u_eChain (o o' : D → D → Option D) (f g h : Ex) : eChain o o' f g h ρ = (f ρ).bind fun x => (g ρ).bind fun y => (M.lift (o x y)).bind fun z => (asB z).bind fun b => if b then (h ρ).bind fun w => M.lift (o' y w) else M.ret (.bl false) := rfl
@[simp] theorem u_aNil : aNil ρ = M.ret [] := rfl
@[simp] theorem u_aCons (f : Ex) (g : Env → M (List D)) : aCons f g ρ = (f ρ).bind fun d => (g ρ).bind fun ds => M.ret (d :: ds) := rfl
@[simp] theorem u_eTup (r : Env → M (List D)) : eTup r ρ = (r ρ).bind fun ds => M.lift (if stills ds = true ∧ ds.length ≤ sizeLine then some (.tup ds) else none) := rfl
@[simp] theorem u_eLst (r : Env → M (List D)) : eLst r ρ = (r ρ).bind fun ds => M.lift (if stills ds = true ∧ ds.length ≤ sizeLine then some (.own ds) else none) := rfl
@[simp] theorem u_eFn (o : List D → Option D) (r : Env → M (List D)) : eFn o r ρ = (r ρ).bind fun ds => M.lift (o ds) := rfl
@[simp] theorem u_eCall (G : Fn) (r : Env → M (List D)) : eCall G r ρ = (r ρ).bind fun ds => if stills ds = true then G ds else M.lift none := rfl
@[simp] theorem u_eStill (f : Ex) : eStill f ρ = (f ρ).bind stillD := rfl
@[simp] theorem u_eLock (f : Ex) : eLock f ρ = (f ρ).bind fun d => M.ret (lockD d) := rfl
@[simp] theorem u_eSl (f : Ex) (l h : Env → M (Option Int)) : eSl f l h ρ = (f ρ).bind fun d => (l ρ).bind fun lo => (h ρ).bind fun hi => M.lift (slD d lo hi) := rfl
@[simp] theorem u_oNone : oNone ρ = M.ret none := rfl
@[simp] theorem u_oSome (f : Ex) : oSome f ρ = (f ρ).bind fun d => M.lift ((asI d).map some) := rfl
@[simp] theorem u_eRgL (r : Env → M (Int × Int)) : eRgL r ρ = (r ρ).bind fun p => M.lift (if RgOk p.1 p.2 then some (.own (rgD p.1 p.2)) else none) := rfl
@[simp] theorem u_eRgT (r : Env → M (Int × Int)) : eRgT r ρ = (r ρ).bind fun p => M.lift (if RgOk p.1 p.2 then some (.tup (rgD p.1 p.2)) else none) := rfl
@[simp] theorem u_rg1 (f : Ex) : rg1 f ρ = (f ρ).bind fun d => M.lift ((asI d).map fun n => (0, n)) := rfl
@[simp] theorem u_rg2 (f g : Ex) : rg2 f g ρ = (f ρ).bind fun d => (g ρ).bind fun e => M.lift ((asI d).bind fun i => (asI e).map fun j => (i, j)) := rfl
@[simp] theorem u_eIdx (f g : Ex) : eIdx f g ρ = (f ρ).bind fun d => match d.asQ with
  | some ds => (g ρ).bind fun y => M.lift (idxD ds y)
  | none => M.lift none := rfl
@[simp] theorem u_eJoin (f g : Ex) : eJoin f g ρ = (f ρ).bind fun d => match d with
  | .str a => (g ρ).bind fun y => M.lift (joinD (.str a) y)
  | _ => M.lift none := rfl
@[simp] theorem u_eMeth (G : Fn) (g : Ex) (r : Env → M (List D)) : eMeth G g r ρ = (g ρ).bind fun d => match d with
  | .tbl ms pss => (r ρ).bind fun ds => if stills ds = true then calmM (G (.tbl ms pss :: ds)) else M.lift none
  | _ => M.lift none := rfl
@[simp] theorem u_eComp (it : Env → M (List D)) (t : Tg) (cond : Env → M Bool) (elt : Ex) (vs : List Nat) : eComp it t cond elt vs ρ = (it ρ).bind fun ds => compF t cond elt (wipeE ρ vs) ds [] := rfl
@[simp] theorem u_iA (f : Ex) : iA f ρ = (f ρ).bind fun d => M.lift (itD d) := rfl
@[simp] theorem u_iE (r : Env → M (List D)) : iE r ρ = (r ρ).bind fun ds => M.lift (match ds with
  | [d] => (lockedQ d).map (numD 0)
  | _ => none) := rfl
@[simp] theorem u_iR1 (r : Env → M (List D)) : iR1 r ρ = (r ρ).bind fun ds => M.lift (match ds with
  | [.int j] => if Rg62 j then some (rgD 0 j) else none
  | _ => none) := rfl
@[simp] theorem u_iR2 (r : Env → M (List D)) : iR2 r ρ = (r ρ).bind fun ds => M.lift (match ds with
  | [.int i, .int j] => if Rg62b i j then some (rgD i j) else none
  | _ => none) := rfl
@[simp] theorem u_cYes : cYes ρ = M.ret true := rfl
@[simp] theorem u_sNil : sNil ρ = M.ret (.nx ρ) := rfl
@[simp] theorem u_sSeq (g h : Sx) : sSeq g h ρ = (g ρ).bind fun f => f.go h := rfl
@[simp] theorem u_sBrk : sBrk ρ = M.ret (.bk ρ) := rfl
@[simp] theorem u_sCnt : sCnt ρ = M.ret (.ct ρ) := rfl
@[simp] theorem u_sDrop (f : Ex) : sDrop f ρ = (f ρ).orX ρ fun _ => M.ret (.nx ρ) := rfl
@[simp] theorem u_sRet (f : Ex) : sRet f ρ = (f ρ).orX ρ fun d => M.ret (.rt d) := rfl
@[simp] theorem u_sIf (c : Env → M Bool) (g h : Sx) : sIf c g h ρ = (c ρ).orX ρ fun b => if b then g ρ else h ρ := rfl
@[simp] theorem u_sSet (i : Nat) (f : Ex) : sSet i f ρ = (f ρ).orX ρ fun d => M.lift (if i < ρ.length then some (.nx (setV ρ i (some d))) else none) := rfl
@[simp] theorem u_sFor (it : Env → M (List D)) (t : Tg) (b : Sx) : sFor it t b ρ = (it ρ).orX ρ fun ds => forF t b ds ρ := rfl
@[simp] theorem u_sPar (is : List Nat) (r : Env → M (List D)) : sPar is r ρ = (r ρ).orX ρ fun ds => M.lift (if is.length = ds.length ∧ (∀ i ∈ is, i < ρ.length) then some (.nx (setVs ρ is ds)) else none) := rfl
@[simp] theorem u_sAsg (f : Ex) (t : Tx) : sAsg f t ρ = (f ρ).orX ρ fun d => if d.still = true then (calmM (t.bind d ρ)).bind fun ρ' => M.ret (.nx ρ') else M.lift none := rfl
@[simp] theorem u_sOn (i : Nat) (f : Ex) (k : List D → D → Option (List D)) : sOn i f k ρ = match getV ρ i with
  | some (.own ds) => (f ρ).orX ρ fun d => M.lift ((k ds d).map fun es => .nx (setV ρ i (some (.own es))))
  | _ => M.lift none := rfl
@[simp] theorem u_sFrz (i : Nat) (g : Sx) : sFrz i g ρ = match getV ρ i with
  | some (.own ds) => g (setV ρ i (some (.lst ds)))
  | _ => g ρ := rfl
@[simp] theorem u_sAug (i : Nat) (f : Ex) (o : Int → Int → Int) : sAug i f o ρ = match getV ρ i with
  | some (.int a) => (f ρ).orX ρ fun d => M.lift ((asI d).map fun b => .nx (setV ρ i (some (.int (o a b)))))
  | _ => M.lift none := rfl
@[simp] theorem u_sAppPop (j i : Nat) (f : Ex) : sAppPop j i f ρ = match getV ρ i, getV ρ j with
  | some (.own ds), some (.own es) => (f ρ).orX ρ fun d => M.lift (match asI d with
    | some z => if PopOk z ds.length es.length i j then (ds[z.toNat]?).map fun y => .nx (setV (setV ρ i (some (.own (ds.eraseIdx z.toNat)))) j (some (.own (es ++ [y])))) else none
    | none => none)
  | _, _ => M.lift none := rfl
@[simp] theorem v_appD (ds : List D) (d : D) : appD ds d = if d.still = true ∧ ds.length < sizeLine then some (ds ++ [d]) else none := rfl
@[simp] theorem v_extL (ds es : List D) : extD ds (.lst es) = if ds.length + es.length ≤ sizeLine then some (ds ++ es) else none := rfl
@[simp] theorem v_extO (ds es : List D) : extD ds (.own es) = if ds.length + es.length ≤ sizeLine then some (ds ++ es) else none := rfl
@[simp] theorem u_calm_bind {α β : Type} (m : M α) (k : α → M β) : calmM (m.bind k) = (calmM m).bind fun a => calmM (k a) := by
  funext π
  simp only [calmM, M.bind]
  cases m π with
  | none => rfl
  | some r =>
    obtain ⟨e, π'⟩ := r
    cases e with
    | error x => rfl
    | ok a => rfl
@[simp] theorem u_calm_orX {α : Type} (m : M α) (ρ : Env) (k : α → M Fl) : calmM (m.orX ρ k) = m.orX ρ fun a => calmM (k a) := by
  funext π
  simp only [calmM, M.orX]
  cases m π with
  | none => rfl
  | some r =>
    obtain ⟨e, π'⟩ := r
    cases e with
    | error x => rfl
    | ok a => rfl
@[simp] theorem u_calm_lift {α : Type} (o : Option α) : calmM (M.lift o) = M.lift o := by
  funext π
  simp only [calmM, M.lift]
  cases o <;> rfl
@[simp] theorem u_calm_calm {α : Type} (m : M α) : calmM (calmM m) = calmM m := by
  funext π
  simp only [calmM]
  cases m π with
  | none => rfl
  | some r =>
    obtain ⟨e, π'⟩ := r
    cases e <;> rfl
@[simp] theorem u_lift_none {α β : Type} (k : α → M β) : (M.lift (none : Option α)).bind k = M.lift none := rfl
@[simp] theorem u_bind_assoc {α β γ : Type} (m : M α) (k : α → M β) (l : β → M γ) : (m.bind k).bind l = m.bind fun a => (k a).bind l := Fx.bind_assoc m k l
@[simp] theorem u_bind_orX {α β : Type} (m : M α) (k : α → M β) (ρ : Env) (l : β → M Fl) : (m.bind k).orX ρ l = m.orX ρ fun a => (k a).orX ρ l := by
  funext π
  simp only [M.orX, M.bind]
  cases m π with
  | none => rfl
  | some r =>
    obtain ⟨e, π'⟩ := r
    cases e with
    | error x => rfl
    | ok a => rfl
@[simp] theorem u_lift_none_orX {α : Type} (ρ : Env) (k : α → M Fl) : (M.lift (none : Option α)).orX ρ k = M.lift none := rfl
@[simp] theorem u_ite_bind {α β : Type} (p : Prop) [Decidable p] (a b : M α) (k : α → M β) : (if p then a else b).bind k = if p then a.bind k else b.bind k := by split <;> rfl
@[simp] theorem u_ite_orX {α : Type} (p : Prop) [Decidable p] (a b : M α) (ρ : Env) (k : α → M Fl) : (if p then a else b).orX ρ k = if p then a.orX ρ k else b.orX ρ k := by split <;> rfl
@[simp] theorem u_ite_calm {α : Type} (p : Prop) [Decidable p] (a b : M α) : calmM (if p then a else b) = if p then calmM a else calmM b := by split <;> rfl
@[simp] theorem u_getV0 (d : Option D) (t : Env) : getV (d :: t) 0 = d := rfl
@[simp] theorem u_getVs (d : Option D) (t : Env) (n : Nat) : getV (d :: t) (n + 1) = getV t n := rfl
@[simp] theorem u_setV0 (d e : Option D) (t : Env) : setV (d :: t) 0 e = e :: t := rfl
@[simp] theorem u_setVs (d e : Option D) (t : Env) (n : Nat) : setV (d :: t) (n + 1) e = d :: setV t n e := rfl
@[simp] theorem u_setVs_cons (ρ : Env) (i : Nat) (is : List Nat) (d : D) (ds : List D) : Fx.setVs ρ (i :: is) (d :: ds) = Fx.setVs (setV ρ i (some d)) is ds := rfl
@[simp] theorem u_setVs_nil (ρ : Env) (ds : List D) : Fx.setVs ρ [] ds = ρ := by cases ds <;> rfl
@[simp] theorem u_wipe_nil (ρ : Env) : wipeE ρ [] = ρ := rfl
@[simp] theorem u_wipe_cons (ρ : Env) (v : Nat) (vs : List Nat) : wipeE ρ (v :: vs) = setV (wipeE ρ vs) v none := rfl
/-! values -/
@[simp] theorem v_still (d : D) : stillD d = M.lift (if d.still then some d else none) := rfl
@[simp] theorem v_st_non : D.still .non = true := rfl
@[simp] theorem v_st_bl (b : Bool) : D.still (.bl b) = true := rfl
@[simp] theorem v_st_int (b : Int) : D.still (.int b) = true := rfl
@[simp] theorem v_st_str (b : Str) : D.still (.str b) = true := rfl
@[simp] theorem v_st_tup (b : List D) : D.still (.tup b) = true := rfl
@[simp] theorem v_st_lst (b : List D) : D.still (.lst b) = true := rfl
@[simp] theorem v_st_pen : D.still .pen = true := rfl
@[simp] theorem v_st_scr (n : Nat) : D.still (.scr n) = true := rfl
@[simp] theorem v_st_tbl (ms : List Str) (pss : List (List (Str × Str))) : D.still (.tbl ms pss) = true := rfl
@[simp] theorem v_st_own (b : List D) : D.still (.own b) = false := rfl
@[simp] theorem v_stills_nil : stills [] = true := rfl
@[simp] theorem v_stills_cons (d : D) (ds : List D) : stills (d :: ds) = (d.still && stills ds) := rfl
@[simp] theorem v_lk_non : lockD .non = .non := rfl
@[simp] theorem v_lk_bl (b : Bool) : lockD (.bl b) = .bl b := rfl
@[simp] theorem v_lk_int (b : Int) : lockD (.int b) = .int b := rfl
@[simp] theorem v_lk_str (b : Str) : lockD (.str b) = .str b := rfl
@[simp] theorem v_lk_tup (b : List D) : lockD (.tup b) = .tup b := rfl
@[simp] theorem v_lk_lst (b : List D) : lockD (.lst b) = .lst b := rfl
@[simp] theorem v_lk_own (b : List D) : lockD (.own b) = .lst b := rfl
@[simp] theorem v_lk_pen : lockD .pen = .pen := rfl
@[simp] theorem v_lk_tbl (ms : List Str) (pss : List (List (Str × Str))) : lockD (.tbl ms pss) = .tbl ms pss := rfl
@[simp] theorem v_asQ_lst (ds : List D) : D.asQ (.lst ds) = some ds := rfl
@[simp] theorem v_asQ_own (ds : List D) : D.asQ (.own ds) = some ds := rfl
@[simp] theorem v_asQ_tup (ds : List D) : D.asQ (.tup ds) = some ds := rfl
@[simp] theorem v_asL_lst (ds : List D) : D.asL (.lst ds) = some ds := rfl
@[simp] theorem v_asL_own (ds : List D) : D.asL (.own ds) = some ds := rfl
@[simp] theorem v_lt (i j : Int) : ltD (.int i) (.int j) = some (.bl (decide (i < j))) := rfl
@[simp] theorem v_le (i j : Int) : leD (.int i) (.int j) = some (.bl (decide (i ≤ j))) := rfl
@[simp] theorem v_gt (i j : Int) : gtD (.int i) (.int j) = some (.bl (decide (j < i))) := rfl
@[simp] theorem v_ge (i j : Int) : geD (.int i) (.int j) = some (.bl (decide (j ≤ i))) := rfl
@[simp] theorem v_add (i j : Int) : addD (.int i) (.int j) = some (.int (i + j)) := rfl
@[simp] theorem v_addT (i j : List D) : addD (.tup i) (.tup j) = if i.length + j.length ≤ sizeLine then some (.tup (i ++ j)) else none := rfl
@[simp] theorem v_addLL (i j : List D) : addD (.lst i) (.lst j) = if i.length + j.length ≤ sizeLine then some (.own (i ++ j)) else none := rfl
@[simp] theorem v_addLO (i j : List D) : addD (.lst i) (.own j) = if i.length + j.length ≤ sizeLine then some (.own (i ++ j)) else none := rfl
@[simp] theorem v_addOL (i j : List D) : addD (.own i) (.lst j) = if i.length + j.length ≤ sizeLine then some (.own (i ++ j)) else none := rfl
@[simp] theorem v_addOO (i j : List D) : addD (.own i) (.own j) = if i.length + j.length ≤ sizeLine then some (.own (i ++ j)) else none := rfl
@[simp] theorem v_sub (i j : Int) : subD (.int i) (.int j) = some (.int (i - j)) := rfl
@[simp] theorem v_neg (i : Int) : negD (.int i) = some (.int (-i)) := rfl
@[simp] theorem v_mul (i j : Int) : mulD (.int i) (.int j) = if CMulW i j then some (.int (i * j)) else none := rfl
@[simp] theorem v_mod (i j : Int) : modD (.int i) (.int j) = if j ≠ 0 then some (.int (i.fmod j)) else none := rfl
@[simp] theorem v_fdiv (i j : Int) : fdivD (.int i) (.int j) = if CDivW i j then some (.int (i.fdiv j)) else none := rfl
@[simp] theorem v_pow (i j : Int) : powD (.int i) (.int j) = if CPow i j then some (.int (i ^ j.toNat)) else none := rfl
@[simp] theorem v_lenQ (ds : List D) : lenD [.tup ds] = some (.int ds.length) := rfl
@[simp] theorem v_lenL (ds : List D) : lenD [.lst ds] = some (.int ds.length) := rfl
@[simp] theorem v_lenO (ds : List D) : lenD [.own ds] = some (.int ds.length) := rfl
@[simp] theorem v_lenZ (z : Str) : lenD [.str z] = if z.length ≤ sizeLine then some (.int z.length) else none := rfl
@[simp] theorem v_inS (z t : Str) : inD (.str z) (.str t) = some (.bl (!(Builtin.Str.occurrences t z 0 t.length 1).isEmpty)) := rfl
@[simp] theorem v_itS (z : Str) : itD (.str z) = some (z.cps.toList.map fun k => .str ⟨#[k]⟩) := rfl
@[simp] theorem v_isi_str (z : Str) : isiD ["str"] (.str z) = some (.bl true) := by simp [isiD, D.tyN, subTy]
@[simp] theorem v_lenS (n : Nat) : lenD [.scr n] = some (.int n) := rfl
@[simp] theorem v_asI (i : Int) : asI (.int i) = some i := rfl
@[simp] theorem v_tupT (ds : List D) : tupleD [.tup ds] = some (.tup ds) := rfl
@[simp] theorem v_tupL (ds : List D) : tupleD [.lst ds] = some (.tup ds) := rfl
@[simp] theorem v_tupO (ds : List D) : tupleD [.own ds] = some (.tup ds) := rfl
@[simp] theorem v_lstT (ds : List D) : listD [.tup ds] = some (.own ds) := rfl
@[simp] theorem v_lstL (ds : List D) : listD [.lst ds] = some (.own ds) := rfl
@[simp] theorem v_lstO (ds : List D) : listD [.own ds] = some (.own ds) := rfl
@[simp] theorem v_int1 (i : Int) : intD [.int i] = some (.int i) := rfl
@[simp] theorem v_int2 (b : Bool) : intD [.bl b] = some (.int (if b then 1 else 0)) := rfl
@[simp] theorem v_abs (i : Int) : absD [.int i] = some (.int (if i < 0 then -i else i)) := rfl
@[simp] theorem v_min (i j : Int) : minD [.int i, .int j] = some (.int (if j < i then j else i)) := rfl
@[simp] theorem v_max (i j : Int) : maxD [.int i, .int j] = some (.int (if j > i then j else i)) := rfl
@[simp] theorem v_itT (ds : List D) : itD (.tup ds) = some ds := rfl
@[simp] theorem v_itL (ds : List D) : itD (.lst ds) = some ds := rfl
@[simp] theorem v_lkT (ds : List D) : lockedQ (.tup ds) = some ds := rfl
@[simp] theorem v_lkL (ds : List D) : lockedQ (.lst ds) = some ds := rfl
@[simp] theorem v_truB (b : Bool) : truD (.bl b) = some b := rfl
@[simp] theorem v_truI (b : Int) : truD (.int b) = some (b != 0) := rfl
@[simp] theorem v_truN : truD .non = some false := rfl
@[simp] theorem v_truT (b : List D) : truD (.tup b) = some (!b.isEmpty) := rfl
@[simp] theorem v_truL (b : List D) : truD (.lst b) = some (!b.isEmpty) := rfl
@[simp] theorem v_truO (b : List D) : truD (.own b) = some (!b.isEmpty) := rfl
@[simp] theorem v_isN (d : D) : isN d .non = some (.bl (isNonD d)) := by cases d <;> rfl
@[simp] theorem v_notN (d : D) : notN d .non = some (.bl (!isNonD d)) := by cases d <;> rfl
@[simp] theorem v_isNn : isNonD .non = true := rfl
@[simp] theorem v_isNi (i : Int) : isNonD (.int i) = false := rfl
@[simp] theorem v_isNt (i : List D) : isNonD (.tup i) = false := rfl
@[simp] theorem v_isNl (i : List D) : isNonD (.lst i) = false := rfl
@[simp] theorem v_eqI (i j : Int) : eqD (.int i) (.int j) = some (.bl (decide (i = j))) := rfl
@[simp] theorem v_neI (i j : Int) : neD (.int i) (.int j) = some (.bl (!decide (i = j))) := rfl
@[simp] theorem v_eqS (i j : Str) : eqD (.str i) (.str j) = some (.bl (decide (i = j))) := rfl
@[simp] theorem v_neS (i j : Str) : neD (.str i) (.str j) = some (.bl (!decide (i = j))) := rfl
@[simp] theorem v_ixT (ds : List D) (i : Int) : ixD (.tup ds) (.int i) = atI ds i := rfl
@[simp] theorem v_ixL (ds : List D) (i : Int) : ixD (.lst ds) (.int i) = atI ds i := rfl
@[simp] theorem v_ixO (ds : List D) (i : Int) : ixD (.own ds) (.int i) = atI ds i := rfl
@[simp] theorem v_slT (ds : List D) (l h : Option Int) : slD (.tup ds) l h = some (.tup (cutL ds l h)) := rfl
@[simp] theorem v_slL (ds : List D) (l h : Option Int) : slD (.lst ds) l h = some (.own (cutL ds l h)) := rfl
@[simp] theorem v_slO (ds : List D) (l h : Option Int) : slD (.own ds) l h = some (.own (cutL ds l h)) := rfl
@[simp] theorem v_revT (ds : List D) : revD (.tup ds) = some (.tup ds.reverse) := rfl
@[simp] theorem v_revL (ds : List D) : revD (.lst ds) = some (.own ds.reverse) := rfl
@[simp] theorem v_revO (ds : List D) : revD (.own ds) = some (.own ds.reverse) := rfl
@[simp] theorem v_isi_int (i : Int) : isiD ["int"] (.int i) = some (.bl true) := by simp [isiD, D.tyN, subTy]
@[simp] theorem v_isi_bool (i : Int) : isiD ["bool"] (.int i) = some (.bl false) := by simp [isiD, D.tyN, subTy]
@[simp] theorem v_isi_lt1 (ds : List D) : isiD ["list", "tuple"] (.tup ds) = some (.bl true) := by simp [isiD, D.tyN, subTy]
@[simp] theorem v_isi_lt2 (ds : List D) : isiD ["list", "tuple"] (.lst ds) = some (.bl true) := by simp [isiD, D.tyN, subTy]
@[simp] theorem v_isi_lt3 (ds : List D) : isiD ["list", "tuple"] (.own ds) = some (.bl true) := by simp [isiD, D.tyN, subTy]
end
end Fx
set_option Elab.async false
set_option maxRecDepth 100000
set_option linter.unusedVariables false
/-! len(set(..)), reversed(..), tables made. -/
namespace Fx
open PySem PySem.Spec PyProof.Rows L2 Lw RT
theorem PE.any {X : Cx} {α : Type} {e : Expr} {t : α → TE} (h : ∀ a, PE X e (t a)) : PE X e (fun σ H Q => ∃ a, t a σ H Q) := ⟨fun pins s σ H Q I ⟨a, q⟩ => (h a).run pins s σ H Q I q⟩
theorem PT.any {X : Cx} {α : Type} {e : Expr} {t : α → TT} (h : ∀ a, PT X e (t a)) : PT X e (fun σ H Q => ∃ a, t a σ H Q) := ⟨fun pins s σ H Q I ⟨a, q⟩ => (h a).run pins s σ H Q I q⟩
def lenSetD (d : D) : Option D := d.asL.bind fun ds => (D.sts ds).bind fun xs => if xs.Nodup ∧ xs.length ≤ 1000 then some (.int xs.length) else none
theorem rps_strs {c : Rc} {H : Hp} : ∀ {xs : List Str} {vs : List V}, Rps c H (xs.map D.str) vs → vs = xs.map V.str
  | [], _, .nil => rfl
  | x :: xs, _, .cons r t => by
    cases r
    rw [rps_strs t]
    rfl
section
variable {X : Cx} {F : Fc} {e a tg : Expr} {f : Ex} {p p2 q pos : Pos}
theorem f_lenSet (hK : X.K = F.c.K) (hc : X.calm = true) (hg : Gl X "len") (hm : X.mg "len" = none) (hg2 : Gl X "set") (hm2 : X.mg "set" = none) (ha : FE X F a f) (na : starEach [a] X.env = (false, eval a X.env) :: starEach [] X.env := by rfl) :
    FN X F (.Call (.Name "len" p) [.Call (.Name "set" p2) [a] [] q] [] pos) (eUn lenSetD f) := PEi (pe_lenSetS hK hc hg hm hg2 hm2 ha na) fun σ H Q ⟨ρ, h⟩ => by
  refine ⟨ρ, (At.bind bkN h).mono fun v H1 ⟨s1, d, r1, h2⟩ => ?_⟩
  obtain ⟨z, π, hd, ez, q⟩ := h2.lift
  unfold lenSetD at ez
  cases e1 : d.asL with
  | none => rw [e1] at ez; cases ez
  | some ds =>
    rw [e1] at ez
    simp only [Option.bind_some] at ez
    cases e2 : D.sts ds with
    | none => rw [e2] at ez; cases ez
    | some xs =>
      rw [e2] at ez
      simp only [Option.bind_some] at ez
      obtain ⟨hn, rfl⟩ := if_some ez
      obtain ⟨b, vs, rfl, hq, r⟩ := r1.b.asL e1
      have := sts_eq e2
      subst this
      have := rps_strs r
      subst this
      exact ⟨b, xs, rfl, .inl hq, hn.1, hn.2, q _ H1 hd (.refl _ _) (.inl (.int _))⟩
/-- reversed(x) walked -/
def iV (f : Ex) : Env → M (List D) := fun ρ => (f ρ).bind fun d => M.lift ((lockedQ d).map List.reverse)
theorem rev_get {c : Rc} {H : Hp} {ds : List D} {vs : List V} {d : D} {i : Nat} (r : Rps c H ds vs) (h : ds.reverse[i]? = some d) : i < vs.length ∧ ∃ v, vs[vs.length - 1 - i]? = some v ∧ Rp c H d v := by
  have hl := r.length
  have hi : i < ds.length := by
    have := (List.getElem?_eq_some_iff.mp h).1
    simpa using this
  rw [List.getElem?_reverse hi, hl] at h
  obtain ⟨v, e, rv⟩ := r.get h
  exact ⟨by omega, v, e, rv⟩
theorem goes_revL {c : Rc} {H' : Hp} {a : Addr} {ds : List D} {vs : List V} (r : Rps c H' ds vs) (g : ∀ H'', Kp H' H'' → SqL c.K H'' a vs) : Goes c H' (Itv c.K a vs.length) ds.reverse := fun i H'' k =>
  ⟨fun d hd => by
    obtain ⟨hi, v, e, rv⟩ := rev_get r hd
    refine ⟨⟨hi, vs, v, g H'' k, e⟩, fun u H3 y => ?_⟩
    obtain ⟨rfl, y⟩ := y
    have := y vs (g _ k)
    rw [e] at this
    cases this
    exact ⟨Same.refl _, .inl (rv.kp k)⟩, fun h1 h2 => by
    have hl := r.length
    have h1 : ds.length ≤ i := by simpa using h1
    show vs.length ≤ i
    omega⟩
theorem goes_revT {c : Rc} {H' : Hp} {a : Addr} {ds : List D} {vs : List V} (r : Rps c H' ds vs) (g : ∀ H'', Kp H' H'' → SqT c.K H'' a vs) : Goes c H' (ItvT c.K a vs.length) ds.reverse := fun i H'' k =>
  ⟨fun d hd => by
    obtain ⟨hi, v, e, rv⟩ := rev_get r hd
    refine ⟨⟨hi, vs, v, g H'' k, e⟩, fun u H3 y => ?_⟩
    obtain ⟨rfl, y⟩ := y
    have := y vs (g _ k)
    rw [e] at this
    cases this
    exact ⟨Same.refl _, .inl (rv.kp k)⟩, fun h1 h2 => by
    have hl := r.length
    have h1 : ds.length ≤ i := by simpa using h1
    show vs.length ≤ i
    omega⟩
theorem i_rev (hK : X.K = F.c.K) (hg : Gl X "reversed") (hm : X.mg "reversed" = none) (he : FE X F e f) (hs : starEach [e] X.env = (false, eval e X.env) :: starEach [] X.env := by rfl) : FI X F tg (.Call (.Name "reversed" p) [e] [] pos) (iV f) := PIi (pi_revA hg hm he hs) fun σ H R ⟨ρ, h⟩ => by
  refine ⟨ρ, (At.bind bkI h).mono fun x H1 ⟨s1, d, r1, h2⟩ => ?_⟩
  obtain ⟨z, π, hd, ez, q⟩ := h2.lift
  rw [hK]
  cases d with
  | lst ds =>
    cases ez
    obtain ⟨a, vs, rfl, hf, r⟩ := Rp.lst' r1.b
    obtain ⟨o, ho, _⟩ := hf
    exact ⟨a, vs, rfl, .inl ⟨.inl (.inr ⟨o, ho⟩), q _ H1 hd (.refl _ _) (goes_revL r (frl_kp ⟨o, ho⟩))⟩⟩
  | tup ds =>
    cases ez
    obtain ⟨a, vs, rfl, hf, r⟩ := r1.b.tup
    exact ⟨a, vs, rfl, .inr ⟨hf.t, q _ H1 hd (.refl _ _) (goes_revT r fun H'' k => (tup_kp hf k).t)⟩⟩
  | _ => cases ez
/-- tuple(reversed(x)): a tuple that never changes -/
theorem pe_tupRevF {te : TE} (hc : X.calm = true) (hg : Gl X "tuple") (hm : X.mg "tuple" = none) (hg2 : Gl X "reversed") (hm2 : X.mg "reversed" = none) (ha : PE X e te) (n1 : starEach [e] X.env = (false, eval e X.env) :: starEach [] X.env)
    (n2 : starEach [.Call (.Name "reversed" p2) [e] [] q] X.env = (false, eval (.Call (.Name "reversed" p2) [e] [] q) X.env) :: starEach [] X.env := by rfl) :
    PE X (.Call (.Name "tuple" p) [.Call (.Name "reversed" p2) [e] [] q] [] pos) (fun σ H Q => te σ H fun v G => ∃ b ys, v = .ref b ∧ SqL X.K G b ys ∧ GiveT G ys.reverse Q) := by
  refine ⟨fun pins s σ H Q I hq => ?_⟩
  refine Call_ (ld_blt I hg hm boot_tuple (callWith_type1 (args_cons (Call_ (ld_blt I hg2 hm2 boot_reversed (callWith_type1 (args_cons (thn (ha.run pins s σ H _ I hq) fun u z ⟨v, G, J, rv, qv⟩ => args_nil ?_) n1) n1 rfl))) n2) n2 rfl))
  obtain ⟨b, ys, rfl, hb, give⟩ := qv
  cases rv
  obtain ⟨its, rl, pl, hz⟩ := J.list hb
  refine call_reversed_list pl.isList (args_nil ?_)
  have J2 : Inv X pins σ G { z with heap := z.heap.push (revObj b ((its.toArray.size : Int) - 1)) } := J.kept (t' := z.toks) fun c o hc => Heap.get?_push_of_some _ hc
  obtain ⟨f0, f1, f2, f3, f4, f5⟩ := J.fpOk (H' := G) (Nat.le_refl z.heap.objs.size) (J.hok.fresh (Nat.le_refl _))
  obtain ⟨ob, hob, -⟩ := id pl.isList
  refine call_tuple_rev (s := { z with heap := z.heap.push (revObj b ((its.toArray.size : Int) - 1)) }) (J.ok.hd hc) ⟨_, Heap.get?_push_size _ rfl, rfl, rfl⟩ (pl.isList.push _) (Nat.ne_of_lt (Heap.lt_size hob)) (by rw [List.size_toArray, ← rl.length]; exact hz) fun h' tk acc hk hi => ?_
  have J3 : Inv X pins σ G { z with heap := h', toks := tk } := J2.turned (t' := tk) (fun c o hc ho => hk c o hc ho) f0 f1 f3 f4 f5
  have e3 : (.ref h'.objs.size : Value) = .ref h'.objs.size := rfl
  have := laidT (s := { z with heap := h', toks := tk }) (t := tk) J3 (vals_rev rl hi) (by rw [List.length_reverse]; exact hz) give
  rw [Array.toArray_toList] at this
  exact this
/-- tuple(reversed(x)) -/
def tupRevD (d : D) : Option D := d.asL.map fun ds => .tup ds.reverse
theorem f_tupRev (hK : X.K = F.c.K) (hc : X.calm = true) (hg : Gl X "tuple") (hm : X.mg "tuple" = none) (hg2 : Gl X "reversed") (hm2 : X.mg "reversed" = none) (ha : FE X F e f) (hs : starEach [e] X.env = (false, eval e X.env) :: starEach [] X.env := by rfl) :
    FN X F (.Call (.Name "tuple" p) [.Call (.Name "reversed" p2) [e] [] q] [] pos) (eUn tupRevD f) := PEi (pe_tupRevF hc hg hm hg2 hm2 ha hs) fun σ H Q ⟨ρ, h⟩ => by
  refine ⟨ρ, (At.bind bkN h).mono fun v H1 ⟨s1, d, r1, h2⟩ => ?_⟩
  obtain ⟨z, π, hd, ez, q⟩ := h2.lift
  unfold tupRevD at ez
  cases e1 : d.asL with
  | none => rw [e1] at ez; cases ez
  | some ds =>
    rw [e1] at ez
    cases ez
    obtain ⟨b, vs, rfl, hq, r⟩ := r1.b.asL e1
    refine ⟨b, vs, rfl, .inl hq, fun l H' s2 ht => ?_⟩
    exact q _ _ (hd.same s2) (.of s2) (.inl (.tup ht ((Rps.reverse r).kp (.of s2))))
/-- [..] * n -/
noncomputable def repD : D → D → Option D
  | .own ds, .int k => if RepOk ds.length k then some (.own (List.replicate k.toNat ds).flatten) else none
  | _, _ => none
theorem op_repD {c : Rc} : OpR X (binaryOp .Mult) (rO c repD) := op_by op_rep fun H x y Q d e z h1 h2 h3 q => by
  unfold repD at h3
  split at h3
  · split at h3
    · rename_i hz
      cases h3
      rcases h1 with h1 | ⟨es, a, vs, e0, rfl, ha, r⟩
      · cases h1
      · cases e0
        have e1 := h2.int
        subst e1
        refine ⟨a, _, vs, rfl, rfl, ha, hz.1, hz.2.1, by rw [← r.length]; exact hz.2.2, fun p np => ?_⟩
        obtain ⟨s, n⟩ := newL (c := c) np (r.rep _)
        exact q _ _ s n
    · cases h3
  · cases h3
@[simp] theorem v_rep (ds : List D) (k : Int) : repD (.own ds) (.int k) = if RepOk ds.length k then some (.own (List.replicate k.toNat ds).flatten) else none := rfl
@[simp] theorem v_tupRevL (ds : List D) : tupRevD (.lst ds) = some (.tup ds.reverse) := rfl
@[simp] theorem v_tupRevO (ds : List D) : tupRevD (.own ds) = some (.tup ds.reverse) := rfl
@[simp] theorem u_iV {ρ : Env} (f : Ex) : iV f ρ = (f ρ).bind fun d => M.lift ((lockedQ d).map List.reverse) := rfl
/-! a, b = x, y where a comprehension reads one of the names -/
def tNames (is : List Nat) : TGs := fun vs σ H Q => is.length = vs.length ∧ Q (setSs σ is vs) H
theorem pn_nil : PGs X [] (tNames []) := ⟨fun pins s σ H vs us Q I rv ⟨hl, q⟩ => pgs_nil.run pins s σ H vs us Q I rv (by
  cases vs with
  | nil => exact ⟨rfl, q⟩
  | cons _ _ => cases hl)⟩
theorem pn_cons {i : Nat} {is : List Nat} {e : Expr} {es : List Expr} (h1 : PG X e (gName i)) (h2 : PGs X es (tNames is)) (hs : (assignEach (e :: es) X.env).map (·.2) = assign e X.env :: (assignEach es X.env).map (·.2) := by rfl) : PGs X (e :: es) (tNames (i :: is)) :=
  ⟨fun pins s σ H vs us Q I rv ⟨hl, q⟩ => (pgs_cons h1 h2 hs).run pins s σ H vs us Q I rv (by
  cases vs with
  | nil => cases hl
  | cons v vs => exact ⟨v, vs, rfl, by simpa using hl, q⟩)⟩
theorem par_read2 {En : Ends} {σ : L2.St} {H : Hp} {is : List Nat} {r : Env → M (List D)} (h : tS F (sPar is r) En σ H) : tX F F.RNs r σ H fun vs H1 => is.length = vs.length ∧ ∀ H2, Same H1 H2 → En.nx (setSs σ is vs) H2 := by
  obtain ⟨ρ, π0, hd0, rm0⟩ := h
  refine ⟨ρ, (SAt.orX (R := F.RNs) ⟨π0, hd0, rm0⟩).mono fun vs H1 ⟨s1, ds, r1, h2⟩ => ?_⟩
  obtain ⟨fl, π, ef, hd, q⟩ := h2.lift
  obtain ⟨⟨hl, hi⟩, rfl⟩ := if_some ef
  have lv : ∀ {ds : List D} {vs : List V} {Ha Hb : Hp}, Rns F.c Hb Ha ds vs → ds.length = vs.length := by
    intro ds
    induction ds with
    | nil => intro vs Ha Hb r; cases r; rfl
    | cons d ds ih =>
      intro vs Ha Hb r
      cases r with
      | cons _ _ _ rr => simp [ih rr]
  exact ⟨by rw [hl, lv r1], fun H2 s2 => q _ H2 ((Rns.sets hd.pen r1 hd0 hi hl).same s2) (.of s2)⟩
theorem s_parC {es vs : List Expr} {is : List Nat} {r : Env → M (List D)} {pt : Pos} {kt k2 pt2} (hc : X.calm = true) (hg : PGs X es (tNames is)) (ha : FAN X F vs r) (hz : is.length ≤ sizeLine)
    (hn : (assignEach es X.env).length = is.length := by rfl) (hst : (assignEach es X.env).findIdx? (·.1) = none := by rfl)
    (hs : swapsWithSole [.Tuple es kt pt] (.Tuple vs k2 pt2) pos.line X.env = pure false := by rfl) (hw : swappedStores [.Tuple es kt pt] (.Tuple vs k2 pt2) X.env = pure none := by rfl)
    (h1 : (assignEach [.Tuple es kt pt] X.env).map (·.2) = [assign (.Tuple es kt pt) X.env] := by rfl) :
    FS X F (.Assign [.Tuple es kt pt] (.Tuple vs k2 pt2) pos) (sPar is r) := PSi (ps_asg (pe_tup ha) (pg_tup hc hg hn hst) hs hw h1) fun En σ H h => by
  obtain ⟨ρ, h⟩ := par_read2 h
  refine ⟨ρ, h.mono fun us H1 ⟨hl, q⟩ => ⟨by rw [← hl]; exact hz, fun p np => ?_⟩⟩
  exact ⟨p, us, rfl, .inl (.inl upd_same), hl.symm, hl, q _ (same_new np)⟩
end
end Fx
set_option Elab.async false
set_option maxRecDepth 100000
set_option linter.unusedVariables false
/-! Tables made. -/
namespace Fx
open PySem L2 Lw
def spInitF (K : PySem.W.Frag) (C : Addr) : Sp := fun vs H Q _ => ∃ (pen : Option (Addr × Addr)) (π : Pn) (me dx : Addr) (m p : D) (x y : V) (ms : List Str) (pss : List (List (Str × Str))), vs = [.ref me, x, y] ∧ PenR ⟨K, C, pen⟩ π H ∧ H me = some (.ins C dx []) ∧
  Rp ⟨K, C, pen⟩ H m x ∧ Rp ⟨K, C, pen⟩ H p y ∧ marksOf m = some ms ∧ pairsOf ms p = some pss ∧ ∀ H', TblAt H' C me ms pss → (∀ b o, H b = some o → b ≠ me → H' b = some o) → Q .non H'
def HasIF (P : Program) (w : World) (K : PySem.W.Frag) (mg : Str → Option Value) (base : Heap) (k : Nat) (C f : Addr) (ps : List Str) (sp : Sp) : Prop := ∃ fd : FuncData, FnOk P w K mg base (L2.CX P w) k f fd ps sp ∧ Binds K fd ps []
section
variable {X : Cx} {F : Fc} {k : Nat} {f : Addr} {fd : FuncData} {ps : List Str} {x : Str} {p pos : Pos} {e : Expr} {es : List Expr} {r : Env → M (List D)}
theorem f_table (M : Mk X.K F.c.C f) (hF : FnOk X.prog X.w X.K X.mg X.base (L2.CX X.prog X.w) k f fd ps (spInitF F.c.K F.c.C)) (hr : Room (k + 1) X.A) (hg : Gl X x) (hm : X.mg x = some (.ref F.c.C)) (hb : Binds X.K fd ps []) (ha : FA X F (e :: es) r)
    (hdb : (x == ("__debug__" : Str)) = false := by decide) (he : starEach (e :: es) X.env = (false, eval e X.env) :: starEach es X.env := by rfl) (hpl : (backTo pos (starEach es X.env)).any (·.1) = false := by rfl) :
    FN X F (.Call (.Name x p) (e :: es) [] pos) (eCall tableG r) := PEi (pe_make M hF hr hg hm hb .nil passE0 ha hdb he hpl) fun σ H Q ⟨ρ, h⟩ => by
  refine ⟨ρ, (At.bind bkN h).mono fun vs H1 ⟨s1, ds, r1, h2⟩ a dx na nd ne => ?_⟩
  rw [List.append_nil]
  split at h2
  · rename_i hs
    obtain ⟨π, hd, rm⟩ := h2
    have rs := r1.still hs
    unfold tableG at rm
    split at rm
    · rename_i m q
      obtain ⟨t, et, rm⟩ := RM_lift.mp rm
      cases e1 : marksOf m with
      | none => rw [e1] at et; cases et
      | some ms =>
        rw [e1] at et
        simp only [Option.bind_some] at et
        cases e2 : pairsOf ms q with
        | none => rw [e2] at et; cases et
        | some pss =>
          rw [e2] at et
          cases et
          cases rs with
          | cons rx t =>
            cases t with
            | cons ry t =>
              cases t
              have s2 : Same H1 (upd (upd H1 dx (.own a)) a (.ins F.c.C dx [])) := fun b o hb => by
                rw [upd_ne (ne_of_none hb na), upd_ne (ne_of_none hb nd)]
                exact hb
              have p2 := hd.pen.same s2
              refine ⟨F.c.pen, π, a, dx, m, q, _, _, ms, pss, rfl, p2, upd_same, rx.kp (.of s2), ry.kp (.of s2), e1, e2, fun H' ht keep => ⟨rfl, ?_⟩⟩
              have s3 : Same H1 H' := fun b o hb => keep b o (s2 b o hb) (ne_of_none hb na)
              exact rm _ H' (hd.same s3) (.of s3) (.inl (.tbl ht))
    · obtain ⟨_, et, _⟩ := RM_lift.mp rm
      cases et
  · obtain ⟨_, _, _, e, _⟩ := h2.lift
    cases e
end
theorem law_len {K : PySem.W.Frag} {vs : List V} {H : Hp} {Q : VK} {E : XK} (h : spLaw K vs H Q E) : vs.length = 1 := by
  obtain ⟨a, ns, rfl, _⟩ := h
  rfl
theorem law_at {K : PySem.W.Frag} {H H1 : Hp} {a c : Addr} {vs : List V} (h : SqL K H a vs) (s : Same H H1) (nc : H c = none) : (Rd H1 a (.lst vs) ∧ c ≠ a) ∨ ∃ (o : Obj) (its : Array Value) (n : Nat), K.lookup a = some o ∧ o.cls = .type "list" ∧ o.dict = none ∧ o.data = .seq its n ∧ its.size ≤ sizeLine ∧ Vals vs its.toList := by
  rcases h with h | h
  · refine .inl ⟨?_, ?_⟩
    · rcases h with h | ⟨o, h⟩
      · exact .inl (s _ _ h)
      · exact .inr ⟨o, s _ _ h⟩
    · rintro rfl
      rcases h with h | ⟨o, h⟩ <;> · rw [nc] at h; cases h
  · exact .inr h
end Fx
set_option Elab.async false
set_option maxRecDepth 100000
set_option linter.unusedVariables false
/-! The plain functions of all defs. -/
namespace Fx
open PySem L2 Lw
noncomputable section
def F_draw : Fn := drawG
-- is_listing (k01)
def g_is_listing : Sx :=
  (sRet (eUn (isiD ["list", "tuple"]) (eVar 0)))
def F_is_listing : Fn := fnSem 1 1 g_is_listing
-- is_name (k01)
def g_is_name : Sx :=
  (sSeq (sIf (tOrF (tNotF (tTru (eUn (isiD ["str"]) (eVar 0)))) (tNotF (tst (eChain leD leD (eC (.int 1)) (eFn lenD (aCons (eVar 0) aNil)) (eC (.int 8))))))
      (sRet (eC (.bl false))) sNil)
      (sRet (eFn allD (aCons (eComp (iA (eVar 0)) (.name 1) cYes (eOp inD (eVar 1) (eC (.str (Str.ofString "abcdefghijklmnopqrstuvwxyz")))) [1]) aNil))))
def F_is_name : Fn := fnSem 2 1 g_is_name
-- Table_marks (k01)
def g_Table_marks : Sx :=
  (sRet (eFn listD (aCons (eUn fldM (eVar 0)) aNil)))
def F_Table_marks : Fn := fnSem 1 1 g_Table_marks
-- Table_pairs (k01)
def g_Table_pairs : Sx :=
  (sRet (eComp (iA (eUn fldP (eVar 0))) (.name 1) cYes (eLock (eFn listD (aCons (eVar 1) aNil))) [1]))
def F_Table_pairs : Fn := fnSem 2 1 g_Table_pairs
-- Table_passed (k01)
def g_Table_passed : Sx :=
  (sSeq (sFor (iA (eTup (aCons (eVar 1) (aCons (eVar 2) aNil)))) (.name 3)
      (sIf (tst (eOp notInD (eVar 3) (eUn fldM (eVar 0))))
      (fun _ => M.lift none) sNil))
      (sRet (eOp ixD (eOp ixD (eUn fldP (eVar 0)) (eIdx (eUn fldM (eVar 0)) (eVar 1))) (eIdx (eUn fldM (eVar 0)) (eVar 2)))))
def F_Table_passed : Fn := fnSem 4 3 g_Table_passed
-- powers (k01)
def g_powers : Sx :=
  (sSeq (sSet 2 (eRgL (rg1 (eFn lenD (aCons (eVar 0) aNil)))))
      (sFrz 2 (sSeq (sFor (iR1 (aCons (eVar 1) aNil)) (.name 3)
      (sFrz 2 (sSet 2 (eComp (iA (eVar 2)) (.name 4) cYes (eOp ixD (eVar 0) (eVar 4)) [4]))))
      (sRet (eVar 2)))))
def F_powers : Fn := fnSem 5 2 g_powers
-- four (k01)
def g_four : Sx :=
  (sSeq (sSet 0 (eLst (aCons (eLock (eLst (aCons (eC (.int 1)) (aCons (eC (.int 0)) (aCons (eC (.int 2)) (aCons (eC (.int 3)) aNil)))))) (aCons (eLock (eLst (aCons (eC (.int 2)) (aCons (eC (.int 3)) (aCons (eC (.int 1)) (aCons (eC (.int 0)) aNil)))))) (aCons (eLock (eLst (aCons (eC (.int 0)) (aCons (eC (.int 1)) (aCons (eC (.int 3)) (aCons (eC (.int 2)) aNil)))))) (aCons (eLock (eLst (aCons (eC (.int 3)) (aCons (eC (.int 2)) (aCons (eC (.int 0)) (aCons (eC (.int 1)) aNil)))))) aNil))))))
      (sRet (eComp (iR1 (aCons (eC (.int 4)) aNil)) (.name 1) cYes (eLock (eComp (iR1 (aCons (eC (.int 4)) aNil)) (.name 2) cYes (eTup (aCons (eOp ixD (eOp ixD (eVar 0) (eVar 1)) (eVar 2)) (aCons (eIdx (eOp ixD (eVar 0) (eOp ixD (eOp ixD (eVar 0) (eVar 1)) (eVar 2))) (eVar 1)) aNil))) [2])) [1])))
def F_four : Fn := fnSem 3 0 g_four
-- side_by_side (k01)
def g_side_by_side : Sx :=
  (sSeq (sPar [2, 3] (aCons (eFn lenD (aCons (eVar 1) aNil)) (aCons (eLst aNil) aNil)))
      (sSeq (sFor (iR1 (aCons (eOp mulD (eFn lenD (aCons (eVar 0) aNil)) (eVar 2)) aNil)) (.name 4)
      (sSeq (sSet 5 (eLst aNil))
      (sSeq (sFor (iR1 (aCons (eOp mulD (eFn lenD (aCons (eVar 0) aNil)) (eVar 2)) aNil)) (.name 6)
      (sSeq (sSet 7 (eOp ixD (eOp ixD (eVar 0) (eOp fdivD (eVar 4) (eVar 2))) (eOp fdivD (eVar 6) (eVar 2))))
      (sSeq (sSet 8 (eOp ixD (eOp ixD (eVar 1) (eOp modD (eVar 4) (eVar 2))) (eOp modD (eVar 6) (eVar 2))))
      (sOn 5 (eTup (aCons (eOp addD (eOp mulD (eOp ixD (eVar 7) (eC (.int 0))) (eVar 2)) (eOp ixD (eVar 8) (eC (.int 0)))) (aCons (eOp addD (eOp mulD (eOp ixD (eVar 7) (eC (.int 1))) (eVar 2)) (eOp ixD (eVar 8) (eC (.int 1)))) aNil))) appD))))
      (sFrz 5 (sOn 3 (eVar 5) appD)))))
      (sRet (eVar 3))))
def F_side_by_side : Fn := fnSem 9 2 g_side_by_side
-- behind_pairs (k01)
def g_behind_pairs : Sx :=
  (sSeq (sSet 1 (eFn lenD (aCons (eVar 0) aNil)))
      (sRet (eComp (iR1 (aCons (eVar 1) aNil)) (.name 2) cYes (eLock (eComp (iR1 (aCons (eVar 1) aNil)) (.name 3) cYes (eTup (aCons (eOp ixD (eOp ixD (eOp ixD (eVar 0) (eVar 3)) (eVar 2)) (eC (.int 1))) (aCons (eOp ixD (eOp ixD (eOp ixD (eVar 0) (eVar 3)) (eVar 2)) (eC (.int 0))) aNil))) [3])) [2])))
def F_behind_pairs : Fn := fnSem 4 1 g_behind_pairs
-- called (k01)
def g_called : Sx :=
  (sSeq (sPar [2, 3] (aCons (eFn lenD (aCons (eVar 0) aNil)) (aCons (eLst aNil) aNil)))
      (sSeq (sSet 4 (eComp (iR1 (aCons (eVar 2) aNil)) (.name 7) cYes (eIdx (eVar 1) (eVar 7)) [7]))
      (sFrz 6 (sSeq (sFor (iR1 (aCons (eVar 2) aNil)) (.name 5)
      (sSeq (sSet 6 (eComp (iR1 (aCons (eVar 2) aNil)) (.name 8) cYes (eOp ixD (eOp ixD (eVar 0) (eOp ixD (eVar 4) (eVar 5))) (eOp ixD (eVar 4) (eVar 8))) [8]))
      (sFrz 6 (sOn 3 (eLock (eComp (iA (eVar 6)) (.tup [(.name 9), (.name 10)]) cYes (eTup (aCons (eOp ixD (eVar 1) (eVar 9)) (aCons (eOp ixD (eVar 1) (eVar 10)) aNil))) [9, 10])) appD))))
      (sRet (eVar 3))))))
def F_called : Fn := fnSem 11 2 g_called
-- lis_name (k01)
def g_lis_name : Sx :=
  (sSeq (sIf (tOrF (tNotF (tTru (eUn (isiD ["str"]) (eVar 0)))) (tNotF (tst (eChain leD leD (eC (.int 1)) (eFn lenD (aCons (eVar 0) aNil)) (eC (.int 8))))))
      (sRet (eC (.bl false))) sNil)
      (sRet (eOp eqD (eComp (iA (eVar 0)) (.name 1) (tst (eOp notInD (eVar 1) (eC (.str "abcdefghijklmnopqrstuvwxyz")))) (eVar 1) [1]) (eLst aNil))))
def F_lis_name : Fn := fnSem 2 1 g_lis_name
-- _are_marks (k01)
def g__are_marks : Sx :=
  (sSeq (sIf (tOrF (tNotF (tTru (eCall F_is_listing (aCons (eVar 0) aNil)))) (tNotF (tst (eChain leD leD (eC (.int 1)) (eFn lenD (aCons (eVar 0) aNil)) (eC (.int 6))))))
      (sRet (eC (.bl false))) sNil)
      (sRet (eAnd (eFn allD (aCons (eComp (iA (eVar 0)) (.name 1) cYes (eLock (eCall F_is_name (aCons (eVar 1) aNil))) [1]) aNil)) (eOp eqD (eUn lenSetD (eVar 0)) (eFn lenD (aCons (eVar 0) aNil))))))
def F__are_marks : Fn := fnSem 2 1 g__are_marks
-- _is_full (k01)
def g__is_full : Sx :=
  (sRet (eAnd (eCall F_is_listing (aCons (eVar 0) aNil)) (eOp eqD (eFn lenD (aCons (eVar 0) aNil)) (eFn lenD (aCons (eVar 1) aNil)))))
def F__is_full : Fn := fnSem 2 2 g__is_full
-- _is_pair (k01)
def g__is_pair : Sx :=
  (sRet (eAnd (eCall F_is_listing (aCons (eVar 0) aNil)) (eAnd (eOp eqD (eFn lenD (aCons (eVar 0) aNil)) (eC (.int 2))) (eFn allD (aCons (eComp (iA (eVar 0)) (.name 2) cYes (eOp inD (eVar 2) (eVar 1)) [2]) aNil)))))
def F__is_pair : Fn := fnSem 3 2 g__is_pair
-- pick (k01)
def g_pick : Sx :=
  (sRet (eOp ixD (eVar 1) (eCall F_draw (aCons (eVar 0) (aCons (eFn lenD (aCons (eVar 1) aNil)) aNil)))))
def F_pick : Fn := fnSem 2 2 g_pick
-- shuffled (k01)
def g_shuffled : Sx :=
  (sSeq (sPar [2, 3] (aCons (eFn listD (aCons (eVar 1) aNil)) (aCons (eLst aNil) aNil)))
      (sSeq (whileF (tst (eOp neD (eVar 2) (eLst aNil)))
      (sAppPop 3 2 (eCall F_draw (aCons (eVar 0) (aCons (eFn lenD (aCons (eVar 2) aNil)) aNil)))) FUEL)
      (sRet (eVar 3))))
def F_shuffled : Fn := fnSem 4 2 g_shuffled
-- lots_pairs (k01)
def g_lots_pairs : Sx :=
  (sSeq (sPar [2, 3] (aCons (eLst aNil) (aCons (eStill (eVar 1)) aNil)))
      (sSeq (whileF (tst (eOp gtD (eVar 3) (eC (.int 0))))
      (sSeq (sOn 2 (eLock (eOp addD (eC (.int 1)) (eCall F_draw (aCons (eVar 0) (aCons (eVar 3) aNil))))) appD)
      (sSet 3 (eOp subD (eVar 3) (eOp ixD (eVar 2) (eUn negD (eC (.int 1))))))) FUEL)
      (sSeq (sPar [4, 5] (aCons (eLst aNil) (aCons (eLst aNil) aNil)))
      (sFrz 2 (sSeq (sFor (iE (aCons (eVar 2) aNil)) (.tup [(.name 6), (.name 7)])
      (sSeq (sOn 4 (eOp repD (eLst (aCons (eVar 6) aNil)) (eVar 7)) extD)
      (sOn 5 (eRgL (rg1 (eVar 7))) extD)))
      (sSeq (sSet 8 (eComp (iR1 (aCons (eFn lenD (aCons (eVar 2) aNil)) aNil)) (.name 6) cYes (eFn sumD (aCons (eSl (eVar 2) oNone (oSome (eVar 6))) aNil)) [6]))
      (sFrz 2 (sSeq (sSet 9 (eComp (iA (eVar 2)) (.name 6) cYes (eLock (eComp (iA (eVar 2)) (.name 7) cYes (eLock (eCall F_draw (aCons (eVar 0) (aCons (eVar 7) aNil)))) [7])) [6]))
      (sSeq (sSet 10 (eLst aNil))
      (sSeq (sFor (iR1 (aCons (eVar 1) aNil)) (.name 11)
      (sSeq (sSet 12 (eLst aNil))
      (sSeq (sFor (iR1 (aCons (eVar 1) aNil)) (.name 13)
      (sSeq (sPar [14, 15] (aCons (eOp ixD (eVar 4) (eVar 11)) (aCons (eOp ixD (eVar 4) (eVar 13)) aNil)))
      (sSeq (sSet 16 (eOp addD (eOp ixD (eVar 8) (eVar 15)) (eOp modD (eOp addD (eOp ixD (eVar 5) (eVar 13)) (eOp ixD (eOp ixD (eVar 9) (eVar 14)) (eVar 15))) (eOp ixD (eVar 2) (eVar 15)))))
      (sOn 12 (eTup (aCons (eVar 16) (aCons (eOp addD (eOp ixD (eVar 8) (eVar 14)) (eOp modD (eOp subD (eOp ixD (eVar 5) (eVar 11)) (eOp ixD (eOp ixD (eVar 9) (eVar 15)) (eVar 14))) (eOp ixD (eVar 2) (eVar 14)))) aNil))) appD))))
      (sFrz 12 (sOn 10 (eVar 12) appD)))))
      (sRet (eVar 10))))))))))))
def F_lots_pairs : Fn := fnSem 17 2 g_lots_pairs
-- handed (k01)
def g_handed : Sx :=
  (sRet (eOp ixD (eLst (aCons (eLock (eFn listD (aCons (eVar 1) aNil))) (aCons (eFn tupleD (aCons (eVar 1) aNil)) aNil))) (eCall F_draw (aCons (eVar 0) (aCons (eC (.int 2)) aNil)))))
def F_handed : Fn := fnSem 2 2 g_handed
-- _is_line (k01)
def g__is_line : Sx :=
  (sRet (eAnd (eCall F__is_full (aCons (eVar 0) (aCons (eVar 1) aNil))) (eFn allD (aCons (eComp (iA (eVar 0)) (.name 2) cYes (eLock (eCall F__is_pair (aCons (eVar 2) (aCons (eVar 1) aNil)))) [2]) aNil))))
def F__is_line : Fn := fnSem 3 2 g__is_line
-- names (k01)
def g_names : Sx :=
  (sSeq (sSet 2 (eC (.str "abcdefghijklmnopqrstuvwxyz")))
      (sSeq (sSet 3 (eJoin (eC (.str "")) (eComp (iR1 (aCons (eOp addD (eC (.int 1)) (eCall F_draw (aCons (eVar 0) (aCons (eC (.int 8)) aNil)))) aNil)) (.name 9) cYes (eLock (eCall F_pick (aCons (eVar 0) (aCons (eVar 2) aNil)))) [9])))
      (sSeq (sPar [4, 5, 6] (aCons (eCall F_draw (aCons (eVar 0) (aCons (eFn lenD (aCons (eVar 3) aNil)) aNil))) (aCons (eCall F_draw (aCons (eVar 0) (aCons (eC (.int 26)) aNil))) (aCons (eCall F_draw (aCons (eVar 0) (aCons (eC (.int 2)) aNil))) aNil))))
      (sSeq (sPar [7, 8] (aCons (eCall F_pick (aCons (eVar 0) (aCons (eLock (eLst (aCons (eC (.int 1)) (aCons (eC (.int 3)) (aCons (eC (.int 5)) (aCons (eC (.int 7)) (aCons (eC (.int 9)) (aCons (eC (.int 11)) (aCons (eC (.int 15)) (aCons (eC (.int 17)) (aCons (eC (.int 19)) (aCons (eC (.int 21)) (aCons (eC (.int 23)) (aCons (eC (.int 25)) aNil)))))))))))))) aNil))) (aCons (eLst aNil) aNil)))
      (sSeq (sFor (iR1 (aCons (eVar 1) aNil)) (.name 9)
      (sSeq (sSet 10 (eIf (tst (eOp eqD (eVar 6) (eC (.int 0)))) (eSl (eVar 3) (oSome (eOp addD (eVar 4) (eC (.int 1)))) oNone) (eSl (eSl (eVar 3) (oSome (eOp addD (eVar 4) (eC (.int 1)))) oNone) oNone (oSome (eOp modD (eVar 9) (eC (.int 3)))))))
      (sOn 8 (eLock (eOp addD (eOp addD (eSl (eVar 3) oNone (oSome (eVar 4))) (eOp ixD (eVar 2) (eOp modD (eOp addD (eVar 5) (eOp mulD (eVar 7) (eVar 9))) (eC (.int 26))))) (eVar 10))) appD)))
      (sRet (eVar 8)))))))
def F_names : Fn := fnSem 11 2 g_names
-- gentle_pairs (k01)
def g_gentle_pairs : Sx :=
  (sSeq (sPar [2, 3] (aCons (eOp addD (eC (.int 1)) (eCall F_draw (aCons (eVar 0) (aCons (eVar 1) aNil)))) (aCons (eCall F_draw (aCons (eVar 0) (aCons (eC (.int 5)) aNil))) aNil)))
      (sSeq (sIf (tst (eOp eqD (eVar 3) (eC (.int 0))))
      (sRet (eComp (iR1 (aCons (eVar 2) aNil)) (.name 6) cYes (eLock (eComp (iR1 (aCons (eVar 2) aNil)) (.name 7) cYes (eTup (aCons (eVar 7) (aCons (eVar 6) aNil))) [7])) [6])) sNil)
      (sSeq (sIf (tst (eOp eqD (eVar 3) (eC (.int 1))))
      (sSeq (sSet 4 (eCall F_shuffled (aCons (eVar 0) (aCons (eLock (eRgL (rg1 (eVar 2)))) aNil))))
      (sRet (eComp (iR1 (aCons (eVar 2) aNil)) (.name 6) cYes (eLock (eComp (iR1 (aCons (eVar 2) aNil)) (.name 7) cYes (eTup (aCons (eOp ixD (eVar 4) (eVar 7)) (aCons (eIdx (eVar 4) (eVar 6)) aNil))) [7])) [6]))) sNil)
      (sSeq (sIf (tAndF (tst (eOp eqD (eVar 3) (eC (.int 2)))) (tst (eOp gtD (eVar 1) (eC (.int 3)))))
      (sRet (fun _ => calmM (F_four []))) sNil)
      (sFrz 5 (sSeq (sIf (tAndF (tst (eOp eqD (eVar 3) (eC (.int 3)))) (tst (eOp gtD (eVar 1) (eC (.int 3)))))
      (sSeq (sSet 5 (eCall F_lots_pairs (aCons (eVar 0) (aCons (eC (.int 2)) aNil))))
      (sFrz 5 (sRet (eCall F_side_by_side (aCons (eVar 5) (aCons (eLock (eCall F_lots_pairs (aCons (eVar 0) (aCons (eOp addD (eC (.int 2)) (eOp mulD (eFn intD (aCons (eOp gtD (eVar 1) (eC (.int 5))) aNil)) (eCall F_draw (aCons (eVar 0) (aCons (eC (.int 2)) aNil))))) aNil)))) aNil)))))) sNil)
      (sFrz 2 (sRet (eCall F_lots_pairs (aCons (eVar 0) (aCons (eVar 2) aNil)))))))))))
def F_gentle_pairs : Fn := fnSem 8 2 g_gentle_pairs
-- turned_pairs (k01)
def g_turned_pairs : Sx :=
  (sFrz 1 (sSeq (sIf (tst (eOp eqD (eCall F_draw (aCons (eVar 0) (aCons (eC (.int 4)) aNil))) (eC (.int 0))))
      (sFrz 1 (sSet 1 (eCall F_behind_pairs (aCons (eVar 1) aNil)))) sNil)
      (sFrz 1 (sRet (eCall F_called (aCons (eVar 1) (aCons (eLock (eCall F_shuffled (aCons (eVar 0) (aCons (eLock (eRgL (rg1 (eFn lenD (aCons (eVar 1) aNil))))) aNil)))) aNil)))))))
def F_turned_pairs : Fn := fnSem 2 2 g_turned_pairs
-- _are_pairs (k01)
def g__are_pairs : Sx :=
  (sRet (eAnd (eCall F__is_full (aCons (eVar 0) (aCons (eVar 1) aNil))) (eFn allD (aCons (eComp (iA (eVar 0)) (.name 2) cYes (eLock (eCall F__is_line (aCons (eVar 2) (aCons (eVar 1) aNil)))) [2]) aNil))))
def F__are_pairs : Fn := fnSem 3 2 g__are_pairs
-- kindly_pairs (k01)
def g_kindly_pairs : Sx :=
  (sSeq (sPar [2, 3] (aCons (eOp addD (eC (.int 1)) (eCall F_draw (aCons (eVar 0) (aCons (eVar 1) aNil)))) (aCons (eCall F_draw (aCons (eVar 0) (aCons (eC (.int 5)) aNil))) aNil)))
      (sFrz 4 (sSeq (sIf (tst (eOp eqD (eVar 3) (eC (.int 0))))
      (sSeq (sSet 4 (eCall F_shuffled (aCons (eVar 0) (aCons (eLock (eRgL (rg1 (eVar 2)))) aNil))))
      (sFrz 4 (sSeq (sPar [5, 6] (aCons (eCall F_powers (aCons (eVar 4) (aCons (eLock (eCall F_draw (aCons (eVar 0) (aCons (eC (.int 4)) aNil)))) aNil))) (aCons (eCall F_powers (aCons (eVar 4) (aCons (eLock (eCall F_draw (aCons (eVar 0) (aCons (eC (.int 4)) aNil)))) aNil))) aNil)))
      (sRet (eComp (iR1 (aCons (eVar 2) aNil)) (.name 8) cYes (eLock (eComp (iR1 (aCons (eVar 2) aNil)) (.name 9) cYes (eTup (aCons (eOp ixD (eVar 5) (eVar 9)) (aCons (eOp ixD (eVar 6) (eVar 8)) aNil))) [9])) [8]))))) sNil)
      (sSeq (sIf (tst (eOp eqD (eVar 3) (eC (.int 1))))
      (sRet (eComp (iR1 (aCons (eVar 2) aNil)) (.name 8) cYes (eLock (eComp (iR1 (aCons (eVar 2) aNil)) (.name 9) cYes (eTup (aCons (eVar 9) (aCons (eOp modD (eOp subD (eOp mulD (eC (.int 2)) (eVar 9)) (eVar 8)) (eVar 2)) aNil))) [9])) [8])) sNil)
      (sFrz 7 (sSeq (sIf (tAndF (tst (eOp eqD (eVar 3) (eC (.int 2)))) (tst (eOp gtD (eVar 1) (eC (.int 5)))))
      (sSeq (sSet 7 (eComp (iR1 (aCons (eC (.int 2)) aNil)) (.name 8) cYes (eLock (eComp (iR1 (aCons (eC (.int 2)) aNil)) (.name 9) cYes (eTup (aCons (eVar 9) (aCons (eOp modD (eOp addD (eVar 8) (eC (.int 1))) (eC (.int 2))) aNil))) [9])) [8]))
      (sFrz 7 (sRet (eCall F_side_by_side (aCons (eVar 7) (aCons (eLock (eComp (iR1 (aCons (eC (.int 3)) aNil)) (.name 8) cYes (eLock (eComp (iR1 (aCons (eC (.int 3)) aNil)) (.name 9) cYes (eTup (aCons (eVar 9) (aCons (eOp modD (eOp subD (eOp mulD (eC (.int 2)) (eVar 9)) (eVar 8)) (eC (.int 3))) aNil))) [9])) [8])) aNil)))))) sNil)
      (sRet (eCall F_gentle_pairs (aCons (eVar 0) (aCons (eVar 1) aNil))))))))))
def F_kindly_pairs : Fn := fnSem 10 2 g_kindly_pairs
-- three_pairs (k01)
def g_three_pairs : Sx :=
  (sSeq (sPar [2, 3] (aCons (eOp addD (eC (.int 1)) (eCall F_draw (aCons (eVar 0) (aCons (eVar 1) aNil)))) (aCons (eCall F_draw (aCons (eVar 0) (aCons (eC (.int 6)) aNil))) aNil)))
      (sSeq (sIf (tst (eOp eqD (eVar 3) (eC (.int 0))))
      (sRet (eComp (iR1 (aCons (eVar 2) aNil)) (.name 5) cYes (eLock (eComp (iR1 (aCons (eVar 2) aNil)) (.name 6) cYes (eTup (aCons (eFn minD (aCons (eVar 5) (aCons (eVar 6) aNil))) (aCons (eFn maxD (aCons (eVar 5) (aCons (eVar 6) aNil))) aNil))) [6])) [5])) sNil)
      (sSeq (sIf (tAndF (tst (eOp eqD (eVar 3) (eC (.int 1)))) (tst (eOp gtD (eVar 1) (eC (.int 2)))))
      (sRet (eLst (aCons (eLock (eLst (aCons (eTup (aCons (eC (.int 0)) (aCons (eC (.int 0)) aNil))) (aCons (eTup (aCons (eC (.int 1)) (aCons (eC (.int 0)) aNil))) (aCons (eTup (aCons (eC (.int 2)) (aCons (eC (.int 0)) aNil))) aNil))))) (aCons (eLock (eLst (aCons (eTup (aCons (eC (.int 0)) (aCons (eC (.int 1)) aNil))) (aCons (eTup (aCons (eC (.int 1)) (aCons (eC (.int 0)) aNil))) (aCons (eTup (aCons (eC (.int 2)) (aCons (eC (.int 0)) aNil))) aNil))))) (aCons (eLock (eLst (aCons (eTup (aCons (eC (.int 0)) (aCons (eC (.int 2)) aNil))) (aCons (eTup (aCons (eC (.int 2)) (aCons (eC (.int 0)) aNil))) (aCons (eTup (aCons (eC (.int 1)) (aCons (eC (.int 0)) aNil))) aNil))))) aNil))))) sNil)
      (sFrz 2 (sFrz 4 (sSeq (sIf (tst (eOp eqD (eVar 3) (eC (.int 2))))
      (sFrz 2 (sSeq (sSet 4 (eCall F_draw (aCons (eVar 0) (aCons (eVar 2) aNil))))
      (sFrz 4 (sRet (eComp (iR1 (aCons (eVar 2) aNil)) (.name 5) cYes (eLock (eComp (iR1 (aCons (eVar 2) aNil)) (.name 6) cYes (eTup (aCons (eVar 4) (aCons (eVar 4) aNil))) [6])) [5]))))) sNil)
      (sRet (eCall F_kindly_pairs (aCons (eVar 0) (aCons (eVar 1) aNil))))))))))
def F_three_pairs : Fn := fnSem 7 2 g_three_pairs
-- any_pairs (k01)
def g_any_pairs : Sx :=
  (sSeq (sPar [2, 3] (aCons (eOp addD (eC (.int 1)) (eCall F_draw (aCons (eVar 0) (aCons (eVar 1) aNil)))) (aCons (eCall F_draw (aCons (eVar 0) (aCons (eC (.int 4)) aNil))) aNil)))
      (sFrz 2 (sSeq (sIf (tst (eOp eqD (eVar 3) (eC (.int 0))))
      (sFrz 2 (sRet (eComp (iR1 (aCons (eVar 2) aNil)) (.name 5) cYes (eLock (eComp (iR1 (aCons (eVar 2) aNil)) (.name 6) cYes (eTup (aCons (eLock (eCall F_draw (aCons (eVar 0) (aCons (eVar 2) aNil)))) (aCons (eLock (eCall F_draw (aCons (eVar 0) (aCons (eVar 2) aNil)))) aNil))) [6])) [5]))) sNil)
      (sSeq (sSet 4 (eCall F_turned_pairs (aCons (eVar 0) (aCons (eLock (eCall F_three_pairs (aCons (eVar 0) (aCons (eVar 1) aNil)))) aNil))))
      (sFrz 2 (sSeq (sIf (tst (eOp eqD (eVar 3) (eC (.int 1))))
      (sSeq (sSet 2 (eFn lenD (aCons (eVar 4) aNil)))
      (sFrz 2 (sSeq (sPar [5, 6] (aCons (eCall F_draw (aCons (eVar 0) (aCons (eVar 2) aNil))) (aCons (eCall F_draw (aCons (eVar 0) (aCons (eVar 2) aNil))) aNil)))
      (sFrz 2 (sAsg (eLock (eOp addD (eOp addD (eSl (eOp ixD (eVar 4) (eVar 5)) oNone (oSome (eVar 6))) (eLst (aCons (eTup (aCons (eLock (eCall F_draw (aCons (eVar 0) (aCons (eVar 2) aNil)))) (aCons (eLock (eCall F_draw (aCons (eVar 0) (aCons (eVar 2) aNil)))) aNil))) aNil))) (eSl (eOp ixD (eVar 4) (eVar 5)) (oSome (eOp addD (eVar 6) (eC (.int 1)))) oNone))) (.sub 4 (eVar 5))))))) sNil)
      (sRet (eVar 4))))))))
def F_any_pairs : Fn := fnSem 7 2 g_any_pairs
-- plain_lists (k02)
def g_plain_lists : Sx :=
  (sRet (eComp (iA (eVar 0)) (.name 1) cYes (eLock (eComp (iA (eVar 1)) (.name 2) cYes (eFn tupleD (aCons (eVar 2) aNil)) [2])) [1]))
def F_plain_lists : Fn := fnSem 3 1 g_plain_lists
-- are_pairs (k02)
def g_are_pairs : Sx :=
  (sSeq (sIf (tOrF (tNotF (tTru (eCall F_is_listing (aCons (eVar 1) aNil)))) (tst (eOp neD (eFn lenD (aCons (eVar 1) aNil)) (eFn lenD (aCons (eVar 0) aNil)))))
      (sRet (eC (.bl false))) sNil)
      (sSeq (sFor (iA (eVar 1)) (.name 2)
      (sSeq (sIf (tOrF (tNotF (tTru (eCall F_is_listing (aCons (eVar 2) aNil)))) (tst (eOp neD (eFn lenD (aCons (eVar 2) aNil)) (eFn lenD (aCons (eVar 0) aNil)))))
      (sRet (eC (.bl false))) sNil)
      (sFor (iA (eVar 2)) (.name 3)
      (sSeq (sIf (tOrF (tNotF (tTru (eCall F_is_listing (aCons (eVar 3) aNil)))) (tst (eOp neD (eFn lenD (aCons (eVar 3) aNil)) (eC (.int 2)))))
      (sRet (eC (.bl false))) sNil)
      (sIf (tst (eOp neD (eComp (iA (eVar 3)) (.name 4) (tOrF (tNotF (tTru (eUn (isiD ["str"]) (eVar 4)))) (tst (eOp notInD (eVar 4) (eVar 0)))) (eVar 4) [4]) (eLst aNil)))
      (sRet (eC (.bl false))) sNil)))))
      (sRet (eC (.bl true)))))
def F_are_pairs : Fn := fnSem 5 2 g_are_pairs
-- due (k02)
def g_due : Sx :=
  (sSeq (sIf (tOrF (tNotF (tTru (eCall F_is_listing (aCons (eVar 0) aNil)))) (tOrF (tNotF (tst (eChain ltD ltD (eC (.int 0)) (eFn lenD (aCons (eVar 0) aNil)) (eC (.int 7))))) (tst (eOp neD (eComp (iA (eVar 0)) (.name 2) (tNotF (tTru (eCall F_lis_name (aCons (eVar 2) aNil)))) (eVar 2) [2]) (eLst aNil)))))
      (sRet (eC (.str "marks"))) sNil)
      (sSeq (sIf (tst (eOp neD (eUn lenSetD (eVar 0)) (eFn lenD (aCons (eVar 0) aNil))))
      (sRet (eC (.str "marks"))) sNil)
      (sRet (eIf (tTru (eCall F_are_pairs (aCons (eVar 0) (aCons (eVar 1) aNil)))) (eC .non) (eC (.str "pairs"))))))
def F_due : Fn := fnSem 3 2 g_due
-- gone (k03)
def g_gone : Sx :=
  (sSeq (sSet 3 (eFn tupleD (aCons (eVar 1) aNil)))
      (sSeq (sFor (iA (eVar 2)) (.name 4)
      (sSeq (sSet 5 (eOp ixD (eOp ixD (eVar 0) (eOp ixD (eVar 3) (eVar 4))) (eOp ixD (eVar 3) (eOp addD (eVar 4) (eC (.int 1))))))
      (sSet 3 (eOp addD (eOp addD (eSl (eVar 3) oNone (oSome (eVar 4))) (eFn tupleD (aCons (eVar 5) aNil))) (eSl (eVar 3) (oSome (eOp addD (eVar 4) (eC (.int 2)))) oNone)))))
      (sRet (eVar 3))))
def F_gone : Fn := fnSem 6 3 g_gone
-- said (k03)
def g_said : Sx :=
  (sRet (eFn tupleD (aCons (eComp (iA (eVar 1)) (.name 2) cYes (eOp ixD (eVar 0) (eVar 2)) [2]) aNil)))
def F_said : Fn := fnSem 3 2 g_said
-- row_fault (k03)
def g_row_fault : Sx :=
  (sSeq (sIf (tOrF (tNotF (tTru (eCall F_is_listing (aCons (eVar 1) aNil)))) (tNotF (tst (eChain leD leD (eC (.int 1)) (eFn lenD (aCons (eVar 1) aNil)) (eC (.int 60))))))
      (sRet (eUn negD (eC (.int 1)))) sNil)
      (sSeq (sSet 2 (eMeth F_Table_marks (eVar 0) aNil))
      (sSeq (sFor (iE (aCons (eVar 1) aNil)) (.tup [(.name 3), (.name 4)])
      (sIf (tst (eOp notInD (eVar 4) (eVar 2)))
      (sRet (eVar 3)) sNil))
      (sRet (eC .non)))))
def F_row_fault : Fn := fnSem 5 2 g_row_fault
-- pass_done (k03)
def g_pass_done : Sx :=
  (sRet (eOp addD (eOp addD (eSl (eVar 1) oNone (oSome (eVar 2))) (eMeth F_Table_passed (eVar 0) (aCons (eOp ixD (eVar 1) (eVar 2)) (aCons (eOp ixD (eVar 1) (eOp addD (eVar 2) (eC (.int 1)))) aNil)))) (eSl (eVar 1) (oSome (eOp addD (eVar 2) (eC (.int 2)))) oNone)))
def F_pass_done : Fn := fnSem 3 3 g_pass_done
-- _mark_out (k03)
def g__mark_out : Sx :=
  (sSeq (sFor (iA (eVar 2)) (.name 3)
      (sSet 1 (eOp ixD (eMeth F_Table_passed (eVar 0) (aCons (eVar 1) (aCons (eVar 3) aNil))) (eC (.int 1)))))
      (sRet (eVar 1)))
def F__mark_out : Fn := fnSem 4 3 g__mark_out
-- three_wrong (k03)
def g_three_wrong : Sx :=
  (sSeq (sFor (iR1 (aCons (eFn lenD (aCons (eVar 0) aNil)) aNil)) (.name 1)
      (sFor (iR1 (aCons (eFn lenD (aCons (eVar 0) aNil)) aNil)) (.name 2)
      (sFor (iR1 (aCons (eFn lenD (aCons (eVar 0) aNil)) aNil)) (.name 3)
      (sIf (tst (eOp neD (eCall F_gone (aCons (eVar 0) (aCons (eTup (aCons (eVar 1) (aCons (eVar 2) (aCons (eVar 3) aNil)))) (aCons (eTup (aCons (eC (.int 0)) (aCons (eC (.int 1)) (aCons (eC (.int 0)) aNil)))) aNil)))) (eCall F_gone (aCons (eVar 0) (aCons (eTup (aCons (eVar 1) (aCons (eVar 2) (aCons (eVar 3) aNil)))) (aCons (eTup (aCons (eC (.int 1)) (aCons (eC (.int 0)) (aCons (eC (.int 1)) aNil)))) aNil))))))
      (sRet (eTup (aCons (eVar 1) (aCons (eVar 2) (aCons (eVar 3) aNil))))) sNil))))
      (sRet (eC .non)))
def F_three_wrong : Fn := fnSem 4 1 g_three_wrong
-- row_taken (k03)
def g_row_taken : Sx :=
  (sSeq (sSet 2 (eCall F_row_fault (aCons (eVar 0) (aCons (eVar 1) aNil))))
      (sFrz 2 (sSeq (sIf (tst (eOp notN (eVar 2) (eC .non)))
      (sFrz 2 (fun _ => M.lift none)) sNil)
      (sRet (eFn tupleD (aCons (eVar 1) aNil))))))
def F_row_taken : Fn := fnSem 3 2 g_row_taken
-- _turned (k03)
def g__turned : Sx :=
  (sFrz 1 (sSeq (sSet 1 (eCall F_pass_done (aCons (eVar 0) (aCons (eVar 1) (aCons (eVar 2) aNil)))))
      (sFrz 1 (sSeq (sSet 1 (eCall F_pass_done (aCons (eVar 0) (aCons (eVar 1) (aCons (eVar 3) aNil)))))
      (sFrz 1 (sRet (eCall F_pass_done (aCons (eVar 0) (aCons (eVar 1) (aCons (eVar 2) aNil))))))))))
def F__turned : Fn := fnSem 4 4 g__turned
-- _mark_in (k03)
def g__mark_in : Sx :=
  (sRet (eOp ixD (eComp (iA (eLock (eMeth F_Table_marks (eVar 0) aNil))) (.name 3) (tst (eOp eqD (eCall F__mark_out (aCons (eVar 0) (aCons (eVar 3) (aCons (eVar 2) aNil)))) (eVar 1))) (eVar 3) [3]) (eC (.int 0))))
def F__mark_in : Fn := fnSem 4 3 g__mark_in
-- three_fault (k03)
def g_three_fault : Sx :=
  (sSeq (sSet 1 (eMeth F_Table_marks (eVar 0) aNil))
      (sFrz 1 (sSeq (sFor (iA (eVar 1)) (.name 2)
      (sFrz 1 (sFor (iA (eVar 1)) (.name 3)
      (sFrz 1 (sFor (iA (eVar 1)) (.name 4)
      (sSeq (sSet 5 (eTup (aCons (eVar 2) (aCons (eVar 3) (aCons (eVar 4) aNil)))))
      (sIf (tst (eOp neD (eCall F__turned (aCons (eVar 0) (aCons (eVar 5) (aCons (eC (.int 0)) (aCons (eC (.int 1)) aNil))))) (eCall F__turned (aCons (eVar 0) (aCons (eVar 5) (aCons (eC (.int 1)) (aCons (eC (.int 0)) aNil)))))))
      (sRet (eVar 5)) sNil)))))))
      (sRet (eC .non)))))
def F_three_fault : Fn := fnSem 6 1 g_three_fault
-- plain (k03)
def g_plain : Sx :=
  (sSeq (sSet 2 (eCall F_row_taken (aCons (eVar 0) (aCons (eVar 1) aNil))))
      (sFrz 2 (sRet (eFn tupleD (aCons (eComp (iE (aCons (eVar 2) aNil)) (.tup [(.name 3), (.name 4)]) cYes (eLock (eCall F__mark_out (aCons (eVar 0) (aCons (eVar 4) (aCons (eLock (eSl (eVar 2) (oSome (eOp addD (eVar 3) (eC (.int 1)))) oNone)) aNil))))) [3, 4]) aNil)))))
def F_plain : Fn := fnSem 5 2 g_plain
-- is_number (k06)
def g_is_number : Sx :=
  (sRet (eAnd (eUn (isiD ["int"]) (eVar 0)) (eAnd (eNot (eUn (isiD ["bool"]) (eVar 0))) (eChain leD leD (eVar 1) (eVar 0) (eVar 2)))))
def F_is_number : Fn := fnSem 3 3 g_is_number
-- _exchanged (k06)
def g__exchanged : Sx :=
  (sRet (eTup (aCons (eOp ixD (eVar 0) (eC (.int 1))) (aCons (eOp ixD (eVar 0) (eC (.int 0))) aNil))))
def F__exchanged : Fn := fnSem 1 1 g__exchanged
-- tuples (k06)
def g_tuples : Sx :=
  (sSeq (sSet 2 (eLst (aCons (eTup aNil) aNil)))
      (sFrz 2 (sSeq (sFor (iR1 (aCons (eVar 1) aNil)) (.name 3)
      (sSeq (sSet 4 (eLst aNil))
      (sFrz 2 (sSeq (sFor (iA (eVar 2)) (.name 5)
      (sOn 4 (eComp (iA (eVar 0)) (.name 6) cYes (eOp addD (eVar 5) (eTup (aCons (eVar 6) aNil))) [6]) extD))
      (sFrz 4 (sSet 2 (eStill (eVar 4))))))))
      (sRet (eVar 2)))))
def F_tuples : Fn := fnSem 7 2 g_tuples
-- word_fault (k06)
def g_word_fault : Sx :=
  (sSeq (sIf (tOrF (tNotF (tTru (eCall F_is_listing (aCons (eVar 1) aNil)))) (tst (eOp gtD (eFn lenD (aCons (eVar 1) aNil)) (eC (.int 2000)))))
      (sRet (eUn negD (eC (.int 1)))) sNil)
      (sSeq (sFor (iE (aCons (eVar 1) aNil)) (.tup [(.name 2), (.name 3)])
      (sIf (tNotF (tTru (eCall F_is_number (aCons (eVar 3) (aCons (eC (.int 0)) (aCons (eOp subD (eVar 0) (eC (.int 2))) aNil))))))
      (sRet (eVar 2)) sNil))
      (sRet (eC .non))))
def F_word_fault : Fn := fnSem 4 2 g_word_fault
-- _refuse_unless_names (k06)
def g__refuse_unless_names : Sx :=
  (sSeq (sIf (tOrF (tNotF (tTru (eUn (isiD ["dict"]) (eVar 0)))) (tOrF (tst (eOp neD (eFn lenD (aCons (eVar 0) aNil)) (eFn lenD (aCons (eVar 1) aNil)))) (tNotF (tTru (eFn allD (aCons (eComp (iA (eVar 1)) (.name 3) cYes (eOp inD (eVar 3) (eVar 0)) [3]) aNil))))))
      (fun _ => M.lift none) sNil)
      (sSeq (sSet 2 (eComp (iA (eVar 1)) (.name 3) cYes (eOp ixD (eVar 0) (eVar 3)) [3]))
      (sFrz 2 (sIf (tOrF (tNotF (tTru (eFn allD (aCons (eComp (iA (eVar 2)) (.name 4) cYes (eLock (eCall F_is_name (aCons (eVar 4) aNil))) [4]) aNil)))) (tst (eOp neD (eUn lenSetD (eVar 2)) (eFn lenD (aCons (eVar 2) aNil)))))
      (fun _ => M.lift none) sNil))))
def F__refuse_unless_names : Fn := fnSem 5 2 g__refuse_unless_names
-- word_taken (k06)
def g_word_taken : Sx :=
  (sSeq (sSet 2 (eCall F_word_fault (aCons (eVar 0) (aCons (eVar 1) aNil))))
      (sFrz 2 (sSeq (sIf (tst (eOp notN (eVar 2) (eC .non)))
      (sFrz 2 (fun _ => M.lift none)) sNil)
      (sRet (eFn tupleD (aCons (eVar 1) aNil))))))
def F_word_taken : Fn := fnSem 3 2 g_word_taken
-- rows_on (k06)
def g_rows_on : Sx :=
  (sSeq (sSet 3 (eLst (aCons (eLock (eCall F_row_taken (aCons (eVar 0) (aCons (eVar 1) aNil)))) aNil)))
      (sSeq (sFor (iA (eLock (eCall F_word_taken (aCons (eFn lenD (aCons (eVar 1) aNil)) (aCons (eVar 2) aNil))))) (.name 4)
      (sOn 3 (eLock (eCall F_pass_done (aCons (eVar 0) (aCons (eOp ixD (eVar 3) (eUn negD (eC (.int 1)))) (aCons (eVar 4) aNil))))) appD))
      (sRet (eVar 3))))
def F_rows_on : Fn := fnSem 5 3 g_rows_on
-- row_behind (k06)
def g_row_behind : Sx :=
  (sRet (eOp ixD (eCall F_rows_on (aCons (eVar 0) (aCons (eVar 1) (aCons (eVar 2) aNil)))) (eUn negD (eC (.int 1)))))
def F_row_behind : Fn := fnSem 3 3 g_row_behind
-- cares (k06)
def g_cares : Sx :=
  (sRet (eOp neD (eCall F_row_behind (aCons (eVar 0) (aCons (eVar 1) (aCons (eTup (aCons (eC (.int 0)) (aCons (eC (.int 1)) (aCons (eC (.int 0)) aNil)))) aNil)))) (eCall F_row_behind (aCons (eVar 0) (aCons (eVar 1) (aCons (eTup (aCons (eC (.int 1)) (aCons (eC (.int 0)) (aCons (eC (.int 1)) aNil)))) aNil))))))
def F_cares : Fn := fnSem 2 2 g_cares
-- moves (k06)
def g_moves : Sx :=
  (sRet (eOp neD (eCall F_row_behind (aCons (eVar 0) (aCons (eVar 1) (aCons (eTup (aCons (eC (.int 0)) (aCons (eC (.int 0)) aNil))) aNil)))) (eVar 1)))
def F_moves : Fn := fnSem 2 2 g_moves
-- named (k06)
def g_named : Sx :=
  (sSeq (sSet 2 (eMeth F_Table_marks (eVar 0) aNil))
      (sFrz 2 (sSeq (sDrop (eCall F__refuse_unless_names (aCons (eVar 1) (aCons (eVar 2) aNil))))
      (sSeq (sSet 3 (eComp (iA (eLock (eMeth F_Table_pairs (eVar 0) aNil))) (.name 4) cYes (eLock (eComp (iA (eVar 4)) (.name 5) cYes (eFn tupleD (aCons (eComp (iA (eVar 5)) (.name 6) cYes (eOp ixD (eVar 1) (eVar 6)) [6]) aNil)) [5])) [4]))
      (sFrz 2 (sFrz 3 (sRet (eCall tableG (aCons (eLock (eComp (iA (eVar 2)) (.name 6) cYes (eOp ixD (eVar 1) (eVar 6)) [6])) (aCons (eVar 3) aNil))))))))))
def F_named : Fn := fnSem 7 2 g_named
-- _made_by (k06)
def g__made_by : Sx :=
  (sRet (eCall tableG (aCons (eVar 0) (aCons (eLock (eComp (iA (eVar 0)) (.name 2) cYes (eLock (eComp (iA (eVar 0)) (.name 3) cYes (eOp ixD (eVar 1) (eTup (aCons (eVar 2) (aCons (eVar 3) aNil)))) [3])) [2])) aNil))))
def F__made_by : Fn := fnSem 4 2 g__made_by
-- word (k07)
def g_word : Sx :=
  (sRet (eFn tupleD (aCons (eComp (iR1 (aCons (eOp mulD (eCall F_draw (aCons (eVar 0) (aCons (eOp addD (eVar 2) (eC (.int 1))) aNil))) (eFn intD (aCons (eOp gtD (eVar 1) (eC (.int 1))) aNil))) aNil)) (.name 3) cYes (eLock (eCall F_draw (aCons (eVar 0) (aCons (eOp subD (eVar 1) (eC (.int 1))) aNil)))) [3]) aNil)))
def F_word : Fn := fnSem 4 3 g_word
-- line (k07)
def g_line : Sx :=
  (sSeq (sSet 3 (eOp addD (eC (.int 1)) (eCall F_draw (aCons (eVar 0) (aCons (eFn lenD (aCons (eVar 1) aNil)) aNil)))))
      (sFrz 3 (sRet (eFn tupleD (aCons (eComp (iR1 (aCons (eVar 2) aNil)) (.name 4) cYes (eLock (eCall F_draw (aCons (eVar 0) (aCons (eVar 3) aNil)))) [4]) aNil)))))
def F_line : Fn := fnSem 5 3 g_line
-- way (k07)
def g_way : Sx :=
  (sSeq (sSet 3 (eLst (aCons (eFn tupleD (aCons (eVar 1) aNil)) aNil)))
      (sSeq (sFor (iA (eVar 2)) (.name 4)
      (sOn 3 (eLock (eCall F_gone (aCons (eVar 0) (aCons (eOp ixD (eVar 3) (eUn negD (eC (.int 1)))) (aCons (eTup (aCons (eVar 4) aNil)) aNil))))) appD))
      (sRet (eVar 3))))
def F_way : Fn := fnSem 5 3 g_way
-- law_k07 (k07)
def g_law_k07 : Sx :=
  (sFrz 1 (sFrz 3 (sFrz 4 (sFrz 5 (sFrz 6 (sFrz 7 (sFrz 8 (sFrz 10 (sFrz 11 (sSeq (sFor (iR1 (aCons (eC (.int 5)) aNil)) (.name 2)
      (sFrz 1 (sSeq (sSet 3 (eCall F_any_pairs (aCons (eVar 1) (aCons (eC (.int 6)) aNil))))
      (sFrz 1 (sSeq (sSet 4 (eCall F_names (aCons (eVar 1) (aCons (eFn lenD (aCons (eVar 3) aNil)) aNil))))
      (sFrz 3 (sFrz 4 (sFrz 7 (sSeq (sSet 5 (eCall tableG (aCons (eVar 4) (aCons (eLock (eComp (iA (eVar 3)) (.name 7) cYes (eLock (eComp (iA (eVar 7)) (.tup [(.name 14), (.name 15)]) cYes (eTup (aCons (eOp ixD (eVar 4) (eVar 14)) (aCons (eOp ixD (eVar 4) (eVar 15)) aNil))) [14, 15])) [7])) aNil))))
      (sFrz 1 (sSeq (sSet 6 (eOp addD (eC (.int 1)) (eCall F_draw (aCons (eVar 1) (aCons (eOp ixD (eLst (aCons (eC (.int 3)) (aCons (eC (.int 8)) (aCons (eC (.int 60)) aNil)))) (eCall F_draw (aCons (eVar 1) (aCons (eC (.int 3)) aNil)))) aNil)))))
      (sFrz 1 (sFrz 6 (sSeq (sSet 6 (eStill (eIf (tst (eOp eqD (eVar 2) (eC (.int 0)))) (eFn minD (aCons (eVar 6) (aCons (eOp ixD (eLst (aCons (eC (.int 8)) (aCons (eC (.int 60)) aNil))) (eOp fdivD (eCall F_draw (aCons (eVar 1) (aCons (eC (.int 4)) aNil))) (eC (.int 3)))) aNil))) (eVar 6))))
      (sFrz 1 (sFrz 3 (sFrz 6 (sSeq (sPar [7, 8] (aCons (eCall F_line (aCons (eVar 1) (aCons (eVar 3) (aCons (eVar 6) aNil)))) (aCons (eCall F_word (aCons (eVar 1) (aCons (eVar 6) (aCons (eC (.int 60)) aNil)))) aNil)))
      (sSeq (sIf (tAndF (tst (eOp eqD (eVar 2) (eC (.int 0)))) (tst (eOp gtD (eVar 6) (eC (.int 1)))))
      (sSeq (sSet 8 (eOp mulD (eOp addD (eVar 8) (eTup (aCons (eC (.int 0)) aNil))) (eC (.int 2000))))
      (sSet 8 (eSl (eVar 8) oNone (oSome (eC (.int 2000)))))) sNil)
      (sFrz 3 (sFrz 4 (sFrz 7 (sFrz 8 (sSeq (sSet 9 (eComp (iA (eLock (eCall F_way (aCons (eVar 3) (aCons (eVar 7) (aCons (eVar 8) aNil)))))) (.name 16) cYes (eLock (eCall F_said (aCons (eVar 4) (aCons (eVar 16) aNil)))) [16]))
      (sFrz 1 (sFrz 8 (sSeq (sPar [10, 11] (aCons (eCall F_handed (aCons (eVar 1) (aCons (eOp ixD (eVar 9) (eC (.int 0))) aNil))) (aCons (eCall F_handed (aCons (eVar 1) (aCons (eVar 8) aNil))) aNil)))
      (sFrz 5 (sFrz 10 (sFrz 11 (sSeq (sFor (iR1 (aCons (eC (.int 2)) aNil)) (.name 12)
      (sFrz 5 (sFrz 10 (sFrz 11 (sSeq (sSet 13 (eCall F_rows_on (aCons (eVar 5) (aCons (eVar 10) (aCons (eVar 11) aNil)))))
      (sFrz 5 (sFrz 10 (sFrz 11 (sSeq (sIf (tOrF (tst (eOp neD (eFn reprD (aCons (eVar 13) aNil)) (eFn reprD (aCons (eVar 9) aNil)))) (tst (eOp neD (eFn reprD (aCons (eCall F_row_behind (aCons (eVar 5) (aCons (eVar 10) (aCons (eVar 11) aNil)))) aNil)) (eFn reprD (aCons (eOp ixD (eVar 9) (eUn negD (eC (.int 1)))) aNil)))))
      (sRet (eC (.bl false))) sNil)
      (sOn 13 (eC .non) appD))))))))))
      (sSeq (sIf (tOrF (tst (eOp neD (eFn listD (aCons (eVar 10) aNil)) (eFn listD (aCons (eOp ixD (eVar 9) (eC (.int 0))) aNil)))) (tst (eOp neD (eFn listD (aCons (eVar 11) aNil)) (eFn listD (aCons (eVar 8) aNil)))))
      (sRet (eC (.bl false))) sNil)
      (sFrz 5 (sFrz 10 (sIf (tst (eOp neD (eFn reprD (aCons (eLst (aCons (eLock (eCall F_row_behind (aCons (eVar 5) (aCons (eOp ixD (eVar 9) (eC (.int 0))) (aCons (eTup aNil) aNil))))) (aCons (eLock (eCall F_rows_on (aCons (eVar 5) (aCons (eVar 10) (aCons (eLock (eLst aNil)) aNil))))) aNil))) aNil)) (eFn reprD (aCons (eLst (aCons (eOp ixD (eVar 9) (eC (.int 0))) (aCons (eLock (eSl (eVar 9) oNone (oSome (eC (.int 1))))) aNil))) aNil))))
      (sRet (eC (.bl false))) sNil)))))))))))))))))))))))))))))))))))
      (sRet (eC (.bl true)))))))))))))
-- row_due (k08)
def g_row_due : Sx :=
  (sSeq (sIf (tOrF (tNotF (tTru (eUn (isiD ["list", "tuple"]) (eVar 1)))) (tNotF (tst (eChain ltD ltD (eC (.int 0)) (eFn lenD (aCons (eVar 1) aNil)) (eC (.int 61))))))
      (sRet (eUn negD (eC (.int 1)))) sNil)
      (sSeq (sSet 2 (eComp (iR1 (aCons (eFn lenD (aCons (eVar 1) aNil)) aNil)) (.name 3) (tOrF (tNotF (tTru (eUn (isiD ["str"]) (eOp ixD (eVar 1) (eVar 3))))) (tst (eOp notInD (eOp ixD (eVar 1) (eVar 3)) (eVar 0)))) (eVar 3) [3]))
      (sRet (eIf (tst (eOp neD (eVar 2) (eLst aNil))) (eOp ixD (eVar 2) (eC (.int 0))) (eC .non)))))
def F_row_due : Fn := fnSem 4 2 g_row_due
-- word_due (k08)
def g_word_due : Sx :=
  (sSeq (sIf (tOrF (tNotF (tTru (eUn (isiD ["list", "tuple"]) (eVar 1)))) (tst (eOp gtD (eFn lenD (aCons (eVar 1) aNil)) (eC (.int 2000)))))
      (sRet (eUn negD (eC (.int 1)))) sNil)
      (sSeq (sSet 2 (eComp (iR1 (aCons (eFn lenD (aCons (eVar 1) aNil)) aNil)) (.name 3) (tNotF (tTru (eCall F_is_number (aCons (eOp ixD (eVar 1) (eVar 3)) (aCons (eC (.int 0)) (aCons (eOp subD (eVar 0) (eC (.int 2))) aNil)))))) (eVar 3) [3]))
      (sRet (eIf (tst (eOp neD (eVar 2) (eLst aNil))) (eOp ixD (eVar 2) (eC (.int 0))) (eC .non)))))
def F_word_due : Fn := fnSem 4 2 g_word_due
-- moved_right (k09)
def g_moved_right : Sx :=
  (sSeq (sSet 5 (eCall F_draw (aCons (eVar 0) (aCons (eOp addD (eOp subD (eC (.int 60)) (eFn lenD (aCons (eVar 3) aNil))) (eC (.int 1))) aNil))))
      (sSeq (sSet 6 (eFn tupleD (aCons (eComp (iR1 (aCons (eVar 5) aNil)) (.name 8) cYes (eLock (eCall F_pick (aCons (eVar 0) (aCons (eVar 2) aNil)))) [8]) aNil)))
      (sSeq (sSet 7 (eComp (iA (eVar 4)) (.name 9) cYes (eOp addD (eVar 9) (eVar 5)) [9]))
      (sFrz 7 (sRet (eOp eqD (eCall F_row_behind (aCons (eVar 1) (aCons (eOp addD (eVar 6) (eVar 3)) (aCons (eVar 7) aNil)))) (eOp addD (eVar 6) (eCall F_row_behind (aCons (eVar 1) (aCons (eVar 3) (aCons (eVar 4) aNil)))))))))))
def F_moved_right : Fn := fnSem 10 5 g_moved_right
-- stand (k10)
def g_stand : Sx :=
  (sSeq (sSet 2 (eRgT (rg1 (eVar 0))))
      (sSeq (sFor (iA (eVar 1)) (.name 3)
      (sSet 2 (eOp addD (eOp addD (eSl (eVar 2) oNone (oSome (eVar 3))) (eTup (aCons (eOp ixD (eVar 2) (eOp addD (eVar 3) (eC (.int 1)))) (aCons (eOp ixD (eVar 2) (eVar 3)) aNil)))) (eSl (eVar 2) (oSome (eOp addD (eVar 3) (eC (.int 2)))) oNone))))
      (sRet (eVar 2))))
def F_stand : Fn := fnSem 4 2 g_stand
-- form (k10)
def g_form : Sx :=
  (sSeq (sSet 1 (eLst aNil))
      (sSeq (sFor (iR2 (aCons (eC (.int 1)) (aCons (eFn lenD (aCons (eVar 0) aNil)) aNil))) (.name 2)
      (sSeq (sSet 3 (eComp (iA (eLock (eSl (eVar 0) (oSome (eIdx (eVar 0) (eVar 2))) oNone))) (.name 4) (tst (eOp ltD (eVar 4) (eVar 2))) (eVar 4) [4]))
      (sOn 1 (eComp (iR1 (aCons (eFn lenD (aCons (eVar 3) aNil)) aNil)) (.name 5) cYes (eOp subD (eOp subD (eVar 2) (eC (.int 1))) (eVar 5)) [5]) extD)))
      (sRet (eFn tupleD (aCons (eVar 1) aNil)))))
def F_form : Fn := fnSem 6 1 g_form
-- order_fault (k10)
def g_order_fault : Sx :=
  (sSeq (sIf (tOrF (tNotF (tTru (eCall F_is_listing (aCons (eVar 0) aNil)))) (tNotF (tst (eChain leD leD (eC (.int 1)) (eFn lenD (aCons (eVar 0) aNil)) (eC (.int 60))))))
      (sRet (eUn negD (eC (.int 1)))) sNil)
      (sSeq (sFor (iE (aCons (eVar 0) aNil)) (.tup [(.name 1), (.name 2)])
      (sIf (tOrF (tNotF (tTru (eCall F_is_number (aCons (eVar 2) (aCons (eC (.int 0)) (aCons (eOp subD (eFn lenD (aCons (eVar 0) aNil)) (eC (.int 1))) aNil)))))) (tst (eOp inD (eVar 2) (eSl (eVar 0) oNone (oSome (eVar 1))))))
      (sRet (eVar 1)) sNil))
      (sRet (eC .non))))
def F_order_fault : Fn := fnSem 3 1 g_order_fault
-- number_taken (k10)
def g_number_taken : Sx :=
  (sSeq (sIf (tNotF (tTru (eCall F_is_number (aCons (eVar 0) (aCons (eVar 1) (aCons (eVar 2) aNil))))))
      (fun _ => M.lift none) sNil)
      (sRet (eVar 0)))
def F_number_taken : Fn := fnSem 3 3 g_number_taken
-- places_taken (k10)
def g_places_taken : Sx :=
  (sRet (eCall F_number_taken (aCons (eVar 0) (aCons (eC (.int 1)) (aCons (eC (.int 60)) aNil)))))
def F_places_taken : Fn := fnSem 1 1 g_places_taken
-- order_taken (k10)
def g_order_taken : Sx :=
  (sSeq (sSet 1 (eCall F_order_fault (aCons (eVar 0) aNil)))
      (sFrz 1 (sSeq (sIf (tst (eOp notN (eVar 1) (eC .non)))
      (sFrz 1 (fun _ => M.lift none)) sNil)
      (sRet (eFn tupleD (aCons (eVar 0) aNil))))))
def F_order_taken : Fn := fnSem 2 1 g_order_taken
-- order_of (k10)
def g_order_of : Sx :=
  (sSeq (sSet 2 (eRgL (rg1 (eCall F_places_taken (aCons (eVar 0) aNil)))))
      (sSeq (sFor (iA (eLock (eCall F_word_taken (aCons (eVar 0) (aCons (eVar 1) aNil))))) (.name 3)
      (sAsg (eTup (aCons (eOp ixD (eVar 2) (eOp addD (eVar 3) (eC (.int 1)))) (aCons (eOp ixD (eVar 2) (eVar 3)) aNil))) (.tup [(.sub 2 (eVar 3)), (.sub 2 (eOp addD (eVar 3) (eC (.int 1))))])))
      (sRet (eFn tupleD (aCons (eVar 2) aNil)))))
def F_order_of : Fn := fnSem 4 2 g_order_of
-- joined (k10)
def g_joined : Sx :=
  (sSeq (sSet 2 (eCall F_order_taken (aCons (eVar 0) aNil)))
      (sSeq (sIf (tAndF (tTru (eCall F_is_listing (aCons (eVar 1) aNil))) (tst (eOp neD (eFn lenD (aCons (eVar 1) aNil)) (eFn lenD (aCons (eVar 2) aNil)))))
      (fun _ => M.lift none) sNil)
      (sRet (eFn tupleD (aCons (eComp (iA (eLock (eCall F_order_taken (aCons (eVar 1) aNil)))) (.name 3) cYes (eOp ixD (eVar 2) (eVar 3)) [3]) aNil)))))
def F_joined : Fn := fnSem 4 2 g_joined
-- undone (k10)
def g_undone : Sx :=
  (sSeq (sSet 1 (eCall F_order_taken (aCons (eVar 0) aNil)))
      (sRet (eFn tupleD (aCons (eComp (iR1 (aCons (eFn lenD (aCons (eVar 1) aNil)) aNil)) (.name 2) cYes (eIdx (eVar 1) (eVar 2)) [2]) aNil))))
def F_undone : Fn := fnSem 3 1 g_undone
-- law_k10 (k10)
def g_law_k10 : Sx :=
  (sFrz 1 (sFrz 3 (sFrz 4 (sFrz 5 (sFrz 6 (sFrz 7 (sFrz 10 (sSeq (sFor (iR1 (aCons (eC (.int 6)) aNil)) (.name 2)
      (sFrz 1 (sSeq (sSet 3 (eOp addD (eC (.int 1)) (eCall F_draw (aCons (eVar 1) (aCons (eOp ixD (eLst (aCons (eC (.int 4)) (aCons (eC (.int 9)) (aCons (eC (.int 60)) aNil)))) (eCall F_draw (aCons (eVar 1) (aCons (eC (.int 3)) aNil)))) aNil)))))
      (sFrz 1 (sFrz 3 (sSeq (sPar [4, 5] (aCons (eCall F_word (aCons (eVar 1) (aCons (eVar 3) (aCons (eC (.int 60)) aNil)))) (aCons (eCall F_word (aCons (eVar 1) (aCons (eVar 3) (aCons (eC (.int 60)) aNil)))) aNil)))
      (sFrz 3 (sFrz 4 (sFrz 5 (sSeq (sPar [6, 7] (aCons (eCall F_stand (aCons (eVar 3) (aCons (eVar 4) aNil))) (aCons (eCall F_stand (aCons (eVar 3) (aCons (eVar 5) aNil))) aNil)))
      (sFrz 1 (sFrz 3 (sFrz 4 (sFrz 5 (sFrz 6 (sFrz 7 (sFrz 10 (sSeq (sFor (iA (eTup (aCons (eTup (aCons (eVar 4) (aCons (eVar 6) aNil))) (aCons (eTup (aCons (eVar 5) (aCons (eVar 7) aNil))) (aCons (eTup (aCons (eOp addD (eVar 4) (eVar 5)) (aCons (eLock (eCall F_stand (aCons (eVar 3) (aCons (eOp addD (eVar 4) (eVar 5)) aNil)))) aNil))) aNil))))) (.tup [(.name 8), (.name 9)])
      (sFrz 1 (sSeq (sSet 10 (eCall F_handed (aCons (eVar 1) (aCons (eVar 8) aNil))))
      (sFrz 3 (sFrz 10 (sIf (tOrF (tst (eOp neD (eFn reprD (aCons (eCall F_order_of (aCons (eVar 3) (aCons (eVar 10) aNil))) aNil)) (eFn reprD (aCons (eVar 9) aNil)))) (tst (eOp neD (eFn listD (aCons (eVar 10) aNil)) (eFn listD (aCons (eVar 8) aNil)))))
      (sRet (eC (.bl false))) sNil))))))
      (sFrz 1 (sFrz 6 (sFrz 7 (sSeq (sSet 10 (eLst (aCons (eLock (eCall F_handed (aCons (eVar 1) (aCons (eVar 6) aNil)))) (aCons (eLock (eCall F_handed (aCons (eVar 1) (aCons (eVar 7) aNil)))) aNil))))
      (sFrz 3 (sSeq (sIf (tst (eOp neD (eFn reprD (aCons (eCall F_joined (aCons (eOp ixD (eVar 10) (eC (.int 0))) (aCons (eOp ixD (eVar 10) (eC (.int 1))) aNil))) aNil)) (eFn reprD (aCons (eCall F_stand (aCons (eVar 3) (aCons (eOp addD (eVar 4) (eVar 5)) aNil))) aNil))))
      (sRet (eC (.bl false))) sNil)
      (sFrz 3 (sSeq (sIf (tst (eOp neD (eFn reprD (aCons (eCall F_undone (aCons (eOp ixD (eVar 10) (eC (.int 0))) aNil)) aNil)) (eFn reprD (aCons (eCall F_stand (aCons (eVar 3) (aCons (eLock (eUn revD (eVar 4))) aNil))) aNil))))
      (sRet (eC (.bl false))) sNil)
      (sFrz 10 (sSeq (sIf (tst (eOp neD (eComp (iA (eVar 10)) (.name 12) cYes (eLock (eFn listD (aCons (eVar 12) aNil))) [12]) (eLst (aCons (eLock (eFn listD (aCons (eVar 6) aNil))) (aCons (eLock (eFn listD (aCons (eVar 7) aNil))) aNil)))))
      (sRet (eC (.bl false))) sNil)
      (sFrz 1 (sSeq (sSet 11 (eFn tupleD (aCons (eCall F_shuffled (aCons (eVar 1) (aCons (eLock (eRgL (rg1 (eVar 3)))) aNil))) aNil)))
      (sFrz 3 (sIf (tOrF (tst (eOp neD (eCall F_order_of (aCons (eVar 3) (aCons (eLock (eCall F_form (aCons (eVar 11) aNil))) aNil))) (eVar 11))) (tst (eOp neD (eCall F_joined (aCons (eVar 11) (aCons (eLock (eCall F_undone (aCons (eVar 11) aNil))) aNil))) (eRgT (rg1 (eVar 3))))))
      (sRet (eC (.bl false))) sNil))))))))))))))))))))))))))))))))
      (sRet (eC (.bl true)))))))))))
-- _first_passes (k11)
def g__first_passes : Sx :=
  (sRet (eComp (iR1 (aCons (eOp subD (eFn lenD (aCons (eVar 0) aNil)) (eC (.int 1))) aNil)) (.name 1) (tst (eOp gtD (eIdx (eVar 0) (eVar 1)) (eIdx (eVar 0) (eOp addD (eVar 1) (eC (.int 1)))))) (eVar 1) [1]))
def F__first_passes : Fn := fnSem 2 1 g__first_passes
-- order_due (k11)
def g_order_due : Sx :=
  (sSeq (sIf (tOrF (tNotF (tTru (eUn (isiD ["list", "tuple"]) (eVar 0)))) (tNotF (tst (eChain ltD ltD (eC (.int 0)) (eFn lenD (aCons (eVar 0) aNil)) (eC (.int 61))))))
      (sRet (eUn negD (eC (.int 1)))) sNil)
      (sSeq (sFor (iR1 (aCons (eFn lenD (aCons (eVar 0) aNil)) aNil)) (.name 1)
      (sIf (tOrF (tNotF (tTru (eCall F_is_number (aCons (eOp ixD (eVar 0) (eVar 1)) (aCons (eC (.int 0)) (aCons (eOp subD (eFn lenD (aCons (eVar 0) aNil)) (eC (.int 1))) aNil)))))) (tst (eOp inD (eOp ixD (eVar 0) (eVar 1)) (eSl (eVar 0) oNone (oSome (eVar 1))))))
      (sRet (eVar 1)) sNil))
      (sRet (eC .non))))
def F_order_due : Fn := fnSem 2 1 g_order_due
-- told_form (k11)
def g_told_form : Sx :=
  (sSeq (sSet 1 (eCall F_order_taken (aCons (eVar 0) aNil)))
      (sSeq (sSet 2 (eLst aNil))
      (sFrz 4 (sSeq (sFor (iR2 (aCons (eC (.int 1)) (aCons (eFn lenD (aCons (eVar 1) aNil)) aNil))) (.name 3)
      (sSeq (sSet 4 (eSl (eVar 1) (oSome (eIdx (eVar 1) (eVar 3))) oNone))
      (sFrz 4 (sSeq (sSet 5 (eFn lenD (aCons (eComp (iA (eVar 4)) (.name 6) (tst (eOp ltD (eVar 6) (eVar 3))) (eVar 6) [6]) aNil)))
      (sOn 2 (eComp (iR2 (aCons (eC (.int 1)) (aCons (eOp addD (eVar 5) (eC (.int 1))) aNil))) (.name 7) cYes (eOp subD (eVar 3) (eVar 7)) [7]) extD)))))
      (sRet (eFn tupleD (aCons (eVar 2) aNil)))))))
def F_told_form : Fn := fnSem 8 1 g_told_form
-- _few_taken (k11)
def g__few_taken : Sx :=
  (sSeq (sSet 1 (eCall F_order_taken (aCons (eVar 0) aNil)))
      (sSeq (sIf (tst (eOp gtD (eFn lenD (aCons (eVar 1) aNil)) (eC (.int 7))))
      (fun _ => M.lift none) sNil)
      (sRet (eVar 1))))
def F__few_taken : Fn := fnSem 2 1 g__few_taken
-- law_k12_2 (k12)
def g_law_k12_2 : Sx :=
  (sFrz 1 (sFrz 3 (sFrz 4 (sFrz 9 (sFrz 10 (sSeq (sFor (iR1 (aCons (eC (.int 5)) aNil)) (.name 2)
      (sFrz 1 (sSeq (sSet 3 (eOp addD (eC (.int 2)) (eCall F_draw (aCons (eVar 1) (aCons (eOp ixD (eLst (aCons (eC (.int 4)) (aCons (eC (.int 9)) (aCons (eC (.int 59)) aNil)))) (eCall F_draw (aCons (eVar 1) (aCons (eC (.int 3)) aNil)))) aNil)))))
      (sFrz 1 (sFrz 3 (sSeq (sSet 4 (eComp (iR1 (aCons (eC (.int 3)) aNil)) (.name 12) cYes (eLock (eCall F_word (aCons (eVar 1) (aCons (eVar 3) (aCons (eC (.int 60)) aNil))))) [12]))
      (sFrz 3 (sFrz 4 (sSeq (sAsg (eLock (eComp (iA (eVar 4)) (.name 13) cYes (eLock (eCall F_order_of (aCons (eVar 3) (aCons (eVar 13) aNil)))) [13])) (.unl [(.name 5), (.name 6), (.name 7)]))
      (sFrz 3 (sSeq (sIf (tst (eOp neD (eCall F_order_of (aCons (eVar 3) (aCons (eOp addD (eOp ixD (eVar 4) (eC (.int 0))) (eOp ixD (eVar 4) (eC (.int 1)))) aNil))) (eCall F_joined (aCons (eVar 5) (aCons (eVar 6) aNil)))))
      (sRet (eC (.bl false))) sNil)
      (sSeq (sIf (tst (eOp neD (eCall F_joined (aCons (eLock (eCall F_joined (aCons (eVar 5) (aCons (eVar 6) aNil)))) (aCons (eVar 7) aNil))) (eCall F_joined (aCons (eVar 5) (aCons (eLock (eCall F_joined (aCons (eVar 6) (aCons (eVar 7) aNil)))) aNil)))))
      (sRet (eC (.bl false))) sNil)
      (sSeq (sSet 8 (eRgT (rg1 (eVar 3))))
      (sSeq (sIf (tOrF (tst (eOp neD (eCall F_joined (aCons (eVar 5) (aCons (eLock (eCall F_undone (aCons (eVar 5) aNil))) aNil))) (eVar 8))) (tOrF (tst (eOp neD (eCall F_joined (aCons (eLock (eCall F_undone (aCons (eVar 5) aNil))) (aCons (eVar 5) aNil))) (eVar 8))) (tst (eOp neD (eCall F_undone (aCons (eLock (eCall F_undone (aCons (eVar 5) aNil))) aNil)) (eVar 5)))))
      (sRet (eC (.bl false))) sNil)
      (sSeq (sIf (tst (eOp neD (eCall F_undone (aCons (eLock (eCall F_joined (aCons (eVar 5) (aCons (eVar 6) aNil)))) aNil)) (eCall F_joined (aCons (eLock (eCall F_undone (aCons (eVar 6) aNil))) (aCons (eLock (eCall F_undone (aCons (eVar 5) aNil))) aNil)))))
      (sRet (eC (.bl false))) sNil)
      (sFrz 3 (sSeq (sIf (tOrF (tst (eOp neD (eCall F_order_of (aCons (eVar 3) (aCons (eLock (eUn revD (eOp ixD (eVar 4) (eC (.int 0))))) aNil))) (eCall F_undone (aCons (eVar 5) aNil)))) (tst (eOp neD (eCall F_order_of (aCons (eVar 3) (aCons (eTup aNil) aNil))) (eVar 8))))
      (sRet (eC (.bl false))) sNil)
      (sFrz 1 (sSeq (sSet 9 (eCall F_names (aCons (eVar 1) (aCons (eLock (eOp addD (eC (.int 1)) (eCall F_draw (aCons (eVar 1) (aCons (eC (.int 6)) aNil))))) aNil))))
      (sFrz 9 (sSeq (sSet 10 (eCall tableG (aCons (eVar 9) (aCons (eLock (eComp (iA (eVar 9)) (.name 14) cYes (eLock (eComp (iA (eVar 9)) (.name 15) cYes (eTup (aCons (eVar 15) (aCons (eVar 14) aNil))) [15])) [14])) aNil))))
      (sFrz 1 (sFrz 9 (sSeq (sSet 11 (eFn tupleD (aCons (eComp (iR1 (aCons (eVar 3) aNil)) (.name 12) cYes (eLock (eCall F_pick (aCons (eVar 1) (aCons (eVar 9) aNil)))) [12]) aNil)))
      (sFrz 10 (sSeq (sIf (tst (eOp neD (eCall F_row_behind (aCons (eVar 10) (aCons (eVar 11) (aCons (eOp ixD (eVar 4) (eC (.int 0))) aNil)))) (eFn tupleD (aCons (eComp (iA (eVar 5)) (.name 16) cYes (eOp ixD (eVar 11) (eVar 16)) [16]) aNil))))
      (sRet (eC (.bl false))) sNil)
      (sFrz 10 (sIf (tst (eOp neD (eCall F_row_behind (aCons (eVar 10) (aCons (eLock (eCall F_row_behind (aCons (eVar 10) (aCons (eVar 11) (aCons (eOp ixD (eVar 4) (eC (.int 0))) aNil))))) (aCons (eOp ixD (eVar 4) (eC (.int 1))) aNil)))) (eFn tupleD (aCons (eComp (iA (eLock (eCall F_joined (aCons (eVar 5) (aCons (eVar 6) aNil))))) (.name 12) cYes (eOp ixD (eVar 11) (eVar 12)) [12]) aNil))))
      (sRet (eC (.bl false))) sNil))))))))))))))))))))))))))))
      (sRet (eC (.bl true)))))))))
-- met (k13)
def g_met : Sx :=
  (sSeq (sPar [2, 3] (aCons (eRgT (rg1 (eVar 0))) (aCons (eLst aNil) aNil)))
      (sSeq (sFor (iA (eVar 1)) (.name 4)
      (sSeq (sOn 3 (eTup (aCons (eOp ixD (eVar 2) (eVar 4)) (aCons (eOp ixD (eVar 2) (eOp addD (eVar 4) (eC (.int 1)))) aNil))) appD)
      (sSet 2 (eOp addD (eOp addD (eSl (eVar 2) oNone (oSome (eVar 4))) (eTup (aCons (eOp ixD (eVar 2) (eOp addD (eVar 4) (eC (.int 1)))) (aCons (eOp ixD (eVar 2) (eVar 4)) aNil)))) (eSl (eVar 2) (oSome (eOp addD (eVar 4) (eC (.int 2)))) oNone)))))
      (sRet (eVar 3))))
def F_met : Fn := fnSem 5 2 g_met
-- short_word (k13)
def g_short_word : Sx :=
  (sSeq (sPar [2, 3] (aCons (eFn listD (aCons (eVar 1) aNil)) (aCons (eLst aNil) aNil)))
      (sFrz 4 (sFrz 5 (whileF (tTru (eC (.bl true)))
      (sSeq (sSet 4 (eComp (iR1 (aCons (eOp subD (eFn lenD (aCons (eVar 2) aNil)) (eC (.int 1))) aNil)) (.name 6) (tst (eOp gtD (eOp ixD (eVar 2) (eVar 6)) (eOp ixD (eVar 2) (eOp addD (eVar 6) (eC (.int 1)))))) (eVar 6) [6]))
      (sSeq (sIf (tst (eOp eqD (eVar 4) (eLst aNil)))
      (sRet (eFn tupleD (aCons (eUn revD (eVar 3)) aNil))) sNil)
      (sFrz 4 (sSeq (sSet 5 (eCall F_pick (aCons (eVar 0) (aCons (eVar 4) aNil))))
      (sFrz 5 (sSeq (sOn 3 (eVar 5) appD)
      (sSet 2 (eOp addD (eOp addD (eSl (eVar 2) oNone (oSome (eVar 5))) (eLst (aCons (eOp ixD (eVar 2) (eOp addD (eVar 5) (eC (.int 1)))) (aCons (eOp ixD (eVar 2) (eVar 5)) aNil)))) (eSl (eVar 2) (oSome (eOp addD (eVar 5) (eC (.int 2)))) oNone))))))))) FUEL))))
def F_short_word : Fn := fnSem 7 2 g_short_word
-- who_pass (k13)
def g_who_pass : Sx :=
  (sSeq (sSet 2 (eRgL (rg1 (eCall F_places_taken (aCons (eVar 0) aNil)))))
      (sSeq (sSet 3 (eLst aNil))
      (sSeq (sFor (iA (eLock (eCall F_word_taken (aCons (eVar 0) (aCons (eVar 1) aNil))))) (.name 4)
      (sSeq (sPar [5, 6] (aCons (eOp ixD (eVar 2) (eVar 4)) (aCons (eOp ixD (eVar 2) (eOp addD (eVar 4) (eC (.int 1)))) aNil)))
      (sSeq (sOn 3 (eTup (aCons (eVar 5) (aCons (eVar 6) aNil))) appD)
      (sAsg (eTup (aCons (eVar 6) (aCons (eVar 5) aNil))) (.tup [(.sub 2 (eVar 4)), (.sub 2 (eOp addD (eVar 4) (eC (.int 1))))])))))
      (sRet (eVar 3)))))
def F_who_pass : Fn := fnSem 7 2 g_who_pass
-- some_word (k13)
def g_some_word : Sx :=
  (sSeq (sIf (tOrF (tst (eOp ltD (eVar 1) (eC (.int 2)))) (tst (eOp eqD (eCall F_draw (aCons (eVar 0) (aCons (eC (.int 3)) aNil))) (eC (.int 0)))))
      (sRet (eCall F_word (aCons (eVar 0) (aCons (eVar 1) (aCons (eOp ixD (eLst (aCons (eC (.int 60)) (aCons (eC (.int 2000)) aNil))) (eOp fdivD (eCall F_draw (aCons (eVar 0) (aCons (eC (.int 8)) aNil))) (eC (.int 7)))) aNil))))) sNil)
      (sSeq (sSet 2 (eRgL (rg1 (eVar 1))))
      (sSeq (sSet 3 (eCall F_draw (aCons (eVar 0) (aCons (eVar 1) aNil))))
      (sSeq (sSet 4 (eOp ixD (eLst (aCons (eC (.int 9)) (aCons (eC (.int 9)) (aCons (eC (.int 9)) (aCons (eC (.int 60)) aNil))))) (eCall F_draw (aCons (eVar 0) (aCons (eC (.int 4)) aNil)))))
      (sSeq (sSet 2 (eOp addD (eOp addD (eSl (eVar 2) oNone (oSome (eVar 3))) (eCall F_shuffled (aCons (eVar 0) (aCons (eLock (eSl (eVar 2) (oSome (eVar 3)) (oSome (eOp addD (eVar 3) (eVar 4))))) aNil)))) (eSl (eVar 2) (oSome (eOp addD (eVar 3) (eVar 4))) oNone)))
      (sSeq (sSet 5 (eCall F_short_word (aCons (eVar 0) (aCons (eFn tupleD (aCons (eVar 2) aNil)) aNil))))
      (sSeq (sPar [6, 7] (aCons (eCall F_draw (aCons (eVar 0) (aCons (eOp addD (eFn lenD (aCons (eVar 5) aNil)) (eC (.int 1))) aNil))) (aCons (eCall F_draw (aCons (eVar 0) (aCons (eC (.int 4)) aNil))) aNil)))
      (sSeq (sIf (tst (eOp eqD (eVar 7) (eC (.int 0))))
      (sRet (eOp addD (eOp addD (eSl (eVar 5) oNone (oSome (eVar 6))) (eTup (aCons (eLock (eCall F_draw (aCons (eVar 0) (aCons (eOp subD (eVar 1) (eC (.int 1))) aNil)))) aNil))) (eSl (eVar 5) (oSome (eVar 6)) oNone))) sNil)
      (sFrz 5 (sRet (eIf (tst (eOp eqD (eVar 7) (eC (.int 1)))) (eOp addD (eSl (eVar 5) oNone (oSome (eVar 6))) (eSl (eVar 5) (oSome (eOp addD (eVar 6) (eC (.int 1)))) oNone)) (eStill (eVar 5)))))))))))))
def F_some_word : Fn := fnSem 8 2 g_some_word
-- is_short (k13)
def g_is_short : Sx :=
  (sRet (eFn allD (aCons (eComp (iA (eLock (eCall F_who_pass (aCons (eVar 0) (aCons (eVar 1) aNil))))) (.tup [(.name 2), (.name 3)]) cYes (eOp ltD (eVar 2) (eVar 3)) [2, 3]) aNil)))
def F_is_short : Fn := fnSem 4 2 g_is_short
-- lis_short (k14)
def g_lis_short : Sx :=
  (sSeq (sPar [2, 3] (aCons (eRgL (rg1 (eVar 0))) (aCons (eLst aNil) aNil)))
      (sSeq (sFor (iA (eVar 1)) (.name 4)
      (sSeq (sSet 5 (eTup (aCons (eFn minD (aCons (eOp ixD (eVar 2) (eVar 4)) (aCons (eOp ixD (eVar 2) (eOp addD (eVar 4) (eC (.int 1)))) aNil))) (aCons (eFn maxD (aCons (eOp ixD (eVar 2) (eVar 4)) (aCons (eOp ixD (eVar 2) (eOp addD (eVar 4) (eC (.int 1)))) aNil))) aNil))))
      (sSeq (sIf (tst (eOp inD (eVar 5) (eVar 3)))
      (sRet (eC (.bl false))) sNil)
      (sSeq (sOn 3 (eVar 5) appD)
      (sSet 2 (eOp addD (eOp addD (eSl (eVar 2) oNone (oSome (eVar 4))) (eLst (aCons (eOp ixD (eVar 2) (eOp addD (eVar 4) (eC (.int 1)))) (aCons (eOp ixD (eVar 2) (eVar 4)) aNil)))) (eSl (eVar 2) (oSome (eOp addD (eVar 4) (eC (.int 2)))) oNone)))))))
      (sRet (eC (.bl true)))))
def F_lis_short : Fn := fnSem 6 2 g_lis_short
-- some_order (k14)
def g_some_order : Sx :=
  (sSeq (sPar [2, 3] (aCons (eRgL (rg1 (eVar 1))) (aCons (eCall F_draw (aCons (eVar 0) (aCons (eVar 1) aNil))) aNil)))
      (sSeq (sSet 4 (eCall F_draw (aCons (eVar 0) (aCons (eC (.int 5)) aNil))))
      (sSeq (sIf (tst (eOp eqD (eVar 4) (eC (.int 0))))
      (sRet (eFn tupleD (aCons (eUn revD (eVar 2)) aNil))) sNil)
      (sSeq (sIf (tst (eOp eqD (eVar 4) (eC (.int 1))))
      (sRet (eFn tupleD (aCons (eVar 2) aNil))) sNil)
      (sSeq (sIf (tst (eOp eqD (eVar 4) (eC (.int 2))))
      (sRet (eFn tupleD (aCons (eOp addD (eOp addD (eSl (eVar 2) oNone (oSome (eVar 3))) (eSl (eVar 2) (oSome (eOp addD (eVar 3) (eC (.int 1)))) oNone)) (eSl (eVar 2) (oSome (eVar 3)) (oSome (eOp addD (eVar 3) (eC (.int 1)))))) aNil))) sNil)
      (sSeq (sIf (tst (eOp eqD (eVar 4) (eC (.int 3))))
      (sRet (eFn tupleD (aCons (eOp addD (eOp addD (eSl (eVar 2) (oSome (eVar 3)) (oSome (eOp addD (eVar 3) (eC (.int 1))))) (eSl (eVar 2) oNone (oSome (eVar 3)))) (eSl (eVar 2) (oSome (eOp addD (eVar 3) (eC (.int 1)))) oNone)) aNil))) sNil)
      (sFrz 2 (sRet (eFn tupleD (aCons (eCall F_shuffled (aCons (eVar 0) (aCons (eVar 2) aNil))) aNil))))))))))
def F_some_order : Fn := fnSem 5 2 g_some_order
-- _makes (k16)
def g__makes : Sx :=
  (sSeq (sSet 2 (eFn lenD (aCons (eVar 0) aNil)))
      (sRet (eAnd (eOp isN (eCall F_word_fault (aCons (eVar 2) (aCons (eVar 1) aNil))) (eC .non)) (eAnd (eCall F_is_short (aCons (eVar 2) (aCons (eVar 1) aNil))) (eOp eqD (eCall F_order_of (aCons (eVar 2) (aCons (eVar 1) aNil))) (eVar 0))))))
def F__makes : Fn := fnSem 3 2 g__makes
-- mirrored (k17)
def g_mirrored : Sx :=
  (sRet (eFn tupleD (aCons (eComp (iA (eLock (eUn revD (eVar 0)))) (.name 1) cYes (eOp subD (eOp subD (eFn lenD (aCons (eVar 0) aNil)) (eC (.int 1))) (eVar 1)) [1]) aNil)))
def F_mirrored : Fn := fnSem 2 1 g_mirrored
-- _lengthened (k18)
def g__lengthened : Sx :=
  (sRet (eOp addD (eVar 0) (eOp mulD (eSl (eVar 0) (oSome (eUn negD (eC (.int 1)))) oNone) (eOp subD (eVar 1) (eFn lenD (aCons (eVar 0) aNil))))))
def F__lengthened : Fn := fnSem 2 2 g__lengthened
-- twice_wrong (k18)
def g_twice_wrong : Sx :=
  (sSeq (sFor (iR1 (aCons (eFn lenD (aCons (eVar 0) aNil)) aNil)) (.name 1)
      (sFor (iR1 (aCons (eFn lenD (aCons (eVar 0) aNil)) aNil)) (.name 2)
      (sIf (tst (eOp neD (eCall F_gone (aCons (eVar 0) (aCons (eTup (aCons (eVar 1) (aCons (eVar 2) aNil))) (aCons (eTup (aCons (eC (.int 0)) (aCons (eC (.int 0)) aNil))) aNil)))) (eTup (aCons (eVar 1) (aCons (eVar 2) aNil)))))
      (sRet (eTup (aCons (eVar 1) (aCons (eVar 2) aNil)))) sNil)))
      (sRet (eC .non)))
def F_twice_wrong : Fn := fnSem 3 1 g_twice_wrong
-- parts (k18)
def g_parts : Sx :=
  (sSeq (sIf (tOrF (tNotF (tTru (eUn (isiD ["tuple"]) (eVar 2)))) (tOrF (tst (eOp neD (eFn lenD (aCons (eVar 2) aNil)) (eC (.int 3)))) (tst (eOp neD (eComp (iA (eVar 2)) (.name 9) (tNotF (tTru (eUn (isiD ["tuple"]) (eVar 9)))) (eVar 9) [9]) (eLst aNil)))))
      (sRet (eC (.bl false))) sNil)
      (sSeq (sPar [4, 5] (aCons (eOp ixD (eVar 2) (eC (.int 0))) (aCons (eFn lenD (aCons (eOp ixD (eVar 2) (eC (.int 0))) aNil)) aNil)))
      (sSeq (sSet 6 (eComp (iA (eVar 4)) (.name 10) (tOrF (tNotF (tTru (eUn (isiD ["str"]) (eVar 10)))) (tst (eOp notInD (eVar 10) (eVar 0)))) (eVar 10) [10]))
      (sSeq (sIf (tOrF (tNotF (tst (eChain ltD ltD (eC (.int 0)) (eVar 5) (eC (.int 61))))) (tst (eOp neD (eVar 6) (eLst aNil))))
      (sRet (eC (.bl false))) sNil)
      (sSeq (sFor (iA (eLock (eSl (eVar 2) (oSome (eC (.int 1))) oNone))) (.name 7)
      (sSeq (sIf (tOrF (tst (eOp gtD (eFn lenD (aCons (eVar 7) aNil)) (eC (.int 2000)))) (tst (eOp neD (eComp (iA (eVar 7)) (.name 11) (tNotF (tTru (eCall F_is_number (aCons (eVar 11) (aCons (eC (.int 0)) (aCons (eOp subD (eVar 5) (eC (.int 2))) aNil)))))) (eVar 11) [11]) (eLst aNil))))
      (sRet (eC (.bl false))) sNil)
      (sIf (tAndF (tTru (eVar 3)) (tNotF (tTru (eCall F_lis_short (aCons (eVar 5) (aCons (eVar 7) aNil))))))
      (sRet (eC (.bl false))) sNil)))
      (sSeq (sIf (tst (eOp neD (eCall F_stand (aCons (eVar 5) (aCons (eOp ixD (eVar 2) (eC (.int 1))) aNil))) (eCall F_stand (aCons (eVar 5) (aCons (eOp ixD (eVar 2) (eC (.int 2))) aNil)))))
      (sRet (eC (.bl false))) sNil)
      (sSeq (sSet 8 (eComp (iA (eVar 4)) (.name 10) cYes (eIdx (eVar 0) (eVar 10)) [10]))
      (sFrz 8 (sRet (eOp neD (eCall F_gone (aCons (eVar 1) (aCons (eVar 8) (aCons (eOp ixD (eVar 2) (eC (.int 1))) aNil)))) (eCall F_gone (aCons (eVar 1) (aCons (eVar 8) (aCons (eOp ixD (eVar 2) (eC (.int 2))) aNil))))))))))))))
def F_parts : Fn := fnSem 12 4 g_parts
-- _has_form (k18)
def g__has_form : Sx :=
  (sSeq (sIf (tOrF (tNotF (tTru (eUn (isiD ["tuple"]) (eVar 1)))) (tst (eOp neD (eFn lenD (aCons (eVar 1) aNil)) (eC (.int 3)))))
      (sRet (eC (.bl false))) sNil)
      (sSeq (sIf (tNotF (tTru (eFn allD (aCons (eComp (iA (eVar 1)) (.name 5) cYes (eUn (isiD ["tuple"]) (eVar 5)) [5]) aNil))))
      (sRet (eC (.bl false))) sNil)
      (sSeq (sAsg (eVar 1) (.tup [(.name 2), (.name 3), (.name 4)]))
      (sSeq (sIf (tst (eOp notN (eCall F_row_fault (aCons (eVar 0) (aCons (eVar 2) aNil))) (eC .non)))
      (sRet (eC (.bl false))) sNil)
      (sRet (eAnd (eOp isN (eCall F_word_fault (aCons (eFn lenD (aCons (eVar 2) aNil)) (aCons (eVar 3) aNil))) (eC .non)) (eOp isN (eCall F_word_fault (aCons (eFn lenD (aCons (eVar 2) aNil)) (aCons (eVar 4) aNil))) (eC .non))))))))
def F__has_form : Fn := fnSem 6 2 g__has_form
-- short_parting (k18)
def g_short_parting : Sx :=
  (sSeq (sDrop (eCall F_number_taken (aCons (eVar 1) (aCons (eC (.int 3)) (aCons (eC (.int 60)) aNil)))))
      (sSeq (sSet 2 (eCall F_three_fault (aCons (eVar 0) aNil)))
      (sSeq (sIf (tst (eOp isN (eVar 2) (eC .non)))
      (sRet (eC .non)) sNil)
      (sFrz 2 (sRet (eTup (aCons (eLock (eCall F__lengthened (aCons (eVar 2) (aCons (eVar 1) aNil)))) (aCons (eTup (aCons (eC (.int 0)) (aCons (eC (.int 1)) (aCons (eC (.int 0)) aNil)))) (aCons (eTup (aCons (eC (.int 1)) (aCons (eC (.int 0)) (aCons (eC (.int 1)) aNil)))) aNil)))))))))
def F_short_parting : Fn := fnSem 3 2 g_short_parting
-- shows_parting (k18)
def g_shows_parting : Sx :=
  (sSeq (sIf (tNotF (tTru (eCall F__has_form (aCons (eVar 0) (aCons (eVar 1) aNil)))))
      (sRet (eC (.bl false))) sNil)
      (sSeq (sAsg (eVar 1) (.tup [(.name 2), (.name 3), (.name 4)]))
      (sSeq (sIf (tst (eOp neD (eCall F_order_of (aCons (eFn lenD (aCons (eVar 2) aNil)) (aCons (eVar 3) aNil))) (eCall F_order_of (aCons (eFn lenD (aCons (eVar 2) aNil)) (aCons (eVar 4) aNil)))))
      (sRet (eC (.bl false))) sNil)
      (sRet (eOp neD (eCall F_row_behind (aCons (eVar 0) (aCons (eVar 2) (aCons (eVar 3) aNil)))) (eCall F_row_behind (aCons (eVar 0) (aCons (eVar 2) (aCons (eVar 4) aNil)))))))))
def F_shows_parting : Fn := fnSem 5 2 g_shows_parting
-- shows_short_parting (k18)
def g_shows_short_parting : Sx :=
  (sRet (eAnd (eCall F_shows_parting (aCons (eVar 0) (aCons (eVar 1) aNil))) (eFn allD (aCons (eComp (iA (eLock (eSl (eVar 1) (oSome (eC (.int 1))) oNone))) (.name 2) cYes (eLock (eCall F_is_short (aCons (eFn lenD (aCons (eOp ixD (eVar 1) (eC (.int 0))) aNil)) (aCons (eVar 2) aNil)))) [2]) aNil))))
def F_shows_short_parting : Fn := fnSem 3 2 g_shows_short_parting
-- _are_far (k20)
def g__are_far : Sx :=
  (sRet (eAnd (eOp geD (eFn lenD (aCons (eVar 0) aNil)) (eC (.int 2))) (eOp geD (eFn absD (aCons (eOp subD (eOp ixD (eVar 0) (eC (.int 0))) (eOp ixD (eVar 0) (eC (.int 1)))) aNil)) (eC (.int 2)))))
def F__are_far : Fn := fnSem 1 1 g__are_far
-- _are_three (k20)
def g__are_three : Sx :=
  (sRet (eAnd (eOp geD (eFn lenD (aCons (eVar 0) aNil)) (eC (.int 3))) (eAnd (eOp eqD (eOp ixD (eVar 0) (eC (.int 0))) (eOp ixD (eVar 0) (eC (.int 2)))) (eOp eqD (eFn absD (aCons (eOp subD (eOp ixD (eVar 0) (eC (.int 0))) (eOp ixD (eVar 0) (eC (.int 1)))) aNil)) (eC (.int 1))))))
def F__are_three : Fn := fnSem 1 1 g__are_three
-- _has_form_2 (k20)
def g__has_form_2 : Sx :=
  (sSeq (sIf (tOrF (tNotF (tTru (eUn (isiD ["tuple"]) (eVar 2)))) (tOrF (tst (eOp ltD (eFn lenD (aCons (eVar 2) aNil)) (eC (.int 2)))) (tNotF (tTru (eCall F_is_number (aCons (eOp ixD (eVar 2) (eC (.int 1))) (aCons (eC (.int 0)) (aCons (eFn lenD (aCons (eVar 1) aNil)) aNil))))))))
      (sRet (eC (.bl false))) sNil)
      (sSeq (sIf (tst (eOp eqD (eOp ixD (eVar 2) (eC (.int 0))) (eC (.str "in"))))
      (sRet (eAnd (eOp eqD (eFn lenD (aCons (eVar 2) aNil)) (eC (.int 3))) (eCall F_is_number (aCons (eOp ixD (eVar 2) (eC (.int 2))) (aCons (eC (.int 0)) (aCons (eOp subD (eVar 0) (eC (.int 2))) aNil)))))) sNil)
      (sRet (eOp eqD (eFn lenD (aCons (eVar 2) aNil)) (eC (.int 2))))))
def F__has_form_2 : Fn := fnSem 3 3 g__has_form_2
-- lbehind_rung (k20)
def g_lbehind_rung : Sx :=
  (sSeq (sIf (tOrF (tNotF (tTru (eUn (isiD ["tuple"]) (eVar 2)))) (tOrF (tNotF (tst (eChain leD leD (eC (.int 2)) (eFn lenD (aCons (eVar 2) aNil)) (eC (.int 3))))) (tNotF (tTru (eUn (isiD ["str"]) (eOp ixD (eVar 2) (eC (.int 0))))))))
      (sRet (eC .non)) sNil)
      (sSeq (sIf (tst (eOp neD (eComp (iA (eLock (eSl (eVar 2) (oSome (eC (.int 1))) oNone))) (.name 8) (tNotF (tTru (eCall F_is_number (aCons (eVar 8) (aCons (eC (.int 0)) (aCons (eC (.int 3000)) aNil)))))) (eVar 8) [8]) (eLst aNil)))
      (sRet (eC .non)) sNil)
      (sSeq (sPar [3, 4, 5] (aCons (eOp ixD (eVar 2) (eC (.int 1))) (aCons (eSl (eVar 1) oNone (oSome (eOp ixD (eVar 2) (eC (.int 1))))) (aCons (eFn lenD (aCons (eVar 1) aNil)) aNil))))
      (sSeq (sIf (tAndF (tst (eOp eqD (eOp ixD (eVar 2) (eC (.int 0))) (eC (.str "in")))) (tst (eOp eqD (eFn lenD (aCons (eVar 2) aNil)) (eC (.int 3)))))
      (sRet (eIf (tAndF (tst (eOp leD (eVar 3) (eVar 5))) (tst (eOp ltD (eOp ixD (eVar 2) (eC (.int 2))) (eOp subD (eVar 0) (eC (.int 1)))))) (eOp addD (eOp addD (eVar 4) (eTup (aCons (eOp ixD (eVar 2) (eC (.int 2))) (aCons (eOp ixD (eVar 2) (eC (.int 2))) aNil)))) (eSl (eVar 1) (oSome (eVar 3)) oNone)) (eC .non))) sNil)
      (sSeq (sIf (tOrF (tst (eOp eqD (eFn lenD (aCons (eVar 2) aNil)) (eC (.int 3)))) (tst (eOp gtD (eOp addD (eVar 3) (eC (.int 2))) (eVar 5))))
      (sRet (eC .non)) sNil)
      (sSeq (sAsg (eLock (eSl (eVar 1) (oSome (eVar 3)) (oSome (eOp addD (eVar 3) (eC (.int 2)))))) (.tup [(.name 6), (.name 7)]))
      (sSeq (sIf (tst (eOp eqD (eOp ixD (eVar 2) (eC (.int 0))) (eC (.str "far"))))
      (sRet (eIf (tOrF (tst (eOp gtD (eOp subD (eVar 6) (eVar 7)) (eC (.int 1)))) (tst (eOp gtD (eOp subD (eVar 7) (eVar 6)) (eC (.int 1))))) (eOp addD (eOp addD (eVar 4) (eTup (aCons (eVar 7) (aCons (eVar 6) aNil)))) (eSl (eVar 1) (oSome (eOp addD (eVar 3) (eC (.int 2)))) oNone)) (eC .non))) sNil)
      (sSeq (sIf (tst (eOp eqD (eOp ixD (eVar 2) (eC (.int 0))) (eC (.str "out"))))
      (sRet (eIf (tst (eOp eqD (eVar 6) (eVar 7))) (eOp addD (eVar 4) (eSl (eVar 1) (oSome (eOp addD (eVar 3) (eC (.int 2)))) oNone)) (eC .non))) sNil)
      (sSeq (sIf (tOrF (tst (eOp neD (eOp ixD (eVar 2) (eC (.int 0))) (eC (.str "turn")))) (tOrF (tst (eOp gtD (eOp addD (eVar 3) (eC (.int 3))) (eVar 5))) (tOrF (tst (eOp neD (eOp ixD (eVar 1) (eOp addD (eVar 3) (eC (.int 2)))) (eVar 6))) (tst (eOp notInD (eOp subD (eVar 6) (eVar 7)) (eTup (aCons (eC (.int 1)) (aCons (eUn negD (eC (.int 1))) aNil))))))))
      (sRet (eC .non)) sNil)
      (sRet (eOp addD (eOp addD (eVar 4) (eTup (aCons (eVar 7) (aCons (eVar 6) (aCons (eVar 7) aNil))))) (eSl (eVar 1) (oSome (eOp addD (eVar 3) (eC (.int 3)))) oNone))))))))))))
def F_lbehind_rung : Fn := fnSem 9 3 g_lbehind_rung
-- behind_rung (k20)
def g_behind_rung : Sx :=
  (sSeq (sIf (tNotF (tTru (eCall F__has_form_2 (aCons (eVar 0) (aCons (eVar 1) (aCons (eVar 2) aNil))))))
      (sRet (eC .non)) sNil)
      (sSeq (sSet 3 (eOp ixD (eVar 2) (eC (.int 1))))
      (sSeq (sPar [4, 5] (aCons (eSl (eVar 1) oNone (oSome (eVar 3))) (aCons (eSl (eVar 1) (oSome (eVar 3)) oNone) aNil)))
      (sSeq (sIf (tst (eOp eqD (eOp ixD (eVar 2) (eC (.int 0))) (eC (.str "in"))))
      (sRet (eOp addD (eOp addD (eVar 4) (eTup (aCons (eOp ixD (eVar 2) (eC (.int 2))) (aCons (eOp ixD (eVar 2) (eC (.int 2))) aNil)))) (eVar 5))) sNil)
      (sFrz 5 (sSeq (sIf (tAndF (tst (eOp eqD (eOp ixD (eVar 2) (eC (.int 0))) (eC (.str "far")))) (tTru (eCall F__are_far (aCons (eVar 5) aNil))))
      (sRet (eOp addD (eOp addD (eVar 4) (eTup (aCons (eOp ixD (eVar 5) (eC (.int 1))) (aCons (eOp ixD (eVar 5) (eC (.int 0))) aNil)))) (eSl (eVar 5) (oSome (eC (.int 2))) oNone))) sNil)
      (sFrz 5 (sSeq (sIf (tAndF (tst (eOp eqD (eOp ixD (eVar 2) (eC (.int 0))) (eC (.str "turn")))) (tTru (eCall F__are_three (aCons (eVar 5) aNil))))
      (sRet (eOp addD (eOp addD (eVar 4) (eTup (aCons (eOp ixD (eVar 5) (eC (.int 1))) (aCons (eOp ixD (eVar 5) (eC (.int 0))) (aCons (eOp ixD (eVar 5) (eC (.int 1))) aNil))))) (eSl (eVar 5) (oSome (eC (.int 3))) oNone))) sNil)
      (sSeq (sIf (tAndF (tst (eOp eqD (eOp ixD (eVar 2) (eC (.int 0))) (eC (.str "out")))) (tAndF (tst (eOp geD (eFn lenD (aCons (eVar 5) aNil)) (eC (.int 2)))) (tst (eOp eqD (eOp ixD (eVar 5) (eC (.int 0))) (eOp ixD (eVar 5) (eC (.int 1)))))))
      (sRet (eOp addD (eVar 4) (eSl (eVar 5) (oSome (eC (.int 2))) oNone))) sNil)
      (sRet (eC .non)))))))))))
def F_behind_rung : Fn := fnSem 6 3 g_behind_rung
-- rich_word (k20)
def g_rich_word : Sx :=
  (sSeq (sSet 2 (eCall F_word (aCons (eVar 0) (aCons (eVar 1) (aCons (eC (.int 14)) aNil)))))
      (sFrz 5 (sSeq (sFor (iR1 (aCons (eOp mulD (eCall F_draw (aCons (eVar 0) (aCons (eC (.int 4)) aNil))) (eFn intD (aCons (eOp gtD (eVar 1) (eC (.int 2))) aNil))) aNil)) (.name 3)
      (sSeq (sPar [4, 5] (aCons (eCall F_draw (aCons (eVar 0) (aCons (eOp addD (eFn lenD (aCons (eVar 2) aNil)) (eC (.int 1))) aNil))) (aCons (eCall F_draw (aCons (eVar 0) (aCons (eOp subD (eVar 1) (eC (.int 2))) aNil))) aNil)))
      (sFrz 5 (sSeq (sSet 6 (eCall F_pick (aCons (eVar 0) (aCons (eLock (eLst (aCons (eTup (aCons (eVar 5) (aCons (eOp addD (eVar 5) (eC (.int 1))) (aCons (eVar 5) aNil)))) (aCons (eTup (aCons (eOp addD (eVar 5) (eC (.int 1))) (aCons (eVar 5) (aCons (eOp addD (eVar 5) (eC (.int 1))) aNil)))) (aCons (eTup (aCons (eVar 5) (aCons (eVar 5) aNil))) aNil))))) aNil))))
      (sSet 2 (eOp addD (eOp addD (eSl (eVar 2) oNone (oSome (eVar 4))) (eVar 6)) (eSl (eVar 2) (oSome (eVar 4)) oNone)))))))
      (sRet (eVar 2)))))
def F_rich_word : Fn := fnSem 7 2 g_rich_word
-- rung_taken (k20)
def g_rung_taken : Sx :=
  (sSeq (sSet 3 (eCall F_behind_rung (aCons (eVar 0) (aCons (eVar 1) (aCons (eVar 2) aNil)))))
      (sSeq (sIf (tst (eOp isN (eVar 3) (eC .non)))
      (fun _ => M.lift none) sNil)
      (sRet (eVar 3))))
def F_rung_taken : Fn := fnSem 4 3 g_rung_taken
-- rung_done (k20)
def g_rung_done : Sx :=
  (sSeq (sDrop (eCall F_places_taken (aCons (eVar 0) aNil)))
      (sRet (eCall F_rung_taken (aCons (eVar 0) (aCons (eLock (eCall F_word_taken (aCons (eVar 0) (aCons (eVar 1) aNil)))) (aCons (eVar 2) aNil))))))
def F_rung_done : Fn := fnSem 3 3 g_rung_done
-- back (k21)
def g_back : Sx :=
  (sSeq (sIf (tst (eOp eqD (eOp ixD (eVar 1) (eC (.int 0))) (eC (.str "out"))))
      (sRet (eTup (aCons (eC (.str "in")) (aCons (eOp ixD (eVar 1) (eC (.int 1))) (aCons (eOp ixD (eVar 0) (eOp ixD (eVar 1) (eC (.int 1)))) aNil))))) sNil)
      (sRet (eIf (tst (eOp eqD (eOp ixD (eVar 1) (eC (.int 0))) (eC (.str "in")))) (eTup (aCons (eC (.str "out")) (aCons (eOp ixD (eVar 1) (eC (.int 1))) aNil))) (eVar 1))))
def F_back : Fn := fnSem 2 2 g_back
-- leads (k22)
def g_leads : Sx :=
  (sSeq (sIf (tOrF (tNotF (tTru (eUn (isiD ["list"]) (eVar 3)))) (tst (eOp gtD (eFn lenD (aCons (eVar 3) aNil)) (eC (.int 2400)))))
      (sRet (eC (.bl false))) sNil)
      (sFrz 1 (sSeq (sFor (iA (eVar 3)) (.name 5)
      (sFrz 1 (sSeq (sSet 1 (eCall F_lbehind_rung (aCons (eVar 0) (aCons (eVar 1) (aCons (eVar 5) aNil)))))
      (sIf (tOrF (tst (eOp isN (eVar 1) (eC .non))) (tAndF (tTru (eVar 4)) (tst (eOp notInD (eOp ixD (eVar 5) (eC (.int 0))) (eTup (aCons (eC (.str "far")) (aCons (eC (.str "turn")) aNil)))))))
      (sRet (eC (.bl false))) sNil))))
      (sRet (eOp eqD (eVar 1) (eVar 2))))))
def F_leads : Fn := fnSem 6 5 g_leads
-- alike_words (k22)
def g_alike_words : Sx :=
  (sSeq (sSet 2 (eCall F_word (aCons (eVar 0) (aCons (eVar 1) (aCons (eC (.int 12)) aNil)))))
      (sFrz 2 (sSeq (sSet 3 (eCall F_stand (aCons (eVar 1) (aCons (eVar 2) aNil))))
      (sFrz 2 (sFrz 3 (sSeq (sSet 4 (eLst (aCons (eVar 2) (aCons (eLock (eCall F_form (aCons (eVar 3) aNil))) (aCons (eLock (eCall F_short_word (aCons (eVar 0) (aCons (eVar 3) aNil)))) (aCons (eLock (eCall F_short_word (aCons (eVar 0) (aCons (eVar 3) aNil)))) aNil))))))
      (sFrz 6 (sSeq (sIf (tst (eOp gtD (eVar 1) (eC (.int 1))))
      (sSeq (sPar [5, 6] (aCons (eCall F_draw (aCons (eVar 0) (aCons (eOp addD (eFn lenD (aCons (eVar 2) aNil)) (eC (.int 1))) aNil))) (aCons (eCall F_draw (aCons (eVar 0) (aCons (eOp subD (eVar 1) (eC (.int 1))) aNil))) aNil)))
      (sFrz 6 (sOn 4 (eLock (eOp addD (eOp addD (eSl (eVar 2) oNone (oSome (eVar 5))) (eTup (aCons (eVar 6) (aCons (eVar 6) aNil)))) (eSl (eVar 2) (oSome (eVar 5)) oNone))) appD))) sNil)
      (sFrz 4 (sRet (eLst (aCons (eLock (eCall F_pick (aCons (eVar 0) (aCons (eVar 4) aNil)))) (aCons (eLock (eCall F_pick (aCons (eVar 0) (aCons (eVar 4) aNil)))) aNil)))))))))))))
def F_alike_words : Fn := fnSem 7 2 g_alike_words
-- ends_taken (k22)
def g_ends_taken : Sx :=
  (sSeq (sDrop (eCall F_number_taken (aCons (eVar 0) (aCons (eC (.int 1)) (aCons (eC (.int 8)) aNil)))))
      (sSeq (sSet 3 (eCall F_word_taken (aCons (eVar 0) (aCons (eVar 1) aNil))))
      (sSeq (sSet 4 (eCall F_word_taken (aCons (eVar 0) (aCons (eVar 2) aNil))))
      (sSeq (sIf (tst (eOp gtD (eFn maxD (aCons (eFn lenD (aCons (eVar 3) aNil)) (aCons (eFn lenD (aCons (eVar 4) aNil)) aNil))) (eC (.int 40))))
      (fun _ => M.lift none) sNil)
      (sFrz 3 (sFrz 4 (sSeq (sIf (tst (eOp neD (eCall F_order_of (aCons (eVar 0) (aCons (eVar 3) aNil))) (eCall F_order_of (aCons (eVar 0) (aCons (eVar 4) aNil)))))
      (fun _ => M.lift none) sNil)
      (sFrz 3 (sFrz 4 (sRet (eTup (aCons (eVar 3) (aCons (eVar 4) aNil)))))))))))))
def F_ends_taken : Fn := fnSem 5 3 g_ends_taken
-- _row_made (k24)
def g__row_made : Sx :=
  (sFrz 1 (sSeq (sFor (iA (eVar 2)) (.name 3)
      (sFrz 1 (sSet 1 (eCall F_pass_done (aCons (eVar 0) (aCons (eVar 1) (aCons (eVar 3) aNil)))))))
      (sRet (eVar 1))))
def F__row_made : Fn := fnSem 4 3 g__row_made
-- due_2 (k24)
def g_due_2 : Sx :=
  (sSeq (sIf (tNotF (tTru (eUn (isiD ["list", "tuple"]) (eVar 3))))
      (sRet (eTup (aCons (eC (.str "rung")) (aCons (eUn negD (eC (.int 1))) aNil)))) sNil)
      (sSeq (sPar [4, 5] (aCons (eLst aNil) (aCons (eFn lenD (aCons (eVar 1) aNil)) aNil)))
      (sFrz 7 (sSeq (sFor (iR1 (aCons (eFn lenD (aCons (eVar 3) aNil)) aNil)) (.name 6)
      (sSeq (sSet 7 (eCall F_lbehind_rung (aCons (eVar 5) (aCons (eVar 2) (aCons (eOp ixD (eVar 3) (eVar 6)) aNil)))))
      (sSeq (sIf (tst (eOp isN (eVar 7) (eC .non)))
      (sRet (eTup (aCons (eC (.str "rung")) (aCons (eOp ixD (eVar 3) (eVar 6)) aNil)))) sNil)
      (sFrz 7 (sSeq (sIf (tst (eOp neD (eCall F_gone (aCons (eVar 0) (aCons (eVar 1) (aCons (eVar 7) aNil)))) (eCall F_gone (aCons (eVar 0) (aCons (eVar 1) (aCons (eVar 2) aNil))))))
      (sOn 4 (eVar 6) appD) sNil)
      (sFrz 7 (sSet 2 (eStill (eVar 7)))))))))
      (sRet (eLst (aCons (eOp ixD (eOp addD (eVar 4) (eLst (aCons (eC .non) aNil))) (eC (.int 0))) aNil)))))))
def F_due_2 : Fn := fnSem 8 4 g_due_2
-- rungs (k24)
def g_rungs : Sx :=
  (sSeq (sSet 3 (eLst aNil))
      (sFrz 5 (sFrz 7 (sFrz 8 (sFrz 9 (sSeq (sFor (iR1 (aCons (eCall F_draw (aCons (eVar 0) (aCons (eC (.int 11)) aNil))) aNil)) (.name 4)
      (sSeq (sSet 5 (eCall F_draw (aCons (eVar 0) (aCons (eOp addD (eFn lenD (aCons (eVar 2) aNil)) (eC (.int 1))) aNil))))
      (sFrz 5 (sSeq (sSet 6 (eLst (aCons (eTup (aCons (eC (.str "far")) (aCons (eVar 5) aNil))) (aCons (eTup (aCons (eC (.str "turn")) (aCons (eVar 5) aNil))) (aCons (eTup (aCons (eC (.str "out")) (aCons (eVar 5) aNil))) aNil)))))
      (sFrz 5 (sSeq (sOn 6 (eTup (aCons (eC (.str "in")) (aCons (eVar 5) (aCons (eLock (eCall F_draw (aCons (eVar 0) (aCons (eFn maxD (aCons (eC (.int 1)) (aCons (eOp subD (eVar 1) (eC (.int 1))) aNil))) aNil)))) aNil)))) appD)
      (sFrz 6 (sFrz 8 (sSeq (sSet 7 (eComp (iA (eVar 6)) (.name 8) (tst (eOp notN (eCall F_lbehind_rung (aCons (eVar 1) (aCons (eVar 2) (aCons (eVar 8) aNil)))) (eC .non))) (eVar 8) [8]))
      (sFrz 6 (sFrz 7 (sSeq (sSet 8 (eIf (tAndF (tst (eOp neD (eVar 7) (eLst aNil))) (tst (eOp gtD (eCall F_draw (aCons (eVar 0) (aCons (eC (.int 12)) aNil))) (eC (.int 0))))) (eCall F_pick (aCons (eVar 0) (aCons (eVar 7) aNil))) (eCall F_pick (aCons (eVar 0) (aCons (eVar 6) aNil)))))
      (sFrz 8 (sSeq (sSet 9 (eCall F_lbehind_rung (aCons (eVar 1) (aCons (eVar 2) (aCons (eVar 8) aNil)))))
      (sFrz 9 (sSeq (sSet 2 (eStill (eIf (tst (eOp isN (eVar 9) (eC .non))) (eVar 2) (eVar 9))))
      (sFrz 8 (sOn 3 (eVar 8) appD))))))))))))))))))
      (sRet (eVar 3))))))))
def F_rungs : Fn := fnSem 10 3 g_rungs
-- first_unkept (k24)
def g_first_unkept : Sx :=
  (sSeq (sSet 4 (eCall F_row_taken (aCons (eVar 0) (aCons (eVar 1) aNil))))
      (sSeq (sSet 5 (eCall F_word_taken (aCons (eFn lenD (aCons (eVar 4) aNil)) (aCons (eVar 2) aNil))))
      (sSeq (sIf (tNotF (tTru (eCall F_is_listing (aCons (eVar 3) aNil))))
      (fun _ => M.lift none) sNil)
      (sFrz 4 (sFrz 5 (sSeq (sSet 6 (eCall F__row_made (aCons (eVar 0) (aCons (eVar 4) (aCons (eVar 5) aNil)))))
      (sSeq (sSet 7 (eC .non))
      (sFrz 4 (sFrz 5 (sSeq (sFor (iE (aCons (eVar 3) aNil)) (.tup [(.name 8), (.name 9)])
      (sFrz 5 (sSeq (sSet 5 (eCall F_rung_taken (aCons (eFn lenD (aCons (eVar 4) aNil)) (aCons (eVar 5) (aCons (eVar 9) aNil)))))
      (sFrz 4 (sFrz 5 (sIf (tAndF (tst (eOp isN (eVar 7) (eC .non))) (tst (eOp neD (eCall F__row_made (aCons (eVar 0) (aCons (eVar 4) (aCons (eVar 5) aNil)))) (eVar 6))))
      (sSet 7 (eStill (eVar 8))) sNil))))))
      (sRet (eVar 7))))))))))))
def F_first_unkept : Fn := fnSem 10 4 g_first_unkept
-- marks (k25)
def g_marks : Sx :=
  (sRet (eFn tupleD (aCons (eComp (iA (eVar 1)) (.name 2) cYes (eOp ixD (eOp ixD (eVar 0) (eC (.int 0))) (eVar 2)) [2]) aNil)))
def F_marks : Fn := fnSem 3 2 g_marks
-- carried (k25)
def g_carried : Sx :=
  (sSeq (sSet 3 (eLst aNil))
      (sSeq (sFor (iA (eVar 1)) (.name 4)
      (sSeq (sAsg (eOp ixD (eOp ixD (eOp ixD (eVar 0) (eC (.int 1))) (eVar 2)) (eVar 4)) (.tup [(.name 5), (.name 2)]))
      (sOn 3 (eVar 5) appD)))
      (sFrz 3 (sRet (eTup (aCons (eVar 3) (aCons (eVar 2) aNil)))))))
def F_carried : Fn := fnSem 6 3 g_carried
-- carried_back (k25)
def g_carried_back : Sx :=
  (sSeq (sSet 3 (eLst aNil))
      (sSeq (sFor (iV (eVar 1)) (.name 4)
      (sSeq (sAsg (eOp ixD (eOp ixD (eOp ixD (eVar 0) (eC (.int 1))) (eVar 4)) (eVar 2)) (.tup [(.name 2), (.name 5)]))
      (sSet 3 (eOp addD (eLst (aCons (eVar 5) aNil)) (eVar 3)))))
      (sFrz 3 (sRet (eTup (aCons (eVar 3) (aCons (eVar 2) aNil)))))))
def F_carried_back : Fn := fnSem 6 3 g_carried_back
-- mark_taken (k25)
def g_mark_taken : Sx :=
  (sSeq (sIf (tst (eOp notInD (eVar 1) (eMeth F_Table_marks (eVar 0) aNil)))
      (fun _ => M.lift none) sNil)
      (sRet (eVar 1)))
def F_mark_taken : Fn := fnSem 2 2 g_mark_taken
-- _gone_through (k25)
def g__gone_through : Sx :=
  (sSeq (sSet 3 (eLst aNil))
      (sSeq (sFor (iA (eVar 2)) (.name 4)
      (sSeq (sAsg (eMeth F_Table_passed (eVar 0) (aCons (eVar 1) (aCons (eVar 4) aNil))) (.tup [(.name 5), (.name 1)]))
      (sOn 3 (eVar 5) appD)))
      (sRet (eTup (aCons (eFn tupleD (aCons (eVar 3) aNil)) (aCons (eVar 1) aNil))))))
def F__gone_through : Fn := fnSem 6 3 g__gone_through
-- numbers (k25)
def g_numbers : Sx :=
  (sSeq (sSet 3 (eOp addD (eC (.int 1)) (eCall F_draw (aCons (eVar 0) (aCons (eFn lenD (aCons (eOp ixD (eVar 1) (eC (.int 0))) aNil)) aNil)))))
      (sFrz 3 (sRet (eComp (iR1 (aCons (eVar 2) aNil)) (.name 4) cYes (eLock (eCall F_draw (aCons (eVar 0) (aCons (eVar 3) aNil)))) [4]))))
def F_numbers : Fn := fnSem 5 3 g_numbers
-- size (k25)
def g_size : Sx :=
  (sRet (eOp addD (eC (.int 1)) (eOp ixD (eLst (aCons (eLock (eCall F_draw (aCons (eVar 0) (aCons (eC (.int 5)) aNil)))) (aCons (eLock (eCall F_draw (aCons (eVar 0) (aCons (eVar 1) aNil)))) aNil))) (eCall F_draw (aCons (eVar 0) (aCons (eC (.int 2)) aNil))))))
def F_size : Fn := fnSem 2 2 g_size
-- _mark_behind (k25)
def g__mark_behind : Sx :=
  (sSeq (sSet 4 (eLst (aCons (eVar 1) aNil)))
      (sSeq (whileF (tst (eOp leD (eFn lenD (aCons (eVar 4) aNil)) (eVar 3)))
      (sSeq (sSet 1 (eOp ixD (eCall F__gone_through (aCons (eVar 0) (aCons (eVar 1) (aCons (eVar 2) aNil)))) (eC (.int 1))))
      (sSeq (sIf (tst (eOp inD (eVar 1) (eVar 4)))
      (sSeq (sSet 5 (eIdx (eVar 4) (eVar 1)))
      (sRet (eOp ixD (eVar 4) (eOp addD (eVar 5) (eOp modD (eOp subD (eVar 3) (eVar 5)) (eOp subD (eFn lenD (aCons (eVar 4) aNil)) (eVar 5))))))) sNil)
      (sOn 4 (eVar 1) appD))) FUEL)
      (sRet (eOp ixD (eVar 4) (eVar 3)))))
def F__mark_behind : Fn := fnSem 6 4 g__mark_behind
-- through (k25)
def g_through : Sx :=
  (sSeq (sSet 3 (eCall F_row_taken (aCons (eVar 0) (aCons (eVar 2) aNil))))
      (sFrz 3 (sRet (eCall F__gone_through (aCons (eVar 0) (aCons (eLock (eCall F_mark_taken (aCons (eVar 0) (aCons (eVar 1) aNil)))) (aCons (eVar 3) aNil)))))))
def F_through : Fn := fnSem 4 3 g_through
-- through_from_behind (k25)
def g_through_from_behind : Sx :=
  (sSeq (sSet 3 (eCall F_row_taken (aCons (eVar 0) (aCons (eVar 2) aNil))))
      (sSeq (sSet 4 (eCall F_mark_taken (aCons (eVar 0) (aCons (eVar 1) aNil))))
      (sSeq (sSet 5 (eLst aNil))
      (sFrz 3 (sFrz 4 (sSeq (sFor (iV (eVar 3)) (.name 6)
      (sFrz 4 (sSeq (sAsg (eMeth F_Table_passed (eVar 0) (aCons (eVar 6) (aCons (eVar 4) aNil))) (.tup [(.name 4), (.name 7)]))
      (sOn 5 (eVar 7) appD))))
      (sFrz 4 (sFrz 5 (sRet (eTup (aCons (eUn tupRevD (eVar 5)) (aCons (eVar 4) aNil))))))))))))
def F_through_from_behind : Fn := fnSem 8 3 g_through_from_behind
-- through_again (k25)
def g_through_again : Sx :=
  (sSeq (sSet 4 (eCall F_row_taken (aCons (eVar 0) (aCons (eVar 2) aNil))))
      (sSeq (sSet 5 (eCall F_mark_taken (aCons (eVar 0) (aCons (eVar 1) aNil))))
      (sFrz 4 (sFrz 5 (sSeq (sIf (tst (eOp ltD (eVar 3) (eC (.int 1))))
      (sFrz 4 (sFrz 5 (sRet (eTup (aCons (eVar 4) (aCons (eVar 5) aNil)))))) sNil)
      (sFrz 4 (sFrz 5 (sRet (eCall F__gone_through (aCons (eVar 0) (aCons (eLock (eCall F__mark_behind (aCons (eVar 0) (aCons (eVar 5) (aCons (eVar 4) (aCons (eOp subD (eVar 3) (eC (.int 1))) aNil)))))) (aCons (eVar 4) aNil))))))))))))
def F_through_again : Fn := fnSem 6 4 g_through_again
-- raw (k25)
def g_raw : Sx :=
  (sRet (eTup (aCons (eLock (eCall F_names (aCons (eVar 0) (aCons (eFn lenD (aCons (eVar 1) aNil)) aNil)))) (aCons (eVar 1) aNil))))
def F_raw : Fn := fnSem 2 2 g_raw
-- made (k25)
def g_made : Sx :=
  (sSeq (sAsg (eVar 0) (.tup [(.name 1), (.name 2)]))
      (sRet (eCall tableG (aCons (eLock (eFn listD (aCons (eVar 1) aNil))) (aCons (eLock (eComp (iA (eVar 2)) (.name 3) cYes (eLock (eComp (iA (eVar 3)) (.tup [(.name 4), (.name 5)]) cYes (eTup (aCons (eOp ixD (eVar 1) (eVar 4)) (aCons (eOp ixD (eVar 1) (eVar 5)) aNil))) [4, 5])) [3])) aNil)))))
def F_made : Fn := fnSem 6 1 g_made
-- any_raw (k25)
def g_any_raw : Sx :=
  (sRet (eCall F_raw (aCons (eVar 0) (aCons (eLock (eCall F_any_pairs (aCons (eVar 0) (aCons (eC (.int 6)) aNil)))) aNil))))
def F_any_raw : Fn := fnSem 1 1 g_any_raw
-- cut_right (k26)
def g_cut_right : Sx :=
  (sSeq (sIf (tNotF (tst (eChain ltD ltD (eC (.int 0)) (eVar 3) (eFn lenD (aCons (eVar 2) aNil)))))
      (sRet (eC (.bl true))) sNil)
      (sSeq (sAsg (eLock (eCall F_through (aCons (eVar 0) (aCons (eVar 1) (aCons (eLock (eSl (eVar 2) oNone (oSome (eVar 3)))) aNil))))) (.tup [(.name 4), (.name 5)]))
      (sSeq (sAsg (eLock (eCall F_through (aCons (eVar 0) (aCons (eVar 5) (aCons (eLock (eSl (eVar 2) (oSome (eVar 3)) oNone)) aNil))))) (.tup [(.name 6), (.name 5)]))
      (sSeq (sIf (tst (eOp neD (eCall F_through (aCons (eVar 0) (aCons (eVar 1) (aCons (eVar 2) aNil)))) (eTup (aCons (eOp addD (eVar 4) (eVar 6)) (aCons (eVar 5) aNil)))))
      (sRet (eC (.bl false))) sNil)
      (sSeq (sAsg (eLock (eCall F_through_from_behind (aCons (eVar 0) (aCons (eVar 1) (aCons (eLock (eSl (eVar 2) (oSome (eVar 3)) oNone)) aNil))))) (.tup [(.name 6), (.name 5)]))
      (sSeq (sAsg (eLock (eCall F_through_from_behind (aCons (eVar 0) (aCons (eVar 5) (aCons (eLock (eSl (eVar 2) oNone (oSome (eVar 3)))) aNil))))) (.tup [(.name 4), (.name 5)]))
      (sRet (eOp eqD (eCall F_through_from_behind (aCons (eVar 0) (aCons (eVar 1) (aCons (eVar 2) aNil)))) (eTup (aCons (eOp addD (eVar 4) (eVar 6)) (aCons (eVar 5) aNil)))))))))))
def F_cut_right : Fn := fnSem 7 4 g_cut_right
-- law_k26 (k26)
def g_law_k26 : Sx :=
  (sFrz 1 (sFrz 3 (sFrz 4 (sFrz 5 (sFrz 6 (sSeq (sFor (iR1 (aCons (eOp addD (eC (.int 2)) (eFn minD (aCons (eC (.int 4)) (aCons (eFn lenD (aCons (eVar 0) aNil)) aNil)))) aNil)) (.name 2)
      (sFrz 1 (sSeq (sSet 3 (eCall F_any_raw (aCons (eVar 1) aNil)))
      (sFrz 1 (sFrz 3 (sSeq (sPar [4, 5] (aCons (eCall F_made (aCons (eVar 3) aNil)) (aCons (eCall F_marks (aCons (eVar 3) (aCons (eLock (eCall F_numbers (aCons (eVar 1) (aCons (eVar 3) (aCons (eLock (eCall F_size (aCons (eVar 1) (aCons (eC (.int 59)) aNil)))) aNil))))) aNil))) aNil)))
      (sFrz 1 (sSeq (sPar [6, 7] (aCons (eCall F_pick (aCons (eVar 1) (aCons (eOp ixD (eVar 3) (eC (.int 0))) aNil))) (aCons (eFn lenD (aCons (eVar 5) aNil)) aNil)))
      (sFrz 4 (sFrz 6 (sSeq (sSet 8 (eCall F_row_behind (aCons (eVar 4) (aCons (eOp addD (eTup (aCons (eVar 6) aNil)) (eVar 5)) (aCons (eRgT (rg1 (eVar 7))) aNil)))))
      (sFrz 4 (sFrz 5 (sFrz 6 (sSeq (sIf (tst (eOp neD (eCall F_through (aCons (eVar 4) (aCons (eVar 6) (aCons (eVar 5) aNil)))) (eTup (aCons (eLock (eSl (eVar 8) oNone (oSome (eVar 7)))) (aCons (eOp ixD (eVar 8) (eVar 7)) aNil)))))
      (sRet (eC (.bl false))) sNil)
      (sFrz 4 (sFrz 6 (sSeq (sSet 8 (eCall F_row_behind (aCons (eVar 4) (aCons (eOp addD (eVar 5) (eTup (aCons (eVar 6) aNil))) (aCons (eFn tupleD (aCons (eComp (iR1 (aCons (eVar 7) aNil)) (.name 9) cYes (eOp subD (eOp subD (eVar 7) (eC (.int 1))) (eVar 9)) [9]) aNil)) aNil)))))
      (sFrz 4 (sFrz 5 (sFrz 6 (sSeq (sIf (tst (eOp neD (eCall F_through_from_behind (aCons (eVar 4) (aCons (eVar 6) (aCons (eVar 5) aNil)))) (eTup (aCons (eLock (eSl (eVar 8) (oSome (eC (.int 1))) oNone)) (aCons (eOp ixD (eVar 8) (eC (.int 0))) aNil)))))
      (sRet (eC (.bl false))) sNil)
      (sFrz 1 (sFrz 4 (sFrz 5 (sFrz 6 (sIf (tNotF (tTru (eCall F_cut_right (aCons (eVar 4) (aCons (eVar 6) (aCons (eVar 5) (aCons (eLock (eCall F_draw (aCons (eVar 1) (aCons (eOp addD (eVar 7) (eC (.int 1))) aNil)))) aNil)))))))
      (sRet (eC (.bl false))) sNil)))))))))))))))))))))))))))
      (sRet (eC (.bl true)))))))))
-- ahead_right (k27)
def g_ahead_right : Sx :=
  (sSeq (sAsg (eLock (eCall F_through (aCons (eVar 0) (aCons (eVar 2) (aCons (eVar 3) aNil))))) (.tup [(.name 4), (.name 5)]))
      (sSeq (sAsg (eLock (eCall F_through (aCons (eVar 0) (aCons (eVar 1) (aCons (eVar 4) aNil))))) (.tup [(.name 4), (.name 6)]))
      (sSeq (sSet 7 (eTup (aCons (eVar 4) (aCons (eMeth F_Table_passed (eVar 0) (aCons (eVar 6) (aCons (eVar 5) aNil))) aNil))))
      (sSeq (sAsg (eMeth F_Table_passed (eVar 0) (aCons (eVar 1) (aCons (eVar 2) aNil))) (.tup [(.name 8), (.name 9)]))
      (sSeq (sAsg (eLock (eCall F_through (aCons (eVar 0) (aCons (eVar 9) (aCons (eVar 3) aNil))))) (.tup [(.name 4), (.name 5)]))
      (sSeq (sAsg (eLock (eCall F_through (aCons (eVar 0) (aCons (eVar 8) (aCons (eVar 4) aNil))))) (.tup [(.name 4), (.name 6)]))
      (sRet (eOp eqD (eTup (aCons (eVar 4) (aCons (eTup (aCons (eVar 6) (aCons (eVar 5) aNil))) aNil))) (eVar 7)))))))))
def F_ahead_right : Fn := fnSem 10 4 g_ahead_right
-- behind_right (k27)
def g_behind_right : Sx :=
  (sSeq (sAsg (eLock (eCall F_through_from_behind (aCons (eVar 0) (aCons (eVar 1) (aCons (eVar 3) aNil))))) (.tup [(.name 4), (.name 5)]))
      (sSeq (sAsg (eLock (eCall F_through_from_behind (aCons (eVar 0) (aCons (eVar 2) (aCons (eVar 4) aNil))))) (.tup [(.name 4), (.name 6)]))
      (sSeq (sSet 7 (eTup (aCons (eVar 4) (aCons (eMeth F_Table_passed (eVar 0) (aCons (eVar 5) (aCons (eVar 6) aNil))) aNil))))
      (sSeq (sAsg (eMeth F_Table_passed (eVar 0) (aCons (eVar 1) (aCons (eVar 2) aNil))) (.tup [(.name 8), (.name 9)]))
      (sSeq (sAsg (eLock (eCall F_through_from_behind (aCons (eVar 0) (aCons (eVar 8) (aCons (eVar 3) aNil))))) (.tup [(.name 4), (.name 5)]))
      (sSeq (sAsg (eLock (eCall F_through_from_behind (aCons (eVar 0) (aCons (eVar 9) (aCons (eVar 4) aNil))))) (.tup [(.name 4), (.name 6)]))
      (sRet (eOp eqD (eTup (aCons (eVar 4) (aCons (eTup (aCons (eVar 5) (aCons (eVar 6) aNil))) aNil))) (eVar 7)))))))))
def F_behind_right : Fn := fnSem 10 4 g_behind_right
-- both_right (k27)
def g_both_right : Sx :=
  (sSeq (sAsg (eLock (eCall F_through (aCons (eVar 0) (aCons (eVar 1) (aCons (eVar 3) aNil))))) (.tup [(.name 4), (.name 5)]))
      (sSeq (sAsg (eMeth F_Table_passed (eVar 0) (aCons (eVar 5) (aCons (eVar 2) aNil))) (.tup [(.name 6), (.name 7)]))
      (sSeq (sAsg (eLock (eCall F_through_from_behind (aCons (eVar 0) (aCons (eVar 6) (aCons (eVar 4) aNil))))) (.tup [(.name 4), (.name 8)]))
      (sSeq (sSet 9 (eTup (aCons (eVar 4) (aCons (eVar 8) (aCons (eVar 7) aNil)))))
      (sSeq (sAsg (eLock (eCall F_through_from_behind (aCons (eVar 0) (aCons (eVar 2) (aCons (eVar 3) aNil))))) (.tup [(.name 4), (.name 10)]))
      (sSeq (sAsg (eMeth F_Table_passed (eVar 0) (aCons (eVar 1) (aCons (eVar 10) aNil))) (.tup [(.name 8), (.name 11)]))
      (sSeq (sAsg (eLock (eCall F_through (aCons (eVar 0) (aCons (eVar 11) (aCons (eVar 4) aNil))))) (.tup [(.name 4), (.name 7)]))
      (sRet (eOp eqD (eTup (aCons (eVar 4) (aCons (eVar 8) (aCons (eVar 7) aNil)))) (eVar 9))))))))))
def F_both_right : Fn := fnSem 12 4 g_both_right
-- three_raw (k27)
def g_three_raw : Sx :=
  (sRet (eCall F_raw (aCons (eVar 0) (aCons (eLock (eCall F_turned_pairs (aCons (eVar 0) (aCons (eLock (eCall F_three_pairs (aCons (eVar 0) (aCons (eC (.int 6)) aNil)))) aNil)))) aNil))))
def F_three_raw : Fn := fnSem 1 1 g_three_raw
-- law_k27 (k27)
def g_law_k27 : Sx :=
  (sFrz 1 (sFrz 3 (sFrz 4 (sFrz 5 (sFrz 6 (sFrz 7 (sSeq (sFor (iR1 (aCons (eOp addD (eC (.int 3)) (eFn minD (aCons (eC (.int 4)) (aCons (eFn lenD (aCons (eVar 0) aNil)) aNil)))) aNil)) (.name 2)
      (sFrz 1 (sSeq (sSet 3 (eCall F_three_raw (aCons (eVar 1) aNil)))
      (sFrz 1 (sFrz 3 (sSeq (sPar [4, 5] (aCons (eCall F_made (aCons (eVar 3) aNil)) (aCons (eCall F_marks (aCons (eVar 3) (aCons (eLock (eCall F_numbers (aCons (eVar 1) (aCons (eVar 3) (aCons (eLock (eCall F_size (aCons (eVar 1) (aCons (eC (.int 60)) aNil)))) aNil))))) aNil))) aNil)))
      (sFrz 1 (sSeq (sPar [6, 7] (aCons (eCall F_pick (aCons (eVar 1) (aCons (eOp ixD (eVar 3) (eC (.int 0))) aNil))) (aCons (eCall F_pick (aCons (eVar 1) (aCons (eOp ixD (eVar 3) (eC (.int 0))) aNil))) aNil)))
      (sFrz 4 (sFrz 5 (sFrz 6 (sFrz 7 (sSeq (sIf (tOrF (tNotF (tTru (eCall F_ahead_right (aCons (eVar 4) (aCons (eVar 6) (aCons (eVar 7) (aCons (eVar 5) aNil))))))) (tNotF (tTru (eCall F_behind_right (aCons (eVar 4) (aCons (eVar 6) (aCons (eVar 7) (aCons (eVar 5) aNil))))))))
      (sRet (eC (.bl false))) sNil)
      (sFrz 4 (sFrz 5 (sFrz 6 (sFrz 7 (sIf (tNotF (tTru (eCall F_both_right (aCons (eVar 4) (aCons (eVar 6) (aCons (eVar 7) (aCons (eVar 5) aNil)))))))
      (sRet (eC (.bl false))) sNil))))))))))))))))))
      (sRet (eC (.bl true))))))))))
-- crowd_through (k28)
def g_crowd_through : Sx :=
  (sSeq (sSet 3 (eCall F_row_taken (aCons (eVar 0) (aCons (eVar 1) aNil))))
      (sSeq (sSet 4 (eCall F_row_taken (aCons (eVar 0) (aCons (eVar 2) aNil))))
      (sSeq (sSet 5 (eLst aNil))
      (sFrz 3 (sFrz 4 (sSeq (sFor (iV (eVar 3)) (.name 6)
      (sFrz 4 (sSeq (sAsg (eLock (eCall F__gone_through (aCons (eVar 0) (aCons (eVar 6) (aCons (eVar 4) aNil))))) (.tup [(.name 4), (.name 7)]))
      (sOn 5 (eVar 7) appD))))
      (sFrz 4 (sFrz 5 (sRet (eTup (aCons (eVar 4) (aCons (eUn tupRevD (eVar 5)) aNil))))))))))))
def F_crowd_through : Fn := fnSem 8 3 g_crowd_through
-- other_way (k29)
def g_other_way : Sx :=
  (sSeq (sPar [3, 4] (aCons (eStill (eVar 1)) (aCons (eTup aNil) aNil)))
      (sSeq (sFor (iA (eVar 2)) (.name 5)
      (sSeq (sAsg (eLock (eCall F_through_from_behind (aCons (eVar 0) (aCons (eVar 5) (aCons (eVar 3) aNil))))) (.tup [(.name 3), (.name 6)]))
      (sSet 4 (eOp addD (eVar 4) (eTup (aCons (eVar 6) aNil))))))
      (sRet (eTup (aCons (eVar 4) (aCons (eVar 3) aNil))))))
def F_other_way : Fn := fnSem 7 3 g_other_way
-- parts_right (k29)
def g_parts_right : Sx :=
  (sSeq (sSet 5 (eCall F_crowd_through (aCons (eVar 0) (aCons (eVar 1) (aCons (eVar 2) aNil)))))
      (sSeq (sIf (tst (eChain ltD ltD (eC (.int 0)) (eVar 3) (eFn lenD (aCons (eVar 1) aNil))))
      (sSeq (sAsg (eLock (eCall F_crowd_through (aCons (eVar 0) (aCons (eLock (eSl (eVar 1) (oSome (eVar 3)) oNone)) (aCons (eVar 2) aNil))))) (.tup [(.name 6), (.name 7)]))
      (sSeq (sAsg (eLock (eCall F_crowd_through (aCons (eVar 0) (aCons (eLock (eSl (eVar 1) oNone (oSome (eVar 3)))) (aCons (eVar 6) aNil))))) (.tup [(.name 6), (.name 8)]))
      (sIf (tst (eOp neD (eVar 5) (eTup (aCons (eVar 6) (aCons (eOp addD (eVar 8) (eVar 7)) aNil)))))
      (sRet (eC (.bl false))) sNil))) sNil)
      (sSeq (sIf (tst (eChain ltD ltD (eC (.int 0)) (eVar 4) (eFn lenD (aCons (eVar 2) aNil))))
      (sSeq (sAsg (eLock (eCall F_crowd_through (aCons (eVar 0) (aCons (eVar 1) (aCons (eLock (eSl (eVar 2) oNone (oSome (eVar 4)))) aNil))))) (.tup [(.name 9), (.name 10)]))
      (sSeq (sAsg (eLock (eCall F_crowd_through (aCons (eVar 0) (aCons (eVar 10) (aCons (eLock (eSl (eVar 2) (oSome (eVar 4)) oNone)) aNil))))) (.tup [(.name 11), (.name 10)]))
      (sRet (eOp eqD (eVar 5) (eTup (aCons (eOp addD (eVar 9) (eVar 11)) (aCons (eVar 10) aNil))))))) sNil)
      (sRet (eC (.bl true))))))
def F_parts_right : Fn := fnSem 12 5 g_parts_right
-- three_right (k29)
def g_three_right : Sx :=
  (sSeq (sAsg (eLock (eCall F_crowd_through (aCons (eVar 0) (aCons (eVar 1) (aCons (eVar 2) aNil))))) (.tup [(.name 4), (.name 5)]))
      (sSeq (sAsg (eLock (eCall F_crowd_through (aCons (eVar 0) (aCons (eVar 5) (aCons (eVar 3) aNil))))) (.tup [(.name 6), (.name 5)]))
      (sSeq (sAsg (eLock (eCall F_crowd_through (aCons (eVar 0) (aCons (eVar 4) (aCons (eVar 6) aNil))))) (.tup [(.name 6), (.name 4)]))
      (sSeq (sSet 7 (eTup (aCons (eVar 6) (aCons (eVar 4) (aCons (eVar 5) aNil)))))
      (sSeq (sAsg (eLock (eCall F_crowd_through (aCons (eVar 0) (aCons (eVar 2) (aCons (eVar 3) aNil))))) (.tup [(.name 6), (.name 4)]))
      (sSeq (sAsg (eLock (eCall F_crowd_through (aCons (eVar 0) (aCons (eVar 1) (aCons (eVar 6) aNil))))) (.tup [(.name 6), (.name 5)]))
      (sSeq (sAsg (eLock (eCall F_crowd_through (aCons (eVar 0) (aCons (eVar 5) (aCons (eVar 4) aNil))))) (.tup [(.name 4), (.name 5)]))
      (sRet (eOp eqD (eTup (aCons (eVar 6) (aCons (eVar 4) (aCons (eVar 5) aNil)))) (eVar 7))))))))))
def F_three_right : Fn := fnSem 8 4 g_three_right
-- law_k29 (k29)
def g_law_k29 : Sx :=
  (sFrz 1 (sFrz 4 (sFrz 5 (sSeq (sFor (iR1 (aCons (eOp addD (eC (.int 3)) (eFn minD (aCons (eC (.int 4)) (aCons (eFn lenD (aCons (eVar 0) aNil)) aNil)))) aNil)) (.name 2)
      (sFrz 1 (sSeq (sSet 3 (eOp eqD (eCall F_draw (aCons (eVar 1) (aCons (eC (.int 2)) aNil))) (eC (.int 0))))
      (sFrz 1 (sSeq (sSet 4 (eIf (tTru (eVar 3)) (eCall F_three_raw (aCons (eVar 1) aNil)) (eCall F_raw (aCons (eVar 1) (aCons (eLock (eCall F_any_pairs (aCons (eVar 1) (aCons (eC (.int 6)) aNil)))) aNil)))))
      (sFrz 4 (sSeq (sSet 5 (eCall F_made (aCons (eVar 4) aNil)))
      (sFrz 1 (sFrz 4 (sSeq (sAsg (eLock (eComp (iR1 (aCons (eC (.int 3)) aNil)) (.name 11) cYes (eLock (eCall F_marks (aCons (eVar 4) (aCons (eLock (eCall F_numbers (aCons (eVar 1) (aCons (eVar 4) (aCons (eLock (eCall F_size (aCons (eVar 1) (aCons (eC (.int 20)) aNil)))) aNil))))) aNil)))) [11])) (.unl [(.name 6), (.name 7), (.name 8)]))
      (sFrz 5 (sSeq (sIf (tst (eOp neD (eCall F_crowd_through (aCons (eVar 5) (aCons (eVar 6) (aCons (eVar 7) aNil)))) (eCall F_other_way (aCons (eVar 5) (aCons (eVar 6) (aCons (eVar 7) aNil))))))
      (sRet (eC (.bl false))) sNil)
      (sFrz 1 (sFrz 5 (sSeq (sIf (tNotF (tTru (eCall F_parts_right (aCons (eVar 5) (aCons (eVar 6) (aCons (eVar 7) (aCons (eLock (eCall F_draw (aCons (eVar 1) (aCons (eOp addD (eFn lenD (aCons (eVar 6) aNil)) (eC (.int 1))) aNil)))) (aCons (eLock (eCall F_draw (aCons (eVar 1) (aCons (eOp addD (eFn lenD (aCons (eVar 7) aNil)) (eC (.int 1))) aNil)))) aNil))))))))
      (sRet (eC (.bl false))) sNil)
      (sFrz 5 (sSeq (sIf (tAndF (tTru (eVar 3)) (tNotF (tTru (eCall F_three_right (aCons (eVar 5) (aCons (eVar 6) (aCons (eVar 7) (aCons (eVar 8) aNil))))))))
      (sRet (eC (.bl false))) sNil)
      (sFrz 5 (sSeq (sAsg (eLock (eCall F_through (aCons (eVar 5) (aCons (eOp ixD (eVar 6) (eC (.int 0))) (aCons (eVar 7) aNil))))) (.tup [(.name 9), (.name 10)]))
      (sFrz 5 (sIf (tst (eOp neD (eCall F_crowd_through (aCons (eVar 5) (aCons (eLock (eSl (eVar 6) oNone (oSome (eC (.int 1))))) (aCons (eVar 7) aNil)))) (eTup (aCons (eVar 9) (aCons (eTup (aCons (eVar 10) aNil)) aNil)))))
      (sRet (eC (.bl false))) sNil)))))))))))))))))))))
      (sRet (eC (.bl true)))))))
-- due_3 (k30)
def g_due_3 : Sx :=
  (sSeq (sSet 4 (eLst aNil))
      (sSeq (whileF (tAndF (tst (eOp notInD (eVar 2) (eVar 4))) (tst (eOp ltD (eFn lenD (aCons (eVar 4) aNil)) (eVar 3))))
      (sSeq (sOn 4 (eVar 2) appD)
      (sSet 2 (eOp ixD (eCall F_carried (aCons (eVar 0) (aCons (eVar 1) (aCons (eVar 2) aNil)))) (eC (.int 1))))) FUEL)
      (sSeq (sIf (tst (eOp eqD (eFn lenD (aCons (eVar 4) aNil)) (eVar 3)))
      (sRet (eIf (tst (eOp eqD (eVar 3) (eC (.int 0)))) (eTup (aCons (eVar 1) (aCons (eVar 2) aNil))) (eCall F_carried (aCons (eVar 0) (aCons (eVar 1) (aCons (eOp ixD (eVar 4) (eUn negD (eC (.int 1)))) aNil)))))) sNil)
      (sSeq (sSet 5 (eIdx (eVar 4) (eVar 2)))
      (sRet (eCall F_carried (aCons (eVar 0) (aCons (eVar 1) (aCons (eOp ixD (eVar 4) (eOp addD (eVar 5) (eOp modD (eOp subD (eOp subD (eVar 3) (eC (.int 1))) (eVar 5)) (eOp subD (eFn lenD (aCons (eVar 4) aNil)) (eVar 5))))) aNil)))))))))
def F_due_3 : Fn := fnSem 6 4 g_due_3
-- law_k30 (k30)
def g_law_k30 : Sx :=
  (sFrz 1 (sFrz 3 (sFrz 4 (sFrz 5 (sFrz 6 (sFrz 8 (sSeq (sFor (iR1 (aCons (eOp addD (eC (.int 3)) (eFn minD (aCons (eC (.int 4)) (aCons (eFn lenD (aCons (eVar 0) aNil)) aNil)))) aNil)) (.name 2)
      (sFrz 1 (sSeq (sSet 3 (eCall F_any_raw (aCons (eVar 1) aNil)))
      (sFrz 1 (sFrz 3 (sSeq (sPar [4, 5, 6] (aCons (eCall F_made (aCons (eVar 3) aNil)) (aCons (eCall F_numbers (aCons (eVar 1) (aCons (eVar 3) (aCons (eLock (eCall F_size (aCons (eVar 1) (aCons (eC (.int 12)) aNil)))) aNil)))) (aCons (eCall F_draw (aCons (eVar 1) (aCons (eFn lenD (aCons (eOp ixD (eVar 3) (eC (.int 0))) aNil)) aNil))) aNil))))
      (sFrz 1 (sFrz 3 (sFrz 4 (sFrz 5 (sFrz 6 (sFrz 8 (sFor (iA (eLock (eLst (aCons (eC (.int 0)) (aCons (eC (.int 1)) (aCons (eC (.int 2)) (aCons (eLock (eCall F_draw (aCons (eVar 1) (aCons (eC (.int 41)) aNil)))) (aCons (eOp subD (eOp powD (eC (.int 10)) (eC (.int 60))) (eCall F_draw (aCons (eVar 1) (aCons (eC (.int 1000)) aNil)))) (aCons (eLock (eCall F_draw (aCons (eVar 1) (aCons (eOp powD (eC (.int 10)) (eC (.int 40))) aNil)))) aNil))))))))) (.name 7)
      (sFrz 3 (sFrz 5 (sSeq (sSet 8 (eCall F_marks (aCons (eVar 3) (aCons (eVar 5) aNil))))
      (sFrz 1 (sFrz 8 (sSeq (sSet 9 (eOp ixD (eLst (aCons (eVar 8) (aCons (eLock (eFn listD (aCons (eVar 8) aNil))) aNil))) (eCall F_draw (aCons (eVar 1) (aCons (eC (.int 2)) aNil)))))
      (sFrz 4 (sSeq (sSet 10 (eCall F_through_again (aCons (eVar 4) (aCons (eOp ixD (eOp ixD (eVar 3) (eC (.int 0))) (eVar 6)) (aCons (eVar 9) (aCons (eVar 7) aNil))))))
      (sFrz 3 (sFrz 5 (sFrz 6 (sSeq (sAsg (eLock (eCall F_due_3 (aCons (eVar 3) (aCons (eVar 5) (aCons (eVar 6) (aCons (eVar 7) aNil)))))) (.tup [(.name 11), (.name 12)]))
      (sFrz 3 (sIf (tOrF (tst (eOp neD (eFn reprD (aCons (eVar 10) aNil)) (eFn reprD (aCons (eTup (aCons (eLock (eCall F_marks (aCons (eVar 3) (aCons (eVar 11) aNil)))) (aCons (eOp ixD (eOp ixD (eVar 3) (eC (.int 0))) (eVar 12)) aNil))) aNil)))) (tst (eOp neD (eFn tupleD (aCons (eVar 9) aNil)) (eVar 8))))
      (sRet (eC (.bl false))) sNil)))))))))))))))))))))))))))
      (sRet (eC (.bl true))))))))))
-- far (k31)
def g_far : Sx :=
  (sSeq (sSet 2 (eC (.int 0)))
      (sSeq (sFor (iR1 (aCons (eCall F_draw (aCons (eVar 0) (aCons (eC (.int 11)) aNil))) aNil)) (.name 3)
      (sSet 2 (eOp addD (eOp mulD (eVar 2) (eOp powD (eC (.int 10)) (eC (.int 6)))) (eCall F_draw (aCons (eVar 0) (aCons (eOp powD (eC (.int 10)) (eC (.int 6))) aNil))))))
      (sRet (eOp ixD (eLst (aCons (eFn minD (aCons (eVar 2) (aCons (eVar 1) aNil))) (aCons (eLock (eCall F_draw (aCons (eVar 0) (aCons (eC (.int 12)) aNil)))) (aCons (eLock (eCall F_draw (aCons (eVar 0) (aCons (eC (.int 300)) aNil)))) (aCons (eVar 1) aNil))))) (eCall F_draw (aCons (eVar 0) (aCons (eC (.int 4)) aNil)))))))
def F_far : Fn := fnSem 4 2 g_far
-- law_k31 (k31)
def g_law_k31 : Sx :=
  (sFrz 1 (sFrz 3 (sFrz 4 (sFrz 5 (sFrz 6 (sFrz 7 (sFrz 8 (sSeq (sFor (iR1 (aCons (eOp addD (eC (.int 3)) (eFn minD (aCons (eC (.int 4)) (aCons (eFn lenD (aCons (eVar 0) aNil)) aNil)))) aNil)) (.name 2)
      (sFrz 1 (sSeq (sSet 3 (eCall F_any_raw (aCons (eVar 1) aNil)))
      (sFrz 1 (sFrz 3 (sSeq (sPar [4, 5] (aCons (eCall F_made (aCons (eVar 3) aNil)) (aCons (eCall F_marks (aCons (eVar 3) (aCons (eLock (eCall F_numbers (aCons (eVar 1) (aCons (eVar 3) (aCons (eLock (eCall F_size (aCons (eVar 1) (aCons (eC (.int 30)) aNil)))) aNil))))) aNil))) aNil)))
      (sFrz 1 (sSeq (sPar [6, 7, 8] (aCons (eCall F_pick (aCons (eVar 1) (aCons (eOp ixD (eVar 3) (eC (.int 0))) aNil))) (aCons (eCall F_far (aCons (eVar 1) (aCons (eOp mulD (eC (.int 9)) (eOp powD (eC (.int 10)) (eC (.int 59)))) aNil))) (aCons (eOp addD (eC (.int 1)) (eCall F_far (aCons (eVar 1) (aCons (eOp powD (eC (.int 10)) (eC (.int 58))) aNil)))) aNil))))
      (sFrz 4 (sFrz 5 (sFrz 6 (sFrz 7 (sSeq (sAsg (eLock (eCall F_through_again (aCons (eVar 4) (aCons (eVar 6) (aCons (eVar 5) (aCons (eVar 7) aNil)))))) (.tup [(.name 9), (.name 10)]))
      (sFrz 4 (sFrz 5 (sFrz 6 (sFrz 8 (sSeq (sIf (tst (eOp neD (eCall F_through_again (aCons (eVar 4) (aCons (eVar 10) (aCons (eVar 5) (aCons (eVar 8) aNil))))) (eCall F_through_again (aCons (eVar 4) (aCons (eVar 6) (aCons (eVar 5) (aCons (eOp addD (eVar 7) (eVar 8)) aNil)))))))
      (sRet (eC (.bl false))) sNil)
      (sFrz 4 (sFrz 5 (sFrz 6 (sSeq (sIf (tst (eOp neD (eCall F_through_again (aCons (eVar 4) (aCons (eVar 6) (aCons (eVar 5) (aCons (eOp addD (eVar 7) (eC (.int 1))) aNil))))) (eCall F_through (aCons (eVar 4) (aCons (eVar 10) (aCons (eVar 5) aNil))))))
      (sRet (eC (.bl false))) sNil)
      (sFrz 1 (sSeq (sSet 11 (eOp addD (eC (.int 1)) (eCall F_draw (aCons (eVar 1) (aCons (eOp fdivD (eC (.int 60)) (eFn lenD (aCons (eVar 5) aNil))) aNil)))))
      (sFrz 4 (sFrz 6 (sFrz 8 (sSeq (sAsg (eLock (eCall F_through_again (aCons (eVar 4) (aCons (eVar 6) (aCons (eOp mulD (eVar 5) (eVar 11)) (aCons (eVar 8) aNil)))))) (.tup [(.name 9), (.name 10)]))
      (sFrz 4 (sFrz 5 (sFrz 6 (sSeq (sIf (tst (eOp neD (eTup (aCons (eLock (eSl (eVar 9) (oSome (eOp subD (eC (.int 0)) (eFn lenD (aCons (eVar 5) aNil)))) oNone)) (aCons (eVar 10) aNil))) (eCall F_through_again (aCons (eVar 4) (aCons (eVar 6) (aCons (eVar 5) (aCons (eOp mulD (eVar 8) (eVar 11)) aNil)))))))
      (sRet (eC (.bl false))) sNil)
      (sFrz 4 (sFrz 5 (sFrz 8 (sFor (iA (eOp ixD (eVar 3) (eC (.int 0)))) (.name 12)
      (sFrz 4 (sFrz 5 (sFrz 8 (sIf (tAndF (tst (eOp eqD (eOp ixD (eCall F_through (aCons (eVar 4) (aCons (eVar 12) (aCons (eVar 5) aNil)))) (eC (.int 1))) (eVar 12))) (tst (eOp neD (eOp ixD (eCall F_through_again (aCons (eVar 4) (aCons (eVar 12) (aCons (eVar 5) (aCons (eVar 8) aNil))))) (eC (.int 1))) (eVar 12))))
      (sRet (eC (.bl false))) sNil))))))))))))))))))))))))))))))))))))))))
      (sRet (eC (.bl true)))))))))))
-- steps (k34)
def g_steps : Sx :=
  (sSeq (sPar [2, 3] (aCons (eRgL (rg1 (eFn lenD (aCons (eOp ixD (eVar 0) (eC (.int 0))) aNil)))) (aCons (eOp ixD (eVar 0) (eC (.int 1))) aNil)))
      (sFrz 2 (sSeq (sIf (tTru (eVar 1))
      (sFrz 2 (sRet (eComp (iA (eVar 2)) (.name 4) cYes (eLock (eComp (iA (eVar 2)) (.name 5) cYes (eOp ixD (eOp ixD (eOp ixD (eVar 3) (eVar 4)) (eVar 5)) (eC (.int 0))) [5])) [4]))) sNil)
      (sFrz 2 (sRet (eComp (iA (eVar 2)) (.name 4) cYes (eLock (eComp (iA (eVar 2)) (.name 5) cYes (eOp ixD (eOp ixD (eOp ixD (eVar 3) (eVar 5)) (eVar 4)) (eC (.int 1))) [5])) [4]))))))
def F_steps : Fn := fnSem 6 2 g_steps
-- edge_pairs (k34)
def g_edge_pairs : Sx :=
  (sSeq (sSet 2 (eIf (tTru (eVar 1)) (eLst (aCons (eC (.int 5)) (aCons (eC (.int 5)) (aCons (eC (.int 5)) (aCons (eC (.int 5)) (aCons (eC (.int 5)) (aCons (eC (.int 5)) aNil))))))) (eLst (aCons (eC (.int 1)) (aCons (eC (.int 0)) (aCons (eC (.int 2)) (aCons (eC (.int 3)) (aCons (eC (.int 4)) (aCons (eC (.int 5)) aNil)))))))))
      (sSeq (sSet 3 (eLst (aCons (eLock (eLst (aCons (eC (.int 1)) (aCons (eC (.int 0)) (aCons (eC (.int 2)) (aCons (eC (.int 3)) (aCons (eC (.int 4)) (aCons (eC (.int 5)) aNil)))))))) (aCons (eLock (eLst (aCons (eC (.int 1)) (aCons (eC (.int 2)) (aCons (eC (.int 3)) (aCons (eC (.int 0)) (aCons (eC (.int 4)) (aCons (eC (.int 5)) aNil)))))))) (aCons (eLock (eLst (aCons (eC (.int 0)) (aCons (eC (.int 0)) (aCons (eC (.int 0)) (aCons (eC (.int 0)) (aCons (eC (.int 1)) (aCons (eC (.int 5)) aNil)))))))) aNil)))))
      (sFrz 2 (sSeq (sSet 3 (eOp addD (eVar 3) (eLst (aCons (eLock (eLst (aCons (eC (.int 0)) (aCons (eC (.int 0)) (aCons (eC (.int 1)) (aCons (eC (.int 2)) (aCons (eC (.int 1)) (aCons (eC (.int 3)) aNil)))))))) (aCons (eLock (eLst (aCons (eC (.int 0)) (aCons (eC (.int 0)) (aCons (eC (.int 1)) (aCons (eC (.int 1)) (aCons (eC (.int 2)) (aCons (eC (.int 2)) aNil)))))))) (aCons (eVar 2) aNil))))))
      (sSeq (sSet 4 (eComp (iR1 (aCons (eC (.int 6)) aNil)) (.name 5) cYes (eLock (eComp (iR1 (aCons (eC (.int 6)) aNil)) (.name 6) cYes (eTup (aCons (eVar 6) (aCons (eOp ixD (eOp ixD (eVar 3) (eVar 6)) (eVar 5)) aNil))) [6])) [5]))
      (sFrz 4 (sRet (eCall F_called (aCons (eVar 4) (aCons (eLock (eCall F_shuffled (aCons (eVar 0) (aCons (eLock (eRgL (rg1 (eC (.int 6))))) aNil)))) aNil))))))))))
def F_edge_pairs : Fn := fnSem 7 2 g_edge_pairs
-- sided_wrong (k35)
def g_sided_wrong : Sx :=
  (sSeq (sSet 1 (eFn lenD (aCons (eVar 0) aNil)))
      (sSeq (sFor (iR1 (aCons (eVar 1) aNil)) (.name 2)
      (sFor (iR1 (aCons (eVar 1) aNil)) (.name 3)
      (sFor (iR2 (aCons (eOp addD (eVar 3) (eC (.int 1))) (aCons (eVar 1) aNil))) (.name 4)
      (sIf (tst (eOp eqD (eOp ixD (eOp ixD (eOp ixD (eVar 0) (eVar 3)) (eVar 2)) (eC (.int 1))) (eOp ixD (eOp ixD (eOp ixD (eVar 0) (eVar 4)) (eVar 2)) (eC (.int 1)))))
      (sRet (eTup (aCons (eC (.str "second")) (aCons (eVar 2) (aCons (eVar 3) (aCons (eVar 4) aNil)))))) sNil))))
      (sSeq (sFor (iR1 (aCons (eVar 1) aNil)) (.name 2)
      (sFor (iR1 (aCons (eVar 1) aNil)) (.name 3)
      (sFor (iR2 (aCons (eOp addD (eVar 3) (eC (.int 1))) (aCons (eVar 1) aNil))) (.name 4)
      (sIf (tst (eOp eqD (eOp ixD (eOp ixD (eOp ixD (eVar 0) (eVar 2)) (eVar 3)) (eC (.int 0))) (eOp ixD (eOp ixD (eOp ixD (eVar 0) (eVar 2)) (eVar 4)) (eC (.int 0)))))
      (sRet (eTup (aCons (eC (.str "first")) (aCons (eVar 2) (aCons (eVar 3) (aCons (eVar 4) aNil)))))) sNil))))
      (sRet (eC .non)))))
def F_sided_wrong : Fn := fnSem 5 1 g_sided_wrong
-- kindly_raw (k35)
def g_kindly_raw : Sx :=
  (sRet (eCall F_raw (aCons (eVar 0) (aCons (eLock (eCall F_turned_pairs (aCons (eVar 0) (aCons (eLock (eCall F_kindly_pairs (aCons (eVar 0) (aCons (eC (.int 6)) aNil)))) aNil)))) aNil))))
def F_kindly_raw : Fn := fnSem 1 1 g_kindly_raw
-- comes (k35)
def g_comes : Sx :=
  (sSeq (sFor (iA (eLock (eIf (tTru (eVar 3)) (eUn revD (eVar 2)) (eStill (eVar 2))))) (.name 4)
      (sIf (tTru (eVar 3))
      (sSet 1 (eOp ixD (eCall F_through_from_behind (aCons (eVar 0) (aCons (eVar 1) (aCons (eTup (aCons (eVar 4) aNil)) aNil)))) (eC (.int 1)))) (sSet 1 (eOp ixD (eCall F_through (aCons (eVar 0) (aCons (eVar 1) (aCons (eTup (aCons (eVar 4) aNil)) aNil)))) (eC (.int 1))))))
      (sRet (eVar 1)))
def F_comes : Fn := fnSem 5 4 g_comes
-- goals (k35)
def g_goals : Sx :=
  (sRet (eFn tupleD (aCons (eComp (iA (eVar 1)) (.name 4) cYes (eLock (eCall F_comes (aCons (eVar 0) (aCons (eVar 4) (aCons (eVar 2) (aCons (eVar 3) aNil)))))) [4]) aNil)))
def F_goals : Fn := fnSem 5 4 g_goals
-- doings (k36)
def g_doings : Sx :=
  (sRet (eTup (aCons (eLock (eComp (iR1 (aCons (eFn lenD (aCons (eVar 0) aNil)) aNil)) (.name 2) cYes (eOp ixD (eOp ixD (eOp ixD (eVar 0) (eVar 1)) (eVar 2)) (eC (.int 0))) [2])) (aCons (eLock (eComp (iR1 (aCons (eFn lenD (aCons (eVar 0) aNil)) aNil)) (.name 2) cYes (eOp ixD (eOp ixD (eOp ixD (eVar 0) (eVar 2)) (eVar 1)) (eC (.int 1))) [2])) aNil))))
def F_doings : Fn := fnSem 3 2 g_doings
-- _are_alike (k36)
def g__are_alike : Sx :=
  (sRet (eFn allD (aCons (eComp (iA (eLock (eMeth F_Table_marks (eVar 0) aNil))) (.name 3) cYes (eAnd (eOp eqD (eOp ixD (eMeth F_Table_passed (eVar 0) (aCons (eVar 1) (aCons (eVar 3) aNil))) (eC (.int 0))) (eOp ixD (eMeth F_Table_passed (eVar 0) (aCons (eVar 2) (aCons (eVar 3) aNil))) (eC (.int 0)))) (eOp eqD (eOp ixD (eMeth F_Table_passed (eVar 0) (aCons (eVar 3) (aCons (eVar 1) aNil))) (eC (.int 1))) (eOp ixD (eMeth F_Table_passed (eVar 0) (aCons (eVar 3) (aCons (eVar 2) aNil))) (eC (.int 1))))) [3]) aNil)))
def F__are_alike : Fn := fnSem 4 3 g__are_alike
-- lots_due (k36)
def g_lots_due : Sx :=
  (sSeq (sPar [1, 2] (aCons (eLst aNil) (aCons (eRgL (rg1 (eFn lenD (aCons (eVar 0) aNil)))) aNil)))
      (sFrz 2 (sSeq (whileF (tst (eOp neD (eVar 2) (eLst aNil)))
      (sFrz 2 (sSeq (sSet 3 (eComp (iA (eVar 2)) (.name 4) (tst (eOp eqD (eCall F_doings (aCons (eVar 0) (aCons (eVar 4) aNil))) (eCall F_doings (aCons (eVar 0) (aCons (eOp ixD (eVar 2) (eC (.int 0))) aNil))))) (eVar 4) [4]))
      (sSeq (sOn 1 (eFn tupleD (aCons (eVar 3) aNil)) appD)
      (sFrz 2 (sSet 2 (eComp (iA (eVar 2)) (.name 4) (tst (eOp notInD (eVar 4) (eVar 3))) (eVar 4) [4])))))) FUEL)
      (sRet (eVar 1)))))
def F_lots_due : Fn := fnSem 5 1 g_lots_due
-- lotty_pairs_2 (k36)
def g_lotty_pairs_2 : Sx :=
  (sSeq (sSet 1 (eIf (tst (eOp gtD (eCall F_draw (aCons (eVar 0) (aCons (eC (.int 3)) aNil))) (eC (.int 0)))) (eCall F_any_pairs (aCons (eVar 0) (aCons (eC (.int 3)) aNil))) (eCall F_kindly_pairs (aCons (eVar 0) (aCons (eC (.int 3)) aNil)))))
      (sSeq (sSet 2 (eRgL (rg1 (eFn lenD (aCons (eVar 1) aNil)))))
      (sSeq (sFor (iR1 (aCons (eCall F_draw (aCons (eVar 0) (aCons (eOp subD (eC (.int 7)) (eFn lenD (aCons (eVar 1) aNil))) aNil))) aNil)) (.name 3)
      (sOn 2 (eLock (eCall F_draw (aCons (eVar 0) (aCons (eFn lenD (aCons (eVar 1) aNil)) aNil)))) appD))
      (sSeq (sSet 4 (eComp (iR1 (aCons (eFn lenD (aCons (eVar 1) aNil)) aNil)) (.name 13) cYes (eLock (eComp (iR1 (aCons (eFn lenD (aCons (eVar 2) aNil)) aNil)) (.name 3) (tst (eOp eqD (eOp ixD (eVar 2) (eVar 3)) (eVar 13))) (eVar 3) [3])) [13]))
      (sFrz 2 (sSeq (sPar [5, 6] (aCons (eOp ixD (eLst (aCons (eVar 2) (aCons (eLock (eRgL (rg1 (eFn lenD (aCons (eVar 2) aNil))))) aNil))) (eCall F_draw (aCons (eVar 0) (aCons (eC (.int 2)) aNil)))) (aCons (eLst aNil) aNil)))
      (sFrz 2 (sSeq (sSet 7 (eComp (iR1 (aCons (eC (.int 2)) aNil)) (.name 15) cYes (eLock (eComp (iA (eVar 2)) (.name 8) cYes (eLock (eComp (iA (eVar 2)) (.name 10) cYes (eLock (eCall F_draw (aCons (eVar 0) (aCons (eC (.int 12)) aNil)))) [10])) [8])) [15]))
      (sSeq (sFor (iR1 (aCons (eFn lenD (aCons (eVar 2) aNil)) aNil)) (.name 8)
      (sSeq (sSet 9 (eLst aNil))
      (sSeq (sFor (iR1 (aCons (eFn lenD (aCons (eVar 2) aNil)) aNil)) (.name 10)
      (sSeq (sAsg (eLock (eComp (iA (eOp ixD (eOp ixD (eVar 1) (eOp ixD (eVar 2) (eVar 8))) (eOp ixD (eVar 2) (eVar 10)))) (.name 3) cYes (eOp ixD (eVar 4) (eVar 3)) [3])) (.unl [(.name 11), (.name 12)]))
      (sSeq (sPar [13, 14] (aCons (eOp ixD (eOp ixD (eOp ixD (eVar 7) (eC (.int 0))) (eOp ixD (eVar 5) (eVar 8))) (eVar 10)) (aCons (eOp ixD (eOp ixD (eOp ixD (eVar 7) (eC (.int 1))) (eVar 8)) (eOp ixD (eVar 5) (eVar 10))) aNil)))
      (sOn 9 (eTup (aCons (eOp ixD (eVar 11) (eOp modD (eVar 13) (eFn lenD (aCons (eVar 11) aNil)))) (aCons (eOp ixD (eVar 12) (eOp modD (eVar 14) (eFn lenD (aCons (eVar 12) aNil)))) aNil))) appD))))
      (sFrz 9 (sOn 6 (eVar 9) appD)))))
      (sSeq (sIf (tst (eOp eqD (eCall F_draw (aCons (eVar 0) (aCons (eC (.int 3)) aNil))) (eC (.int 0))))
      (sSeq (sPar [8, 10] (aCons (eCall F_draw (aCons (eVar 0) (aCons (eFn lenD (aCons (eVar 2) aNil)) aNil))) (aCons (eCall F_draw (aCons (eVar 0) (aCons (eFn lenD (aCons (eVar 2) aNil)) aNil))) aNil)))
      (sAsg (eLock (eOp addD (eOp addD (eSl (eOp ixD (eVar 6) (eVar 8)) oNone (oSome (eVar 10))) (eLst (aCons (eTup (aCons (eLock (eCall F_draw (aCons (eVar 0) (aCons (eFn lenD (aCons (eVar 2) aNil)) aNil)))) (aCons (eLock (eCall F_draw (aCons (eVar 0) (aCons (eFn lenD (aCons (eVar 2) aNil)) aNil)))) aNil))) aNil))) (eSl (eOp ixD (eVar 6) (eVar 8)) (oSome (eOp addD (eVar 10) (eC (.int 1)))) oNone))) (.sub 6 (eVar 8)))) sNil)
      (sFrz 6 (sRet (eCall F_called (aCons (eVar 6) (aCons (eLock (eCall F_shuffled (aCons (eVar 0) (aCons (eLock (eRgL (rg1 (eFn lenD (aCons (eVar 6) aNil))))) aNil)))) aNil)))))))))))))))
def F_lotty_pairs_2 : Fn := fnSem 16 1 g_lotty_pairs_2
-- some_raw_2 (k36)
def g_some_raw_2 : Sx :=
  (sRet (eCall F_raw (aCons (eVar 0) (aCons (eLock (eIf (tst (eOp eqD (eCall F_draw (aCons (eVar 0) (aCons (eC (.int 2)) aNil))) (eC (.int 0)))) (eCall F_lotty_pairs_2 (aCons (eVar 0) aNil)) (eCall F_any_pairs (aCons (eVar 0) (aCons (eC (.int 6)) aNil))))) aNil))))
def F_some_raw_2 : Fn := fnSem 1 1 g_some_raw_2
-- firsts (k37)
def g_firsts : Sx :=
  (sSeq (sSet 1 (eRgL (rg1 (eFn lenD (aCons (eVar 0) aNil)))))
      (sSeq (sFor (iA (eLock (eCall F_lots_due (aCons (eVar 0) aNil)))) (.name 2)
      (sFor (iA (eVar 2)) (.name 3)
      (sAsg (eOp ixD (eVar 2) (eC (.int 0))) (.sub 1 (eVar 3)))))
      (sRet (eVar 1))))
def F_firsts : Fn := fnSem 4 1 g_firsts
-- well_due (k37)
def g_well_due : Sx :=
  (sSeq (sPar [1, 2] (aCons (eCall F_firsts (aCons (eVar 0) aNil)) (aCons (eFn lenD (aCons (eVar 0) aNil)) aNil)))
      (sSeq (sSet 3 (eComp (iR1 (aCons (eOp mulD (eVar 2) (eVar 2)) aNil)) (.name 10) cYes (eTup (aCons (eOp fdivD (eVar 10) (eVar 2)) (aCons (eOp modD (eVar 10) (eVar 2)) aNil))) [10]))
      (sFrz 3 (sSeq (sFor (iA (eVar 3)) (.tup [(.name 4), (.name 5)])
      (sFrz 3 (sFor (iA (eVar 3)) (.tup [(.name 6), (.name 7)])
      (sIf (tAndF (tst (eOp eqD (eOp ixD (eVar 1) (eVar 4)) (eOp ixD (eVar 1) (eVar 6)))) (tst (eOp eqD (eOp ixD (eVar 1) (eVar 5)) (eOp ixD (eVar 1) (eVar 7)))))
      (sSeq (sPar [8, 9] (aCons (eOp ixD (eOp ixD (eVar 0) (eVar 4)) (eVar 5)) (aCons (eOp ixD (eOp ixD (eVar 0) (eVar 6)) (eVar 7)) aNil)))
      (sIf (tst (eOp neD (eTup (aCons (eOp ixD (eVar 1) (eOp ixD (eVar 8) (eC (.int 0)))) (aCons (eOp ixD (eVar 1) (eOp ixD (eVar 8) (eC (.int 1)))) aNil))) (eTup (aCons (eOp ixD (eVar 1) (eOp ixD (eVar 9) (eC (.int 0)))) (aCons (eOp ixD (eVar 1) (eOp ixD (eVar 9) (eC (.int 1)))) aNil)))))
      (sRet (eTup (aCons (eTup (aCons (eVar 4) (aCons (eVar 5) aNil))) (aCons (eTup (aCons (eVar 6) (aCons (eVar 7) aNil))) aNil)))) sNil)) sNil))))
      (sRet (eC .non))))))
def F_well_due : Fn := fnSem 11 1 g_well_due
-- one_due (k37)
def g_one_due : Sx :=
  (sSeq (sSet 1 (eCall F_firsts (aCons (eVar 0) aNil)))
      (sSeq (sSet 2 (eComp (iR1 (aCons (eFn lenD (aCons (eVar 0) aNil)) aNil)) (.name 4) (tst (eOp eqD (eOp ixD (eVar 1) (eVar 4)) (eVar 4))) (eVar 4) [4]))
      (sFrz 2 (sSeq (sSet 3 (eComp (iA (eVar 2)) (.name 5) cYes (eLock (eComp (iA (eVar 2)) (.name 6) cYes (eTup (aCons (eOp ixD (eVar 1) (eOp ixD (eOp ixD (eOp ixD (eVar 0) (eVar 5)) (eVar 6)) (eC (.int 0)))) (aCons (eOp ixD (eVar 1) (eOp ixD (eOp ixD (eOp ixD (eVar 0) (eVar 5)) (eVar 6)) (eC (.int 1)))) aNil))) [6])) [5]))
      (sFrz 2 (sFrz 3 (sRet (eTup (aCons (eVar 2) (aCons (eVar 3) aNil))))))))))
def F_one_due : Fn := fnSem 7 1 g_one_due
-- passed (k38)
def g_passed : Sx :=
  (sSeq (sSet 1 (eFn listD (aCons (eVar 1) aNil)))
      (sSeq (sFor (iA (eVar 2)) (.name 3)
      (sSeq (sAsg (eOp ixD (eOp ixD (eOp ixD (eVar 0) (eC (.int 1))) (eOp ixD (eVar 1) (eVar 3))) (eOp ixD (eVar 1) (eOp addD (eVar 3) (eC (.int 1))))) (.tup [(.name 4), (.name 5)]))
      (sSeq (sAsg (eVar 4) (.sub 1 (eVar 3)))
      (sAsg (eVar 5) (.sub 1 (eOp addD (eVar 3) (eC (.int 1))))))))
      (sRet (eVar 1))))
def F_passed : Fn := fnSem 6 3 g_passed
-- twice_wrong_2 (k38)
def g_twice_wrong_2 : Sx :=
  (sSeq (sFor (iR1 (aCons (eFn lenD (aCons (eVar 0) aNil)) aNil)) (.name 1)
      (sFor (iR1 (aCons (eFn lenD (aCons (eVar 0) aNil)) aNil)) (.name 2)
      (sSeq (sAsg (eOp ixD (eOp ixD (eVar 0) (eVar 1)) (eVar 2)) (.tup [(.name 3), (.name 4)]))
      (sIf (tst (eOp neD (eOp ixD (eOp ixD (eVar 0) (eVar 3)) (eVar 4)) (eTup (aCons (eVar 1) (aCons (eVar 2) aNil)))))
      (sRet (eTup (aCons (eVar 1) (aCons (eVar 2) aNil)))) sNil))))
      (sRet (eC .non)))
def F_twice_wrong_2 : Fn := fnSem 5 1 g_twice_wrong_2
-- is_one_one (k38)
def g_is_one_one : Sx :=
  (sSeq (sSet 1 (eFn sumD (aCons (eVar 0) (aCons (eLst aNil) aNil))))
      (sRet (eOp eqD (eUn lenSetD (eVar 1)) (eFn lenD (aCons (eVar 1) aNil)))))
def F_is_one_one : Fn := fnSem 2 1 g_is_one_one
-- three_wrong_2 (k38)
def g_three_wrong_2 : Sx :=
  (sSeq (sFor (iR1 (aCons (eFn lenD (aCons (eVar 0) aNil)) aNil)) (.name 1)
      (sFor (iR1 (aCons (eFn lenD (aCons (eVar 0) aNil)) aNil)) (.name 2)
      (sFor (iR1 (aCons (eFn lenD (aCons (eVar 0) aNil)) aNil)) (.name 3)
      (sSeq (sSet 4 (eTup (aCons (eLock (eLst aNil)) (aCons (eVar 0) aNil))))
      (sIf (tst (eOp neD (eCall F_passed (aCons (eVar 4) (aCons (eLock (eLst (aCons (eVar 1) (aCons (eVar 2) (aCons (eVar 3) aNil))))) (aCons (eTup (aCons (eC (.int 0)) (aCons (eC (.int 1)) (aCons (eC (.int 0)) aNil)))) aNil)))) (eCall F_passed (aCons (eVar 4) (aCons (eLock (eLst (aCons (eVar 1) (aCons (eVar 2) (aCons (eVar 3) aNil))))) (aCons (eTup (aCons (eC (.int 1)) (aCons (eC (.int 0)) (aCons (eC (.int 1)) aNil)))) aNil))))))
      (sRet (eTup (aCons (eVar 1) (aCons (eVar 2) (aCons (eVar 3) aNil))))) sNil)))))
      (sRet (eC .non)))
def F_three_wrong_2 : Fn := fnSem 5 1 g_three_wrong_2
-- numbered (k38)
def g_numbered : Sx :=
  (sSeq (sSet 1 (eMeth F_Table_marks (eVar 0) aNil))
      (sRet (eComp (iA (eLock (eMeth F_Table_pairs (eVar 0) aNil))) (.name 2) cYes (eLock (eComp (iA (eVar 2)) (.tup [(.name 3), (.name 4)]) cYes (eTup (aCons (eIdx (eVar 1) (eVar 3)) (aCons (eIdx (eVar 1) (eVar 4)) aNil))) [3, 4])) [2])))
def F_numbered : Fn := fnSem 5 1 g_numbered
-- rows (k40)
def g_rows : Sx :=
  (sSeq (sSet 2 (eLst (aCons (eTup aNil) aNil)))
      (sFrz 2 (sSeq (sFor (iR1 (aCons (eVar 1) aNil)) (.name 3)
      (sFrz 2 (sSet 2 (eFn sumD (aCons (eComp (iA (eVar 2)) (.name 4) cYes (eLock (eComp (iA (eVar 0)) (.name 5) cYes (eOp addD (eVar 4) (eTup (aCons (eVar 5) aNil))) [5])) [4]) (aCons (eLst aNil) aNil))))))
      (sRet (eVar 2)))))
def F_rows : Fn := fnSem 6 2 g_rows
-- one_wrong (k42)
def g_one_wrong : Sx :=
  (sSeq (sSet 1 (eFn lenD (aCons (eVar 0) aNil)))
      (sSeq (sSet 2 (eComp (iR1 (aCons (eOp mulD (eVar 1) (eVar 1)) aNil)) (.name 3) cYes (eTup (aCons (eOp fdivD (eVar 3) (eVar 1)) (aCons (eOp modD (eVar 3) (eVar 1)) aNil))) [3]))
      (sSeq (sFor (iR1 (aCons (eFn lenD (aCons (eVar 2) aNil)) aNil)) (.name 3)
      (sFor (iA (eLock (eSl (eVar 2) (oSome (eOp addD (eVar 3) (eC (.int 1)))) oNone))) (.name 4)
      (sIf (tst (eOp eqD (eOp ixD (eOp ixD (eVar 0) (eOp ixD (eOp ixD (eVar 2) (eVar 3)) (eC (.int 0)))) (eOp ixD (eOp ixD (eVar 2) (eVar 3)) (eC (.int 1)))) (eOp ixD (eOp ixD (eVar 0) (eOp ixD (eVar 4) (eC (.int 0)))) (eOp ixD (eVar 4) (eC (.int 1))))))
      (sRet (eTup (aCons (eOp ixD (eVar 2) (eVar 3)) (aCons (eVar 4) aNil)))) sNil)))
      (sRet (eC .non)))))
def F_one_wrong : Fn := fnSem 5 1 g_one_wrong
-- leads_out (k42)
def g_leads_out : Sx :=
  (sSeq (sFor (iA (eVar 1)) (.name 2)
      (sFor (iA (eVar 1)) (.name 3)
      (sIf (tOrF (tst (eOp notInD (eOp ixD (eOp ixD (eOp ixD (eOp ixD (eVar 0) (eC (.int 1))) (eVar 2)) (eVar 3)) (eC (.int 0))) (eVar 1))) (tst (eOp notInD (eOp ixD (eOp ixD (eOp ixD (eOp ixD (eVar 0) (eC (.int 1))) (eVar 2)) (eVar 3)) (eC (.int 1))) (eVar 1))))
      (sRet (eTup (aCons (eVar 2) (aCons (eVar 3) aNil)))) sNil)))
      (sRet (eC .non)))
def F_leads_out : Fn := fnSem 4 2 g_leads_out
-- leaving_pass (k42)
def g_leaving_pass : Sx :=
  (sSeq (sFor (iA (eVar 1)) (.name 2)
      (sFor (iA (eVar 1)) (.name 3)
      (sIf (tNotF (tTru (eFn allD (aCons (eComp (iA (eMeth F_Table_passed (eVar 0) (aCons (eVar 2) (aCons (eVar 3) aNil)))) (.name 4) cYes (eOp inD (eVar 4) (eVar 1)) [4]) aNil))))
      (sRet (eTup (aCons (eVar 2) (aCons (eVar 3) aNil)))) sNil)))
      (sRet (eC .non)))
def F_leaving_pass : Fn := fnSem 5 2 g_leaving_pass
-- _refuse_unless_some (k42)
def g__refuse_unless_some : Sx :=
  (sSeq (sIf (tOrF (tNotF (tTru (eCall F_is_listing (aCons (eVar 1) aNil)))) (tNotF (tTru (eVar 1))))
      (fun _ => M.lift none) sNil)
      (sFor (iE (aCons (eVar 1) aNil)) (.tup [(.name 2), (.name 3)])
      (sIf (tOrF (tst (eOp notInD (eVar 3) (eMeth F_Table_marks (eVar 0) aNil))) (tst (eOp inD (eVar 3) (eSl (eVar 1) oNone (oSome (eVar 2))))))
      (fun _ => M.lift none) sNil)))
def F__refuse_unless_some : Fn := fnSem 4 2 g__refuse_unless_some
-- beside_due (k43)
def g_beside_due : Sx :=
  (sSeq (sPar [2, 3] (aCons (eFn lenD (aCons (eOp ixD (eVar 0) (eC (.int 1))) aNil)) (aCons (eOp addD (eFn lenD (aCons (eOp ixD (eVar 0) (eC (.int 1))) aNil)) (eFn lenD (aCons (eOp ixD (eVar 1) (eC (.int 1))) aNil))) aNil)))
      (sSeq (sSet 4 (eLst aNil))
      (sSeq (sFor (iR1 (aCons (eVar 3) aNil)) (.name 5)
      (sSeq (sSet 6 (eLst aNil))
      (sSeq (sFor (iR1 (aCons (eVar 3) aNil)) (.name 7)
      (sIf (tAndF (tst (eOp ltD (eVar 5) (eVar 2))) (tst (eOp ltD (eVar 7) (eVar 2))))
      (sOn 6 (eOp ixD (eOp ixD (eOp ixD (eVar 0) (eC (.int 1))) (eVar 5)) (eVar 7)) appD) (sIf (tAndF (tst (eOp geD (eVar 5) (eVar 2))) (tst (eOp geD (eVar 7) (eVar 2))))
      (sOn 6 (eFn tupleD (aCons (eComp (iA (eOp ixD (eOp ixD (eOp ixD (eVar 1) (eC (.int 1))) (eOp subD (eVar 5) (eVar 2))) (eOp subD (eVar 7) (eVar 2)))) (.name 8) cYes (eOp addD (eVar 8) (eVar 2)) [8]) aNil)) appD) (sOn 6 (eTup (aCons (eVar 7) (aCons (eVar 5) aNil))) appD))))
      (sFrz 6 (sOn 4 (eVar 6) appD)))))
      (sFrz 4 (sRet (eTup (aCons (eOp addD (eOp ixD (eVar 0) (eC (.int 0))) (eOp ixD (eVar 1) (eC (.int 0)))) (aCons (eVar 4) aNil))))))))
def F_beside_due : Fn := fnSem 9 2 g_beside_due
-- _both_passed (k43)
def g__both_passed : Sx :=
  (sSeq (sSet 4 (eMeth F_Table_passed (eVar 0) (aCons (eOp ixD (eVar 2) (eC (.int 0))) (aCons (eOp ixD (eVar 3) (eC (.int 0))) aNil))))
      (sSeq (sSet 5 (eMeth F_Table_passed (eVar 1) (aCons (eOp ixD (eVar 2) (eC (.int 1))) (aCons (eOp ixD (eVar 3) (eC (.int 1))) aNil))))
      (sRet (eTup (aCons (eTup (aCons (eOp ixD (eVar 4) (eC (.int 0))) (aCons (eOp ixD (eVar 5) (eC (.int 0))) aNil))) (aCons (eTup (aCons (eOp ixD (eVar 4) (eC (.int 1))) (aCons (eOp ixD (eVar 5) (eC (.int 1))) aNil))) aNil))))))
def F__both_passed : Fn := fnSem 6 4 g__both_passed
-- two_raws (k43)
def g_two_raws : Sx :=
  (sSeq (sSet 1 (eLst aNil))
      (sFrz 3 (sSeq (sFor (iA (eLock (eLst (aCons (eC (.int 4)) (aCons (eLock (eOp addD (eC (.int 2)) (eCall F_draw (aCons (eVar 0) (aCons (eC (.int 2)) aNil))))) aNil))))) (.name 2)
      (sSeq (sSet 3 (eIf (tst (eOp eqD (eCall F_draw (aCons (eVar 0) (aCons (eC (.int 2)) aNil))) (eC (.int 0)))) (eCall F_any_pairs (aCons (eVar 0) (aCons (eVar 2) aNil))) (eCall F_kindly_pairs (aCons (eVar 0) (aCons (eVar 2) aNil)))))
      (sFrz 3 (sOn 1 (eVar 3) appD))))
      (sSeq (sIf (tst (eOp gtD (eOp addD (eFn lenD (aCons (eOp ixD (eVar 1) (eC (.int 0))) aNil)) (eFn lenD (aCons (eOp ixD (eVar 1) (eC (.int 1))) aNil))) (eC (.int 6))))
      (sAsg (eLock (eLst (aCons (eLock (eLst (aCons (eTup (aCons (eC (.int 0)) (aCons (eC (.int 0)) aNil))) aNil))) aNil))) (.sub 1 (eC (.int 1)))) sNil)
      (sSeq (sSet 4 (eCall F_names (aCons (eVar 0) (aCons (eOp addD (eFn lenD (aCons (eOp ixD (eVar 1) (eC (.int 0))) aNil)) (eFn lenD (aCons (eOp ixD (eVar 1) (eC (.int 1))) aNil))) aNil))))
      (sRet (eLst (aCons (eTup (aCons (eLock (eSl (eVar 4) oNone (oSome (eFn lenD (aCons (eOp ixD (eVar 1) (eC (.int 0))) aNil))))) (aCons (eOp ixD (eVar 1) (eC (.int 0))) aNil))) (aCons (eTup (aCons (eLock (eSl (eVar 4) (oSome (eFn lenD (aCons (eOp ixD (eVar 1) (eC (.int 0))) aNil))) oNone)) (aCons (eOp ixD (eVar 1) (eC (.int 1))) aNil))) aNil)))))))))
def F_two_raws : Fn := fnSem 5 1 g_two_raws
-- word_done (k45)
def g_word_done : Sx :=
  (sSeq (sSet 3 (eFn listD (aCons (eVar 1) aNil)))
      (sSeq (sFor (iA (eVar 2)) (.name 4)
      (sAsg (eOp ixD (eVar 0) (eTup (aCons (eOp ixD (eVar 3) (eVar 4)) (aCons (eOp ixD (eVar 3) (eOp addD (eVar 4) (eC (.int 1)))) aNil)))) (.tup [(.sub 3 (eVar 4)), (.sub 3 (eOp addD (eVar 4) (eC (.int 1))))])))
      (sRet (eFn tupleD (aCons (eVar 3) aNil)))))
def F_word_done : Fn := fnSem 5 3 g_word_done
-- _turns (k45)
def g__turns : Sx :=
  (sSeq (sSet 1 (eC (.int 1)))
      (sSeq (whileF (tst (eOp neD (eOp addD (eSl (eVar 0) (oSome (eVar 1)) oNone) (eSl (eVar 0) oNone (oSome (eVar 1)))) (eVar 0)))
      (sAug 1 (eC (.int 1)) (fun i j => i + j)) FUEL)
      (sRet (eVar 1))))
def F__turns : Fn := fnSem 2 1 g__turns
-- order (k45)
def g_order : Sx :=
  (sSeq (sSet 2 (eRgL (rg1 (eVar 0))))
      (sSeq (sFor (iA (eVar 1)) (.name 3)
      (sAsg (eTup (aCons (eOp ixD (eVar 2) (eOp addD (eVar 3) (eC (.int 1)))) (aCons (eOp ixD (eVar 2) (eVar 3)) aNil))) (.tup [(.sub 2 (eVar 3)), (.sub 2 (eOp addD (eVar 3) (eC (.int 1))))])))
      (sRet (eFn tupleD (aCons (eVar 2) aNil)))))
def F_order : Fn := fnSem 4 2 g_order
-- back_2 (k45)
def g_back_2 : Sx :=
  (sSeq (sPar [1, 3] (aCons (eFn listD (aCons (eVar 1) aNil)) (aCons (eFn sumD (aCons (eOp ixD (eVar 0) (eC (.int 1))) (aCons (eLst aNil) aNil))) aNil)))
      (sSeq (sFor (iV (eVar 2)) (.name 4)
      (sSeq (sSet 5 (eIdx (eVar 3) (eTup (aCons (eOp ixD (eVar 1) (eVar 4)) (aCons (eOp ixD (eVar 1) (eOp addD (eVar 4) (eC (.int 1)))) aNil)))))
      (sSet 1 (eOp addD (eOp addD (eSl (eVar 1) oNone (oSome (eVar 4))) (eLst (aCons (eOp fdivD (eVar 5) (eFn lenD (aCons (eOp ixD (eVar 0) (eC (.int 1))) aNil))) (aCons (eOp modD (eVar 5) (eFn lenD (aCons (eOp ixD (eVar 0) (eC (.int 1))) aNil))) aNil)))) (eSl (eVar 1) (oSome (eOp addD (eVar 4) (eC (.int 2)))) oNone)))))
      (sRet (eVar 1))))
def F_back_2 : Fn := fnSem 6 3 g_back_2
-- row_due_2 (k45)
def g_row_due_2 : Sx :=
  (sSeq (sSet 4 (eCall F_one_wrong (aCons (eOp ixD (eVar 0) (eC (.int 1))) aNil)))
      (sSeq (sIf (tAndF (tst (eOp ltD (eVar 3) (eC (.int 0)))) (tst (eOp notN (eVar 4) (eC .non))))
      (sRet (eTup (aCons (eC (.str "one")) (aCons (eFn reprD (aCons (eTup (aCons (eLock (eCall F_marks (aCons (eVar 0) (aCons (eOp ixD (eVar 4) (eC (.int 0))) aNil)))) (aCons (eLock (eCall F_marks (aCons (eVar 0) (aCons (eOp ixD (eVar 4) (eC (.int 1))) aNil)))) aNil))) aNil)) aNil)))) sNil)
      (sFrz 1 (sSeq (sFor (iR1 (aCons (eFn absD (aCons (eVar 3) aNil)) aNil)) (.name 5)
      (sFrz 1 (sSet 1 (eIf (tst (eOp gtD (eVar 3) (eC (.int 0)))) (eCall F_passed (aCons (eVar 0) (aCons (eVar 1) (aCons (eVar 2) aNil)))) (eCall F_back_2 (aCons (eVar 0) (aCons (eVar 1) (aCons (eVar 2) aNil))))))))
      (sFrz 1 (sRet (eTup (aCons (eC (.str "told")) (aCons (eLock (eCall F_marks (aCons (eVar 0) (aCons (eVar 1) aNil)))) aNil)))))))))
def F_row_due_2 : Fn := fnSemN 6 4 g_row_due_2
-- order_due_2 (k45)
def g_order_due_2 : Sx :=
  (sSeq (sSet 3 (eCall F_order (aCons (eVar 0) (aCons (eVar 1) aNil))))
      (sSeq (sIf (tst (eOp ltD (eVar 2) (eC (.int 0))))
      (sSet 3 (eFn tupleD (aCons (eComp (iR1 (aCons (eVar 0) aNil)) (.name 6) cYes (eIdx (eVar 3) (eVar 6)) [6]) aNil))) sNil)
      (sSeq (sSet 4 (eRgT (rg1 (eVar 0))))
      (sFrz 3 (sSeq (sFor (iR1 (aCons (eFn absD (aCons (eVar 2) aNil)) aNil)) (.name 5)
      (sFrz 3 (sSet 4 (eFn tupleD (aCons (eComp (iA (eVar 3)) (.name 6) cYes (eOp ixD (eVar 4) (eVar 6)) [6]) aNil)))))
      (sRet (eVar 4)))))))
def F_order_due_2 : Fn := fnSem 7 3 g_order_due_2
-- far_2 (k46)
def g_far_2 : Sx :=
  (sSeq (sSet 2 (eC (.int 0)))
      (sSeq (sFor (iR1 (aCons (eCall F_draw (aCons (eVar 0) (aCons (eC (.int 11)) aNil))) aNil)) (.name 3)
      (sSet 2 (eOp addD (eOp mulD (eVar 2) (eOp powD (eC (.int 10)) (eC (.int 6)))) (eCall F_draw (aCons (eVar 0) (aCons (eOp powD (eC (.int 10)) (eC (.int 6))) aNil))))))
      (sFrz 2 (sRet (eFn minD (aCons (eVar 1) (aCons (eOp ixD (eLst (aCons (eVar 2) (aCons (eLock (eCall F_draw (aCons (eVar 0) (aCons (eC (.int 12)) aNil)))) (aCons (eLock (eCall F_draw (aCons (eVar 0) (aCons (eC (.int 300)) aNil)))) (aCons (eOp powD (eC (.int 10)) (eC (.int 60))) aNil))))) (eCall F_draw (aCons (eVar 0) (aCons (eC (.int 4)) aNil)))) aNil)))))))
def F_far_2 : Fn := fnSem 4 2 g_far_2
-- in_marks (k50)
def g_in_marks : Sx :=
  (sRet (eFn tupleD (aCons (eComp (iA (eVar 1)) (.name 2) cYes (eIf (tTru (eUn (isiD ["str"]) (eVar 2))) (eVar 2) (eOp ixD (eOp ixD (eVar 0) (eC (.int 0))) (eVar 2))) [2]) aNil)))
def F_in_marks : Fn := fnSem 3 2 g_in_marks
-- plain_pairs (k50)
def g_plain_pairs : Sx :=
  (sSeq (sAsg (eVar 0) (.tup [(.name 1), (.name 2)]))
      (sSeq (sSet 3 (eLst aNil))
      (sSeq (sFor (iR1 (aCons (eFn lenD (aCons (eVar 1) aNil)) aNil)) (.name 4)
      (sSeq (sSet 5 (eLst aNil))
      (sSeq (sFor (iR1 (aCons (eFn lenD (aCons (eVar 1) aNil)) aNil)) (.name 6)
      (sSeq (sSet 7 (eOp ixD (eComp (iR1 (aCons (eFn lenD (aCons (eVar 1) aNil)) aNil)) (.name 10) (tst (eOp eqD (eOp ixD (eOp ixD (eOp ixD (eVar 2) (eVar 10)) (eVar 6)) (eC (.int 1))) (eVar 4))) (eVar 10) [10]) (eC (.int 0))))
      (sSeq (sAsg (eOp ixD (eOp ixD (eVar 2) (eVar 7)) (eVar 6)) (.tup [(.name 8), (.name 9)]))
      (sOn 5 (eTup (aCons (eOp ixD (eVar 1) (eOp ixD (eOp ixD (eOp ixD (eVar 2) (eVar 8)) (eVar 9)) (eC (.int 1)))) (aCons (eOp ixD (eVar 1) (eVar 4)) aNil))) appD))))
      (sFrz 5 (sOn 3 (eVar 5) appD)))))
      (sRet (eVar 3)))))
def F_plain_pairs : Fn := fnSem 11 1 g_plain_pairs
-- kindly_due (k50)
def g_kindly_due : Sx :=
  (sSeq (sPar [1, 2] (aCons (eCall F_three_wrong_2 (aCons (eOp ixD (eVar 0) (eC (.int 1))) aNil)) (aCons (eCall F_sided_wrong (aCons (eOp ixD (eVar 0) (eC (.int 1))) aNil)) aNil)))
      (sFrz 1 (sSeq (sIf (tst (eOp notN (eVar 1) (eC .non)))
      (sFrz 1 (sRet (eTup (aCons (eC (.str "three")) (aCons (eLock (eCall F_in_marks (aCons (eVar 0) (aCons (eVar 1) aNil)))) (aCons (eC (.bl true)) aNil)))))) sNil)
      (sFrz 2 (sRet (eIf (tst (eOp notN (eVar 2) (eC .non))) (eTup (aCons (eC (.str "sided")) (aCons (eLock (eCall F_in_marks (aCons (eVar 0) (aCons (eVar 2) aNil)))) (aCons (eC (.bl true)) aNil)))) (eC .non)))))))
def F_kindly_due : Fn := fnSem 3 1 g_kindly_due
-- kindly_pairs_2 (k51)
def g_kindly_pairs_2 : Sx :=
  (sSeq (sPar [2, 3] (aCons (eOp addD (eC (.int 1)) (eCall F_draw (aCons (eVar 0) (aCons (eVar 1) aNil)))) (aCons (eCall F_draw (aCons (eVar 0) (aCons (eC (.int 6)) aNil))) aNil)))
      (sSeq (sIf (tAndF (tst (eOp eqD (eVar 3) (eC (.int 5)))) (tst (eOp gtD (eVar 1) (eC (.int 4)))))
      (sRet (eComp (iR1 (aCons (eC (.int 5)) aNil)) (.name 8) cYes (eLock (eComp (iR1 (aCons (eC (.int 5)) aNil)) (.name 9) cYes (eTup (aCons (eOp modD (eOp mulD (eC (.int 2)) (eVar 9)) (eC (.int 5))) (aCons (eOp modD (eOp addD (eOp mulD (eC (.int 2)) (eVar 8)) (eOp mulD (eC (.int 2)) (eVar 9))) (eC (.int 5))) aNil))) [9])) [8])) sNil)
      (sFrz 4 (sSeq (sIf (tst (eOp eqD (eVar 3) (eC (.int 0))))
      (sSeq (sSet 4 (eCall F_shuffled (aCons (eVar 0) (aCons (eLock (eRgL (rg1 (eVar 2)))) aNil))))
      (sFrz 4 (sSeq (sPar [5, 6] (aCons (eCall F_powers (aCons (eVar 4) (aCons (eLock (eCall F_draw (aCons (eVar 0) (aCons (eC (.int 4)) aNil)))) aNil))) (aCons (eCall F_powers (aCons (eVar 4) (aCons (eLock (eCall F_draw (aCons (eVar 0) (aCons (eC (.int 4)) aNil)))) aNil))) aNil)))
      (sRet (eComp (iR1 (aCons (eVar 2) aNil)) (.name 8) cYes (eLock (eComp (iR1 (aCons (eVar 2) aNil)) (.name 9) cYes (eTup (aCons (eOp ixD (eVar 5) (eVar 9)) (aCons (eOp ixD (eVar 6) (eVar 8)) aNil))) [9])) [8]))))) sNil)
      (sSeq (sIf (tst (eOp eqD (eVar 3) (eC (.int 1))))
      (sRet (eComp (iR1 (aCons (eVar 2) aNil)) (.name 8) cYes (eLock (eComp (iR1 (aCons (eVar 2) aNil)) (.name 9) cYes (eTup (aCons (eVar 9) (aCons (eOp modD (eOp subD (eOp mulD (eC (.int 2)) (eVar 9)) (eVar 8)) (eVar 2)) aNil))) [9])) [8])) sNil)
      (sFrz 7 (sSeq (sIf (tAndF (tst (eOp eqD (eVar 3) (eC (.int 2)))) (tst (eOp gtD (eVar 1) (eC (.int 5)))))
      (sSeq (sSet 7 (eComp (iR1 (aCons (eC (.int 2)) aNil)) (.name 8) cYes (eLock (eComp (iR1 (aCons (eC (.int 2)) aNil)) (.name 9) cYes (eTup (aCons (eVar 9) (aCons (eOp modD (eOp addD (eVar 8) (eC (.int 1))) (eC (.int 2))) aNil))) [9])) [8]))
      (sFrz 7 (sRet (eCall F_side_by_side (aCons (eVar 7) (aCons (eLock (eComp (iR1 (aCons (eC (.int 3)) aNil)) (.name 8) cYes (eLock (eComp (iR1 (aCons (eC (.int 3)) aNil)) (.name 9) cYes (eTup (aCons (eVar 9) (aCons (eOp modD (eOp subD (eOp mulD (eC (.int 2)) (eVar 9)) (eVar 8)) (eC (.int 3))) aNil))) [9])) [8])) aNil)))))) sNil)
      (sRet (eCall F_gentle_pairs (aCons (eVar 0) (aCons (eVar 1) aNil)))))))))))
def F_kindly_pairs_2 : Fn := fnSem 10 2 g_kindly_pairs_2
-- lplain (k52)
def g_lplain : Sx :=
  (sSeq (sSet 2 (eLst aNil))
      (sSeq (sFor (iE (aCons (eVar 1) aNil)) (.tup [(.name 3), (.name 4)])
      (sSeq (sFor (iA (eLock (eSl (eVar 1) (oSome (eOp addD (eVar 3) (eC (.int 1)))) oNone))) (.name 5)
      (sSet 4 (eOp ixD (eOp ixD (eOp ixD (eOp ixD (eVar 0) (eC (.int 1))) (eVar 4)) (eVar 5)) (eC (.int 1)))))
      (sOn 2 (eVar 4) appD)))
      (sRet (eVar 2))))
def F_lplain : Fn := fnSem 6 2 g_lplain
-- law_k53 (k53)
def g_law_k53 : Sx :=
  (sFrz 1 (sFrz 3 (sFrz 4 (sFrz 5 (sFrz 6 (sFrz 8 (sFrz 11 (sFrz 12 (sSeq (sFor (iR1 (aCons (eOp addD (eC (.int 2)) (eFn minD (aCons (eC (.int 4)) (aCons (eFn lenD (aCons (eVar 0) aNil)) aNil)))) aNil)) (.name 2)
      (sFrz 1 (sSeq (sSet 3 (eCall F_raw (aCons (eVar 1) (aCons (eLock (eCall F_turned_pairs (aCons (eVar 1) (aCons (eLock (eCall F_three_pairs (aCons (eVar 1) (aCons (eC (.int 6)) aNil)))) aNil)))) aNil))))
      (sFrz 1 (sFrz 3 (sSeq (sPar [4, 5] (aCons (eCall F_made (aCons (eVar 3) aNil)) (aCons (eCall F_pick (aCons (eVar 1) (aCons (eLock (eLst (aCons (eC (.int 2)) (aCons (eC (.int 3)) (aCons (eC (.int 9)) (aCons (eC (.int 60)) aNil)))))) aNil))) aNil)))
      (sFrz 1 (sFrz 3 (sFrz 5 (sSeq (sSet 6 (eCall F_marks (aCons (eVar 3) (aCons (eLock (eCall F_numbers (aCons (eVar 1) (aCons (eVar 3) (aCons (eVar 5) aNil))))) aNil))))
      (sFrz 1 (sFrz 4 (sFrz 6 (sFrz 8 (sSeq (sFor (iR1 (aCons (eC (.int 4)) aNil)) (.name 7)
      (sFrz 1 (sFrz 4 (sFrz 6 (sSeq (sPar [8, 9] (aCons (eCall F_draw (aCons (eVar 1) (aCons (eOp subD (eVar 5) (eC (.int 1))) aNil))) (aCons (eCall F_plain (aCons (eVar 4) (aCons (eVar 6) aNil))) aNil)))
      (sFrz 4 (sFrz 6 (sFrz 8 (sSeq (sSet 6 (eCall F_row_behind (aCons (eVar 4) (aCons (eVar 6) (aCons (eTup (aCons (eVar 8) aNil)) aNil)))))
      (sFrz 4 (sFrz 6 (sSeq (sSet 10 (eCall F_plain (aCons (eVar 4) (aCons (eVar 6) aNil))))
      (sIf (tOrF (tst (eOp neD (eSl (eVar 10) oNone (oSome (eVar 8))) (eSl (eVar 9) oNone (oSome (eVar 8))))) (tOrF (tst (eOp neD (eSl (eVar 10) (oSome (eOp addD (eVar 8) (eC (.int 2)))) oNone) (eSl (eVar 9) (oSome (eOp addD (eVar 8) (eC (.int 2)))) oNone))) (tst (eOp neD (eOp ixD (eVar 10) (eOp addD (eVar 8) (eC (.int 1)))) (eOp ixD (eVar 9) (eVar 8))))))
      (sRet (eC (.bl false))) sNil)))))))))))))
      (sFrz 1 (sSeq (sSet 11 (eCall F_made (aCons (eLock (eCall F_raw (aCons (eVar 1) (aCons (eLock (eCall F_any_pairs (aCons (eVar 1) (aCons (eC (.int 5)) aNil)))) aNil)))) aNil)))
      (sFrz 11 (sSeq (sSet 12 (eCall F_three_fault (aCons (eVar 11) aNil)))
      (sFrz 11 (sFrz 12 (sIf (tAndF (tst (eOp notN (eVar 12) (eC .non))) (tst (eOp eqD (eCall F_row_behind (aCons (eVar 11) (aCons (eVar 12) (aCons (eTup (aCons (eC (.int 0)) (aCons (eC (.int 1)) (aCons (eC (.int 0)) aNil)))) aNil)))) (eCall F_row_behind (aCons (eVar 11) (aCons (eVar 12) (aCons (eTup (aCons (eC (.int 1)) (aCons (eC (.int 0)) (aCons (eC (.int 1)) aNil)))) aNil)))))))
      (sRet (eC (.bl false))) sNil))))))))))))))))))))))
      (sRet (eC (.bl true))))))))))))
-- to (k54)
def g_to : Sx :=
  (sRet (eCall F_passed (aCons (eVar 0) (aCons (eVar 1) (aCons (eLock (eCall F_word (aCons (eVar 3) (aCons (eFn lenD (aCons (eVar 1) aNil)) (aCons (eVar 2) aNil))))) aNil)))))
def F_to : Fn := fnSem 4 4 g_to
-- bent (k56)
def g_bent : Sx :=
  (sSeq (sAsg (eVar 1) (.tup [(.name 3), (.name 4)]))
      (sSeq (sPar [5, 6] (aCons (eCall F_draw (aCons (eVar 0) (aCons (eC (.int 10)) aNil))) (aCons (eCall F_draw (aCons (eVar 0) (aCons (eOp addD (eFn lenD (aCons (eVar 3) aNil)) (eC (.int 1))) aNil))) aNil)))
      (sSeq (sIf (tst (eOp eqD (eVar 5) (eC (.int 0))))
      (sRet (eTup (aCons (eLock (eOp addD (eSl (eVar 3) oNone (oSome (eVar 6))) (eSl (eVar 3) (oSome (eOp addD (eVar 6) (eC (.int 1)))) oNone))) (aCons (eVar 4) aNil)))) sNil)
      (sSeq (sIf (tst (eOp eqD (eVar 5) (eC (.int 1))))
      (sRet (eTup (aCons (eLock (eOp addD (eOp addD (eSl (eVar 3) oNone (oSome (eVar 6))) (eTup (aCons (eLock (eCall F_draw (aCons (eVar 0) (aCons (eOp subD (eVar 2) (eC (.int 1))) aNil)))) aNil))) (eSl (eVar 3) (oSome (eVar 6)) oNone))) (aCons (eVar 4) aNil)))) sNil)
      (sFrz 7 (sSeq (sIf (tst (eOp eqD (eVar 5) (eC (.int 2))))
      (sSeq (sSet 7 (eCall F_draw (aCons (eVar 0) (aCons (eOp subD (eVar 2) (eC (.int 1))) aNil))))
      (sFrz 7 (sRet (eTup (aCons (eLock (eOp addD (eOp addD (eSl (eVar 3) oNone (oSome (eVar 6))) (eTup (aCons (eVar 7) (aCons (eVar 7) aNil)))) (eSl (eVar 3) (oSome (eVar 6)) oNone))) (aCons (eVar 4) aNil)))))) sNil)
      (sFrz 8 (sSeq (sIf (tst (eOp eqD (eVar 5) (eC (.int 3))))
      (sSeq (sSet 8 (eCall F_pick (aCons (eVar 0) (aCons (eLock (eLst (aCons (eUn negD (eC (.int 1))) (aCons (eOp subD (eVar 2) (eC (.int 1))) (aCons (eC (.bl true)) (aCons (eC .non) (aCons (eC (.str "0")) (aCons (eTup (aCons (eC (.int 0)) aNil)) aNil)))))))) aNil))))
      (sFrz 8 (sRet (eTup (aCons (eLock (eOp addD (eOp addD (eSl (eVar 3) oNone (oSome (eVar 6))) (eTup (aCons (eVar 8) aNil))) (eSl (eVar 3) (oSome (eOp addD (eVar 6) (eC (.int 1)))) oNone))) (aCons (eVar 4) aNil)))))) sNil)
      (sFrz 8 (sSeq (sIf (tst (eOp eqD (eVar 5) (eC (.int 4))))
      (sSeq (sSet 8 (eLst (aCons (eTup (aCons (eLock (eFn listD (aCons (eVar 3) aNil))) (aCons (eVar 4) aNil))) (aCons (eTup (aCons (eVar 3) (aCons (eFn tupleD (aCons (eVar 4) aNil)) aNil))) (aCons (eLock (eLst (aCons (eVar 3) (aCons (eVar 4) aNil)))) (aCons (eTup (aCons (eVar 3) aNil)) (aCons (eOp addD (eVar 1) (eTup (aCons (eC (.int 0)) aNil))) (aCons (eC .non) (aCons (eTup aNil) aNil)))))))))
      (sFrz 8 (sRet (eCall F_pick (aCons (eVar 0) (aCons (eVar 8) aNil)))))) sNil)
      (sSeq (sIf (tst (eOp eqD (eVar 5) (eC (.int 5))))
      (sRet (eTup (aCons (eVar 3) (aCons (eLock (eOp addD (eSl (eVar 4) oNone (oSome (eVar 6))) (eSl (eVar 4) (oSome (eOp addD (eVar 6) (eC (.int 1)))) oNone))) aNil)))) sNil)
      (sSeq (sIf (tst (eOp eqD (eVar 5) (eC (.int 6))))
      (sRet (eTup (aCons (eVar 3) (aCons (eLock (eUn revD (eVar 4))) aNil)))) sNil)
      (sFrz 9 (sSeq (sIf (tst (eOp eqD (eVar 5) (eC (.int 7))))
      (sSeq (sSet 9 (eComp (iA (eVar 4)) (.name 10) cYes (eFn tupleD (aCons (eComp (iA (eVar 10)) (.name 11) cYes (eIf (tst (eOp ltD (eVar 11) (eC (.int 2)))) (eOp eqD (eVar 11) (eC (.int 1))) (eVar 11)) [11]) aNil)) [10]))
      (sFrz 9 (sRet (eTup (aCons (eVar 3) (aCons (eLock (eCall F_pick (aCons (eVar 0) (aCons (eLock (eLst (aCons (eLock (eComp (iA (eVar 4)) (.name 10) cYes (eLock (eUn revD (eVar 10))) [10])) (aCons (eVar 9) (aCons (eLock (eComp (iA (eVar 4)) (.name 10) cYes (eLock (eFn listD (aCons (eVar 10) aNil))) [10])) aNil))))) aNil)))) aNil)))))) sNil)
      (sSeq (sIf (tst (eOp eqD (eVar 5) (eC (.int 8))))
      (sRet (eTup (aCons (eVar 3) (aCons (eLock (eOp addD (eVar 4) (eLst (aCons (eLock (eCall F_pick (aCons (eVar 0) (aCons (eLock (eLst (aCons (eTup (aCons (eC (.int 0)) (aCons (eC (.int 1)) aNil))) (aCons (eTup (aCons (eC (.int 0)) (aCons (eVar 2) aNil))) (aCons (eLock (eLst (aCons (eC (.int 0)) (aCons (eC (.int 1)) aNil)))) (aCons (eC .non) aNil)))))) aNil)))) aNil)))) aNil)))) sNil)
      (sRet (eTup (aCons (eLock (eCall F_pick (aCons (eVar 0) (aCons (eLock (eLst (aCons (eLock (eUn revD (eVar 3))) (aCons (eOp repD (eTup (aCons (eC (.int 0)) aNil)) (eFn lenD (aCons (eVar 3) aNil))) aNil)))) aNil)))) (aCons (eVar 4) aNil)))))))))))))))))))
def F_bent : Fn := fnSem 12 3 g_bent
-- choose (k59)
def g_choose : Sx :=
  (sSeq (sSet 2 (eLst (aCons (eC (.int 1)) aNil)))
      (sSeq (sFor (iR1 (aCons (eVar 0) aNil)) (.name 3)
      (sSet 2 (eOp addD (eOp addD (eLst (aCons (eC (.int 1)) aNil)) (eComp (iR1 (aCons (eOp subD (eFn lenD (aCons (eVar 2) aNil)) (eC (.int 1))) aNil)) (.name 4) cYes (eOp addD (eOp ixD (eVar 2) (eVar 4)) (eOp ixD (eVar 2) (eOp addD (eVar 4) (eC (.int 1))))) [4])) (eLst (aCons (eC (.int 1)) aNil)))))
      (sRet (eIf (tst (eChain leD leD (eC (.int 0)) (eVar 1) (eVar 0))) (eOp ixD (eVar 2) (eVar 1)) (eC (.int 0))))))
def F_choose : Fn := fnSem 5 2 g_choose
-- in_numbers (k59)
def g_in_numbers : Sx :=
  (sRet (eComp (iA (eVar 1)) (.name 2) cYes (eIdx (eOp ixD (eVar 0) (eC (.int 0))) (eVar 2)) [2]))
def F_in_numbers : Fn := fnSem 3 2 g_in_numbers
-- row_ways (k59)
def g_row_ways : Sx :=
  (sSeq (sPar [1, 2] (aCons (eC (.int 1)) (aCons (eC (.int 0)) aNil)))
      (sSeq (sFor (iA (eVar 0)) (.name 3)
      (sSeq (sSet 2 (eOp addD (eVar 2) (eVar 3)))
      (sSet 1 (eOp mulD (eVar 1) (eCall F_choose (aCons (eVar 2) (aCons (eVar 3) aNil)))))))
      (sRet (eVar 1))))
def F_row_ways : Fn := fnSem 4 1 g_row_ways
-- product (k60)
def g_product : Sx :=
  (sSeq (sSet 1 (eC (.int 1)))
      (sSeq (sFor (iA (eVar 0)) (.name 2)
      (sSet 1 (eOp mulD (eVar 1) (eVar 2))))
      (sRet (eVar 1))))
def F_product : Fn := fnSem 3 1 g_product
-- all_lines (k60)
def g_all_lines : Sx :=
  (sSeq (sSet 2 (eLst (aCons (eTup aNil) aNil)))
      (sFrz 2 (sSeq (sFor (iR1 (aCons (eVar 1) aNil)) (.name 3)
      (sSeq (sSet 4 (eLst aNil))
      (sFrz 2 (sSeq (sFor (iA (eVar 2)) (.name 5)
      (sOn 4 (eComp (iR1 (aCons (eVar 0) aNil)) (.name 6) cYes (eOp addD (eVar 5) (eTup (aCons (eVar 6) aNil))) [6]) extD))
      (sFrz 4 (sSet 2 (eStill (eVar 4))))))))
      (sRet (eVar 2)))))
def F_all_lines : Fn := fnSem 7 2 g_all_lines
-- lrings (k60)
def g_lrings : Sx :=
  (sSeq (sPar [1, 2] (aCons (eLst aNil) (aCons (eC (.int 0)) aNil)))
      (sSeq (sFor (iA (eVar 0)) (.name 3)
      (sSeq (sSet 2 (eOp addD (eVar 2) (eFn intD (aCons (eOp notInD (eVar 3) (eVar 1)) aNil))))
      (whileF (tst (eOp notInD (eVar 3) (eVar 1)))
      (sSeq (sOn 1 (eVar 3) appD)
      (sSet 3 (eOp ixD (eVar 0) (eVar 3)))) FUEL)))
      (sRet (eVar 2))))
def F_lrings : Fn := fnSem 4 1 g_lrings
-- _exchanging (k61)
def g__exchanging : Sx :=
  (sSeq (sSet 3 (eRgL (rg1 (eVar 0))))
      (sSeq (sAsg (eTup (aCons (eVar 2) (aCons (eVar 1) aNil))) (.tup [(.sub 3 (eVar 1)), (.sub 3 (eVar 2))]))
      (sFrz 3 (sRet (eCall F_told_form (aCons (eVar 3) aNil))))))
def F__exchanging : Fn := fnSem 4 3 g__exchanging
-- _moved (k62)
def g__moved : Sx :=
  (sSeq (sSet 2 (eCall F_order_of (aCons (eVar 0) (aCons (eVar 1) aNil))))
      (sRet (eComp (iR1 (aCons (eVar 0) aNil)) (.name 3) (tst (eOp neD (eOp ixD (eVar 2) (eVar 3)) (eVar 3))) (eVar 3) [3])))
def F__moved : Fn := fnSem 4 2 g__moved
-- _leaves (k62)
def g__leaves : Sx :=
  (sSeq (sSet 3 (eFn lenD (aCons (eVar 1) aNil)))
      (sSeq (sIf (tOrF (tNotF (tTru (eUn (isiD ["tuple"]) (eVar 2)))) (tst (eOp notN (eCall F_word_fault (aCons (eVar 3) (aCons (eVar 2) aNil))) (eC .non))))
      (sRet (eC (.bl false))) sNil)
      (sRet (eAnd (eOp eqD (eFn lenD (aCons (eCall F__moved (aCons (eVar 3) (aCons (eVar 2) aNil))) aNil)) (eC (.int 2))) (eOp eqD (eCall F_row_behind (aCons (eVar 0) (aCons (eVar 1) (aCons (eVar 2) aNil)))) (eVar 1))))))
def F__leaves : Fn := fnSem 4 3 g__leaves
-- _behind_one_pass (k65)
def g__behind_one_pass : Sx :=
  (sRet (eComp (iR1 (aCons (eOp subD (eFn lenD (aCons (eVar 1) aNil)) (eC (.int 1))) aNil)) (.name 2) cYes (eLock (eCall F_pass_done (aCons (eVar 0) (aCons (eVar 1) (aCons (eVar 2) aNil))))) [2]))
def F__behind_one_pass : Fn := fnSem 3 2 g__behind_one_pass
-- _is_row (k67)
def g__is_row : Sx :=
  (sRet (eAnd (eUn (isiD ["tuple"]) (eVar 1)) (eOp isN (eCall F_row_fault (aCons (eVar 0) (aCons (eVar 1) aNil))) (eC .non))))
def F__is_row : Fn := fnSem 2 2 g__is_row
-- gentle_due (k67)
def g_gentle_due : Sx :=
  (sSeq (sPar [1, 2] (aCons (eCall F_kindly_due (aCons (eVar 0) aNil)) (aCons (eCall F_twice_wrong_2 (aCons (eOp ixD (eVar 0) (eC (.int 1))) aNil)) aNil)))
      (sFrz 2 (sSeq (sIf (tAndF (tst (eOp isN (eVar 1) (eC .non))) (tst (eOp notN (eVar 2) (eC .non))))
      (sFrz 2 (sRet (eTup (aCons (eC (.str "twice")) (aCons (eLock (eCall F_in_marks (aCons (eVar 0) (aCons (eVar 2) aNil)))) (aCons (eC (.bl true)) aNil)))))) sNil)
      (sRet (eVar 1)))))
def F_gentle_due : Fn := fnSem 3 1 g_gentle_due
-- _is_kept_2 (k68)
def g__is_kept_2 : Sx :=
  (sSeq (sAsg (eLock (eComp (iA (eVar 2)) (.name 7) cYes (eOp ixD (eVar 1) (eVar 7)) [7])) (.unl [(.name 3), (.name 4), (.name 5), (.name 6)]))
      (sRet (eOp eqD (eOp ixD (eVar 0) (eTup (aCons (eVar 3) (aCons (eVar 4) aNil)))) (eTup (aCons (eVar 5) (aCons (eVar 6) aNil))))))
def F__is_kept_2 : Fn := fnSem 8 3 g__is_kept_2
-- all_goals (k68)
def g_all_goals : Sx :=
  (sSeq (sSet 2 (eLst (aCons (eTup aNil) aNil)))
      (sFrz 2 (sSeq (sFor (iR1 (aCons (eVar 0) aNil)) (.name 3)
      (sSeq (sSet 4 (eLst aNil))
      (sFrz 2 (sSeq (sFor (iA (eVar 2)) (.name 5)
      (sOn 4 (eComp (iR1 (aCons (eVar 1) aNil)) (.name 6) cYes (eOp addD (eVar 5) (eTup (aCons (eVar 6) aNil))) [6]) extD))
      (sFrz 4 (sSet 2 (eStill (eVar 4))))))))
      (sRet (eVar 2)))))
def F_all_goals : Fn := fnSem 7 2 g_all_goals
-- keeps_passes (k68)
def g_keeps_passes : Sx :=
  (sSeq (sFor (iR1 (aCons (eFn lenD (aCons (eVar 0) aNil)) aNil)) (.name 3)
      (sFor (iR1 (aCons (eFn lenD (aCons (eVar 0) aNil)) aNil)) (.name 4)
      (sSeq (sAsg (eOp ixD (eOp ixD (eVar 0) (eVar 3)) (eVar 4)) (.tup [(.name 5), (.name 6)]))
      (sIf (tst (eOp neD (eOp ixD (eOp ixD (eVar 1) (eOp ixD (eVar 2) (eVar 3))) (eOp ixD (eVar 2) (eVar 4))) (eTup (aCons (eOp ixD (eVar 2) (eVar 5)) (aCons (eOp ixD (eVar 2) (eVar 6)) aNil)))))
      (sRet (eC (.bl false))) sNil))))
      (sRet (eC (.bl true))))
def F_keeps_passes : Fn := fnSem 7 3 g_keeps_passes
-- other_pairs (k68)
def g_other_pairs : Sx :=
  (sSeq (sSet 3 (eCall F_draw (aCons (eVar 0) (aCons (eC (.int 5)) aNil))))
      (sSeq (sIf (tst (eOp eqD (eVar 3) (eC (.int 0))))
      (sRet (eCall F_called (aCons (eVar 1) (aCons (eLock (eCall F_shuffled (aCons (eVar 0) (aCons (eLock (eRgL (rg1 (eFn lenD (aCons (eVar 1) aNil))))) aNil)))) aNil)))) sNil)
      (sSeq (sIf (tst (eOp eqD (eVar 3) (eC (.int 1))))
      (sRet (eVar 1)) sNil)
      (sSeq (sIf (tst (eOp eqD (eVar 3) (eC (.int 2))))
      (sRet (eCall F_turned_pairs (aCons (eVar 0) (aCons (eLock (eCall F_kindly_pairs (aCons (eVar 0) (aCons (eVar 2) aNil)))) aNil)))) sNil)
      (sRet (eCall F_turned_pairs (aCons (eVar 0) (aCons (eLock (eCall F_any_pairs (aCons (eVar 0) (aCons (eLock (eOp addD (eC (.int 1)) (eCall F_draw (aCons (eVar 0) (aCons (eVar 2) aNil))))) aNil)))) aNil))))))))
def F_other_pairs : Fn := fnSem 4 3 g_other_pairs
-- all_ways (k69)
def g_all_ways : Sx :=
  (sSeq (sSet 1 (eLst (aCons (eTup aNil) aNil)))
      (sFrz 1 (sSeq (sFor (iR1 (aCons (eVar 0) aNil)) (.name 2)
      (sSeq (sSet 3 (eLst aNil))
      (sFrz 1 (sSeq (sFor (iA (eVar 1)) (.name 4)
      (sOn 3 (eComp (iR1 (aCons (eVar 0) aNil)) (.name 5) (tst (eOp notInD (eVar 5) (eVar 4))) (eOp addD (eVar 4) (eTup (aCons (eVar 5) aNil))) [5]) extD))
      (sFrz 3 (sSet 1 (eStill (eVar 3))))))))
      (sRet (eVar 1)))))
def F_all_ways : Fn := fnSem 6 1 g_all_ways
-- stay (k69)
def g_stay : Sx :=
  (sSeq (sFor (iA (eVar 1)) (.name 2)
      (sFor (iA (eVar 1)) (.name 3)
      (sIf (tst (eOp neD (eComp (iA (eOp ixD (eOp ixD (eVar 0) (eVar 2)) (eVar 3))) (.name 4) (tst (eOp notInD (eVar 4) (eVar 1))) (eVar 4) [4]) (eLst aNil)))
      (sRet (eC (.bl false))) sNil)))
      (sRet (eC (.bl true))))
def F_stay : Fn := fnSem 5 2 g_stay
-- leaf (k70)
def g_leaf : Sx :=
  (sSeq (sSet 4 (eFn lenD (aCons (eVar 2) aNil)))
      (sSeq (sFor (iR1 (aCons (eOp mulD (eVar 4) (eFn intD (aCons (eVar 3) aNil))) aNil)) (.name 5)
      (sFor (iR2 (aCons (eOp addD (eVar 5) (eC (.int 1))) (aCons (eVar 4) aNil))) (.name 6)
      (sIf (tst (eOp eqD (eOp ixD (eVar 2) (eVar 5)) (eOp ixD (eVar 2) (eVar 6))))
      (sRet (eTup (aCons (eC (.str "twice")) (aCons (eOp ixD (eOp ixD (eVar 0) (eC (.int 0))) (eVar 5)) (aCons (eOp ixD (eOp ixD (eVar 0) (eC (.int 0))) (eVar 6)) aNil))))) sNil)))
      (sSeq (sFor (iR1 (aCons (eVar 4) aNil)) (.name 5)
      (sFor (iR1 (aCons (eVar 4) aNil)) (.name 6)
      (sSeq (sAsg (eOp ixD (eOp ixD (eOp ixD (eVar 0) (eC (.int 1))) (eVar 5)) (eVar 6)) (.tup [(.name 7), (.name 8)]))
      (sIf (tAndF (tst (eOp ltD (eVar 7) (eVar 4))) (tst (eOp ltD (eVar 8) (eVar 4))))
      (sIf (tst (eOp neD (eOp ixD (eOp ixD (eOp ixD (eVar 1) (eC (.int 1))) (eOp ixD (eVar 2) (eVar 5))) (eOp ixD (eVar 2) (eVar 6))) (eTup (aCons (eOp ixD (eVar 2) (eVar 7)) (aCons (eOp ixD (eVar 2) (eVar 8)) aNil)))))
      (sRet (eTup (aCons (eC (.str "fails")) (aCons (eOp ixD (eOp ixD (eVar 0) (eC (.int 0))) (eVar 5)) (aCons (eOp ixD (eOp ixD (eVar 0) (eC (.int 0))) (eVar 6)) aNil))))) sNil) sNil))))
      (sRet (eIf (tst (eOp eqD (eVar 4) (eFn lenD (aCons (eOp ixD (eVar 0) (eC (.int 0))) aNil)))) (eTup (aCons (eC (.str "map")) aNil)) (eC .non))))))
def F_leaf : Fn := fnSem 9 4 g_leaf
-- has_word (k71)
def g_has_word : Sx :=
  (sRet (eAnd (eUn (isiD ["tuple"]) (eVar 0)) (eAnd (eOp eqD (eFn lenD (aCons (eVar 0) aNil)) (eOp addD (eVar 2) (eC (.int 1)))) (eOp eqD (eOp ixD (eVar 0) (eC (.int 0))) (eVar 1)))))
def F_has_word : Fn := fnSem 3 3 g_has_word
-- are_below (k71)
def g_are_below : Sx :=
  (sSeq (sIf (tOrF (tNotF (tTru (eUn (isiD ["tuple"]) (eVar 0)))) (tst (eOp neD (eFn lenD (aCons (eVar 0) aNil)) (eVar 1))))
      (sRet (eC (.bl false))) sNil)
      (sSeq (sIf (tNotF (tTru (eFn allD (aCons (eComp (iA (eVar 0)) (.name 5) cYes (eLock (eCall F_is_number (aCons (eVar 5) (aCons (eOp addD (eVar 2) (eC (.int 1))) (aCons (eOp subD (eFn lenD (aCons (eVar 3) aNil)) (eC (.int 1))) aNil))))) [5]) aNil))))
      (sRet (eC (.bl false))) sNil)
      (sRet (eAnd (eOp eqD (eUn lenSetD (eVar 0)) (eVar 1)) (eNot (eFn anyD (aCons (eComp (iA (eVar 0)) (.name 5) cYes (eOp inD (eVar 5) (eVar 4)) [5]) aNil)))))))
def F_are_below : Fn := fnSem 6 5 g_are_below
-- leaf_right (k71)
def g_leaf_right : Sx :=
  (sSeq (sIf (tst (eOp eqD (eVar 3) (eTup (aCons (eC (.str "map")) aNil))))
      (sRet (eOp eqD (eCall F_leaf (aCons (eVar 0) (aCons (eVar 1) (aCons (eVar 2) (aCons (eVar 4) aNil))))) (eTup (aCons (eC (.str "map")) aNil)))) sNil)
      (sSeq (sIf (tOrF (tst (eOp neD (eFn lenD (aCons (eVar 3) aNil)) (eC (.int 3)))) (tst (eOp neD (eComp (iA (eLock (eSl (eVar 3) (oSome (eC (.int 1))) oNone))) (.name 9) (tst (eOp notInD (eVar 9) (eSl (eOp ixD (eVar 0) (eC (.int 0))) oNone (oSome (eFn lenD (aCons (eVar 2) aNil)))))) (eVar 9) [9]) (eLst aNil))))
      (sRet (eC (.bl false))) sNil)
      (sSeq (sPar [5, 6] (aCons (eIdx (eOp ixD (eVar 0) (eC (.int 0))) (eOp ixD (eVar 3) (eC (.int 1)))) (aCons (eIdx (eOp ixD (eVar 0) (eC (.int 0))) (eOp ixD (eVar 3) (eC (.int 2)))) aNil)))
      (sSeq (sIf (tst (eOp eqD (eOp ixD (eVar 3) (eC (.int 0))) (eC (.str "twice"))))
      (sRet (eAnd (eVar 4) (eAnd (eOp neD (eVar 5) (eVar 6)) (eOp eqD (eOp ixD (eVar 2) (eVar 5)) (eOp ixD (eVar 2) (eVar 6)))))) sNil)
      (sSeq (sAsg (eOp ixD (eOp ixD (eOp ixD (eVar 0) (eC (.int 1))) (eVar 5)) (eVar 6)) (.tup [(.name 7), (.name 8)]))
      (sSeq (sIf (tOrF (tst (eOp neD (eOp ixD (eVar 3) (eC (.int 0))) (eC (.str "fails")))) (tst (eOp geD (eFn maxD (aCons (eVar 7) (aCons (eVar 8) aNil))) (eFn lenD (aCons (eVar 2) aNil)))))
      (sRet (eC (.bl false))) sNil)
      (sRet (eOp neD (eOp ixD (eOp ixD (eOp ixD (eVar 1) (eC (.int 1))) (eOp ixD (eVar 2) (eVar 5))) (eOp ixD (eVar 2) (eVar 6))) (eTup (aCons (eOp ixD (eVar 2) (eVar 7)) (aCons (eOp ixD (eVar 2) (eVar 8)) aNil)))))))))))
def F_leaf_right : Fn := fnSem 10 5 g_leaf_right
-- full_nodes (k71)
def g_full_nodes : Sx :=
  (sSeq (sPar [3, 4, 5] (aCons (eLst aNil) (aCons (eLst (aCons (eTup aNil) aNil)) (aCons (eFn lenD (aCons (eOp ixD (eVar 1) (eC (.int 0))) aNil)) aNil))))
      (sSeq (whileF (tst (eOp ltD (eFn lenD (aCons (eVar 3) aNil)) (eFn lenD (aCons (eVar 4) aNil))))
      (sSeq (sSet 6 (eOp ixD (eVar 4) (eFn lenD (aCons (eVar 3) aNil))))
      (sIf (tst (eOp eqD (eFn lenD (aCons (eVar 6) aNil)) (eFn lenD (aCons (eOp ixD (eVar 0) (eC (.int 0))) aNil))))
      (sOn 3 (eLock (eCall F_leaf (aCons (eVar 0) (aCons (eVar 1) (aCons (eVar 6) (aCons (eVar 2) aNil)))))) appD) (sSeq (sOn 3 (eTup (aCons (eC (.str "goals")) (aCons (eFn tupleD (aCons (eComp (iR1 (aCons (eVar 5) aNil)) (.name 7) cYes (eOp addD (eFn lenD (aCons (eVar 4) aNil)) (eVar 7)) [7]) aNil)) aNil))) appD)
      (sSet 4 (eOp addD (eVar 4) (eComp (iR1 (aCons (eVar 5) aNil)) (.name 7) cYes (eOp addD (eVar 6) (eTup (aCons (eVar 7) aNil))) [7])))))) FUEL)
      (sRet (eVar 3))))
def F_full_nodes : Fn := fnSem 8 3 g_full_nodes
-- hidden_places (k73)
def g_hidden_places : Sx :=
  (sRet (eComp (iE (aCons (eVar 0) aNil)) (.tup [(.name 1), (.name 2)]) (tst (eOp isN (eVar 2) (eC .non))) (eVar 1) [1, 2]))
def F_hidden_places : Fn := fnSem 3 1 g_hidden_places
-- rows_showing (k73)
def g_rows_showing : Sx :=
  (sRet (eComp (iA (eVar 0)) (.tup [(.name 2), (.name 3)]) (tTru (eFn allD (aCons (eComp (iA (eVar 1)) (.name 4) cYes (eOp ixD (eVar 3) (eVar 4)) [4]) aNil))) (eVar 2) [2, 3]))
def F_rows_showing : Fn := fnSem 5 2 g_rows_showing
-- _carried_through (k73)
def g__carried_through : Sx :=
  (sSeq (sSet 3 (eLst aNil))
      (sSeq (sFor (iA (eVar 2)) (.name 4)
      (sSeq (sAsg (eOp ixD (eVar 0) (eTup (aCons (eVar 1) (aCons (eVar 4) aNil)))) (.tup [(.name 5), (.name 1)]))
      (sOn 3 (eVar 5) appD)))
      (sRet (eVar 3))))
def F__carried_through : Fn := fnSem 6 3 g__carried_through
-- _told_leaf (k73)
def g__told_leaf : Sx :=
  (sSeq (sIf (tTru (eFn allD (aCons (eComp (iA (eVar 0)) (.tup [(.name 2), (.name 3)]) cYes (eFn allD (aCons (eVar 3) aNil)) [2, 3]) aNil)))
      (sRet (eTup (aCons (eC (.str "fits")) aNil))) sNil)
      (sSeq (sFor (iR1 (aCons (eFn lenD (aCons (eOp ixD (eOp ixD (eVar 0) (eC (.int 0))) (eC (.int 1))) aNil)) aNil)) (.name 1)
      (sIf (tNotF (tTru (eFn anyD (aCons (eComp (iA (eVar 0)) (.tup [(.name 2), (.name 3)]) cYes (eOp ixD (eVar 3) (eVar 1)) [2, 3]) aNil))))
      (sRet (eTup (aCons (eC (.str "out")) (aCons (eVar 1) aNil)))) sNil))
      (sRet (eC .non))))
def F__told_leaf : Fn := fnSem 4 1 g__told_leaf
-- _cases_with (k73)
def g__cases_with : Sx :=
  (sRet (eComp (iA (eVar 0)) (.name 3) (tst (eOp eqD (eOp ixD (eOp ixD (eVar 3) (eC (.int 0))) (eVar 1)) (eVar 2))) (eVar 3) [3]))
def F__cases_with : Fn := fnSem 4 3 g__cases_with
-- _without (k73)
def g__without : Sx :=
  (sRet (eComp (iA (eVar 0)) (.name 2) (tst (eOp neD (eVar 2) (eVar 1))) (eVar 2) [2]))
def F__without : Fn := fnSem 3 2 g__without
-- laid (k73)
def g_laid : Sx :=
  (sRet (eFn tupleD (aCons (eComp (iA (eVar 1)) (.name 2) cYes (eIf (tst (eOp isN (eVar 2) (eC .non))) (eC .non) (eOp ixD (eOp ixD (eVar 0) (eC (.int 0))) (eVar 2))) [2]) aNil)))
def F_laid : Fn := fnSem 3 2 g_laid
-- told_sights (k73)
def g_told_sights : Sx :=
  (sRet (eComp (iA (eVar 1)) (.tup [(.name 2), (.name 3), (.name 4)]) cYes (eTup (aCons (eVar 2) (aCons (eVar 3) (aCons (eOp ixD (eOp ixD (eVar 0) (eC (.int 0))) (eVar 4)) aNil)))) [2, 3, 4]))
def F_told_sights : Fn := fnSem 5 2 g_told_sights
-- holes_fault (k73)
def g_holes_fault : Sx :=
  (sSeq (sIf (tOrF (tNotF (tTru (eUn (isiD ["list", "tuple"]) (eVar 1)))) (tNotF (tst (eChain leD leD (eC (.int 1)) (eFn lenD (aCons (eVar 1) aNil)) (eC (.int 60))))))
      (sRet (eUn negD (eC (.int 1)))) sNil)
      (sSeq (sSet 2 (eC (.int 0)))
      (sSeq (sFor (iE (aCons (eVar 1) aNil)) (.tup [(.name 3), (.name 4)])
      (sSeq (sSet 2 (eOp addD (eVar 2) (eFn intD (aCons (eOp isN (eVar 4) (eC .non)) aNil))))
      (sIf (tOrF (tst (eOp gtD (eVar 2) (eC (.int 4)))) (tAndF (tst (eOp notN (eVar 4) (eC .non))) (tOrF (tNotF (tTru (eUn (isiD ["str"]) (eVar 4)))) (tst (eOp notInD (eVar 4) (eOp ixD (eVar 0) (eC (.int 0))))))))
      (sRet (eVar 3)) sNil)))
      (sRet (eC .non)))))
def F_holes_fault : Fn := fnSem 5 2 g_holes_fault
-- marks_standing (k73)
def g_marks_standing : Sx :=
  (sRet (eFn tupleD (aCons (eComp (iA (eLock (eMeth F_Table_marks (eVar 0) aNil))) (.name 3) (tTru (eFn anyD (aCons (eComp (iA (eVar 1)) (.name 4) cYes (eOp eqD (eOp ixD (eVar 4) (eVar 2)) (eVar 3)) [4]) aNil))) (eVar 3) [3]) aNil)))
def F_marks_standing : Fn := fnSem 5 3 g_marks_standing
-- is_moment (k73)
def g_is_moment : Sx :=
  (sRet (eAnd (eCall F_is_number (aCons (eVar 2) (aCons (eC (.int 0)) (aCons (eFn lenD (aCons (eVar 1) aNil)) aNil)))) (eCall F_is_number (aCons (eVar 3) (aCons (eC (.int 0)) (aCons (eOp subD (eFn lenD (aCons (eVar 0) aNil)) (eC (.int 1))) aNil))))))
def F_is_moment : Fn := fnSem 4 4 g_is_moment
-- _holes_fault (k73)
def g__holes_fault : Sx :=
  (sSeq (sIf (tOrF (tNotF (tTru (eCall F_is_listing (aCons (eVar 1) aNil)))) (tNotF (tst (eChain leD leD (eC (.int 1)) (eFn lenD (aCons (eVar 1) aNil)) (eC (.int 60))))))
      (sRet (eUn negD (eC (.int 1)))) sNil)
      (sSeq (sSet 2 (eMeth F_Table_marks (eVar 0) aNil))
      (sSeq (sSet 3 (eC (.int 0)))
      (sSeq (sFor (iE (aCons (eVar 1) aNil)) (.tup [(.name 4), (.name 5)])
      (sSeq (sIf (tst (eOp isN (eVar 5) (eC .non)))
      (sAug 3 (eC (.int 1)) (fun i j => i + j)) (sIf (tst (eOp notInD (eVar 5) (eVar 2)))
      (sRet (eVar 4)) sNil))
      (sIf (tst (eOp gtD (eVar 3) (eC (.int 4))))
      (sRet (eVar 4)) sNil)))
      (sRet (eC .non))))))
def F__holes_fault : Fn := fnSem 6 2 g__holes_fault
-- _is_leaf (k73)
def g__is_leaf : Sx :=
  (sSeq (sIf (tTru (eCall F_has_word (aCons (eVar 1) (aCons (eC (.str "fits")) (aCons (eC (.int 0)) aNil)))))
      (sRet (eFn allD (aCons (eComp (iA (eVar 0)) (.tup [(.name 2), (.name 3)]) cYes (eFn allD (aCons (eVar 3) aNil)) [2, 3]) aNil))) sNil)
      (sSeq (sIf (tOrF (tNotF (tTru (eCall F_has_word (aCons (eVar 1) (aCons (eC (.str "out")) (aCons (eC (.int 1)) aNil)))))) (tNotF (tTru (eCall F_is_number (aCons (eOp ixD (eVar 1) (eC (.int 1))) (aCons (eC (.int 0)) (aCons (eOp subD (eFn lenD (aCons (eOp ixD (eOp ixD (eVar 0) (eC (.int 0))) (eC (.int 1))) aNil)) (eC (.int 1))) aNil)))))))
      (sRet (eC (.bl false))) sNil)
      (sRet (eNot (eFn anyD (aCons (eComp (iA (eVar 0)) (.tup [(.name 2), (.name 3)]) cYes (eOp ixD (eVar 3) (eOp ixD (eVar 1) (eC (.int 1)))) [2, 3]) aNil))))))
def F__is_leaf : Fn := fnSem 4 2 g__is_leaf
-- _is_place (k73)
def g__is_place : Sx :=
  (sRet (eAnd (eOp gtD (eFn lenD (aCons (eVar 1) aNil)) (eC (.int 0))) (eAnd (eCall F_is_number (aCons (eVar 0) (aCons (eC (.int 0)) (aCons (eOp ixD (eVar 1) (eUn negD (eC (.int 1)))) aNil)))) (eOp inD (eVar 0) (eVar 1)))))
def F__is_place : Fn := fnSem 2 2 g__is_place
-- _is_box (k73)
def g__is_box : Sx :=
  (sSeq (sIf (tOrF (tNotF (tTru (eUn (isiD ["tuple"]) (eVar 2)))) (tst (eOp neD (eFn lenD (aCons (eVar 2) aNil)) (eFn lenD (aCons (eVar 1) aNil)))))
      (sRet (eC (.bl false))) sNil)
      (sRet (eFn allD (aCons (eComp (iA (eVar 2)) (.name 3) cYes (eOr (eOp isN (eVar 3) (eC .non)) (eOp inD (eVar 3) (eMeth F_Table_marks (eVar 0) aNil))) [3]) aNil))))
def F__is_box : Fn := fnSem 4 3 g__is_box
-- way_2 (k73)
def g_way_2 : Sx :=
  (sSeq (sSet 3 (eLst (aCons (eLock (eFn listD (aCons (eVar 1) aNil))) aNil)))
      (sSeq (sFor (iA (eVar 2)) (.name 4)
      (sOn 3 (eLock (eCall F_passed (aCons (eVar 0) (aCons (eOp ixD (eVar 3) (eUn negD (eC (.int 1)))) (aCons (eTup (aCons (eVar 4) aNil)) aNil))))) appD))
      (sRet (eVar 3))))
def F_way_2 : Fn := fnSem 5 3 g_way_2
-- lword_fault (k73)
def g_lword_fault : Sx :=
  (sSeq (sIf (tOrF (tNotF (tTru (eUn (isiD ["list", "tuple"]) (eVar 1)))) (tst (eOp gtD (eFn lenD (aCons (eVar 1) aNil)) (eC (.int 60)))))
      (sRet (eUn negD (eC (.int 1)))) sNil)
      (sSeq (sSet 2 (eComp (iE (aCons (eVar 1) aNil)) (.tup [(.name 3), (.name 4)]) (tNotF (tTru (eCall F_is_number (aCons (eVar 4) (aCons (eC (.int 0)) (aCons (eOp subD (eVar 0) (eC (.int 2))) aNil)))))) (eVar 3) [3, 4]))
      (sRet (eIf (tst (eOp neD (eVar 2) (eLst aNil))) (eOp ixD (eVar 2) (eC (.int 0))) (eC .non)))))
def F_lword_fault : Fn := fnSem 5 2 g_lword_fault
-- lis_sight (k73)
def g_lis_sight : Sx :=
  (sSeq (sIf (tOrF (tNotF (tTru (eUn (isiD ["tuple"]) (eVar 3)))) (tOrF (tst (eOp neD (eFn lenD (aCons (eVar 3) aNil)) (eC (.int 3)))) (tOrF (tNotF (tTru (eUn (isiD ["str"]) (eOp ixD (eVar 3) (eC (.int 2)))))) (tst (eOp notInD (eOp ixD (eVar 3) (eC (.int 2))) (eOp ixD (eVar 0) (eC (.int 0))))))))
      (sRet (eC (.bl false))) sNil)
      (sRet (eAnd (eCall F_is_number (aCons (eOp ixD (eVar 3) (eC (.int 0))) (aCons (eC (.int 0)) (aCons (eVar 2) aNil)))) (eCall F_is_number (aCons (eOp ixD (eVar 3) (eC (.int 1))) (aCons (eC (.int 0)) (aCons (eOp subD (eVar 1) (eC (.int 1))) aNil)))))))
def F_lis_sight : Fn := fnSem 4 4 g_lis_sight
-- holes_taken (k73)
def g_holes_taken : Sx :=
  (sSeq (sSet 2 (eCall F__holes_fault (aCons (eVar 0) (aCons (eVar 1) aNil))))
      (sFrz 2 (sSeq (sIf (tst (eOp notN (eVar 2) (eC .non)))
      (sFrz 2 (fun _ => M.lift none)) sNil)
      (sRet (eFn tupleD (aCons (eVar 1) aNil))))))
def F_holes_taken : Fn := fnSem 3 2 g_holes_taken
-- is_sight (k73)
def g_is_sight : Sx :=
  (sSeq (sIf (tOrF (tNotF (tTru (eUn (isiD ["tuple"]) (eVar 3)))) (tst (eOp neD (eFn lenD (aCons (eVar 3) aNil)) (eC (.int 3)))))
      (sRet (eC (.bl false))) sNil)
      (sSeq (sAsg (eVar 3) (.tup [(.name 4), (.name 5), (.name 6)]))
      (sRet (eAnd (eCall F_is_moment (aCons (eVar 1) (aCons (eVar 2) (aCons (eVar 4) (aCons (eVar 5) aNil))))) (eOp inD (eVar 6) (eMeth F_Table_marks (eVar 0) aNil))))))
def F_is_sight : Fn := fnSem 7 4 g_is_sight
-- _short_word_fault (k73)
def g__short_word_fault : Sx :=
  (sSeq (sIf (tAndF (tTru (eCall F_is_listing (aCons (eVar 1) aNil))) (tst (eOp gtD (eFn lenD (aCons (eVar 1) aNil)) (eC (.int 60)))))
      (sRet (eUn negD (eC (.int 1)))) sNil)
      (sRet (eCall F_word_fault (aCons (eVar 0) (aCons (eVar 1) aNil)))))
def F__short_word_fault : Fn := fnSem 2 2 g__short_word_fault
-- small_pairs (k73)
def g_small_pairs : Sx :=
  (sSeq (sPar [2, 3, 4] (aCons (eCall F_draw (aCons (eVar 0) (aCons (eC (.int 7)) aNil))) (aCons (eCall F_shuffled (aCons (eVar 0) (aCons (eLock (eRgL (rg1 (eVar 1)))) aNil))) (aCons (eRgL (rg1 (eVar 1))) aNil))))
      (sFrz 4 (sSeq (sIf (tst (eOp eqD (eVar 2) (eC (.int 0))))
      (sFrz 4 (sRet (eComp (iA (eVar 4)) (.name 5) cYes (eLock (eComp (iA (eVar 4)) (.name 6) cYes (eTup (aCons (eVar 6) (aCons (eVar 5) aNil))) [6])) [5]))) sNil)
      (sFrz 4 (sSeq (sIf (tst (eOp eqD (eVar 2) (eC (.int 1))))
      (sFrz 4 (sRet (eComp (iA (eVar 4)) (.name 5) cYes (eLock (eComp (iA (eVar 4)) (.name 6) cYes (eTup (aCons (eOp ixD (eVar 3) (eVar 6)) (aCons (eIdx (eVar 3) (eVar 5)) aNil))) [6])) [5]))) sNil)
      (sFrz 4 (sSeq (sIf (tst (eOp eqD (eVar 2) (eC (.int 2))))
      (sFrz 4 (sRet (eComp (iA (eVar 4)) (.name 5) cYes (eLock (eComp (iA (eVar 4)) (.name 6) cYes (eTup (aCons (eFn minD (aCons (eVar 5) (aCons (eVar 6) aNil))) (aCons (eFn maxD (aCons (eVar 5) (aCons (eVar 6) aNil))) aNil))) [6])) [5]))) sNil)
      (sFrz 4 (sSeq (sIf (tst (eOp eqD (eVar 2) (eC (.int 3))))
      (sFrz 4 (sRet (eComp (iA (eVar 4)) (.name 5) cYes (eLock (eComp (iA (eVar 4)) (.name 6) cYes (eTup (aCons (eVar 6) (aCons (eOp modD (eOp subD (eOp mulD (eC (.int 2)) (eVar 6)) (eVar 5)) (eVar 1)) aNil))) [6])) [5]))) sNil)
      (sSeq (sIf (tAndF (tst (eOp eqD (eVar 2) (eC (.int 4)))) (tst (eOp eqD (eVar 1) (eC (.int 3)))))
      (sRet (eLst (aCons (eLock (eLst (aCons (eTup (aCons (eC (.int 0)) (aCons (eC (.int 0)) aNil))) (aCons (eTup (aCons (eC (.int 1)) (aCons (eC (.int 0)) aNil))) (aCons (eTup (aCons (eC (.int 2)) (aCons (eC (.int 0)) aNil))) aNil))))) (aCons (eLock (eLst (aCons (eTup (aCons (eC (.int 0)) (aCons (eC (.int 1)) aNil))) (aCons (eTup (aCons (eC (.int 1)) (aCons (eC (.int 0)) aNil))) (aCons (eTup (aCons (eC (.int 2)) (aCons (eC (.int 0)) aNil))) aNil))))) (aCons (eLock (eLst (aCons (eTup (aCons (eC (.int 0)) (aCons (eC (.int 2)) aNil))) (aCons (eTup (aCons (eC (.int 2)) (aCons (eC (.int 0)) aNil))) (aCons (eTup (aCons (eC (.int 1)) (aCons (eC (.int 0)) aNil))) aNil))))) aNil))))) sNil)
      (sFrz 4 (sRet (eComp (iA (eVar 4)) (.name 5) cYes (eLock (eComp (iA (eVar 4)) (.name 6) cYes (eTup (aCons (eLock (eCall F_draw (aCons (eVar 0) (aCons (eVar 1) aNil)))) (aCons (eLock (eCall F_draw (aCons (eVar 0) (aCons (eVar 1) aNil)))) aNil))) [6])) [5])))))))))))))
def F_small_pairs : Fn := fnSem 7 2 g_small_pairs
-- blank (k73)
def g_blank : Sx :=
  (sSeq (sSet 3 (eSl (eCall F_shuffled (aCons (eVar 0) (aCons (eLock (eRgL (rg1 (eFn lenD (aCons (eVar 1) aNil))))) aNil))) oNone (oSome (eCall F_draw (aCons (eVar 0) (aCons (eOp addD (eVar 2) (eC (.int 1))) aNil))))))
      (sRet (eComp (iR1 (aCons (eFn lenD (aCons (eVar 1) aNil)) aNil)) (.name 4) cYes (eIf (tst (eOp inD (eVar 4) (eVar 3))) (eC .non) (eOp ixD (eVar 1) (eVar 4))) [4])))
def F_blank : Fn := fnSem 5 3 g_blank
-- sights (k73)
def g_sights : Sx :=
  (sSeq (sPar [5, 6] (aCons (eCall F_way_2 (aCons (eVar 1) (aCons (eVar 2) (aCons (eVar 3) aNil)))) (aCons (eLst aNil) aNil)))
      (sFrz 8 (sFrz 9 (sFrz 10 (sSeq (sFor (iR1 (aCons (eCall F_draw (aCons (eVar 0) (aCons (eOp addD (eVar 4) (eC (.int 1))) aNil))) aNil)) (.name 7)
      (sSeq (sPar [8, 9] (aCons (eCall F_pick (aCons (eVar 0) (aCons (eLock (eLst (aCons (eC (.int 0)) (aCons (eFn lenD (aCons (eVar 3) aNil)) (aCons (eLock (eCall F_draw (aCons (eVar 0) (aCons (eFn lenD (aCons (eVar 5) aNil)) aNil)))) aNil))))) aNil))) (aCons (eCall F_draw (aCons (eVar 0) (aCons (eFn lenD (aCons (eVar 2) aNil)) aNil))) aNil)))
      (sSeq (sSet 10 (eCall F_draw (aCons (eVar 0) (aCons (eFn lenD (aCons (eOp ixD (eVar 1) (eC (.int 0))) aNil)) aNil))))
      (sFrz 8 (sFrz 9 (sFrz 10 (sOn 6 (eTup (aCons (eVar 8) (aCons (eVar 9) (aCons (eIf (tst (eOp eqD (eCall F_draw (aCons (eVar 0) (aCons (eC (.int 4)) aNil))) (eC (.int 0)))) (eVar 10) (eOp ixD (eOp ixD (eVar 5) (eVar 8)) (eVar 9))) aNil)))) appD)))))))
      (sRet (eVar 6)))))))
def F_sights : Fn := fnSem 11 5 g_sights
-- due_5 (k73)
def g_due_5 : Sx :=
  (sSeq (sSet 2 (eCall F_holes_fault (aCons (eVar 0) (aCons (eOp ixD (eVar 1) (eC (.int 0))) aNil))))
      (sFrz 2 (sSeq (sIf (tst (eOp notN (eVar 2) (eC .non)))
      (sFrz 2 (sRet (eTup (aCons (eC (.str "row")) (aCons (eVar 2) aNil))))) sNil)
      (sSeq (sPar [3, 2] (aCons (eFn lenD (aCons (eOp ixD (eVar 1) (eC (.int 0))) aNil)) (aCons (eCall F_lword_fault (aCons (eFn lenD (aCons (eOp ixD (eVar 1) (eC (.int 0))) aNil)) (aCons (eOp ixD (eVar 1) (eC (.int 1))) aNil))) aNil)))
      (sFrz 2 (sSeq (sIf (tst (eOp notN (eVar 2) (eC .non)))
      (sFrz 2 (sRet (eTup (aCons (eC (.str "word")) (aCons (eVar 2) aNil))))) sNil)
      (sSeq (sIf (tOrF (tNotF (tTru (eUn (isiD ["list", "tuple"]) (eOp ixD (eVar 1) (eC (.int 2)))))) (tst (eOp gtD (eFn lenD (aCons (eOp ixD (eVar 1) (eC (.int 2))) aNil)) (eC (.int 8)))))
      (sRet (eTup (aCons (eC (.str "sight")) (aCons (eUn negD (eC (.int 1))) aNil)))) sNil)
      (sSeq (sSet 4 (eComp (iE (aCons (eOp ixD (eVar 1) (eC (.int 2))) aNil)) (.tup [(.name 5), (.name 6)]) (tNotF (tTru (eCall F_lis_sight (aCons (eVar 0) (aCons (eVar 3) (aCons (eFn lenD (aCons (eOp ixD (eVar 1) (eC (.int 1))) aNil)) (aCons (eVar 6) aNil))))))) (eVar 5) [5, 6]))
      (sRet (eIf (tst (eOp neD (eVar 4) (eLst aNil))) (eTup (aCons (eC (.str "sight")) (aCons (eOp ixD (eVar 4) (eC (.int 0))) aNil))) (eC .non)))))))))))
def F_due_5 : Fn := fnSem 7 2 g_due_5
-- _sights_fault (k73)
def g__sights_fault : Sx :=
  (sSeq (sIf (tOrF (tNotF (tTru (eCall F_is_listing (aCons (eVar 3) aNil)))) (tst (eOp gtD (eFn lenD (aCons (eVar 3) aNil)) (eC (.int 8)))))
      (sRet (eUn negD (eC (.int 1)))) sNil)
      (sSeq (sFor (iE (aCons (eVar 3) aNil)) (.tup [(.name 4), (.name 5)])
      (sIf (tNotF (tTru (eCall F_is_sight (aCons (eVar 0) (aCons (eVar 1) (aCons (eVar 2) (aCons (eVar 5) aNil)))))))
      (sRet (eVar 4)) sNil))
      (sRet (eC .non))))
def F__sights_fault : Fn := fnSem 6 4 g__sights_fault
-- asked_taken (k73)
def g_asked_taken : Sx :=
  (sSeq (sSet 4 (eCall F_holes_taken (aCons (eVar 0) (aCons (eVar 1) aNil))))
      (sSeq (sSet 5 (eCall F__short_word_fault (aCons (eFn lenD (aCons (eVar 4) aNil)) (aCons (eVar 2) aNil))))
      (sFrz 5 (sSeq (sIf (tst (eOp notN (eVar 5) (eC .non)))
      (sFrz 5 (fun _ => M.lift none)) sNil)
      (sFrz 4 (sSeq (sSet 6 (eCall F__sights_fault (aCons (eVar 0) (aCons (eVar 4) (aCons (eVar 2) (aCons (eVar 3) aNil))))))
      (sFrz 6 (sSeq (sIf (tst (eOp notN (eVar 6) (eC .non)))
      (sFrz 6 (fun _ => M.lift none)) sNil)
      (sFrz 4 (sRet (eTup (aCons (eVar 4) (aCons (eFn tupleD (aCons (eVar 2) aNil)) (aCons (eLock (eFn listD (aCons (eVar 3) aNil))) aNil))))))))))))))
def F_asked_taken : Fn := fnSem 7 4 g_asked_taken
-- every_2 (k74)
def g_every_2 : Sx :=
  (sSeq (sSet 2 (eLst (aCons (eLock (eLst aNil)) aNil)))
      (sFrz 2 (sFrz 4 (sSeq (sFor (iA (eVar 0)) (.name 3)
      (sSeq (sSet 4 (eIf (tst (eOp isN (eVar 3) (eC .non))) (eRgL (rg1 (eVar 1))) (eLst (aCons (eVar 3) aNil))))
      (sFrz 2 (sFrz 4 (sSet 2 (eFn sumD (aCons (eComp (iA (eVar 2)) (.name 5) cYes (eLock (eComp (iA (eVar 4)) (.name 6) cYes (eLock (eOp addD (eVar 5) (eLst (aCons (eVar 6) aNil)))) [6])) [5]) (aCons (eLst aNil) aNil))))))))
      (sRet (eVar 2))))))
def F_every_2 : Fn := fnSem 7 2 g_every_2
-- in_order (k74)
def g_in_order : Sx :=
  (sRet (eFn tupleD (aCons (eComp (iR1 (aCons (eFn lenD (aCons (eOp ixD (eVar 0) (eC (.int 0))) aNil)) aNil)) (.name 2) (tst (eOp inD (eVar 2) (eVar 1))) (eOp ixD (eOp ixD (eVar 0) (eC (.int 0))) (eVar 2)) [2]) aNil)))
def F_in_order : Fn := fnSem 3 2 g_in_order
-- shows (k74)
def g_shows : Sx :=
  (sSeq (sSet 4 (eCall F_way_2 (aCons (eVar 0) (aCons (eVar 1) (aCons (eVar 2) aNil)))))
      (sRet (eOp eqD (eComp (iA (eVar 3)) (.name 5) (tst (eOp neD (eOp ixD (eOp ixD (eVar 4) (eOp ixD (eVar 5) (eC (.int 0)))) (eOp ixD (eVar 5) (eC (.int 1)))) (eOp ixD (eVar 5) (eC (.int 2))))) (eVar 5) [5]) (eLst aNil))))
def F_shows : Fn := fnSem 6 4 g_shows
-- rows_right (k76)
def g_rows_right : Sx :=
  (sSeq (sSet 6 (eComp (iA (eVar 5)) (.name 9) cYes (eLock (eComp (iA (eVar 9)) (.name 10) cYes (eIdx (eOp ixD (eVar 1) (eC (.int 0))) (eVar 10)) [10])) [9]))
      (sSeq (sIf (tst (eOp neD (eComp (iR2 (aCons (eC (.int 1)) (aCons (eFn lenD (aCons (eVar 6) aNil)) aNil))) (.name 11) (tst (eOp geD (eOp ixD (eVar 6) (eOp subD (eVar 11) (eC (.int 1)))) (eOp ixD (eVar 6) (eVar 11)))) (eVar 11) [11]) (eLst aNil)))
      (sRet (eC (.bl false))) sNil)
      (sFrz 6 (sSeq (sFor (iA (eLock (eOp addD (eOp addD (eSl (eVar 6) oNone (oSome (eC (.int 1)))) (eSl (eVar 6) (oSome (eUn negD (eC (.int 1)))) oNone)) (eIf (tst (eOp neD (eVar 6) (eLst aNil))) (eLst (aCons (eLock (eCall F_pick (aCons (eVar 0) (aCons (eVar 6) aNil)))) aNil)) (eLst aNil))))) (.name 7)
      (sSeq (sIf (tst (eOp neD (eComp (iE (aCons (eVar 2) aNil)) (.tup [(.name 12), (.name 10)]) (tAndF (tst (eOp notN (eVar 10) (eC .non))) (tst (eOp neD (eVar 10) (eOp ixD (eVar 7) (eVar 12))))) (eVar 12) [12, 10]) (eLst aNil)))
      (sRet (eC (.bl false))) sNil)
      (sSeq (sSet 8 (eCall F_way_2 (aCons (eVar 1) (aCons (eVar 7) (aCons (eVar 3) aNil)))))
      (sIf (tst (eOp neD (eComp (iA (eVar 4)) (.name 13) (tst (eOp neD (eOp ixD (eOp ixD (eVar 8) (eOp ixD (eVar 13) (eC (.int 0)))) (eOp ixD (eVar 13) (eC (.int 1)))) (eOp ixD (eVar 13) (eC (.int 2))))) (eVar 13) [13]) (eLst aNil)))
      (sRet (eC (.bl false))) sNil))))
      (sRet (eC (.bl true)))))))
def F_rows_right : Fn := fnSem 14 6 g_rows_right
-- drawn_right (k76)
def g_drawn_right : Sx :=
  (sFrz 7 (sSeq (sFor (iR1 (aCons (eC (.int 4)) aNil)) (.name 6)
      (sSeq (sSet 7 (eComp (iA (eVar 2)) (.name 10) cYes (eLock (eIf (tst (eOp isN (eVar 10) (eC .non))) (eCall F_draw (aCons (eVar 0) (aCons (eFn lenD (aCons (eOp ixD (eVar 1) (eC (.int 0))) aNil)) aNil))) (eStill (eVar 10)))) [10]))
      (sFrz 7 (sSeq (sSet 8 (eCall F_way_2 (aCons (eVar 1) (aCons (eVar 7) (aCons (eVar 3) aNil)))))
      (sSeq (sSet 9 (eOp eqD (eComp (iA (eVar 4)) (.name 11) (tst (eOp neD (eOp ixD (eOp ixD (eVar 8) (eOp ixD (eVar 11) (eC (.int 0)))) (eOp ixD (eVar 11) (eC (.int 1)))) (eOp ixD (eVar 11) (eC (.int 2))))) (eVar 11) [11]) (eLst aNil)))
      (sFrz 7 (sIf (tst (eOp neD (eOp inD (eCall F_laid (aCons (eVar 1) (aCons (eVar 7) aNil))) (eVar 5)) (eVar 9)))
      (sRet (eC (.bl false))) sNil)))))))
      (sRet (eC (.bl true)))))
def F_drawn_right : Fn := fnSem 12 6 g_drawn_right
-- case (k76)
def g_case : Sx :=
  (sSeq (sSet 5 (eCall F_raw (aCons (eVar 0) (aCons (eLock (eCall F_small_pairs (aCons (eVar 0) (aCons (eLock (eOp addD (eC (.int 1)) (eCall F_draw (aCons (eVar 0) (aCons (eVar 1) aNil))))) aNil)))) aNil))))
      (sFrz 5 (sSeq (sSet 6 (eCall F_numbers (aCons (eVar 0) (aCons (eVar 5) (aCons (eLock (eOp addD (eC (.int 1)) (eCall F_draw (aCons (eVar 0) (aCons (eVar 2) aNil))))) aNil)))))
      (sFrz 6 (sSeq (sPar [7, 8] (aCons (eCall F_word (aCons (eVar 0) (aCons (eFn lenD (aCons (eVar 6) aNil)) (aCons (eVar 3) aNil)))) (aCons (eCall F_blank (aCons (eVar 0) (aCons (eVar 6) (aCons (eVar 4) aNil)))) aNil)))
      (sFrz 5 (sFrz 6 (sFrz 7 (sFrz 8 (sRet (eTup (aCons (eVar 5) (aCons (eVar 8) (aCons (eVar 7) (aCons (eLock (eCall F_sights (aCons (eVar 0) (aCons (eVar 5) (aCons (eVar 6) (aCons (eVar 7) (aCons (eC (.int 5)) aNil))))))) aNil)))))))))))))))
def F_case : Fn := fnSem 9 5 g_case
-- cases (k77)
def g_cases : Sx :=
  (sSeq (sSet 4 (eLst aNil))
      (sSeq (sFor (iA (eLock (eCall F_every_2 (aCons (eVar 1) (aCons (eFn lenD (aCons (eOp ixD (eVar 0) (eC (.int 0))) aNil)) aNil))))) (.name 5)
      (sSeq (sSet 6 (eCall F_way_2 (aCons (eVar 0) (aCons (eVar 5) (aCons (eVar 2) aNil)))))
      (sOn 4 (eTup (aCons (eVar 5) (aCons (eLock (eComp (iE (aCons (eVar 3) aNil)) (.tup [(.name 7), (.name 8)]) (tst (eOp neD (eOp ixD (eOp ixD (eVar 6) (eOp ixD (eVar 8) (eC (.int 0)))) (eOp ixD (eVar 8) (eC (.int 1)))) (eOp ixD (eVar 8) (eC (.int 2))))) (eVar 7) [7, 8])) aNil))) appD)))
      (sRet (eVar 4))))
def F_cases : Fn := fnSem 9 4 g_cases
-- is_box (k79)
def g_is_box : Sx :=
  (sSeq (sIf (tOrF (tNotF (tTru (eUn (isiD ["tuple"]) (eVar 2)))) (tst (eOp neD (eFn lenD (aCons (eVar 2) aNil)) (eVar 1))))
      (sRet (eC (.bl false))) sNil)
      (sRet (eOp eqD (eComp (iA (eVar 2)) (.name 3) (tAndF (tst (eOp notN (eVar 3) (eC .non))) (tOrF (tNotF (tTru (eUn (isiD ["str"]) (eVar 3)))) (tst (eOp notInD (eVar 3) (eOp ixD (eVar 0) (eC (.int 0))))))) (eVar 3) [3]) (eLst aNil))))
def F_is_box : Fn := fnSem 4 3 g_is_box
-- are_boxes (k79)
def g_are_boxes : Sx :=
  (sSeq (sSet 4 (eComp (iE (aCons (eVar 1) aNil)) (.tup [(.name 10), (.name 11)]) (tst (eOp isN (eVar 11) (eC .non))) (eVar 10) [10, 11]))
      (sSeq (sIf (tNotF (tTru (eUn (isiD ["list"]) (eVar 3))))
      (sRet (eC (.bl false))) sNil)
      (sSeq (sIf (tst (eOp neD (eComp (iA (eVar 3)) (.name 9) (tNotF (tTru (eCall F_is_box (aCons (eVar 0) (aCons (eFn lenD (aCons (eVar 4) aNil)) (aCons (eVar 9) aNil)))))) (eVar 9) [9]) (eLst aNil)))
      (sRet (eC (.bl false))) sNil)
      (sFrz 4 (sSeq (sFor (iA (eVar 2)) (.tup [(.name 5), (.name 6)])
      (sFrz 4 (sSeq (sPar [7, 8] (aCons (eComp (iA (eVar 4)) (.name 10) cYes (eOp ixD (eOp ixD (eVar 0) (eC (.int 0))) (eOp ixD (eVar 5) (eVar 10))) [10]) (aCons (eC (.int 0)) aNil)))
      (sSeq (sFor (iA (eVar 3)) (.name 9)
      (sSet 8 (eOp addD (eVar 8) (eFn intD (aCons (eOp eqD (eComp (iR1 (aCons (eFn lenD (aCons (eVar 4) aNil)) aNil)) (.name 12) (tst (eOp notInD (eOp ixD (eVar 9) (eVar 12)) (eTup (aCons (eC .non) (aCons (eOp ixD (eVar 7) (eVar 12)) aNil))))) (eVar 12) [12]) (eLst aNil)) aNil)))))
      (sIf (tst (eOp neD (eVar 8) (eFn intD (aCons (eOp eqD (eVar 6) (eLst aNil)) aNil))))
      (sRet (eC (.bl false))) sNil)))))
      (sRet (eC (.bl true))))))))
def F_are_boxes : Fn := fnSem 13 4 g_are_boxes
-- size_2 (k80)
def g_size_2 : Sx :=
  (sSeq (sSet 2 (eC (.int 1)))
      (sSeq (sFor (iR1 (aCons (eVar 1) aNil)) (.name 3)
      (sSet 2 (eOp mulD (eVar 2) (eFn lenD (aCons (eOp ixD (eVar 0) (eC (.int 0))) aNil)))))
      (sRet (eVar 2))))
def F_size_2 : Fn := fnSem 4 2 g_size_2
-- rows_right_2 (k80)
def g_rows_right_2 : Sx :=
  (sSeq (sSet 4 (eComp (iE (aCons (eOp ixD (eVar 0) (eC (.int 0))) aNil)) (.tup [(.name 9), (.name 10)]) (tst (eOp isN (eVar 10) (eC .non))) (eVar 9) [9, 10]))
      (sSeq (sSet 5 (eComp (iA (eVar 1)) (.tup [(.name 11), (.name 12)]) (tst (eOp eqD (eOp ixD (eVar 11) (eC (.int 0))) (eC (.str "fits")))) (eVar 12) [11, 12]))
      (sFrz 4 (sFrz 5 (sSeq (sFor (iA (eVar 3)) (.name 6)
      (sFrz 5 (sSeq (sSet 7 (eComp (iA (eVar 5)) (.name 13) (tst (eOp eqD (eComp (iA (eVar 13)) (.name 9) (tst (eOp neD (eOp ixD (eVar 13) (eVar 9)) (eOp ixD (eVar 6) (eVar 9)))) (eVar 9) [9]) (eLst aNil))) (eVar 13) [13]))
      (sFrz 4 (sSeq (sSet 8 (eComp (iA (eVar 2)) (.name 14) (tst (eOp eqD (eComp (iE (aCons (eVar 4) aNil)) (.tup [(.name 15), (.name 9)]) (tst (eOp notInD (eOp ixD (eVar 14) (eVar 15)) (eTup (aCons (eC .non) (aCons (eOp ixD (eVar 6) (eVar 9)) aNil))))) (eVar 15) [15, 9]) (eLst aNil))) (eVar 14) [14]))
      (sIf (tOrF (tst (eOp neD (eFn lenD (aCons (eVar 7) aNil)) (eC (.int 1)))) (tst (eOp neD (eFn lenD (aCons (eVar 8) aNil)) (eC (.int 1)))))
      (sRet (eC (.bl false))) sNil))))))
      (sRet (eC (.bl true))))))))
def F_rows_right_2 : Fn := fnSem 16 4 g_rows_right_2
-- is_row_of (k81)
def g_is_row_of : Sx :=
  (sSeq (sIf (tOrF (tNotF (tTru (eUn (isiD ["tuple"]) (eVar 2)))) (tst (eOp neD (eFn lenD (aCons (eVar 2) aNil)) (eFn lenD (aCons (eVar 1) aNil)))))
      (sRet (eC (.bl false))) sNil)
      (sSeq (sIf (tst (eOp neD (eComp (iA (eVar 2)) (.name 3) (tOrF (tNotF (tTru (eUn (isiD ["str"]) (eVar 3)))) (tst (eOp notInD (eVar 3) (eOp ixD (eVar 0) (eC (.int 0)))))) (eVar 3) [3]) (eLst aNil)))
      (sRet (eC (.bl false))) sNil)
      (sRet (eOp eqD (eComp (iE (aCons (eVar 1) aNil)) (.tup [(.name 4), (.name 5)]) (tAndF (tst (eOp notN (eVar 5) (eC .non))) (tst (eOp neD (eOp ixD (eVar 2) (eVar 4)) (eOp ixD (eOp ixD (eVar 0) (eC (.int 0))) (eVar 5))))) (eVar 4) [4, 5]) (eLst aNil)))))
def F_is_row_of : Fn := fnSem 6 3 g_is_row_of
-- is_twice (k83)
def g_is_twice : Sx :=
  (sSeq (sSet 1 (eFn lenD (aCons (eVar 0) aNil)))
      (sSeq (sFor (iR1 (aCons (eVar 1) aNil)) (.name 2)
      (sFor (iR1 (aCons (eVar 1) aNil)) (.name 3)
      (sSeq (sAsg (eOp ixD (eOp ixD (eVar 0) (eVar 2)) (eVar 3)) (.tup [(.name 4), (.name 5)]))
      (sIf (tst (eOp neD (eOp ixD (eOp ixD (eVar 0) (eVar 4)) (eVar 5)) (eTup (aCons (eVar 2) (aCons (eVar 3) aNil)))))
      (sRet (eC (.bl false))) sNil))))
      (sRet (eC (.bl true)))))
def F_is_twice : Fn := fnSem 6 1 g_is_twice
-- two_words (k83)
def g_two_words : Sx :=
  (sSeq (sPar [3, 4] (aCons (eCall F_word (aCons (eVar 0) (aCons (eVar 1) (aCons (eC (.int 8)) aNil)))) (aCons (eCall F_word (aCons (eVar 0) (aCons (eVar 1) (aCons (eC (.int 8)) aNil)))) aNil)))
      (sSeq (sPar [5, 6] (aCons (eCall F_draw (aCons (eVar 0) (aCons (eOp subD (eVar 1) (eC (.int 2))) aNil))) (aCons (eCall F_draw (aCons (eVar 0) (aCons (eC (.int 3)) aNil))) aNil)))
      (sFrz 5 (sSeq (sSet 7 (eLst (aCons (eTup (aCons (eVar 5) (aCons (eOp addD (eVar 5) (eC (.int 1))) (aCons (eVar 5) aNil)))) (aCons (eTup (aCons (eOp addD (eVar 5) (eC (.int 1))) (aCons (eVar 5) (aCons (eOp addD (eVar 5) (eC (.int 1))) aNil)))) aNil))))
      (sFrz 8 (sFrz 9 (sSeq (sIf (tAndF (tst (eOp eqD (eVar 6) (eC (.int 1)))) (tst (eOp gtD (eVar 1) (eC (.int 3)))))
      (sSeq (sSet 8 (eCall F_draw (aCons (eVar 0) (aCons (eOp subD (eVar 1) (eC (.int 3))) aNil))))
      (sSeq (sSet 9 (eOp addD (eOp addD (eVar 8) (eC (.int 2))) (eCall F_draw (aCons (eVar 0) (aCons (eOp subD (eOp subD (eVar 1) (eC (.int 3))) (eVar 8)) aNil)))))
      (sFrz 8 (sFrz 9 (sSet 7 (eLst (aCons (eTup (aCons (eVar 8) (aCons (eVar 9) aNil))) (aCons (eTup (aCons (eVar 9) (aCons (eVar 8) aNil))) aNil)))))))) sNil)
      (sFrz 5 (sSeq (sIf (tAndF (tst (eOp eqD (eVar 6) (eC (.int 2)))) (tTru (eVar 2)))
      (sFrz 5 (sSet 7 (eLst (aCons (eTup (aCons (eVar 5) (aCons (eVar 5) aNil))) (aCons (eTup aNil) aNil))))) sNil)
      (sRet (eTup (aCons (eOp addD (eOp addD (eVar 3) (eOp ixD (eVar 7) (eC (.int 0)))) (eVar 4)) (aCons (eOp addD (eOp addD (eVar 3) (eOp ixD (eVar 7) (eC (.int 1)))) (eVar 4)) aNil)))))))))))))
def F_two_words : Fn := fnSem 10 3 g_two_words
-- lis_number (k84)
def g_lis_number : Sx :=
  (sRet (eAnd (eUn (isiD ["int"]) (eVar 0)) (eNot (eUn (isiD ["bool"]) (eVar 0)))))
def F_lis_number : Fn := fnSem 1 1 g_lis_number
-- right (k84)
def g_right : Sx :=
  (sSeq (sPar [4, 5] (aCons (eCall F_pick (aCons (eVar 0) (aCons (eOp ixD (eVar 1) (eC (.int 0))) aNil))) (aCons (eCall F_draw (aCons (eVar 0) (aCons (eOp addD (eFn lenD (aCons (eVar 3) aNil)) (eC (.int 1))) aNil))) aNil)))
      (sSeq (sSet 6 (eComp (iR1 (aCons (eCall F_draw (aCons (eVar 0) (aCons (eC (.int 4)) aNil))) aNil)) (.name 8) cYes (eLock (eCall F_draw (aCons (eVar 0) (aCons (eC (.int 5)) aNil)))) [8]))
      (sFrz 5 (sSeq (sSet 7 (eLst (aCons (eTup (aCons (eC (.str "table")) (aCons (eC (.str "b")) (aCons (eVar 2) aNil)))) (aCons (eTup (aCons (eC (.str "row")) (aCons (eC (.str "s")) (aCons (eC (.str "a")) (aCons (eLock (eCall F_pick (aCons (eVar 0) (aCons (eLock (eLst (aCons (eVar 3) (aCons (eLock (eFn listD (aCons (eVar 3) aNil))) aNil)))) aNil)))) aNil))))) (aCons (eTup (aCons (eC (.str "pass")) (aCons (eC (.str "r")) (aCons (eVar 5) aNil)))) aNil)))))
      (sFrz 4 (sFrz 6 (sSeq (sSet 7 (eOp addD (eVar 7) (eLst (aCons (eTup (aCons (eC (.str "word")) (aCons (eC (.str "r")) (aCons (eLock (eCall F_pick (aCons (eVar 0) (aCons (eLock (eLst (aCons (eFn tupleD (aCons (eVar 6) aNil)) (aCons (eVar 6) aNil)))) aNil)))) aNil)))) (aCons (eTup (aCons (eC (.str "carry")) (aCons (eC (.str "r")) (aCons (eVar 4) aNil)))) (aCons (eTup (aCons (eC (.str "drop")) (aCons (eC (.str "r")) aNil))) aNil))))))
      (sFrz 4 (sFrz 5 (sSeq (sSet 7 (eOp addD (eVar 7) (eLst (aCons (eTup (aCons (eC (.str "look")) (aCons (eC (.str "r")) (aCons (eVar 5) (aCons (eVar 4) aNil))))) (aCons (eTup (aCons (eC (.str "tell")) (aCons (eC (.str "r")) (aCons (eVar 5) (aCons (eVar 4) aNil))))) (aCons (eTup (aCons (eC (.str "twin")) (aCons (eC (.str "r")) (aCons (eC (.str "t")) aNil)))) aNil))))))
      (sRet (eCall F_pick (aCons (eVar 0) (aCons (eLock (eOp addD (eVar 7) (eLst (aCons (eTup (aCons (eC (.str "change")) (aCons (eC (.str "a")) (aCons (eVar 2) aNil)))) aNil)))) aNil))))))))))))))
def F_right : Fn := fnSem 9 4 g_right
-- of_kind (k85)
def g_of_kind : Sx :=
  (sRet (eComp (iA (eVar 0)) (.name 2) (tst (eOp eqD (eOp ixD (eOp ixD (eVar 0) (eVar 2)) (eC (.int 0))) (eVar 1))) (eVar 2) [2]))
def F_of_kind : Fn := fnSem 3 2 g_of_kind
-- room (k85)
def g_room : Sx :=
  (sRet (eOp subD (eC (.int 60)) (eFn sumD (aCons (eComp (iA (eOp ixD (eVar 0) (eC (.int 3)))) (.name 1) cYes (eIf (tst (eOp eqD (eOp ixD (eVar 1) (eC (.int 0))) (eC (.str "pass")))) (eC (.int 1)) (eFn lenD (aCons (eOp ixD (eVar 0) (eC (.int 2))) aNil))) [1]) aNil))))
def F_room : Fn := fnSem 2 1 g_room
-- step (k85)
def g_step : Sx :=
  (sSeq (sIf (tst (eOp eqD (eOp ixD (eVar 2) (eC (.int 0))) (eC (.str "pass"))))
      (sRet (eCall F_passed (aCons (eVar 0) (aCons (eVar 1) (aCons (eTup (aCons (eOp ixD (eVar 2) (eC (.int 1))) aNil)) aNil))))) sNil)
      (sSeq (sPar [3, 4] (aCons (eOp ixD (eVar 2) (eC (.int 1))) (aCons (eLst aNil) aNil)))
      (sSeq (sFor (iA (eVar 1)) (.name 5)
      (sSeq (sAsg (eOp ixD (eOp ixD (eOp ixD (eVar 0) (eC (.int 1))) (eVar 3)) (eVar 5)) (.tup [(.name 6), (.name 3)]))
      (sOn 4 (eVar 6) appD)))
      (sRet (eVar 4)))))
def F_step : Fn := fnSem 7 3 g_step
-- line_way (k85)
def g_line_way : Sx :=
  (sSeq (sSet 3 (eLst (aCons (eLock (eFn listD (aCons (eVar 1) aNil))) aNil)))
      (sSeq (sFor (iA (eVar 2)) (.name 4)
      (sOn 3 (eLock (eCall F_step (aCons (eVar 0) (aCons (eOp ixD (eVar 3) (eUn negD (eC (.int 1)))) (aCons (eVar 4) aNil))))) appD))
      (sRet (eVar 3))))
def F_line_way : Fn := fnSem 5 3 g_line_way
-- begun (k85)
def g_begun : Sx :=
  (sSeq (sAsg (eOp ixD (eVar 0) (eVar 1)) (.tup [(.name 2), (.name 3), (.name 4), (.name 5), (.name 6)]))
      (sSeq (sPar [7, 8] (aCons (eOp ixD (eOp ixD (eVar 0) (eVar 3)) (eC (.int 1))) (aCons (eLst aNil) aNil)))
      (sSeq (sFor (iA (eLock (eCall F_every_2 (aCons (eVar 4) (aCons (eFn lenD (aCons (eOp ixD (eVar 7) (eC (.int 0))) aNil)) aNil))))) (.name 9)
      (sSeq (sSet 10 (eCall F_line_way (aCons (eVar 7) (aCons (eVar 9) (aCons (eVar 5) aNil)))))
      (sIf (tst (eOp eqD (eComp (iA (eVar 6)) (.name 11) (tst (eOp neD (eOp ixD (eOp ixD (eVar 10) (eOp ixD (eVar 11) (eC (.int 0)))) (eOp ixD (eVar 11) (eC (.int 1)))) (eOp ixD (eVar 11) (eC (.int 2))))) (eVar 11) [11]) (eLst aNil)))
      (sOn 8 (eVar 9) appD) sNil)))
      (sRet (eVar 8)))))
def F_begun : Fn := fnSem 12 2 g_begun
-- small_pairs_2 (k86)
def g_small_pairs_2 : Sx :=
  (sSeq (sPar [2, 3] (aCons (eCall F_draw (aCons (eVar 0) (aCons (eC (.int 4)) aNil))) (aCons (eRgL (rg1 (eVar 1))) aNil)))
      (sFrz 3 (sSeq (sIf (tst (eOp eqD (eVar 2) (eC (.int 0))))
      (sFrz 3 (sRet (eComp (iA (eVar 3)) (.name 4) cYes (eLock (eComp (iA (eVar 3)) (.name 5) cYes (eTup (aCons (eVar 5) (aCons (eVar 4) aNil))) [5])) [4]))) sNil)
      (sFrz 3 (sSeq (sIf (tst (eOp eqD (eVar 2) (eC (.int 1))))
      (sFrz 3 (sRet (eComp (iA (eVar 3)) (.name 4) cYes (eLock (eComp (iA (eVar 3)) (.name 5) cYes (eTup (aCons (eFn minD (aCons (eVar 4) (aCons (eVar 5) aNil))) (aCons (eFn maxD (aCons (eVar 4) (aCons (eVar 5) aNil))) aNil))) [5])) [4]))) sNil)
      (sFrz 3 (sRet (eComp (iA (eVar 3)) (.name 4) cYes (eLock (eComp (iA (eVar 3)) (.name 5) cYes (eTup (aCons (eLock (eCall F_draw (aCons (eVar 0) (aCons (eVar 1) aNil)))) (aCons (eLock (eCall F_draw (aCons (eVar 0) (aCons (eVar 1) aNil)))) aNil))) [5])) [4]))))))))
def F_small_pairs_2 : Fn := fnSem 6 2 g_small_pairs_2
-- gone_due (k86)
def g_gone_due : Sx :=
  (sSeq (sSet 2 (eIf (tst (eOp eqD (eOp ixD (eVar 1) (eC (.int 0))) (eC (.str "pass")))) (eLst (aCons (eOp ixD (eVar 1) (eC (.int 2))) aNil)) (eFn listD (aCons (eOp ixD (eVar 1) (eC (.int 2))) aNil))))
      (sFrz 2 (sSeq (sSet 3 (eComp (iE (aCons (eVar 2) aNil)) (.tup [(.name 4), (.name 5)]) (tNotF (tst (eChain leD leD (eC (.int 0)) (eVar 5) (eOp subD (eFn lenD (aCons (eOp ixD (eVar 0) (eC (.int 2))) aNil)) (eC (.int 2)))))) (eVar 4) [4, 5]))
      (sSeq (sIf (tOrF (tst (eOp eqD (eVar 2) (eLst aNil))) (tst (eOp neD (eVar 3) (eLst aNil))))
      (sRet (eTup (aCons (eC (.str "word")) (aCons (eIf (tst (eOp neD (eVar 3) (eLst aNil))) (eOp ixD (eVar 3) (eC (.int 0))) (eUn negD (eC (.int 1)))) aNil)))) sNil)
      (sRet (eIf (tst (eOp gtD (eFn lenD (aCons (eVar 2) aNil)) (eCall F_room (aCons (eVar 0) aNil)))) (eTup (aCons (eC (.str "full")) (aCons (eC (.int 60)) aNil))) (eC .non)))))))
def F_gone_due : Fn := fnSem 6 2 g_gone_due
-- any (k86)
def g_any : Sx :=
  (sSeq (sPar [4, 5, 6] (aCons (eCall F_pick (aCons (eVar 0) (aCons (eVar 2) aNil))) (aCons (eCall F_pick (aCons (eVar 0) (aCons (eVar 2) aNil))) (aCons (eCall F_draw (aCons (eVar 0) (aCons (eC (.int 10)) aNil))) aNil))))
      (sSeq (sSet 7 (eFn sumD (aCons (eComp (iA (eLock (eCall F_of_kind (aCons (eVar 1) (aCons (eC (.str "table")) aNil))))) (.name 13) cYes (eLock (eFn listD (aCons (eOp ixD (eOp ixD (eOp ixD (eVar 1) (eVar 13)) (eC (.int 1))) (eC (.int 0))) aNil))) [13]) (aCons (eLst (aCons (eC (.str "nobody")) aNil)) aNil))))
      (sSeq (sPar [8, 9] (aCons (eCall F_pick (aCons (eVar 0) (aCons (eVar 7) aNil))) (aCons (eOp subD (eCall F_draw (aCons (eVar 0) (aCons (eC (.int 7)) aNil))) (eC (.int 1))) aNil)))
      (sSeq (sSet 10 (eComp (iR1 (aCons (eCall F_draw (aCons (eVar 0) (aCons (eC (.int 7)) aNil))) aNil)) (.name 14) cYes (eLock (eCall F_pick (aCons (eVar 0) (aCons (eLock (eOp addD (eVar 7) (eLst (aCons (eC .non) aNil)))) aNil)))) [14]))
      (sFrz 4 (sFrz 5 (sFrz 10 (sSeq (sIf (tst (eOp eqD (eVar 6) (eC (.int 0))))
      (sFrz 4 (sFrz 5 (sFrz 10 (sRet (eTup (aCons (eC (.str "row")) (aCons (eVar 4) (aCons (eVar 5) (aCons (eFn tupleD (aCons (eCall F_pick (aCons (eVar 0) (aCons (eLock (eLst (aCons (eVar 10) (aCons (eVar 10) (aCons (eLock (eOp repD (eLst (aCons (eC .non) aNil)) (eC (.int 6)))) (aCons (eOp mulD (eVar 10) (eC (.int 20))) aNil)))))) aNil))) aNil)) aNil))))))))) sNil)
      (sSeq (sSet 11 (eComp (iR1 (aCons (eCall F_draw (aCons (eVar 0) (aCons (eC (.int 6)) aNil))) aNil)) (.name 14) cYes (eOp subD (eCall F_draw (aCons (eVar 0) (aCons (eC (.int 5)) aNil))) (eOp fdivD (eCall F_draw (aCons (eVar 0) (aCons (eC (.int 5)) aNil))) (eC (.int 4)))) [14]))
      (sFrz 4 (sFrz 11 (sSeq (sIf (tst (eOp eqD (eVar 6) (eC (.int 1))))
      (sFrz 4 (sFrz 11 (sRet (eTup (aCons (eC (.str "word")) (aCons (eVar 4) (aCons (eFn tupleD (aCons (eCall F_pick (aCons (eVar 0) (aCons (eLock (eLst (aCons (eVar 11) (aCons (eVar 11) (aCons (eLock (eOp repD (eLst (aCons (eC (.int 0)) aNil)) (eC (.int 61)))) (aCons (eLock (eOp repD (eLst (aCons (eC (.int 0)) aNil)) (eCall F_draw (aCons (eVar 0) (aCons (eC (.int 61)) aNil))))) aNil)))))) aNil))) aNil)) aNil))))))) sNil)
      (sFrz 4 (sFrz 8 (sSeq (sSet 12 (eLst (aCons (eTup (aCons (eC (.str "pass")) (aCons (eVar 4) (aCons (eVar 9) aNil)))) (aCons (eTup (aCons (eC (.str "carry")) (aCons (eVar 4) (aCons (eVar 8) aNil)))) (aCons (eTup (aCons (eC (.str "look")) (aCons (eVar 4) (aCons (eVar 9) (aCons (eVar 8) aNil))))) (aCons (eTup (aCons (eC (.str "tell")) (aCons (eVar 4) (aCons (eVar 9) (aCons (eVar 8) aNil))))) aNil))))))
      (sFrz 4 (sFrz 5 (sFrz 8 (sSeq (sSet 12 (eOp addD (eVar 12) (eLst (aCons (eTup (aCons (eC (.str "look")) (aCons (eVar 4) (aCons (eFn maxD (aCons (eC (.int 0)) (aCons (eOp subD (eVar 9) (eC (.int 3))) aNil))) (aCons (eVar 8) aNil))))) (aCons (eTup (aCons (eC (.str "twin")) (aCons (eVar 4) (aCons (eVar 5) aNil)))) (aCons (eTup (aCons (eC (.str "drop")) (aCons (eVar 4) aNil))) aNil))))))
      (sFrz 4 (sRet (eOp ixD (eOp addD (eVar 12) (eLst (aCons (eLock (eCall F_pick (aCons (eVar 0) (aCons (eLock (eLst (aCons (eTup (aCons (eC (.str "table")) (aCons (eVar 4) (aCons (eOp ixD (eVar 3) (eC (.int 0))) aNil)))) (aCons (eTup (aCons (eC (.str "change")) (aCons (eVar 4) (aCons (eOp ixD (eVar 3) (eC (.int 0))) aNil)))) aNil)))) aNil)))) aNil))) (eOp subD (eVar 6) (eC (.int 2)))))))))))))))))))))))))
def F_any : Fn := fnSem 15 4 g_any
-- doings_2 (k89)
def g_doings_2 : Sx :=
  (sSeq (sPar [3, 4] (aCons (eLst aNil) (aCons (eLst aNil) aNil)))
      (sFrz 4 (sFrz 8 (sFrz 9 (sSeq (sFor (iR1 (aCons (eCall F_draw (aCons (eVar 0) (aCons (eC (.int 9)) aNil))) aNil)) (.name 5)
      (sSeq (sPar [6, 7] (aCons (eCall F_draw (aCons (eVar 0) (aCons (eC (.int 5)) aNil))) (aCons (eComp (iR1 (aCons (eOp addD (eC (.int 1)) (eCall F_draw (aCons (eVar 0) (aCons (eC (.int 3)) aNil)))) aNil)) (.name 10) cYes (eLock (eCall F_draw (aCons (eVar 0) (aCons (eOp subD (eFn lenD (aCons (eVar 2) aNil)) (eC (.int 1))) aNil)))) [10]) aNil)))
      (sFrz 4 (sFrz 8 (sFrz 9 (sIf (tst (eOp ltD (eVar 6) (eC (.int 2))))
      (sSeq (sOn 3 (eIf (tst (eOp eqD (eVar 6) (eC (.int 0)))) (eTup (aCons (eC (.str "word")) (aCons (eC (.str "r")) (aCons (eFn tupleD (aCons (eVar 7) aNil)) aNil)))) (eTup (aCons (eC (.str "pass")) (aCons (eC (.str "r")) (aCons (eOp ixD (eVar 7) (eC (.int 0))) aNil))))) appD)
      (sFrz 9 (sSet 4 (eOp addD (eVar 4) (eComp (iA (eLock (eSl (eVar 7) oNone (oSome (eOp subD (eC (.int 3)) (eOp mulD (eC (.int 2)) (eVar 6))))))) (.name 9) cYes (eTup (aCons (eC (.str "pass")) (aCons (eVar 9) aNil))) [9]))))) (sFrz 4 (sFrz 8 (sFrz 9 (sIf (tst (eOp eqD (eVar 6) (eC (.int 2))))
      (sSeq (sSet 8 (eCall F_draw (aCons (eVar 0) (aCons (eFn lenD (aCons (eOp ixD (eVar 1) (eC (.int 0))) aNil)) aNil))))
      (sSeq (sOn 3 (eTup (aCons (eC (.str "carry")) (aCons (eC (.str "r")) (aCons (eOp ixD (eOp ixD (eVar 1) (eC (.int 0))) (eVar 8)) aNil)))) appD)
      (sFrz 8 (sSet 4 (eOp addD (eVar 4) (eLst (aCons (eTup (aCons (eC (.str "carry")) (aCons (eVar 8) aNil))) aNil))))))) (sFrz 4 (sFrz 9 (sIf (tst (eOp ltD (eFn lenD (aCons (eComp (iA (eVar 3)) (.name 11) (tst (eOp eqD (eOp ixD (eVar 11) (eC (.int 0))) (eC (.str "look")))) (eVar 11) [11]) aNil)) (eC (.int 4))))
      (sSeq (sSet 9 (eCall F_draw (aCons (eVar 0) (aCons (eFn lenD (aCons (eVar 2) aNil)) aNil))))
      (sFrz 4 (sFrz 9 (sOn 3 (eTup (aCons (eC (.str "look")) (aCons (eC (.str "r")) (aCons (eVar 9) (aCons (eOp ixD (eOp ixD (eVar 1) (eC (.int 0))) (eOp ixD (eOp ixD (eCall F_line_way (aCons (eVar 1) (aCons (eVar 2) (aCons (eVar 4) aNil)))) (eUn negD (eC (.int 1)))) (eVar 9))) aNil))))) appD)))) sNil)))))))))))))
      (sRet (eVar 3)))))))
def F_doings_2 : Fn := fnSem 12 3 g_doings_2
-- show_row (k92)
def g_show_row : Sx :=
  (sRet (eJoin (eC (.str " ")) (eFn listD (aCons (eVar 0) aNil))))
def F_show_row : Fn := fnSem 1 1 g_show_row
-- number_read (k92)
def g_number_read : Sx :=
  (sSeq (sIf (tOrF (tNotF (tst (eChain leD leD (eC (.int 1)) (eFn lenD (aCons (eVar 0) aNil)) (eC (.int 60))))) (tNotF (tTru (eFn allD (aCons (eComp (iA (eVar 0)) (.name 1) cYes (eOp inD (eVar 1) (eC (.str (Str.ofString "0123456789")))) [1]) aNil)))))
      (sRet (eC .non)) sNil)
      (sSeq (sIf (tAndF (tst (eOp eqD (eOp ixD (eVar 0) (eC (.int 0))) (eC (.str "0")))) (tst (eOp gtD (eFn lenD (aCons (eVar 0) aNil)) (eC (.int 1)))))
      (sRet (eC .non)) sNil)
      (sRet (eFn intD (aCons (eVar 0) aNil)))))
def F_number_read : Fn := fnSem 2 1 g_number_read
-- _unhidden (k92)
def g__unhidden : Sx :=
  (sRet (eFn tupleD (aCons (eComp (iA (eVar 0)) (.name 1) cYes (eIf (tst (eOp eqD (eVar 1) (eC (.str (Str.ofString "?"))))) (eC .non) (eVar 1)) [1]) aNil)))
def F__unhidden : Fn := fnSem 2 1 g__unhidden
-- _part_read (k92)
def g__part_read : Sx :=
  (sSeq (sIf (tst (eOp inD (eVar 0) (eTup (aCons (eC (.str "number")) (aCons (eC (.str "places")) aNil)))))
      (sRet (eCall F_number_read (aCons (eVar 1) aNil))) sNil)
      (sRet (eIf (tOrF (tTru (eCall F_is_name (aCons (eVar 1) aNil))) (tAndF (tst (eOp eqD (eVar 0) (eC (.str "holes")))) (tst (eOp eqD (eVar 1) (eC (.str (Str.ofString "?"))))))) (eVar 1) (eC .non))))
def F__part_read : Fn := fnSem 2 2 g__part_read
-- table_rows (k92)
def g_table_rows : Sx :=
  (sSeq (sPar [1, 2] (aCons (eMeth F_Table_marks (eVar 0) aNil) (aCons (eLst (aCons (eOp addD (eC (.str "marks ")) (eJoin (eC (.str " ")) (eMeth F_Table_marks (eVar 0) aNil))) aNil)) aNil)))
      (sFrz 1 (sSeq (sFor (iA (eVar 1)) (.name 3)
      (sFrz 1 (sFor (iA (eVar 1)) (.name 4)
      (sOn 2 (eJoin (eC (.str " ")) (eOp addD (eTup (aCons (eC (.str "pair")) (aCons (eVar 3) (aCons (eVar 4) aNil)))) (eMeth F_Table_passed (eVar 0) (aCons (eVar 3) (aCons (eVar 4) aNil))))) appD))))
      (sRet (eVar 2)))))
def F_table_rows : Fn := fnSem 5 1 g_table_rows
-- named_like (k92)
def g_named_like : Sx :=
  (sSeq (sIf (tOrF (tst (eOp neD (eOp ixD (eVar 1) (eC (.int 0))) (eC (.str "table")))) (tst (eOp eqD (eCall F_draw (aCons (eVar 0) (aCons (eC (.int 2)) aNil))) (eC (.int 0)))))
      (sRet (eVar 1)) sNil)
      (sSeq (sSet 2 (eCall F_shuffled (aCons (eVar 0) (aCons (eLock (eLst (aCons (eC (.str "row")) (aCons (eC (.str "pass")) (aCons (eC (.str "pair")) (aCons (eC (.str "marks")) (aCons (eC (.str "table")) (aCons (eC (.str "drop")) (aCons (eC (.str "gives")) (aCons (eC (.str "look")) aNil)))))))))) aNil))))
      (sSeq (sSet 3 (eMeth F_Table_marks (eOp ixD (eVar 1) (eC (.int 2))) aNil))
      (sSeq (sSet 4 (eComp (iA (eLock (eMeth F_Table_pairs (eOp ixD (eVar 1) (eC (.int 2))) aNil))) (.name 5) cYes (eLock (eComp (iA (eVar 5)) (.tup [(.name 6), (.name 7)]) cYes (eTup (aCons (eIdx (eVar 3) (eVar 6)) (aCons (eIdx (eVar 3) (eVar 7)) aNil))) [6, 7])) [5]))
      (sFrz 4 (sRet (eOp addD (eSl (eVar 1) oNone (oSome (eC (.int 2)))) (eTup (aCons (eLock (eCall F_made (aCons (eTup (aCons (eLock (eSl (eVar 2) oNone (oSome (eFn lenD (aCons (eVar 3) aNil))))) (aCons (eVar 4) aNil))) aNil))) aNil)))))))))
def F_named_like : Fn := fnSem 8 2 g_named_like
-- lis_name_2 (k93)
def g_lis_name_2 : Sx :=
  (sRet (eAnd (eChain leD leD (eC (.int 1)) (eFn lenD (aCons (eVar 0) aNil)) (eC (.int 8))) (eOp eqD (eComp (iA (eVar 0)) (.name 1) (tst (eOp notInD (eVar 1) (eC (.str "abcdefghijklmnopqrstuvwxyz")))) (eVar 1) [1]) (eLst aNil))))
def F_lis_name_2 : Fn := fnSem 2 1 g_lis_name_2
-- place_in (k93)
def g_place_in : Sx :=
  (sSeq (sIf (tOrF (tNotF (tst (eChain leD leD (eC (.int 1)) (eFn lenD (aCons (eVar 0) aNil)) (eC (.int 60))))) (tst (eOp neD (eComp (iA (eVar 0)) (.name 1) (tst (eOp notInD (eVar 1) (eC (.str "0123456789")))) (eVar 1) [1]) (eLst aNil))))
      (sRet (eC .non)) sNil)
      (sRet (eIf (tOrF (tst (eOp eqD (eVar 0) (eC (.str "0")))) (tst (eOp neD (eOp ixD (eVar 0) (eC (.int 0))) (eC (.str "0"))))) (eFn intD (aCons (eVar 0) aNil)) (eC .non))))
def F_place_in : Fn := fnSem 2 1 g_place_in
-- marks_text (k94)
def g_marks_text : Sx :=
  (sRet (eOr (eJoin (eC (.str " ")) (eComp (iA (eVar 0)) (.name 1) cYes (eIf (tst (eOp isN (eVar 1) (eC .non))) (eC (.str "?")) (eVar 1)) [1])) (eC (.str "none"))))
def F_marks_text : Fn := fnSem 2 1 g_marks_text
-- lines (k96)
def g_lines : Sx :=
  (sSeq (sPar [2, 3] (aCons (eFn lenD (aCons (eVar 0) aNil)) (aCons (eLst aNil) aNil)))
      (sSeq (sFor (iR1 (aCons (eVar 2) aNil)) (.name 4)
      (sOn 3 (eLock (eComp (iR1 (aCons (eVar 2) aNil)) (.name 5) cYes (eTup (aCons (eOp ixD (eVar 0) (eOp modD (eOp addD (eVar 5) (eVar 1)) (eVar 2))) (aCons (eOp ixD (eVar 0) (eOp modD (eOp subD (eVar 4) (eVar 1)) (eVar 2))) aNil))) [5])) appD))
      (sRet (eVar 3))))
def F_lines : Fn := fnSem 6 2 g_lines
-- labels (k96)
def g_labels : Sx :=
  (sSeq (sSet 3 (eC (.str "abcdefghijklmnopqrstuvwxyz")))
      (sSeq (sSet 4 (eOp addD (eVar 2) (eJoin (eC (.str "")) (eComp (iR1 (aCons (eCall F_draw (aCons (eVar 0) (aCons (eC (.int 6)) aNil))) aNil)) (.name 7) cYes (eLock (eCall F_pick (aCons (eVar 0) (aCons (eVar 3) aNil)))) [7]))))
      (sSeq (sPar [5, 6] (aCons (eCall F_draw (aCons (eVar 0) (aCons (eC (.int 26)) aNil))) (aCons (eLst aNil) aNil)))
      (sSeq (sFor (iR1 (aCons (eVar 1) aNil)) (.name 7)
      (sOn 6 (eOp addD (eVar 4) (eOp ixD (eVar 3) (eOp modD (eOp addD (eVar 5) (eVar 7)) (eC (.int 26))))) appD))
      (sFrz 6 (sRet (eIf (tst (eOp eqD (eCall F_draw (aCons (eVar 0) (aCons (eC (.int 2)) aNil))) (eC (.int 0)))) (eUn revD (eVar 6)) (eStill (eVar 6)))))))))
def F_labels : Fn := fnSem 8 3 g_labels
-- wild_lines (k96)
def g_wild_lines : Sx :=
  (sSeq (sSet 2 (eLst aNil))
      (sSeq (sFor (iA (eVar 1)) (.name 3)
      (sOn 2 (eLock (eComp (iA (eVar 1)) (.name 4) cYes (eTup (aCons (eLock (eCall F_pick (aCons (eVar 0) (aCons (eVar 1) aNil)))) (aCons (eLock (eCall F_pick (aCons (eVar 0) (aCons (eVar 1) aNil)))) aNil))) [4])) appD))
      (sRet (eVar 2))))
def F_wild_lines : Fn := fnSem 5 2 g_wild_lines
-- same (k97)
def g_same : Sx :=
  (sRet (eOp eqD (eComp (iA (eVar 0)) (.name 2) (tOrF (tst (eOp neD (eFn reprD (aCons (eVar 2) aNil)) (eFn reprD (aCons (eVar 1) aNil)))) (tst (eOp neD (eUn (isiD ["bool"]) (eVar 2)) (eUn (isiD ["bool"]) (eVar 1))))) (eVar 2) [2]) (eLst aNil)))
def F_same : Fn := fnSemN 3 2 g_same
def t_init1 : Env → M Bool :=
  (tNotF (tTru (eCall F__are_marks (aCons (eVar 1) aNil))))
def t_init2 : Env → M Bool :=
  (tNotF (tTru (eCall F__are_pairs (aCons (eVar 2) (aCons (eVar 1) aNil)))))
def e_init1 : Ex :=
  (eFn tupleD (aCons (eVar 1) aNil))
def e_init2 : Ex :=
  (eFn tupleD (aCons (eComp (iA (eVar 2)) (.name 3) cYes (eFn tupleD (aCons (eComp (iA (eVar 3)) (.name 4) cYes (eFn tupleD (aCons (eVar 4) aNil)) [4]) aNil)) [3]) aNil))

end
end Fx
set_option Elab.async false
set_option maxRecDepth 100000
set_option linter.unusedVariables false
/-! What plain functions come to. -/
namespace Fx
open PySem L2 Lw
/-- m comes to a value of which P holds, by at most k draws -/
def Dn {α : Type} (k : Nat) (m : M α) (P : α → Prop) : Prop := ∀ π : Pn, 0 ≤ π.spot → π.spot + k ≤ 1000000000 → ∃ a π', m π = some (.ok a, π') ∧ P a ∧ π'.cells = π.cells ∧ π.spot ≤ π'.spot ∧ π'.spot ≤ π.spot + k
section
variable {α β : Type} {k l : Nat} {m : M α} {f : α → M β} {P : α → Prop} {Q : β → Prop}
theorem Dn.ret {a : α} (h : P a) : Dn 0 (M.ret a) P := fun π h0 h1 => ⟨a, π, rfl, h, rfl, by omega, by omega⟩
theorem Dn.lift {o : Option α} {a : α} (e : o = some a) (h : P a) : Dn 0 (M.lift o) P := by
  subst e
  exact Dn.ret h
theorem Dn.mono {P' : α → Prop} (h : Dn k m P) (i : ∀ a, P a → P' a) (hk : k ≤ l) : Dn l m P' := fun π h0 h1 => by
  obtain ⟨a, π', e, p, c, s, t⟩ := h π h0 (by omega)
  exact ⟨a, π', e, i a p, c, s, by omega⟩
theorem Dn.imp {P' : α → Prop} (h : Dn k m P) (i : ∀ a, P a → P' a) : Dn k m P' := h.mono i (Nat.le_refl _)
theorem Dn.le (h : Dn k m P) (hk : k ≤ l) : Dn l m P := h.mono (fun _ p => p) hk
theorem Dn.bind (h : Dn k m P) (i : ∀ a, P a → Dn l (f a) Q) : Dn (k + l) (m.bind f) Q := fun π h0 h1 => by
  obtain ⟨a, π', e, p, c, s, t⟩ := h π h0 (by omega)
  obtain ⟨b, π2, e2, q, c2, s2, t2⟩ := i a p π' (by omega) (by omega)
  refine ⟨b, π2, ?_, q, c2.trans c, by omega, by omega⟩
  unfold M.bind
  rw [e]
  exact e2
theorem Dn.orX {ρ : Env} {f : α → M Fl} {Q : Fl → Prop} (h : Dn k m P) (i : ∀ a, P a → Dn l (f a) Q) : Dn (k + l) (m.orX ρ f) Q := fun π h0 h1 => by
  obtain ⟨a, π', e, p, c, s, t⟩ := h π h0 (by omega)
  obtain ⟨b, π2, e2, q, c2, s2, t2⟩ := i a p π' (by omega) (by omega)
  refine ⟨b, π2, ?_, q, c2.trans c, by omega, by omega⟩
  unfold M.orX
  rw [e]
  exact e2
theorem Dn.orXb {γ : Type} {ρ : Env} {f : α → M Fl} {g : Fl → M γ} {Q : γ → Prop} (h : Dn k m P) (i : ∀ a, P a → Dn l ((f a).bind g) Q) : Dn (k + l) ((m.orX ρ f).bind g) Q := fun π h0 h1 => by
  obtain ⟨a, π', e, p, c, s, t⟩ := h π h0 (by omega)
  obtain ⟨b, π2, e2, q, c2, s2, t2⟩ := i a p π' (by omega) (by omega)
  refine ⟨b, π2, ?_, q, c2.trans c, by omega, by omega⟩
  unfold M.bind M.orX
  rw [e]
  exact e2
theorem Dn.calm (h : Dn k m P) : Dn k (calmM m) P := fun π h0 h1 => by
  obtain ⟨a, π', e, r⟩ := h π h0 h1
  refine ⟨a, π', ?_, r⟩
  unfold calmM
  rw [e]
theorem Dn.and {P' : α → Prop} (h : Dn k m P) (h' : Dn l m P') : Dn (max k l) m (fun a => P a ∧ P' a) := fun π h0 h1 => by
  obtain ⟨a, π', e, p, c, s, t⟩ := h π h0 (by omega)
  obtain ⟨b, π2, e2, q, c2, s2, t2⟩ := h' π h0 (by omega)
  rw [e] at e2
  cases e2
  exact ⟨a, π', e, ⟨p, q⟩, c, s, by omega⟩
theorem Dn.ite {p : Prop} [Decidable p] {a b : M α} (h1 : p → Dn k a P) (h2 : ¬p → Dn k b P) : Dn k (if p then a else b) P := by
  split
  · exact h1 ‹_›
  · exact h2 ‹_›
end
theorem log_small {n : Int} (h : n ≤ 1000000000) (h1 : 1 ≤ n) : n.natAbs.log2 < 9000 := by
  have : n.natAbs < 2 ^ 30 := by omega
  have h2 : n.natAbs ≠ 0 := by omega
  exact Nat.lt_of_lt_of_le ((Nat.log2_lt h2).mpr this) (by decide)
/-- a number drawn -/
theorem dn_draw {n : Int} (h1 : 1 ≤ n) (h2 : n ≤ 1000000000) : Dn 1 (drawG [.pen, .int n]) (fun d => ∃ i : Int, d = .int i ∧ 0 ≤ i ∧ i < n) := fun π p0 p1 => by
  obtain ⟨a, b, c, d⟩ := draw_ok (ns := π.cells) (z := π.spot) (m := π.more) h1
  refine ⟨.int (drawN π.cells π.spot π.more n).1, ⟨π.cells, (drawN π.cells π.spot π.more n).2.1, (drawN π.cells π.spot π.more n).2.2⟩, ?_, ⟨_, rfl, a, b⟩, rfl, d, c⟩
  unfold drawG
  simp only
  rw [if_pos (show DrawOk π.spot n from ⟨p0, by omega, h1, log_small h2 h1⟩)]
/-! comprehensions -/
theorem comp_nil {t : Tg} {cond : Env → M Bool} {elt : Ex} {ρ0 : Env} {acc : List D} : compF t cond elt ρ0 [] acc = M.ret (.own acc) := rfl
theorem comp_cons {t : Tg} {cond : Env → M Bool} {elt : Ex} {ρ0 : Env} {acc : List D} {d : D} {ds : List D} : compF t cond elt ρ0 (d :: ds) acc = (M.lift (t.bind d ρ0)).bind fun ρ' => (calmM (cond ρ')).bind fun b =>
      if b then (calmM (elt ρ')).bind fun y => (M.lift (if y.still = true ∧ acc.length < sizeLine then some () else none)).bind fun _ => compF t cond elt ρ0 ds (acc ++ [y]) else compF t cond elt ρ0 ds acc := rfl
/-- one that draws nothing -/
theorem comp_eq {α : Type} {t : Tg} {elt : Ex} {ρ0 : Env} (enc : α → D) (g : α → D) : ∀ (xs : List α) (acc : List D), (∀ x ∈ xs, ∃ ρ', t.bind (enc x) ρ0 = some ρ' ∧ elt ρ' = M.ret (g x) ∧ (g x).still = true) → acc.length + xs.length ≤ sizeLine →
    compF t cYes elt ρ0 (xs.map enc) acc = M.ret (.own (acc ++ xs.map g))
  | [], acc, _, _ => by simp [comp_nil]
  | x :: xs, acc, h, hl => by
    obtain ⟨ρ', e1, e2, e3⟩ := h x (by simp)
    rw [List.length_cons] at hl
    rw [List.map_cons, comp_cons, e1]
    simp only [lift_some, ret_bind, u_cYes, calm_ret, e2]
    rw [if_pos trivial, if_pos ⟨e3, by omega⟩]
    simp only [lift_some, ret_bind]
    rw [comp_eq enc g xs (acc ++ [g x]) (fun y hy => h y (by simp [hy])) (by rw [List.length_append, List.length_singleton]; omega)]
    simp
/-- one with a test -/
theorem comp_if {α : Type} {t : Tg} {cond : Env → M Bool} {elt : Ex} {ρ0 : Env} (enc : α → D) (g : α → D) (p : α → Bool) : ∀ (xs : List α) (acc : List D), (∀ x ∈ xs, ∃ ρ', t.bind (enc x) ρ0 = some ρ' ∧ cond ρ' = M.ret (p x) ∧ (p x = true → elt ρ' = M.ret (g x) ∧ (g x).still = true)) → acc.length + xs.length ≤ sizeLine →
    compF t cond elt ρ0 (xs.map enc) acc = M.ret (.own (acc ++ (xs.filter p).map g))
  | [], acc, _, _ => by simp [comp_nil]
  | x :: xs, acc, h, hl => by
    obtain ⟨ρ', e1, e2, e3⟩ := h x (by simp)
    rw [List.length_cons] at hl
    rw [List.map_cons, comp_cons, e1]
    simp only [lift_some, ret_bind, calm_ret, e2]
    cases hp : p x with
    | false =>
      rw [if_neg Bool.false_ne_true, comp_if enc g p xs acc (fun y hy => h y (by simp [hy])) (by omega), List.filter_cons, hp]
      simp
    | true =>
      obtain ⟨e4, e5⟩ := e3 hp
      rw [if_pos rfl, e4]
      simp only [calm_ret, ret_bind]
      rw [if_pos ⟨e5, by omega⟩]
      simp only [lift_some, ret_bind]
      rw [comp_if enc g p xs (acc ++ [g x]) (fun y hy => h y (by simp [hy])) (by rw [List.length_append, List.length_singleton]; omega), List.filter_cons, hp]
      simp
/-- one that draws: what is drawn for each -/
theorem dn_comp {α β : Type} {t : Tg} {elt : Ex} {ρ0 : Env} {k : Nat} (enc : α → D) (dec : β → D) (P : α → β → Prop) (hst : ∀ y, (dec y).still = true) : ∀ (xs : List α) (acc : List D), (∀ x ∈ xs, ∃ ρ', t.bind (enc x) ρ0 = some ρ' ∧ Dn k (elt ρ') (fun d => ∃ y, d = dec y ∧ P x y)) → acc.length + xs.length ≤ sizeLine →
    Dn (k * xs.length) (compF t cYes elt ρ0 (xs.map enc) acc) (fun d => ∃ ys : List β, d = .own (acc ++ ys.map dec) ∧ Paired P xs ys)
  | [], acc, _, _ => (Dn.ret ⟨[], by simp, .nil⟩ : Dn 0 _ _)
  | x :: xs, acc, h, hl => by
    obtain ⟨ρ', e1, e2⟩ := h x (by simp)
    rw [List.length_cons] at hl
    rw [List.map_cons, comp_cons, e1]
    simp only [lift_some, ret_bind, u_cYes, calm_ret]
    rw [if_pos trivial]
    refine (Dn.bind e2.calm fun d ⟨y, hy, hP⟩ => ?_).le (show k + k * xs.length ≤ k * (x :: xs).length by rw [List.length_cons, Nat.mul_succ]; omega)
    subst hy
    rw [if_pos ⟨hst y, by omega⟩]
    simp only [lift_some, ret_bind]
    refine (dn_comp enc dec P hst xs (acc ++ [dec y]) (fun y hy => h y (by simp [hy])) (by rw [List.length_append, List.length_singleton]; omega)).imp fun d ⟨ys, hd, hp⟩ => ?_
    exact ⟨y :: ys, by rw [hd]; simp, .cons hP hp⟩
/-! loops -/
/-- the next turn's slots, or what is returned -/
def Fl.nxt (I : Env → Prop) (R : D → Prop) : Fl → Prop
  | .nx ρ => I ρ
  | .ct ρ => I ρ
  | .rt d => R d
  | _ => False
theorem for_nil {t : Tg} {b : Sx} {ρ : Env} : forF t b [] ρ = M.ret (.nx ρ) := rfl
theorem for_cons {t : Tg} {b : Sx} {ρ : Env} {d : D} {ds : List D} : forF t b (d :: ds) ρ = (M.lift (t.bind d ρ)).bind fun ρ1 => (b ρ1).bind fun f => f.lp (forF t b ds) := rfl
/-- how a loop leaves off -/
def Fl.out (I : Env → Prop) (R : D → Prop) : Fl → Prop
  | .nx ρ => I ρ
  | .rt d => R d
  | _ => False
theorem dn_for {t : Tg} {b : Sx} {k : Nat} {R : D → Prop} : ∀ (ds : List D) (I : Nat → Env → Prop) (ρ : Env), I 0 ρ → (∀ i d ρ, ds[i]? = some d → I i ρ → ∃ ρ1, t.bind d ρ = some ρ1 ∧ Dn k (b ρ1) (Fl.nxt (I (i + 1)) R)) →
    Dn (k * ds.length) (forF t b ds ρ) (Fl.out (I ds.length) R)
  | [], I, ρ, h0, _ => (Dn.ret (show Fl.out (I 0) R (.nx ρ) from h0) : Dn 0 (M.ret (Fl.nx ρ)) _)
  | d :: ds, I, ρ, h0, hs => by
    obtain ⟨ρ1, e1, e2⟩ := hs 0 d ρ rfl h0
    rw [for_cons, e1]
    simp only [lift_some, ret_bind]
    refine (Dn.bind e2 fun f hf => ?_).le (show k + k * ds.length ≤ k * (d :: ds).length by rw [List.length_cons, Nat.mul_succ]; omega)
    have rest : ∀ ρ', I 1 ρ' → Dn (k * ds.length) (forF t b ds ρ') (Fl.out (I (d :: ds).length) R) := fun ρ' h => dn_for ds (fun i => I (i + 1)) ρ' h fun i d ρ hd hI => hs (i + 1) d ρ hd hI
    cases f with
    | nx ρ' => exact rest ρ' hf
    | ct ρ' => exact rest ρ' hf
    | rt d' => exact (Dn.ret (show Fl.out _ R (.rt d') from hf)).le (Nat.zero_le _)
    | bk ρ' => exact hf.elim
    | er x ρ' => exact hf.elim
/-- a loop over what is made of typed things -/
theorem dn_for' {α : Type} {t : Tg} {b : Sx} {k : Nat} {R : D → Prop} (enc : α → D) (xs : List α) (I : Nat → Env → Prop) (ρ : Env) (h0 : I 0 ρ) (hs : ∀ i x ρ, xs[i]? = some x → I i ρ → ∃ ρ1, t.bind (enc x) ρ = some ρ1 ∧ Dn k (b ρ1) (Fl.nxt (I (i + 1)) R)) :
    Dn (k * xs.length) (forF t b (xs.map enc) ρ) (Fl.out (I xs.length) R) := by
  have := dn_for (t := t) (b := b) (k := k) (R := R) (xs.map enc) I ρ h0 fun i d ρ hd hI => by
    rw [List.getElem?_map] at hd
    cases e : xs[i]? with
    | none => rw [e] at hd; cases hd
    | some x =>
      rw [e] at hd
      cases hd
      exact hs i x ρ e hI
  rw [List.length_map] at this
  exact this
/-- a loop that draws nothing and is never left ahead of its end -/
theorem for_eq {α : Type} {t : Tg} {b : Sx} (enc : α → D) : ∀ (xs : List α) (S : Nat → Env), (∀ i x, xs[i]? = some x → ∃ ρ1, t.bind (enc x) (S i) = some ρ1 ∧ (b ρ1 = M.ret (.nx (S (i + 1))) ∨ b ρ1 = M.ret (.ct (S (i + 1))))) → forF t b (xs.map enc) (S 0) = M.ret (.nx (S xs.length))
  | [], S, _ => rfl
  | x :: xs, S, h => by
    obtain ⟨ρ1, e1, e2⟩ := h 0 x rfl
    rw [List.map_cons, for_cons, e1]
    simp only [lift_some, ret_bind]
    have := for_eq enc xs (fun i => S (i + 1)) fun i x hx => h (i + 1) x hx
    rcases e2 with e2 | e2 <;> rw [e2] <;> exact this
theorem while_succ {c : Env → M Bool} {b : Sx} {n : Nat} {ρ : Env} : whileF c b (n + 1) ρ = (c ρ).orX ρ fun k => if k then (b ρ).bind fun f => f.lp (whileF c b n) else M.ret (.nx ρ) := rfl
theorem dn_while {c : Env → M Bool} {b : Sx} {k : Nat} {R : D → Prop} {J : Env → Prop} : ∀ (n m : Nat) (I : Nat → Env → Prop) (ρ : Env), I m ρ → m < n → (∀ m ρ, I m ρ → ∃ z, c ρ = M.ret z ∧ (z = false → J ρ) ∧ (z = true → ∃ m', m = m' + 1 ∧ Dn k (b ρ) (Fl.nxt (I m') R))) →
    Dn (k * m) (whileF c b n ρ) (Fl.out J R)
  | 0, m, I, ρ, h0, hm, _ => absurd hm (Nat.not_lt_zero _)
  | n + 1, m, I, ρ, h0, hm, hs => by
    obtain ⟨z, e1, e2, e3⟩ := hs m ρ h0
    rw [while_succ, e1]
    simp only [ret_orX]
    cases z with
    | false => exact (Dn.ret (show Fl.out J R (.nx ρ) from e2 rfl)).le (Nat.zero_le _)
    | true =>
      obtain ⟨m', rfl, e4⟩ := e3 rfl
      rw [if_pos rfl]
      refine (Dn.bind e4 fun f hf => ?_).le (show k + k * m' ≤ k * (m' + 1) by rw [Nat.mul_succ]; omega)
      cases f with
      | nx ρ' => exact dn_while n m' I ρ' hf (by omega) hs
      | ct ρ' => exact dn_while n m' I ρ' hf (by omega) hs
      | rt d' => exact (Dn.ret (show Fl.out _ R (.rt d') from hf)).le (Nat.zero_le _)
      | bk ρ' => exact hf.elim
      | er x ρ' => exact hf.elim
/-- a loop that nothing is returned from, ahead of the rest -/
theorem Dn.loop {β : Type} {k l : Nat} {m : M Fl} {g : Fl → M β} {I : Env → Prop} {Q : β → Prop} (h : Dn k m (Fl.out I fun _ => False)) (i : ∀ ρ, I ρ → Dn l (g (.nx ρ)) Q) : Dn (k + l) (m.bind g) Q := Dn.bind h fun f hf => by
  cases f with
  | nx ρ => exact i ρ hf
  | rt d => exact hf.elim
  | bk ρ => exact hf.elim
  | ct ρ => exact hf.elim
  | er x ρ => exact hf.elim
theorem Dn.loopC {β : Type} {k l : Nat} {m : M Fl} {g : Fl → M β} {I : Env → Prop} {Q : β → Prop} (h : Dn k m (Fl.out I fun _ => False)) (i : ∀ ρ, I ρ → Dn l (g (.nx ρ)) Q) : Dn (k + l) ((calmM m).bind g) Q := Dn.loop h.calm i
/-- a loop from which something may be returned -/
theorem Dn.loopR {β : Type} {k l : Nat} {m : M Fl} {g : Fl → M β} {I : Env → Prop} {R : D → Prop} {Q : β → Prop} (h : Dn k m (Fl.out I R)) (i : ∀ ρ, I ρ → Dn l (g (.nx ρ)) Q) (r : ∀ d, R d → Dn l (g (.rt d)) Q) : Dn (k + l) (m.bind g) Q := Dn.bind h fun f hf => by
  cases f with
  | nx ρ => exact i ρ hf
  | rt d => exact r d hf
  | bk ρ => exact hf.elim
  | ct ρ => exact hf.elim
  | er x ρ => exact hf.elim
end Fx
set_option Elab.async false
set_option maxRecDepth 100000
set_option linter.unusedVariables false
/-! Tables' makings. -/
namespace Fx
open PySem L2 Lw
@[simp] theorem p_listT (ds : List D) : F_is_listing [.tup ds] = M.ret (.bl true) := by
  simp [F_is_listing, g_is_listing]
@[simp] theorem p_listL (ds : List D) : F_is_listing [.lst ds] = M.ret (.bl true) := by
  simp [F_is_listing, g_is_listing]
theorem small6 {n : Nat} (h : n ≤ 1000) : n ≤ sizeLine := Nat.le_trans h (by decide)
theorem allD_true {α : Type} (xs : List α) : allD [.own (xs.map fun _ => D.bl true)] = some (.bl true) := by
  unfold allD
  have : D.bls (xs.map fun _ => D.bl true) = some (xs.map fun _ => true) := by
    induction xs with
    | nil => rfl
    | cons x xs ih => simp [D.bls, ih]
  simp [D.asL, this]
theorem p_is_name (z : Str) (h : IsName z) : F_is_name [.str z] = M.ret (.bl true) := by
  obtain ⟨h1, h2, h3⟩ := h
  have hz : z.length ≤ sizeLine := small6 (by omega)
  have a1 : (1 : Int) ≤ z.length := by omega
  have a2 : ¬ (8 : Int) < z.length := by omega
  have hl : z.cps.toList.length = z.length := by simp [Str.length]
  simp only [F_is_name, g_is_name]
  simp [hz, a1, a2]
  rw [comp_eq (fun k => D.str ⟨#[k]⟩) (fun _ => D.bl true) _ _ (fun k hk => ⟨_, rfl, by simp [low_found (h3 k hk)], rfl⟩) (by rw [hl]; exact small6 (by simp; omega))]
  simp [allD_true]
theorem p_pos {ms : List Str} (h : 1 ≤ ms.length) : (1 : Int) ≤ (ms.length : Int) := by omega
theorem marks_inv {m : D} {ms : List Str} (h : marksOf m = some ms) : m = .lst (ms.map .str) ∧ 1 ≤ ms.length ∧ ms.length ≤ 6 ∧ (∀ z ∈ ms, IsName z) ∧ ms.Nodup := by
  unfold marksOf at h
  cases m with
  | lst ds =>
    simp only [lockL, Option.bind_some] at h
    cases e : D.sts ds with
    | none => rw [e] at h; cases h
    | some xs =>
      rw [e] at h
      simp only [Option.bind_some] at h
      obtain ⟨hh, rfl⟩ := if_some h
      exact ⟨by rw [sts_eq e], hh⟩
  | _ => cases h
theorem p_are_marks {m : D} {ms : List Str} (h : marksOf m = some ms) : F__are_marks [m] = M.ret (.bl true) := by
  obtain ⟨rfl, h1, h2, h3, h4⟩ := marks_inv h
  have a1 : (1 : Int) ≤ ms.length := by omega
  have a2 : ¬ (6 : Int) < ms.length := by omega
  simp only [F__are_marks, g__are_marks]
  simp [a1, a2]
  rw [comp_eq D.str (fun _ => D.bl true) _ _ (fun k hk => ⟨_, rfl, by simp [p_is_name k (h3 k hk)], rfl⟩) (small6 (by simp; omega))]
  have e : lenSetD (.lst (ms.map .str)) = some (.int ms.length) := by
    simp [lenSetD, sts_map, h4]
    omega
  simp [allD_true, e]
theorem fls_strs : ∀ ms : List Str, D.fls (ms.map .str) = some (ms.map V.str)
  | [] => rfl
  | m :: ms => by simp [D.fls, D.fl, fls_strs ms]
theorem fls_ints : ∀ ms : List Int, D.fls (ms.map .int) = some (ms.map V.int)
  | [] => rfl
  | m :: ms => by simp [D.fls, D.fl, fls_ints ms]
theorem in_strsL (z : Str) (ms : List Str) : inD (.str z) (.lst (ms.map .str)) = some (.bl (decide (z ∈ ms))) := by
  simp [inD, inB, D.asQ, D.fl, fls_strs, inV_str]
theorem in_strsT (z : Str) (ms : List Str) : inD (.str z) (.tup (ms.map .str)) = some (.bl (decide (z ∈ ms))) := by
  simp [inD, inB, D.asQ, D.fl, fls_strs, inV_str]
theorem comp_eqD {t : Tg} {elt : Ex} {ρ0 : Env} (g : D → D) (ds acc : List D) (h : ∀ x ∈ ds, ∃ ρ', t.bind x ρ0 = some ρ' ∧ elt ρ' = M.ret (g x) ∧ (g x).still = true) (hl : acc.length + ds.length ≤ sizeLine) :
    compF t cYes elt ρ0 ds acc = M.ret (.own (acc ++ ds.map g)) := by
  have := comp_eq (t := t) (elt := elt) (ρ0 := ρ0) (fun d => d) g ds acc h hl
  simpa using this
theorem lockQ {d : D} {ds : List D} (h : lockedQ d = some ds) : d = .lst ds ∨ d = .tup ds := by
  cases d with
  | lst es => cases h; exact .inl rfl
  | tup es => cases h; exact .inr rfl
  | _ => cases h
theorem pair_inv {ms : List Str} {d : D} {p : Str × Str} (h : pairOf ms d = some p) : lockedQ d = some [.str p.1, .str p.2] ∧ p.1 ∈ ms ∧ p.2 ∈ ms := by
  unfold pairOf at h
  split at h
  · rename_i x y e
    obtain ⟨hh, rfl⟩ := if_some h
    exact ⟨e, hh⟩
  · cases h
theorem many_inv {α : Type} {f : D → Option α} : ∀ {ds : List D} {xs : List α}, manyOf f ds = some xs → Paired (fun d x => f d = some x) ds xs
  | [], xs, h => by cases h; exact .nil
  | d :: ds, xs, h => by
    unfold manyOf at h
    cases e : f d with
    | none => rw [e] at h; cases h
    | some x =>
      rw [e] at h
      simp only [Option.bind_some] at h
      cases e2 : manyOf f ds with
      | none => rw [e2] at h; cases h
      | some ys =>
        rw [e2] at h
        cases h
        exact .cons e (many_inv e2)
theorem line_inv {ms : List Str} {d : D} {ps : List (Str × Str)} (h : lineOf ms d = some ps) : ∃ ds, lockedQ d = some ds ∧ ds.length = ms.length ∧ Paired (fun d x => pairOf ms d = some x) ds ps := by
  unfold lineOf at h
  cases e : lockedQ d with
  | none => rw [e] at h; cases h
  | some ds =>
    rw [e] at h
    simp only [Option.bind_some] at h
    split at h
    · exact ⟨ds, rfl, ‹_›, many_inv h⟩
    · cases h
theorem pairs_inv {ms : List Str} {d : D} {pss : List (List (Str × Str))} (h : pairsOf ms d = some pss) : ∃ ds, lockedQ d = some ds ∧ ds.length = ms.length ∧ Paired (fun d x => lineOf ms d = some x) ds pss := by
  unfold pairsOf at h
  cases e : lockedQ d with
  | none => rw [e] at h; cases h
  | some ds =>
    rw [e] at h
    simp only [Option.bind_some] at h
    split at h
    · exact ⟨ds, rfl, ‹_›, many_inv h⟩
    · cases h
theorem prd_mem {α β : Type} {F : α → β → Prop} : ∀ {as : List α} {bs : List β} {a : α}, Paired F as bs → a ∈ as → ∃ b, b ∈ bs ∧ F a b
  | _, _, _, .cons r t, h => by
    rcases List.mem_cons.mp h with rfl | h
    · exact ⟨_, by simp, r⟩
    · obtain ⟨b, h1, h2⟩ := prd_mem t h
      exact ⟨b, by simp [h1], h2⟩
theorem p_is_pair {ms : List Str} {d : D} {p : Str × Str} (h : pairOf ms d = some p) : F__is_pair [d, .lst (ms.map .str)] = M.ret (.bl true) := by
  obtain ⟨e, h1, h2⟩ := pair_inv h
  have c : ∀ ρ : Env, compF (.name 2) cYes (eOp inD (eVar 2) (eVar 1)) [some d, some (.lst (ms.map .str)), none] [.str p.1, .str p.2] [] = M.ret (.own [.bl true, .bl true]) := fun ρ =>
    comp_eq D.str (fun _ => D.bl true) [p.1, p.2] [] (fun x hx => ⟨_, rfl, by
      have : x ∈ ms := by
        rcases List.mem_cons.mp hx with rfl | hx
        · exact h1
        · rw [List.mem_singleton.mp hx]; exact h2
      simp [in_strsL, this], rfl⟩) (small6 (by simp))
  have a : allD [.own [.bl true, .bl true]] = some (.bl true) := rfl
  simp only [F__is_pair, g__is_pair]
  rcases lockQ e with rfl | rfl <;> simp [c [], a]
theorem p_is_full {ms : List Str} {d : D} {ds : List D} (h : lockedQ d = some ds) (hl : ds.length = ms.length) : F__is_full [d, .lst (ms.map .str)] = M.ret (.bl true) := by
  simp only [F__is_full, g__is_full]
  rcases lockQ h with rfl | rfl <;> simp [hl]
theorem still_of {d : D} {ds : List D} (h : lockedQ d = some ds) : d.still = true := by
  rcases lockQ h with rfl | rfl <;> rfl
theorem p_is_line {ms : List Str} {d : D} {ps : List (Str × Str)} (h6 : ms.length ≤ 6) (h : lineOf ms d = some ps) : F__is_line [d, .lst (ms.map .str)] = M.ret (.bl true) := by
  obtain ⟨ds, e, hl, hp⟩ := line_inv h
  have c : compF (.name 2) cYes (eLock (eCall F__is_pair (aCons (eVar 2) (aCons (eVar 1) aNil)))) [some d, some (.lst (ms.map .str)), none] ds [] = M.ret (.own (ds.map fun _ => .bl true)) :=
    comp_eqD (fun _ => D.bl true) ds [] (fun x hx => by
      obtain ⟨p, _, hp⟩ := prd_mem hp hx
      have st := still_of (pair_inv hp).1
      exact ⟨[some d, some (.lst (ms.map .str)), some x], by simp [Tg.bind, st], by simp [p_is_pair hp, st], rfl⟩) (small6 (by simp; omega))
  simp only [F__is_line, g__is_line]
  have st := still_of e
  simp [p_is_full e hl, st]
  rcases lockQ e with rfl | rfl <;> simp [c, allD_true]
theorem p_are_pairs {ms : List Str} {d : D} {pss : List (List (Str × Str))} (h6 : ms.length ≤ 6) (h : pairsOf ms d = some pss) : F__are_pairs [d, .lst (ms.map .str)] = M.ret (.bl true) := by
  obtain ⟨ds, e, hl, hp⟩ := pairs_inv h
  have c : compF (.name 2) cYes (eLock (eCall F__is_line (aCons (eVar 2) (aCons (eVar 1) aNil)))) [some d, some (.lst (ms.map .str)), none] ds [] = M.ret (.own (ds.map fun _ => .bl true)) :=
    comp_eqD (fun _ => D.bl true) ds [] (fun x hx => by
      obtain ⟨p, _, hp⟩ := prd_mem hp hx
      obtain ⟨_, e2, _⟩ := line_inv hp
      have st := still_of e2
      exact ⟨[some d, some (.lst (ms.map .str)), some x], by simp [Tg.bind, st], by simp [p_is_line h6 hp, st], rfl⟩) (small6 (by simp; omega))
  simp only [F__are_pairs, g__are_pairs]
  have st := still_of e
  simp [p_is_full e hl, st]
  rcases lockQ e with rfl | rfl <;> simp [c, allD_true]
end Fx
set_option Elab.async false
set_option maxRecDepth 100000
set_option linter.unusedVariables false
/-! Table.__init__. -/
namespace Fx
open PySem L2 Lw
theorem init_len {K : PySem.W.Frag} {C : Addr} {vs : List V} {H : Hp} {Q : VK} {E : XK} (h : spInitF K C vs H Q E) : vs.length = 3 := by
  obtain ⟨_, _, _, _, _, _, _, _, _, _, rfl, _⟩ := h
  rfl
/-! an object that is still to be filled: what is read doesn't hang on it -/
/-- all but me is as it was -/
def But (me : Addr) (H H' : Hp) : Prop := ∀ b o, H b = some o → b ≠ me → H' b = some o
def NoTbl (H : Hp) (me : Addr) : Prop := ∃ C dx fs, H me = some (.ins C dx fs) ∧ fs.length ≠ 2
theorem tup_but {H H' : Hp} {me a : Addr} {vs : List V} (h : Tup H a vs) (n : NoTbl H me) (k : But me H H') : Tup H' a vs := by
  obtain ⟨C, dx, fs, e, _⟩ := n
  obtain ⟨o, h1, h2⟩ := h
  exact ⟨o, k _ _ h1 (by rintro rfl; rw [e] at h1; cases h1), h2⟩
theorem tbl_but {H H' : Hp} {me C a : Addr} {ms : List Str} {pss : List (List (Str × Str))} (h : TblAt H C a ms pss) (n : NoTbl H me) (k : But me H H') : TblAt H' C a ms pss := by
  obtain ⟨dx, m, q, ls, h1, h2, h3, h4⟩ := h
  refine ⟨dx, m, q, ls, k _ _ h1 ?_, tup_but h2 n k, tup_but h3 n k, PairedM h4 fun _ _ ⟨ts, a, b⟩ => ⟨ts, tup_but a n k, PairedM b fun _ _ t => tup_but t n k⟩⟩
  rintro rfl
  obtain ⟨C2, dx2, fs, e, l⟩ := n
  rw [e] at h1
  cases h1
  exact l rfl
mutual
theorem rp_but {c : Rc} {H H' : Hp} {me : Addr} (n : NoTbl H me) (k : But me H H') : ∀ {d : D} {v : V}, Rp c H d v → Rp c H' d v
  | _, _, .non => .non
  | _, _, .bl b => .bl b
  | _, _, .int i => .int i
  | _, _, .str x => .str x
  | _, _, .tup h r => .tup (tup_but h n k) (rps_but n k r)
  | _, _, .lst h r => .lst (by
    obtain ⟨C, dx, fs, e, _⟩ := n
    obtain ⟨o, h1, h2⟩ := h
    exact ⟨o, k _ _ h1 (by rintro rfl; rw [e] at h1; cases h1), h2⟩) (rps_but n k r)
  | _, _, .pen h => .pen h
  | _, _, .scr h => .scr (by
    obtain ⟨C, dx, fs, e, _⟩ := n
    obtain ⟨vs, l, h⟩ := h
    exact ⟨vs, l, h.imp (fun ⟨o, e1⟩ => ⟨o, k _ _ e1 (by rintro rfl; rw [e] at e1; cases e1)⟩) id⟩)
  | _, _, .tbl h => .tbl (tbl_but h n k)
theorem rps_but {c : Rc} {H H' : Hp} {me : Addr} (n : NoTbl H me) (k : But me H H') : ∀ {ds : List D} {vs : List V}, Rps c H ds vs → Rps c H' ds vs
  | _, _, .nil => .nil
  | _, _, .cons r t => .cons (rp_but n k r) (rps_but n k t)
end
theorem pen_but {c : Rc} {π : Pn} {H H' : Hp} {me : Addr} (p : PenR c π H) (n : NoTbl H me) (k : But me H H') : PenR c π H' := fun q hq => by
  obtain ⟨C, dx, fs, e, _⟩ := n
  obtain ⟨h1, h2, h3⟩ := p q hq
  exact ⟨k _ _ h1 (by rintro h; rw [h, e] at h1; cases h1), k _ _ h2 (by rintro h; rw [h, e] at h2; cases h2), h3⟩
theorem strPair_of {c : Rc} {H : Hp} {p : Str × Str} {v : V} (h : Rp c H (pairD p) v) : ∃ t, v = .ref t ∧ StrPair H t p := by
  cases h with
  | tup ht r =>
    cases r with
    | cons r1 r =>
      cases r with
      | cons r2 r =>
        cases r
        cases r1
        cases r2
        exact ⟨_, rfl, ht⟩
theorem paired_of {c : Rc} {H : Hp} {α : Type} {f : α → D} {R : Addr → α → Prop} (h : ∀ x v, Rp c H (f x) v → ∃ t, v = .ref t ∧ R t x) : ∀ {xs : List α} {vs : List V}, Rps c H (xs.map f) vs → ∃ ts : List Addr, vs = ts.map .ref ∧ Paired R ts xs
  | [], _, .nil => ⟨[], rfl, .nil⟩
  | x :: xs, _, .cons r t => by
    obtain ⟨t1, rfl, r1⟩ := h x _ r
    obtain ⟨ts, rfl, rs⟩ := paired_of h t
    exact ⟨t1 :: ts, rfl, .cons r1 rs⟩
theorem lineT_of {c : Rc} {H : Hp} {ps : List (Str × Str)} {v : V} (h : Rp c H (lineD ps) v) : ∃ t, v = .ref t ∧ LineT H t ps := by
  cases h with
  | tup ht r =>
    obtain ⟨ts, rfl, rs⟩ := paired_of (fun x v => strPair_of) r
    exact ⟨_, rfl, ts, ht, rs⟩
theorem pairs_of {c : Rc} {H : Hp} {pss : List (List (Str × Str))} {v : V} (h : Rp c H (pairsD pss) v) : ∃ q ls, v = .ref q ∧ Tup H q (ls.map V.ref) ∧ Paired (LineT H) ls pss := by
  cases h with
  | tup ht r =>
    obtain ⟨ts, rfl, rs⟩ := paired_of (fun x v => lineT_of) r
    exact ⟨_, ts, rfl, ht, rs⟩
theorem prd_map {α β γ : Type} {F : α → β → Prop} {f : α → γ} {g : β → γ} (h : ∀ a b, F a b → f a = g b) : ∀ {as : List α} {bs : List β}, Paired F as bs → as.map f = bs.map g
  | _, _, .nil => rfl
  | _, _, .cons r t => by simp [h _ _ r, prd_map h t]
def itQ (d : D) : List D := (lockedQ d).getD []
theorem init2 {ms : List Str} {d : D} {m : Option D} {pss : List (List (Str × Str))} (h6 : ms.length ≤ 6) (h : pairsOf ms d = some pss) : e_init2 [none, m, some d, none, none] = M.ret (pairsD pss) := by
  obtain ⟨ds, e, hl, hp⟩ := pairs_inv h
  have c2 : ∀ (l : D) (ps : List (Str × Str)), lineOf ms l = some ps → ∀ ls, lockedQ l = some ls → compF (.name 4) cYes (eFn tupleD (aCons (eVar 4) aNil)) [none, m, some d, some l, none] ls [] = M.ret (.own (ps.map pairD)) := fun l ps hlp ls hls => by
    obtain ⟨ls', e2, hl2, hp2⟩ := line_inv hlp
    rw [hls] at e2
    cases e2
    rw [comp_eqD (fun x => .tup (itQ x)) ls [] (fun x hx => by
      obtain ⟨p, _, hp⟩ := prd_mem hp2 hx
      have e3 := (pair_inv hp).1
      have st := still_of e3
      refine ⟨[none, m, some d, some l, some x], by simp [Tg.bind, st], ?_, rfl⟩
      rcases lockQ e3 with rfl | rfl <;> simp [itQ]) (small6 (by simp; omega))]
    have : ls.map (fun x => D.tup (itQ x)) = ps.map pairD := prd_map (fun a b h => by
      have := (pair_inv h).1
      simp [itQ, this, pairD]) hp2
    rw [this]
    rfl
  have c1 : compF (.name 3) cYes (eFn tupleD (aCons (eComp (iA (eVar 3)) (.name 4) cYes (eFn tupleD (aCons (eVar 4) aNil)) [4]) aNil)) [none, m, some d, none, none] ds [] = M.ret (.own (pss.map lineD)) := by
    rw [comp_eqD (fun x => .tup ((itQ x).map fun y => .tup (itQ y))) ds [] (fun x hx => by
      obtain ⟨ps, _, hps⟩ := prd_mem hp hx
      obtain ⟨ls, e3, hl3, hp3⟩ := line_inv hps
      have st := still_of e3
      refine ⟨[none, m, some d, some x, none], by simp [Tg.bind, st], ?_, rfl⟩
      have k := c2 x ps hps ls e3
      have : ls.map (fun x => D.tup (itQ x)) = ps.map pairD := prd_map (fun a b h => by
        have := (pair_inv h).1
        simp [itQ, this, pairD]) hp3
      have e4 : itQ x = ls := by simp [itQ, e3]
      rw [e4, this]
      rcases lockQ e3 with rfl | rfl <;> simp [k]) (small6 (by simp; omega))]
    have : ds.map (fun x => D.tup ((itQ x).map fun y => .tup (itQ y))) = pss.map lineD := prd_map (fun a b h => by
      obtain ⟨ls, e3, hl3, hp3⟩ := line_inv h
      have e4 : itQ a = ls := by simp [itQ, e3]
      have : ls.map (fun x => D.tup (itQ x)) = b.map pairD := prd_map (fun a b h => by
        have := (pair_inv h).1
        simp [itQ, this, pairD]) hp3
      rw [e4, this]
      rfl) hp
    rw [this]
    rfl
  unfold e_init2
  rcases lockQ e with rfl | rfl <;> simp [c1, pairsD]
theorem init_goes {K : PySem.W.Frag} {C f0 : Addr} {mg : Str → Option Value} {vs : List V} {H : Hp} {Q : VK} {E : XK} (TC : TabC K mg C f0) (h : spInitF K C vs H Q E) :
    tSeq (tIfS (fun σ H Q => ∃ a : Option (Addr × Addr) × Hp, tX (fcNo K C mg a.1 a.2) RB t_init1 σ H Q) tNever tNext) (tSeq (tIfS (fun σ H Q => ∃ a : Option (Addr × Addr) × Hp, tX (fcNo K C mg a.1 a.2) RB t_init2 σ H Q) tNever tNext)
      (tSeq (sFld K (tVar 0) (fun σ H Q => ∃ a : Option (Addr × Addr) × Hp, tE (fcNo K C mg a.1 a.2) (fcNo K C mg a.1 a.2).RN e_init1 σ H Q) "_marks") (sFld K (tVar 0) (fun σ H Q => ∃ a : Option (Addr × Addr) × Hp, tE (fcNo K C mg a.1 a.2) (fcNo K C mg a.1 a.2).RN e_init2 σ H Q) "_pairs")))
    { nx := fun _ H' => Q .non H', rt := Q } (L2.start ["self", "marks", "pairs", "line", "pair"] vs) H := by
  obtain ⟨pen, π, me, dx, m, p, x, y, ms, pss, rfl, pn, hme, rx, ry, em, ep, k⟩ := h
  obtain ⟨e0, h1, h6, hn, hd⟩ := marks_inv em
  have hdOf : ∀ H1 : Hp, PenR ⟨K, C, pen⟩ π H1 → Rp ⟨K, C, pen⟩ H1 m x → Rp ⟨K, C, pen⟩ H1 p y → Hd ⟨K, C, pen⟩ H1 [none, some m, some p, none, none] π (L2.start ["self", "marks", "pairs", "line", "pair"] [.ref me, x, y]) H1 := fun H1 pn rx ry => by
    refine ⟨rfl, fun i d hi => ?_, fun i j ds es a hi hj _ _ => ?_, ⟨π, pn⟩, pn, .refl _ _⟩
    · match i, hi with
      | 1, hi => cases hi; exact ⟨x, rfl, .inl rx⟩
      | 2, hi => cases hi; exact ⟨y, rfl, .inl ry⟩
      | 0, hi => cases hi
      | 3, hi => cases hi
      | 4, hi => cases hi
      | i + 5, hi => simp at hi
    · exfalso
      match i, hi with
      | 1, hi => cases hi; cases rx
      | 2, hi => cases hi; cases ry
      | 0, hi => cases hi
      | 3, hi => cases hi
      | 4, hi => cases hi
      | i + 5, hi => simp at hi
  have a1 : t_init1 [none, some m, some p, none, none] = M.ret false := by
    unfold t_init1
    subst e0
    simp [p_are_marks em]
  have a2 : t_init2 [none, some m, some p, none, none] = M.ret false := by
    unfold t_init2
    subst e0
    obtain ⟨ds, e, _⟩ := pairs_inv ep
    simp [p_are_pairs h6 ep, still_of e]
  have a3 : e_init1 [none, some m, some p, none, none] = M.ret (marksD ms) := by
    unfold e_init1
    subst e0
    simp [marksD]
  have a4 := init2 (m := some m) h6 ep
  refine ⟨(pen, H), [none, some m, some p, none, none], π, hdOf H pn rx ry, ?_⟩
  rw [a1]
  rintro v H1 hd1 s1 rfl
  show (if false = true then _ else _)
  rw [if_neg Bool.false_ne_true]
  have me1 : H1 me = some (.ins C dx []) := s1.2 _ _ hme trivial
  have pn1 : PenR ⟨K, C, pen⟩ π H1 := hd1.pen
  have rx1 := rx.kp s1.2
  have ry1 := ry.kp s1.2
  refine ⟨(pen, H1), [none, some m, some p, none, none], π, hdOf H1 pn1 rx1 ry1, ?_⟩
  rw [a2]
  rintro v H2 hd2 s2 rfl
  show (if false = true then _ else _)
  rw [if_neg Bool.false_ne_true]
  have me2 : H2 me = some (.ins C dx []) := s2.2 _ _ me1 trivial
  have pn2 : PenR ⟨K, C, pen⟩ π H2 := hd2.pen
  have rx2 := rx1.kp s2.2
  have ry2 := ry1.kp s2.2
  refine ⟨(pen, H2), [none, some m, some p, none, none], π, hdOf H2 pn2 rx2 ry2, ?_⟩
  rw [a3]
  intro v H3 hd3 s3 r3
  have r3 : Rp ⟨K, C, pen⟩ H3 (marksD ms) v := RpN.still r3 rfl
  have me3 : H3 me = some (.ins C dx []) := s3.2 _ _ me2 trivial
  have pn3 : PenR ⟨K, C, pen⟩ π H3 := hd3.pen
  have rx3 := rx2.kp s3.2
  have ry3 := ry2.kp s3.2
  refine ⟨.ref me, rfl, me, C, dx, [], rfl, me3, TC.cl, TC.nM, by decide, ?_⟩
  have n3 : NoTbl H3 me := ⟨C, dx, [], me3, by decide⟩
  have b4 : But me H3 (upd H3 me (.ins C dx (putF "_marks" v []))) := fun b o e n => by rw [upd_ne n]; exact e
  have me4 : (upd H3 me (.ins C dx (putF "_marks" v []))) me = some (.ins C dx [("_marks", v)]) := upd_same
  generalize upd H3 me (.ins C dx (putF "_marks" v [])) = H4 at b4 me4
  have r4 := rp_but n3 b4 r3
  have rx4 := rp_but n3 b4 rx3
  have ry4 := rp_but n3 b4 ry3
  have pn4 := pen_but pn3 n3 b4
  refine ⟨(pen, H4), [none, some m, some p, none, none], π, hdOf H4 pn4 rx4 ry4, ?_⟩
  rw [a4]
  intro u H5 hd5 s5 r5
  have r5 : Rp ⟨K, C, pen⟩ H5 (pairsD pss) u := RpN.still r5 rfl
  have me5 : H5 me = some (.ins C dx [("_marks", v)]) := s5.2 _ _ me4 trivial
  have pn5 : PenR ⟨K, C, pen⟩ π H5 := hd5.pen
  have rm5 := r4.kp s5.2
  refine ⟨.ref me, rfl, me, C, dx, [("_marks", v)], rfl, me5, TC.cl, TC.nP, (by show 1 < 1000; decide), ?_⟩
  have n5 : NoTbl H5 me := ⟨C, dx, _, me5, by show 1 ≠ 2; decide⟩
  have b6 : But me H5 (upd H5 me (.ins C dx (putF "_pairs" u [("_marks", v)]))) := fun b o e n => by rw [upd_ne n]; exact e
  have me6 : (upd H5 me (.ins C dx (putF "_pairs" u [("_marks", v)]))) me = some (.ins C dx [("_marks", v), ("_pairs", u)]) := upd_same
  generalize upd H5 me (.ins C dx (putF "_pairs" u [("_marks", v)])) = H6 at b6 me6
  have rm6 := rp_but n5 b6 rm5
  have r6 := rp_but n5 b6 r5
  obtain ⟨q, ls, rfl, hq, hls⟩ := pairs_of r6
  unfold marksD at rm6
  cases rm6 with
  | @tup mm vs ds hm r =>
    have := rps_strs r
    subst this
    refine k H6 ⟨dx, mm, q, ls, me6, hm, hq, hls⟩ fun b o e n => ?_
    have pk : ∀ {Ha Hb : Hp}, PenR ⟨K, C, pen⟩ π Ha → PenR ⟨K, C, pen⟩ π Hb → Stp ⟨K, C, pen⟩ Ha Hb → Ha b = some o → Hb b = some o := fun pa pb s e => by
      by_cases hp : ∃ q, pen = some q ∧ b = q.1
      · obtain ⟨q, hq, rfl⟩ := hp
        rw [(pa q hq).1] at e
        cases e
        exact (pb q hq).1
      · exact s.1 b o e fun q hq z => hp ⟨q, hq, z⟩
    exact b6 b o (pk pn4 pn5 s5 (b4 b o (pk pn2 pn3 s3 (pk pn1 pn2 s2 (pk pn pn1 s1 e))) n)) n
end Fx
set_option Elab.async false
set_option maxRecDepth 100000
set_option linter.unusedVariables false
/-! Squares of pairs. -/
namespace Fx
open PySem L2 Lw
abbrev nD (i : Nat) : D := .int (i : Int)
def prD (p : Nat × Nat) : D := .tup [nD p.1, nD p.2]
/-- rows and places below n -/
def sqr (n : Nat) (T : Nat → Nat → Nat × Nat) : List D := (List.range n).map fun x => .lst ((List.range n).map fun y => prD (T x y))
@[simp] theorem still_pr (p : Nat × Nat) : (prD p).still = true := rfl
@[simp] theorem ix_pr0 (p : Nat × Nat) : ixD (prD p) (.int 0) = some (nD p.1) := rfl
@[simp] theorem ix_pr1 (p : Nat × Nat) : ixD (prD p) (.int 1) = some (nD p.2) := rfl
theorem pr_eq (a b : Nat) : D.tup [D.int (a : Int), D.int (b : Int)] = prD (a, b) := rfl
@[simp] theorem one_line : 1 ≤ sizeLine := by decide
@[simp] theorem four_line : 4 ≤ sizeLine := by decide
@[simp] theorem twelve_line : 12 ≤ sizeLine := by decide
@[simp] theorem zero_ltline : 0 < sizeLine := by decide
@[simp] theorem two_line : 2 ≤ sizeLine := by decide
@[simp] theorem three_line : 3 ≤ sizeLine := by decide
theorem rg0 (n : Nat) : rgD 0 (n : Int) = (List.range n).map nD := by
  unfold rgD
  simp
theorem at_map {α : Type} {f : Nat → D} {n k : Nat} (h : k < n) : atI ((List.range n).map f) (k : Int) = some (f k) := atI_nat (by simp [h])
theorem at_sqr {n : Nat} {T : Nat → Nat → Nat × Nat} {x : Nat} (h : x < n) : atI (sqr n T) (x : Int) = some (.lst ((List.range n).map fun y => prD (T x y))) := at_map (α := Nat) h
theorem sqr_len (n : Nat) (T : Nat → Nat → Nat × Nat) : (sqr n T).length = n := by simp [sqr]
theorem map_sq {n : Nat} {T U : Nat → Nat → Nat × Nat} (h : ∀ x y, x < n → y < n → T x y = U x y) : sqr n T = sqr n U := by
  unfold sqr
  refine List.map_congr_left fun x hx => ?_
  refine congrArg D.lst (List.map_congr_left fun y hy => ?_)
  rw [h x y (List.mem_range.mp hx) (List.mem_range.mp hy)]
def beh (T : Nat → Nat → Nat × Nat) : Nat → Nat → Nat × Nat := fun x y => ((T y x).2, (T y x).1)
theorem rgn {n : Nat} (h : n ≤ 1000) : Rg62 (n : Int) := rg62 (by omega)
theorem p_behind {n : Nat} {T : Nat → Nat → Nat × Nat} (hn : n ≤ 1000) : F_behind_pairs [.lst (sqr n T)] = M.ret (.own (sqr n (beh T))) := by
  have h1 := small6 hn
  have h2 := rgn hn
  have e := rg0 n
  simp only [F_behind_pairs, g_behind_pairs]
  simp [sqr_len, h2, e]
  rw [comp_eq nD (fun x => D.lst ((List.range n).map fun y => prD (beh T x y))) _ _ (fun x hx => ⟨_, rfl, by
    have hx := List.mem_range.mp hx
    simp [h2, e]
    rw [comp_eq nD (fun y => prD (beh T x y)) _ _ (fun y hy => ⟨_, rfl, by
      have hy := List.mem_range.mp hy
      have a1 : atI (sqr n T) (y : Int) = _ := at_sqr hy
      have a2 : atI ((List.range n).map fun z => prD (T y z)) (x : Int) = _ := at_map (α := Nat) hx
      simp [a1, a2, beh, pr_eq], rfl⟩) (by simp; exact h1)]
    simp, rfl⟩) (by simp; exact h1)]
  simp [sqr]
theorem idxOf_of {α : Type} [DecidableEq α] : ∀ {l : List α} {i : Nat} {z : α}, l[i]? = some z → (∀ j, j < i → l[j]? ≠ some z) → l.idxOf z = i
  | [], i, z, h, _ => by simp at h
  | a :: l, 0, z, h, _ => by
    have : a = z := by simpa using h
    simp [this]
  | a :: l, i + 1, z, h, hj => by
    have ne : a ≠ z := fun e => hj 0 (by omega) (by simp [e])
    have := idxOf_of (l := l) (i := i) (z := z) (by simpa using h) fun j hj' e => hj (j + 1) (by omega) (by simpa using e)
    have e2 : (a == z) = false := by simpa using ne
    rw [List.idxOf_cons, e2]
    simp [this]
/-- what the turn ahead set -/
def past (f : Nat → D) : Nat → Option D
  | 0 => none
  | i + 1 => some (f i)
/-- one-one moves of the numbers below n -/
structure Mv (n : Nat) (mv iv : Nat → Nat) : Prop where
  m : ∀ k, k < n → mv k < n
  i : ∀ k, k < n → iv k < n
  mi : ∀ k, k < n → mv (iv k) = k
  im : ∀ k, k < n → iv (mv k) = k
def mvD (n : Nat) (mv : Nat → Nat) : List D := (List.range n).map fun k => nD (mv k)
theorem mvD_len (n : Nat) (mv : Nat → Nat) : (mvD n mv).length = n := by simp [mvD]
theorem at_mv {n k : Nat} {mv : Nat → Nat} (h : k < n) : atI (mvD n mv) (k : Int) = some (nD (mv k)) := at_map (α := Nat) h
theorem idx_mv {n : Nat} {mv iv : Nat → Nat} (h : Mv n mv iv) {k : Nat} (hk : k < n) : idxD (mvD n mv) (nD k) = some (nD (iv k)) := by
  have e1 : D.ints (mvD n mv) = some ((List.range n).map fun k => ((mv k : Nat) : Int)) := by
    have : mvD n mv = ((List.range n).map fun k => ((mv k : Nat) : Int)).map D.int := by simp [mvD]
    rw [this, ints_map]
  have e2 : ((List.range n).map fun k => ((mv k : Nat) : Int))[iv k]? = some (k : Int) := by simp [h.i k hk, h.mi k hk]
  have e3 : ((List.range n).map fun k => ((mv k : Nat) : Int)).idxOf (k : Int) = iv k := idxOf_of e2 fun j hj e => by
    have hjn : j < n := by
      have := h.i k hk
      omega
    simp [hjn] at e
    have : iv (mv j) = iv k := by rw [show mv j = k by omega]
    rw [h.im j hjn] at this
    omega
  have e4 : (k : Int) ∈ (List.range n).map fun k => ((mv k : Nat) : Int) := List.mem_of_getElem? e2
  unfold idxD nD
  simp only [e1, Option.bind_some]
  rw [if_pos e4, e3]
def cal (mv iv : Nat → Nat) (T : Nat → Nat → Nat × Nat) : Nat → Nat → Nat × Nat := fun x y => (mv (T (iv x) (iv y)).1, mv (T (iv x) (iv y)).2)
/-- all pairs are of numbers below n -/
def Sq (n : Nat) (T : Nat → Nat → Nat × Nat) : Prop := ∀ x y, x < n → y < n → (T x y).1 < n ∧ (T x y).2 < n
theorem p_called {n : Nat} {T : Nat → Nat → Nat × Nat} {mv iv : Nat → Nat} (hn : n ≤ 1000) (hT : Sq n T) (h : Mv n mv iv) : F_called [.lst (sqr n T), .lst (mvD n mv)] = M.ret (.own (sqr n (cal mv iv T))) := by
  have h1 := small6 hn
  have h2 := rgn hn
  have e := rg0 n
  have c1 : ∀ ρ : List (Option D), compF (.name 7) cYes (eIdx (eVar 1) (eVar 7)) [some (.lst (sqr n T)), some (.lst (mvD n mv)), some (nD n), some (.own []), none, none, none, none, none, none, none] ((List.range n).map nD) [] = M.ret (.own (mvD n iv)) := fun ρ => by
    rw [comp_eq nD (fun k => nD (iv k)) _ _ (fun k hk => ⟨_, rfl, by
      have hk := List.mem_range.mp hk
      have := idx_mv h hk
      simp [this], rfl⟩) (by simp; exact h1)]
    rfl
  simp only [F_called, g_called]
  simp [sqr_len, h2, e, c1 []]
  let row : Nat → D := fun x => .lst ((List.range n).map fun y => prD (cal mv iv T x y))
  let inn : Nat → D := fun x => .lst ((List.range n).map fun y => prD (T (iv x) (iv y)))
  let S : Nat → Env := fun i => [some (.lst (sqr n T)), some (.lst (mvD n mv)), some (.int (n : Int)), some (.own ((List.range i).map row)), some (.own (mvD n iv)), past nD i, past inn i, none, none, none, none]
  have L := for_eq (t := .name 5) (b := (sSeq
              (sSet 6
                (eComp (iR1 (aCons (eVar 2) aNil)) (Tg.name 8) cYes
                  (eOp ixD (eOp ixD (eVar 0) (eOp ixD (eVar 4) (eVar 5))) (eOp ixD (eVar 4) (eVar 8))) [8]))
              (sFrz 6
                (sOn 3
                  (eLock
                    (eComp (iA (eVar 6)) (Tg.tup [Tg.name 9, Tg.name 10]) cYes
                      (eTup (aCons (eOp ixD (eVar 1) (eVar 9)) (aCons (eOp ixD (eVar 1) (eVar 10)) aNil))) [9, 10]))
                  appD)))) nD (List.range n) S fun i x hx => by
    obtain ⟨hi, rfl⟩ : i < n ∧ x = i := by
      have hi : i < n := by simpa using (List.getElem?_eq_some_iff.mp hx).1
      rw [List.getElem?_range hi] at hx
      exact ⟨hi, (Option.some.inj hx).symm⟩
    refine ⟨_, rfl, .inl ?_⟩
    simp [S, h2, e]
    rw [comp_eq nD (fun y => prD (T (iv x) (iv y))) _ _ (fun y hy => ⟨_, rfl, by
      have hy := List.mem_range.mp hy
      have a1 : atI (mvD n iv) (x : Int) = _ := at_mv hi
      have a2 : atI (mvD n iv) (y : Int) = _ := at_mv hy
      have a3 : atI (sqr n T) ((iv x : Nat) : Int) = _ := at_sqr (h.i x hi)
      have a4 : atI ((List.range n).map fun y => prD (T (iv x) y)) ((iv y : Nat) : Int) = _ := at_map (α := Nat) (h.i y hy)
      simp [a1, a2, a3, a4], rfl⟩) (by simp; exact h1)]
    simp
    rw [comp_eq (fun y => prD (T (iv x) (iv y))) (fun y => prD (cal mv iv T x y)) (List.range n) [] (fun y hy => ⟨_, rfl, by
      have hy := List.mem_range.mp hy
      obtain ⟨t1, t2⟩ := hT _ _ (h.i x hi) (h.i y hy)
      have a1 : atI (mvD n mv) (((T (iv x) (iv y)).1 : Nat) : Int) = _ := at_mv t1
      have a2 : atI (mvD n mv) (((T (iv x) (iv y)).2 : Nat) : Int) = _ := at_mv t2
      simp [a1, a2, cal, pr_eq], rfl⟩) (by simp; exact h1)]
    have hs : x < sizeLine := Nat.lt_of_lt_of_le hi h1
    simp [hs, List.range_succ, row, inn, past]
  have L0 : S 0 = [some (.lst (sqr n T)), some (.lst (mvD n mv)), some (.int (n : Int)), some (.own []), some (.own (mvD n iv)), none, none, none, none, none, none] := by simp [S, past]
  rw [L0] at L
  rw [L]
  simp [S, sqr, row]
end Fx
set_option Elab.async false
set_option maxRecDepth 100000
set_option linter.unusedVariables false
/-! Data told apart. -/
namespace Fx
open PySem L2 Lw
/-- enc's data of dom are read as data, by k levels, and told apart just where they are unlike -/
structure Enc {α : Type} (enc : α → D) (k : Nat) (dom : α → Prop) where
  py : α → PyData
  h : ∀ a, dom a → (enc a).py = some (py a) ∧ (py a).canLay0 = true ∧ (py a).depth ≤ k
  e : ∀ a b, dom a → dom b → (PyData.eqv (py a) (py b) = true ↔ a = b)
def Any {α : Type} (_ : α) : Prop := True
theorem any {α : Type} (a : α) : Any a := trivial
def encInt : Enc D.int 0 Any := ⟨.int, fun a _ => ⟨rfl, rfl, Nat.le_refl _⟩, fun a b _ _ => by simp [PyData.eqv]⟩
def encNat : Enc (fun i : Nat => D.int (i : Int)) 0 Any := ⟨fun i => .int i, fun a _ => ⟨rfl, rfl, Nat.le_refl _⟩, fun a b _ _ => by simp [PyData.eqv]; omega⟩
def encBl : Enc D.bl 0 Any := ⟨.bool, fun a _ => ⟨rfl, rfl, Nat.le_refl _⟩, fun a b _ _ => by simp [PyData.eqv]⟩
def encStr : Enc D.str 0 (fun z => PyData.strOk z = true) := ⟨.str, fun a h => ⟨rfl, by simpa [PyData.canLay0] using h, Nat.le_refl _⟩, fun a b _ _ => by simp [PyData.eqv]⟩
section
variable {α β : Type} {enc : α → D} {k : Nat} {dom : α → Prop}
theorem Enc.pys (E : Enc enc k dom) : ∀ xs : List α, (∀ x ∈ xs, dom x) → D.pys (xs.map enc) = some (xs.map E.py) ∧ PyData.canLayAll0 (xs.map E.py) = true ∧ PyData.depthAll (xs.map E.py) ≤ k
  | [], _ => ⟨rfl, rfl, Nat.zero_le _⟩
  | x :: xs, h => by
    obtain ⟨h1, h2, h3⟩ := E.h x (h x (by simp))
    obtain ⟨g1, g2, g3⟩ := Enc.pys E xs fun y hy => h y (by simp [hy])
    refine ⟨?_, ?_, ?_⟩
    · simp [D.pys, h1, g1]
    · simp [PyData.canLayAll0, h2, g2]
    · simp only [List.map_cons, PyData.depthAll]
      omega
theorem Enc.eqs (E : Enc enc k dom) : ∀ xs ys : List α, (∀ x ∈ xs, dom x) → (∀ x ∈ ys, dom x) → (PyData.eqvAll (xs.map E.py) (ys.map E.py) = true ↔ xs = ys)
  | [], [], _, _ => by simp [PyData.eqvAll]
  | [], _ :: _, _, _ => by simp [PyData.eqvAll]
  | _ :: _, [], _, _ => by simp [PyData.eqvAll]
  | x :: xs, y :: ys, hx, hy => by
    have h1 := E.e x y (hx x (by simp)) (hy y (by simp))
    have h2 := Enc.eqs E xs ys (fun z hz => hx z (by simp [hz])) fun z hz => hy z (by simp [hz])
    simp only [List.map_cons, PyData.eqvAll, Bool.and_eq_true, h1, h2, List.cons.injEq]
def Enc.tup (E : Enc enc k dom) : Enc (fun xs : List α => D.tup (xs.map enc)) (k + 1) (fun xs => ∀ x ∈ xs, dom x) :=
  ⟨fun xs => .tuple (xs.map E.py), fun xs h => by
    obtain ⟨h1, h2, h3⟩ := E.pys xs h
    exact ⟨by simp [D.py, h1], by simpa [PyData.canLay0] using h2, by simp only [PyData.depth]; omega⟩, fun xs ys hx hy => by
    have := E.eqs xs ys hx hy
    simpa [PyData.eqv] using this⟩
def Enc.lst (E : Enc enc k dom) : Enc (fun xs : List α => D.lst (xs.map enc)) (k + 1) (fun xs => ∀ x ∈ xs, dom x) :=
  ⟨fun xs => .list (xs.map E.py), fun xs h => by
    obtain ⟨h1, h2, h3⟩ := E.pys xs h
    exact ⟨by simp [D.py, h1], by simpa [PyData.canLay0] using h2, by simp only [PyData.depth]; omega⟩, fun xs ys hx hy => by
    have := E.eqs xs ys hx hy
    simpa [PyData.eqv] using this⟩
def Enc.pair {l : Nat} {enc' : β → D} {dom' : β → Prop} (E : Enc enc k dom) (F : Enc enc' l dom') : Enc (fun p : α × β => D.tup [enc p.1, enc' p.2]) (max k l + 1) (fun p => dom p.1 ∧ dom' p.2) :=
  ⟨fun p => .tuple [E.py p.1, F.py p.2], fun p h => by
    obtain ⟨h1, h2, h3⟩ := E.h p.1 h.1
    obtain ⟨g1, g2, g3⟩ := F.h p.2 h.2
    exact ⟨by simp [D.py, D.pys, h1, g1], by simp [PyData.canLay0, PyData.canLayAll0, h2, g2], by simp only [PyData.depth, PyData.depthAll]; omega⟩, fun p q hp hq => by
    have h1 := E.e p.1 q.1 hp.1 hq.1
    have h2 := F.e p.2 q.2 hp.2 hq.2
    simp [PyData.eqv, PyData.eqvAll, h1, h2, Prod.ext_iff]⟩
theorem eqP_py {d e : D} {p q : PyData} (h1 : d.py = some p) (h2 : e.py = some q) (c1 : p.canLay0 = true) (c2 : q.canLay0 = true) (l1 : p.depth ≤ 64) (l2 : q.depth ≤ 64) : eqP d e = some (PyData.eqv p q) := by
  unfold eqP
  rw [h1, h2]
  have s1 : SeqAt.shaped p = true := by simp [SeqAt.shaped, c1, l1]
  have s2 : SeqAt.shaped q = true := by simp [SeqAt.shaped, c2, l2]
  simp only
  rw [if_pos ⟨s1, s2⟩]
theorem dec_iff {b : Bool} {p : Prop} [Decidable p] (h : b = true ↔ p) : b = decide p := by
  by_cases hp : p
  · rw [h.mpr hp, decide_eq_true hp]
  · rw [decide_eq_false hp]
    cases b with
    | false => rfl
    | true => exact absurd (h.mp rfl) hp
variable [DecidableEq α]
theorem Enc.eqTT (E : Enc enc k dom) (hk : k < 64) {xs ys : List α} (hx : ∀ x ∈ xs, dom x) (hy : ∀ x ∈ ys, dom x) : eqB (.tup (xs.map enc)) (.tup (ys.map enc)) = some (decide (xs = ys)) := by
  obtain ⟨h1, h2, h3⟩ := E.tup.h xs hx
  obtain ⟨g1, g2, g3⟩ := E.tup.h ys hy
  have := eqP_py h1 g1 h2 g2 (by omega) (by omega)
  rw [← dec_iff (E.tup.e xs ys hx hy)]
  exact this
theorem Enc.eqLL (E : Enc enc k dom) (hk : k < 64) {xs ys : List α} {d e : D} (hd : d.asL = some (xs.map enc)) (he : e.asL = some (ys.map enc)) (hx : ∀ x ∈ xs, dom x) (hy : ∀ x ∈ ys, dom x) : eqB d e = some (decide (xs = ys)) := by
  obtain ⟨h1, h2, h3⟩ := E.lst.h xs hx
  obtain ⟨g1, g2, g3⟩ := E.lst.h ys hy
  have p1 : d.py = some (E.lst.py xs) := by
    rw [← h1]
    cases d <;> first | (cases hd; done) | (cases hd; rfl)
  have p2 : e.py = some (E.lst.py ys) := by
    rw [← g1]
    cases e <;> first | (cases he; done) | (cases he; rfl)
  have := eqP_py p1 p2 h2 g2 (by omega) (by omega)
  rw [← dec_iff (E.lst.e xs ys hx hy), ← this]
  cases d with
  | lst _ => rfl
  | own _ => rfl
  | _ => cases hd
/-- a list against the empty one -/
theorem Enc.eqNil (E : Enc enc k dom) (hk : k < 64) {xs : List α} (hx : ∀ x ∈ xs, dom x) : eqB (.own (xs.map enc)) (.own []) = some (decide (xs = [])) := E.eqLL hk (xs := xs) (ys := []) rfl rfl hx (by simp)
end
end Fx
set_option Elab.async false
set_option maxRecDepth 100000
set_option linter.unusedVariables false
/-! Drawn things. -/
namespace Fx
open PySem L2 Lw
theorem dn_draw' {n : Int} (h1 : 1 ≤ n) (h2 : n ≤ 1000000000) : Dn 1 (F_draw [.pen, .int n]) (fun d => ∃ i : Nat, d = nD i ∧ (i : Int) < n) := (dn_draw h1 h2).imp fun d ⟨i, e, a, b⟩ => ⟨i.toNat, by rw [e]; exact congrArg D.int (by omega), by omega⟩
theorem dn_drawN {n : Nat} (h1 : 1 ≤ n) (h2 : n ≤ 1000000000) : Dn 1 (F_draw [.pen, .int (n : Int)]) (fun d => ∃ i : Nat, d = nD i ∧ i < n) := (dn_draw' (n := (n : Int)) (by omega) (by omega)).imp fun d ⟨i, e, a⟩ => ⟨i, e, by omega⟩
theorem getD_map {α : Type} {enc : α → D} {ls : List α} {i : Nat} (h : i < ls.length) : ∃ x, ls[i]? = some x := ⟨ls[i], by rw [List.getElem?_eq_getElem h]⟩
theorem map_erase {α β : Type} (f : α → β) : ∀ (l : List α) (i : Nat), (l.map f).eraseIdx i = (l.eraseIdx i).map f
  | [], _ => rfl
  | _ :: _, 0 => rfl
  | a :: l, i + 1 => by simp [map_erase f l i]
theorem perm_erase {α : Type} : ∀ {l : List α} {i : Nat} {x : α}, l[i]? = some x → l.Perm (x :: l.eraseIdx i)
  | [], i, x, h => by simp at h
  | a :: l, 0, x, h => by
    have : a = x := by simpa using h
    subst this
    exact List.Perm.refl _
  | a :: l, i + 1, x, h => by
    have := perm_erase (l := l) (i := i) (x := x) (by simpa using h)
    simp only [List.eraseIdx_cons_succ]
    exact (List.Perm.cons a this).trans (List.Perm.swap x a _)
/-- what is shuffled is the same things in another order -/
theorem dn_shuffled {α : Type} [DecidableEq α] {enc : α → D} {k : Nat} {dom : α → Prop} (E : Enc enc k dom) (hk : k < 64) (hst : ∀ a, (enc a).still = true) (ls : List α) (hd : ∀ x ∈ ls, dom x) (hl : ls.length ≤ 1000) (d : D) (hq : lockedQ d = some (ls.map enc)) :
    Dn ls.length (F_shuffled [.pen, d]) (fun r => ∃ es : List α, r = .own (es.map enc) ∧ ls.Perm es) := by
  simp only [F_shuffled, g_shuffled]
  have st := still_of hq
  have e0 : listD [d] = some (.own (ls.map enc)) := by
    rcases lockQ hq with rfl | rfl <;> rfl
  simp [e0]
  refine (Dn.bind (l := 0) (Dn.calm (dn_while (k := 1) (R := fun _ => False) (J := fun ρ => ∃ found : List α, ρ = [some .pen, some d, some (.own []), some (.own (found.map enc))] ∧ ls.Perm found) FUEL ls.length
    (fun m ρ => ∃ rest found : List α, ρ = [some .pen, some d, some (.own (rest.map enc)), some (.own (found.map enc))] ∧ rest.length = m ∧ ls.Perm (found ++ rest)) _ ⟨ls, [], rfl, rfl, List.Perm.refl _⟩ (by unfold FUEL; omega) ?_)) ?_).le (by omega)
  · rintro m ρ ⟨rest, found, rfl, hm, hp⟩
    have hmem : ∀ x ∈ rest, dom x := fun x hx => hd x (hp.mem_iff.mpr (by simp [hx]))
    have hlen := hp.length_eq
    rw [List.length_append] at hlen
    refine ⟨!decide (rest = []), ?_, fun hz => ?_, fun hz => ?_⟩
    · have : neD (.own (rest.map enc)) (.own []) = some (.bl (!decide (rest = []))) := by simp [neD, E.eqNil hk hmem]
      simp [this]
    · have hr : rest = [] := by simpa using hz
      subst hr
      exact ⟨found, rfl, by simpa using hp⟩
    · have hr : rest ≠ [] := by simpa using hz
      have pos : 0 < rest.length := List.length_pos_iff.mpr hr
      refine ⟨m - 1, by omega, ?_⟩
      simp
      refine (Dn.orX (dn_drawN (n := rest.length) (by omega) (by omega)) fun v ⟨i, ev, hi⟩ => ?_ : Dn (1 + 0) _ _)
      subst ev
      obtain ⟨x, hx⟩ := getD_map (enc := enc) hi
      have hs : found.length < sizeLine := Nat.lt_of_lt_of_le (by omega : found.length < 1001) (by decide)
      have pk : PopOk (i : Int) rest.length found.length 2 3 := popOk (by omega) (by omega) (by omega) hs (by decide)
      simp [pk, hx]
      refine Dn.ret ⟨rest.eraseIdx i, found ++ [x], by rw [map_erase]; simp, ?_, ?_⟩
      · rw [List.length_eraseIdx]
        rw [if_pos hi, hm]
      · have := (perm_erase hx).append_left found
        exact hp.trans (this.trans (by simp))
  · intro f hf
    cases f with
    | nx ρ =>
      obtain ⟨found, rfl, hp⟩ := hf
      simp
      exact Dn.ret ⟨found, rfl, hp⟩
    | rt d => exact hf.elim
    | bk ρ => exact hf.elim
    | ct ρ => exact hf.elim
    | er x ρ => exact hf.elim
/-- an order of the numbers below n as one-one moves -/
theorem mv_of_perm {n : Nat} {es : List Nat} (h : (List.range n).Perm es) : ∃ mv iv, Mv n mv iv ∧ es.map nD = mvD n mv := by
  have hl : es.length = n := by rw [← h.length_eq, List.length_range]
  have nd : es.Nodup := h.nodup_iff.mp List.nodup_range
  have mem : ∀ k, k ∈ es ↔ k < n := fun k => by rw [← h.mem_iff, List.mem_range]
  have at' : ∀ k, k < n → es[k]? = some (es.getD k 0) := fun k hk => by
    rw [List.getD_eq_getElem?_getD, List.getElem?_eq_getElem (by omega)]
    rfl
  refine ⟨fun k => es.getD k 0, fun k => es.idxOf k, ⟨fun k hk => (mem _).mp (List.mem_of_getElem? (at' k hk)), fun k hk => ?_, fun k hk => ?_, fun k hk => ?_⟩, ?_⟩
  · have := List.idxOf_lt_length_of_mem ((mem k).mpr hk)
    omega
  · have hi := List.idxOf_lt_length_of_mem ((mem k).mpr hk)
    rw [List.getD_eq_getElem?_getD, (idx_at ((mem k).mpr hk)).1]
    rfl
  · refine idxOf_of (at' k hk) fun j hj e => ?_
    have h1 := at' k hk
    have hj' : j < es.length := by omega
    have hk' : k < es.length := by omega
    have e1 := (List.getElem?_eq_some_iff.mp e).2
    have e2 := (List.getElem?_eq_some_iff.mp h1).2
    have := (List.getElem_inj nd).mp (e1.trans e2.symm)
    omega
  · unfold mvD
    apply List.ext_getElem?
    intro k
    by_cases hk : k < n
    · rw [List.getElem?_map, List.getElem?_map, at' k hk, List.getElem?_range hk]
      rfl
    · rw [List.getElem?_eq_none (by simp; omega), List.getElem?_eq_none (by simp; omega)]
/-- the numbers below n, shuffled -/
theorem dn_moves {n : Nat} (hn : n ≤ 1000) : Dn n (F_shuffled [.pen, .lst (rgD 0 (n : Int))]) (fun r => ∃ mv iv, Mv n mv iv ∧ r = .own (mvD n mv)) := by
  have := dn_shuffled encNat (by decide) (fun _ => rfl) (List.range n) (fun _ _ => trivial) (by simpa using hn) (.lst ((List.range n).map nD)) rfl
  rw [rg0]
  refine (this.imp fun r ⟨es, e, hp⟩ => ?_).le (by simp)
  obtain ⟨mv, iv, h1, h2⟩ := mv_of_perm hp
  exact ⟨mv, iv, h1, by rw [e]; exact congrArg D.own h2⟩
theorem dn_turned {n : Nat} {T : Nat → Nat → Nat × Nat} (hn : n ≤ 1000) (hT : Sq n T) : Dn (n + 1) (F_turned_pairs [.pen, .lst (sqr n T)]) (fun r => ∃ mv iv U, Mv n mv iv ∧ (U = T ∨ U = beh T) ∧ r = .own (sqr n (cal mv iv U))) := by
  have h1 := small6 hn
  have hb : Sq n (beh T) := fun x y hx hy => ⟨(hT y x hy hx).2, (hT y x hy hx).1⟩
  have hr : RgOk 0 (n : Int) := RgOk.of_le (a := 0) (b := (n : Int)) (by omega) (by omega) (by omega) (by omega)
  simp only [F_turned_pairs, g_turned_pairs]
  simp
  refine (Dn.orXb (l := n) (dn_draw' (n := 4) (by decide) (by decide)) fun v ⟨i, ev, hi⟩ => ?_).le (by omega)
  subst ev
  have go : ∀ U, Sq n U → Dn n (((F_shuffled [D.pen, .lst (rgD 0 (n : Int))]).orX [some D.pen, some (D.lst (sqr n U))] fun a => if (lockD a).still = true then
      (F_called [.lst (sqr n U), lockD a]).orX [some D.pen, some (D.lst (sqr n U))] fun d => M.ret (.rt d) else M.lift none).bind Fl.fin) (fun r => ∃ mv iv, Mv n mv iv ∧ r = .own (sqr n (cal mv iv U))) := fun U hU => by
    refine (Dn.orXb (l := 0) (dn_moves hn) fun d ⟨mv, iv, hm, e⟩ => ?_).le (by omega)
    subst e
    simp [p_called hn hU hm]
    exact Dn.ret ⟨mv, iv, hm, rfl⟩
  simp [p_behind hn, sqr_len, hr]
  refine Dn.ite (fun _ => ?_) fun _ => ?_
  · exact (go _ hb).imp fun r ⟨mv, iv, hm, e⟩ => ⟨mv, iv, hm, .inr e⟩
  · exact (go _ hT).imp fun r ⟨mv, iv, hm, e⟩ => ⟨mv, iv, hm, .inl e⟩
end Fx
set_option Elab.async false
set_option maxRecDepth 100000
set_option linter.unusedVariables false
/-! Squares side by side, in lots, gentle, kindly, of three. -/
namespace Fx
open PySem L2 Lw
theorem log_of {i : Nat} (h : i ≤ 1000000000) : i.log2 ≤ 30 := by
  by_cases h0 : i = 0
  · subst h0; decide
  · have := (Nat.log2_lt h0 (k := 30)).mpr (Nat.lt_of_le_of_lt h (by decide))
    omega
theorem cmul {i j : Int} (h : i.natAbs ≤ 1000000000) (h' : j.natAbs ≤ 1000000000) : CMulW i j := by
  have a := log_of h
  have b := log_of h'
  show i.natAbs.log2 + j.natAbs.log2 < 1000000
  omega
theorem cdiv {i j : Int} (h : 0 < j) (h' : j ≤ 1000000000) : CDivW i j := by
  have := log_of (i := j.natAbs) (by omega)
  exact ⟨h, by omega⟩
theorem fdiv_nn (x b : Nat) : ((x : Int).fdiv (b : Int)) = ((x / b : Nat) : Int) := by simp [Int.fdiv_eq_ediv_of_nonneg]
theorem fmod_nn (x b : Nat) : ((x : Int).fmod (b : Int)) = ((x % b : Nat) : Int) := by simp [Int.fmod_eq_emod_of_nonneg]
theorem range_at {n i x : Nat} (h : (List.range n)[i]? = some x) : i < n ∧ x = i := by
  have hi : i < n := by simpa using (List.getElem?_eq_some_iff.mp h).1
  rw [List.getElem?_range hi] at h
  exact ⟨hi, (Option.some.inj h).symm⟩
def sbs (b : Nat) (T U : Nat → Nat → Nat × Nat) : Nat → Nat → Nat × Nat := fun x y => ((T (x / b) (y / b)).1 * b + (U (x % b) (y % b)).1, (T (x / b) (y / b)).2 * b + (U (x % b) (y % b)).2)
theorem div_lt' {x a b : Nat} (h : x < a * b) : x / b < a := Nat.div_lt_of_lt_mul (by rw [Nat.mul_comm]; exact h)
theorem dn_side {a b : Nat} {T U : Nat → Nat → Nat × Nat} (hb : 1 ≤ b) (ha : a ≤ 30) (hb' : b ≤ 30) (hT : Sq a T) (hU : Sq b U) : Dn 0 (F_side_by_side [.lst (sqr a T), .lst (sqr b U)]) (fun d => d = .own (sqr (a * b) (sbs b T U))) := by
  obtain ⟨N, hN⟩ : ∃ N, N = a * b := ⟨_, rfl⟩
  have hab : N ≤ 900 := hN ▸ Nat.mul_le_mul ha hb'
  have hs := small6 (n := N) (by omega)
  have h2 := rgn (n := N) (by omega)
  have e := rg0 N
  have m1 : CMulW (a : Int) (b : Int) := cmul (by omega) (by omega)
  have ec : ((a : Int) * (b : Int)) = (N : Int) := by rw [hN]; simp
  have dv : ∀ i : Int, CDivW i (b : Int) := fun i => cdiv (by omega) (by omega)
  have b0 : ¬ b = 0 := by omega
  have bpos : 0 < b := by omega
  rw [← hN]
  simp only [F_side_by_side, g_side_by_side]
  simp [sqr_len, m1, ec, h2, e]
  refine Dn.loopC (l := 0) (k := 0) (Dn.le (dn_for' (k := 0) (R := fun _ => False) nD (List.range N) (fun i ρ => ∃ x4 x5 x6 x7 x8, ρ = [some (.lst (sqr a T)), some (.lst (sqr b U)), some (.int (b : Int)), some (.own ((List.range i).map fun x => .lst ((List.range N).map fun y => prD (sbs b T U x y)))), x4, x5, x6, x7, x8]) _ ⟨none, none, none, none, none, rfl⟩ ?_) (by simp)) ?_
  · rintro i x ρ hx ⟨x4, x5, x6, x7, x8, rfl⟩
    obtain ⟨hi, rfl⟩ := range_at hx
    have xa : x / b < a := div_lt' (by rw [← hN]; exact hi)
    have xb : x % b < b := Nat.mod_lt _ bpos
    refine ⟨_, rfl, ?_⟩
    simp [sqr_len, m1, ec, h2, e]
    refine Dn.loop (l := 0) (k := 0) (Dn.le (dn_for' (k := 0) (R := fun _ => False) nD (List.range N) (fun j ρ => ∃ x6 x7 x8, ρ = [some (.lst (sqr a T)), some (.lst (sqr b U)), some (.int (b : Int)), some (.own ((List.range x).map fun x => .lst ((List.range N).map fun y => prD (sbs b T U x y)))), some (nD x), some (.own ((List.range j).map fun y => prD (sbs b T U x y))), x6, x7, x8]) _ ⟨x6, x7, x8, rfl⟩ ?_) (by simp)) ?_
    · rintro j y ρ hy ⟨x6, x7, x8, rfl⟩
      obtain ⟨hj, rfl⟩ := range_at hy
      have ya : y / b < a := div_lt' (by rw [← hN]; exact hj)
      have yb : y % b < b := Nat.mod_lt _ bpos
      obtain ⟨t1, t2⟩ := hT _ _ xa ya
      obtain ⟨u1, u2⟩ := hU _ _ xb yb
      have a1 : atI (sqr a T) ((x / b : Nat) : Int) = _ := at_sqr xa
      have a2 : atI ((List.range a).map fun z => prD (T (x / b) z)) ((y / b : Nat) : Int) = _ := at_map (α := Nat) ya
      have a3 : atI (sqr b U) ((x % b : Nat) : Int) = _ := at_sqr xb
      have a4 : atI ((List.range b).map fun z => prD (U (x % b) z)) ((y % b : Nat) : Int) = _ := at_map (α := Nat) yb
      have m2 : CMulW ((T (x / b) (y / b)).1 : Int) (b : Int) := cmul (by omega) (by omega)
      have m3 : CMulW ((T (x / b) (y / b)).2 : Int) (b : Int) := cmul (by omega) (by omega)
      have hjs : y < sizeLine := Nat.lt_of_lt_of_le hj hs
      refine ⟨_, rfl, ?_⟩
      simp [dv, b0, fdiv_nn, fmod_nn, -Int.natCast_ediv, -Int.natCast_emod, a1, a2, a3, a4, m2, m3, hjs]
      exact Dn.ret ⟨some (nD y), some (prD (T (x / b) (y / b))), some (prD (U (x % b) (y % b))), by simp [List.range_succ, sbs, prD]⟩
    · rintro ρ ⟨x6, x7, x8, rfl⟩
      have his : x < sizeLine := Nat.lt_of_lt_of_le hi hs
      simp [his]
      exact Dn.ret ⟨some (nD x), some (.lst ((List.range N).map fun y => prD (sbs b T U x y))), x6, x7, x8, by simp [List.range_succ]⟩
  · rintro ρ ⟨x4, x5, x6, x7, x8, rfl⟩
    simp
    exact Dn.ret (by simp [sqr])
end Fx
set_option Elab.async false
set_option maxRecDepth 100000
set_option linter.unusedVariables false
/-! Lots. -/
namespace Fx
open PySem L2 Lw
def lotsOf : Nat → List Nat → List Nat
  | _, [] => []
  | l, s :: ss => List.replicate s l ++ lotsOf (l + 1) ss
def spotsOf : List Nat → List Nat
  | [] => []
  | s :: ss => List.range s ++ spotsOf ss
theorem lots_len : ∀ (ss : List Nat) (l : Nat), (lotsOf l ss).length = ss.sum
  | [], _ => rfl
  | s :: ss, l => by simp [lotsOf, lots_len ss (l + 1)]
theorem spots_len : ∀ (ss : List Nat), (spotsOf ss).length = ss.sum
  | [] => rfl
  | s :: ss => by simp [spotsOf, spots_len ss]
theorem lots_snoc : ∀ (ss : List Nat) (l s : Nat), lotsOf l (ss ++ [s]) = lotsOf l ss ++ List.replicate s (l + ss.length)
  | [], l, s => by simp [lotsOf]
  | a :: ss, l, s => by
    simp only [List.cons_append, lotsOf, lots_snoc ss (l + 1) s, List.append_assoc, List.length_cons]
    rw [show l + 1 + ss.length = l + (ss.length + 1) by omega]
theorem spots_snoc : ∀ (ss : List Nat) (s : Nat), spotsOf (ss ++ [s]) = spotsOf ss ++ List.range s
  | [], s => by simp [spotsOf]
  | a :: ss, s => by simp [spotsOf, spots_snoc ss s]
/-- where a lot's place stands -/
theorem lots_at : ∀ (ss : List Nat) (l a s i : Nat), ss[a]? = some s → i < s → (lotsOf l ss)[(ss.take a).sum + i]? = some (l + a) ∧ (spotsOf ss)[(ss.take a).sum + i]? = some i ∧ (ss.take a).sum + i < ss.sum
  | [], _, _, _, _, h, _ => by simp at h
  | t :: ss, l, 0, s, i, h, hi => by
    have : t = s := by simpa using h
    subst this
    refine ⟨?_, ?_, ?_⟩
    · simp only [List.take_zero, List.sum_nil, Nat.zero_add, lotsOf]
      rw [List.getElem?_append_left (by simpa using hi)]
      simp [hi]
    · simp only [List.take_zero, List.sum_nil, Nat.zero_add, spotsOf]
      rw [List.getElem?_append_left (by simpa using hi)]
      simp [hi]
    · simp
      omega
  | t :: ss, l, a + 1, s, i, h, hi => by
    obtain ⟨h1, h2, h3⟩ := lots_at ss (l + 1) a s i (by simpa using h) hi
    refine ⟨?_, ?_, ?_⟩
    · simp only [List.take_succ_cons, List.sum_cons, lotsOf]
      rw [List.getElem?_append_right (by simp; omega), List.length_replicate, show t + (ss.take a).sum + i - t = (ss.take a).sum + i by omega, h1]
      congr 1
      omega
    · simp only [List.take_succ_cons, List.sum_cons, spotsOf]
      rw [List.getElem?_append_right (by simp; omega), List.length_range, show t + (ss.take a).sum + i - t = (ss.take a).sum + i by omega, h2]
    · simp only [List.take_succ_cons, List.sum_cons]
      omega
theorem lots_of : ∀ (ss : List Nat) (x : Nat), x < ss.sum → ∃ a s i, ss[a]? = some s ∧ i < s ∧ x = (ss.take a).sum + i
  | [], x, h => by simp at h
  | t :: ss, x, h => by
    by_cases hx : x < t
    · exact ⟨0, t, x, rfl, hx, by simp⟩
    · simp only [List.sum_cons] at h
      obtain ⟨a, s, i, h1, h2, h3⟩ := lots_of ss (x - t) (by omega)
      exact ⟨a + 1, s, i, by simpa using h1, h2, by simp; omega⟩
/-- the numbers below n in L lots: each one's lot and place in it, the lots' beginnings, sizes -/
structure Lots (n L : Nat) (lot spot st sz : Nat → Nat) : Prop where
  at' : ∀ x, x < n → lot x < L ∧ spot x < sz (lot x) ∧ st (lot x) + spot x = x
  of : ∀ a i, a < L → i < sz a → st a + i < n ∧ lot (st a + i) = a ∧ spot (st a + i) = i
theorem lots_mk {ss : List Nat} {n : Nat} (h : ss.sum = n) : Lots n ss.length (fun x => (lotsOf 0 ss).getD x 0) (fun x => (spotsOf ss).getD x 0) (fun a => (ss.take a).sum) (fun a => ss.getD a 0) := by
  have key : ∀ a s i, ss[a]? = some s → i < s → (lotsOf 0 ss).getD ((ss.take a).sum + i) 0 = a ∧ (spotsOf ss).getD ((ss.take a).sum + i) 0 = i ∧ (ss.take a).sum + i < n := fun a s i h1 h2 => by
    obtain ⟨h3, h4, h5⟩ := lots_at ss 0 a s i h1 h2
    rw [List.getD_eq_getElem?_getD, List.getD_eq_getElem?_getD, h3, h4]
    exact ⟨by simp, rfl, by omega⟩
  refine ⟨fun x hx => ?_, fun a i ha hi => ?_⟩
  · obtain ⟨a, s, i, h1, h2, rfl⟩ := lots_of ss x (by omega)
    obtain ⟨k1, k2, k3⟩ := key a s i h1 h2
    rw [k1, k2]
    have : ss.getD a 0 = s := by rw [List.getD_eq_getElem?_getD, h1]; rfl
    exact ⟨(List.getElem?_eq_some_iff.mp h1).1, by rw [this]; exact h2, rfl⟩
  · have h1 : ss[a]? = some (ss.getD a 0) := by
      rw [List.getD_eq_getElem?_getD, List.getElem?_eq_getElem ha]
      rfl
    obtain ⟨k1, k2, k3⟩ := key a _ i h1 hi
    exact ⟨k3, k1, k2⟩
def lotT (lot spot st sz : Nat → Nat) (tn : Nat → Nat → Nat) : Nat → Nat → Nat × Nat := fun x y =>
  (st (lot y) + (spot y + tn (lot x) (lot y)) % sz (lot y), st (lot x) + (spot x + sz (lot x) - tn (lot y) (lot x)) % sz (lot x))
theorem at_last {α : Type} (xs : List α) (x : α) : atI (xs ++ [x]) (-1) = some x := by
  unfold atI ixN
  rw [if_neg (by decide), if_pos (by simp; omega)]
  have : (-1 + (((xs ++ [x]).length : Nat) : Int)).toNat = xs.length := by simp; omega
  simp only [Option.bind_some, this]
  simp
theorem cut_to {α : Type} (xs : List α) (k : Nat) : cutL xs none (some (k : Int)) = xs.take k := by
  unfold cutL
  rw [HT.sIx_none, HT.sIx_nat, List.drop_zero, Nat.sub_zero]
  by_cases h : k ≤ xs.length
  · rw [Nat.min_eq_left h]
  · rw [Nat.min_eq_right (by omega), List.take_of_length_le (by omega), List.take_of_length_le (by omega)]
theorem cut_from {α : Type} (xs : List α) (k : Nat) : cutL xs (some (k : Int)) none = xs.drop k := by
  unfold cutL
  rw [HT.sIx_none, HT.sIx_nat]
  by_cases h : k ≤ xs.length
  · rw [Nat.min_eq_left h, List.take_of_length_le (by simp)]
  · rw [Nat.min_eq_right (by omega), List.drop_eq_nil_of_le (Nat.le_refl _), List.drop_eq_nil_of_le (by omega)]
    simp
theorem sum_nat (ss : List Nat) : sumD [.own (ss.map nD)] = some (.int (ss.sum : Nat)) := by
  have e1 : ss.map nD = (ss.map fun (i : Nat) => (i : Int)).map D.int := by simp
  have e2 : ((ss.map fun (i : Nat) => (i : Int))).sum = ((ss.sum : Nat) : Int) := by
    induction ss with
    | nil => rfl
    | cons a ss ih => simp [ih]
  unfold sumD
  simp only [D.asL, Option.bind_some]
  rw [e1, ints_map]
  simp [e2]
theorem flat_one {α : Type} (n : Nat) (v : α) : (List.replicate n [v]).flatten = List.replicate n v := by
  induction n with
  | zero => rfl
  | succ n ih => simp [List.replicate_succ, ih]
theorem take_snoc {α : Type} {l : List α} {i : Nat} {x : α} (h : l[i]? = some x) : l.take (i + 1) = l.take i ++ [x] := by
  rw [List.take_add_one, h]
  rfl
theorem sum_take_le' : ∀ (ss : List Nat) (i : Nat), (ss.take i).sum ≤ ss.sum
  | [], i => by simp
  | s :: ss, 0 => by simp
  | s :: ss, i + 1 => by
    have := sum_take_le' ss i
    simp
    omega
theorem len_sum : ∀ (ss : List Nat), (∀ s ∈ ss, 1 ≤ s) → ss.length ≤ ss.sum
  | [], _ => Nat.le_refl _
  | s :: ss, h => by
    have h1 := h s (by simp)
    have := len_sum ss fun t ht => h t (by simp [ht])
    simp
    omega
theorem le_sum : ∀ (ss : List Nat) (s : Nat), s ∈ ss → s ≤ ss.sum
  | t :: ss, s, h => by
    rcases List.mem_cons.mp h with rfl | h
    · simp
    · have := le_sum ss s h
      simp
      omega
theorem at_get {α : Type} {enc : α → D} {xs : List α} {i : Nat} {x : α} (h : xs[i]? = some x) : atI (xs.map enc) (i : Int) = some (enc x) := atI_nat (by rw [List.getElem?_map, h]; rfl)
theorem getD_of {xs : List Nat} {i : Nat} (h : i < xs.length) : xs[i]? = some (xs.getD i 0) := by
  rw [List.getD_eq_getElem?_getD, List.getElem?_eq_getElem h]
  rfl
theorem fmod_sub {x t s : Nat} (ht : t < s) : (((x : Int) - (t : Int)).fmod (s : Int)) = (((x + s - t) % s : Nat) : Int) := by
  rw [Int.fmod_eq_emod_of_nonneg _ (by omega), Int.natCast_emod, show ((x + s - t : Nat) : Int) = ((x : Int) - (t : Int)) + (s : Int) by omega, Int.add_emod_right]
theorem dn_lots {n : Nat} (hn : n ≤ 30) : Dn 1000 (F_lots_pairs [.pen, .int (n : Int)]) (fun d => ∃ L lot spot st sz tn, Lots n L lot spot st sz ∧ (∀ a b, a < L → b < L → tn a b < sz b) ∧ d = .own (sqr n (lotT lot spot st sz tn))) := by
  simp only [F_lots_pairs, g_lots_pairs]
  simp
  refine (Dn.loopC (l := 900) (dn_while (k := 1) (R := fun _ => False) (J := fun ρ => ∃ ss : List Nat, (∀ s ∈ ss, 1 ≤ s) ∧ ss.sum = n ∧ ρ = [some .pen, some (nD n), some (.own (ss.map nD)), some (.int 0), none, none, none, none, none, none, none, none, none, none, none, none, none]) FUEL n
    (fun m ρ => ∃ (ss : List Nat) (left : Nat), (∀ s ∈ ss, 1 ≤ s) ∧ ss.sum + left = n ∧ left ≤ m ∧ ρ = [some .pen, some (nD n), some (.own (ss.map nD)), some (.int (left : Int)), none, none, none, none, none, none, none, none, none, none, none, none, none]) _ ⟨[], n, by simp, by simp, by omega, rfl⟩ (by unfold FUEL; omega) ?_) ?_).le (by omega)
  · rintro m ρ ⟨ss, left, h1, h2, h3, rfl⟩
    have hsm : ss.length < sizeLine := Nat.lt_of_le_of_lt (len_sum ss h1) (Nat.lt_of_lt_of_le (by omega : ss.sum < 1000) (by decide))
    refine ⟨decide (0 < left), by simp, fun hz => ?_, fun hz => ?_⟩
    · have : left = 0 := by simpa using hz
      exact ⟨ss, h1, by omega, by rw [this]; rfl⟩
    · have hl : 0 < left := by simpa using hz
      refine ⟨m - 1, by omega, ?_⟩
      simp
      refine (Dn.orXb (l := 0) (dn_drawN (n := left) (by omega) (by omega)) fun v ⟨i, ev, hi⟩ => ?_)
      subst ev
      simp [hsm, at_last]
      exact Dn.ret ⟨ss ++ [i + 1], fun s hs => by
        rcases List.mem_append.mp hs with hs | hs
        · exact h1 s hs
        · rw [List.mem_singleton.mp hs]; omega, left - (i + 1), by simp; omega, by omega, by simp; omega⟩
  · rintro ρ ⟨ss, h1, h2, rfl⟩
    have hsl : ss.length ≤ 30 := by
      have := len_sum ss h1
      omega
    simp
    refine Dn.loopC (k := 0) (l := 900) (Dn.le (dn_for (k := 0) (R := fun _ => False) (numD 0 (ss.map nD)) (fun i ρ => ∃ x6 x7, ρ = [some .pen, some (nD n), some (.lst (ss.map nD)), some (.int 0), some (.own ((lotsOf 0 (ss.take i)).map nD)), some (.own ((spotsOf (ss.take i)).map nD)), x6, x7, none, none, none, none, none, none, none, none, none]) _ ⟨none, none, by simp [lotsOf, spotsOf]⟩ ?_) (by simp)) ?_
    · rintro i d ρ hd ⟨x6, x7, rfl⟩
      obtain ⟨e, he, rfl⟩ := numD_get hd
      rw [List.getElem?_map] at he
      cases hs : ss[i]? with
      | none => rw [hs] at he; cases he
      | some s =>
        rw [hs] at he
        cases he
        have hi : i < ss.length := (List.getElem?_eq_some_iff.mp hs).1
        have hsn : s ≤ 30 := by
          have := le_sum ss s (List.mem_of_getElem? hs)
          omega
        have ht : (ss.take i).sum ≤ 30 := by
          have := sum_take_le' ss i
          omega
        have r1 : RepOk 1 (s : Int) := repOk (by omega) (by omega) (by simp; exact small6 (by omega))
        have r2 : RgOk 0 (s : Int) := RgOk.of_le (a := 0) (b := (s : Int)) (by omega) (by omega) (by omega) (by omega)
        have e1 := rg0 s
        have l1 : (lotsOf 0 (ss.take i)).length + s ≤ sizeLine := by rw [lots_len]; exact small6 (by omega)
        have l2 : (spotsOf (ss.take i)).length + s ≤ sizeLine := by rw [spots_len]; exact small6 (by omega)
        refine ⟨_, rfl, ?_⟩
        simp [r1, r2, e1, l1, l2]
        refine Dn.ret ⟨some (nD i), some (nD s), ?_⟩
        rw [take_snoc hs, lots_snoc, spots_snoc]
        have hti : (ss.take i).length = i := by simp; omega
        simp [hti]
    · rintro ρ ⟨x6, x7, rfl⟩
      have ell : ss.take ((numD 0 (ss.map nD)).length) = ss := by rw [numD_len, List.length_map, List.take_length]
      rw [ell]
      have rl := rgn (n := ss.length) (by omega)
      have el := rg0 ss.length
      have lots := lots_mk h2
      have c1 : ∀ x6 x7, compF (Tg.name 6) cYes (eFn sumD (aCons (eSl (eVar 2) oNone (oSome (eVar 6))) aNil)) [some D.pen, some (nD n), some (.lst (ss.map nD)), some (.int 0), some (.own ((lotsOf 0 ss).map nD)), some (.own ((spotsOf ss).map nD)), x6, x7, none, none, none, none, none, none, none, none, none] ((List.range ss.length).map nD) [] = M.ret (.own ((List.range ss.length).map fun l => nD (ss.take l).sum)) := fun x6 x7 => by
        rw [comp_eq nD (fun l => nD (ss.take l).sum) _ _ (fun l hl => ⟨_, rfl, by simp [cut_to, sum_nat, ← List.map_take], rfl⟩) (by simp; exact small6 (by omega))]
        rfl
      simp [rl, el, c1]
      have hls := small6 (n := ss.length) (by omega)
      refine Dn.le (Dn.orXb (l := 0) (dn_comp (k := 1 * ss.length) nD (fun row : List Nat => D.lst (row.map nD)) (fun _ row => Paired (fun s t => t < s) ss row) (fun _ => rfl) ss [] (fun s hs => ⟨_, rfl, ?_⟩) (by simpa using hls)) fun v ⟨ts, ev, hts⟩ => ?_) ?_
      · simp
        refine Dn.le (Dn.bind (l := 0) (dn_comp (k := 1) nD nD (fun s t => t < s) (fun _ => rfl) ss [] (fun s hs => ⟨_, rfl, ?_⟩) (by simpa using hls)) fun v ⟨row, ev, hrow⟩ => ?_) (by simp)
        · have s1 := h1 s hs
          have s2 := le_sum ss s hs
          simp
          refine Dn.le (Dn.bind (l := 0) (dn_drawN (n := s) (by omega) (by omega)) fun v ⟨i, ev, hi⟩ => ?_) (by omega)
          subst ev
          exact Dn.ret ⟨i, rfl, hi⟩
        · subst ev
          simp
          exact Dn.ret ⟨row, rfl, hrow⟩
      · subst ev
        have tn : ∀ a b, a < ss.length → b < ss.length → ∃ row t, ts[a]? = some row ∧ row[b]? = some t ∧ t < ss.getD b 0 := fun a b ha hb => by
          obtain ⟨row, hr, pr⟩ := prd_get hts (List.getElem?_eq_getElem ha)
          obtain ⟨t, ht, lt⟩ := prd_get pr (List.getElem?_eq_getElem hb)
          exact ⟨row, t, hr, ht, by rw [List.getD_eq_getElem?_getD, List.getElem?_eq_getElem hb]; exact lt⟩
        have rn := rgn (n := n) (by omega)
        have en := rg0 n
        have hns := small6 (n := n) (by omega)
        have l1 : ∀ x, x < n → atI ((lotsOf 0 ss).map nD) (x : Int) = some (nD ((lotsOf 0 ss).getD x 0)) := fun x hx => at_get (getD_of (by rw [lots_len]; omega))
        have l2 : ∀ x, x < n → atI ((spotsOf ss).map nD) (x : Int) = some (nD ((spotsOf ss).getD x 0)) := fun x hx => at_get (getD_of (by rw [spots_len]; omega))
        have l3 : ∀ a, a < ss.length → atI ((List.range ss.length).map fun l => nD (ss.take l).sum) (a : Int) = some (nD (ss.take a).sum) := fun a ha => at_map (α := Nat) ha
        have l4 : ∀ a, a < ss.length → atI (ss.map nD) (a : Int) = some (nD (ss.getD a 0)) := fun a ha => at_get (getD_of ha)
        obtain ⟨tf, htf⟩ : ∃ tf : Nat → Nat → Nat, ∀ a b, tf a b = (ts.getD a []).getD b 0 := ⟨_, fun _ _ => rfl⟩
        have tfs : ∀ a b, a < ss.length → b < ss.length → tf a b < ss.getD b 0 := fun a b ha hb => by
          obtain ⟨row, t, e1, e2, lt⟩ := tn a b ha hb
          have h0 : ts.getD a [] = row := by rw [List.getD_eq_getElem?_getD, e1]; rfl
          rw [htf, h0, List.getD_eq_getElem?_getD, e2]
          exact lt
        have l5 : ∀ a b, a < ss.length → b < ss.length → ∃ row : List Nat, atI (ts.map fun row : List Nat => D.lst (row.map nD)) (a : Int) = some (.lst (row.map nD)) ∧ atI (row.map nD) (b : Int) = some (nD (tf a b)) := fun a b ha hb => by
          obtain ⟨row, t, e1, e2, lt⟩ := tn a b ha hb
          refine ⟨row, at_get (enc := fun row : List Nat => D.lst (row.map nD)) e1, ?_⟩
          have : tf a b = t := by
            have h0 : ts.getD a [] = row := by rw [List.getD_eq_getElem?_getD, e1]; rfl
            rw [htf, h0, List.getD_eq_getElem?_getD, e2]
            rfl
          rw [this]
          exact at_get e2
        revert lots l1 l2 l3 l4
        generalize hlot : (fun x => (lotsOf 0 ss).getD x 0) = lot
        generalize hspot : (fun x => (spotsOf ss).getD x 0) = spot
        generalize hst : (fun a => (ss.take a).sum) = st
        generalize hsz : (fun a => ss.getD a 0) = sz
        have q1 : ∀ x, (lotsOf 0 ss).getD x 0 = lot x := fun x => congrFun hlot x
        have q2 : ∀ x, (spotsOf ss).getD x 0 = spot x := fun x => congrFun hspot x
        have q3 : ∀ x, (ss.take x).sum = st x := fun x => congrFun hst x
        have q4 : ∀ x, ss.getD x 0 = sz x := fun x => congrFun hsz x
        simp only [q1, q2, q3, q4] at *
        intro lots l1 l2 l3 l4
        simp [rn, en]
        refine Dn.loopC (k := 0) (l := 0) (Dn.le (dn_for' (k := 0) (R := fun _ => False) nD (List.range n) (fun i ρ => ∃ x11 x12 x13 x14 x15 x16, ρ = [some .pen, some (nD n), some (.lst (ss.map nD)), some (.int 0), some (.own ((lotsOf 0 ss).map nD)), some (.own ((spotsOf ss).map nD)), x6, x7, some (.own ((List.range ss.length).map fun l => nD (st l))), some (.own (ts.map fun row : List Nat => D.lst (row.map nD))),
          some (.own ((List.range i).map fun x => .lst ((List.range n).map fun y => prD (lotT lot spot st sz tf x y)))), x11, x12, x13, x14, x15, x16]) _ ⟨none, none, none, none, none, none, rfl⟩ ?_) (by simp)) ?_
        · rintro i x ρ hx ⟨x11, x12, x13, x14, x15, x16, rfl⟩
          obtain ⟨hi, rfl⟩ := range_at hx
          obtain ⟨g1, g2, g3⟩ := lots.at' x hi
          refine ⟨_, rfl, ?_⟩
          simp [rn, en]
          refine Dn.loop (k := 0) (l := 0) (Dn.le (dn_for' (k := 0) (R := fun _ => False) nD (List.range n) (fun j ρ => ∃ x13 x14 x15 x16, ρ = [some .pen, some (nD n), some (.lst (ss.map nD)), some (.int 0), some (.own ((lotsOf 0 ss).map nD)), some (.own ((spotsOf ss).map nD)), x6, x7, some (.own ((List.range ss.length).map fun l => nD (st l))), some (.own (ts.map fun row : List Nat => D.lst (row.map nD))),
            some (.own ((List.range x).map fun x => .lst ((List.range n).map fun y => prD (lotT lot spot st sz tf x y)))), some (nD x), some (.own ((List.range j).map fun y => prD (lotT lot spot st sz tf x y))), x13, x14, x15, x16]) _ ⟨x13, x14, x15, x16, rfl⟩ ?_) (by simp)) ?_
          · rintro j y ρ hy ⟨x13, x14, x15, x16, rfl⟩
            obtain ⟨hj, rfl⟩ := range_at hy
            obtain ⟨k1, k2, k3⟩ := lots.at' y hj
            obtain ⟨r1, a1, a2⟩ := l5 _ _ g1 k1
            obtain ⟨r2, a3, a4⟩ := l5 _ _ k1 g1
            have z1 : ¬ sz (lot x) = 0 := by omega
            have z2 : ¬ sz (lot y) = 0 := by omega
            have f1 : (((spot y : Nat) : Int) + ((tf (lot x) (lot y) : Nat) : Int)).fmod ((sz (lot y) : Nat) : Int) = (((spot y + tf (lot x) (lot y)) % sz (lot y) : Nat) : Int) := by rw [← fmod_nn]; rfl
            have f2 := fmod_sub (x := spot x) (tfs _ _ k1 g1)
            have hjs : y < sizeLine := Nat.lt_of_lt_of_le hj hns
            refine ⟨_, rfl, ?_⟩
            simp [l1 x hi, l1 y hj, l2 x hi, l2 y hj, l3 _ g1, l3 _ k1, l4 _ g1, l4 _ k1, a1, a2, a3, a4, z1, z2, f1, f2, hjs, -Int.natCast_emod]
            exact Dn.ret ⟨some (nD y), some (nD (lot x)), some (nD (lot y)), some (nD (lotT lot spot st sz tf x y).1), by simp [List.range_succ, lotT, prD]⟩
          · rintro ρ ⟨x13, x14, x15, x16, rfl⟩
            have his : x < sizeLine := Nat.lt_of_lt_of_le hi hns
            simp [his]
            exact Dn.ret ⟨some (nD x), some (.lst ((List.range n).map fun y => prD (lotT lot spot st sz tf x y))), x13, x14, x15, x16, by simp [List.range_succ]⟩
        · rintro ρ ⟨x11, x12, x13, x14, x15, x16, rfl⟩
          simp
          exact Dn.ret ⟨_, _, _, _, _, lots, _, tfs, by simp [sqr]⟩
      · have : ss.length * ss.length ≤ 30 * 30 := Nat.mul_le_mul hsl hsl
        simpa using this
end Fx
set_option Elab.async false
set_option maxRecDepth 100000
set_option linter.unusedVariables false
/-! Tables of three, sided, twice. -/
namespace Fx
open PySem L2 Lw
abbrev Tb := Nat → Nat → Nat × Nat
/-- a pass of the first two of three, of the last two -/
def pa (T : Tb) (t : Nat × Nat × Nat) : Nat × Nat × Nat := ((T t.1 t.2.1).1, (T t.1 t.2.1).2, t.2.2)
def pb (T : Tb) (t : Nat × Nat × Nat) : Nat × Nat × Nat := (t.1, (T t.2.1 t.2.2).1, (T t.2.1 t.2.2).2)
def Three (n : Nat) (T : Tb) : Prop := ∀ x y z, x < n → y < n → z < n → pa T (pb T (pa T (x, y, z))) = pb T (pa T (pb T (x, y, z)))
structure Sided (n : Nat) (T : Tb) : Prop where
  two : ∀ y x x', y < n → x < n → x' < n → (T x y).2 = (T x' y).2 → x = x'
  one : ∀ x y y', x < n → y < n → y' < n → (T x y).1 = (T x y').1 → y = y'
def Twice (n : Nat) (T : Tb) : Prop := ∀ x y, x < n → y < n → T (T x y).1 (T x y).2 = (x, y)
/-- what is known of a drawn table, by how it was drawn -/
structure Kd (n : Nat) (T : Tb) (s t : Bool) : Prop where
  sq : Sq n T
  three : Three n T
  sided : s = true → Sided n T
  twice : t = true → Twice n T
theorem Three.of_maps {n : Nat} {T T' : Tb} (f : Nat → Nat) (hs : ∀ x, x < n → ∃ u, f u = x) (m : Nat → Prop) (hm : ∀ x, x < n → ∃ u, m u ∧ f u = x) (h : ∀ u v, m u → m v → T' (f u) (f v) = (f (T u v).1, f (T u v).2))
    (ms : ∀ u v, m u → m v → m (T u v).1 ∧ m (T u v).2) (t : ∀ x y z, m x → m y → m z → pa T (pb T (pa T (x, y, z))) = pb T (pa T (pb T (x, y, z)))) : Three n T' := fun x y z hx hy hz => by
  obtain ⟨u, mu, rfl⟩ := hm x hx
  obtain ⟨v, mv, rfl⟩ := hm y hy
  obtain ⟨w, mw, rfl⟩ := hm z hz
  let F : Nat × Nat × Nat → Nat × Nat × Nat := fun t => (f t.1, f t.2.1, f t.2.2)
  let G : Nat × Nat × Nat → Prop := fun t => m t.1 ∧ m t.2.1 ∧ m t.2.2
  have ha : ∀ t, G t → pa T' (F t) = F (pa T t) ∧ G (pa T t) := fun t ht => ⟨by
    simp only [pa, F]
    rw [h _ _ ht.1 ht.2.1], (ms _ _ ht.1 ht.2.1).1, (ms _ _ ht.1 ht.2.1).2, ht.2.2⟩
  have hb : ∀ t, G t → pb T' (F t) = F (pb T t) ∧ G (pb T t) := fun t ht => ⟨by
    simp only [pb, F]
    rw [h _ _ ht.2.1 ht.2.2], ht.1, (ms _ _ ht.2.1 ht.2.2).1, (ms _ _ ht.2.1 ht.2.2).2⟩
  have g0 : G (u, v, w) := ⟨mu, mv, mw⟩
  have e0 : (f u, f v, f w) = F (u, v, w) := rfl
  rw [e0, (ha _ g0).1, (hb _ (ha _ g0).2).1, (ha _ (hb _ (ha _ g0).2).2).1, (hb _ g0).1, (ha _ (hb _ g0).2).1, (hb _ (ha _ (hb _ g0).2).2).1, t u v w mu mv mw]
theorem Kd.cal {n : Nat} {T : Tb} {s t : Bool} {mv iv : Nat → Nat} (k : Kd n T s t) (h : Mv n mv iv) : Kd n (cal mv iv T) s t := by
  have key : ∀ u v, u < n → v < n → Fx.cal mv iv T (mv u) (mv v) = (mv (T u v).1, mv (T u v).2) := fun u v hu hv => by
    unfold Fx.cal
    rw [h.im u hu, h.im v hv]
  have inj : ∀ u v, u < n → v < n → mv u = mv v → u = v := fun u v hu hv e => by
    have := congrArg iv e
    rwa [h.im u hu, h.im v hv] at this
  refine ⟨fun x y hx hy => ?_, Three.of_maps mv (fun x hx => ⟨iv x, h.mi x hx⟩) (fun u => u < n) (fun x hx => ⟨iv x, h.i x hx, h.mi x hx⟩) key (fun u v hu hv => k.sq u v hu hv) k.three, fun hs => ⟨fun y x x' hy hx hx' e => ?_, fun x y y' hx hy hy' e => ?_⟩, fun ht x y hx hy => ?_⟩
  · obtain ⟨a, b⟩ := k.sq _ _ (h.i x hx) (h.i y hy)
    exact ⟨h.m _ a, h.m _ b⟩
  · have e1 := inj _ _ (k.sq _ _ (h.i x hx) (h.i y hy)).2 (k.sq _ _ (h.i x' hx') (h.i y hy)).2 e
    have := (k.sided hs).two _ _ _ (h.i y hy) (h.i x hx) (h.i x' hx') e1
    have := congrArg mv this
    rwa [h.mi x hx, h.mi x' hx'] at this
  · have e1 := inj _ _ (k.sq _ _ (h.i x hx) (h.i y hy)).1 (k.sq _ _ (h.i x hx) (h.i y' hy')).1 e
    have := (k.sided hs).one _ _ _ (h.i x hx) (h.i y hy) (h.i y' hy') e1
    have := congrArg mv this
    rwa [h.mi y hy, h.mi y' hy'] at this
  · have a := h.i x hx
    have b := h.i y hy
    obtain ⟨c, d⟩ := k.sq _ _ a b
    have e0 : Fx.cal mv iv T x y = (mv (T (iv x) (iv y)).1, mv (T (iv x) (iv y)).2) := rfl
    rw [e0, key _ _ c d, k.twice ht _ _ a b, h.mi x hx, h.mi y hy]
theorem Kd.beh {n : Nat} {T : Tb} {s t : Bool} (k : Kd n T s t) : Kd n (beh T) s t := by
  refine ⟨fun x y hx hy => ⟨(k.sq y x hy hx).2, (k.sq y x hy hx).1⟩, fun x y z hx hy hz => ?_, fun hs => ⟨fun y x x' hy hx hx' e => (k.sided hs).one _ _ _ hy hx hx' e, fun x y y' hx hy hy' e => (k.sided hs).two _ _ _ hx hy hy' e⟩, fun ht x y hx hy => ?_⟩
  · let R : Nat × Nat × Nat → Nat × Nat × Nat := fun t => (t.2.2, t.2.1, t.1)
    have h1 : ∀ t, pa (Fx.beh T) t = R (pb T (R t)) := fun t => rfl
    have h2 : ∀ t, pb (Fx.beh T) t = R (pa T (R t)) := fun t => rfl
    have hR : ∀ t, R (R t) = t := fun t => rfl
    rw [h1, h2, h1, h2, h1, h2, hR, hR, hR, hR]
    exact congrArg R (k.three z y x hz hy hx).symm
  · have := k.twice ht y x hy hx
    unfold Fx.beh
    rw [this]
theorem dm {x b : Nat} (hb : 0 < b) : x / b * b + x % b = x := by rw [Nat.mul_comm]; exact Nat.div_add_mod x b
theorem enc_div {p q b : Nat} (h : q < b) : (p * b + q) / b = p := by
  rw [Nat.mul_comm, Nat.mul_add_div (by omega), Nat.div_eq_of_lt h, Nat.add_zero]
theorem enc_mod {p q b : Nat} (h : q < b) : (p * b + q) % b = q := by rw [Nat.mul_comm, Nat.mul_add_mod, Nat.mod_eq_of_lt h]
theorem enc_lt {p q a b : Nat} (hp : p < a) (hq : q < b) : p * b + q < a * b := by
  have : (p + 1) * b ≤ a * b := Nat.mul_le_mul_right b hp
  rw [Nat.succ_mul] at this
  omega
theorem Kd.side {a b : Nat} {T U : Tb} {s t : Bool} (hb : 1 ≤ b) (k : Kd a T s t) (l : Kd b U s t) : Kd (a * b) (sbs b T U) s t := by
  have bp : 0 < b := by omega
  have dv : ∀ x, x < a * b → x / b < a := fun x hx => div_lt' hx
  have md : ∀ x, x % b < b := fun x => Nat.mod_lt _ bp
  have sq : Sq (a * b) (sbs b T U) := fun x y hx hy => by
    obtain ⟨t1, t2⟩ := k.sq _ _ (dv x hx) (dv y hy)
    obtain ⟨u1, u2⟩ := l.sq _ _ (md x) (md y)
    exact ⟨enc_lt t1 u1, enc_lt t2 u2⟩
  refine ⟨sq, fun x y z hx hy hz => ?_, fun hs => ⟨fun y x x' hy hx hx' e => ?_, fun x y y' hx hy hy' e => ?_⟩, fun ht x y hx hy => ?_⟩
  · let F : (Nat × Nat × Nat) → (Nat × Nat × Nat) → Nat × Nat × Nat := fun p q => (p.1 * b + q.1, p.2.1 * b + q.2.1, p.2.2 * b + q.2.2)
    let G : (Nat × Nat × Nat) → (Nat × Nat × Nat) → Prop := fun p q => (p.1 < a ∧ p.2.1 < a ∧ p.2.2 < a) ∧ q.1 < b ∧ q.2.1 < b ∧ q.2.2 < b
    have ha : ∀ p q, G p q → pa (sbs b T U) (F p q) = F (pa T p) (pa U q) ∧ G (pa T p) (pa U q) := fun p q g => by
      obtain ⟨⟨p1, p2, p3⟩, q1, q2, q3⟩ := g
      obtain ⟨t1, t2⟩ := k.sq _ _ p1 p2
      obtain ⟨u1, u2⟩ := l.sq _ _ q1 q2
      refine ⟨?_, ⟨t1, t2, p3⟩, u1, u2, q3⟩
      simp only [pa, F, sbs, enc_div q1, enc_div q2, enc_mod q1, enc_mod q2]
    have hb : ∀ p q, G p q → pb (sbs b T U) (F p q) = F (pb T p) (pb U q) ∧ G (pb T p) (pb U q) := fun p q g => by
      obtain ⟨⟨p1, p2, p3⟩, q1, q2, q3⟩ := g
      obtain ⟨t1, t2⟩ := k.sq _ _ p2 p3
      obtain ⟨u1, u2⟩ := l.sq _ _ q2 q3
      refine ⟨?_, ⟨p1, t1, t2⟩, q1, u1, u2⟩
      simp only [pb, F, sbs, enc_div q2, enc_div q3, enc_mod q2, enc_mod q3]
    have e0 : (x, y, z) = F (x / b, y / b, z / b) (x % b, y % b, z % b) := by simp only [F, dm bp]
    have g0 : G (x / b, y / b, z / b) (x % b, y % b, z % b) := ⟨⟨dv x hx, dv y hy, dv z hz⟩, md x, md y, md z⟩
    have k3 := k.three _ _ _ (dv x hx) (dv y hy) (dv z hz)
    have l3 := l.three _ _ _ (md x) (md y) (md z)
    rw [e0, (ha _ _ g0).1, (hb _ _ (ha _ _ g0).2).1, (ha _ _ (hb _ _ (ha _ _ g0).2).2).1, (hb _ _ g0).1, (ha _ _ (hb _ _ g0).2).1, (hb _ _ (ha _ _ (hb _ _ g0).2).2).1, k3, l3]
  · have e : (T (x / b) (y / b)).2 * b + (U (x % b) (y % b)).2 = (T (x' / b) (y / b)).2 * b + (U (x' % b) (y % b)).2 := e
    have u := (l.sq _ _ (md x) (md y)).2
    have u' := (l.sq _ _ (md x') (md y)).2
    have e1 := congrArg (· / b) e
    have e2 := congrArg (· % b) e
    simp only [enc_div u, enc_div u', enc_mod u, enc_mod u'] at e1 e2
    rw [← dm (x := x) bp, ← dm (x := x') bp, (k.sided hs).two _ _ _ (dv y hy) (dv x hx) (dv x' hx') e1, (l.sided hs).two _ _ _ (md y) (md x) (md x') e2]
  · have e : (T (x / b) (y / b)).1 * b + (U (x % b) (y % b)).1 = (T (x / b) (y' / b)).1 * b + (U (x % b) (y' % b)).1 := e
    have u := (l.sq _ _ (md x) (md y)).1
    have u' := (l.sq _ _ (md x) (md y')).1
    have e1 := congrArg (· / b) e
    have e2 := congrArg (· % b) e
    simp only [enc_div u, enc_div u', enc_mod u, enc_mod u'] at e1 e2
    rw [← dm (x := y) bp, ← dm (x := y') bp, (k.sided hs).one _ _ _ (dv x hx) (dv y hy) (dv y' hy') e1, (l.sided hs).one _ _ _ (md x) (md y) (md y') e2]
  · obtain ⟨u1, u2⟩ := l.sq _ _ (md x) (md y)
    have t1 := k.twice ht _ _ (dv x hx) (dv y hy)
    have t2 := l.twice ht _ _ (md x) (md y)
    simp only [sbs, enc_div u1, enc_div u2, enc_mod u1, enc_mod u2, t1, t2, dm bp]
/-! lots -/
theorem up_eq {i t s : Nat} (hi : i < s) (ht : t < s) : (i + t) % s = if i + t < s then i + t else i + t - s := by
  split
  · exact Nat.mod_eq_of_lt ‹_›
  · rw [Nat.mod_eq_sub_mod (by omega), Nat.mod_eq_of_lt (by omega)]
theorem dn_eq {i t s : Nat} (hi : i < s) (ht : t < s) : (i + s - t) % s = if t ≤ i then i - t else i + s - t := by
  split
  · rw [Nat.mod_eq_sub_mod (by omega), Nat.mod_eq_of_lt (by omega)]
    omega
  · exact Nat.mod_eq_of_lt (by omega)
def upM (s t i : Nat) : Nat := if i + t < s then i + t else i + t - s
def dnM (s t i : Nat) : Nat := if t ≤ i then i - t else i + s - t
theorem upM_lt {s t i : Nat} (hi : i < s) (ht : t < s) : upM s t i < s := by unfold upM; split <;> omega
theorem dnM_lt {s t i : Nat} (hi : i < s) (ht : t < s) : dnM s t i < s := by unfold dnM; split <;> omega
theorem up_up {s t u i : Nat} (hi : i < s) (ht : t < s) (hu : u < s) : upM s t (upM s u i) = upM s u (upM s t i) := by
  unfold upM
  split <;> split <;> split <;> (try split) <;> omega
theorem dn_dn {s t u i : Nat} (hi : i < s) (ht : t < s) (hu : u < s) : dnM s t (dnM s u i) = dnM s u (dnM s t i) := by
  unfold dnM
  split <;> split <;> split <;> (try split) <;> omega
theorem up_dn {s t u i : Nat} (hi : i < s) (ht : t < s) (hu : u < s) : upM s t (dnM s u i) = dnM s u (upM s t i) := by
  unfold upM dnM
  split <;> split <;> split <;> (try split) <;> omega
theorem dn_up {s t i : Nat} (hi : i < s) (ht : t < s) : dnM s t (upM s t i) = i := by
  unfold upM dnM
  split <;> split <;> omega
theorem up_dn' {s t i : Nat} (hi : i < s) (ht : t < s) : upM s t (dnM s t i) = i := by
  rw [up_dn hi ht ht, dn_up hi ht]
section
variable {n L : Nat} {lot spot st sz : Nat → Nat} {tn : Nat → Nat → Nat}
theorem lot_ext (l : Lots n L lot spot st sz) {x y : Nat} (hx : x < n) (hy : y < n) (h1 : lot x = lot y) (h2 : spot x = spot y) : x = y := by
  have a := (l.at' x hx).2.2
  have b := (l.at' y hy).2.2
  rw [← a, ← b, h1, h2]
theorem lotT_at (l : Lots n L lot spot st sz) (ht : ∀ a b, a < L → b < L → tn a b < sz b) {x y : Nat} (hx : x < n) (hy : y < n) :
    ((lotT lot spot st sz tn x y).1 < n ∧ lot (lotT lot spot st sz tn x y).1 = lot y ∧ spot (lotT lot spot st sz tn x y).1 = upM (sz (lot y)) (tn (lot x) (lot y)) (spot y)) ∧
    ((lotT lot spot st sz tn x y).2 < n ∧ lot (lotT lot spot st sz tn x y).2 = lot x ∧ spot (lotT lot spot st sz tn x y).2 = dnM (sz (lot x)) (tn (lot y) (lot x)) (spot x)) := by
  obtain ⟨a1, a2, a3⟩ := l.at' x hx
  obtain ⟨b1, b2, b3⟩ := l.at' y hy
  have t1 := ht _ _ a1 b1
  have t2 := ht _ _ b1 a1
  have e1 : (spot y + tn (lot x) (lot y)) % sz (lot y) = upM (sz (lot y)) (tn (lot x) (lot y)) (spot y) := up_eq b2 t1
  have e2 : (spot x + sz (lot x) - tn (lot y) (lot x)) % sz (lot x) = dnM (sz (lot x)) (tn (lot y) (lot x)) (spot x) := dn_eq a2 t2
  unfold lotT
  simp only [e1, e2]
  exact ⟨l.of _ _ b1 (upM_lt b2 t1), l.of _ _ a1 (dnM_lt a2 t2)⟩
theorem Kd.lots (l : Lots n L lot spot st sz) (ht : ∀ a b, a < L → b < L → tn a b < sz b) : Kd n (lotT lot spot st sz tn) true true := by
  have sq : Sq n (lotT lot spot st sz tn) := fun x y hx hy => ⟨(lotT_at l ht hx hy).1.1, (lotT_at l ht hx hy).2.1⟩
  refine ⟨sq, fun x y z hx hy hz => ?_, fun _ => ⟨fun y x x' hy hx hx' e => ?_, fun x y y' hx hy hy' e => ?_⟩, fun _ x y hx hy => ?_⟩
  · obtain ⟨x1, x2, _⟩ := l.at' x hx
    obtain ⟨y1, y2, _⟩ := l.at' y hy
    obtain ⟨z1, z2, _⟩ := l.at' z hz
    have txy := ht _ _ x1 y1
    have tyx := ht _ _ y1 x1
    have txz := ht _ _ x1 z1
    have tzx := ht _ _ z1 x1
    have tyz := ht _ _ y1 z1
    have tzy := ht _ _ z1 y1
    obtain ⟨⟨p1, p2, p3⟩, p4, p5, p6⟩ := lotT_at l ht hx hy
    obtain ⟨⟨q1, q2, q3⟩, q4, q5, q6⟩ := lotT_at l ht p4 hz
    obtain ⟨⟨r1, r2, r3⟩, r4, r5, r6⟩ := lotT_at l ht p1 q1
    obtain ⟨⟨u1, u2, u3⟩, u4, u5, u6⟩ := lotT_at l ht hy hz
    obtain ⟨⟨v1, v2, v3⟩, v4, v5, v6⟩ := lotT_at l ht hx u1
    obtain ⟨⟨w1, w2, w3⟩, w4, w5, w6⟩ := lotT_at l ht v4 u4
    set_option linter.unusedSimpArgs false in
    simp only [p2, p5, p3, p6] at q2 q3 q5 q6
    set_option linter.unusedSimpArgs false in
    simp only [p2, p5, p3, p6, q2, q5, q3, q6] at r2 r3 r5 r6
    set_option linter.unusedSimpArgs false in
    simp only [u2, u5, u3, u6] at v2 v3 v5 v6
    set_option linter.unusedSimpArgs false in
    simp only [u2, u5, u3, u6, v2, v5, v3, v6] at w2 w3 w5 w6
    refine Prod.ext ?_ (Prod.ext ?_ ?_)
    · show (lotT lot spot st sz tn _ _).1 = (lotT lot spot st sz tn _ _).1
      exact lot_ext l r1 v1 (r2.trans v2.symm) (r3.trans ((up_up z2 tyz txz).trans v3.symm))
    · show (lotT lot spot st sz tn _ _).2 = (lotT lot spot st sz tn _ _).1
      exact lot_ext l r4 w1 (r5.trans w2.symm) (r6.trans ((up_dn y2 txy tzy).symm.trans w3.symm))
    · show (lotT lot spot st sz tn _ _).2 = (lotT lot spot st sz tn _ _).2
      exact lot_ext l q4 w4 (q5.trans w5.symm) (q6.trans ((dn_dn x2 tzx tyx).trans w6.symm))
  · obtain ⟨x1, x2, _⟩ := l.at' x hx
    obtain ⟨x1', x2', _⟩ := l.at' x' hx'
    obtain ⟨y1, y2, _⟩ := l.at' y hy
    obtain ⟨_, p4, p5, p6⟩ := lotT_at l ht hx hy
    obtain ⟨_, q4, q5, q6⟩ := lotT_at l ht hx' hy
    have h1 : lot x = lot x' := by rw [← p5, ← q5, e]
    have h2 := p6.symm.trans ((congrArg spot e).trans q6)
    rw [h1] at h2
    refine lot_ext l hx hx' h1 ?_
    have := congrArg (upM (sz (lot x')) (tn (lot y) (lot x'))) h2
    rw [h1] at x2
    rwa [up_dn' x2 (ht _ _ y1 x1'), up_dn' x2' (ht _ _ y1 x1')] at this
  · obtain ⟨x1, x2, _⟩ := l.at' x hx
    obtain ⟨y1, y2, _⟩ := l.at' y hy
    obtain ⟨y1', y2', _⟩ := l.at' y' hy'
    obtain ⟨⟨p4, p5, p6⟩, _⟩ := lotT_at l ht hx hy
    obtain ⟨⟨q4, q5, q6⟩, _⟩ := lotT_at l ht hx hy'
    have h1 : lot y = lot y' := by rw [← p5, ← q5, e]
    have h2 := p6.symm.trans ((congrArg spot e).trans q6)
    rw [h1] at h2
    refine lot_ext l hy hy' h1 ?_
    have := congrArg (dnM (sz (lot y')) (tn (lot x) (lot y'))) h2
    rw [h1] at y2
    rwa [dn_up y2 (ht _ _ x1 y1'), dn_up y2' (ht _ _ x1 y1')] at this
  · obtain ⟨x1, x2, _⟩ := l.at' x hx
    obtain ⟨y1, y2, _⟩ := l.at' y hy
    obtain ⟨⟨p1, p2, p3⟩, p4, p5, p6⟩ := lotT_at l ht hx hy
    obtain ⟨⟨q1, q2, q3⟩, q4, q5, q6⟩ := lotT_at l ht p1 p4
    rw [p5, p2, p6] at q3
    rw [p2, p5, p3] at q6
    refine Prod.ext ?_ ?_
    · exact lot_ext l q1 hx (q2.trans p5) (q3.trans (up_dn' x2 (ht _ _ y1 x1)))
    · exact lot_ext l q4 hy (q5.trans p2) (q6.trans (dn_up y2 (ht _ _ x1 y1)))
end
/-! small ones -/
def chkThree (n : Nat) (T : Tb) : Bool := (List.range n).all fun x => (List.range n).all fun y => (List.range n).all fun z => decide (pa T (pb T (pa T (x, y, z))) = pb T (pa T (pb T (x, y, z))))
def chkSq (n : Nat) (T : Tb) : Bool := (List.range n).all fun x => (List.range n).all fun y => decide ((T x y).1 < n ∧ (T x y).2 < n)
def chkSided (n : Nat) (T : Tb) : Bool := (List.range n).all fun y => (List.range n).all fun x => (List.range n).all fun z => decide (((T x y).2 = (T z y).2 → x = z) ∧ ((T y x).1 = (T y z).1 → x = z))
def chkTwice (n : Nat) (T : Tb) : Bool := (List.range n).all fun x => (List.range n).all fun y => decide (T (T x y).1 (T x y).2 = (x, y))
theorem all_rg {n : Nat} {p : Nat → Bool} (h : (List.range n).all p = true) {x : Nat} (hx : x < n) : p x = true := List.all_eq_true.mp h x (List.mem_range.mpr hx)
theorem Kd.chk {n : Nat} {T : Tb} {s t : Bool} (h : (chkSq n T && chkThree n T && (!s || chkSided n T) && (!t || chkTwice n T)) = true) : Kd n T s t := by
  simp only [Bool.and_eq_true] at h
  obtain ⟨⟨⟨h1, h2⟩, h3⟩, h4⟩ := h
  refine ⟨fun x y hx hy => of_decide_eq_true (all_rg (all_rg h1 hx) hy), fun x y z hx hy hz => of_decide_eq_true (all_rg (all_rg (all_rg h2 hx) hy) hz), fun hs => ?_, fun ht x y hx hy => ?_⟩
  · subst hs
    have h3 : chkSided n T = true := h3
    exact ⟨fun y x x' hy hx hx' e => (of_decide_eq_true (all_rg (all_rg (all_rg h3 hy) hx) hx')).1 e, fun x y y' hx hy hy' e => (of_decide_eq_true (all_rg (all_rg (all_rg h3 hx) hy) hy')).2 e⟩
  · subst ht
    have h4 : chkTwice n T = true := h4
    exact of_decide_eq_true (all_rg (all_rg h4 hx) hy)
theorem Kd.weak {n : Nat} {T : Tb} {s t s' t' : Bool} (k : Kd n T s t) (h1 : s' = true → s = true) (h2 : t' = true → t = true) : Kd n T s' t' := ⟨k.sq, k.three, fun h => k.sided (h1 h), fun h => k.twice (h2 h)⟩
/-- what is behind becomes what it is moved to, what is ahead likewise, by moves of which no matter which goes first -/
theorem Kd.moves {n : Nat} {p q p' q' : Nat → Nat} (hp : Mv n p p') (hq : Mv n q q') (hc : ∀ x, x < n → p (q x) = q (p x)) {t : Bool} (ht : t = true → ∀ x, x < n → p (q x) = x) : Kd n (fun x y => (p y, q x)) true t := by
  refine ⟨fun x y hx hy => ⟨hp.m y hy, hq.m x hx⟩, fun x y z hx hy hz => ?_, fun _ => ⟨fun y x x' hy hx hx' e => ?_, fun x y y' hx hy hy' e => ?_⟩, fun h x y hx hy => ?_⟩
  · simp only [pa, pb, hc y hy]
  · have := congrArg q' e
    simpa only [hq.im x hx, hq.im x' hx'] using this
  · have := congrArg p' e
    simpa only [hp.im y hy, hp.im y' hy'] using this
  · have e2 := ht h y hy
    rw [hc y hy] at e2
    exact Prod.ext (ht h x hx) e2
theorem Mv.id (n : Nat) : Mv n (fun x => x) (fun x => x) := ⟨fun _ h => h, fun _ h => h, fun _ _ => rfl, fun _ _ => rfl⟩
theorem Mv.inv {n : Nat} {p q : Nat → Nat} (h : Mv n p q) : Mv n q p := ⟨h.i, h.m, h.im, h.mi⟩
def itr (m : Nat → Nat) : Nat → Nat → Nat
  | 0, x => x
  | k + 1, x => m (itr m k x)
def itb (m : Nat → Nat) : Nat → Nat → Nat
  | 0, x => x
  | k + 1, x => itb m k (m x)
theorem itr_mv {n : Nat} {m i : Nat → Nat} (h : Mv n m i) : ∀ k, Mv n (itr m k) (itb i k)
  | 0 => Mv.id n
  | k + 1 => by
    have ih := itr_mv h k
    refine ⟨fun x hx => h.m _ (ih.m x hx), fun x hx => ih.i _ (h.i x hx), fun x hx => ?_, fun x hx => ?_⟩
    · show m (itr m k (itb i k (i x))) = x
      rw [ih.mi _ (h.i x hx), h.mi x hx]
    · show itb i k (i (m (itr m k x))) = x
      rw [h.im _ (ih.m x hx), ih.im x hx]
theorem itr_m (m : Nat → Nat) : ∀ k x, itr m k (m x) = m (itr m k x)
  | 0, _ => rfl
  | k + 1, x => congrArg m (itr_m m k x)
theorem itr_c (m : Nat → Nat) (j : Nat) : ∀ k x, itr m j (itr m k x) = itr m k (itr m j x)
  | 0, _ => rfl
  | k + 1, x => by
    show itr m j (m (itr m k x)) = m (itr m k (itr m j x))
    rw [itr_m, itr_c m j k x]
end Fx
set_option Elab.async false
set_option maxRecDepth 100000
set_option linter.unusedVariables false
/-! Tables drawn. -/
namespace Fx
open PySem L2 Lw
theorem for_eqR {α : Type} {t : Tg} {b : Sx} {enc : α → D} {xs : List α} {ρ : Env} (S : Nat → Env) (h0 : ρ = S 0) (h : ∀ i x, xs[i]? = some x → ∃ ρ1, t.bind (enc x) (S i) = some ρ1 ∧ (b ρ1 = M.ret (.nx (S (i + 1))) ∨ b ρ1 = M.ret (.ct (S (i + 1))))) : forF t b (xs.map enc) ρ = M.ret (.nx (S xs.length)) := by
  rw [h0]
  exact for_eq enc xs S h
theorem comp_sqr {ρ0 : Env} {n : Nat} {i j : Nat} {it : Env → M (List D)} {elt : Ex} {vs : List Nat} (T : Tb) (hn : n ≤ 1000) (hit : ∀ x, x < n → ∃ ρ1, (Tg.name i).bind (nD x) ρ0 = some ρ1 ∧ it ρ1 = M.ret ((List.range n).map nD) ∧ ∀ y, y < n → ∃ ρ2, (Tg.name j).bind (nD y) (wipeE ρ1 vs) = some ρ2 ∧ elt ρ2 = M.ret (prD (T x y))) :
    compF (.name i) cYes (eLock (eComp it (.name j) cYes elt vs)) ρ0 ((List.range n).map nD) [] = M.ret (.own (sqr n T)) := by
  have h1 := small6 hn
  rw [comp_eq nD (fun x => D.lst ((List.range n).map fun y => prD (T x y))) _ _ (fun x hx => by
    obtain ⟨ρ1, e1, e2, e3⟩ := hit x (List.mem_range.mp hx)
    refine ⟨ρ1, e1, ?_, rfl⟩
    simp only [u_eLock, u_eComp, e2, ret_bind]
    rw [comp_eq nD (fun y => prD (T x y)) _ _ (fun y hy => by
      obtain ⟨ρ2, e4, e5⟩ := e3 y (List.mem_range.mp hy)
      exact ⟨ρ2, e4, e5, rfl⟩) (by simp; exact h1)]
    rfl) (by simp; exact h1)]
  rfl
/-- what is drawn: a square of pairs of a kind -/
def DrK (most : Nat) (s t : Bool) (d : D) : Prop := ∃ n T, 1 ≤ n ∧ n ≤ most ∧ Kd n T s t ∧ d = .own (sqr n T)
theorem DrK.weak {most : Nat} {s t s' t' : Bool} {d : D} (h : DrK most s t d) (h1 : s' = true → s = true) (h2 : t' = true → t = true) : DrK most s' t' d := by
  obtain ⟨n, T, a, b, k, e⟩ := h
  exact ⟨n, T, a, b, k.weak h1 h2, e⟩
def fourT : Tb := fun x y => ((([[1, 0, 2, 3], [2, 3, 1, 0], [0, 1, 3, 2], [3, 2, 0, 1]].getD x []).getD y 0), ([[1, 0, 2, 3], [2, 3, 1, 0], [0, 1, 3, 2], [3, 2, 0, 1]].getD (([[1, 0, 2, 3], [2, 3, 1, 0], [0, 1, 3, 2], [3, 2, 0, 1]].getD x []).getD y 0) []).idxOf x)
theorem Kd.four : Kd 4 fourT true true := Kd.chk (by decide +kernel)
theorem Kd.swap (n : Nat) : Kd n (fun x y => (y, x)) true true := Kd.moves (Mv.id n) (Mv.id n) (fun _ _ => rfl) fun _ _ _ => rfl
theorem Kd.by {n : Nat} {p q : Nat → Nat} (h : Mv n p q) : Kd n (fun x y => (p y, q x)) true true := Kd.moves h h.inv (fun x hx => by rw [h.mi x hx, h.im x hx]) fun _ x hx => h.mi x hx
theorem p_powers {n k : Nat} {mv iv : Nat → Nat} (hn : n ≤ 1000) (h : Mv n mv iv) (hk : k ≤ 1000) : ∃ d, F_powers [.lst (mvD n mv), .int (k : Int)] = M.ret d ∧ (d = .lst (mvD n (itr mv k)) ∨ d = .own (mvD n (itr mv k))) := by
  have h1 := small6 hn
  have hr : RgOk 0 (n : Int) := RgOk.of_le (a := 0) (b := (n : Int)) (by omega) (by omega) (by omega) (by omega)
  have h2 := rgn hk
  have e := rg0 k
  have e' := rg0 n
  let X : Nat → D := fun i => match i with
    | 0 => .lst (mvD n (itr mv 0))
    | i + 1 => .own (mvD n (itr mv (i + 1)))
  let S : Nat → Env := fun i => [some (.lst (mvD n mv)), some (.int (k : Int)), some (X i), past nD i, none]
  refine ⟨X k, ?_, ?_⟩
  · simp only [F_powers, g_powers]
    simp [mvD_len, hr, h2, e, e']
    rw [for_eqR S (by simp [S, X, past, itr, mvD]) (fun i x hx => ?_)]
    · simp [S]
    · obtain ⟨hi, rfl⟩ := range_at hx
      refine ⟨_, rfl, .inl ?_⟩
      have c : ∀ ρ : Env, compF (.name 4) cYes (eOp ixD (eVar 0) (eVar 4)) [some (.lst (mvD n mv)), some (.int (k : Int)), some (.lst (mvD n (itr mv x))), some (nD x), none] (mvD n (itr mv x)) [] = M.ret (.own (mvD n (itr mv (x + 1)))) := fun _ => by
        have := comp_eq (t := .name 4) (elt := eOp ixD (eVar 0) (eVar 4)) (ρ0 := [some (.lst (mvD n mv)), some (.int (k : Int)), some (.lst (mvD n (itr mv x))), some (nD x), none]) (fun y => nD (itr mv x y)) (fun y => nD (mv (itr mv x y))) (List.range n) [] (fun y hy => ⟨_, rfl, by
          have a1 : atI (mvD n mv) ((itr mv x y : Nat) : Int) = _ := at_mv ((itr_mv h x).m y (List.mem_range.mp hy))
          simp [a1], rfl⟩) (by simp; exact h1)
        exact this
      cases x with
      | zero => simp [S, X, past, c []]
      | succ x => simp [S, X, past, c []]
  · cases k
    · exact .inl rfl
    · exact .inr rfl
theorem dn_moves' {n : Nat} (hn : n ≤ 1000) : Dn n (F_shuffled [.pen, .lst ((List.range n).map nD)]) (fun r => ∃ mv iv, Mv n mv iv ∧ r = .own (mvD n mv)) := by
  rw [← rg0]
  exact dn_moves hn
theorem p_four : F_four [] = M.ret (.own (sqr 4 fourT)) := by
  have r4 := rgn (n := 4) (by decide)
  have e4 := rg0 4
  have r4' : Rg62 4 := r4
  have e4' : rgD 0 4 = (List.range 4).map nD := e4
  simp only [F_four, g_four]
  simp [r4', e4', -List.range_succ]
  rw [comp_sqr fourT (by decide) (fun x hx => ⟨_, rfl, by simp [r4', e4'], fun y hy => ⟨_, rfl, by
    have hx : x = 0 ∨ x = 1 ∨ x = 2 ∨ x = 3 := by omega
    have hy : y = 0 ∨ y = 1 ∨ y = 2 ∨ y = 3 := by omega
    rcases hx with rfl | rfl | rfl | rfl <;> rcases hy with rfl | rfl | rfl | rfl <;> rfl⟩⟩)]
  simp
theorem dn_gentle {most : Nat} (h1 : 1 ≤ most) (h6 : most ≤ 6) : Dn 5000 (F_gentle_pairs [.pen, .int (most : Int)]) (DrK most true true) := by
  simp only [F_gentle_pairs, g_gentle_pairs]
  simp
  refine (Dn.orXb (l := 4999) (dn_drawN (n := most) h1 (by omega)) fun v ⟨i, ev, hi⟩ => ?_).le (by omega)
  subst ev
  simp
  refine (Dn.orXb (l := 4998) (dn_draw' (n := 5) (by decide) (by decide)) fun v ⟨r, ev, hr⟩ => ?_).le (by omega)
  subst ev
  obtain ⟨n, hn⟩ : ∃ n : Nat, n = 1 + i := ⟨_, rfl⟩
  have en : ((1 : Int) + (i : Int)) = (n : Int) := by omega
  simp only [en]
  have n1 : 1 ≤ n := by omega
  have n6 : n ≤ most := by omega
  have rn := rgn (n := n) (by omega)
  have e0 := rg0 n
  have hro : RgOk 0 (n : Int) := RgOk.of_le (a := 0) (b := (n : Int)) (by omega) (by omega) (by omega) (by omega)
  by_cases r0 : r = 0
  · subst r0
    simp [rn, e0]
    rw [comp_sqr (fun x y => (y, x)) (by omega) (fun x hx => ⟨_, rfl, by simp [rn, e0], fun y hy => ⟨_, rfl, by simp [pr_eq]⟩⟩)]
    simp
    exact (Dn.ret ⟨n, _, n1, n6, Kd.swap n, rfl⟩ : Dn 0 _ _).le (by omega)
  by_cases r1 : r = 1
  · subst r1
    simp [rn, e0, hro]
    refine (Dn.orXb (l := 0) (dn_moves' (n := n) (by omega)) fun v ⟨mv, iv, hmv, ev⟩ => ?_).le (by omega)
    subst ev
    simp [rn, e0]
    rw [comp_sqr (fun x y => (mv y, iv x)) (by omega) (fun x hx => ⟨_, rfl, by simp [rn, e0], fun y hy => ⟨_, rfl, by
      have a1 : atI (mvD n mv) (y : Int) = _ := at_mv hy
      have a2 := idx_mv hmv hx
      simp [pr_eq, a1, a2]⟩⟩)]
    simp
    exact (Dn.ret ⟨n, _, n1, n6, Kd.by hmv, rfl⟩ : Dn 0 _ _).le (by omega)
  have i0 : ¬ (r : Int) = 0 := by omega
  have i1 : ¬ (r : Int) = 1 := by omega
  have lots : ∀ n : Nat, n ≤ 30 → Dn 1000 (F_lots_pairs [.pen, .int (n : Int)]) (fun d => ∃ T, Kd n T true true ∧ d = .own (sqr n T)) := fun n hn => (dn_lots (n := n) hn).imp fun d ⟨L, lot, spot, st, sz, tn, l, ht, e⟩ => ⟨_, Kd.lots l ht, e⟩
  by_cases r2 : r = 2 ∧ 3 < most
  · obtain ⟨r2, m3⟩ := r2
    subst r2
    have m3' : (3 : Int) < most := by omega
    simp [m3', p_four]
    exact (Dn.ret ⟨4, _, by omega, by omega, Kd.four, rfl⟩ : Dn 0 _ _).le (by omega)
  by_cases r3 : r = 3 ∧ 3 < most
  · obtain ⟨r3, m3⟩ := r3
    subst r3
    have m3' : (3 : Int) < most := by omega
    simp [m3']
    refine (Dn.orXb (l := 3000) (lots 2 (by omega)) fun v ⟨T, kT, ev⟩ => ?_).le (by omega)
    subst ev
    simp
    refine (Dn.orXb (l := 2999) (dn_draw' (n := 2) (by decide) (by decide)) fun v ⟨j, ev, hj⟩ => ?_).le (by omega)
    subst ev
    obtain ⟨m, hm, m1, m6⟩ : ∃ m : Nat, 2 + (if (5 : Int) < most then 1 else 0) * (j : Int) = (m : Int) ∧ 1 ≤ m ∧ 2 * m ≤ most := by
      by_cases m5 : (5 : Int) < most
      · rw [if_pos m5]
        exact ⟨2 + j, by omega, by omega, by omega⟩
      · rw [if_neg m5]
        exact ⟨2, by omega, by omega, by omega⟩
    have cm : CMulW (if (5 : Int) < most then 1 else 0) (j : Int) := cmul (by split <;> decide) (by omega)
    simp [cm, hm]
    refine (Dn.orXb (l := 1000) (lots m (by omega)) fun v ⟨U, kU, ev⟩ => ?_).le (by omega)
    subst ev
    simp
    refine (Dn.orXb (l := 0) (dn_side (a := 2) (b := m) m1 (by omega) (by omega) kT.sq kU.sq) fun v ev => ?_).le (by omega)
    subst ev
    simp
    exact Dn.ret ⟨2 * m, _, by omega, m6, Kd.side m1 kT kU, rfl⟩
  · have lotsn := lots n (by omega)
    have fin : ∀ ρ : Env, Dn 4998 (((F_lots_pairs [.pen, .int (n : Int)]).orX ρ fun d => M.ret (.rt d)).bind Fl.fin) (DrK most true true) := fun ρ => (Dn.orXb (l := 0) lotsn fun v ⟨T, kT, ev⟩ => by
      subst ev
      exact Dn.ret ⟨n, T, n1, n6, kT, rfl⟩).le (by omega)
    by_cases m3 : (3 : Int) < most
    · have i2 : ¬ (r : Int) = 2 := by omega
      have i3 : ¬ (r : Int) = 3 := by omega
      simp [i0, i1, i2, i3, r0]
      exact fin _
    · simp [i0, i1, m3, r0]
      exact fin _
def DrA (most : Nat) (d : D) : Prop := ∃ n T, 1 ≤ n ∧ n ≤ most ∧ Sq n T ∧ d = .own (sqr n T)
theorem DrK.any {most : Nat} {s t : Bool} {d : D} (h : DrK most s t d) : DrA most d := by
  obtain ⟨n, T, a, b, k, e⟩ := h
  exact ⟨n, T, a, b, k.sq, e⟩
def twoT : Tb := fun x y => (y, (x + 1) % 2)
def ladT (n : Nat) : Tb := fun x y => (y, (2 * y + n - x) % n)
theorem Kd.two : Kd 2 twoT true false := Kd.chk (by decide +kernel)
theorem Kd.lad : ∀ n, 1 ≤ n → n ≤ 6 → Kd n (ladT n) true false
  | 1, _, _ => Kd.chk (by decide +kernel)
  | 2, _, _ => Kd.chk (by decide +kernel)
  | 3, _, _ => Kd.chk (by decide +kernel)
  | 4, _, _ => Kd.chk (by decide +kernel)
  | 5, _, _ => Kd.chk (by decide +kernel)
  | 6, _, _ => Kd.chk (by decide +kernel)
end Fx
set_option Elab.async false
set_option maxRecDepth 100000
set_option linter.unusedVariables false
set_option linter.unusedSimpArgs false
/-! Tables drawn, kindly, of three, any. -/
namespace Fx
open PySem L2 Lw
theorem fmod_lad {x y n : Nat} (hx : x < n) : (2 * (y : Int) - (x : Int)).fmod (n : Int) = (((2 * y + n - x) % n : Nat) : Int) := by
  have := fmod_sub (x := 2 * y) hx
  rw [← this]
  congr 1
theorem ixQ {d : D} {xs : List D} (h : d = .lst xs ∨ d = .own xs) (i : Int) : ixD d (.int i) = atI xs i := by
  rcases h with rfl | rfl <;> rfl
theorem cmul2 {y : Nat} (h : y ≤ 1000) : CMulW 2 (y : Int) := cmul (by decide) (by omega)
theorem dn_kindly {most : Nat} (h1 : 1 ≤ most) (h6 : most ≤ 6) : Dn 6000 (F_kindly_pairs [.pen, .int (most : Int)]) (DrK most true false) := by
  simp only [F_kindly_pairs, g_kindly_pairs]
  simp
  refine (Dn.orXb (l := 5999) (dn_drawN (n := most) h1 (by omega)) fun v ⟨i, ev, hi⟩ => ?_).le (by omega)
  subst ev
  simp
  refine (Dn.orXb (l := 5998) (dn_draw' (n := 5) (by decide) (by decide)) fun v ⟨r, ev, hr⟩ => ?_).le (by omega)
  subst ev
  obtain ⟨n, hn⟩ : ∃ n : Nat, n = 1 + i := ⟨_, rfl⟩
  have en : ((1 : Int) + (i : Int)) = (n : Int) := by omega
  simp only [en]
  have n1 : 1 ≤ n := by omega
  have n6 : n ≤ most := by omega
  have rn := rgn (n := n) (by omega)
  have e0 := rg0 n
  have hro : RgOk 0 (n : Int) := RgOk.of_le (a := 0) (b := (n : Int)) (by omega) (by omega) (by omega) (by omega)
  by_cases r0 : r = 0
  · subst r0
    simp [rn, e0, hro]
    refine (Dn.orXb (l := 100) (dn_moves' (n := n) (by omega)) fun v ⟨mv, iv, hmv, ev⟩ => ?_).le (by omega)
    subst ev
    simp [rn, e0]
    refine (Dn.orXb (l := 99) (dn_draw' (n := 4) (by decide) (by decide)) fun v ⟨j, ev, hj⟩ => ?_).le (by omega)
    subst ev
    obtain ⟨d1, e1, q1⟩ := p_powers (n := n) (k := j) (by omega) hmv (by omega)
    simp [e1]
    refine (Dn.orXb (l := 0) (dn_draw' (n := 4) (by decide) (by decide)) fun v ⟨k, ev, hk⟩ => ?_).le (by omega)
    subst ev
    obtain ⟨d2, e2, q2⟩ := p_powers (n := n) (k := k) (by omega) hmv (by omega)
    simp [e2, rn, e0]
    rw [comp_sqr (fun x y => (itr mv j y, itr mv k x)) (by omega) (fun x hx => ⟨_, rfl, by simp [rn, e0], fun y hy => ⟨_, rfl, by
      have a1 : atI (mvD n (itr mv j)) (y : Int) = _ := at_mv hy
      have a2 : atI (mvD n (itr mv k)) (x : Int) = _ := at_mv hx
      simp [pr_eq, ixQ q1, ixQ q2, a1, a2]⟩⟩)]
    simp
    exact Dn.ret ⟨n, _, n1, n6, Kd.moves (itr_mv hmv j) (itr_mv hmv k) (fun x hx => itr_c mv j k x) (fun h => nomatch h), rfl⟩
  have i0 : ¬ (r : Int) = 0 := by omega
  by_cases r1 : r = 1
  · subst r1
    simp [rn, e0]
    rw [comp_sqr (ladT n) (by omega) (fun x hx => ⟨_, rfl, by simp [rn, e0], fun y hy => ⟨_, rfl, by
      have c := cmul2 (y := y) (by omega)
      have nz : ¬ n = 0 := by omega
      simp [c, nz, fmod_lad hx, pr_eq, ladT, -Int.natCast_emod]⟩⟩)]
    simp
    exact (Dn.ret ⟨n, _, n1, n6, Kd.lad n n1 (by omega), rfl⟩ : Dn 0 _ _).le (by omega)
  have i1 : ¬ (r : Int) = 1 := by omega
  by_cases r2 : r = 2 ∧ 5 < most
  · obtain ⟨r2, m5⟩ := r2
    subst r2
    have m5' : (5 : Int) < most := by omega
    have rg2 : Rg62 2 := rgn (n := 2) (by decide)
    have rg3 : Rg62 3 := rgn (n := 3) (by decide)
    have e2 : rgD 0 2 = (List.range 2).map nD := rg0 2
    have e3 : rgD 0 3 = (List.range 3).map nD := rg0 3
    simp [m5', rg2, e2]
    rw [comp_sqr twoT (by omega) (fun x hx => ⟨_, rfl, by simp [rg2, e2], fun y hy => ⟨_, rfl, by
      have : ((x : Int) + 1).fmod 2 = (((x + 1) % 2 : Nat) : Int) := fmod_nn (x + 1) 2
      simp [this, pr_eq, twoT, -Int.natCast_emod]⟩⟩)]
    simp [rg3, e3]
    rw [comp_sqr (ladT 3) (by omega) (fun x hx => ⟨_, rfl, by simp [rg3, e3], fun y hy => ⟨_, rfl, by
      have c := cmul2 (y := y) (by omega)
      have : (2 * (y : Int) - (x : Int)).fmod 3 = (((2 * y + 3 - x) % 3 : Nat) : Int) := fmod_lad (n := 3) hx
      simp [c, this, pr_eq, ladT, -Int.natCast_emod]⟩⟩)]
    simp
    refine (Dn.orXb (l := 0) (dn_side (a := 2) (b := 3) (by omega) (by omega) (by omega) Kd.two.sq (Kd.lad 3 (by omega) (by omega)).sq) fun v ev => ?_).le (by omega)
    subst ev
    simp
    exact Dn.ret ⟨2 * 3, _, by omega, by omega, Kd.side (by omega) Kd.two (Kd.lad 3 (by omega) (by omega)), rfl⟩
  have fin : ∀ ρ : Env, Dn 5998 (((F_gentle_pairs [.pen, .int (most : Int)]).orX ρ fun d => M.ret (.rt d)).bind Fl.fin) (DrK most true false) := fun ρ => (Dn.orXb (l := 0) (dn_gentle h1 h6) fun v hv => by exact Dn.ret (hv.weak (fun h => h) (fun h => (nomatch h)))).le (by omega)
  by_cases m5 : (5 : Int) < most
  · have i2 : ¬ (r : Int) = 2 := by omega
    simp [i0, i1, i2, r0]
    exact fin _
  · simp [i0, i1, m5, r0]
    exact fin _
def mmT : Tb := fun x y => (if y < x then y else x, if y > x then y else x)
theorem Kd.mm (n : Nat) : Kd n mmT false false := by
  refine ⟨fun x y hx hy => by simp only [mmT]; constructor <;> split <;> omega, fun x y z hx hy hz => ?_, fun h => (nomatch h), fun h => (nomatch h)⟩
  simp only [pa, pb, mmT]
  refine Prod.ext ?_ (Prod.ext ?_ ?_) <;> simp only <;> (repeat' split) <;> omega
def cstT (g : Nat) : Tb := fun _ _ => (g, g)
theorem Kd.cst {n g : Nat} (h : g < n) : Kd n (cstT g) false false := ⟨fun _ _ _ _ => ⟨h, h⟩, fun _ _ _ _ _ _ => rfl, fun h => (nomatch h), fun h => (nomatch h)⟩
def oddT : Tb := fun x y => ([[(0, 0), (1, 0), (2, 0)], [(0, 1), (1, 0), (2, 0)], [(0, 2), (2, 0), (1, 0)]].getD x []).getD y (0, 0)
theorem Kd.odd : Kd 3 oddT false false := Kd.chk (by decide +kernel)
theorem dn_three {most : Nat} (h1 : 1 ≤ most) (h6 : most ≤ 6) : Dn 7000 (F_three_pairs [.pen, .int (most : Int)]) (DrK most false false) := by
  simp only [F_three_pairs, g_three_pairs]
  simp
  refine (Dn.orXb (l := 6999) (dn_drawN (n := most) h1 (by omega)) fun v ⟨i, ev, hi⟩ => ?_).le (by omega)
  subst ev
  simp
  refine (Dn.orXb (l := 6998) (dn_draw' (n := 6) (by decide) (by decide)) fun v ⟨r, ev, hr⟩ => ?_).le (by omega)
  subst ev
  obtain ⟨n, hn⟩ : ∃ n : Nat, n = 1 + i := ⟨_, rfl⟩
  have en : ((1 : Int) + (i : Int)) = (n : Int) := by omega
  simp only [en]
  have n1 : 1 ≤ n := by omega
  have n6 : n ≤ most := by omega
  have rn := rgn (n := n) (by omega)
  have e0 := rg0 n
  by_cases r0 : r = 0
  · subst r0
    simp [rn, e0]
    rw [comp_sqr mmT (by omega) (fun x hx => ⟨_, rfl, by simp [rn, e0], fun y hy => ⟨_, rfl, by
      simp [prD, mmT]
      by_cases h : y < x <;> by_cases h' : x < y <;> simp [h, h']⟩⟩)]
    simp
    exact (Dn.ret ⟨n, _, n1, n6, Kd.mm n, rfl⟩ : Dn 0 _ _).le (by omega)
  have i0 : ¬ (r : Int) = 0 := by omega
  by_cases r1 : r = 1 ∧ 2 < most
  · obtain ⟨r1, m2⟩ := r1
    subst r1
    have m2' : (2 : Int) < most := by omega
    simp [m2']
    exact (Dn.ret ⟨3, oddT, by omega, by omega, Kd.odd, rfl⟩ : Dn 0 _ _).le (by omega)
  have fin : ∀ ρ : Env, Dn 6998 (((F_kindly_pairs [.pen, .int (most : Int)]).orX ρ fun d => M.ret (.rt d)).bind Fl.fin) (DrK most false false) := fun ρ => (Dn.orXb (l := 0) (dn_kindly h1 h6) fun v hv => by exact Dn.ret (hv.weak (fun h => (nomatch h)) (fun h => (nomatch h)))).le (by omega)
  by_cases r2 : r = 2
  · subst r2
    simp
    refine (Dn.orXb (l := 0) (dn_drawN (n := n) n1 (by omega)) fun v ⟨g, ev, hg⟩ => ?_).le (by omega)
    subst ev
    simp [rn, e0]
    rw [comp_sqr (cstT g) (by omega) (fun x hx => ⟨_, rfl, by simp [rn, e0], fun y hy => ⟨_, rfl, by simp [pr_eq, cstT]⟩⟩)]
    simp
    exact Dn.ret ⟨n, _, n1, n6, Kd.cst hg, rfl⟩
  have i2 : ¬ (r : Int) = 2 := by omega
  by_cases m2 : (2 : Int) < most
  · have i1 : ¬ (r : Int) = 1 := by omega
    simp [i0, i1, i2, r0]
    exact fin _
  · simp [i0, i2, m2, r0]
    exact fin _
end Fx
set_option Elab.async false
set_option maxRecDepth 100000
set_option linter.unusedVariables false
set_option linter.unusedSimpArgs false
/-! Tables drawn: any. -/
namespace Fx
open PySem L2 Lw
@[simp] theorem u_tx_nm (i : Nat) (d : D) (ρ : Env) : Tx.bind (.name i) d ρ = M.lift (if d.still = true then some (setV ρ i (some d)) else none) := by unfold Tx.bind; rfl
@[simp] theorem u_tx_sub (i : Nat) (k : Ex) (d : D) (ρ : Env) : Tx.bind (.sub i k) d ρ = match getV ρ i with
    | some (.own ds) => (k ρ).bind fun j => subX i d ρ ds j
    | _ => M.lift none := by rw [Tx.bind] <;> rfl
@[simp] theorem u_tx_tup (ts : List Tx) (d : D) (ρ : Env) : Tx.bind (.tup ts) d ρ = match unpk d with
    | some ds => Tx.binds ts ds ρ
    | none => M.lift none := by rw [Tx.bind] <;> rfl
@[simp] theorem u_tx_unl (ts : List Tx) (d : D) (ρ : Env) : Tx.bind (.unl ts) d ρ = match unpkL d with
    | some ds => Tx.binds ts ds ρ
    | none => M.lift none := by rw [Tx.bind] <;> rfl
@[simp] theorem u_unpkL (ds : List D) : unpkL (.lst ds) = some ds := rfl
@[simp] theorem u_txs_nil (ρ : Env) : Tx.binds [] [] ρ = M.ret ρ := by rw [Tx.binds]
@[simp] theorem u_txs_cons (t : Tx) (ts : List Tx) (d : D) (ds : List D) (ρ : Env) : Tx.binds (t :: ts) (d :: ds) ρ = (t.bind d ρ).bind fun ρ' => Tx.binds ts ds ρ' := by rw [Tx.binds]
@[simp] theorem u_unpk_tup (ds : List D) : unpk (.tup ds) = some ds := rfl
@[simp] theorem u_unpk_wtup (ds : List D) : unpk (.wtup ds) = some ds := rfl
theorem prd_len {α β : Type} {F : α → β → Prop} : ∀ {as : List α} {bs : List β}, Paired F as bs → as.length = bs.length
  | _, _, .nil => rfl
  | _, _, .cons _ t => by simp [prd_len t]
theorem prd_meb {α β : Type} {F : α → β → Prop} : ∀ {as : List α} {bs : List β} {b : β}, Paired F as bs → b ∈ bs → ∃ a, a ∈ as ∧ F a b
  | _, _, _, .cons r t, h => by
    rcases List.mem_cons.mp h with rfl | h
    · exact ⟨_, by simp, r⟩
    · obtain ⟨b, h1, h2⟩ := prd_meb t h
      exact ⟨b, by simp [h1], h2⟩
theorem sqr_of {n : Nat} {rows : List (List (Nat × Nat))} (hl : rows.length = n) (hr : ∀ r ∈ rows, r.length = n ∧ ∀ p ∈ r, p.1 < n ∧ p.2 < n) : ∃ T : Tb, Sq n T ∧ rows.map (fun r => D.lst (r.map prD)) = sqr n T := by
  have at1 : ∀ x, x < n → ∃ r, rows[x]? = some r ∧ rows.getD x [] = r := fun x hx => ⟨rows[x], by rw [List.getElem?_eq_getElem (by omega)], by rw [List.getD_eq_getElem?_getD, List.getElem?_eq_getElem (by omega)]; rfl⟩
  refine ⟨fun x y => (rows.getD x []).getD y (0, 0), fun x y hx hy => ?_, ?_⟩
  · obtain ⟨r, e1, e2⟩ := at1 x hx
    obtain ⟨h1, h2⟩ := hr r (List.mem_of_getElem? e1)
    show ((rows.getD x []).getD y (0, 0)).1 < n ∧ ((rows.getD x []).getD y (0, 0)).2 < n
    rw [e2]
    have : r.getD y (0, 0) = r[y] := by rw [List.getD_eq_getElem?_getD, List.getElem?_eq_getElem (by omega)]; rfl
    rw [this]
    exact h2 _ (List.getElem_mem _)
  · unfold sqr
    apply List.ext_getElem?
    intro x
    by_cases hx : x < n
    · obtain ⟨r, e1, e2⟩ := at1 x hx
      rw [List.getElem?_map, e1, List.getElem?_map, List.getElem?_range hx]
      show some (D.lst (r.map prD)) = some (D.lst _)
      refine congrArg (fun l => some (D.lst l)) ?_
      obtain ⟨h1, h2⟩ := hr r (List.mem_of_getElem? e1)
      apply List.ext_getElem?
      intro y
      by_cases hy : y < n
      · rw [List.getElem?_map, List.getElem?_map, List.getElem?_range hy]
        show _ = some (prD ((rows.getD x []).getD y (0, 0)))
        rw [e2]
        have : r.getD y (0, 0) = r[y] := by rw [List.getD_eq_getElem?_getD, List.getElem?_eq_getElem (by omega)]; rfl
        rw [this, List.getElem?_eq_getElem (by omega)]
        rfl
      · rw [List.getElem?_eq_none (by simp; omega), List.getElem?_eq_none (by simp; omega)]
    · rw [List.getElem?_eq_none (by simp; omega), List.getElem?_eq_none (by simp; omega)]
def sqL (n : Nat) (T : Tb) : List (List (Nat × Nat)) := (List.range n).map fun x => (List.range n).map fun y => T x y
theorem sqr_rows (n : Nat) (T : Tb) : sqr n T = (sqL n T).map fun r => D.lst (r.map prD) := by
  unfold sqr sqL
  simp
theorem sqL_ok {n : Nat} {T : Tb} (h : Sq n T) : (sqL n T).length = n ∧ ∀ r ∈ sqL n T, r.length = n ∧ ∀ p ∈ r, p.1 < n ∧ p.2 < n := by
  unfold sqL
  refine ⟨by simp, fun r hr => ?_⟩
  obtain ⟨x, hx, rfl⟩ := List.mem_map.mp hr
  refine ⟨by simp, fun p hp => ?_⟩
  obtain ⟨y, hy, rfl⟩ := List.mem_map.mp hp
  exact h x y (List.mem_range.mp hx) (List.mem_range.mp hy)
theorem sqr_with {n : Nat} {T : Tb} {x y : Nat} {p : Nat × Nat} (hT : Sq n T) (hx : x < n) (hy : y < n) (hp : p.1 < n ∧ p.2 < n) : ∃ U : Tb, Sq n U ∧ (sqr n T).set x (.lst (((List.range n).map fun y => prD (T x y)).take y ++ prD p :: ((List.range n).map fun y => prD (T x y)).drop (y + 1))) = sqr n U := by
  obtain ⟨h1, h2⟩ := sqL_ok hT
  let r := ((List.range n).map fun y => T x y).take y ++ p :: ((List.range n).map fun y => T x y).drop (y + 1)
  have hr : r.length = n ∧ ∀ q ∈ r, q.1 < n ∧ q.2 < n := by
    refine ⟨by simp [r]; omega, fun q hq => ?_⟩
    have rowok : ∀ q ∈ (List.range n).map fun y => T x y, q.1 < n ∧ q.2 < n := fun q hq => by
      obtain ⟨y, hy, rfl⟩ := List.mem_map.mp hq
      exact hT x y hx (List.mem_range.mp hy)
    rcases List.mem_append.mp hq with hq | hq
    · exact rowok q (List.mem_of_mem_take hq)
    · rcases List.mem_cons.mp hq with rfl | hq
      · exact hp
      · exact rowok q (List.mem_of_mem_drop hq)
  obtain ⟨U, hU, e⟩ := sqr_of (n := n) (rows := (sqL n T).set x r) (by simp [h1]) (fun q hq => by
    rcases List.mem_or_eq_of_mem_set hq with hq | rfl
    · exact h2 q hq
    · exact hr)
  refine ⟨U, hU, ?_⟩
  rw [← e, List.map_set, ← sqr_rows]
  congr 2
  simp [r, List.map_take, List.map_drop, Function.comp_def]
theorem dn_turnK {n : Nat} {T : Tb} {s t : Bool} (hn : n ≤ 1000) (k : Kd n T s t) : Dn (n + 1) (F_turned_pairs [.pen, .lst (sqr n T)]) (fun d => ∃ U, Kd n U s t ∧ d = .own (sqr n U)) := (dn_turned hn k.sq).imp fun d ⟨mv, iv, U, hm, hU, e⟩ => ⟨_, by
  rcases hU with rfl | rfl
  · exact k.cal hm
  · exact k.beh.cal hm, e⟩
theorem dn_any {most : Nat} (h1 : 1 ≤ most) (h6 : most ≤ 6) : Dn 9000 (F_any_pairs [.pen, .int (most : Int)]) (DrA most) := by
  simp only [F_any_pairs, g_any_pairs]
  simp
  refine (Dn.orXb (l := 8999) (dn_drawN (n := most) h1 (by omega)) fun v ⟨i, ev, hi⟩ => ?_).le (by omega)
  subst ev
  simp
  refine (Dn.orXb (l := 8998) (dn_draw' (n := 4) (by decide) (by decide)) fun v ⟨r, ev, hr⟩ => ?_).le (by omega)
  subst ev
  obtain ⟨n, hn⟩ : ∃ n : Nat, n = 1 + i := ⟨_, rfl⟩
  have en : ((1 : Int) + (i : Int)) = (n : Int) := by omega
  simp only [en]
  have n1 : 1 ≤ n := by omega
  have n6 : n ≤ most := by omega
  have rn := rgn (n := n) (by omega)
  have e0 := rg0 n
  have hs := small6 (n := n) (by omega)
  by_cases r0 : r = 0
  · subst r0
    simp [rn, e0]
    refine (Dn.orXb (l := 0) (dn_comp (k := 2 * n) nD (fun row : List (Nat × Nat) => D.lst (row.map prD)) (fun _ row => row.length = n ∧ ∀ p ∈ row, p.1 < n ∧ p.2 < n) (fun _ => rfl) (List.range n) [] (fun x hx => ⟨_, rfl, ?_⟩) (by simpa using hs)) fun v ⟨rows, ev, hrows⟩ => ?_).le ?_
    · simp [rn, e0]
      refine (Dn.bind (l := 0) (dn_comp (k := 2) nD prD (fun _ p => p.1 < n ∧ p.2 < n) (fun _ => rfl) (List.range n) [] (fun y hy => ⟨_, rfl, ?_⟩) (by simpa using hs)) fun v ⟨row, ev, hrow⟩ => ?_).le (by simp)
      · simp
        refine (Dn.bind (l := 1) (dn_drawN (n := n) n1 (by omega)) fun v ⟨a, ev, ha⟩ => ?_).le (by omega)
        subst ev
        simp
        refine (Dn.bind (l := 0) (dn_drawN (n := n) n1 (by omega)) fun v ⟨b, ev, hb⟩ => ?_).le (by omega)
        subst ev
        simp
        exact Dn.ret ⟨a, b, rfl, ha, hb⟩
      · subst ev
        simp
        refine Dn.ret ⟨row, rfl, by simpa using (prd_len hrow).symm, fun a b hp => ?_⟩
        obtain ⟨_, _, h⟩ := prd_meb hrow hp
        exact h
    · subst ev
      simp
      obtain ⟨T, hT, e⟩ := sqr_of (n := n) (rows := rows) (by simpa using (prd_len hrows).symm) (fun row hrow => by
        obtain ⟨_, _, h⟩ := prd_meb hrows hrow
        exact h)
      rw [e]
      exact Dn.ret ⟨n, T, n1, n6, hT, rfl⟩
    · simp
      have : 2 * n * n ≤ 2 * 6 * 6 := Nat.mul_le_mul (Nat.mul_le_mul (Nat.le_refl _) (by omega)) (by omega)
      omega
  have i0 : ¬ (r : Int) = 0 := by omega
  simp [r0]
  refine (Dn.orXb (l := 1900) (dn_three h1 h6) fun v ⟨m, T, m1, m6, kT, ev⟩ => ?_).le (by omega)
  subst ev
  simp
  refine (Dn.orXb (l := 1800) (dn_turnK (n := m) (by omega) kT) fun v ⟨U, kU, ev⟩ => ?_).le (by omega)
  subst ev
  simp
  by_cases r1 : r = 1
  · subst r1
    simp [sqr_len]
    refine (Dn.orXb (l := 1000) (dn_drawN (n := m) m1 (by omega)) fun v ⟨x, ev, hx⟩ => ?_).le (by omega)
    subst ev
    refine (Dn.orXb (l := 999) (dn_drawN (n := m) m1 (by omega)) fun v ⟨y, ev, hy⟩ => ?_).le (by omega)
    subst ev
    have a1 : atI (sqr m U) (x : Int) = _ := at_sqr hx
    have c1 : ∀ xs : List D, cutL xs (some ((y : Int) + 1)) none = xs.drop (y + 1) := fun xs => cut_from xs (y + 1)
    have sm := small6 (n := m) (by omega)
    simp [a1, cut_to, c1, -List.map_drop, -List.map_take]
    refine (Dn.orXb (l := 998) (dn_drawN (n := m) m1 (by omega)) fun v ⟨a, ev, ha⟩ => ?_).le (by omega)
    subst ev
    simp
    refine (Dn.orXb (l := 0) (dn_drawN (n := m) m1 (by omega)) fun v ⟨b, ev, hb⟩ => ?_).le (by omega)
    subst ev
    have l1 : min y m + 1 ≤ sizeLine := small6 (by omega)
    have l2 : min y m + 1 + (m - (y + 1)) ≤ sizeLine := small6 (by omega)
    have hx' : ixN (sqr m U).length (x : Int) = some x := by rw [sqr_len]; unfold ixN; simp [hx]
    simp [l1, l2, subX, hx', pr_eq, -Int.natCast_emod]
    obtain ⟨V, hV, e⟩ := sqr_with (y := y) (p := (a, b)) kU.sq hx hy ⟨ha, hb⟩
    rw [e]
    exact Dn.ret ⟨m, V, m1, m6, hV, rfl⟩
  · have i1 : ¬ (r : Int) = 1 := by omega
    simp [i1]
    exact (Dn.ret ⟨m, U, m1, m6, kU.sq, rfl⟩ : Dn 0 _ _).le (by omega)
end Fx
set_option Elab.async false
set_option maxRecDepth 100000
set_option linter.unusedVariables false
set_option linter.unusedSimpArgs false
/-! Names drawn; tables made. -/
namespace Fx
open PySem L2 Lw
@[simp] theorem v_slS (z : Str) (l h : Option Int) : slD (.str z) l h = if z.length ≤ sizeLine then some (.str (cutS z l h)) else none := rfl
@[simp] theorem v_ixS (z : Str) (i : Int) : ixD (.str z) (.int i) = if z.length ≤ sizeLine then (atI z.cps.toList i).map fun k => .str ⟨#[k]⟩ else none := rfl
@[simp] theorem v_addS (x y : Str) : addD (.str x) (.str y) = if x.length + y.length ≤ sizeLine then some (.str (x ++ y)) else none := rfl
theorem dn_pick {α : Type} {enc : α → D} {xs : List α} {d : D} (hq : d = .lst (xs.map enc) ∨ d = .tup (xs.map enc)) (h1 : 1 ≤ xs.length) (h2 : xs.length ≤ 1000000000) : Dn 1 (F_pick [.pen, d]) (fun r => ∃ (i : Nat) (x : α), xs[i]? = some x ∧ r = enc x) := by
  have st : d.still = true := by rcases hq with rfl | rfl <;> rfl
  have el : lenD [d] = some (.int xs.length) := by rcases hq with rfl | rfl <;> simp
  simp only [F_pick, g_pick]
  simp [el, st]
  refine (Dn.orXb (l := 0) (dn_drawN (n := xs.length) h1 h2) fun v ⟨i, ev, hi⟩ => ?_).le (by omega)
  subst ev
  have hx : xs[i]? = some xs[i] := List.getElem?_eq_getElem hi
  have a1 : atI (xs.map enc) (i : Int) = some (enc xs[i]) := at_get hx
  have e1 : ixD d (.int (i : Int)) = some (enc xs[i]) := by rcases hq with rfl | rfl <;> simp [a1]
  simp [e1]
  exact Dn.ret ⟨i, _, hx, rfl⟩
theorem az_line : AZ.length ≤ sizeLine := by rw [az_len]; exact small6 (by omega)
theorem dn_pickZ : Dn 1 (F_pick [.pen, .str AZ]) (fun r => ∃ c : Nat, Low c ∧ r = .str (one c)) := by
  simp only [F_pick, g_pick]
  simp [az_len, az_line, small6 (n := 26) (by omega)]
  refine (Dn.orXb (l := 0) (dn_drawN (n := 26) (by omega) (by omega)) fun v ⟨i, ev, hi⟩ => ?_).le (by omega)
  subst ev
  have a1 : atI AZ.cps.toList (i : Int) = some (97 + i) := az_get (by omega) (by omega)
  simp [a1, az_line]
  exact Dn.ret ⟨97 + i, ⟨by omega, by omega⟩, rfl⟩
theorem sts_map' {α : Type} (f : α → Str) (xs : List α) : D.sts (xs.map fun x => D.str (f x)) = some (xs.map f) := by
  have := sts_map (xs.map f)
  rwa [List.map_map] at this
theorem one_len (c : Nat) : (one c).length = 1 := rfl
theorem sum_ones (cs : List Nat) : ((cs.map one).map (·.length)).sum = cs.length := by
  induction cs with
  | nil => rfl
  | cons c cs ih => simp [one_len] at *; omega
def nmTail (stem : Str) (a tr k : Nat) : Str := if tr = 0 then cutS stem (some ((a : Int) + 1)) none else cutS (cutS stem (some ((a : Int) + 1)) none) none (some ((k % 3 : Nat) : Int))
def nmOf (stem : Str) (a b tr : Nat) (s : Int) (k : Nat) : Str := cutS stem none (some (a : Int)) ++ one (97 + (((b : Int) + s * (k : Int)) % 26).toNat) ++ nmTail stem a tr k
def steps12 : List Int := [1, 3, 5, 7, 9, 11, 15, 17, 19, 21, 23, 25]
theorem nmTail_ok {stem : Str} {a tr k : Nat} (ha : a < stem.length) : (∀ c ∈ (nmTail stem a tr k).cps.toList, c ∈ stem.cps.toList) ∧ (nmTail stem a tr k).length ≤ stem.length - (a + 1) := by
  have h1 : (cutS stem (some ((a : Int) + 1)) none).length ≤ stem.length - (a + 1) := cutS_from_len (k := a + 1) (by omega)
  unfold nmTail
  split
  · exact ⟨fun c hc => cutS_mem hc, h1⟩
  · refine ⟨fun c hc => cutS_mem (cutS_mem hc), ?_⟩
    have := cutS_le (cutS stem (some ((a : Int) + 1)) none) none (some ((k % 3 : Nat) : Int))
    omega
theorem nm_ok {stem : Str} {a b tr k : Nat} {s : Int} (ha : a < stem.length) (h8 : stem.length ≤ 8) (low : ∀ c ∈ stem.cps.toList, Low c) : IsName (nmOf stem a b tr s k) := by
  obtain ⟨t1, t2⟩ := nmTail_ok (tr := tr) (k := k) ha
  exact name_is (by omega) h8 low (cutS_to (by omega)) t1 t2 ⟨by omega, by omega⟩
theorem nm_ne {stem : Str} {a b tr i j : Nat} {s : Int} (hs : s ∈ steps12) (hi : i < 6) (hj : j < 6) (h : nmOf stem a b tr s i = nmOf stem a b tr s j) : i = j := by
  have := name_ne h
  have := steps_differ (b := b) hs (i := i) (j := j) ⟨by omega, by omega⟩ ⟨by omega, by omega⟩ (by omega)
  omega
/-- unlike names -/
structure Nms (n : Nat) (ms : List Str) : Prop where
  len : ms.length = n
  name : ∀ z ∈ ms, IsName z
  nd : ms.Nodup
theorem dn_names {n : Nat} (hn : n ≤ 6) : Dn 40 (F_names [.pen, .int (n : Int)]) (fun d => ∃ ms : List Str, Nms n ms ∧ d = .own (ms.map .str)) := by
  simp only [F_names, g_names]
  simp
  refine (Dn.orXb (l := 39) (dn_draw' (n := 8) (by decide) (by decide)) fun v ⟨j, ev, hj⟩ => ?_).le (by omega)
  subst ev
  obtain ⟨m, hm⟩ : ∃ m : Nat, m = 1 + j := ⟨_, rfl⟩
  have em : (1 : Int) + (j : Int) = (m : Int) := by omega
  have rm := rgn (n := m) (by omega)
  have e0 := rg0 m
  simp [em, rm, e0]
  refine (Dn.orXb (l := 30) (dn_comp (k := 1) nD (fun c : Nat => D.str (one c)) (fun _ c => Low c) (fun _ => rfl) (List.range m) [] (fun x hx => ⟨_, rfl, ?_⟩) (by simp; exact small6 (by omega))) fun v ⟨cs, ev, hcs⟩ => ?_).le (by simp; omega)
  · simp
    exact (Dn.bind (l := 0) dn_pickZ fun v ⟨c, hc, ev⟩ => by
      subst ev
      exact Dn.ret ⟨c, rfl, hc⟩).le (by omega)
  subst ev
  have hl : cs.length = m := by simpa using (prd_len hcs).symm
  have low : ∀ c ∈ cs, Low c := fun c hc => by
    obtain ⟨_, _, h⟩ := prd_meb hcs hc
    exact h
  have es : joinD (.str "") (.own (cs.map fun c => D.str (one c))) = some (.str (Txt.join (Str.ofString "") (cs.map one))) := by
    unfold joinD
    simp only [v_asQ_own, Option.bind_some, sts_map' one cs]
    have h0 : ("" : Str).length = 0 := by decide +kernel
    rw [sum_ones, if_pos (by rw [h0, List.length_map]; omega)]
  have ec : (Txt.join (Str.ofString "") (cs.map one)).cps.toList = cs := joined_ones cs
  generalize Txt.join (Str.ofString "") (cs.map one) = stem at es ec
  have sl : stem.length = m := by rw [len_list', ec, hl]
  have slow : ∀ c ∈ stem.cps.toList, Low c := by rw [ec]; exact low
  have sline := small6 (n := stem.length) (by omega)
  simp [es, sline]
  refine (Dn.orXb (l := 29) (dn_drawN (n := stem.length) (by omega) (by omega)) fun v ⟨a, ev, ha⟩ => ?_).le (by omega)
  subst ev
  refine (Dn.orXb (l := 28) (dn_draw' (n := 26) (by decide) (by decide)) fun v ⟨b, ev, hb⟩ => ?_).le (by omega)
  subst ev
  refine (Dn.orXb (l := 27) (dn_draw' (n := 2) (by decide) (by decide)) fun v ⟨tr, ev, htr⟩ => ?_).le (by omega)
  subst ev
  simp
  refine (Dn.orXb (l := 0) (dn_pick (enc := D.int) (xs := steps12) (.inl rfl) (by decide) (by decide)) fun v ⟨si, s, hs, ev⟩ => ?_).le (by omega)
  subst ev
  have smem : s ∈ steps12 := List.mem_of_getElem? hs
  have slo : 1 ≤ s ∧ s ≤ 25 := by
    unfold steps12 at smem
    simp only [List.mem_cons, List.not_mem_nil, or_false] at smem
    omega
  have rn := rgn (n := n) (by omega)
  have en := rg0 n
  simp [rn, en]
  refine (Dn.loopC (k := 0) (l := 0) ((dn_for' (k := 0) (R := fun _ => False) nD (List.range n) (fun i ρ => ∃ x9 x10, ρ = [some .pen, some (nD n), some (.str (Str.ofString "abcdefghijklmnopqrstuvwxyz")), some (.str stem), some (nD a), some (nD b), some (nD tr), some (.int s), some (.own ((List.range i).map fun k => .str (nmOf stem a b tr s k))), x9, x10]) _ ⟨none, none, rfl⟩ ?_).le (by simp)) ?_)
  · rintro i k ρ hk ⟨x9, x10, rfl⟩
    obtain ⟨hi, rfl⟩ := range_at hk
    refine ⟨_, rfl, ?_⟩
    have cm : CMulW s (k : Int) := cmul (by omega) (by omega)
    have fm : ((b : Int) + s * (k : Int)).fmod 26 = ((b : Int) + s * (k : Int)) % 26 := Int.fmod_eq_emod_of_nonneg _ (by decide)
    have al : atI (Str.ofString "abcdefghijklmnopqrstuvwxyz").cps.toList (((b : Int) + s * (k : Int)) % 26) = some (97 + (((b : Int) + s * (k : Int)) % 26).toNat) := az_get (by omega) (by omega)
    have azl : (Str.ofString "abcdefghijklmnopqrstuvwxyz").length ≤ sizeLine := az_line
    have t3 : ((k : Int)).fmod 3 = ((k % 3 : Nat) : Int) := fmod_nn k 3
    obtain ⟨t1, t2⟩ := nmTail_ok (tr := tr) (k := k) ha
    have q1 : (cutS stem (some ((a : Int) + 1)) none).length ≤ sizeLine := by
      have : (cutS stem (some ((a : Int) + 1)) none).length ≤ stem.length - (a + 1) := cutS_from_len (k := a + 1) (by omega)
      exact small6 (by omega)
    have q2 : (cutS stem none (some (a : Int))).length + 1 ≤ sizeLine := by
      have := cutS_le stem none (some (a : Int))
      exact small6 (by omega)
    have q3 : (cutS stem none (some (a : Int)) ++ one (97 + (((b : Int) + s * (k : Int)) % 26).toNat)).length + (nmTail stem a tr k).length ≤ sizeLine := by
      have := cutS_le stem none (some (a : Int))
      rw [Str.length_append, one_len]
      exact small6 (by omega)
    have ks : k < sizeLine := Nat.lt_of_lt_of_le (by omega : k < 1000) (small6 (by omega))
    have ol : ∀ c : Nat, (⟨#[c]⟩ : Str).length = 1 := fun _ => rfl
    by_cases t0 : tr = 0
    · have nt : nmTail stem a tr k = cutS stem (some ((a : Int) + 1)) none := by
        unfold nmTail
        rw [if_pos t0]
      rw [nt] at q3
      simp [cm, fm, al, azl, t3, q1, q2, q3, ol, sline, ks, t0, -Int.natCast_emod]
      subst t0
      exact Dn.ret ⟨_, _, by simp only [List.range_succ, List.map_append, List.map_cons, List.map_nil, nmOf, nt]; rfl⟩
    · have nt : nmTail stem a tr k = cutS (cutS stem (some ((a : Int) + 1)) none) none (some ((k % 3 : Nat) : Int)) := by
        unfold nmTail
        rw [if_neg t0]
      rw [nt] at q3
      simp [cm, fm, al, azl, t3, q1, q2, q3, ol, sline, ks, t0, -Int.natCast_emod]
      exact Dn.ret ⟨_, _, by simp only [List.range_succ, List.map_append, List.map_cons, List.map_nil, nmOf, nt]; rfl⟩
  · rintro ρ ⟨x9, x10, rfl⟩
    simp
    refine Dn.ret ⟨(List.range n).map (nmOf stem a b tr s), ⟨by simp, fun z hz => ?_, ?_⟩, by simp⟩
    · obtain ⟨k, _, rfl⟩ := List.mem_map.mp hz
      exact nm_ok ha (by omega) slow
    · refine List.nodup_iff_pairwise_ne.mpr ?_
      refine List.pairwise_map.mpr ?_
      refine (List.nodup_iff_pairwise_ne.mp List.nodup_range).imp_of_mem fun hx hy hne e => hne (nm_ne smem ?_ ?_ e)
      · have := List.mem_range.mp hx
        omega
      · have := List.mem_range.mp hy
        omega
/-- what a law draws: names, a square of pairs -/
abbrev rawD (ms : List Str) (n : Nat) (T : Tb) : D := .tup [.lst (ms.map .str), .lst (sqr n T)]
@[simp] theorem still_raw (ms : List Str) (n : Nat) (T : Tb) : (rawD ms n T).still = true := rfl
@[simp] theorem lock_raw (ms : List Str) (n : Nat) (T : Tb) : lockD (rawD ms n T) = rawD ms n T := rfl
@[simp] theorem ix_raw0 (ms : List Str) (n : Nat) (T : Tb) : ixD (rawD ms n T) (.int 0) = some (.lst (ms.map .str)) := rfl
@[simp] theorem ix_raw1 (ms : List Str) (n : Nat) (T : Tb) : ixD (rawD ms n T) (.int 1) = some (.lst (sqr n T)) := rfl
theorem dn_raw {n : Nat} {T : Tb} (hn : n ≤ 6) : Dn 40 (F_raw [.pen, .lst (sqr n T)]) (fun d => ∃ ms, Nms n ms ∧ d = rawD ms n T) := by
  simp only [F_raw, g_raw]
  simp [sqr_len]
  refine (Dn.orXb (l := 0) (dn_names hn) fun v ⟨ms, hm, ev⟩ => ?_).le (by omega)
  subst ev
  simp
  exact Dn.ret ⟨ms, hm, rfl⟩
def RawA (d : D) : Prop := ∃ n T ms, 1 ≤ n ∧ n ≤ 6 ∧ Sq n T ∧ Nms n ms ∧ d = rawD ms n T
def RawK (s t : Bool) (d : D) : Prop := ∃ n T ms, 1 ≤ n ∧ n ≤ 6 ∧ Kd n T s t ∧ Nms n ms ∧ d = rawD ms n T
theorem dn_any_raw : Dn 10000 (F_any_raw [.pen]) RawA := by
  simp only [F_any_raw, g_any_raw]
  simp
  refine (Dn.orXb (l := 40) (dn_any (most := 6) (by decide) (by decide)) fun v ⟨n, T, h1, h6, hT, ev⟩ => ?_).le (by omega)
  subst ev
  simp
  refine (Dn.orXb (l := 0) (dn_raw h6) fun v ⟨ms, hm, ev⟩ => ?_).le (by omega)
  subst ev
  simp
  exact Dn.ret ⟨n, T, ms, h1, h6, hT, hm, rfl⟩
theorem dn_three_raw : Dn 10000 (F_three_raw [.pen]) (RawK false false) := by
  simp only [F_three_raw, g_three_raw]
  simp
  refine (Dn.orXb (l := 2000) (dn_three (most := 6) (by decide) (by decide)) fun v ⟨n, T, h1, h6, kT, ev⟩ => ?_).le (by omega)
  subst ev
  simp
  refine (Dn.orXb (l := 40) (dn_turnK (n := n) (by omega) kT) fun v ⟨U, kU, ev⟩ => ?_).le (by omega)
  subst ev
  simp
  refine (Dn.orXb (l := 0) (dn_raw h6) fun v ⟨ms, hm, ev⟩ => ?_).le (by omega)
  subst ev
  simp
  exact Dn.ret ⟨n, U, ms, h1, h6, kU, hm, rfl⟩
/-! the table -/
def mkS (ms : List Str) (k : Nat) : Str := ms.getD k Str.empty
def tabP (ms : List Str) (n : Nat) (T : Tb) : List (List (Str × Str)) := (List.range n).map fun x => (List.range n).map fun y => (mkS ms (T x y).1, mkS ms (T x y).2)
theorem mk_at {n k : Nat} {ms : List Str} (h : ms.length = n) (hk : k < n) : ms[k]? = some (mkS ms k) := by
  unfold mkS
  rw [List.getD_eq_getElem?_getD, List.getElem?_eq_getElem (by omega)]
  rfl
theorem at_mk {n k : Nat} {ms : List Str} (h : ms.length = n) (hk : k < n) : atI (ms.map D.str) (k : Int) = some (.str (mkS ms k)) := at_get (mk_at h hk)
theorem mk_mem {n k : Nat} {ms : List Str} (h : ms.length = n) (hk : k < n) : mkS ms k ∈ ms := List.mem_of_getElem? (mk_at h hk)
theorem many_of {α β : Type} (f : D → Option β) (g : α → D) (h : α → β) : ∀ xs : List α, (∀ x ∈ xs, f (g x) = some (h x)) → manyOf f (xs.map g) = some (xs.map h)
  | [], _ => rfl
  | x :: xs, hs => by
    have ih := many_of f g h xs fun y hy => hs y (by simp [hy])
    simp [manyOf, hs x (by simp), ih]
theorem marks_of {n : Nat} {ms : List Str} (h : Nms n ms) (h1 : 1 ≤ n) (h6 : n ≤ 6) : marksOf (.lst (ms.map .str)) = some ms := by
  unfold marksOf
  have hl := h.len
  simp only [lockL, Option.bind_some, sts_map]
  rw [if_pos ⟨by omega, by omega, h.name, h.nd⟩]
theorem p_made {n : Nat} {ms : List Str} {T : Tb} (h : Nms n ms) (h1 : 1 ≤ n) (h6 : n ≤ 6) (hT : Sq n T) : F_made [rawD ms n T] = M.ret (.tbl ms (tabP ms n T)) := by
  have hs := small6 (n := n) (by omega)
  have hl := h.len
  simp only [F_made, g_made]
  simp [rawD]
  have c : ∀ ρ : Env, compF (.name 3) cYes (eLock (eComp (iA (eVar 3)) (.tup [.name 4, .name 5]) cYes (eTup (aCons (eOp ixD (eVar 1) (eVar 4)) (aCons (eOp ixD (eVar 1) (eVar 5)) aNil))) [4, 5]))
      [some (.tup [.lst (ms.map .str), .lst (sqr n T)]), some (.lst (ms.map .str)), some (.lst (sqr n T)), none, none, none] (sqr n T) [] = M.ret (.own ((List.range n).map fun x => .lst ((List.range n).map fun y => pairD (mkS ms (T x y).1, mkS ms (T x y).2)))) := fun _ => by
    have := comp_eq (t := .name 3) (elt := eLock (eComp (iA (eVar 3)) (.tup [.name 4, .name 5]) cYes (eTup (aCons (eOp ixD (eVar 1) (eVar 4)) (aCons (eOp ixD (eVar 1) (eVar 5)) aNil))) [4, 5]))
      (ρ0 := [some (.tup [.lst (ms.map .str), .lst (sqr n T)]), some (.lst (ms.map .str)), some (.lst (sqr n T)), none, none, none])
      (fun x => .lst ((List.range n).map fun y => prD (T x y))) (fun x => .lst ((List.range n).map fun y => pairD (mkS ms (T x y).1, mkS ms (T x y).2))) (List.range n) [] (fun x hx => ⟨_, rfl, by
        have hx := List.mem_range.mp hx
        simp
        rw [comp_eq (fun y => prD (T x y)) (fun y => pairD (mkS ms (T x y).1, mkS ms (T x y).2)) (List.range n) [] (fun y hy => ⟨_, rfl, by
          have hy := List.mem_range.mp hy
          obtain ⟨t1, t2⟩ := hT x y hx hy
          simp [at_mk hl t1, at_mk hl t2, pairD], rfl⟩) (by simp; exact hs)]
        simp, rfl⟩) (by simp; exact hs)
    simpa [sqr] using this
  simp [c []]
  have e1 := marks_of h h1 h6
  have e2 : pairsOf ms (.lst ((List.range n).map fun x => .lst ((List.range n).map fun y => pairD (mkS ms (T x y).1, mkS ms (T x y).2)))) = some (tabP ms n T) := by
    unfold pairsOf
    simp only [v_lkL, Option.bind_some, List.length_map, List.length_range]
    rw [if_pos hl.symm]
    refine many_of _ _ _ _ fun x hx => ?_
    have hx := List.mem_range.mp hx
    unfold lineOf
    simp only [v_lkL, Option.bind_some, List.length_map, List.length_range]
    rw [if_pos hl.symm]
    refine many_of _ _ _ _ fun y hy => ?_
    have hy := List.mem_range.mp hy
    obtain ⟨t1, t2⟩ := hT x y hx hy
    have m1 := mk_mem hl t1
    have m2 := mk_mem hl t2
    simp [pairOf, pairD, m1, m2]
  simp [tableG, e1, e2]
end Fx
set_option Elab.async false
set_option maxRecDepth 100000
set_option linter.unusedVariables false
set_option linter.unusedSimpArgs false
/-! Rows by tables. -/
namespace Fx
open PySem L2 Lw
theorem numD_map {α : Type} (f : α → D) : ∀ (xs : List α) (n : Nat), numD n (xs.map f) = (xs.zipIdx n).map fun p => .wtup [nD p.2, f p.1]
  | [], _ => rfl
  | x :: xs, n => by
    have ih := numD_map f xs (n + 1)
    simp [numD, List.zipIdx_cons, ih]
theorem for_enum {α : Type} {t : Tg} {b : Sx} {f : α → D} {xs : List α} {ρ : Env} (S : Nat → Env) (h0 : ρ = S 0) (h : ∀ i x, xs[i]? = some x → ∃ ρ1, t.bind (.wtup [nD i, f x]) (S i) = some ρ1 ∧ (b ρ1 = M.ret (.nx (S (i + 1))) ∨ b ρ1 = M.ret (.ct (S (i + 1))))) : forF t b (numD 0 (xs.map f)) ρ = M.ret (.nx (S xs.length)) := by
  have key := for_eq (t := t) (b := b) (fun p : α × Nat => .wtup [nD p.2, f p.1]) (xs.zipIdx 0) S fun i p hp => by
    rw [List.getElem?_zipIdx] at hp
    cases e : xs[i]? with
    | none => rw [e] at hp; cases hp
    | some x =>
      rw [e] at hp
      cases hp
      simpa using h i x e
  rw [h0, numD_map]
  simpa using key
theorem dn_enum {α : Type} {t : Tg} {b : Sx} {k : Nat} {R : D → Prop} (f : α → D) (xs : List α) (I : Nat → Env → Prop) (ρ : Env) (h0 : I 0 ρ) (hs : ∀ i x ρ, xs[i]? = some x → I i ρ → ∃ ρ1, t.bind (.wtup [nD i, f x]) ρ = some ρ1 ∧ Dn k (b ρ1) (Fl.nxt (I (i + 1)) R)) :
    Dn (k * xs.length) (forF t b (numD 0 (xs.map f)) ρ) (Fl.out (I xs.length) R) := by
  have key := dn_for' (t := t) (b := b) (k := k) (R := R) (fun p : α × Nat => .wtup [nD p.2, f p.1]) (xs.zipIdx 0) I ρ h0 fun i p ρ hp hI => by
    rw [List.getElem?_zipIdx] at hp
    cases e : xs[i]? with
    | none => rw [e] at hp; cases hp
    | some x =>
      rw [e] at hp
      cases hp
      simpa using hs i x ρ e hI
  rw [numD_map]
  simpa using key
/-- a row of marks by their numbers -/
abbrev sm (ms : List Str) (k : Nat) : D := .str (mkS ms k)
@[simp] theorem still_sm (ms : List Str) (k : Nat) : (sm ms k).still = true := rfl
@[simp] theorem lock_sm (ms : List Str) (k : Nat) : lockD (sm ms k) = sm ms k := rfl
def rowL (ms : List Str) (xs : List Nat) : List D := xs.map (sm ms)
@[simp] theorem rowL_len (ms : List Str) (xs : List Nat) : (rowL ms xs).length = xs.length := by simp [rowL]
@[simp] theorem rowL_app (ms : List Str) (xs ys : List Nat) : rowL ms xs ++ rowL ms ys = rowL ms (xs ++ ys) := by simp [rowL]
@[simp] theorem rowL_cons (ms : List Str) (x : Nat) (xs : List Nat) : sm ms x :: rowL ms xs = rowL ms (x :: xs) := rfl
theorem rowL_nil (ms : List Str) : rowL ms [] = [] := rfl
theorem rowL_one (ms : List Str) (x : Nat) : [sm ms x] = rowL ms [x] := rfl
theorem rowL_two (ms : List Str) (x y : Nat) : [sm ms x, sm ms y] = rowL ms [x, y] := rfl
@[simp] theorem rowL_snoc (ms : List Str) (xs : List Nat) (x : Nat) : rowL ms xs ++ [sm ms x] = rowL ms (xs ++ [x]) := by simp [rowL]
@[simp] theorem rowL_snoc2 (ms : List Str) (xs : List Nat) (x y : Nat) : rowL ms xs ++ [sm ms x, sm ms y] = rowL ms (xs ++ [x, y]) := by simp [rowL]
theorem for_row {t : Tg} {b : Sx} {ms : List Str} {xs : List Nat} {ρ : Env} (S : Nat → Env) (h0 : ρ = S 0) (h : ∀ i x, xs[i]? = some x → ∃ ρ1, t.bind (sm ms x) (S i) = some ρ1 ∧ (b ρ1 = M.ret (.nx (S (i + 1))) ∨ b ρ1 = M.ret (.ct (S (i + 1))))) : forF t b (rowL ms xs) ρ = M.ret (.nx (S xs.length)) := for_eqR (enc := sm ms) S h0 h
theorem for_rowE {t : Tg} {b : Sx} {ms : List Str} {xs : List Nat} {ρ : Env} (S : Nat → Env) (h0 : ρ = S 0) (h : ∀ i x, xs[i]? = some x → ∃ ρ1, t.bind (.wtup [nD i, sm ms x]) (S i) = some ρ1 ∧ (b ρ1 = M.ret (.nx (S (i + 1))) ∨ b ρ1 = M.ret (.ct (S (i + 1))))) : forF t b (numD 0 (rowL ms xs)) ρ = M.ret (.nx (S xs.length)) := for_enum (f := sm ms) S h0 h
@[simp] theorem rowL_rev (ms : List Str) (xs : List Nat) : (rowL ms xs).reverse = rowL ms xs.reverse := by simp [rowL]
@[simp] theorem rowL_to (ms : List Str) (xs : List Nat) (k : Nat) : cutL (rowL ms xs) none (some (k : Int)) = rowL ms (xs.take k) := by rw [cut_to]; simp [rowL]
@[simp] theorem rowL_from (ms : List Str) (xs : List Nat) (k : Nat) : cutL (rowL ms xs) (some (k : Int)) none = rowL ms (xs.drop k) := by rw [cut_from]; simp [rowL]
@[simp] theorem rowL_from1 (ms : List Str) (xs : List Nat) (k : Nat) : cutL (rowL ms xs) (some ((k : Int) + 1)) none = rowL ms (xs.drop (k + 1)) := rowL_from ms xs (k + 1)
@[simp] theorem rowL_from2 (ms : List Str) (xs : List Nat) (k : Nat) : cutL (rowL ms xs) (some ((k : Int) + 2)) none = rowL ms (xs.drop (k + 2)) := rowL_from ms xs (k + 2)
@[simp] theorem rowL_fromI (ms : List Str) (xs : List Nat) : cutL (rowL ms xs) (some 1) none = rowL ms (xs.drop 1) := rowL_from ms xs 1
@[simp] theorem rowL_toI (ms : List Str) (xs : List Nat) : cutL (rowL ms xs) none (some 1) = rowL ms (xs.take 1) := rowL_to ms xs 1
theorem rowL_at {ms : List Str} {xs : List Nat} {k x : Nat} (h : xs[k]? = some x) : atI (rowL ms xs) (k : Int) = some (sm ms x) := at_get h
abbrev rowD (ms : List Str) (xs : List Nat) : D := .tup (rowL ms xs)
/-- a drawn table, its names -/
structure Tab (n : Nat) (T : Tb) (ms : List Str) : Prop where
  n1 : 1 ≤ n
  n6 : n ≤ 6
  sq : Sq n T
  nm : Nms n ms
section
variable {n : Nat} {T : Tb} {ms : List Str}
theorem Tab.idx (t : Tab n T ms) {x : Nat} (h : x < n) : idxD (ms.map .str) (sm ms x) = some (nD x) := by
  have m := mk_mem t.nm.len h
  have hx := mk_at t.nm.len h
  unfold idxD sm
  simp only [sts_map, Option.bind_some]
  rw [if_pos m]
  have : ms.idxOf (mkS ms x) = x := idxOf_of hx fun j hj e => by
    have hj' : j < ms.length := by have := t.nm.len; omega
    have hx' : x < ms.length := by have := t.nm.len; omega
    have e1 := (List.getElem?_eq_some_iff.mp e).2
    have e2 := (List.getElem?_eq_some_iff.mp hx).2
    have := (List.getElem_inj t.nm.nd).mp (e1.trans e2.symm)
    omega
  rw [this]
theorem Tab.inj (t : Tab n T ms) {x y : Nat} (hx : x < n) (hy : y < n) (e : mkS ms x = mkS ms y) : x = y := by
  have hx' := mk_at t.nm.len hx
  have hy' := mk_at t.nm.len hy
  have l := t.nm.len
  rw [← e] at hy'
  have e1 := (List.getElem?_eq_some_iff.mp hx').2
  have e2 := (List.getElem?_eq_some_iff.mp hy').2
  exact (List.getElem_inj (h₀ := by omega) (h₁ := by omega) t.nm.nd).mp (e1.trans e2.symm)
theorem Tab.mem (t : Tab n T ms) {x : Nat} (h : x < n) : inB (sm ms x) (.tup (ms.map .str)) = some true := by
  have := mk_mem t.nm.len h
  simp [inB, D.asQ, sm, D.fl, fls_strs, inV_str, this]
theorem Tab.memL (t : Tab n T ms) {x : Nat} (h : x < n) : inB (sm ms x) (.lst (ms.map .str)) = some true := by
  have := mk_mem t.nm.len h
  simp [inB, D.asQ, sm, D.fl, fls_strs, inV_str, this]
theorem Tab.memO (t : Tab n T ms) {x : Nat} (h : x < n) : inB (sm ms x) (.own (ms.map .str)) = some true := by
  have := mk_mem t.nm.len h
  simp [inB, D.asQ, sm, D.fl, fls_strs, inV_str, this]
@[simp] theorem u_fldM (ms : List Str) (pss : List (List (Str × Str))) : fldM (.tbl ms pss) = some (.tup (ms.map .str)) := rfl
@[simp] theorem u_fldP (ms : List Str) (n : Nat) (T : Tb) : fldP (.tbl ms (tabP ms n T)) = some (.tup ((List.range n).map fun x => .tup ((List.range n).map fun y => .tup [sm ms (T x y).1, sm ms (T x y).2]))) := by
  simp [fldP, pairsD, lineD, tabP, pairD, sm, Function.comp_def]
theorem at_rows {α : Type} {f : Nat → D} {n k : Nat} (h : k < n) : atI ((List.range n).map f) (k : Int) = some (f k) := at_map (α := α) h
theorem Tab.passed (t : Tab n T ms) {x y : Nat} (hx : x < n) (hy : y < n) : F_Table_passed [D.tbl ms (tabP ms n T), sm ms x, sm ms y] = M.ret (.tup [sm ms (T x y).1, sm ms (T x y).2]) := by
  simp only [F_Table_passed, g_Table_passed]
  simp
  have L : ∀ ρ : Env, forF (.name 3) (sIf (tst (eOp notInD (eVar 3) (eUn fldM (eVar 0)))) (fun _ => M.lift none) sNil) [sm ms x, sm ms y] [some (.tbl ms (tabP ms n T)), some (sm ms x), some (sm ms y), none] = M.ret (.nx [some (.tbl ms (tabP ms n T)), some (sm ms x), some (sm ms y), some (sm ms y)]) := fun _ => by
    simp [for_cons, for_nil, Tg.bind, notInD, t.mem hx, t.mem hy]
  rw [L []]
  simp [t.idx hx, t.idx hy, at_rows (α := Nat) hx, at_rows (α := Nat) hy]
theorem p_marks : F_Table_marks [D.tbl ms (tabP ms n T)] = M.ret (.own (ms.map .str)) := by
  simp [F_Table_marks, g_Table_marks]
theorem row_q {d : D} {xs : List Nat} (h : lockedQ d = some (rowL ms xs)) : d = .lst (rowL ms xs) ∨ d = .tup (rowL ms xs) := lockQ h
theorem Tab.row_fault (t : Tab n T ms) {d : D} {xs : List Nat} (hq : lockedQ d = some (rowL ms xs)) (hx : ∀ x ∈ xs, x < n) (h1 : 1 ≤ xs.length) (h60 : xs.length ≤ 60) : F_row_fault [.tbl ms (tabP ms n T), d] = M.ret .non := by
  have st := still_of hq
  have e1 : F_is_listing [d] = M.ret (.bl true) := by rcases lockQ hq with rfl | rfl <;> simp
  have e2 : lenD [d] = some (.int xs.length) := by rcases lockQ hq with rfl | rfl <;> simp
  have a1 : (1 : Int) ≤ xs.length := by omega
  have a2 : ¬ (60 : Int) < xs.length := by omega
  simp only [F_row_fault, g_row_fault]
  simp [st, e1, e2, a1, a2, p_marks, hq]
  let S : Nat → Env := fun i => [some (.tbl ms (tabP ms n T)), some d, some (.own (ms.map .str)), past nD i, past (fun i => sm ms (xs.getD i 0)) i]
  rw [for_rowE S (by rfl) (fun i x hi => ?_)]
  · simp [S]
  · have hxn := hx x (List.mem_of_getElem? hi)
    have eg : xs.getD i 0 = x := by rw [List.getD_eq_getElem?_getD, hi]; rfl
    refine ⟨_, rfl, .inl ?_⟩
    simp [S, notInD, t.memO hxn, past, hi]
theorem Tab.row_taken (t : Tab n T ms) {d : D} {xs : List Nat} (hq : lockedQ d = some (rowL ms xs)) (hx : ∀ x ∈ xs, x < n) (h1 : 1 ≤ xs.length) (h60 : xs.length ≤ 60) : F_row_taken [.tbl ms (tabP ms n T), d] = M.ret (rowD ms xs) := by
  have st := still_of hq
  have e3 : tupleD [d] = some (rowD ms xs) := by rcases lockQ hq with rfl | rfl <;> simp
  simp only [F_row_taken, g_row_taken]
  simp [st, t.row_fault hq hx h1 h60, e3]
theorem Tab.mark_taken (t : Tab n T ms) {x : Nat} (hx : x < n) : F_mark_taken [.tbl ms (tabP ms n T), sm ms x] = M.ret (sm ms x) := by
  simp only [F_mark_taken, g_mark_taken]
  simp [p_marks, notInD, t.memO hx]
theorem p_number {i a b : Int} (h : a ≤ i) (h' : i ≤ b) : F_is_number [.int i, .int a, .int b] = M.ret (.bl true) := by
  simp only [F_is_number, g_is_number]
  simp [h, h']
theorem p_word_fault {d : D} {m : Nat} {ws : List Nat} (hq : lockedQ d = some (ws.map nD)) (hw : ∀ w ∈ ws, w + 1 < m) (hl : ws.length ≤ 2000) : F_word_fault [.int (m : Int), d] = M.ret .non := by
  have st := still_of hq
  have e1 : F_is_listing [d] = M.ret (.bl true) := by rcases lockQ hq with rfl | rfl <;> simp
  have e2 : lenD [d] = some (.int ws.length) := by rcases lockQ hq with rfl | rfl <;> simp
  have a2 : ¬ (2000 : Int) < ws.length := by omega
  simp only [F_word_fault, g_word_fault]
  simp [st, e1, e2, a2, hq]
  let S : Nat → Env := fun i => [some (.int (m : Int)), some d, past nD i, past (fun i => nD (ws.getD i 0)) i]
  rw [for_enum S (by rfl) (fun i x hi => ?_)]
  · simp [S]
  · have hwm := hw x (List.mem_of_getElem? hi)
    have eg : ws.getD i 0 = x := by rw [List.getD_eq_getElem?_getD, hi]; rfl
    refine ⟨_, rfl, .inl ?_⟩
    have e3 : F_is_number [nD x, .int 0, .int ((m : Int) - 2)] = M.ret (.bl true) := p_number (by omega) (by omega)
    simp [S, e3, past, hi]
theorem p_word_taken {d : D} {m : Nat} {ws : List Nat} (hq : lockedQ d = some (ws.map nD)) (hw : ∀ w ∈ ws, w + 1 < m) (hl : ws.length ≤ 2000) : F_word_taken [.int (m : Int), d] = M.ret (.tup (ws.map nD)) := by
  have st := still_of hq
  have e3 : tupleD [d] = some (.tup (ws.map nD)) := by rcases lockQ hq with rfl | rfl <;> simp
  simp only [F_word_taken, g_word_taken]
  simp [st, p_word_fault hq hw hl, e3]
/-! passes -/
def gx (xs : List Nat) (k : Nat) : Nat := xs.getD k 0
def pass (T : Tb) (xs : List Nat) (k : Nat) : List Nat := xs.take k ++ [(T (gx xs k) (gx xs (k + 1))).1, (T (gx xs k) (gx xs (k + 1))).2] ++ xs.drop (k + 2)
theorem gx_at {xs : List Nat} {k : Nat} (h : k < xs.length) : xs[k]? = some (gx xs k) := getD_of h
theorem pass_len {T : Tb} {xs : List Nat} {k : Nat} (h : k + 1 < xs.length) : (pass T xs k).length = xs.length := by
  simp [pass]
  omega
theorem pass_lt {n : Nat} {T : Tb} {xs : List Nat} {k : Nat} (hT : Sq n T) (hx : ∀ x ∈ xs, x < n) (h : k + 1 < xs.length) : ∀ x ∈ pass T xs k, x < n := fun x hm => by
  have g1 := hx _ (List.mem_of_getElem? (gx_at (show k < xs.length by omega)))
  have g2 := hx _ (List.mem_of_getElem? (gx_at h))
  obtain ⟨t1, t2⟩ := hT _ _ g1 g2
  unfold pass at hm
  rcases List.mem_append.mp hm with hm | hm
  · rcases List.mem_append.mp hm with hm | hm
    · exact hx x (List.mem_of_mem_take hm)
    · rcases List.mem_cons.mp hm with rfl | hm
      · exact t1
      · rw [List.mem_singleton.mp hm]; exact t2
  · exact hx x (List.mem_of_mem_drop hm)
theorem Tab.pass_done (t : Tab n T ms) {xs : List Nat} {k : Nat} (hx : ∀ x ∈ xs, x < n) (hk : k + 1 < xs.length) (hl : xs.length ≤ 1000) : F_pass_done [.tbl ms (tabP ms n T), rowD ms xs, nD k] = M.ret (rowD ms (pass T xs k)) := by
  have h0 : k < xs.length := by omega
  have g1 := hx _ (List.mem_of_getElem? (gx_at h0))
  have g2 := hx _ (List.mem_of_getElem? (gx_at hk))
  have a1 : atI (rowL ms xs) (k : Int) = some (sm ms (gx xs k)) := rowL_at (gx_at h0)
  have a2 : atI (rowL ms xs) ((k : Int) + 1) = some (sm ms (gx xs (k + 1))) := rowL_at (gx_at hk)
  have l1 : min k xs.length + 2 ≤ sizeLine := small6 (by omega)
  have l2 : min k xs.length + 2 + (xs.length - (k + 2)) ≤ sizeLine := small6 (by omega)
  simp only [F_pass_done, g_pass_done]
  simp [a1, a2, t.passed g1 g2, l1, l2, pass]
def run (T : Tb) (xs : List Nat) (ws : List Nat) : List Nat := ws.foldl (pass T) xs
theorem run_len {T : Tb} : ∀ {ws xs : List Nat}, (∀ w ∈ ws, w + 1 < xs.length) → (run T xs ws).length = xs.length
  | [], xs, _ => rfl
  | w :: ws, xs, h => by
    have h1 := pass_len (T := T) (h w (by simp))
    show (run T (pass T xs w) ws).length = _
    rw [run_len (fun v hv => by rw [h1]; exact h v (by simp [hv])), h1]
theorem run_lt {n : Nat} {T : Tb} (hT : Sq n T) : ∀ {ws xs : List Nat}, (∀ x ∈ xs, x < n) → (∀ w ∈ ws, w + 1 < xs.length) → ∀ x ∈ run T xs ws, x < n
  | [], xs, hx, _ => hx
  | w :: ws, xs, hx, h => by
    have h1 := pass_len (T := T) (h w (by simp))
    show ∀ x ∈ run T (pass T xs w) ws, x < n
    exact run_lt hT (pass_lt hT hx (h w (by simp))) fun v hv => by rw [h1]; exact h v (by simp [hv])
theorem run_snoc {T : Tb} (xs ws : List Nat) (w : Nat) : run T xs (ws ++ [w]) = pass T (run T xs ws) w := by simp [run, List.foldl_append]
theorem run_app {T : Tb} (xs ws vs : List Nat) : run T xs (ws ++ vs) = run T (run T xs ws) vs := by simp [run, List.foldl_append]
theorem Tab.rows_on (t : Tab n T ms) {d e : D} {xs ws : List Nat} (hq : lockedQ d = some (rowL ms xs)) (hx : ∀ x ∈ xs, x < n) (h1 : 1 ≤ xs.length) (h60 : xs.length ≤ 60) (hqw : lockedQ e = some (ws.map nD)) (hw : ∀ w ∈ ws, w + 1 < xs.length) (hl : ws.length ≤ 2000) :
    F_rows_on [.tbl ms (tabP ms n T), d, e] = M.ret (.own ((List.range (ws.length + 1)).map fun i => rowD ms (run T xs (ws.take i)))) := by
  have st := still_of hq
  have stw := still_of hqw
  have e2 : lenD [d] = some (.int xs.length) := by rcases lockQ hq with rfl | rfl <;> simp
  simp only [F_rows_on, g_rows_on]
  simp [st, stw, e2, t.row_taken hq hx h1 h60, p_word_taken hqw hw hl]
  let S : Nat → Env := fun i => [some (.tbl ms (tabP ms n T)), some d, some e, some (.own ((List.range (i + 1)).map fun i => rowD ms (run T xs (ws.take i)))), past (fun i => nD (ws.getD i 0)) i]
  rw [for_eqR S (by simp [S, past, run]) (fun i w hi => ?_)]
  · simp [S]
  · have hww := hw w (List.mem_of_getElem? hi)
    have htk : ∀ v ∈ ws.take i, v + 1 < xs.length := fun v hv => hw v (List.mem_of_mem_take hv)
    have rl := run_len (T := T) htk
    have rlt := run_lt t.sq hx htk
    have hil : i < ws.length := (List.getElem?_eq_some_iff.mp hi).1
    have al : atI ((List.range (i + 1)).map fun i => rowD ms (run T xs (ws.take i))) (-1) = some (rowD ms (run T xs (ws.take i))) := by
      rw [List.range_succ, List.map_append]
      exact at_last _ _
    have pd := t.pass_done rlt (k := w) (by omega) (by omega)
    have tk : run T xs (ws.take (i + 1)) = pass T (run T xs (ws.take i)) w := by
      rw [take_snoc hi, run_snoc]
    have sz : i + 1 < sizeLine := Nat.lt_of_lt_of_le (by omega : i + 1 < 2002) (by decide)
    refine ⟨_, rfl, .inl ?_⟩
    have es : S i = [some (.tbl ms (tabP ms n T)), some d, some e, some (.own ((List.range (i + 1)).map fun i => rowD ms (run T xs (ws.take i)))), past (fun i => nD (ws.getD i 0)) i] := rfl
    rw [es]
    simp only [u_sOn, u_setVs, u_setV0, u_getVs, u_getV0, u_eLock, u_eCall, u_aCons, u_aNil, u_eVar, u_eOp, u_eUn, u_eC, lift_some, ret_bind, v_neg, v_ixO, al, pd, v_stills_cons, v_stills_nil, v_st_tbl, v_st_tup, v_st_int, Bool.and_true, Bool.and_self, if_true]
    simp [sz, S, past, hi, tk, List.range_succ (n := i + 1)]
theorem Tab.row_behind (t : Tab n T ms) {d e : D} {xs ws : List Nat} (hq : lockedQ d = some (rowL ms xs)) (hx : ∀ x ∈ xs, x < n) (h1 : 1 ≤ xs.length) (h60 : xs.length ≤ 60) (hqw : lockedQ e = some (ws.map nD)) (hw : ∀ w ∈ ws, w + 1 < xs.length) (hl : ws.length ≤ 2000) :
    F_row_behind [.tbl ms (tabP ms n T), d, e] = M.ret (rowD ms (run T xs ws)) := by
  have st := still_of hq
  have stw := still_of hqw
  have al : atI ((List.range (ws.length + 1)).map fun i => rowD ms (run T xs (ws.take i))) (-1) = some (rowD ms (run T xs ws)) := by
    rw [List.range_succ, List.map_append]
    show atI (_ ++ [rowD ms (run T xs (ws.take ws.length))]) (-1) = _
    rw [List.take_length]
    exact at_last _ _
  simp only [F_row_behind, g_row_behind]
  simp [st, stw, t.rows_on hq hx h1 h60 hqw hw hl, al]
end
end Fx
set_option Elab.async false
set_option maxRecDepth 100000
set_option linter.unusedVariables false
set_option linter.unusedSimpArgs false
/-! Carriers. -/
namespace Fx
open PySem L2 Lw
def car (T : Tb) : Nat → List Nat → List Nat × Nat
  | m, [] => ([], m)
  | m, x :: xs => ((T m x).1 :: (car T (T m x).2 xs).1, (car T (T m x).2 xs).2)
def carB (T : Tb) (m : Nat) (xs : List Nat) : List Nat × Nat := ((car (beh T) m xs.reverse).1.reverse, (car (beh T) m xs.reverse).2)
theorem car_app {T : Tb} : ∀ (m : Nat) (xs ys : List Nat), car T m (xs ++ ys) = ((car T m xs).1 ++ (car T (car T m xs).2 ys).1, (car T (car T m xs).2 ys).2)
  | m, [], ys => rfl
  | m, x :: xs, ys => by simp [car, car_app _ xs ys]
theorem car_snoc {T : Tb} (m : Nat) (xs : List Nat) (x : Nat) : car T m (xs ++ [x]) = ((car T m xs).1 ++ [(T (car T m xs).2 x).1], (T (car T m xs).2 x).2) := by
  rw [car_app]
  rfl
theorem car_len {T : Tb} : ∀ (m : Nat) (xs : List Nat), (car T m xs).1.length = xs.length
  | m, [] => rfl
  | m, x :: xs => by simp [car, car_len _ xs]
theorem car_lt {n : Nat} {T : Tb} (hT : Sq n T) : ∀ {m : Nat} {xs : List Nat}, m < n → (∀ x ∈ xs, x < n) → (∀ y ∈ (car T m xs).1, y < n) ∧ (car T m xs).2 < n
  | m, [], hm, _ => ⟨by simp [car], hm⟩
  | m, x :: xs, hm, hx => by
    obtain ⟨t1, t2⟩ := hT m x hm (hx x (by simp))
    obtain ⟨h1, h2⟩ := car_lt (xs := xs) hT t2 fun y hy => hx y (by simp [hy])
    refine ⟨fun y hy => ?_, h2⟩
    rcases List.mem_cons.mp hy with rfl | hy
    · exact t1
    · exact h1 y hy
theorem beh_sq {n : Nat} {T : Tb} (h : Sq n T) : Sq n (beh T) := fun x y hx hy => ⟨(h y x hy hx).2, (h y x hy hx).1⟩
theorem carB_len {T : Tb} (m : Nat) (xs : List Nat) : (carB T m xs).1.length = xs.length := by simp [carB, car_len]
theorem carB_lt {n : Nat} {T : Tb} (hT : Sq n T) {m : Nat} {xs : List Nat} (hm : m < n) (hx : ∀ x ∈ xs, x < n) : (∀ y ∈ (carB T m xs).1, y < n) ∧ (carB T m xs).2 < n := by
  obtain ⟨h1, h2⟩ := car_lt (beh_sq hT) hm (xs := xs.reverse) fun x h => hx x (by simpa using h)
  exact ⟨fun y hy => h1 y (by simpa [carB] using hy), h2⟩
theorem carB_cons {T : Tb} (m x : Nat) (xs : List Nat) : carB T m (x :: xs) = ((T x (carB T m xs).2).2 :: (carB T m xs).1, (T x (carB T m xs).2).1) := by
  unfold carB
  rw [List.reverse_cons, car_snoc, List.reverse_append]
  rfl
theorem carB_app {T : Tb} (m : Nat) (xs ys : List Nat) : carB T m (xs ++ ys) = ((carB T (carB T m ys).2 xs).1 ++ (carB T m ys).1, (carB T (carB T m ys).2 xs).2) := by
  simp [carB, car_app]
abbrev carD (ms : List Str) (r : List Nat × Nat) : D := .tup [rowD ms r.1, sm ms r.2]
@[simp] theorem still_car (ms : List Str) (r : List Nat × Nat) : (carD ms r).still = true := rfl
@[simp] theorem lock_car (ms : List Str) (r : List Nat × Nat) : lockD (carD ms r) = carD ms r := rfl
@[simp] theorem unpk_car (ms : List Str) (r : List Nat × Nat) : unpk (carD ms r) = some [rowD ms r.1, sm ms r.2] := rfl
@[simp] theorem ix_car0 (ms : List Str) (r : List Nat × Nat) : ixD (carD ms r) (.int 0) = some (rowD ms r.1) := rfl
@[simp] theorem ix_car1 (ms : List Str) (r : List Nat × Nat) : ixD (carD ms r) (.int 1) = some (sm ms r.2) := rfl
section
variable {n : Nat} {T : Tb} {ms : List Str}
theorem Tab.gone (t : Tab n T ms) {m : Nat} {d : D} {xs : List Nat} (hq : lockedQ d = some (rowL ms xs)) (hm : m < n) (hx : ∀ x ∈ xs, x < n) (hl : xs.length ≤ 1000) : F__gone_through [.tbl ms (tabP ms n T), sm ms m, d] = M.ret (carD ms (car T m xs)) := by
  have hs := small6 hl
  have st := still_of hq
  have it : itD d = some (rowL ms xs) := by rcases lockQ hq with rfl | rfl <;> rfl
  simp only [F__gone_through, g__gone_through]
  simp [st, it]
  let S : Nat → Env := fun i => [some (.tbl ms (tabP ms n T)), some (sm ms (car T m (xs.take i)).2), some d, some (.own (rowL ms (car T m (xs.take i)).1)), past (fun i => sm ms (gx xs i)) i, past (fun i => sm ms (T (car T m (xs.take i)).2 (gx xs i)).1) i]
  rw [for_row S (by rfl) (fun i x hi => ?_)]
  · simp [S, carD]
  · have hxn := hx x (List.mem_of_getElem? hi)
    have il : i < xs.length := (List.getElem?_eq_some_iff.mp hi).1
    have eg : gx xs i = x := by have := gx_at il; rw [hi] at this; exact (Option.some.inj this).symm
    have cl := car_lt t.sq hm (xs := xs.take i) fun y hy => hx y (List.mem_of_mem_take hy)
    have tp := t.passed cl.2 hxn
    have e1 : car T m (xs.take (i + 1)) = ((car T m (xs.take i)).1 ++ [(T (car T m (xs.take i)).2 x).1], (T (car T m (xs.take i)).2 x).2) := by rw [take_snoc hi, car_snoc]
    have sz : (car T m (xs.take i)).1.length < sizeLine := by
      rw [car_len]
      exact Nat.lt_of_lt_of_le (by simp; omega : (xs.take i).length < 1001) (by decide)
    refine ⟨_, rfl, .inl ?_⟩
    simp [S, tp, e1, past, eg, sz]
theorem Tab.through (t : Tab n T ms) {m : Nat} {d : D} {xs : List Nat} (hq : lockedQ d = some (rowL ms xs)) (hm : m < n) (hx : ∀ x ∈ xs, x < n) (h1 : 1 ≤ xs.length) (h60 : xs.length ≤ 60) : F_through [.tbl ms (tabP ms n T), sm ms m, d] = M.ret (carD ms (car T m xs)) := by
  have st := still_of hq
  simp only [F_through, g_through]
  simp [st, t.row_taken hq hx h1 h60, t.mark_taken hm, t.gone (d := rowD ms xs) rfl hm hx (by omega)]
theorem Tab.throughB (t : Tab n T ms) {m : Nat} {d : D} {xs : List Nat} (hq : lockedQ d = some (rowL ms xs)) (hm : m < n) (hx : ∀ x ∈ xs, x < n) (h1 : 1 ≤ xs.length) (h60 : xs.length ≤ 60) : F_through_from_behind [.tbl ms (tabP ms n T), sm ms m, d] = M.ret (carD ms (carB T m xs)) := by
  have st := still_of hq
  have hq' : lockedQ (rowD ms xs) = some (rowL ms xs) := rfl
  simp only [F_through_from_behind, g_through_from_behind]
  simp [st, t.row_taken hq hx h1 h60, t.mark_taken hm]
  let ys := xs.reverse
  have hy : ∀ y ∈ ys, y < n := fun y h => hx y (by simpa [ys] using h)
  let S : Nat → Env := fun i => [some (.tbl ms (tabP ms n T)), some (sm ms m), some d, some (rowD ms xs), some (sm ms (car (beh T) m (ys.take i)).2), some (.own (rowL ms (car (beh T) m (ys.take i)).1)), past (fun i => sm ms (gx ys i)) i, past (fun i => sm ms (beh T (car (beh T) m (ys.take i)).2 (gx ys i)).1) i]
  rw [show rowL ms xs.reverse = rowL ms ys from rfl]
  rw [for_row S (by rfl) (fun i x hi => ?_)]
  · have et : List.take xs.length xs.reverse = xs.reverse := List.take_of_length_le (by simp)
    simp [S, carD, tupRevD, carB, ys, et]
  · have hxn := hy x (List.mem_of_getElem? hi)
    have il : i < ys.length := (List.getElem?_eq_some_iff.mp hi).1
    have eg : gx ys i = x := by have := gx_at il; rw [hi] at this; exact (Option.some.inj this).symm
    have cl := car_lt (beh_sq t.sq) hm (xs := ys.take i) fun y h => hy y (List.mem_of_mem_take h)
    have tp := t.passed hxn cl.2
    have e1 : car (beh T) m (ys.take (i + 1)) = ((car (beh T) m (ys.take i)).1 ++ [(T x (car (beh T) m (ys.take i)).2).2], (T x (car (beh T) m (ys.take i)).2).1) := by rw [take_snoc hi, car_snoc]; rfl
    have sz : (car (beh T) m (ys.take i)).1.length < sizeLine := by
      rw [car_len]
      have : ys.length = xs.length := by simp [ys]
      exact Nat.lt_of_lt_of_le (by simp; omega : (ys.take i).length < 1001) (by decide)
    refine ⟨_, rfl, .inl ?_⟩
    simp [S, tp, e1, past, eg, sz, beh]
end
end Fx
set_option Elab.async false
set_option maxRecDepth 100000
set_option linter.unusedVariables false
set_option linter.unusedSimpArgs false
/-! Drawn rows; laws' frames. -/
namespace Fx
open PySem L2 Lw
@[simp] theorem at_0 {α : Type} (a : α) (l : List α) : atI (a :: l) 0 = some a := atI_nat (j := 0) (xs := a :: l) rfl
@[simp] theorem at_1 {α : Type} (a b : α) (l : List α) : atI (a :: b :: l) 1 = some b := atI_nat (j := 1) (xs := a :: b :: l) rfl
@[simp] theorem at_2 {α : Type} (a b c : α) (l : List α) : atI (a :: b :: c :: l) 2 = some c := atI_nat (j := 2) (xs := a :: b :: c :: l) rfl
def IsTrue (f : Fl) : Prop := f = .rt (.bl true)
theorem pure_of {g : Sx} {K m : Nat} (h : ∀ n : Nat, Dn K (g (lawEnv n m)) IsTrue) (hK : K ≤ 1000000000) : ∀ ns : List Int, ns.length ≤ 63 → ∃ π', g (lawEnv ns.length m) ⟨ns, 0, 0⟩ = some (.ok (.rt (.bl true)), π') := fun ns _ => by
  obtain ⟨a, π', e, p, _⟩ := h ns.length ⟨ns, 0, 0⟩ (Int.le_refl 0) (by show (0 : Int) + K ≤ _; omega)
  have p : a = .rt (.bl true) := p
  subst p
  exact ⟨π', e⟩
/-- so many turns of a law's loop -/
theorem turns2 (n : Nat) : ∃ t : Nat, t ≤ 6 ∧ ((2 : Int) + (if (n : Int) < 4 then (n : Int) else 4)) = (t : Int) := ⟨2 + min 4 n, by omega, by split <;> omega⟩
theorem turns3 (n : Nat) : ∃ t : Nat, t ≤ 7 ∧ ((3 : Int) + (if (n : Int) < 4 then (n : Int) else 4)) = (t : Int) := ⟨3 + min 4 n, by omega, by split <;> omega⟩
theorem dn_size {m : Nat} (h1 : 1 ≤ m) (hm : m ≤ 1000) : Dn 3 (F_size [.pen, .int (m : Int)]) (fun d => ∃ l : Nat, d = nD l ∧ 1 ≤ l ∧ l ≤ max 5 m) := by
  simp only [F_size, g_size]
  simp
  refine (Dn.orXb (l := 2) (dn_draw' (n := 5) (by decide) (by decide)) fun v ⟨i, ev, hi⟩ => ?_).le (by omega)
  subst ev
  refine (Dn.orXb (l := 1) (dn_drawN (n := m) h1 (by omega)) fun v ⟨j, ev, hj⟩ => ?_).le (by omega)
  subst ev
  simp
  refine (Dn.orXb (l := 0) (dn_draw' (n := 2) (by decide) (by decide)) fun v ⟨k, ev, hk⟩ => ?_).le (by omega)
  subst ev
  have hk' : k = 0 ∨ k = 1 := by omega
  rcases hk' with rfl | rfl
  · have a1 : atI [nD i, nD j] ((0 : Nat) : Int) = some (nD i) := rfl
    simp [a1]
    exact Dn.ret ⟨1 + i, by simp, by omega, by omega⟩
  · have a1 : atI [nD i, nD j] ((1 : Nat) : Int) = some (nD j) := rfl
    simp [a1]
    exact Dn.ret ⟨1 + j, by simp, by omega, by omega⟩
theorem dn_numbers {n l : Nat} {T : Tb} {ms : List Str} (h1 : 1 ≤ n) (h6 : n ≤ 6) (hm : ms.length = n) (hl : l ≤ 1000) : Dn (l + 1) (F_numbers [.pen, rawD ms n T, .int (l : Int)]) (fun d => ∃ xs : List Nat, d = .own (xs.map nD) ∧ xs.length = l ∧ ∀ x ∈ xs, x < n) := by
  have rl := rgn (n := l) (by omega)
  have el := rg0 l
  have hs := small6 hl
  simp only [F_numbers, g_numbers]
  simp [hm]
  refine (Dn.orXb (l := l) (dn_drawN (n := n) h1 (by omega)) fun v ⟨f, ev, hf⟩ => ?_).le (by omega)
  subst ev
  have ef : (1 : Int) + (f : Int) = ((1 + f : Nat) : Int) := by omega
  simp [rl, el]
  rw [ef]
  refine (Dn.orXb (l := 0) (dn_comp (k := 1) nD nD (fun _ x => x < n) (fun _ => rfl) (List.range l) [] (fun x hx => ⟨_, rfl, ?_⟩) (by simpa using hs)) fun v ⟨xs, ev, hxs⟩ => ?_).le (by simp)
  · simp
    rw [ef]
    refine (Dn.bind (l := 0) (dn_drawN (n := 1 + f) (by omega) (by omega)) fun v ⟨x, ev, hx⟩ => ?_).le (by omega)
    subst ev
    exact Dn.ret ⟨x, rfl, by omega⟩
  · subst ev
    simp
    refine Dn.ret ⟨xs, rfl, by simpa using (prd_len hxs).symm, fun x hx => ?_⟩
    obtain ⟨_, _, h⟩ := prd_meb hxs hx
    exact h
theorem p_marksOf {n : Nat} {T : Tb} {ms : List Str} {d : D} {xs : List Nat} (hm : ms.length = n) (hq : lockedQ d = some (xs.map nD)) (hx : ∀ x ∈ xs, x < n) (hl : xs.length ≤ 1000) : F_marks [rawD ms n T, d] = M.ret (rowD ms xs) := by
  have st := still_of hq
  have it : itD d = some (xs.map nD) := by rcases lockQ hq with rfl | rfl <;> rfl
  have hs := small6 hl
  simp only [F_marks, g_marks]
  simp [st, it]
  rw [comp_eq nD (fun x => sm ms x) _ _ (fun x h => ⟨_, rfl, by
    have := at_mk hm (hx x h)
    simp [this], rfl⟩) (by simpa using hs)]
  simp
  rfl
/-- a mark of the names drawn -/
theorem dn_mark {n : Nat} {ms : List Str} (h1 : 1 ≤ n) (h6 : n ≤ 6) (hm : ms.length = n) : Dn 1 (F_pick [.pen, .lst (ms.map .str)]) (fun d => ∃ x, x < n ∧ d = sm ms x) := (dn_pick (enc := D.str) (xs := ms) (.inl rfl) (by omega) (by omega)).imp fun d ⟨i, z, hz, e⟩ => by
  have hi : i < n := by have := (List.getElem?_eq_some_iff.mp hz).1; omega
  refine ⟨i, hi, ?_⟩
  rw [mk_at hm hi] at hz
  cases hz
  exact e
end Fx
set_option Elab.async false
set_option maxRecDepth 100000
set_option linter.unusedVariables false
set_option linter.unusedSimpArgs false
/-! The same data are equal. -/
namespace Fx
open PySem L2 Lw
/-- data that can be held against one another, at most k levels deep -/
def Sel (k : Nat) (d : D) : Prop := ∃ p, d.py = some p ∧ p.canLay0 = true ∧ p.depth ≤ k
theorem Sel.mono {k l : Nat} {d : D} (h : Sel k d) (hk : k ≤ l) : Sel l d := by
  obtain ⟨p, a, b, c⟩ := h
  exact ⟨p, a, b, by omega⟩
theorem sel_int (i : Int) : Sel 0 (.int i) := ⟨.int i, rfl, rfl, Nat.le_refl _⟩
theorem sel_bl (i : Bool) : Sel 0 (.bl i) := ⟨.bool i, rfl, rfl, Nat.le_refl _⟩
theorem sel_non : Sel 0 .non := ⟨.none, rfl, rfl, Nat.le_refl _⟩
theorem sel_str {z : Str} (h : PyData.strOk z = true) : Sel 0 (.str z) := ⟨.str z, rfl, by simpa [PyData.canLay0] using h, Nat.le_refl _⟩
theorem sels {k : Nat} : ∀ {ds : List D}, (∀ d ∈ ds, Sel k d) → ∃ ps, D.pys ds = some ps ∧ PyData.canLayAll0 ps = true ∧ PyData.depthAll ps ≤ k
  | [], _ => ⟨[], rfl, rfl, Nat.zero_le _⟩
  | d :: ds, h => by
    obtain ⟨p, h1, h2, h3⟩ := h d (by simp)
    obtain ⟨ps, g1, g2, g3⟩ := sels (ds := ds) fun e he => h e (by simp [he])
    refine ⟨p :: ps, by simp [D.pys, h1, g1], by simp [PyData.canLayAll0, h2, g2], ?_⟩
    simp only [PyData.depthAll]
    omega
theorem sel_tup {k : Nat} {ds : List D} (h : ∀ d ∈ ds, Sel k d) : Sel (k + 1) (.tup ds) := by
  obtain ⟨ps, g1, g2, g3⟩ := sels h
  exact ⟨.tuple ps, by simp [D.py, g1], by simpa [PyData.canLay0] using g2, by simp only [PyData.depth]; omega⟩
theorem sel_lst {k : Nat} {ds : List D} (h : ∀ d ∈ ds, Sel k d) : Sel (k + 1) (.lst ds) := by
  obtain ⟨ps, g1, g2, g3⟩ := sels h
  exact ⟨.list ps, by simp [D.py, g1], by simpa [PyData.canLay0] using g2, by simp only [PyData.depth]; omega⟩
theorem sel_own {k : Nat} {ds : List D} (h : ∀ d ∈ ds, Sel k d) : Sel (k + 1) (.own ds) := sel_lst h
theorem sel_pair {k : Nat} {a b : D} (h1 : Sel k a) (h2 : Sel k b) : Sel (k + 1) (.tup [a, b]) := sel_tup fun d hd => by
  rcases List.mem_cons.mp hd with rfl | hd
  · exact h1
  · rw [List.mem_singleton.mp hd]; exact h2
theorem sel_trip {k : Nat} {a b c : D} (h1 : Sel k a) (h2 : Sel k b) (h3 : Sel k c) : Sel (k + 1) (.tup [a, b, c]) := sel_tup fun d hd => by
  rcases List.mem_cons.mp hd with rfl | hd
  · exact h1
  · rcases List.mem_cons.mp hd with rfl | hd
    · exact h2
    · rw [List.mem_singleton.mp hd]; exact h3
theorem eqP_self {k : Nat} {d e : D} (h : Sel k d) (hk : k ≤ 64) (he : e.py = d.py) : eqP d e = some true := by
  obtain ⟨p, h1, h2, h3⟩ := h
  rw [eqP_py h1 (he.trans h1) h2 h2 (by omega) (by omega), SeqAt.eqv_refl p h2]
theorem eqT {k : Nat} {ds : List D} (h : Sel k (.tup ds)) (hk : k ≤ 64) : eqD (.tup ds) (.tup ds) = some (.bl true) := by
  have : eqB (.tup ds) (.tup ds) = some true := eqP_self h hk rfl
  simp [eqD, this]
theorem neT {k : Nat} {ds : List D} (h : Sel k (.tup ds)) (hk : k ≤ 64) : neD (.tup ds) (.tup ds) = some (.bl false) := by
  have : eqB (.tup ds) (.tup ds) = some true := eqP_self h hk rfl
  simp [neD, this]
theorem eqBL {k : Nat} {d e : D} {ds : List D} (hd : d.asL = some ds) (he : e.asL = some ds) (h : Sel k (.lst ds)) (hk : k ≤ 64) : eqB d e = some true := by
  have p1 : d.py = (D.lst ds).py := by cases d <;> first | (cases hd; done) | (cases hd; rfl)
  have p2 : e.py = (D.lst ds).py := by cases e <;> first | (cases he; done) | (cases he; rfl)
  obtain ⟨p, h1, h2, h3⟩ := h
  have key : eqP d e = some true := eqP_self ⟨p, p1.trans h1, h2, h3⟩ hk (p2.trans p1.symm)
  rw [← key]
  cases d with
  | lst _ => rfl
  | own _ => rfl
  | _ => cases hd
theorem eqLs {k : Nat} {d e : D} {ds : List D} (hd : d.asL = some ds) (he : e.asL = some ds) (h : Sel k (.lst ds)) (hk : k ≤ 64) : eqD d e = some (.bl true) := by
  simp [eqD, eqBL hd he h hk]
theorem neLs {k : Nat} {d e : D} {ds : List D} (hd : d.asL = some ds) (he : e.asL = some ds) (h : Sel k (.lst ds)) (hk : k ≤ 64) : neD d e = some (.bl false) := by
  simp [neD, eqBL hd he h hk]
theorem name_str {z : Str} (h : IsName z) : PyData.strOk z = true := by
  obtain ⟨_, _, h3⟩ := h
  unfold PyData.strOk
  rw [Array.all_eq_true']
  intro c hc
  have := h3 c (by simpa using hc)
  obtain ⟨a, b⟩ := this
  simp
  omega
section
variable {n : Nat} {T : Tb} {ms : List Str}
theorem Tab.selm (t : Tab n T ms) {x : Nat} (h : x < n) : Sel 0 (sm ms x) := sel_str (name_str (t.nm.name _ (mk_mem t.nm.len h)))
theorem Tab.selr (t : Tab n T ms) {xs : List Nat} (h : ∀ x ∈ xs, x < n) : Sel 1 (rowD ms xs) := sel_tup fun d hd => by
  obtain ⟨x, hx, rfl⟩ := List.mem_map.mp hd
  exact t.selm (h x hx)
theorem Tab.selc (t : Tab n T ms) {r : List Nat × Nat} (h : ∀ x ∈ r.1, x < n) (h' : r.2 < n) : Sel 2 (carD ms r) := sel_pair (t.selr h) ((t.selm h').mono (by decide))
end
end Fx
set_option Elab.async false
set_option maxRecDepth 100000
set_option linter.unusedVariables false
set_option linter.unusedSimpArgs false
/-! Two carriers. -/
namespace Fx
open PySem L2 Lw
/-- what three never care about, mark by mark -/
theorem Three.eqs {n : Nat} {T : Tb} (h : Three n T) {x y z : Nat} (hx : x < n) (hy : y < n) (hz : z < n) :
    (T (T x y).1 (T (T x y).2 z).1).1 = (T x (T y z).1).1 ∧ (T (T x y).1 (T (T x y).2 z).1).2 = (T (T x (T y z).1).2 (T y z).2).1 ∧ (T (T x y).2 z).2 = (T (T x (T y z).1).2 (T y z).2).2 := by
  have := h x y z hx hy hz
  simp only [pa, pb, Prod.mk.injEq] at this
  exact this
theorem Three.beh {n : Nat} {T : Tb} (hs : Sq n T) (h : Three n T) : Three n (beh T) := ((⟨hs, h, fun h => (nomatch h), fun h => (nomatch h)⟩ : Kd n T false false).beh).three
theorem Three.ahead {n : Nat} {T : Tb} (hs : Sq n T) (h : Three n T) : ∀ {xs : List Nat} {a b : Nat}, a < n → b < n → (∀ x ∈ xs, x < n) →
    (car T (T a b).1 (car T (T a b).2 xs).1).1 = (car T a (car T b xs).1).1 ∧ (car T (T a b).1 (car T (T a b).2 xs).1).2 = (T (car T a (car T b xs).1).2 (car T b xs).2).1 ∧ (car T (T a b).2 xs).2 = (T (car T a (car T b xs).1).2 (car T b xs).2).2
  | [], a, b, ha, hb, hx => by simp [car]
  | x :: xs, a, b, ha, hb, hx => by
    have hx0 := hx x (by simp)
    obtain ⟨e1, e2, e3⟩ := h.eqs ha hb hx0
    obtain ⟨t1, t2⟩ := hs b x hb hx0
    obtain ⟨u1, u2⟩ := hs a _ ha t1
    have ih := Three.ahead hs h (xs := xs) u2 t2 fun y hy => hx y (by simp [hy])
    rw [← e2, ← e3] at ih
    simp only [car]
    refine ⟨?_, ih.2.1, ih.2.2⟩
    rw [e1, ih.1]
theorem Three.behind {n : Nat} {T : Tb} (hs : Sq n T) (h : Three n T) {xs : List Nat} {a b : Nat} (ha : a < n) (hb : b < n) (hx : ∀ x ∈ xs, x < n) :
    (carB T (T a b).2 (carB T (T a b).1 xs).1).1 = (carB T b (carB T a xs).1).1 ∧ (carB T (T a b).1 xs).2 = (T (carB T a xs).2 (carB T b (carB T a xs).1).2).1 ∧ (carB T (T a b).2 (carB T (T a b).1 xs).1).2 = (T (carB T a xs).2 (carB T b (carB T a xs).1).2).2 := by
  have := Three.ahead (beh_sq hs) (h.beh hs) (xs := xs.reverse) hb ha fun y hy => hx y (by simpa using hy)
  obtain ⟨h1, h2, h3⟩ := this
  simp only [carB, List.reverse_reverse]
  exact ⟨congrArg List.reverse h1, h3, h2⟩
theorem Three.both {n : Nat} {T : Tb} (hs : Sq n T) (h : Three n T) : ∀ {xs : List Nat} {a b : Nat}, a < n → b < n → (∀ x ∈ xs, x < n) →
    (carB T (T (car T a xs).2 b).1 (car T a xs).1).1 = (car T (T a (carB T b xs).2).2 (carB T b xs).1).1 ∧ (carB T (T (car T a xs).2 b).1 (car T a xs).1).2 = (T a (carB T b xs).2).1 ∧ (T (car T a xs).2 b).2 = (car T (T a (carB T b xs).2).2 (carB T b xs).1).2
  | [], a, b, ha, hb, hx => by simp [car, carB]
  | x :: xs, a, b, ha, hb, hx => by
    have hx0 := hx x (by simp)
    have hxs : ∀ y ∈ xs, y < n := fun y hy => hx y (by simp [hy])
    obtain ⟨t1, t2⟩ := hs a x ha hx0
    obtain ⟨i1, i2, i3⟩ := Three.both hs h (xs := xs) t2 hb hxs
    obtain ⟨l1, l2⟩ := carB_lt hs hb hxs
    obtain ⟨e1, e2, e3⟩ := h.eqs ha hx0 l2
    simp only [car, carB_cons]
    rw [i2, i1, i3]
    refine ⟨?_, e1, ?_⟩
    · rw [e2, e3]
    · rw [e3]
end Fx
set_option Elab.async false
set_option maxRecDepth 100000
set_option linter.unusedVariables false
set_option linter.unusedSimpArgs false
/-! Plain rows, faults of three. -/
namespace Fx
open PySem L2 Lw
theorem frz_skip {i : Nat} {g : Sx} {ρ : Env} (h : ∀ ds, getV ρ i ≠ some (.own ds)) : sFrz i g ρ = g ρ := by
  unfold sFrz
  split
  · rename_i ds e
    exact absurd e (h ds)
  · rfl
theorem out_nxt {I J : Env → Prop} {R : D → Prop} {f : Fl} (h : Fl.out I R f) (i : ∀ ρ, I ρ → J ρ) : Fl.nxt J R f := by
  cases f with
  | nx ρ => exact i ρ h
  | rt d => exact h
  | bk ρ => exact h.elim
  | ct ρ => exact h.elim
  | er x ρ => exact h.elim
theorem gx_app_r {xs ys : List Nat} (k : Nat) : gx (xs ++ ys) (xs.length + k) = gx ys k := by
  unfold gx
  rw [List.getD_eq_getElem?_getD, List.getD_eq_getElem?_getD, List.getElem?_append_right (by omega), Nat.add_sub_cancel_left]
/-- a pass at a place of what stands behind others -/
theorem pass_mid {T : Tb} (xs ys : List Nat) (a b : Nat) : pass T (xs ++ a :: b :: ys) xs.length = xs ++ (T a b).1 :: (T a b).2 :: ys := by
  have g0 : gx (xs ++ a :: b :: ys) xs.length = a := gx_app_r 0
  have g1 : gx (xs ++ a :: b :: ys) (xs.length + 1) = b := gx_app_r 1
  unfold pass
  rw [g0, g1]
  have : List.drop (xs.length + 2) (xs ++ a :: b :: ys) = ys := by rw [List.drop_append]; simp
  simp [this]
/-- a row parted at a pass -/
theorem row_mid {xs : List Nat} {k : Nat} (h : k + 1 < xs.length) : ∃ pre a b ys, xs = pre ++ a :: b :: ys ∧ pre.length = k := by
  refine ⟨xs.take k, xs[k], xs[k + 1], xs.drop (k + 2), ?_, by simp; omega⟩
  rw [← List.drop_eq_getElem_cons h, ← List.drop_eq_getElem_cons (by omega), List.take_append_drop]
theorem comp_enum {α : Type} {t : Tg} {elt : Ex} {ρ0 : Env} {f : α → D} {xs : List α} (g : Nat → α → D) (h : ∀ i x, xs[i]? = some x → ∃ ρ', t.bind (.wtup [nD i, f x]) ρ0 = some ρ' ∧ elt ρ' = M.ret (g i x) ∧ (g i x).still = true) (hl : xs.length ≤ sizeLine) :
    compF t cYes elt ρ0 (numD 0 (xs.map f)) [] = M.ret (.own ((xs.zipIdx 0).map fun p => g p.2 p.1)) := by
  rw [numD_map]
  have := comp_eq (t := t) (elt := elt) (ρ0 := ρ0) (fun p : α × Nat => .wtup [nD p.2, f p.1]) (fun p => g p.2 p.1) (xs.zipIdx 0) [] (fun p hp => by
    obtain ⟨x, i⟩ := p
    have := List.mem_zipIdx_iff_getElem?.mp hp
    exact h i x this) (by simpa using hl)
  simpa using this
def plR (T : Tb) : List Nat → List Nat
  | [] => []
  | x :: xs => (car T x xs).2 :: plR T xs
theorem plR_len {T : Tb} : ∀ xs : List Nat, (plR T xs).length = xs.length
  | [] => rfl
  | x :: xs => by simp [plR, plR_len xs]
theorem plR_lt {n : Nat} {T : Tb} (hT : Sq n T) : ∀ {xs : List Nat}, (∀ x ∈ xs, x < n) → ∀ y ∈ plR T xs, y < n
  | [], _ => by simp [plR]
  | x :: xs, hx => fun y hy => by
    have h1 := car_lt (xs := xs) hT (hx x (by simp)) fun y hy => hx y (by simp [hy])
    rcases List.mem_cons.mp hy with rfl | hy
    · exact h1.2
    · exact plR_lt (xs := xs) hT (fun y hy => hx y (by simp [hy])) y hy
theorem plR_zip {T : Tb} (all : List Nat) : ∀ (xs : List Nat) (n : Nat), all.drop n = xs → (xs.zipIdx n).map (fun p => (car T p.1 (all.drop (p.2 + 1))).2) = plR T xs
  | [], n, _ => rfl
  | x :: xs, n, h => by
    have h1 : all.drop (n + 1) = xs := by rw [← List.drop_drop, h]; rfl
    rw [List.zipIdx_cons, List.map_cons, plR_zip all xs (n + 1) h1, h1]
    rfl
section
variable {n : Nat} {T : Tb} {ms : List Str}
theorem Tab.mark_out (t : Tab n T ms) {m : Nat} {d : D} {xs : List Nat} (hq : lockedQ d = some (rowL ms xs)) (hm : m < n) (hx : ∀ x ∈ xs, x < n) : F__mark_out [.tbl ms (tabP ms n T), sm ms m, d] = M.ret (sm ms (car T m xs).2) := by
  have st := still_of hq
  have it : itD d = some (rowL ms xs) := by rcases lockQ hq with rfl | rfl <;> rfl
  simp only [F__mark_out, g__mark_out]
  simp [st, it]
  let S : Nat → Env := fun i => [some (.tbl ms (tabP ms n T)), some (sm ms (car T m (xs.take i)).2), some d, past (fun i => sm ms (gx xs i)) i]
  rw [for_row S (by rfl) (fun i x hi => ?_)]
  · simp [S]
  · have hxn := hx x (List.mem_of_getElem? hi)
    have il : i < xs.length := (List.getElem?_eq_some_iff.mp hi).1
    have eg : gx xs i = x := by have := gx_at il; rw [hi] at this; exact (Option.some.inj this).symm
    have cl := car_lt t.sq hm (xs := xs.take i) fun y hy => hx y (List.mem_of_mem_take hy)
    have tp := t.passed cl.2 hxn
    have e1 : car T m (xs.take (i + 1)) = ((car T m (xs.take i)).1 ++ [(T (car T m (xs.take i)).2 x).1], (T (car T m (xs.take i)).2 x).2) := by rw [take_snoc hi, car_snoc]
    refine ⟨_, rfl, .inl ?_⟩
    simp [S, tp, e1, past, eg]
theorem Tab.plain (t : Tab n T ms) {d : D} {xs : List Nat} (hq : lockedQ d = some (rowL ms xs)) (hx : ∀ x ∈ xs, x < n) (h1 : 1 ≤ xs.length) (h60 : xs.length ≤ 60) : F_plain [.tbl ms (tabP ms n T), d] = M.ret (rowD ms (plR T xs)) := by
  have st := still_of hq
  simp only [F_plain, g_plain]
  simp [st, t.row_taken hq hx h1 h60]
  have c : ∀ ρ : Env, compF (.tup [.name 3, .name 4]) cYes (eLock (eCall F__mark_out (aCons (eVar 0) (aCons (eVar 4) (aCons (eLock (eSl (eVar 2) (oSome (eOp addD (eVar 3) (eC (.int 1)))) oNone)) aNil)))))
      [some (.tbl ms (tabP ms n T)), some d, some (rowD ms xs), none, none] (numD 0 (rowL ms xs)) [] = M.ret (.own (rowL ms (plR T xs))) := fun _ => by
    have := comp_enum (t := .tup [.name 3, .name 4]) (elt := eLock (eCall F__mark_out (aCons (eVar 0) (aCons (eVar 4) (aCons (eLock (eSl (eVar 2) (oSome (eOp addD (eVar 3) (eC (.int 1)))) oNone)) aNil)))))
      (ρ0 := [some (.tbl ms (tabP ms n T)), some d, some (rowD ms xs), none, none]) (f := sm ms) (xs := xs) (fun i x => sm ms (car T x (xs.drop (i + 1))).2) (fun i x hi => ⟨_, rfl, by
        have hxn := hx x (List.mem_of_getElem? hi)
        have := t.mark_out (d := .lst (rowL ms (xs.drop (i + 1)))) rfl hxn fun y hy => hx y (List.mem_of_mem_drop hy)
        have := t.mark_out (d := rowD ms (xs.drop (i + 1))) rfl hxn fun y hy => hx y (List.mem_of_mem_drop hy)
        simp [this], rfl⟩) (small6 (by omega))
    refine (show _ = _ from this).trans ?_
    have e := plR_zip (T := T) xs xs 0 rfl
    unfold rowL
    rw [← e, List.map_map]
    rfl
  simp [c []]
def Tab.enc (t : Tab n T ms) : Enc (sm ms) 0 (fun x => x < n) := ⟨fun x => .str (mkS ms x), fun x h => ⟨rfl, by simpa [PyData.canLay0] using name_str (t.nm.name _ (mk_mem t.nm.len h)), Nat.le_refl _⟩, fun x y hx hy => by
  simp [PyData.eqv]
  exact ⟨fun e => t.inj hx hy e, fun e => by rw [e]⟩⟩
theorem Tab.eqR (t : Tab n T ms) {xs ys : List Nat} (hx : ∀ x ∈ xs, x < n) (hy : ∀ x ∈ ys, x < n) : eqD (rowD ms xs) (rowD ms ys) = some (.bl (decide (xs = ys))) := by
  have : eqB (rowD ms xs) (rowD ms ys) = some (decide (xs = ys)) := t.enc.eqTT (by decide) hx hy
  simp [eqD, this]
theorem Tab.neR (t : Tab n T ms) {xs ys : List Nat} (hx : ∀ x ∈ xs, x < n) (hy : ∀ x ∈ ys, x < n) : neD (rowD ms xs) (rowD ms ys) = some (.bl (!decide (xs = ys))) := by
  have : eqB (rowD ms xs) (rowD ms ys) = some (decide (xs = ys)) := t.enc.eqTT (by decide) hx hy
  simp [neD, this]
end
end Fx
set_option Elab.async false
set_option maxRecDepth 100000
set_option linter.unusedVariables false
set_option linter.unusedSimpArgs false
/-! k53. -/
namespace Fx
open PySem L2 Lw
/-- no list that may still change -/
def Nown (o : Option D) : Prop := ∀ ds, o ≠ some (.own ds)
theorem nown_none : Nown none := fun ds => by simp
theorem nown_nat (i : Nat) : Nown (some (nD i)) := fun ds => by simp
theorem Nown.at {o : Option D} (h : Nown o) {ds : List D} : (o = some (.own ds)) = False := by simpa using h ds
def turnT (T : Tb) (xs : List Nat) (a b : Nat) : List Nat := pass T (pass T (pass T xs a) b) a
def Unlike (n : Nat) (T : Tb) (ms : List Str) (d : D) : Prop := ∃ x y z, x < n ∧ y < n ∧ z < n ∧ d = rowD ms [x, y, z] ∧ run T [x, y, z] [0, 1, 0] ≠ run T [x, y, z] [1, 0, 1]
section
variable {n : Nat} {T : Tb} {ms : List Str}
theorem Tab.turned (t : Tab n T ms) {xs : List Nat} {a b : Nat} (hx : ∀ x ∈ xs, x < n) (ha : a + 1 < xs.length) (hb : b + 1 < xs.length) (hl : xs.length ≤ 1000) : F__turned [.tbl ms (tabP ms n T), rowD ms xs, nD a, nD b] = M.ret (rowD ms (turnT T xs a b)) := by
  have l1 := pass_len (T := T) ha
  have x1 := pass_lt t.sq hx ha
  have l2 := pass_len (T := T) (xs := pass T xs a) (k := b) (by omega)
  have x2 := pass_lt t.sq x1 (k := b) (by omega)
  have p1 := t.pass_done hx ha hl
  have p2 := t.pass_done x1 (k := b) (by omega) (by omega)
  have p3 := t.pass_done x2 (k := a) (by omega) (by omega)
  simp only [F__turned, g__turned]
  simp [p1, p2, p3, turnT]
theorem Tab.marks_row (t : Tab n T ms) : ms.map D.str = rowL ms (List.range n) := by
  unfold rowL
  apply List.ext_getElem?
  intro i
  by_cases hi : i < n
  · rw [List.getElem?_map, List.getElem?_map, List.getElem?_range hi, mk_at t.nm.len hi]
    rfl
  · have := t.nm.len
    rw [List.getElem?_eq_none (by simp; omega), List.getElem?_eq_none (by simp; omega)]
theorem Tab.three_fault (t : Tab n T ms) : Dn 0 (F_three_fault [.tbl ms (tabP ms n T)]) (fun d => d = .non ∨ Unlike n T ms d) := by
  simp only [F_three_fault, g_three_fault]
  simp [p_marks, t.marks_row]
  refine Dn.bind (k := 0) (l := 0) (Dn.calm (Dn.le (dn_for' (k := 0) (R := Unlike n T ms) (sm ms) (List.range n) (fun i ρ => ∃ x2 x3 x4 x5, ρ = [some (.tbl ms (tabP ms n T)), some (.lst (rowL ms (List.range n))), x2, x3, x4, x5]) _ ⟨_, _, _, _, rfl⟩ ?_) (by simp))) ?_
  · rintro i x ρ hi ⟨x2, x3, x4, x5, rfl⟩
    obtain ⟨_, rfl⟩ := range_at hi
    have hx : x < n := ‹_›
    refine ⟨_, rfl, ?_⟩
    simp
    refine Dn.imp (Dn.le (dn_for' (k := 0) (R := Unlike n T ms) (sm ms) (List.range n) (fun i ρ => ∃ x3 x4 x5, ρ = [some (.tbl ms (tabP ms n T)), some (.lst (rowL ms (List.range n))), some (sm ms x), x3, x4, x5]) _ ⟨_, _, _, rfl⟩ ?_) (by simp)) fun f hf => out_nxt hf fun ρ ⟨x3, x4, x5, h⟩ => ⟨_, _, _, _, h⟩
    rintro j y ρ hj ⟨x3, x4, x5, rfl⟩
    obtain ⟨_, rfl⟩ := range_at hj
    have hy : y < n := ‹_›
    refine ⟨_, rfl, ?_⟩
    simp
    refine Dn.imp (Dn.le (dn_for' (k := 0) (R := Unlike n T ms) (sm ms) (List.range n) (fun i ρ => ∃ x4 x5, ρ = [some (.tbl ms (tabP ms n T)), some (.lst (rowL ms (List.range n))), some (sm ms x), some (sm ms y), x4, x5]) _ ⟨_, _, rfl⟩ ?_) (by simp)) fun f hf => out_nxt hf fun ρ ⟨x4, x5, h⟩ => ⟨_, _, _, h⟩
    rintro k z ρ hk ⟨x4, x5, rfl⟩
    obtain ⟨_, rfl⟩ := range_at hk
    have hz : z < n := ‹_›
    refine ⟨_, rfl, ?_⟩
    have hx3 : ∀ u ∈ [x, y, z], u < n := by simp [hx, hy, hz]
    have t1 := t.turned (xs := [x, y, z]) (a := 0) (b := 1) hx3 (by simp) (by simp) (by simp)
    have t2 := t.turned (xs := [x, y, z]) (a := 1) (b := 0) hx3 (by simp) (by simp) (by simp)
    have r1 : run T [x, y, z] [0, 1, 0] = turnT T [x, y, z] 0 1 := rfl
    have r2 : run T [x, y, z] [1, 0, 1] = turnT T [x, y, z] 1 0 := rfl
    have l1 := run_lt t.sq (ws := [0, 1, 0]) hx3 (by simp)
    have l2 := run_lt t.sq (ws := [1, 0, 1]) hx3 (by simp)
    rw [r1] at l1
    rw [r2] at l2
    have q := t.neR l1 l2
    have e3 : D.tup [sm ms x, sm ms y, sm ms z] = rowD ms [x, y, z] := rfl
    have t1' : F__turned [.tbl ms (tabP ms n T), rowD ms [x, y, z], .int 0, .int 1] = _ := t1
    have t2' : F__turned [.tbl ms (tabP ms n T), rowD ms [x, y, z], .int 1, .int 0] = _ := t2
    simp [e3, t1', t2', q]
    refine Dn.ite (fun _ => Dn.ret ⟨_, _, rfl⟩) fun hne => Dn.ret ⟨x, y, z, hx, hy, hz, rfl, ?_⟩
    rw [r1, r2]
    exact hne
  · rintro f hf
    cases f with
    | nx ρ =>
      obtain ⟨x2, x3, x4, x5, rfl⟩ := hf
      simp
      exact Dn.ret (.inl rfl)
    | rt d => exact Dn.ret (.inr hf)
    | bk ρ => exact hf.elim
    | ct ρ => exact hf.elim
    | er x ρ => exact hf.elim
end
/-! who goes behind keeps -/
theorem car_two {n : Nat} {T : Tb} (hs : Sq n T) (h : Three n T) {m a b : Nat} (hm : m < n) (ha : a < n) (hb : b < n) (ys : List Nat) : (car T m (a :: b :: ys)).2 = (car T m ((T a b).1 :: (T a b).2 :: ys)).2 := by
  obtain ⟨_, _, e3⟩ := h.eqs hm ha hb
  simp only [car]
  rw [e3]
theorem car_mid {n : Nat} {T : Tb} (hs : Sq n T) (h : Three n T) : ∀ {pre : List Nat} {m a b : Nat} (ys : List Nat), m < n → a < n → b < n → (∀ x ∈ pre, x < n) → (car T m (pre ++ a :: b :: ys)).2 = (car T m (pre ++ (T a b).1 :: (T a b).2 :: ys)).2
  | [], m, a, b, ys, hm, ha, hb, _ => car_two hs h hm ha hb ys
  | x :: pre, m, a, b, ys, hm, ha, hb, hp => by
    simp only [List.cons_append, car]
    exact car_mid hs h (pre := pre) ys (hs m x hm (hp x (by simp))).2 ha hb fun y hy => hp y (by simp [hy])
theorem plR_app {T : Tb} : ∀ (pre ys : List Nat), (plR T (pre ++ ys)).drop pre.length = plR T ys
  | [], ys => rfl
  | x :: pre, ys => by simpa [plR] using plR_app pre ys
theorem plR_pre {n : Nat} {T : Tb} (hs : Sq n T) (h : Three n T) : ∀ {pre : List Nat} {a b : Nat} (ys : List Nat), a < n → b < n → (∀ x ∈ pre, x < n) → (plR T (pre ++ a :: b :: ys)).take pre.length = (plR T (pre ++ (T a b).1 :: (T a b).2 :: ys)).take pre.length
  | [], a, b, ys, _, _, _ => rfl
  | x :: pre, a, b, ys, ha, hb, hp => by
    have ih := plR_pre hs h (pre := pre) ys ha hb fun y hy => hp y (by simp [hy])
    have e := car_mid hs h (pre := pre) (m := x) ys (hp x (by simp)) ha hb fun y hy => hp y (by simp [hy])
    simp only [List.cons_append, plR, List.length_cons, List.take_succ_cons]
    rw [e, ih]
theorem plR_keeps {n : Nat} {T : Tb} (hs : Sq n T) (h : Three n T) {xs : List Nat} {k : Nat} (hx : ∀ x ∈ xs, x < n) (hk : k + 1 < xs.length) :
    (plR T (pass T xs k)).take k = (plR T xs).take k ∧ (plR T (pass T xs k)).drop (k + 2) = (plR T xs).drop (k + 2) ∧ gx (plR T (pass T xs k)) (k + 1) = gx (plR T xs) k := by
  obtain ⟨pre, a, b, ys, rfl, rfl⟩ := row_mid hk
  rw [pass_mid]
  have ha := hx a (by simp)
  have hb := hx b (by simp)
  have hp : ∀ x ∈ pre, x < n := fun x hm => hx x (by simp [hm])
  have d1 := plR_app (T := T) pre (a :: b :: ys)
  have d2 := plR_app (T := T) pre ((T a b).1 :: (T a b).2 :: ys)
  refine ⟨(plR_pre hs h ys ha hb hp).symm, ?_, ?_⟩
  · rw [← List.drop_drop, ← List.drop_drop, d1, d2]
    rfl
  · have g1 : gx (plR T (pre ++ a :: b :: ys)) pre.length = gx (plR T (a :: b :: ys)) 0 := by
      rw [← d1]
      simp [gx, List.getD_eq_getElem?_getD]
    have g2 : gx (plR T (pre ++ (T a b).1 :: (T a b).2 :: ys)) (pre.length + 1) = gx (plR T ((T a b).1 :: (T a b).2 :: ys)) 1 := by
      rw [← d2]
      simp [gx, List.getD_eq_getElem?_getD]
    rw [g1, g2]
    rfl
theorem dn_law53 (len : Nat) : Dn 1000000 (g_law_k53 (lawEnv len 11)) IsTrue := by
  obtain ⟨t, ht, et⟩ := turns2 len
  have r0 := rgn (n := t) (by omega)
  have e0 := rg0 t
  simp only [g_law_k53, lawEnv]
  simp [List.replicate, et, r0, e0]
  refine Dn.le (k := 300000) (Dn.loop (k := 300000) (l := 0) (Dn.le (dn_for' (k := 40000) (R := fun _ => False) nD (List.range t) (fun i ρ => ∃ x2 x3 x4 x5 x6 x7 x8 x9 x10 x11 x12, Nown x8 ∧ ρ = [some (.scr len), some .pen, x2, x3, x4, x5, x6, x7, x8, x9, x10, x11, x12]) _ ⟨_, _, _, _, _, _, _, _, _, _, _, nown_none, rfl⟩ ?_) ?_) ?_) (by omega)
  · rintro i x ρ hi ⟨x2, x3, x4, x5, x6, x7, x8, x9, x10, x11, x12, h8, rfl⟩
    refine ⟨_, rfl, ?_⟩
    simp
    refine Dn.le (Dn.orXb (l := 30000) (dn_three (most := 6) (by decide) (by decide)) fun v ⟨n, T, n1, n6, kT0, ev⟩ => ?_) (by omega)
    subst ev
    simp
    refine Dn.le (Dn.orXb (l := 29000) (dn_turnK (n := n) (by omega) kT0) fun v ⟨T, kT, ev⟩ => ?_) (by omega)
    subst ev
    simp
    refine Dn.le (Dn.orXb (l := 28000) (dn_raw n6) fun v ⟨ms, hm, ev⟩ => ?_) (by omega)
    subst ev
    have tb : Tab n T ms := ⟨n1, n6, kT.sq, hm⟩
    simp [p_made hm n1 n6 kT.sq]
    refine Dn.le (Dn.orXb (l := 27000) (dn_pick (enc := nD) (xs := [2, 3, 9, 60]) (.inl rfl) (by decide) (by decide)) fun v ⟨_, l, hl, ev⟩ => ?_) (by omega)
    subst ev
    have l2 : 2 ≤ l ∧ l ≤ 60 := by
      have := List.mem_of_getElem? hl
      simp at this
      omega
    simp
    refine Dn.le (Dn.orXb (l := 26000) (dn_numbers n1 n6 hm.len (l := l) (by omega)) fun v ⟨xs, ev, hlen, hx⟩ => ?_) (by omega)
    subst ev
    have r4 : Rg62 4 := rgn (n := 4) (by decide)
    have e4 : rgD 0 4 = (List.range 4).map nD := rg0 4
    simp [↓frz_skip, h8.at, p_marksOf (T := T) (d := .lst (xs.map nD)) hm.len rfl hx (by omega), r4, e4, -List.map_cons]
    refine Dn.le (Dn.loop (k := 4) (l := 25000) (Dn.le (dn_for' (k := 1) (R := fun _ => False) nD (List.range 4) (fun i ρ => ∃ ys x7 x8 x9 x10, Nown x8 ∧ ys.length = l ∧ (∀ y ∈ ys, y < n) ∧ ρ = [some (.scr len), some .pen, some (nD x), some (rawD ms n T), some (.tbl ms (tabP ms n T)), some (nD l), some (rowD ms ys), x7, x8, x9, x10, x11, x12]) _ ⟨xs, x7, x8, x9, x10, h8, hlen, hx, rfl⟩ ?_) ?_) ?_) (by omega)
    · rintro j y ρ hj ⟨ys, x7, x8, x9, x10, h8, hlen, hx, rfl⟩
      refine ⟨_, rfl, ?_⟩
      have el : ((l : Int) - 1) = ((l - 1 : Nat) : Int) := by omega
      have pl0 := tb.plain (d := rowD ms ys) rfl hx (by omega) (by omega)
      simp [el, pl0]
      refine Dn.le (Dn.orXb (l := 0) (dn_drawN (n := l - 1) (by omega) (by omega)) fun v ⟨k, ev, hk⟩ => ?_) (show 1 + 0 ≤ 1 by omega)
      subst ev
      have hk1 : k + 1 < ys.length := by omega
      have rb := tb.row_behind (d := rowD ms ys) (e := .tup ([k].map nD)) rfl hx (by omega) (by omega) rfl (by simp; omega) (by simp)
      have er : run T ys [k] = pass T ys k := rfl
      rw [er] at rb
      have pn := pass_len (T := T) hk1
      have px := pass_lt tb.sq hx hk1
      have pl1 := tb.plain (d := rowD ms (pass T ys k)) rfl px (by omega) (by omega)
      obtain ⟨k1, k2, k3⟩ := plR_keeps tb.sq kT.three hx hk1
      have z0 := plR_lt tb.sq hx
      have z1 := plR_lt tb.sq px
      have le0 := plR_len (T := T) ys
      have le1 := plR_len (T := T) (pass T ys k)
      have q1 := neT (tb.selr (xs := (plR T ys).take k) fun y hy => z0 y (List.mem_of_mem_take hy)) (by decide)
      have q2 := neT (tb.selr (xs := (plR T ys).drop (k + 2)) fun y hy => z0 y (List.mem_of_mem_drop hy)) (by decide)
      have a1 : atI (rowL ms (plR T (pass T ys k))) ((k : Int) + 1) = some (sm ms (gx (plR T ys) k)) := by
        rw [← k3]
        exact rowL_at (k := k + 1) (gx_at (by omega))
      have a2 : atI (rowL ms (plR T ys)) (k : Int) = some (sm ms (gx (plR T ys) k)) := rowL_at (gx_at (by omega))
      simp at rb
      simp [rb, pl1, k1, k2, q1, q2, a1, a2]
      exact Dn.ret ⟨_, _, _, nown_nat k, by omega, px, _, _, rfl⟩
    · simp
    · rintro ρ ⟨ys, x7, x8, x9, x10, h8, hlen, hx, rfl⟩
      simp
      refine Dn.le (Dn.orXb (l := 15000) (dn_any (most := 5) (by decide) (by decide)) fun v ⟨m, U, m1, m6, hU, ev⟩ => ?_) (by omega)
      subst ev
      simp
      refine Dn.le (Dn.orXb (l := 14000) (dn_raw (n := m) (by omega)) fun v ⟨ls, hls, ev⟩ => ?_) (by omega)
      subst ev
      have tb2 : Tab m U ls := ⟨m1, by omega, hU, hls⟩
      simp [p_made hls m1 (by omega) hU]
      refine Dn.le (Dn.orXb (l := 0) tb2.three_fault fun v hv => ?_) (show 0 + 0 ≤ 14000 by omega)
      rcases hv with rfl | ⟨a, b, c, ha, hb, hc, rfl, hne⟩
      · simp
        exact Dn.ret ⟨_, _, _, _, _, _, _, h8, _, _, _, _, rfl⟩
      · have hx3 : ∀ u ∈ [a, b, c], u < m := by simp [ha, hb, hc]
        have rb1 := tb2.row_behind (d := rowD ls [a, b, c]) (e := .tup ([0, 1, 0].map nD)) rfl hx3 (by simp) (by simp) rfl (by simp) (by simp)
        have rb2 := tb2.row_behind (d := rowD ls [a, b, c]) (e := .tup ([1, 0, 1].map nD)) rfl hx3 (by simp) (by simp) rfl (by simp) (by simp)
        have l1 := run_lt tb2.sq (ws := [0, 1, 0]) hx3 (by simp)
        have l2 := run_lt tb2.sq (ws := [1, 0, 1]) hx3 (by simp)
        have q := tb2.eqR l1 l2
        rw [decide_eq_false hne] at q
        have rb1 : F_row_behind [.tbl ls (tabP ls m U), rowD ls [a, b, c], .tup [.int 0, .int 1, .int 0]] = _ := rb1
        have rb2 : F_row_behind [.tbl ls (tabP ls m U), rowD ls [a, b, c], .tup [.int 1, .int 0, .int 1]] = _ := rb2
        simp [rb1, rb2, q]
        exact Dn.ret ⟨_, _, _, _, _, _, _, h8, _, _, _, _, rfl⟩
  · simp
    omega
  · rintro ρ ⟨x2, x3, x4, x5, x6, x7, x8, x9, x10, x11, x12, h8, rfl⟩
    simp
    exact Dn.ret rfl
theorem pure_k53 : ∀ ns : List Int, ns.length ≤ 63 → ∃ π', g_law_k53 (lawEnv ns.length 11) ⟨ns, 0, 0⟩ = some (.ok (.rt (.bl true)), π') := pure_of (g := g_law_k53) (K := 1000000) (m := 11) dn_law53 (by decide)
end Fx
set_option Elab.async false
set_option maxRecDepth 100000
set_option linter.unusedVariables false
namespace Fk53
open PySem L2 Lw Fx
def top (i : Nat) : Stmt := PySem.Challenge.pw_passmarks_k53_whole_who_goes_behind_keep.main.body.getD i (.Pass ⟨0, 0, 0, 0⟩)
def meth (i j : Nat) : Stmt := match top i with
  | .ClassDef _ _ _ body _ _ _ _ _ _ _ => body.getD j (.Pass ⟨0, 0, 0, 0⟩)
  | _ => .Pass ⟨0, 0, 0, 0⟩
section
variable {P : Program} {w : World} {K : PySem.W.Frag} {mg : Str → Option Value} {base : Heap} {C : Addr}
abbrev s_draw : Stmt := top 41
theorem sc_draw : FnScope ["_law_pen_here", "_law_many", "_law_digit", "_law_spot", "_law_cell", "_law_mix"] ["_law_pen_here", "_law_many"] (defScope s_draw) := ⟨rfl, rfl, rfl, by decide +kernel, rfl, by decide +kernel, by decide +kernel⟩
theorem ok_drawX {f : Addr} {fd : FuncData} (F : Fun K "_law_draw" "_law_draw" s_draw f fd) (T : Bare mg) : FnOk P w K mg base CX0 1 f fd ["_law_pen_here", "_law_many"] spDrawX := by
  refine F.ok sc_draw (fun vs H Q E h => ?_) (fun cdv A outer s H vs Q E hr h => ?_)
  · obtain ⟨p, c, ns, z, m, n, rfl, _⟩ := h
    rfl
  · obtain ⟨p, c, ns, z, m, n, rfl, hp, hc, z0, z9, n1, n9, hl, k⟩ := h
    have hu := hu_of hr
    have hdv : ∀ i : Int, CDivW i n := fun i => ⟨by omega, n9⟩
    have gm : DGet H p (.str "more") (some (.int m)) := by have q := DGet.k (k := (.inr "more" : Key)) hp; rw [v_more] at q; exact q
    have gs : DGet H p (.str "spot") (some (.int z)) := by have q := DGet.k (k := (.inr "spot" : Key)) hp; rw [v_spot] at q; exact q
    have gc : DGet H p (.str "cells") (some (.ref c)) := by have q := DGet.k (k := (.inr "cells" : Key)) hp; rw [v_cells] at q; exact q
    refine ⟨_, (pss_cons (ps_if (pt_cmpR op_gt (pe_dget hu (pv 0) pe_str (fun _ _ => rfl)) pe_int (nomark _))
      (pss_cons (ps_set (i := 2) sc_draw.nd rfl (Or.inl rfl) (pe_op op_modN (pe_dget hu (pv 0) pe_str (fun _ _ => rfl)) (pv 1)))
      (pss_cons (ps_dput hu (pv 0) pe_str (pe_op op_fdivW (pe_dget hu (pv 0) pe_str (fun _ _ => rfl)) (pv 1)) rfl)
      (pss_one (ps_ret (pv 2))))) pss_nil)
      (pss_cons (ps_set (i := 3) sc_draw.nd rfl (Or.inl rfl) (pe_dget hu (pv 0) pe_str (fun _ _ => rfl)))
      (pss_cons (ps_dput hu (pv 0) pe_str (pe_op op_add (pv 3) pe_int) rfl)
      (pss_cons (ps_set (i := 4) sc_draw.nd rfl (Or.inl rfl) (pe_ifExp (pt_cmpR (op_neDK (K := K) rfl hr.units) (pe_dget hu (pv 0) pe_str (fun _ _ => rfl)) (pe_lst pa_nil) (nomark _)) (pe_ix ix_list (pe_dget hu (pv 0) pe_str (fun _ _ => rfl)) (pe_op op_modN (pv 3) (pe_callB (call_lenK (K := K) rfl) (by rfl) T.n_len PySem.boot_len (pa_cons (pe_dget hu (pv 0) pe_str (fun _ _ => rfl)) pa_nil))) (fun _ _ => rfl)) (pe_op op_add (pe_op op_mul pe_int (pv 3)) pe_int)))
      (pss_cons (ps_if (PW.pt (pw_and (pt_cmpR op_lt (pv 3) (pe_callB (call_lenK (K := K) rfl) (by rfl) T.n_len PySem.boot_len (pa_cons (pe_dget hu (pv 0) pe_str (fun _ _ => rfl)) pa_nil)) (nomark _)) (pw_and1 (pt_cmpR op_ge (pe_callB call_abs (by rfl) T.n_abs (by decide +kernel) (pa_cons (pv 4) pa_nil)) (pe_op op_pow pe_int pe_int) (nomark _)))))
      (pss_cons (ps_dput hu (pv 0) pe_str (pe_op op_fdivW (pe_op op_sub (pe_callB call_abs (by rfl) T.n_abs (by decide +kernel) (pa_cons (pv 4) pa_nil)) (pe_op op_pow pe_int pe_int)) (pv 1)) rfl)
      (pss_one (ps_ret (pe_op op_modN (pe_op op_sub (pe_callB call_abs (by rfl) T.n_abs (by decide +kernel) (pa_cons (pv 4) pa_nil)) (pe_op op_pow pe_int pe_int)) (pv 1))))) pss_nil)
      (pss_cons (ps_set (i := 5) sc_draw.nd rfl (Or.inl rfl) (pe_op op_modN (pe_op op_add (pe_op op_add (pe_op op_add (pe_op op_mul (pe_op op_modN (pv 4) pe_int) pe_int) (pe_op op_mul (pe_op op_mul pe_int (pv 3)) (pv 3))) (pe_op op_mul pe_int (pv 3))) pe_int) pe_int))
      (pss_cons (ps_set (i := 5) sc_draw.nd rfl (Or.inl rfl) (pe_op op_modN (pe_op op_add (pe_op op_add (pe_op op_add (pe_op op_mul (pv 5) (pv 5)) (pe_op op_mul pe_int (pv 5))) (pe_op op_mul pe_int (pv 3))) pe_int) pe_int))
      (pss_one (ps_ret (pe_op op_modN (pe_op op_fdivW (pe_op op_modN (pe_op op_mul (pv 5) (pe_op op_add (pv 5) pe_int)) pe_int) pe_int) (pv 1))))))))))), ?_⟩
    refine ⟨_, rfl, p, _, rfl, gm, _, _, rfl, rfl, _, rfl, ?_⟩
    refine ite2 (fun hm => ?_) (fun hm => ?_)
    · have hm : 0 < m := by simpa using hm
      unfold drawN at k
      rw [if_pos hm] at k
      refine ⟨_, rfl, p, _, rfl, gm, _, rfl, _, _, rfl, rfl, (by omega), ?_⟩
      refine ⟨_, rfl, p, _, rfl, gm, _, rfl, _, _, rfl, rfl, hdv _, _, rfl, p, _, rfl, DPut.k (k := (.inr "more" : Key)) hp (by show 3 < sizeLine; decide), ?_⟩
      refine ⟨_, rfl, ?_⟩
      refine k _ ?_ SameX.upd
      rw [upd_same, p_more]
    · have hm : ¬ 0 < m := by simpa using hm
      unfold drawN at k
      rw [if_neg hm] at k
      refine ⟨_, rfl, p, _, rfl, gs, ?_⟩
      refine ⟨_, rfl, _, _, rfl, rfl, _, rfl, p, _, rfl, DPut.k (k := (.inr "spot" : Key)) hp (by show 3 < sizeLine; decide), ?_⟩
      have hp1 : (upd H p (.dK (putK (kvP c z m) (.inr "spot") (.int (z + 1))))) p = some (.dK (kvP c (z + 1) m)) := by rw [upd_same, p_spot]
      have hc1 : (upd H p (.dK (putK (kvP c z m) (.inr "spot") (.int (z + 1))))) c = some (.lst (ns.map V.int)) := by rw [upd_ne (ne_of hc hp nofun)]; exact hc
      have sx1 : SameX p H (upd H p (.dK (putK (kvP c z m) (.inr "spot") (.int (z + 1))))) := SameX.upd
      generalize upd H p (.dK (putK (kvP c z m) (.inr "spot") (.int (z + 1)))) = H1 at hp1 hc1 sx1
      have gc1 : ∀ H2 : Hp, Same H1 H2 → DGet H2 p (.str "cells") (some (.ref c)) := fun H2 s2 => by have q := DGet.k (k := (.inr "cells" : Key)) (s2 _ _ hp1); rw [v_cells] at q; exact q
      (try dsimp only [gName])
      refine seq_set_cut (fun v H2 => v = .int (penCell ns z) ∧ Same H1 H2) (fun Q hQ => ?_) ?_
      · refine ⟨_, rfl, p, _, rfl, gc1 H1 (Same.refl _), Nat.zero_le _, fun q nq => ?_⟩
        have s2 : Same H1 (upd H1 q (.lst [])) := same_new nq
        refine ⟨_, _, dp_list (s2 _ _ hc1), dp_list (ns := []) upd_same, shaped_list _, shaped_list [], _, rfl, ?_⟩
        refine ite2 (fun ne => ?_) (fun ne => ?_)
        · rw [eqv_list] at ne
          have nn : ns ≠ [] := by simpa using ne
          have pos : 0 < ns.length := List.length_pos_iff.mpr nn
          have hlen : ((ns.map V.int).length : Int) = (ns.length : Int) := by simp
          have hy : atI (ns.map V.int) (z.fmod ns.length) = some (.int (penCell ns z)) := by
            have lo := fmod_lo z (b := (ns.length : Int)) (by omega)
            have hi := fmod_hi z (b := (ns.length : Int)) (by omega)
            have lt : (z.fmod ns.length).toNat < ns.length := by omega
            rw [← Int.toNat_of_nonneg lo]
            refine at_int' ?_
            unfold penCell
            rw [if_neg nn, List.getD_eq_getElem?_getD, List.getElem?_eq_getElem lt]
            rfl
          refine ⟨_, rfl, p, _, rfl, gc1 _ s2, _, rfl, _, rfl, p, _, rfl, gc1 _ s2, c, _, rfl, .inl (SqL.of (s2 _ _ hc1)), _, _, rfl, rfl, (by rw [hlen]; omega), c, _, _, _, rfl, rfl, SqL.of (s2 _ _ hc1), (by rw [hlen]; exact hy), ?_⟩
          exact hQ _ _ ⟨rfl, s2⟩
        · rw [eqv_list] at ne
          have nn : ns = [] := by simpa using ne
          refine ⟨_, rfl, _, _, rfl, rfl, .inl (by constructor <;> decide), _, _, rfl, rfl, ?_⟩
          exact hQ _ _ ⟨by unfold penCell; rw [if_pos nn], s2⟩
      · rintro v H2 ⟨rfl, s2⟩
        have hp2 := s2 _ _ hp1
        have hc2 := s2 _ _ hc1
        have sx2 : SameX p H H2 := sx1.trans (.of s2)
        have hlen : ((ns.map V.int).length : Int) = (ns.length : Int) := by simp
        generalize hy : penCell ns z = y at *
        (try dsimp only [gName])
        refine seq_cut (fun σ' H' => σ' = [some (.ref p), some (.int n), none, some (.int z), some (.int y), none] ∧ H' = H2 ∧ ¬ (z < (ns.length : Int) ∧ 10 ^ 18 ≤ absI y)) (fun N hN' => ?_) ?_
        · refine ⟨_, rfl, _, rfl, p, _, rfl, gc1 _ s2, c, _, rfl, .inl (SqL.of hc2), _, _, rfl, rfl, _, rfl, ?_⟩
          refine ite2 (fun h1 => ?_) (fun h1 => iteF (hN' _ _ ⟨rfl, rfl, fun h => ?_⟩))
          · have h1 : z < (ns.length : Int) := by simpa using h1
            refine ⟨_, rfl, _, rfl, _, _, rfl, rfl, ⟨by decide, by decide, by decide⟩, _, _, rfl, rfl, _, rfl, ?_⟩
            refine ite2 (fun h2 => ?_) (fun h2 => hN' _ _ ⟨rfl, rfl, fun h => ?_⟩)
            · have h2 : (10 : Int) ^ 18 ≤ absI y := by simpa [absI] using h2
              rw [if_pos ⟨h1, h2⟩] at k
              refine ⟨_, rfl, _, rfl, _, _, rfl, rfl, ⟨by decide, by decide, by decide⟩, _, _, rfl, rfl, _, rfl, _, _, rfl, rfl, hdv _, _, rfl, p, _, rfl, DPut.k (k := (.inr "more" : Key)) hp2 (by show 3 < sizeLine; decide), ?_⟩
              refine ⟨_, rfl, _, rfl, _, _, rfl, rfl, ⟨by decide, by decide, by decide⟩, _, _, rfl, rfl, _, rfl, _, _, rfl, rfl, (by omega), ?_⟩
              refine k _ ?_ (sx2.trans SameX.upd)
              exact Eq.trans upd_same (by rw [p_more]; rfl)
            · have h2 : ¬ (10 : Int) ^ 18 ≤ absI y := by simpa [absI] using h2
              exact h2 h.2
          · exact absurd h.1 (by simpa using h1)
        · rintro σ' H' ⟨rfl, rfl, hbig⟩
          rw [if_neg hbig] at k
          have a1 := fmod_lo y (b := 2147483647) (by decide)
          have a2 := fmod_hi y (b := 2147483647) (by decide)
          refine ⟨_, rfl, _, _, rfl, rfl, (show (2147483647 : Int) ≠ 0 by decide), _, _, rfl, rfl, .inl ⟨by omega, by omega⟩, _, rfl, _, _, rfl, rfl, .inl ⟨by decide, by decide⟩, _, rfl, _, _, rfl, rfl, .inr ⟨by omega, by omega⟩, _, _, rfl, rfl, _, rfl, _, _, rfl, rfl, .inl ⟨by decide, by decide⟩, _, _, rfl, rfl, _, _, rfl, rfl, _, _, rfl, rfl, (show (2147483629 : Int) ≠ 0 by decide), ?_⟩
          dsimp only [gName]
          simp only [] at k
          generalize hm1 : Int.fmod _ 2147483629 = m1 at *
          have b1 : 0 ≤ m1 := hm1 ▸ fmod_lo _ (by decide)
          have b2 : m1 < 2147483629 := hm1 ▸ fmod_hi _ (by decide)
          clear hm1
          refine ⟨_, rfl, _, rfl, _, _, rfl, rfl, .inl ⟨by omega, by omega⟩, _, rfl, _, _, rfl, rfl, .inl ⟨by decide, by decide⟩, _, _, rfl, rfl, _, rfl, _, _, rfl, rfl, .inl ⟨by decide, by decide⟩, _, _, rfl, rfl, _, _, rfl, rfl, _, _, rfl, rfl, (show (2147483587 : Int) ≠ 0 by decide), ?_⟩
          dsimp only [gName]
          generalize hm2 : Int.fmod _ 2147483587 = m2 at *
          have c1 : 0 ≤ m2 := hm2 ▸ fmod_lo _ (by decide)
          have c2 : m2 < 2147483587 := hm2 ▸ fmod_hi _ (by decide)
          clear hm2
          refine ⟨_, rfl, _, rfl, _, _, rfl, rfl, _, _, rfl, rfl, .inl ⟨by omega, by omega⟩, _, _, rfl, rfl, (show (2147483579 : Int) ≠ 0 by decide), _, _, rfl, rfl, ⟨by decide, by decide⟩, _, rfl, _, _, rfl, rfl, (by omega), ?_⟩
          exact k _ hp2 sx2
abbrev s_pen : Stmt := top 40
theorem sc_pen : FnScope ["_law_script"] ["_law_script"] (defScope s_pen) := ⟨rfl, rfl, rfl, by decide +kernel, rfl, by decide +kernel, by decide +kernel⟩
theorem ok_penX {f : Addr} {fd : FuncData} (F : Fun K "_law_pen" "_law_pen" s_pen f fd) (T : Bare mg) : FnOk P w K mg base CX0 1 f fd ["_law_script"] (spPenX K) := by
  refine F.ok sc_pen (fun vs H Q E h => ?_) (fun cdv A outer s H vs Q E hr h => ?_)
  · obtain ⟨a, ns, rfl, _⟩ := h
    rfl
  · obtain ⟨a, ns, rfl, hS, hl, k⟩ := h
    have hu := hu_of hr
    refine ⟨_, (pss_one (ps_ret (pe_disp (pps_cons pe_str (pe_callTy (call_listK (K := K) rfl) (by rfl) T.n_list (by decide +kernel) (pa_cons (pe_slice sl_list (pv 0) po_none (po_some pe_int)) pa_nil)) (pps_cons pe_str pe_int (pps_cons pe_str pe_int pps_nil))) (by rfl) (by rfl) (fun z => by cases z) (by decide)))), ?_⟩
    intro p np
    have s0 : Same H (upd H p (.dK [])) := same_new np
    refine ⟨_, rfl, _, rfl, a, _, rfl, s0.seq hS, fun q nq => ?_⟩
    have s1 := s0.trans (same_new (o := .lst (cutV (ns.map V.int) none (some 63))) nq)
    refine ⟨q, _, rfl, .inl (SqL.of upd_same), fun l nl => ?_⟩
    have s2 := s1.trans (same_new (o := .lst (cutV (ns.map V.int) none (some 63))) nl)
    have npq : p ≠ q := fun e => by rw [e, upd_same] at nq; cases nq
    have npl : p ≠ l := fun e => by
      rw [← e, upd_ne npq, upd_same] at nl
      cases nl
    have nl0 : H l = none := by
      cases e : H l with
      | none => rfl
      | some o => rw [s1 _ _ e] at nl; cases nl
    have ecut : cutV (ns.map V.int) none (some 63) = ns.map V.int := by
      have e63 : HT.sIx (ns.map V.int).length (ns.map V.int).length (some 63) = (ns.map V.int).length := by
        have z := HT.sIx_nat (ns.map V.int).length (ns.map V.int).length 63
        rw [List.length_map] at z ⊢
        exact z.trans (by omega)
      unfold cutV
      rw [e63, HT.sIx_none, Nat.sub_zero, List.drop_zero]
      exact List.take_of_length_le (Nat.le_refl _)
    refine ⟨by rw [upd_ne npl, upd_ne npq, upd_same], [((.inr "cells" : Key), V.ref l), (.inr "spot", V.int 0), (.inr "more", V.int 0)], rfl, (by show 3 ≤ 15; decide), k p l _ np nl0 (fun b o e => ?_) ?_ ?_⟩
    · rw [upd_ne (ne_of_none e np)]
      exact s2 _ _ e
    · rw [upd_same]
      simp [mergeK, putK, n_cs, n_cm, n_sm, kvP]
    · rw [upd_ne npl.symm, upd_same, ecut]
abbrev s_is_listing : Stmt := top 11
theorem sc_is_listing : FnScope ["thing"] ["thing"] (defScope s_is_listing) := ⟨rfl, rfl, rfl, by decide +kernel, rfl, by decide +kernel, by decide +kernel⟩
theorem ok_is_listing {f : Addr} {fd : FuncData} (F : Fun K "is_listing" "is_listing" s_is_listing f fd) (T : Bare mg)  : FnOk P w K mg base (L2.CX P w) 1 f fd ["thing"] (spF K C mg F_is_listing) := by
  refine fn_okX F sc_is_listing fun cdv A outer s H E pen hr => ?_
  have tk : Takes (cxOf (L2.CX P w) P w K mg base ["thing"] "is_listing" (defScope s_is_listing) f cdv A outer s H E) (fun cls d _ H' => E cls d H') := takes_of rfl rfl rfl rfl
  have hp : PassesOwn (model P w) (cxOf (L2.CX P w) P w K mg base ["thing"] "is_listing" (defScope s_is_listing) f cdv A outer s H E).A (cxOf (L2.CX P w) P w K mg base ["thing"] "is_listing" (defScope s_is_listing) f cdv A outer s H E).env (cxOf (L2.CX P w) P w K mg base ["thing"] "is_listing" (defScope s_is_listing) f cdv A outer s H E).xe := passes_of rfl
  exact (ss_one (s_ret (toE (f_isiT rfl rfl rfl T.n_isinstance (fv 0) (ty_cons (ty_v rfl T.n_list (by decide +kernel)) (ty_cons (ty_v rfl T.n_tuple (by decide +kernel)) ty_nil)) (by decide) (by decide +kernel)))))
abbrev s_is_number : Stmt := top 12
theorem sc_is_number : FnScope ["thing", "least", "most"] ["thing", "least", "most"] (defScope s_is_number) := ⟨rfl, rfl, rfl, by decide +kernel, rfl, by decide +kernel, by decide +kernel⟩
theorem ok_is_number {f : Addr} {fd : FuncData} (F : Fun K "is_number" "is_number" s_is_number f fd) (T : Bare mg)  : FnOk P w K mg base (L2.CX P w) 1 f fd ["thing", "least", "most"] (spF K C mg F_is_number) := by
  refine fn_okX F sc_is_number fun cdv A outer s H E pen hr => ?_
  have tk : Takes (cxOf (L2.CX P w) P w K mg base ["thing", "least", "most"] "is_number" (defScope s_is_number) f cdv A outer s H E) (fun cls d _ H' => E cls d H') := takes_of rfl rfl rfl rfl
  have hp : PassesOwn (model P w) (cxOf (L2.CX P w) P w K mg base ["thing", "least", "most"] "is_number" (defScope s_is_number) f cdv A outer s H E).A (cxOf (L2.CX P w) P w K mg base ["thing", "least", "most"] "is_number" (defScope s_is_number) f cdv A outer s H E).env (cxOf (L2.CX P w) P w K mg base ["thing", "least", "most"] "is_number" (defScope s_is_number) f cdv A outer s H E).xe := passes_of rfl
  exact (ss_one (s_ret (f_and (toE (f_isi rfl rfl T.n_isinstance (fv 0) (ty_v rfl T.n_int (by decide +kernel)) (by decide +kernel))) (f_and (toE (f_not (toE (f_isi rfl rfl T.n_isinstance (fv 0) (ty_v rfl T.n_bool (by decide +kernel)) (by decide +kernel))))) (f_one (toE (f_chain op_leF op_leF (fv 1) (fv 0) (fv 2))))))))
abbrev s_is_name : Stmt := top 20
theorem sc_is_name : FnScope ["thing", "letter"] ["thing"] (defScope s_is_name) := ⟨rfl, rfl, rfl, by decide +kernel, rfl, by decide +kernel, by decide +kernel⟩
theorem ok_is_name {f : Addr} {fd : FuncData} (F : Fun K "is_name" "is_name" s_is_name f fd) (T : Bare mg) (C__LONGEST : ∃ t, mg "_LONGEST" = some (.int 8 t)) (C__LETTERS : ∃ t, mg "_LETTERS" = some (.str (Str.ofString "abcdefghijklmnopqrstuvwxyz") t)) : FnOk P w K mg base (L2.CX P w) 1 f fd ["thing"] (spF K C mg F_is_name) := by
  refine fn_okX F sc_is_name fun cdv A outer s H E pen hr => ?_
  have tk : Takes (cxOf (L2.CX P w) P w K mg base ["thing", "letter"] "is_name" (defScope s_is_name) f cdv A outer s H E) (fun cls d _ H' => E cls d H') := takes_of rfl rfl rfl rfl
  have hp : PassesOwn (model P w) (cxOf (L2.CX P w) P w K mg base ["thing", "letter"] "is_name" (defScope s_is_name) f cdv A outer s H E).A (cxOf (L2.CX P w) P w K mg base ["thing", "letter"] "is_name" (defScope s_is_name) f cdv A outer s H E).env (cxOf (L2.CX P w) P w K mg base ["thing", "letter"] "is_name" (defScope s_is_name) f cdv A outer s H E).xe := passes_of rfl
  exact (ss_cons (s_if (w_pt (w_or (t_not (t_tru (toE (f_isi rfl rfl T.n_isinstance (fv 0) (ty_v rfl T.n_str (by decide +kernel)) (by decide +kernel))) (by intro _; rfl))) (w_or1 (t_not (t_chain op_leF op_leF (toE f_int) (toE (f_callB (call_lenF rfl) rfl T.n_len (by decide +kernel) (a_cons (fv 0) a_nil))) (toE (g_int rfl C__LONGEST)))))))
      (ss_one (s_ret (toE f_bl))) ss_nil)
      (ss_one (s_ret (toE (f_callB (call_allF rfl) rfl T.n_all (by decide +kernel) (a_cons (toE (f_comp (own := [("letter", 1)]) (t := (.name 1)) rfl sc_is_name.nd (i_any (fv 0)) (blkOk_by (own := [("letter", 1)]) (N := ["thing", "letter"]) (sc := defScope s_is_name) (by decide +kernel)) (by decide) (fun _ _ _ _ _ => (tg_name (i := 1) sc_is_name.nd rfl (Or.inl rfl))) (fun _ _ _ _ _ => ts_nil) (fun _ _ _ _ _ => (toE (f_cmp op_inF (fv 1) (toE (g_str rfl C__LETTERS)) (by rfl)))))) a_nil))))))
abbrev s_Table_marks : Stmt := meth 23 2
theorem sc_Table_marks : FnScope ["self"] ["self"] (defScope s_Table_marks) := ⟨rfl, rfl, rfl, by decide +kernel, rfl, by decide +kernel, by decide +kernel⟩
theorem ok_Table_marks {f : Addr} {fd : FuncData} (F : Fun K "marks" "Table.marks" s_Table_marks f fd) (T : Bare mg) {f0 : Addr} (TC : TabC K mg C f0) : FnOk P w K mg base (L2.CX P w) 1 f fd ["self"] (spF K C mg F_Table_marks) := by
  refine fn_okX F sc_Table_marks fun cdv A outer s H E pen hr => ?_
  have tk : Takes (cxOf (L2.CX P w) P w K mg base ["self"] "Table.marks" (defScope s_Table_marks) f cdv A outer s H E) (fun cls d _ H' => E cls d H') := takes_of rfl rfl rfl rfl
  have hp : PassesOwn (model P w) (cxOf (L2.CX P w) P w K mg base ["self"] "Table.marks" (defScope s_Table_marks) f cdv A outer s H E).A (cxOf (L2.CX P w) P w K mg base ["self"] "Table.marks" (defScope s_Table_marks) f cdv A outer s H E).env (cxOf (L2.CX P w) P w K mg base ["self"] "Table.marks" (defScope s_Table_marks) f cdv A outer s H E).xe := passes_of rfl
  exact (ss_one (s_ret (toE (f_callTy call_listF rfl T.n_list (by decide +kernel) (a_cons (toE (f_marks TC.cl TC.nM (fv 0) rfl)) a_nil)))))
abbrev s_Table_passed : Stmt := meth 23 4
theorem sc_Table_passed : FnScope ["self", "one", "other", "mark"] ["self", "one", "other"] (defScope s_Table_passed) := ⟨rfl, rfl, rfl, by decide +kernel, rfl, by decide +kernel, by decide +kernel⟩
theorem ok_Table_passed {f : Addr} {fd : FuncData} (F : Fun K "passed" "Table.passed" s_Table_passed f fd) (T : Bare mg) {f0 : Addr} (TC : TabC K mg C f0) : FnOk P w K mg base (L2.CX P w) 1 f fd ["self", "one", "other"] (spF K C mg F_Table_passed) := by
  refine fn_okX F sc_Table_passed fun cdv A outer s H E pen hr => ?_
  have tk : Takes (cxOf (L2.CX P w) P w K mg base ["self", "one", "other", "mark"] "Table.passed" (defScope s_Table_passed) f cdv A outer s H E) (fun cls d _ H' => E cls d H') := takes_of rfl rfl rfl rfl
  have hp : PassesOwn (model P w) (cxOf (L2.CX P w) P w K mg base ["self", "one", "other", "mark"] "Table.passed" (defScope s_Table_passed) f cdv A outer s H E).A (cxOf (L2.CX P w) P w K mg base ["self", "one", "other", "mark"] "Table.passed" (defScope s_Table_passed) f cdv A outer s H E).env (cxOf (L2.CX P w) P w K mg base ["self", "one", "other", "mark"] "Table.passed" (defScope s_Table_passed) f cdv A outer s H E).xe := passes_of rfl
  exact (ss_cons (s_for hp rfl (i_any (toE (f_tup (a_cons (fv 1) (a_cons (fv 2) a_nil))))) (tg_name (i := 3) sc_Table_passed.nd rfl (Or.inl rfl))
      (ss_one (s_if (t_cmp op_notInF (fv 3) (toE (f_marks TC.cl TC.nM (fv 0) rfl)) (by rfl))
      (ss_one s_never) ss_nil)))
      (ss_one (s_ret (toE (f_ix (toE (f_ix (toE (f_pairs TC.cl TC.nP (fv 0) rfl)) (toE (f_index (toE (f_marks TC.cl TC.nM (fv 0) rfl)) (fv 1))) (fun _ _ => rfl))) (toE (f_index (toE (f_marks TC.cl TC.nM (fv 0) rfl)) (fv 2))) (fun _ _ => rfl))))))
abbrev s_powers : Stmt := top 45
theorem sc_powers : FnScope ["_law_moves", "_law_many", "_law_found", "_law_turn", "_law_k"] ["_law_moves", "_law_many"] (defScope s_powers) := ⟨rfl, rfl, rfl, by decide +kernel, rfl, by decide +kernel, by decide +kernel⟩
theorem ok_powers {f : Addr} {fd : FuncData} (F : Fun K "_law_powers" "_law_powers" s_powers f fd) (T : Bare mg)  : FnOk P w K mg base (L2.CX P w) 1 f fd ["_law_moves", "_law_many"] (spF K C mg F_powers) := by
  refine fn_okX F sc_powers fun cdv A outer s H E pen hr => ?_
  have tk : Takes (cxOf (L2.CX P w) P w K mg base ["_law_moves", "_law_many", "_law_found", "_law_turn", "_law_k"] "_law_powers" (defScope s_powers) f cdv A outer s H E) (fun cls d _ H' => E cls d H') := takes_of rfl rfl rfl rfl
  have hp : PassesOwn (model P w) (cxOf (L2.CX P w) P w K mg base ["_law_moves", "_law_many", "_law_found", "_law_turn", "_law_k"] "_law_powers" (defScope s_powers) f cdv A outer s H E).A (cxOf (L2.CX P w) P w K mg base ["_law_moves", "_law_many", "_law_found", "_law_turn", "_law_k"] "_law_powers" (defScope s_powers) f cdv A outer s H E).env (cxOf (L2.CX P w) P w K mg base ["_law_moves", "_law_many", "_law_found", "_law_turn", "_law_k"] "_law_powers" (defScope s_powers) f cdv A outer s H E).xe := passes_of rfl
  exact (ss_cons (s_set (i := 2) sc_powers.nd rfl (Or.inl rfl) (f_rgL rfl rfl T.n_list (g_1 rfl T.n_range (toE (f_callB (call_lenF rfl) rfl T.n_len (by decide +kernel) (a_cons (fv 0) a_nil))))))
      (ss_frz 2 (ss_cons (s_for hp rfl (i_range1 rfl T.n_range (a_cons (fv 1) a_nil)) (tg_name (i := 3) sc_powers.nd rfl (Or.inl rfl))
      (ss_frz 2 (ss_one (s_setLc (i := 2) (own := [("_law_k", 4)]) (t := (.name 4)) rfl sc_powers.nd rfl rfl (sw_true rfl rfl rfl (by decide +kernel)) (i_any (fv 2)) (blkOk_by (own := [("_law_k", 4)]) (N := ["_law_moves", "_law_many", "_law_found", "_law_turn", "_law_k"]) (sc := defScope s_powers) (by decide +kernel)) (by decide) (fun _ _ _ _ _ => (tg_name (i := 4) sc_powers.nd rfl (Or.inl rfl))) (fun _ _ _ _ _ => ts_nil) (fun _ _ _ _ _ => (toE (f_ix (fv 0) (fv 4) (fun _ _ => rfl))))))))
      (ss_one (s_ret (fv 2))))))
abbrev s_four : Stmt := top 47
theorem sc_four : FnScope ["_law_moves", "_law_x", "_law_y"] [] (defScope s_four) := ⟨rfl, rfl, rfl, by decide +kernel, rfl, by decide +kernel, by decide +kernel⟩
theorem ok_four {f : Addr} {fd : FuncData} (F : Fun K "_law_four" "_law_four" s_four f fd) (T : Bare mg)  : FnOk P w K mg base (L2.CX P w) 1 f fd [] (spF K C mg F_four) := by
  refine fn_okX F sc_four fun cdv A outer s H E pen hr => ?_
  have tk : Takes (cxOf (L2.CX P w) P w K mg base ["_law_moves", "_law_x", "_law_y"] "_law_four" (defScope s_four) f cdv A outer s H E) (fun cls d _ H' => E cls d H') := takes_of rfl rfl rfl rfl
  have hp : PassesOwn (model P w) (cxOf (L2.CX P w) P w K mg base ["_law_moves", "_law_x", "_law_y"] "_law_four" (defScope s_four) f cdv A outer s H E).A (cxOf (L2.CX P w) P w K mg base ["_law_moves", "_law_x", "_law_y"] "_law_four" (defScope s_four) f cdv A outer s H E).env (cxOf (L2.CX P w) P w K mg base ["_law_moves", "_law_x", "_law_y"] "_law_four" (defScope s_four) f cdv A outer s H E).xe := passes_of rfl
  exact (ss_cons (s_set (i := 0) sc_four.nd rfl (Or.inr rfl) (f_lst (a_cons (lockN (f_lst (a_cons (toE f_int) (a_cons (toE f_int) (a_cons (toE f_int) (a_cons (toE f_int) a_nil)))))) (a_cons (lockN (f_lst (a_cons (toE f_int) (a_cons (toE f_int) (a_cons (toE f_int) (a_cons (toE f_int) a_nil)))))) (a_cons (lockN (f_lst (a_cons (toE f_int) (a_cons (toE f_int) (a_cons (toE f_int) (a_cons (toE f_int) a_nil)))))) (a_cons (lockN (f_lst (a_cons (toE f_int) (a_cons (toE f_int) (a_cons (toE f_int) (a_cons (toE f_int) a_nil)))))) a_nil))))))
      (ss_one (s_ret (toE (f_comp (own := [("_law_x", 1)]) (t := (.name 1)) rfl sc_four.nd (i_range1 rfl T.n_range (a_cons (toE f_int) a_nil)) (blkOk_by (own := [("_law_x", 1)]) (N := ["_law_moves", "_law_x", "_law_y"]) (sc := defScope s_four) (by decide +kernel)) (by decide) (fun _ _ _ _ _ => (tg_name (i := 1) sc_four.nd rfl (Or.inr rfl))) (fun _ _ _ _ _ => ts_nil) (fun _ _ _ _ _ => (lockN (f_comp (own := [("_law_y", 2)]) (t := (.name 2)) rfl sc_four.nd (i_range1 rfl T.n_range (a_cons (toE f_int) a_nil)) (blkOk_by (own := [("_law_y", 2)]) (N := ["_law_moves", "_law_x", "_law_y"]) (sc := { kind := .function, names := [(".0", .local), ("_law_x", .cell), ("range", .globalImplicit), ("_law_moves", .cell)], isGenerator := false, isCoroutine := false }) (by decide +kernel)) (by decide) (fun _ _ _ _ _ => (tg_name (i := 2) sc_four.nd rfl (Or.inl rfl))) (fun _ _ _ _ _ => ts_nil) (fun _ _ _ _ _ => (toE (f_tup (a_cons (toE (f_ix (toE (f_ix (fv 0) (fv 1) (fun _ _ => rfl))) (fv 2) (fun _ _ => rfl))) (a_cons (toE (f_index (toE (f_ix (fv 0) (toE (f_ix (toE (f_ix (fv 0) (fv 1) (fun _ _ => rfl))) (fv 2) (fun _ _ => rfl))) (fun _ _ => rfl))) (fv 1))) a_nil)))))))))))))
abbrev s_side_by_side : Stmt := top 48
theorem sc_side_by_side : FnScope ["_law_one", "_law_other", "_law_many", "_law_pairs", "_law_x", "_law_row", "_law_y", "_law_a", "_law_b"] ["_law_one", "_law_other"] (defScope s_side_by_side) := ⟨rfl, rfl, rfl, by decide +kernel, rfl, by decide +kernel, by decide +kernel⟩
theorem ok_side_by_side {f : Addr} {fd : FuncData} (F : Fun K "_law_side_by_side" "_law_side_by_side" s_side_by_side f fd) (T : Bare mg)  : FnOk P w K mg base (L2.CX P w) 1 f fd ["_law_one", "_law_other"] (spF K C mg F_side_by_side) := by
  refine fn_okX F sc_side_by_side fun cdv A outer s H E pen hr => ?_
  have tk : Takes (cxOf (L2.CX P w) P w K mg base ["_law_one", "_law_other", "_law_many", "_law_pairs", "_law_x", "_law_row", "_law_y", "_law_a", "_law_b"] "_law_side_by_side" (defScope s_side_by_side) f cdv A outer s H E) (fun cls d _ H' => E cls d H') := takes_of rfl rfl rfl rfl
  have hp : PassesOwn (model P w) (cxOf (L2.CX P w) P w K mg base ["_law_one", "_law_other", "_law_many", "_law_pairs", "_law_x", "_law_row", "_law_y", "_law_a", "_law_b"] "_law_side_by_side" (defScope s_side_by_side) f cdv A outer s H E).A (cxOf (L2.CX P w) P w K mg base ["_law_one", "_law_other", "_law_many", "_law_pairs", "_law_x", "_law_row", "_law_y", "_law_a", "_law_b"] "_law_side_by_side" (defScope s_side_by_side) f cdv A outer s H E).env (cxOf (L2.CX P w) P w K mg base ["_law_one", "_law_other", "_law_many", "_law_pairs", "_law_x", "_law_row", "_law_y", "_law_a", "_law_b"] "_law_side_by_side" (defScope s_side_by_side) f cdv A outer s H E).xe := passes_of rfl
  exact (ss_cons (s_par (i := 2) (j := 3) rfl sc_side_by_side.nd rfl rfl (by decide) rfl rfl (n_cons (f_callB (call_lenF rfl) rfl T.n_len (by decide +kernel) (a_cons (fv 1) a_nil)) (n_cons (f_lst a_nil) n_nil)) (by rfl))
      (ss_cons (s_for hp rfl (i_range1 rfl T.n_range (a_cons (toE (f_op op_mulD (toE (f_callB (call_lenF rfl) rfl T.n_len (by decide +kernel) (a_cons (fv 0) a_nil))) (fv 2))) a_nil)) (tg_name (i := 4) sc_side_by_side.nd rfl (Or.inl rfl))
      (ss_cons (s_set (i := 5) sc_side_by_side.nd rfl (Or.inl rfl) (f_lst a_nil))
      (ss_cons (s_for hp rfl (i_range1 rfl T.n_range (a_cons (toE (f_op op_mulD (toE (f_callB (call_lenF rfl) rfl T.n_len (by decide +kernel) (a_cons (fv 0) a_nil))) (fv 2))) a_nil)) (tg_name (i := 6) sc_side_by_side.nd rfl (Or.inl rfl))
      (ss_cons (s_set (i := 7) sc_side_by_side.nd rfl (Or.inl rfl) (f_ix (toE (f_ix (fv 0) (toE (f_op op_fdivD (fv 4) (fv 2))) (fun _ _ => rfl))) (toE (f_op op_fdivD (fv 6) (fv 2))) (fun _ _ => rfl)))
      (ss_cons (s_set (i := 8) sc_side_by_side.nd rfl (Or.inl rfl) (f_ix (toE (f_ix (fv 1) (toE (f_op op_modD (fv 4) (fv 2))) (fun _ _ => rfl))) (toE (f_op op_modD (fv 6) (fv 2))) (fun _ _ => rfl)))
      (ss_one (s_append (i := 5) rfl (Or.inl rfl) (by decide) (by decide) (toE (f_tup (a_cons (toE (f_op op_addD (toE (f_op op_mulD (toE (f_ix (fv 7) (toE f_int) (fun _ _ => rfl))) (fv 2))) (toE (f_ix (fv 8) (toE f_int) (fun _ _ => rfl))))) (a_cons (toE (f_op op_addD (toE (f_op op_mulD (toE (f_ix (fv 7) (toE f_int) (fun _ _ => rfl))) (fv 2))) (toE (f_ix (fv 8) (toE f_int) (fun _ _ => rfl))))) a_nil)))))))))
      (ss_frz 5 (ss_one (s_append (i := 3) rfl (Or.inl rfl) (by decide) (by decide) (fv 5)))))))
      (ss_one (s_ret (fv 3)))))
abbrev s_behind_pairs : Stmt := top 49
theorem sc_behind_pairs : FnScope ["_law_pairs", "_law_many", "_law_x", "_law_y"] ["_law_pairs"] (defScope s_behind_pairs) := ⟨rfl, rfl, rfl, by decide +kernel, rfl, by decide +kernel, by decide +kernel⟩
theorem ok_behind_pairs {f : Addr} {fd : FuncData} (F : Fun K "_law_behind_pairs" "_law_behind_pairs" s_behind_pairs f fd) (T : Bare mg)  : FnOk P w K mg base (L2.CX P w) 1 f fd ["_law_pairs"] (spF K C mg F_behind_pairs) := by
  refine fn_okX F sc_behind_pairs fun cdv A outer s H E pen hr => ?_
  have tk : Takes (cxOf (L2.CX P w) P w K mg base ["_law_pairs", "_law_many", "_law_x", "_law_y"] "_law_behind_pairs" (defScope s_behind_pairs) f cdv A outer s H E) (fun cls d _ H' => E cls d H') := takes_of rfl rfl rfl rfl
  have hp : PassesOwn (model P w) (cxOf (L2.CX P w) P w K mg base ["_law_pairs", "_law_many", "_law_x", "_law_y"] "_law_behind_pairs" (defScope s_behind_pairs) f cdv A outer s H E).A (cxOf (L2.CX P w) P w K mg base ["_law_pairs", "_law_many", "_law_x", "_law_y"] "_law_behind_pairs" (defScope s_behind_pairs) f cdv A outer s H E).env (cxOf (L2.CX P w) P w K mg base ["_law_pairs", "_law_many", "_law_x", "_law_y"] "_law_behind_pairs" (defScope s_behind_pairs) f cdv A outer s H E).xe := passes_of rfl
  exact (ss_cons (s_set (i := 1) sc_behind_pairs.nd rfl (Or.inr rfl) (f_callB (call_lenF rfl) rfl T.n_len (by decide +kernel) (a_cons (fv 0) a_nil)))
      (ss_one (s_ret (toE (f_comp (own := [("_law_x", 2)]) (t := (.name 2)) rfl sc_behind_pairs.nd (i_range1 rfl T.n_range (a_cons (fv 1) a_nil)) (blkOk_by (own := [("_law_x", 2)]) (N := ["_law_pairs", "_law_many", "_law_x", "_law_y"]) (sc := defScope s_behind_pairs) (by decide +kernel)) (by decide) (fun _ _ _ _ _ => (tg_name (i := 2) sc_behind_pairs.nd rfl (Or.inr rfl))) (fun _ _ _ _ _ => ts_nil) (fun _ _ _ _ _ => (lockN (f_comp (own := [("_law_y", 3)]) (t := (.name 3)) rfl sc_behind_pairs.nd (i_range1 rfl T.n_range (a_cons (fv 1) a_nil)) (blkOk_by (own := [("_law_y", 3)]) (N := ["_law_pairs", "_law_many", "_law_x", "_law_y"]) (sc := { kind := .function, names := [(".0", .local), ("_law_x", .cell), ("range", .globalImplicit), ("_law_many", .cell), ("_law_pairs", .cell)], isGenerator := false, isCoroutine := false }) (by decide +kernel)) (by decide) (fun _ _ _ _ _ => (tg_name (i := 3) sc_behind_pairs.nd rfl (Or.inl rfl))) (fun _ _ _ _ _ => ts_nil) (fun _ _ _ _ _ => (toE (f_tup (a_cons (toE (f_ix (toE (f_ix (toE (f_ix (fv 0) (fv 3) (fun _ _ => rfl))) (fv 2) (fun _ _ => rfl))) (toE f_int) (fun _ _ => rfl))) (a_cons (toE (f_ix (toE (f_ix (toE (f_ix (fv 0) (fv 3) (fun _ _ => rfl))) (fv 2) (fun _ _ => rfl))) (toE f_int) (fun _ _ => rfl))) a_nil)))))))))))))
abbrev s_called : Stmt := top 50
theorem sc_called : FnScope ["_law_pairs", "_law_moves", "_law_many", "_law_found", "_law_back", "_law_x", "_law_line", "_law_k", "_law_y", "_law_first", "_law_second"] ["_law_pairs", "_law_moves"] (defScope s_called) := ⟨rfl, rfl, rfl, by decide +kernel, rfl, by decide +kernel, by decide +kernel⟩
theorem ok_called {f : Addr} {fd : FuncData} (F : Fun K "_law_called" "_law_called" s_called f fd) (T : Bare mg)  : FnOk P w K mg base (L2.CX P w) 1 f fd ["_law_pairs", "_law_moves"] (spF K C mg F_called) := by
  refine fn_okX F sc_called fun cdv A outer s H E pen hr => ?_
  have tk : Takes (cxOf (L2.CX P w) P w K mg base ["_law_pairs", "_law_moves", "_law_many", "_law_found", "_law_back", "_law_x", "_law_line", "_law_k", "_law_y", "_law_first", "_law_second"] "_law_called" (defScope s_called) f cdv A outer s H E) (fun cls d _ H' => E cls d H') := takes_of rfl rfl rfl rfl
  have hp : PassesOwn (model P w) (cxOf (L2.CX P w) P w K mg base ["_law_pairs", "_law_moves", "_law_many", "_law_found", "_law_back", "_law_x", "_law_line", "_law_k", "_law_y", "_law_first", "_law_second"] "_law_called" (defScope s_called) f cdv A outer s H E).A (cxOf (L2.CX P w) P w K mg base ["_law_pairs", "_law_moves", "_law_many", "_law_found", "_law_back", "_law_x", "_law_line", "_law_k", "_law_y", "_law_first", "_law_second"] "_law_called" (defScope s_called) f cdv A outer s H E).env (cxOf (L2.CX P w) P w K mg base ["_law_pairs", "_law_moves", "_law_many", "_law_found", "_law_back", "_law_x", "_law_line", "_law_k", "_law_y", "_law_first", "_law_second"] "_law_called" (defScope s_called) f cdv A outer s H E).xe := passes_of rfl
  exact (ss_cons (s_par (i := 2) (j := 3) rfl sc_called.nd rfl rfl (by decide) rfl rfl (n_cons (f_callB (call_lenF rfl) rfl T.n_len (by decide +kernel) (a_cons (fv 0) a_nil)) (n_cons (f_lst a_nil) n_nil)) (by rfl))
      (ss_cons (s_set (i := 4) sc_called.nd rfl (Or.inr rfl) (f_comp (own := [("_law_k", 7)]) (t := (.name 7)) rfl sc_called.nd (i_range1 rfl T.n_range (a_cons (fv 2) a_nil)) (blkOk_by (own := [("_law_k", 7)]) (N := ["_law_pairs", "_law_moves", "_law_many", "_law_found", "_law_back", "_law_x", "_law_line", "_law_k", "_law_y", "_law_first", "_law_second"]) (sc := defScope s_called) (by decide +kernel)) (by decide) (fun _ _ _ _ _ => (tg_name (i := 7) sc_called.nd rfl (Or.inl rfl))) (fun _ _ _ _ _ => ts_nil) (fun _ _ _ _ _ => (toE (f_index (fv 1) (fv 7))))))
      (ss_frz 6 (ss_cons (s_for hp rfl (i_range1 rfl T.n_range (a_cons (fv 2) a_nil)) (tg_name (i := 5) sc_called.nd rfl (Or.inr rfl))
      (ss_cons (s_setLc (i := 6) (own := [("_law_y", 8)]) (t := (.name 8)) rfl sc_called.nd rfl rfl (sw_true rfl rfl rfl (by decide +kernel)) (i_range1 rfl T.n_range (a_cons (fv 2) a_nil)) (blkOk_by (own := [("_law_y", 8)]) (N := ["_law_pairs", "_law_moves", "_law_many", "_law_found", "_law_back", "_law_x", "_law_line", "_law_k", "_law_y", "_law_first", "_law_second"]) (sc := defScope s_called) (by decide +kernel)) (by decide) (fun _ _ _ _ _ => (tg_name (i := 8) sc_called.nd rfl (Or.inl rfl))) (fun _ _ _ _ _ => ts_nil) (fun _ _ _ _ _ => (toE (f_ix (toE (f_ix (fv 0) (toE (f_ix (fv 4) (fv 5) (fun _ _ => rfl))) (fun _ _ => rfl))) (toE (f_ix (fv 4) (fv 8) (fun _ _ => rfl))) (fun _ _ => rfl)))))
      (ss_frz 6 (ss_one (s_append (i := 3) rfl (Or.inl rfl) (by decide) (by decide) (lockN (f_comp (own := [("_law_first", 9), ("_law_second", 10)]) (t := (.tup [(.name 9), (.name 10)])) rfl sc_called.nd (i_any (fv 6)) (blkOk_by (own := [("_law_first", 9), ("_law_second", 10)]) (N := ["_law_pairs", "_law_moves", "_law_many", "_law_found", "_law_back", "_law_x", "_law_line", "_law_k", "_law_y", "_law_first", "_law_second"]) (sc := defScope s_called) (by decide +kernel)) (by decide) (fun _ _ _ _ _ => (tg_tup rfl rfl (tgs_cons (tg_name (i := 9) sc_called.nd rfl (Or.inl rfl)) (tgs_cons (tg_name (i := 10) sc_called.nd rfl (Or.inl rfl)) tgs_nil)))) (fun _ _ _ _ _ => ts_nil) (fun _ _ _ _ _ => (toE (f_tup (a_cons (toE (f_ix (fv 1) (fv 9) (fun _ _ => rfl))) (a_cons (toE (f_ix (fv 1) (fv 10) (fun _ _ => rfl))) a_nil))))))))))))
      (ss_one (s_ret (fv 3)))))))
abbrev s_marks : Stmt := top 59
theorem sc_marks : FnScope ["_law_raw_here", "_law_line", "_law_k"] ["_law_raw_here", "_law_line"] (defScope s_marks) := ⟨rfl, rfl, rfl, by decide +kernel, rfl, by decide +kernel, by decide +kernel⟩
theorem ok_marks {f : Addr} {fd : FuncData} (F : Fun K "_law_marks" "_law_marks" s_marks f fd) (T : Bare mg)  : FnOk P w K mg base (L2.CX P w) 1 f fd ["_law_raw_here", "_law_line"] (spF K C mg F_marks) := by
  refine fn_okX F sc_marks fun cdv A outer s H E pen hr => ?_
  have tk : Takes (cxOf (L2.CX P w) P w K mg base ["_law_raw_here", "_law_line", "_law_k"] "_law_marks" (defScope s_marks) f cdv A outer s H E) (fun cls d _ H' => E cls d H') := takes_of rfl rfl rfl rfl
  have hp : PassesOwn (model P w) (cxOf (L2.CX P w) P w K mg base ["_law_raw_here", "_law_line", "_law_k"] "_law_marks" (defScope s_marks) f cdv A outer s H E).A (cxOf (L2.CX P w) P w K mg base ["_law_raw_here", "_law_line", "_law_k"] "_law_marks" (defScope s_marks) f cdv A outer s H E).env (cxOf (L2.CX P w) P w K mg base ["_law_raw_here", "_law_line", "_law_k"] "_law_marks" (defScope s_marks) f cdv A outer s H E).xe := passes_of rfl
  exact (ss_one (s_ret (toE (f_callTy call_tupleG rfl T.n_tuple (by decide +kernel) (a_cons (toE (f_comp (own := [("_law_k", 2)]) (t := (.name 2)) rfl sc_marks.nd (i_any (fv 1)) (blkOk_by (own := [("_law_k", 2)]) (N := ["_law_raw_here", "_law_line", "_law_k"]) (sc := defScope s_marks) (by decide +kernel)) (by decide) (fun _ _ _ _ _ => (tg_name (i := 2) sc_marks.nd rfl (Or.inl rfl))) (fun _ _ _ _ _ => ts_nil) (fun _ _ _ _ _ => (toE (f_ix (toE (f_ix (fv 0) (toE f_int) (fun _ _ => rfl))) (fv 2) (fun _ _ => rfl)))))) a_nil)))))
abbrev s_row_fault : Stmt := top 13
theorem sc_row_fault : FnScope ["table", "row", "marks", "at", "mark"] ["table", "row"] (defScope s_row_fault) := ⟨rfl, rfl, rfl, by decide +kernel, rfl, by decide +kernel, by decide +kernel⟩
theorem ok_row_fault {f : Addr} {fd : FuncData} (F : Fun K "row_fault" "row_fault" s_row_fault f fd) (T : Bare mg) (C_PLACES : ∃ t, mg "PLACES" = some (.int 60 t)) {f0 : Addr} (TC : TabC K mg C f0) (D_Table_marks : HasMF P w K mg base C 1 "marks" ["self"] F_Table_marks) (D_is_listing : HasF P w K mg base C 1 "is_listing" ["thing"] F_is_listing) : FnOk P w K mg base (L2.CX P w) 2 f fd ["table", "row"] (spF K C mg F_row_fault) := by
  obtain ⟨_, _, G_Table_marks, M_Table_marks, b_Table_marks⟩ := D_Table_marks.ex
  obtain ⟨_, _, G_is_listing, m_is_listing, k_is_listing, b_is_listing⟩ := D_is_listing.ex
  refine fn_okX F sc_row_fault fun cdv A outer s H E pen hr => ?_
  have tk : Takes (cxOf (L2.CX P w) P w K mg base ["table", "row", "marks", "at", "mark"] "row_fault" (defScope s_row_fault) f cdv A outer s H E) (fun cls d _ H' => E cls d H') := takes_of rfl rfl rfl rfl
  have hp : PassesOwn (model P w) (cxOf (L2.CX P w) P w K mg base ["table", "row", "marks", "at", "mark"] "row_fault" (defScope s_row_fault) f cdv A outer s H E).A (cxOf (L2.CX P w) P w K mg base ["table", "row", "marks", "at", "mark"] "row_fault" (defScope s_row_fault) f cdv A outer s H E).env (cxOf (L2.CX P w) P w K mg base ["table", "row", "marks", "at", "mark"] "row_fault" (defScope s_row_fault) f cdv A outer s H E).xe := passes_of rfl
  exact (ss_cons (s_if (w_pt (w_or (t_not (t_tru (toE (f_call tk G_is_listing (hr.mono (by decide)) rfl m_is_listing k_is_listing b_is_listing (a_cons (fv 1) a_nil))) (by intro _; rfl))) (w_or1 (t_not (t_chain op_leF op_leF (toE f_int) (toE (f_callB (call_lenF rfl) rfl T.n_len (by decide +kernel) (a_cons (fv 1) a_nil))) (toE (g_int rfl C_PLACES)))))))
      (ss_one (s_ret (toE (f_neg (toE f_int))))) ss_nil)
      (ss_cons (s_set (i := 2) sc_row_fault.nd rfl (Or.inl rfl) (f_meth0 (fv 0) TC.cl M_Table_marks G_Table_marks (hr.mono (by decide)) b_Table_marks (fun _ _ => by rfl)))
      (ss_cons (s_for hp rfl (i_enum rfl T.n_enumerate (a_cons (fv 1) a_nil)) (tg_tup rfl rfl (tgs_cons (tg_name (i := 3) sc_row_fault.nd rfl (Or.inl rfl)) (tgs_cons (tg_name (i := 4) sc_row_fault.nd rfl (Or.inl rfl)) tgs_nil)))
      (ss_one (s_if (t_cmp op_notInF (fv 4) (fv 2) (by rfl))
      (ss_one (s_ret (fv 3))) ss_nil)))
      (ss_one (s_ret (toE f_non))))))
abbrev s_word_fault : Stmt := top 14
theorem sc_word_fault : FnScope ["places", "word", "at", "place"] ["places", "word"] (defScope s_word_fault) := ⟨rfl, rfl, rfl, by decide +kernel, rfl, by decide +kernel, by decide +kernel⟩
theorem ok_word_fault {f : Addr} {fd : FuncData} (F : Fun K "word_fault" "word_fault" s_word_fault f fd) (T : Bare mg) (C_WORD : ∃ t, mg "WORD" = some (.int 2000 t)) (D_is_listing : HasF P w K mg base C 1 "is_listing" ["thing"] F_is_listing) (D_is_number : HasF P w K mg base C 1 "is_number" ["thing", "least", "most"] F_is_number) : FnOk P w K mg base (L2.CX P w) 2 f fd ["places", "word"] (spF K C mg F_word_fault) := by
  obtain ⟨_, _, G_is_listing, m_is_listing, k_is_listing, b_is_listing⟩ := D_is_listing.ex
  obtain ⟨_, _, G_is_number, m_is_number, k_is_number, b_is_number⟩ := D_is_number.ex
  refine fn_okX F sc_word_fault fun cdv A outer s H E pen hr => ?_
  have tk : Takes (cxOf (L2.CX P w) P w K mg base ["places", "word", "at", "place"] "word_fault" (defScope s_word_fault) f cdv A outer s H E) (fun cls d _ H' => E cls d H') := takes_of rfl rfl rfl rfl
  have hp : PassesOwn (model P w) (cxOf (L2.CX P w) P w K mg base ["places", "word", "at", "place"] "word_fault" (defScope s_word_fault) f cdv A outer s H E).A (cxOf (L2.CX P w) P w K mg base ["places", "word", "at", "place"] "word_fault" (defScope s_word_fault) f cdv A outer s H E).env (cxOf (L2.CX P w) P w K mg base ["places", "word", "at", "place"] "word_fault" (defScope s_word_fault) f cdv A outer s H E).xe := passes_of rfl
  exact (ss_cons (s_if (w_pt (w_or (t_not (t_tru (toE (f_call tk G_is_listing (hr.mono (by decide)) rfl m_is_listing k_is_listing b_is_listing (a_cons (fv 1) a_nil))) (by intro _; rfl))) (w_or1 (t_cmp op_gtF (toE (f_callB (call_lenF rfl) rfl T.n_len (by decide +kernel) (a_cons (fv 1) a_nil))) (toE (g_int rfl C_WORD)) (nomark _)))))
      (ss_one (s_ret (toE (f_neg (toE f_int))))) ss_nil)
      (ss_cons (s_for hp rfl (i_enum rfl T.n_enumerate (a_cons (fv 1) a_nil)) (tg_tup rfl rfl (tgs_cons (tg_name (i := 2) sc_word_fault.nd rfl (Or.inl rfl)) (tgs_cons (tg_name (i := 3) sc_word_fault.nd rfl (Or.inl rfl)) tgs_nil)))
      (ss_one (s_if (t_not (t_tru (toE (f_call tk G_is_number (hr.mono (by decide)) rfl m_is_number k_is_number b_is_number (a_cons (fv 3) (a_cons (toE f_int) (a_cons (toE (f_op op_subD (fv 0) (toE f_int))) a_nil))))) (by intro _; rfl)))
      (ss_one (s_ret (fv 2))) ss_nil)))
      (ss_one (s_ret (toE f_non)))))
abbrev s_pass_done : Stmt := top 24
theorem sc_pass_done : FnScope ["table", "row", "place"] ["table", "row", "place"] (defScope s_pass_done) := ⟨rfl, rfl, rfl, by decide +kernel, rfl, by decide +kernel, by decide +kernel⟩
theorem ok_pass_done {f : Addr} {fd : FuncData} (F : Fun K "pass_done" "pass_done" s_pass_done f fd) (T : Bare mg) {f0 : Addr} (TC : TabC K mg C f0) (D_Table_passed : HasMF P w K mg base C 1 "passed" ["self", "one", "other"] F_Table_passed) : FnOk P w K mg base (L2.CX P w) 2 f fd ["table", "row", "place"] (spF K C mg F_pass_done) := by
  obtain ⟨_, _, G_Table_passed, M_Table_passed, b_Table_passed⟩ := D_Table_passed.ex
  refine fn_okX F sc_pass_done fun cdv A outer s H E pen hr => ?_
  have tk : Takes (cxOf (L2.CX P w) P w K mg base ["table", "row", "place"] "pass_done" (defScope s_pass_done) f cdv A outer s H E) (fun cls d _ H' => E cls d H') := takes_of rfl rfl rfl rfl
  have hp : PassesOwn (model P w) (cxOf (L2.CX P w) P w K mg base ["table", "row", "place"] "pass_done" (defScope s_pass_done) f cdv A outer s H E).A (cxOf (L2.CX P w) P w K mg base ["table", "row", "place"] "pass_done" (defScope s_pass_done) f cdv A outer s H E).env (cxOf (L2.CX P w) P w K mg base ["table", "row", "place"] "pass_done" (defScope s_pass_done) f cdv A outer s H E).xe := passes_of rfl
  exact (ss_one (s_ret (toE (f_op op_addD (toE (f_op op_addD (toE (f_slice (fv 1) o_none (o_some (fv 2)))) (toE (f_meth (fv 0) TC.cl M_Table_passed G_Table_passed (hr.mono (by decide)) b_Table_passed (a_cons (toE (f_ix (fv 1) (fv 2) (fun _ _ => rfl))) (a_cons (toE (f_ix (fv 1) (toE (f_op op_addD (fv 2) (toE f_int))) (fun _ _ => rfl))) a_nil)) (fun _ _ => by rfl))))) (toE (f_slice (fv 1) (o_some (toE (f_op op_addD (fv 2) (toE f_int)))) o_none))))))
abbrev s__are_marks : Stmt := top 25
theorem sc__are_marks : FnScope ["marks", "mark"] ["marks"] (defScope s__are_marks) := ⟨rfl, rfl, rfl, by decide +kernel, rfl, by decide +kernel, by decide +kernel⟩
theorem ok__are_marks {f : Addr} {fd : FuncData} (F : Fun K "_are_marks" "_are_marks" s__are_marks f fd) (T : Bare mg) (C_MOST_MARKS : ∃ t, mg "MOST_MARKS" = some (.int 6 t)) (D_is_listing : HasF P w K mg base C 1 "is_listing" ["thing"] F_is_listing) (D_is_name : HasF P w K mg base C 1 "is_name" ["thing"] F_is_name) : FnOk P w K mg base (L2.CX P w) 2 f fd ["marks"] (spF K C mg F__are_marks) := by
  obtain ⟨_, _, G_is_listing, m_is_listing, k_is_listing, b_is_listing⟩ := D_is_listing.ex
  obtain ⟨_, _, G_is_name, m_is_name, k_is_name, b_is_name⟩ := D_is_name.ex
  refine fn_okX F sc__are_marks fun cdv A outer s H E pen hr => ?_
  have tk : Takes (cxOf (L2.CX P w) P w K mg base ["marks", "mark"] "_are_marks" (defScope s__are_marks) f cdv A outer s H E) (fun cls d _ H' => E cls d H') := takes_of rfl rfl rfl rfl
  have hp : PassesOwn (model P w) (cxOf (L2.CX P w) P w K mg base ["marks", "mark"] "_are_marks" (defScope s__are_marks) f cdv A outer s H E).A (cxOf (L2.CX P w) P w K mg base ["marks", "mark"] "_are_marks" (defScope s__are_marks) f cdv A outer s H E).env (cxOf (L2.CX P w) P w K mg base ["marks", "mark"] "_are_marks" (defScope s__are_marks) f cdv A outer s H E).xe := passes_of rfl
  exact (ss_cons (s_if (w_pt (w_or (t_not (t_tru (toE (f_call tk G_is_listing (hr.mono (by decide)) rfl m_is_listing k_is_listing b_is_listing (a_cons (fv 0) a_nil))) (by intro _; rfl))) (w_or1 (t_not (t_chain op_leF op_leF (toE f_int) (toE (f_callB (call_lenF rfl) rfl T.n_len (by decide +kernel) (a_cons (fv 0) a_nil))) (toE (g_int rfl C_MOST_MARKS)))))))
      (ss_one (s_ret (toE f_bl))) ss_nil)
      (ss_one (s_ret (f_and (toE (f_callB (call_allF rfl) rfl T.n_all (by decide +kernel) (a_cons (toE (f_comp (own := [("mark", 1)]) (t := (.name 1)) rfl sc__are_marks.nd (i_any (fv 0)) (blkOk_by (own := [("mark", 1)]) (N := ["marks", "mark"]) (sc := defScope s__are_marks) (by decide +kernel)) (by decide) (fun _ _ _ _ _ => (tg_name (i := 1) sc__are_marks.nd rfl (Or.inl rfl))) (fun _ _ _ _ _ => ts_nil) (fun _ _ _ _ _ => (lockN (f_call takes0 G_is_name (hr.mono (by decide)) rfl m_is_name k_is_name b_is_name (a_cons (fv 1) a_nil)))))) a_nil))) (f_one (toE (f_cmp (op_eqF rfl hr.units) (toE (f_lenSet rfl rfl rfl T.n_len rfl T.n_set (fv 0))) (toE (f_callB (call_lenF rfl) rfl T.n_len (by decide +kernel) (a_cons (fv 0) a_nil))) (nomark _))))))))
abbrev s__is_full : Stmt := top 28
theorem sc__is_full : FnScope ["listing", "marks"] ["listing", "marks"] (defScope s__is_full) := ⟨rfl, rfl, rfl, by decide +kernel, rfl, by decide +kernel, by decide +kernel⟩
theorem ok__is_full {f : Addr} {fd : FuncData} (F : Fun K "_is_full" "_is_full" s__is_full f fd) (T : Bare mg) (D_is_listing : HasF P w K mg base C 1 "is_listing" ["thing"] F_is_listing) : FnOk P w K mg base (L2.CX P w) 2 f fd ["listing", "marks"] (spF K C mg F__is_full) := by
  obtain ⟨_, _, G_is_listing, m_is_listing, k_is_listing, b_is_listing⟩ := D_is_listing.ex
  refine fn_okX F sc__is_full fun cdv A outer s H E pen hr => ?_
  have tk : Takes (cxOf (L2.CX P w) P w K mg base ["listing", "marks"] "_is_full" (defScope s__is_full) f cdv A outer s H E) (fun cls d _ H' => E cls d H') := takes_of rfl rfl rfl rfl
  have hp : PassesOwn (model P w) (cxOf (L2.CX P w) P w K mg base ["listing", "marks"] "_is_full" (defScope s__is_full) f cdv A outer s H E).A (cxOf (L2.CX P w) P w K mg base ["listing", "marks"] "_is_full" (defScope s__is_full) f cdv A outer s H E).env (cxOf (L2.CX P w) P w K mg base ["listing", "marks"] "_is_full" (defScope s__is_full) f cdv A outer s H E).xe := passes_of rfl
  exact (ss_one (s_ret (f_and (toE (f_call tk G_is_listing (hr.mono (by decide)) rfl m_is_listing k_is_listing b_is_listing (a_cons (fv 0) a_nil))) (f_one (toE (f_cmp (op_eqF rfl hr.units) (toE (f_callB (call_lenF rfl) rfl T.n_len (by decide +kernel) (a_cons (fv 0) a_nil))) (toE (f_callB (call_lenF rfl) rfl T.n_len (by decide +kernel) (a_cons (fv 1) a_nil))) (nomark _)))))))
abbrev s__is_pair : Stmt := top 29
theorem sc__is_pair : FnScope ["pair", "marks", "mark"] ["pair", "marks"] (defScope s__is_pair) := ⟨rfl, rfl, rfl, by decide +kernel, rfl, by decide +kernel, by decide +kernel⟩
theorem ok__is_pair {f : Addr} {fd : FuncData} (F : Fun K "_is_pair" "_is_pair" s__is_pair f fd) (T : Bare mg) (D_is_listing : HasF P w K mg base C 1 "is_listing" ["thing"] F_is_listing) : FnOk P w K mg base (L2.CX P w) 2 f fd ["pair", "marks"] (spF K C mg F__is_pair) := by
  obtain ⟨_, _, G_is_listing, m_is_listing, k_is_listing, b_is_listing⟩ := D_is_listing.ex
  refine fn_okX F sc__is_pair fun cdv A outer s H E pen hr => ?_
  have tk : Takes (cxOf (L2.CX P w) P w K mg base ["pair", "marks", "mark"] "_is_pair" (defScope s__is_pair) f cdv A outer s H E) (fun cls d _ H' => E cls d H') := takes_of rfl rfl rfl rfl
  have hp : PassesOwn (model P w) (cxOf (L2.CX P w) P w K mg base ["pair", "marks", "mark"] "_is_pair" (defScope s__is_pair) f cdv A outer s H E).A (cxOf (L2.CX P w) P w K mg base ["pair", "marks", "mark"] "_is_pair" (defScope s__is_pair) f cdv A outer s H E).env (cxOf (L2.CX P w) P w K mg base ["pair", "marks", "mark"] "_is_pair" (defScope s__is_pair) f cdv A outer s H E).xe := passes_of rfl
  exact (ss_one (s_ret (f_and (toE (f_call tk G_is_listing (hr.mono (by decide)) rfl m_is_listing k_is_listing b_is_listing (a_cons (fv 0) a_nil))) (f_and (toE (f_cmp (op_eqF rfl hr.units) (toE (f_callB (call_lenF rfl) rfl T.n_len (by decide +kernel) (a_cons (fv 0) a_nil))) (toE f_int) (nomark _))) (f_one (toE (f_callB (call_allF rfl) rfl T.n_all (by decide +kernel) (a_cons (toE (f_comp (own := [("mark", 2)]) (t := (.name 2)) rfl sc__is_pair.nd (i_any (fv 0)) (blkOk_by (own := [("mark", 2)]) (N := ["pair", "marks", "mark"]) (sc := defScope s__is_pair) (by decide +kernel)) (by decide) (fun _ _ _ _ _ => (tg_name (i := 2) sc__is_pair.nd rfl (Or.inl rfl))) (fun _ _ _ _ _ => ts_nil) (fun _ _ _ _ _ => (toE (f_cmp op_inF (fv 2) (fv 1) (by rfl)))))) a_nil))))))))
abbrev s__mark_out : Stmt := top 35
theorem sc__mark_out : FnScope ["table", "mark", "row", "other"] ["table", "mark", "row"] (defScope s__mark_out) := ⟨rfl, rfl, rfl, by decide +kernel, rfl, by decide +kernel, by decide +kernel⟩
theorem ok__mark_out {f : Addr} {fd : FuncData} (F : Fun K "_mark_out" "_mark_out" s__mark_out f fd) (T : Bare mg) {f0 : Addr} (TC : TabC K mg C f0) (D_Table_passed : HasMF P w K mg base C 1 "passed" ["self", "one", "other"] F_Table_passed) : FnOk P w K mg base (L2.CX P w) 2 f fd ["table", "mark", "row"] (spF K C mg F__mark_out) := by
  obtain ⟨_, _, G_Table_passed, M_Table_passed, b_Table_passed⟩ := D_Table_passed.ex
  refine fn_okX F sc__mark_out fun cdv A outer s H E pen hr => ?_
  have tk : Takes (cxOf (L2.CX P w) P w K mg base ["table", "mark", "row", "other"] "_mark_out" (defScope s__mark_out) f cdv A outer s H E) (fun cls d _ H' => E cls d H') := takes_of rfl rfl rfl rfl
  have hp : PassesOwn (model P w) (cxOf (L2.CX P w) P w K mg base ["table", "mark", "row", "other"] "_mark_out" (defScope s__mark_out) f cdv A outer s H E).A (cxOf (L2.CX P w) P w K mg base ["table", "mark", "row", "other"] "_mark_out" (defScope s__mark_out) f cdv A outer s H E).env (cxOf (L2.CX P w) P w K mg base ["table", "mark", "row", "other"] "_mark_out" (defScope s__mark_out) f cdv A outer s H E).xe := passes_of rfl
  exact (ss_cons (s_for hp rfl (i_any (fv 2)) (tg_name (i := 3) sc__mark_out.nd rfl (Or.inl rfl))
      (ss_one (s_set (i := 1) sc__mark_out.nd rfl (Or.inl rfl) (f_ix (toE (f_meth (fv 0) TC.cl M_Table_passed G_Table_passed (hr.mono (by decide)) b_Table_passed (a_cons (fv 1) (a_cons (fv 3) a_nil)) (fun _ _ => by rfl))) (toE f_int) (fun _ _ => rfl)))))
      (ss_one (s_ret (fv 1))))
abbrev s_pick : Stmt := top 42
theorem sc_pick : FnScope ["_law_pen_here", "_law_some"] ["_law_pen_here", "_law_some"] (defScope s_pick) := ⟨rfl, rfl, rfl, by decide +kernel, rfl, by decide +kernel, by decide +kernel⟩
theorem ok_pick {f : Addr} {fd : FuncData} (F : Fun K "_law_pick" "_law_pick" s_pick f fd) (T : Bare mg) (D_draw : HasF P w K mg base C 1 "_law_draw" ["_law_pen_here", "_law_many"] F_draw) : FnOk P w K mg base (L2.CX P w) 2 f fd ["_law_pen_here", "_law_some"] (spF K C mg F_pick) := by
  obtain ⟨_, _, G_draw, m_draw, k_draw, b_draw⟩ := D_draw.ex
  refine fn_okX F sc_pick fun cdv A outer s H E pen hr => ?_
  have tk : Takes (cxOf (L2.CX P w) P w K mg base ["_law_pen_here", "_law_some"] "_law_pick" (defScope s_pick) f cdv A outer s H E) (fun cls d _ H' => E cls d H') := takes_of rfl rfl rfl rfl
  have hp : PassesOwn (model P w) (cxOf (L2.CX P w) P w K mg base ["_law_pen_here", "_law_some"] "_law_pick" (defScope s_pick) f cdv A outer s H E).A (cxOf (L2.CX P w) P w K mg base ["_law_pen_here", "_law_some"] "_law_pick" (defScope s_pick) f cdv A outer s H E).env (cxOf (L2.CX P w) P w K mg base ["_law_pen_here", "_law_some"] "_law_pick" (defScope s_pick) f cdv A outer s H E).xe := passes_of rfl
  exact (ss_one (s_ret (toE (f_ix (fv 1) (toE (f_call tk G_draw (hr.mono (by decide)) rfl m_draw k_draw b_draw (a_cons (fv 0) (a_cons (toE (f_callB (call_lenF rfl) rfl T.n_len (by decide +kernel) (a_cons (fv 1) a_nil))) a_nil)))) (fun _ _ => rfl)))))
abbrev s_shuffled : Stmt := top 43
theorem sc_shuffled : FnScope ["_law_pen_here", "_law_some", "_law_rest", "_law_found"] ["_law_pen_here", "_law_some"] (defScope s_shuffled) := ⟨rfl, rfl, rfl, by decide +kernel, rfl, by decide +kernel, by decide +kernel⟩
theorem ok_shuffled {f : Addr} {fd : FuncData} (F : Fun K "_law_shuffled" "_law_shuffled" s_shuffled f fd) (T : Bare mg) (D_draw : HasF P w K mg base C 1 "_law_draw" ["_law_pen_here", "_law_many"] F_draw) : FnOk P w K mg base (L2.CX P w) 2 f fd ["_law_pen_here", "_law_some"] (spF K C mg F_shuffled) := by
  obtain ⟨_, _, G_draw, m_draw, k_draw, b_draw⟩ := D_draw.ex
  refine fn_okX F sc_shuffled fun cdv A outer s H E pen hr => ?_
  have tk : Takes (cxOf (L2.CX P w) P w K mg base ["_law_pen_here", "_law_some", "_law_rest", "_law_found"] "_law_shuffled" (defScope s_shuffled) f cdv A outer s H E) (fun cls d _ H' => E cls d H') := takes_of rfl rfl rfl rfl
  have hp : PassesOwn (model P w) (cxOf (L2.CX P w) P w K mg base ["_law_pen_here", "_law_some", "_law_rest", "_law_found"] "_law_shuffled" (defScope s_shuffled) f cdv A outer s H E).A (cxOf (L2.CX P w) P w K mg base ["_law_pen_here", "_law_some", "_law_rest", "_law_found"] "_law_shuffled" (defScope s_shuffled) f cdv A outer s H E).env (cxOf (L2.CX P w) P w K mg base ["_law_pen_here", "_law_some", "_law_rest", "_law_found"] "_law_shuffled" (defScope s_shuffled) f cdv A outer s H E).xe := passes_of rfl
  exact (ss_cons (s_par (i := 2) (j := 3) rfl sc_shuffled.nd rfl rfl (by decide) rfl rfl (n_cons (f_callTy call_listF rfl T.n_list (by decide +kernel) (a_cons (fv 1) a_nil)) (n_cons (f_lst a_nil) n_nil)) (by rfl))
      (ss_cons (s_while FUEL hp (t_cmp (op_neF rfl hr.units) (fv 2) (toE (f_lst a_nil)) (nomark _))
      (ss_one (s_appPop (i := 2) (j := 3) rfl (Or.inl rfl) (by decide) (by decide) rfl (Or.inl rfl) (by decide) (by decide) (toE (f_call tk G_draw (hr.mono (by decide)) rfl m_draw k_draw b_draw (a_cons (fv 0) (a_cons (toE (f_callB (call_lenF rfl) rfl T.n_len (by decide +kernel) (a_cons (fv 2) a_nil))) a_nil)))))))
      (ss_one (s_ret (fv 3)))))
abbrev s_lots_pairs : Stmt := top 46
theorem sc_lots_pairs : FnScope ["_law_pen_here", "_law_many", "_law_sizes", "_law_left_over", "_law_lot_of", "_law_spot_of", "_law_lot", "_law_size", "_law_starts", "_law_turns", "_law_pairs", "_law_x", "_law_row", "_law_y", "_law_a", "_law_b", "_law_first"] ["_law_pen_here", "_law_many"] (defScope s_lots_pairs) := ⟨rfl, rfl, rfl, by decide +kernel, rfl, by decide +kernel, by decide +kernel⟩
theorem ok_lots_pairs {f : Addr} {fd : FuncData} (F : Fun K "_law_lots_pairs" "_law_lots_pairs" s_lots_pairs f fd) (T : Bare mg) (D_draw : HasF P w K mg base C 1 "_law_draw" ["_law_pen_here", "_law_many"] F_draw) : FnOk P w K mg base (L2.CX P w) 2 f fd ["_law_pen_here", "_law_many"] (spF K C mg F_lots_pairs) := by
  obtain ⟨_, _, G_draw, m_draw, k_draw, b_draw⟩ := D_draw.ex
  refine fn_okX F sc_lots_pairs fun cdv A outer s H E pen hr => ?_
  have tk : Takes (cxOf (L2.CX P w) P w K mg base ["_law_pen_here", "_law_many", "_law_sizes", "_law_left_over", "_law_lot_of", "_law_spot_of", "_law_lot", "_law_size", "_law_starts", "_law_turns", "_law_pairs", "_law_x", "_law_row", "_law_y", "_law_a", "_law_b", "_law_first"] "_law_lots_pairs" (defScope s_lots_pairs) f cdv A outer s H E) (fun cls d _ H' => E cls d H') := takes_of rfl rfl rfl rfl
  have hp : PassesOwn (model P w) (cxOf (L2.CX P w) P w K mg base ["_law_pen_here", "_law_many", "_law_sizes", "_law_left_over", "_law_lot_of", "_law_spot_of", "_law_lot", "_law_size", "_law_starts", "_law_turns", "_law_pairs", "_law_x", "_law_row", "_law_y", "_law_a", "_law_b", "_law_first"] "_law_lots_pairs" (defScope s_lots_pairs) f cdv A outer s H E).A (cxOf (L2.CX P w) P w K mg base ["_law_pen_here", "_law_many", "_law_sizes", "_law_left_over", "_law_lot_of", "_law_spot_of", "_law_lot", "_law_size", "_law_starts", "_law_turns", "_law_pairs", "_law_x", "_law_row", "_law_y", "_law_a", "_law_b", "_law_first"] "_law_lots_pairs" (defScope s_lots_pairs) f cdv A outer s H E).env (cxOf (L2.CX P w) P w K mg base ["_law_pen_here", "_law_many", "_law_sizes", "_law_left_over", "_law_lot_of", "_law_spot_of", "_law_lot", "_law_size", "_law_starts", "_law_turns", "_law_pairs", "_law_x", "_law_row", "_law_y", "_law_a", "_law_b", "_law_first"] "_law_lots_pairs" (defScope s_lots_pairs) f cdv A outer s H E).xe := passes_of rfl
  exact (ss_cons (s_parC (is := [2, 3]) rfl (pn_cons (pg_name (i := 2) sc_lots_pairs.nd rfl (Or.inr rfl)) (pn_cons (pg_name (i := 3) sc_lots_pairs.nd rfl (Or.inl rfl)) pn_nil)) (n_cons (f_lst a_nil) (n_cons (toN (fv 1)) n_nil)) (by show 2 ≤ sizeLine; decide))
      (ss_cons (s_while FUEL hp (t_cmp op_gtF (fv 3) (toE f_int) (nomark _))
      (ss_cons (s_append (i := 2) rfl (Or.inr (Or.inl rfl)) (by decide) (by decide) (lockN (f_op op_addD (toE f_int) (toE (f_call tk G_draw (hr.mono (by decide)) rfl m_draw k_draw b_draw (a_cons (fv 0) (a_cons (fv 3) a_nil)))))))
      (ss_one (s_set (i := 3) sc_lots_pairs.nd rfl (Or.inl rfl) (f_op op_subD (fv 3) (toE (f_ix (fv 2) (toE (f_neg (toE f_int))) (fun _ _ => rfl))))))))
      (ss_cons (s_par (i := 4) (j := 5) rfl sc_lots_pairs.nd rfl rfl (by decide) rfl rfl (n_cons (f_lst a_nil) (n_cons (f_lst a_nil) n_nil)) (by rfl))
      (ss_frz 2 (ss_cons (s_for hp rfl (i_enum rfl T.n_enumerate (a_cons (fv 2) a_nil)) (tg_tup rfl rfl (tgs_cons (tg_name (i := 6) sc_lots_pairs.nd rfl (Or.inl rfl)) (tgs_cons (tg_name (i := 7) sc_lots_pairs.nd rfl (Or.inl rfl)) tgs_nil)))
      (ss_cons (s_extend (i := 4) rfl (Or.inl rfl) (by decide) (by decide) (toE (f_op op_repD (toE (f_lst (a_cons (fv 6) a_nil))) (fv 7))))
      (ss_one (s_extend (i := 5) rfl (Or.inl rfl) (by decide) (by decide) (toE (f_rgL rfl rfl T.n_list (g_1 rfl T.n_range (fv 7))))))))
      (ss_cons (s_setLc (i := 8) (own := [("_law_lot", 6)]) (t := (.name 6)) rfl sc_lots_pairs.nd rfl rfl (sw_true rfl rfl rfl (by decide +kernel)) (i_range1 rfl T.n_range (a_cons (toE (f_callB (call_lenF rfl) rfl T.n_len (by decide +kernel) (a_cons (fv 2) a_nil))) a_nil)) (blkOk_by (own := [("_law_lot", 6)]) (N := ["_law_pen_here", "_law_many", "_law_sizes", "_law_left_over", "_law_lot_of", "_law_spot_of", "_law_lot", "_law_size", "_law_starts", "_law_turns", "_law_pairs", "_law_x", "_law_row", "_law_y", "_law_a", "_law_b", "_law_first"]) (sc := defScope s_lots_pairs) (by decide +kernel)) (by decide) (fun _ _ _ _ _ => (tg_name (i := 6) sc_lots_pairs.nd rfl (Or.inl rfl))) (fun _ _ _ _ _ => ts_nil) (fun _ _ _ _ _ => (toE (f_callB (call_sumF rfl) rfl T.n_sum (by decide +kernel) (a_cons (toE (f_slice (fv 2) o_none (o_some (fv 6)))) a_nil)))))
      (ss_frz 2 (ss_cons (s_setLc (i := 9) (own := [("_law_lot", 6)]) (t := (.name 6)) rfl sc_lots_pairs.nd rfl rfl (sw_true rfl rfl rfl (by decide +kernel)) (i_any (fv 2)) (blkOk_by (own := [("_law_lot", 6)]) (N := ["_law_pen_here", "_law_many", "_law_sizes", "_law_left_over", "_law_lot_of", "_law_spot_of", "_law_lot", "_law_size", "_law_starts", "_law_turns", "_law_pairs", "_law_x", "_law_row", "_law_y", "_law_a", "_law_b", "_law_first"]) (sc := defScope s_lots_pairs) (by decide +kernel)) (by decide) (fun _ _ _ _ _ => (tg_name (i := 6) sc_lots_pairs.nd rfl (Or.inl rfl))) (fun _ _ _ _ _ => ts_nil) (fun _ _ _ _ _ => (lockN (f_comp (own := [("_law_size", 7)]) (t := (.name 7)) rfl sc_lots_pairs.nd (i_any (fv 2)) (blkOk_by (own := [("_law_size", 7)]) (N := ["_law_pen_here", "_law_many", "_law_sizes", "_law_left_over", "_law_lot_of", "_law_spot_of", "_law_lot", "_law_size", "_law_starts", "_law_turns", "_law_pairs", "_law_x", "_law_row", "_law_y", "_law_a", "_law_b", "_law_first"]) (sc := { kind := .function, names := [(".0", .local), ("_law_lot", .local), ("_law_pen_here", .cell), ("_law_sizes", .cell)], isGenerator := false, isCoroutine := false }) (by decide +kernel)) (by decide) (fun _ _ _ _ _ => (tg_name (i := 7) sc_lots_pairs.nd rfl (Or.inl rfl))) (fun _ _ _ _ _ => ts_nil) (fun _ _ _ _ _ => (lockN (f_call takes0 G_draw (hr.mono (by decide)) rfl m_draw k_draw b_draw (a_cons (fv 0) (a_cons (fv 7) a_nil)))))))))
      (ss_cons (s_set (i := 10) sc_lots_pairs.nd rfl (Or.inl rfl) (f_lst a_nil))
      (ss_cons (s_for hp rfl (i_range1 rfl T.n_range (a_cons (fv 1) a_nil)) (tg_name (i := 11) sc_lots_pairs.nd rfl (Or.inl rfl))
      (ss_cons (s_set (i := 12) sc_lots_pairs.nd rfl (Or.inl rfl) (f_lst a_nil))
      (ss_cons (s_for hp rfl (i_range1 rfl T.n_range (a_cons (fv 1) a_nil)) (tg_name (i := 13) sc_lots_pairs.nd rfl (Or.inl rfl))
      (ss_cons (s_par (i := 14) (j := 15) rfl sc_lots_pairs.nd rfl rfl (by decide) rfl rfl (n_cons (f_ix (fv 4) (fv 11) (fun _ _ => rfl)) (n_cons (f_ix (fv 4) (fv 13) (fun _ _ => rfl)) n_nil)) (by rfl))
      (ss_cons (s_set (i := 16) sc_lots_pairs.nd rfl (Or.inl rfl) (f_op op_addD (toE (f_ix (fv 8) (fv 15) (fun _ _ => rfl))) (toE (f_op op_modD (toE (f_op op_addD (toE (f_ix (fv 5) (fv 13) (fun _ _ => rfl))) (toE (f_ix (toE (f_ix (fv 9) (fv 14) (fun _ _ => rfl))) (fv 15) (fun _ _ => rfl))))) (toE (f_ix (fv 2) (fv 15) (fun _ _ => rfl)))))))
      (ss_one (s_append (i := 12) rfl (Or.inl rfl) (by decide) (by decide) (toE (f_tup (a_cons (fv 16) (a_cons (toE (f_op op_addD (toE (f_ix (fv 8) (fv 14) (fun _ _ => rfl))) (toE (f_op op_modD (toE (f_op op_subD (toE (f_ix (fv 5) (fv 11) (fun _ _ => rfl))) (toE (f_ix (toE (f_ix (fv 9) (fv 15) (fun _ _ => rfl))) (fv 14) (fun _ _ => rfl))))) (toE (f_ix (fv 2) (fv 14) (fun _ _ => rfl))))))) a_nil)))))))))
      (ss_frz 12 (ss_one (s_append (i := 10) rfl (Or.inl rfl) (by decide) (by decide) (fv 12)))))))
      (ss_one (s_ret (fv 10)))))))))))))
abbrev s_numbers : Stmt := top 58
theorem sc_numbers : FnScope ["_law_pen_here", "_law_raw_here", "_law_places", "_law_few", "_law_place"] ["_law_pen_here", "_law_raw_here", "_law_places"] (defScope s_numbers) := ⟨rfl, rfl, rfl, by decide +kernel, rfl, by decide +kernel, by decide +kernel⟩
theorem ok_numbers {f : Addr} {fd : FuncData} (F : Fun K "_law_numbers" "_law_numbers" s_numbers f fd) (T : Bare mg) (D_draw : HasF P w K mg base C 1 "_law_draw" ["_law_pen_here", "_law_many"] F_draw) : FnOk P w K mg base (L2.CX P w) 2 f fd ["_law_pen_here", "_law_raw_here", "_law_places"] (spF K C mg F_numbers) := by
  obtain ⟨_, _, G_draw, m_draw, k_draw, b_draw⟩ := D_draw.ex
  refine fn_okX F sc_numbers fun cdv A outer s H E pen hr => ?_
  have tk : Takes (cxOf (L2.CX P w) P w K mg base ["_law_pen_here", "_law_raw_here", "_law_places", "_law_few", "_law_place"] "_law_numbers" (defScope s_numbers) f cdv A outer s H E) (fun cls d _ H' => E cls d H') := takes_of rfl rfl rfl rfl
  have hp : PassesOwn (model P w) (cxOf (L2.CX P w) P w K mg base ["_law_pen_here", "_law_raw_here", "_law_places", "_law_few", "_law_place"] "_law_numbers" (defScope s_numbers) f cdv A outer s H E).A (cxOf (L2.CX P w) P w K mg base ["_law_pen_here", "_law_raw_here", "_law_places", "_law_few", "_law_place"] "_law_numbers" (defScope s_numbers) f cdv A outer s H E).env (cxOf (L2.CX P w) P w K mg base ["_law_pen_here", "_law_raw_here", "_law_places", "_law_few", "_law_place"] "_law_numbers" (defScope s_numbers) f cdv A outer s H E).xe := passes_of rfl
  exact (ss_cons (s_set (i := 3) sc_numbers.nd rfl (Or.inr rfl) (f_op op_addD (toE f_int) (toE (f_call tk G_draw (hr.mono (by decide)) rfl m_draw k_draw b_draw (a_cons (fv 0) (a_cons (toE (f_callB (call_lenF rfl) rfl T.n_len (by decide +kernel) (a_cons (toE (f_ix (fv 1) (toE f_int) (fun _ _ => rfl))) a_nil))) a_nil))))))
      (ss_frz 3 (ss_one (s_ret (toE (f_comp (own := [("_law_place", 4)]) (t := (.name 4)) rfl sc_numbers.nd (i_range1 rfl T.n_range (a_cons (fv 2) a_nil)) (blkOk_by (own := [("_law_place", 4)]) (N := ["_law_pen_here", "_law_raw_here", "_law_places", "_law_few", "_law_place"]) (sc := defScope s_numbers) (by decide +kernel)) (by decide) (fun _ _ _ _ _ => (tg_name (i := 4) sc_numbers.nd rfl (Or.inl rfl))) (fun _ _ _ _ _ => ts_nil) (fun _ _ _ _ _ => (lockN (f_call takes0 G_draw (hr.mono (by decide)) rfl m_draw k_draw b_draw (a_cons (fv 0) (a_cons (fv 3) a_nil)))))))))))
abbrev s_row_taken : Stmt := top 15
theorem sc_row_taken : FnScope ["table", "row", "at"] ["table", "row"] (defScope s_row_taken) := ⟨rfl, rfl, rfl, by decide +kernel, rfl, by decide +kernel, by decide +kernel⟩
theorem ok_row_taken {f : Addr} {fd : FuncData} (F : Fun K "row_taken" "row_taken" s_row_taken f fd) (T : Bare mg) (D_row_fault : HasF P w K mg base C 2 "row_fault" ["table", "row"] F_row_fault) : FnOk P w K mg base (L2.CX P w) 3 f fd ["table", "row"] (spF K C mg F_row_taken) := by
  obtain ⟨_, _, G_row_fault, m_row_fault, k_row_fault, b_row_fault⟩ := D_row_fault.ex
  refine fn_okX F sc_row_taken fun cdv A outer s H E pen hr => ?_
  have tk : Takes (cxOf (L2.CX P w) P w K mg base ["table", "row", "at"] "row_taken" (defScope s_row_taken) f cdv A outer s H E) (fun cls d _ H' => E cls d H') := takes_of rfl rfl rfl rfl
  have hp : PassesOwn (model P w) (cxOf (L2.CX P w) P w K mg base ["table", "row", "at"] "row_taken" (defScope s_row_taken) f cdv A outer s H E).A (cxOf (L2.CX P w) P w K mg base ["table", "row", "at"] "row_taken" (defScope s_row_taken) f cdv A outer s H E).env (cxOf (L2.CX P w) P w K mg base ["table", "row", "at"] "row_taken" (defScope s_row_taken) f cdv A outer s H E).xe := passes_of rfl
  exact (ss_cons (s_set (i := 2) sc_row_taken.nd rfl (Or.inl rfl) (f_call tk G_row_fault (hr.mono (by decide)) rfl m_row_fault k_row_fault b_row_fault (a_cons (fv 0) (a_cons (fv 1) a_nil))))
      (ss_frz 2 (ss_cons (s_if (t_cmp op_notNF (fv 2) (toE f_non) (nomark _))
      (ss_frz 2 (ss_one s_never)) ss_nil)
      (ss_one (s_ret (toE (f_callTy call_tupleG rfl T.n_tuple (by decide +kernel) (a_cons (fv 1) a_nil))))))))
abbrev s_word_taken : Stmt := top 16
theorem sc_word_taken : FnScope ["places", "word", "at"] ["places", "word"] (defScope s_word_taken) := ⟨rfl, rfl, rfl, by decide +kernel, rfl, by decide +kernel, by decide +kernel⟩
theorem ok_word_taken {f : Addr} {fd : FuncData} (F : Fun K "word_taken" "word_taken" s_word_taken f fd) (T : Bare mg) (D_word_fault : HasF P w K mg base C 2 "word_fault" ["places", "word"] F_word_fault) : FnOk P w K mg base (L2.CX P w) 3 f fd ["places", "word"] (spF K C mg F_word_taken) := by
  obtain ⟨_, _, G_word_fault, m_word_fault, k_word_fault, b_word_fault⟩ := D_word_fault.ex
  refine fn_okX F sc_word_taken fun cdv A outer s H E pen hr => ?_
  have tk : Takes (cxOf (L2.CX P w) P w K mg base ["places", "word", "at"] "word_taken" (defScope s_word_taken) f cdv A outer s H E) (fun cls d _ H' => E cls d H') := takes_of rfl rfl rfl rfl
  have hp : PassesOwn (model P w) (cxOf (L2.CX P w) P w K mg base ["places", "word", "at"] "word_taken" (defScope s_word_taken) f cdv A outer s H E).A (cxOf (L2.CX P w) P w K mg base ["places", "word", "at"] "word_taken" (defScope s_word_taken) f cdv A outer s H E).env (cxOf (L2.CX P w) P w K mg base ["places", "word", "at"] "word_taken" (defScope s_word_taken) f cdv A outer s H E).xe := passes_of rfl
  exact (ss_cons (s_set (i := 2) sc_word_taken.nd rfl (Or.inl rfl) (f_call tk G_word_fault (hr.mono (by decide)) rfl m_word_fault k_word_fault b_word_fault (a_cons (fv 0) (a_cons (fv 1) a_nil))))
      (ss_frz 2 (ss_cons (s_if (t_cmp op_notNF (fv 2) (toE f_non) (nomark _))
      (ss_frz 2 (ss_one s_never)) ss_nil)
      (ss_one (s_ret (toE (f_callTy call_tupleG rfl T.n_tuple (by decide +kernel) (a_cons (fv 1) a_nil))))))))
abbrev s__is_line : Stmt := top 27
theorem sc__is_line : FnScope ["line", "marks", "pair"] ["line", "marks"] (defScope s__is_line) := ⟨rfl, rfl, rfl, by decide +kernel, rfl, by decide +kernel, by decide +kernel⟩
theorem ok__is_line {f : Addr} {fd : FuncData} (F : Fun K "_is_line" "_is_line" s__is_line f fd) (T : Bare mg) (D__is_full : HasF P w K mg base C 2 "_is_full" ["listing", "marks"] F__is_full) (D__is_pair : HasF P w K mg base C 2 "_is_pair" ["pair", "marks"] F__is_pair) : FnOk P w K mg base (L2.CX P w) 3 f fd ["line", "marks"] (spF K C mg F__is_line) := by
  obtain ⟨_, _, G__is_full, m__is_full, k__is_full, b__is_full⟩ := D__is_full.ex
  obtain ⟨_, _, G__is_pair, m__is_pair, k__is_pair, b__is_pair⟩ := D__is_pair.ex
  refine fn_okX F sc__is_line fun cdv A outer s H E pen hr => ?_
  have tk : Takes (cxOf (L2.CX P w) P w K mg base ["line", "marks", "pair"] "_is_line" (defScope s__is_line) f cdv A outer s H E) (fun cls d _ H' => E cls d H') := takes_of rfl rfl rfl rfl
  have hp : PassesOwn (model P w) (cxOf (L2.CX P w) P w K mg base ["line", "marks", "pair"] "_is_line" (defScope s__is_line) f cdv A outer s H E).A (cxOf (L2.CX P w) P w K mg base ["line", "marks", "pair"] "_is_line" (defScope s__is_line) f cdv A outer s H E).env (cxOf (L2.CX P w) P w K mg base ["line", "marks", "pair"] "_is_line" (defScope s__is_line) f cdv A outer s H E).xe := passes_of rfl
  exact (ss_one (s_ret (f_and (toE (f_call tk G__is_full (hr.mono (by decide)) rfl m__is_full k__is_full b__is_full (a_cons (fv 0) (a_cons (fv 1) a_nil)))) (f_one (toE (f_callB (call_allF rfl) rfl T.n_all (by decide +kernel) (a_cons (toE (f_comp (own := [("pair", 2)]) (t := (.name 2)) rfl sc__is_line.nd (i_any (fv 0)) (blkOk_by (own := [("pair", 2)]) (N := ["line", "marks", "pair"]) (sc := defScope s__is_line) (by decide +kernel)) (by decide) (fun _ _ _ _ _ => (tg_name (i := 2) sc__is_line.nd rfl (Or.inl rfl))) (fun _ _ _ _ _ => ts_nil) (fun _ _ _ _ _ => (lockN (f_call takes0 G__is_pair (hr.mono (by decide)) rfl m__is_pair k__is_pair b__is_pair (a_cons (fv 2) (a_cons (fv 1) a_nil))))))) a_nil)))))))
abbrev s__turned : Stmt := top 32
theorem sc__turned : FnScope ["table", "row", "place", "other"] ["table", "row", "place", "other"] (defScope s__turned) := ⟨rfl, rfl, rfl, by decide +kernel, rfl, by decide +kernel, by decide +kernel⟩
theorem ok__turned {f : Addr} {fd : FuncData} (F : Fun K "_turned" "_turned" s__turned f fd) (T : Bare mg) (D_pass_done : HasF P w K mg base C 2 "pass_done" ["table", "row", "place"] F_pass_done) : FnOk P w K mg base (L2.CX P w) 3 f fd ["table", "row", "place", "other"] (spF K C mg F__turned) := by
  obtain ⟨_, _, G_pass_done, m_pass_done, k_pass_done, b_pass_done⟩ := D_pass_done.ex
  refine fn_okX F sc__turned fun cdv A outer s H E pen hr => ?_
  have tk : Takes (cxOf (L2.CX P w) P w K mg base ["table", "row", "place", "other"] "_turned" (defScope s__turned) f cdv A outer s H E) (fun cls d _ H' => E cls d H') := takes_of rfl rfl rfl rfl
  have hp : PassesOwn (model P w) (cxOf (L2.CX P w) P w K mg base ["table", "row", "place", "other"] "_turned" (defScope s__turned) f cdv A outer s H E).A (cxOf (L2.CX P w) P w K mg base ["table", "row", "place", "other"] "_turned" (defScope s__turned) f cdv A outer s H E).env (cxOf (L2.CX P w) P w K mg base ["table", "row", "place", "other"] "_turned" (defScope s__turned) f cdv A outer s H E).xe := passes_of rfl
  exact (ss_frz 1 (ss_cons (s_set (i := 1) sc__turned.nd rfl (Or.inl rfl) (f_call tk G_pass_done (hr.mono (by decide)) rfl m_pass_done k_pass_done b_pass_done (a_cons (fv 0) (a_cons (fv 1) (a_cons (fv 2) a_nil)))))
      (ss_frz 1 (ss_cons (s_set (i := 1) sc__turned.nd rfl (Or.inl rfl) (f_call tk G_pass_done (hr.mono (by decide)) rfl m_pass_done k_pass_done b_pass_done (a_cons (fv 0) (a_cons (fv 1) (a_cons (fv 3) a_nil)))))
      (ss_frz 1 (ss_one (s_ret (toE (f_call tk G_pass_done (hr.mono (by decide)) rfl m_pass_done k_pass_done b_pass_done (a_cons (fv 0) (a_cons (fv 1) (a_cons (fv 2) a_nil))))))))))))
abbrev s_names : Stmt := top 44
theorem sc_names : FnScope ["_law_pen_here", "_law_many", "_law_letters", "_law_stem", "_law_at", "_law_begin", "_law_trim", "_law_step", "_law_found", "_law_k", "_law_tail"] ["_law_pen_here", "_law_many"] (defScope s_names) := ⟨rfl, rfl, rfl, by decide +kernel, rfl, by decide +kernel, by decide +kernel⟩
theorem ok_names {f : Addr} {fd : FuncData} (F : Fun K "_law_names" "_law_names" s_names f fd) (T : Bare mg) (D_draw : HasF P w K mg base C 1 "_law_draw" ["_law_pen_here", "_law_many"] F_draw) (D_pick : HasF P w K mg base C 2 "_law_pick" ["_law_pen_here", "_law_some"] F_pick) : FnOk P w K mg base (L2.CX P w) 3 f fd ["_law_pen_here", "_law_many"] (spF K C mg F_names) := by
  obtain ⟨_, _, G_draw, m_draw, k_draw, b_draw⟩ := D_draw.ex
  obtain ⟨_, _, G_pick, m_pick, k_pick, b_pick⟩ := D_pick.ex
  refine fn_okX F sc_names fun cdv A outer s H E pen hr => ?_
  have tk : Takes (cxOf (L2.CX P w) P w K mg base ["_law_pen_here", "_law_many", "_law_letters", "_law_stem", "_law_at", "_law_begin", "_law_trim", "_law_step", "_law_found", "_law_k", "_law_tail"] "_law_names" (defScope s_names) f cdv A outer s H E) (fun cls d _ H' => E cls d H') := takes_of rfl rfl rfl rfl
  have hp : PassesOwn (model P w) (cxOf (L2.CX P w) P w K mg base ["_law_pen_here", "_law_many", "_law_letters", "_law_stem", "_law_at", "_law_begin", "_law_trim", "_law_step", "_law_found", "_law_k", "_law_tail"] "_law_names" (defScope s_names) f cdv A outer s H E).A (cxOf (L2.CX P w) P w K mg base ["_law_pen_here", "_law_many", "_law_letters", "_law_stem", "_law_at", "_law_begin", "_law_trim", "_law_step", "_law_found", "_law_k", "_law_tail"] "_law_names" (defScope s_names) f cdv A outer s H E).env (cxOf (L2.CX P w) P w K mg base ["_law_pen_here", "_law_many", "_law_letters", "_law_stem", "_law_at", "_law_begin", "_law_trim", "_law_step", "_law_found", "_law_k", "_law_tail"] "_law_names" (defScope s_names) f cdv A outer s H E).xe := passes_of rfl
  exact (ss_cons (s_set (i := 2) sc_names.nd rfl (Or.inr rfl) f_str)
      (ss_cons (s_set (i := 3) sc_names.nd rfl (Or.inl rfl) (f_join (toE f_str) (toE (f_comp (own := [("_law_k", 9)]) (t := (.name 9)) rfl sc_names.nd (i_range1 rfl T.n_range (a_cons (toE (f_op op_addD (toE f_int) (toE (f_call tk G_draw (hr.mono (by decide)) rfl m_draw k_draw b_draw (a_cons (fv 0) (a_cons (toE f_int) a_nil)))))) a_nil)) (blkOk_by (own := [("_law_k", 9)]) (N := ["_law_pen_here", "_law_many", "_law_letters", "_law_stem", "_law_at", "_law_begin", "_law_trim", "_law_step", "_law_found", "_law_k", "_law_tail"]) (sc := defScope s_names) (by decide +kernel)) (by decide) (fun _ _ _ _ _ => (tg_name (i := 9) sc_names.nd rfl (Or.inl rfl))) (fun _ _ _ _ _ => ts_nil) (fun _ _ _ _ _ => (lockN (f_call takes0 G_pick (hr.mono (by decide)) rfl m_pick k_pick b_pick (a_cons (fv 0) (a_cons (fv 2) a_nil)))))))))
      (ss_cons (s_par3 (i := 4) (j := 5) (l := 6) rfl sc_names.nd rfl rfl rfl (by decide) (by decide) (by decide) rfl rfl rfl (n_cons (f_call tk G_draw (hr.mono (by decide)) rfl m_draw k_draw b_draw (a_cons (fv 0) (a_cons (toE (f_callB (call_lenF rfl) rfl T.n_len (by decide +kernel) (a_cons (fv 3) a_nil))) a_nil))) (n_cons (f_call tk G_draw (hr.mono (by decide)) rfl m_draw k_draw b_draw (a_cons (fv 0) (a_cons (toE f_int) a_nil))) (n_cons (f_call tk G_draw (hr.mono (by decide)) rfl m_draw k_draw b_draw (a_cons (fv 0) (a_cons (toE f_int) a_nil))) n_nil))) (by rfl))
      (ss_cons (s_par (i := 7) (j := 8) rfl sc_names.nd rfl rfl (by decide) rfl rfl (n_cons (f_call tk G_pick (hr.mono (by decide)) rfl m_pick k_pick b_pick (a_cons (fv 0) (a_cons (lockN (f_lst (a_cons (toE f_int) (a_cons (toE f_int) (a_cons (toE f_int) (a_cons (toE f_int) (a_cons (toE f_int) (a_cons (toE f_int) (a_cons (toE f_int) (a_cons (toE f_int) (a_cons (toE f_int) (a_cons (toE f_int) (a_cons (toE f_int) (a_cons (toE f_int) a_nil)))))))))))))) a_nil))) (n_cons (f_lst a_nil) n_nil)) (by rfl))
      (ss_cons (s_for hp rfl (i_range1 rfl T.n_range (a_cons (fv 1) a_nil)) (tg_name (i := 9) sc_names.nd rfl (Or.inl rfl))
      (ss_cons (s_set (i := 10) sc_names.nd rfl (Or.inl rfl) (f_ifN (t_cmp (op_eqF rfl hr.units) (fv 6) (toE f_int) (nomark _)) (f_slice (fv 3) (o_some (toE (f_op op_addD (fv 4) (toE f_int)))) o_none) (f_slice (toE (f_slice (fv 3) (o_some (toE (f_op op_addD (fv 4) (toE f_int)))) o_none)) o_none (o_some (toE (f_op op_modD (fv 9) (toE f_int)))))))
      (ss_one (s_append (i := 8) rfl (Or.inl rfl) (by decide) (by decide) (lockN (f_op op_addD (toE (f_op op_addD (toE (f_slice (fv 3) o_none (o_some (fv 4)))) (toE (f_ix (fv 2) (toE (f_op op_modD (toE (f_op op_addD (fv 5) (toE (f_op op_mulD (fv 7) (fv 9))))) (toE f_int))) (fun _ _ => rfl))))) (fv 10)))))))
      (ss_one (s_ret (fv 8))))))))
abbrev s_gentle_pairs : Stmt := top 51
theorem sc_gentle_pairs : FnScope ["_law_pen_here", "_law_limit", "_law_many", "_law_road", "_law_moves", "_law_one", "_law_x", "_law_y"] ["_law_pen_here", "_law_limit"] (defScope s_gentle_pairs) := ⟨rfl, rfl, rfl, by decide +kernel, rfl, by decide +kernel, by decide +kernel⟩
theorem ok_gentle_pairs {f : Addr} {fd : FuncData} (F : Fun K "_law_gentle_pairs" "_law_gentle_pairs" s_gentle_pairs f fd) (T : Bare mg) (D_lots_pairs : HasF P w K mg base C 2 "_law_lots_pairs" ["_law_pen_here", "_law_many"] F_lots_pairs) (D_draw : HasF P w K mg base C 1 "_law_draw" ["_law_pen_here", "_law_many"] F_draw) (D_shuffled : HasF P w K mg base C 2 "_law_shuffled" ["_law_pen_here", "_law_some"] F_shuffled) (D_four : HasF P w K mg base C 1 "_law_four" [] F_four) (D_side_by_side : HasF P w K mg base C 1 "_law_side_by_side" ["_law_one", "_law_other"] F_side_by_side) : FnOk P w K mg base (L2.CX P w) 3 f fd ["_law_pen_here", "_law_limit"] (spF K C mg F_gentle_pairs) := by
  obtain ⟨_, _, G_lots_pairs, m_lots_pairs, k_lots_pairs, b_lots_pairs⟩ := D_lots_pairs.ex
  obtain ⟨_, _, G_draw, m_draw, k_draw, b_draw⟩ := D_draw.ex
  obtain ⟨_, _, G_shuffled, m_shuffled, k_shuffled, b_shuffled⟩ := D_shuffled.ex
  obtain ⟨_, _, G_four, m_four, k_four, b_four⟩ := D_four.ex
  obtain ⟨_, _, G_side_by_side, m_side_by_side, k_side_by_side, b_side_by_side⟩ := D_side_by_side.ex
  refine fn_okX F sc_gentle_pairs fun cdv A outer s H E pen hr => ?_
  have tk : Takes (cxOf (L2.CX P w) P w K mg base ["_law_pen_here", "_law_limit", "_law_many", "_law_road", "_law_moves", "_law_one", "_law_x", "_law_y"] "_law_gentle_pairs" (defScope s_gentle_pairs) f cdv A outer s H E) (fun cls d _ H' => E cls d H') := takes_of rfl rfl rfl rfl
  have hp : PassesOwn (model P w) (cxOf (L2.CX P w) P w K mg base ["_law_pen_here", "_law_limit", "_law_many", "_law_road", "_law_moves", "_law_one", "_law_x", "_law_y"] "_law_gentle_pairs" (defScope s_gentle_pairs) f cdv A outer s H E).A (cxOf (L2.CX P w) P w K mg base ["_law_pen_here", "_law_limit", "_law_many", "_law_road", "_law_moves", "_law_one", "_law_x", "_law_y"] "_law_gentle_pairs" (defScope s_gentle_pairs) f cdv A outer s H E).env (cxOf (L2.CX P w) P w K mg base ["_law_pen_here", "_law_limit", "_law_many", "_law_road", "_law_moves", "_law_one", "_law_x", "_law_y"] "_law_gentle_pairs" (defScope s_gentle_pairs) f cdv A outer s H E).xe := passes_of rfl
  exact (ss_cons (s_parC (is := [2, 3]) rfl (pn_cons (pg_name (i := 2) sc_gentle_pairs.nd rfl (Or.inr rfl)) (pn_cons (pg_name (i := 3) sc_gentle_pairs.nd rfl (Or.inl rfl)) pn_nil)) (n_cons (f_op op_addD (toE f_int) (toE (f_call tk G_draw (hr.mono (by decide)) rfl m_draw k_draw b_draw (a_cons (fv 0) (a_cons (fv 1) a_nil))))) (n_cons (f_call tk G_draw (hr.mono (by decide)) rfl m_draw k_draw b_draw (a_cons (fv 0) (a_cons (toE f_int) a_nil))) n_nil)) (by show 2 ≤ sizeLine; decide))
      (ss_cons (s_if (t_cmp (op_eqF rfl hr.units) (fv 3) (toE f_int) (nomark _))
      (ss_one (s_ret (toE (f_comp (own := [("_law_x", 6)]) (t := (.name 6)) rfl sc_gentle_pairs.nd (i_range1 rfl T.n_range (a_cons (fv 2) a_nil)) (blkOk_by (own := [("_law_x", 6)]) (N := ["_law_pen_here", "_law_limit", "_law_many", "_law_road", "_law_moves", "_law_one", "_law_x", "_law_y"]) (sc := defScope s_gentle_pairs) (by decide +kernel)) (by decide) (fun _ _ _ _ _ => (tg_name (i := 6) sc_gentle_pairs.nd rfl (Or.inr rfl))) (fun _ _ _ _ _ => ts_nil) (fun _ _ _ _ _ => (lockN (f_comp (own := [("_law_y", 7)]) (t := (.name 7)) rfl sc_gentle_pairs.nd (i_range1 rfl T.n_range (a_cons (fv 2) a_nil)) (blkOk_by (own := [("_law_y", 7)]) (N := ["_law_pen_here", "_law_limit", "_law_many", "_law_road", "_law_moves", "_law_one", "_law_x", "_law_y"]) (sc := { kind := .function, names := [(".0", .local), ("_law_x", .cell), ("range", .globalImplicit), ("_law_many", .cell)], isGenerator := false, isCoroutine := false }) (by decide +kernel)) (by decide) (fun _ _ _ _ _ => (tg_name (i := 7) sc_gentle_pairs.nd rfl (Or.inl rfl))) (fun _ _ _ _ _ => ts_nil) (fun _ _ _ _ _ => (toE (f_tup (a_cons (fv 7) (a_cons (fv 6) a_nil)))))))))))) ss_nil)
      (ss_cons (s_if (t_cmp (op_eqF rfl hr.units) (fv 3) (toE f_int) (nomark _))
      (ss_cons (s_set (i := 4) sc_gentle_pairs.nd rfl (Or.inr rfl) (f_call tk G_shuffled (hr.mono (by decide)) rfl m_shuffled k_shuffled b_shuffled (a_cons (fv 0) (a_cons (lockN (f_rgL rfl rfl T.n_list (g_1 rfl T.n_range (fv 2)))) a_nil))))
      (ss_one (s_ret (toE (f_comp (own := [("_law_x", 6)]) (t := (.name 6)) rfl sc_gentle_pairs.nd (i_range1 rfl T.n_range (a_cons (fv 2) a_nil)) (blkOk_by (own := [("_law_x", 6)]) (N := ["_law_pen_here", "_law_limit", "_law_many", "_law_road", "_law_moves", "_law_one", "_law_x", "_law_y"]) (sc := defScope s_gentle_pairs) (by decide +kernel)) (by decide) (fun _ _ _ _ _ => (tg_name (i := 6) sc_gentle_pairs.nd rfl (Or.inr rfl))) (fun _ _ _ _ _ => ts_nil) (fun _ _ _ _ _ => (lockN (f_comp (own := [("_law_y", 7)]) (t := (.name 7)) rfl sc_gentle_pairs.nd (i_range1 rfl T.n_range (a_cons (fv 2) a_nil)) (blkOk_by (own := [("_law_y", 7)]) (N := ["_law_pen_here", "_law_limit", "_law_many", "_law_road", "_law_moves", "_law_one", "_law_x", "_law_y"]) (sc := { kind := .function, names := [(".0", .local), ("_law_x", .cell), ("range", .globalImplicit), ("_law_many", .cell), ("_law_moves", .cell)], isGenerator := false, isCoroutine := false }) (by decide +kernel)) (by decide) (fun _ _ _ _ _ => (tg_name (i := 7) sc_gentle_pairs.nd rfl (Or.inl rfl))) (fun _ _ _ _ _ => ts_nil) (fun _ _ _ _ _ => (toE (f_tup (a_cons (toE (f_ix (fv 4) (fv 7) (fun _ _ => rfl))) (a_cons (toE (f_index (fv 4) (fv 6))) a_nil))))))))))))) ss_nil)
      (ss_cons (s_if (w_pt (w_and (t_cmp (op_eqF rfl hr.units) (fv 3) (toE f_int) (nomark _)) (w_and1 (t_cmp op_gtF (fv 1) (toE f_int) (nomark _)))))
      (ss_one (s_ret (toE (f_call0 G_four (hr.mono (by decide)) (by rfl) m_four k_four b_four)))) ss_nil)
      (ss_frz 5 (ss_cons (s_if (w_pt (w_and (t_cmp (op_eqF rfl hr.units) (fv 3) (toE f_int) (nomark _)) (w_and1 (t_cmp op_gtF (fv 1) (toE f_int) (nomark _)))))
      (ss_cons (s_set (i := 5) sc_gentle_pairs.nd rfl (Or.inl rfl) (f_call tk G_lots_pairs (hr.mono (by decide)) rfl m_lots_pairs k_lots_pairs b_lots_pairs (a_cons (fv 0) (a_cons (toE f_int) a_nil))))
      (ss_frz 5 (ss_one (s_ret (toE (f_call tk G_side_by_side (hr.mono (by decide)) rfl m_side_by_side k_side_by_side b_side_by_side (a_cons (fv 5) (a_cons (lockN (f_call tk G_lots_pairs (hr.mono (by decide)) rfl m_lots_pairs k_lots_pairs b_lots_pairs (a_cons (fv 0) (a_cons (toE (f_op op_addD (toE f_int) (toE (f_op op_mulD (toE (f_callTy call_intF rfl T.n_int (by decide +kernel) (a_cons (toE (f_cmp op_gtF (fv 1) (toE f_int) (nomark _))) a_nil))) (toE (f_call tk G_draw (hr.mono (by decide)) rfl m_draw k_draw b_draw (a_cons (fv 0) (a_cons (toE f_int) a_nil)))))))) a_nil)))) a_nil)))))))) ss_nil)
      (ss_frz 2 (ss_one (s_ret (toE (f_call tk G_lots_pairs (hr.mono (by decide)) rfl m_lots_pairs k_lots_pairs b_lots_pairs (a_cons (fv 0) (a_cons (fv 2) a_nil)))))))))))))
abbrev s_turned_pairs : Stmt := top 54
theorem sc_turned_pairs : FnScope ["_law_pen_here", "_law_pairs"] ["_law_pen_here", "_law_pairs"] (defScope s_turned_pairs) := ⟨rfl, rfl, rfl, by decide +kernel, rfl, by decide +kernel, by decide +kernel⟩
theorem ok_turned_pairs {f : Addr} {fd : FuncData} (F : Fun K "_law_turned_pairs" "_law_turned_pairs" s_turned_pairs f fd) (T : Bare mg) (D_called : HasF P w K mg base C 1 "_law_called" ["_law_pairs", "_law_moves"] F_called) (D_draw : HasF P w K mg base C 1 "_law_draw" ["_law_pen_here", "_law_many"] F_draw) (D_behind_pairs : HasF P w K mg base C 1 "_law_behind_pairs" ["_law_pairs"] F_behind_pairs) (D_shuffled : HasF P w K mg base C 2 "_law_shuffled" ["_law_pen_here", "_law_some"] F_shuffled) : FnOk P w K mg base (L2.CX P w) 3 f fd ["_law_pen_here", "_law_pairs"] (spF K C mg F_turned_pairs) := by
  obtain ⟨_, _, G_called, m_called, k_called, b_called⟩ := D_called.ex
  obtain ⟨_, _, G_draw, m_draw, k_draw, b_draw⟩ := D_draw.ex
  obtain ⟨_, _, G_behind_pairs, m_behind_pairs, k_behind_pairs, b_behind_pairs⟩ := D_behind_pairs.ex
  obtain ⟨_, _, G_shuffled, m_shuffled, k_shuffled, b_shuffled⟩ := D_shuffled.ex
  refine fn_okX F sc_turned_pairs fun cdv A outer s H E pen hr => ?_
  have tk : Takes (cxOf (L2.CX P w) P w K mg base ["_law_pen_here", "_law_pairs"] "_law_turned_pairs" (defScope s_turned_pairs) f cdv A outer s H E) (fun cls d _ H' => E cls d H') := takes_of rfl rfl rfl rfl
  have hp : PassesOwn (model P w) (cxOf (L2.CX P w) P w K mg base ["_law_pen_here", "_law_pairs"] "_law_turned_pairs" (defScope s_turned_pairs) f cdv A outer s H E).A (cxOf (L2.CX P w) P w K mg base ["_law_pen_here", "_law_pairs"] "_law_turned_pairs" (defScope s_turned_pairs) f cdv A outer s H E).env (cxOf (L2.CX P w) P w K mg base ["_law_pen_here", "_law_pairs"] "_law_turned_pairs" (defScope s_turned_pairs) f cdv A outer s H E).xe := passes_of rfl
  exact (ss_frz 1 (ss_cons (s_if (t_cmp (op_eqF rfl hr.units) (toE (f_call tk G_draw (hr.mono (by decide)) rfl m_draw k_draw b_draw (a_cons (fv 0) (a_cons (toE f_int) a_nil)))) (toE f_int) (nomark _))
      (ss_frz 1 (ss_one (s_set (i := 1) sc_turned_pairs.nd rfl (Or.inl rfl) (f_call tk G_behind_pairs (hr.mono (by decide)) rfl m_behind_pairs k_behind_pairs b_behind_pairs (a_cons (fv 1) a_nil))))) ss_nil)
      (ss_frz 1 (ss_one (s_ret (toE (f_call tk G_called (hr.mono (by decide)) rfl m_called k_called b_called (a_cons (fv 1) (a_cons (lockN (f_call tk G_shuffled (hr.mono (by decide)) rfl m_shuffled k_shuffled b_shuffled (a_cons (fv 0) (a_cons (lockN (f_rgL rfl rfl T.n_list (g_1 rfl T.n_range (toE (f_callB (call_lenF rfl) rfl T.n_len (by decide +kernel) (a_cons (fv 1) a_nil)))))) a_nil)))) a_nil)))))))))
abbrev s__are_pairs : Stmt := top 26
theorem sc__are_pairs : FnScope ["pairs", "marks", "line"] ["pairs", "marks"] (defScope s__are_pairs) := ⟨rfl, rfl, rfl, by decide +kernel, rfl, by decide +kernel, by decide +kernel⟩
theorem ok__are_pairs {f : Addr} {fd : FuncData} (F : Fun K "_are_pairs" "_are_pairs" s__are_pairs f fd) (T : Bare mg) (D__is_full : HasF P w K mg base C 2 "_is_full" ["listing", "marks"] F__is_full) (D__is_line : HasF P w K mg base C 3 "_is_line" ["line", "marks"] F__is_line) : FnOk P w K mg base (L2.CX P w) 4 f fd ["pairs", "marks"] (spF K C mg F__are_pairs) := by
  obtain ⟨_, _, G__is_full, m__is_full, k__is_full, b__is_full⟩ := D__is_full.ex
  obtain ⟨_, _, G__is_line, m__is_line, k__is_line, b__is_line⟩ := D__is_line.ex
  refine fn_okX F sc__are_pairs fun cdv A outer s H E pen hr => ?_
  have tk : Takes (cxOf (L2.CX P w) P w K mg base ["pairs", "marks", "line"] "_are_pairs" (defScope s__are_pairs) f cdv A outer s H E) (fun cls d _ H' => E cls d H') := takes_of rfl rfl rfl rfl
  have hp : PassesOwn (model P w) (cxOf (L2.CX P w) P w K mg base ["pairs", "marks", "line"] "_are_pairs" (defScope s__are_pairs) f cdv A outer s H E).A (cxOf (L2.CX P w) P w K mg base ["pairs", "marks", "line"] "_are_pairs" (defScope s__are_pairs) f cdv A outer s H E).env (cxOf (L2.CX P w) P w K mg base ["pairs", "marks", "line"] "_are_pairs" (defScope s__are_pairs) f cdv A outer s H E).xe := passes_of rfl
  exact (ss_one (s_ret (f_and (toE (f_call tk G__is_full (hr.mono (by decide)) rfl m__is_full k__is_full b__is_full (a_cons (fv 0) (a_cons (fv 1) a_nil)))) (f_one (toE (f_callB (call_allF rfl) rfl T.n_all (by decide +kernel) (a_cons (toE (f_comp (own := [("line", 2)]) (t := (.name 2)) rfl sc__are_pairs.nd (i_any (fv 0)) (blkOk_by (own := [("line", 2)]) (N := ["pairs", "marks", "line"]) (sc := defScope s__are_pairs) (by decide +kernel)) (by decide) (fun _ _ _ _ _ => (tg_name (i := 2) sc__are_pairs.nd rfl (Or.inl rfl))) (fun _ _ _ _ _ => ts_nil) (fun _ _ _ _ _ => (lockN (f_call takes0 G__is_line (hr.mono (by decide)) rfl m__is_line k__is_line b__is_line (a_cons (fv 2) (a_cons (fv 1) a_nil))))))) a_nil)))))))
abbrev s_three_fault : Stmt := top 31
theorem sc_three_fault : FnScope ["table", "marks", "x", "y", "z", "row"] ["table"] (defScope s_three_fault) := ⟨rfl, rfl, rfl, by decide +kernel, rfl, by decide +kernel, by decide +kernel⟩
theorem ok_three_fault {f : Addr} {fd : FuncData} (F : Fun K "three_fault" "three_fault" s_three_fault f fd) (T : Bare mg) {f0 : Addr} (TC : TabC K mg C f0) (D_Table_marks : HasMF P w K mg base C 1 "marks" ["self"] F_Table_marks) (D__turned : HasF P w K mg base C 3 "_turned" ["table", "row", "place", "other"] F__turned) : FnOk P w K mg base (L2.CX P w) 4 f fd ["table"] (spF K C mg F_three_fault) := by
  obtain ⟨_, _, G_Table_marks, M_Table_marks, b_Table_marks⟩ := D_Table_marks.ex
  obtain ⟨_, _, G__turned, m__turned, k__turned, b__turned⟩ := D__turned.ex
  refine fn_okX F sc_three_fault fun cdv A outer s H E pen hr => ?_
  have tk : Takes (cxOf (L2.CX P w) P w K mg base ["table", "marks", "x", "y", "z", "row"] "three_fault" (defScope s_three_fault) f cdv A outer s H E) (fun cls d _ H' => E cls d H') := takes_of rfl rfl rfl rfl
  have hp : PassesOwn (model P w) (cxOf (L2.CX P w) P w K mg base ["table", "marks", "x", "y", "z", "row"] "three_fault" (defScope s_three_fault) f cdv A outer s H E).A (cxOf (L2.CX P w) P w K mg base ["table", "marks", "x", "y", "z", "row"] "three_fault" (defScope s_three_fault) f cdv A outer s H E).env (cxOf (L2.CX P w) P w K mg base ["table", "marks", "x", "y", "z", "row"] "three_fault" (defScope s_three_fault) f cdv A outer s H E).xe := passes_of rfl
  exact (ss_cons (s_set (i := 1) sc_three_fault.nd rfl (Or.inl rfl) (f_meth0 (fv 0) TC.cl M_Table_marks G_Table_marks (hr.mono (by decide)) b_Table_marks (fun _ _ => by rfl)))
      (ss_frz 1 (ss_cons (s_for hp rfl (i_any (fv 1)) (tg_name (i := 2) sc_three_fault.nd rfl (Or.inl rfl))
      (ss_frz 1 (ss_one (s_for hp rfl (i_any (fv 1)) (tg_name (i := 3) sc_three_fault.nd rfl (Or.inl rfl))
      (ss_frz 1 (ss_one (s_for hp rfl (i_any (fv 1)) (tg_name (i := 4) sc_three_fault.nd rfl (Or.inl rfl))
      (ss_cons (s_set (i := 5) sc_three_fault.nd rfl (Or.inl rfl) (f_tup (a_cons (fv 2) (a_cons (fv 3) (a_cons (fv 4) a_nil)))))
      (ss_one (s_if (t_cmp (op_neF rfl hr.units) (toE (f_call tk G__turned (hr.mono (by decide)) rfl m__turned k__turned b__turned (a_cons (fv 0) (a_cons (fv 5) (a_cons (toE f_int) (a_cons (toE f_int) a_nil)))))) (toE (f_call tk G__turned (hr.mono (by decide)) rfl m__turned k__turned b__turned (a_cons (fv 0) (a_cons (fv 5) (a_cons (toE f_int) (a_cons (toE f_int) a_nil)))))) (nomark _))
      (ss_one (s_ret (fv 5))) ss_nil))))))))))
      (ss_one (s_ret (toE f_non))))))
abbrev s_plain : Stmt := top 34
theorem sc_plain : FnScope ["table", "row", "runners", "at", "mark"] ["table", "row"] (defScope s_plain) := ⟨rfl, rfl, rfl, by decide +kernel, rfl, by decide +kernel, by decide +kernel⟩
theorem ok_plain {f : Addr} {fd : FuncData} (F : Fun K "plain" "plain" s_plain f fd) (T : Bare mg) (D_row_taken : HasF P w K mg base C 3 "row_taken" ["table", "row"] F_row_taken) (D__mark_out : HasF P w K mg base C 2 "_mark_out" ["table", "mark", "row"] F__mark_out) : FnOk P w K mg base (L2.CX P w) 4 f fd ["table", "row"] (spF K C mg F_plain) := by
  obtain ⟨_, _, G_row_taken, m_row_taken, k_row_taken, b_row_taken⟩ := D_row_taken.ex
  obtain ⟨_, _, G__mark_out, m__mark_out, k__mark_out, b__mark_out⟩ := D__mark_out.ex
  refine fn_okX F sc_plain fun cdv A outer s H E pen hr => ?_
  have tk : Takes (cxOf (L2.CX P w) P w K mg base ["table", "row", "runners", "at", "mark"] "plain" (defScope s_plain) f cdv A outer s H E) (fun cls d _ H' => E cls d H') := takes_of rfl rfl rfl rfl
  have hp : PassesOwn (model P w) (cxOf (L2.CX P w) P w K mg base ["table", "row", "runners", "at", "mark"] "plain" (defScope s_plain) f cdv A outer s H E).A (cxOf (L2.CX P w) P w K mg base ["table", "row", "runners", "at", "mark"] "plain" (defScope s_plain) f cdv A outer s H E).env (cxOf (L2.CX P w) P w K mg base ["table", "row", "runners", "at", "mark"] "plain" (defScope s_plain) f cdv A outer s H E).xe := passes_of rfl
  exact (ss_cons (s_set (i := 2) sc_plain.nd rfl (Or.inr rfl) (f_call tk G_row_taken (hr.mono (by decide)) rfl m_row_taken k_row_taken b_row_taken (a_cons (fv 0) (a_cons (fv 1) a_nil))))
      (ss_frz 2 (ss_one (s_ret (toE (f_callTy call_tupleG rfl T.n_tuple (by decide +kernel) (a_cons (toE (f_comp (own := [("at", 3), ("mark", 4)]) (t := (.tup [(.name 3), (.name 4)])) rfl sc_plain.nd (i_enum rfl T.n_enumerate (a_cons (fv 2) a_nil)) (blkOk_by (own := [("at", 3), ("mark", 4)]) (N := ["table", "row", "runners", "at", "mark"]) (sc := defScope s_plain) (by decide +kernel)) (by decide) (fun _ _ _ _ _ => (tg_tup rfl rfl (tgs_cons (tg_name (i := 3) sc_plain.nd rfl (Or.inl rfl)) (tgs_cons (tg_name (i := 4) sc_plain.nd rfl (Or.inl rfl)) tgs_nil)))) (fun _ _ _ _ _ => ts_nil) (fun _ _ _ _ _ => (lockN (f_call takes0 G__mark_out (hr.mono (by decide)) rfl m__mark_out k__mark_out b__mark_out (a_cons (fv 0) (a_cons (fv 4) (a_cons (lockN (f_slice (fv 2) (o_some (toE (f_op op_addD (fv 3) (toE f_int)))) o_none)) a_nil)))))))) a_nil)))))))
abbrev s_rows_on : Stmt := top 38
theorem sc_rows_on : FnScope ["table", "row", "word", "rows", "place"] ["table", "row", "word"] (defScope s_rows_on) := ⟨rfl, rfl, rfl, by decide +kernel, rfl, by decide +kernel, by decide +kernel⟩
theorem ok_rows_on {f : Addr} {fd : FuncData} (F : Fun K "rows_on" "rows_on" s_rows_on f fd) (T : Bare mg) (D_word_taken : HasF P w K mg base C 3 "word_taken" ["places", "word"] F_word_taken) (D_row_taken : HasF P w K mg base C 3 "row_taken" ["table", "row"] F_row_taken) (D_pass_done : HasF P w K mg base C 2 "pass_done" ["table", "row", "place"] F_pass_done) : FnOk P w K mg base (L2.CX P w) 4 f fd ["table", "row", "word"] (spF K C mg F_rows_on) := by
  obtain ⟨_, _, G_word_taken, m_word_taken, k_word_taken, b_word_taken⟩ := D_word_taken.ex
  obtain ⟨_, _, G_row_taken, m_row_taken, k_row_taken, b_row_taken⟩ := D_row_taken.ex
  obtain ⟨_, _, G_pass_done, m_pass_done, k_pass_done, b_pass_done⟩ := D_pass_done.ex
  refine fn_okX F sc_rows_on fun cdv A outer s H E pen hr => ?_
  have tk : Takes (cxOf (L2.CX P w) P w K mg base ["table", "row", "word", "rows", "place"] "rows_on" (defScope s_rows_on) f cdv A outer s H E) (fun cls d _ H' => E cls d H') := takes_of rfl rfl rfl rfl
  have hp : PassesOwn (model P w) (cxOf (L2.CX P w) P w K mg base ["table", "row", "word", "rows", "place"] "rows_on" (defScope s_rows_on) f cdv A outer s H E).A (cxOf (L2.CX P w) P w K mg base ["table", "row", "word", "rows", "place"] "rows_on" (defScope s_rows_on) f cdv A outer s H E).env (cxOf (L2.CX P w) P w K mg base ["table", "row", "word", "rows", "place"] "rows_on" (defScope s_rows_on) f cdv A outer s H E).xe := passes_of rfl
  exact (ss_cons (s_set (i := 3) sc_rows_on.nd rfl (Or.inl rfl) (f_lst (a_cons (lockN (f_call tk G_row_taken (hr.mono (by decide)) rfl m_row_taken k_row_taken b_row_taken (a_cons (fv 0) (a_cons (fv 1) a_nil)))) a_nil)))
      (ss_cons (s_for hp rfl (i_any (lockN (f_call tk G_word_taken (hr.mono (by decide)) rfl m_word_taken k_word_taken b_word_taken (a_cons (toE (f_callB (call_lenF rfl) rfl T.n_len (by decide +kernel) (a_cons (fv 1) a_nil))) (a_cons (fv 2) a_nil))))) (tg_name (i := 4) sc_rows_on.nd rfl (Or.inl rfl))
      (ss_one (s_append (i := 3) rfl (Or.inl rfl) (by decide) (by decide) (lockN (f_call tk G_pass_done (hr.mono (by decide)) rfl m_pass_done k_pass_done b_pass_done (a_cons (fv 0) (a_cons (toE (f_ix (fv 3) (toE (f_neg (toE f_int))) (fun _ _ => rfl))) (a_cons (fv 4) a_nil))))))))
      (ss_one (s_ret (fv 3)))))
abbrev s_kindly_pairs : Stmt := top 52
theorem sc_kindly_pairs : FnScope ["_law_pen_here", "_law_limit", "_law_many", "_law_road", "_law_moves", "_law_one", "_law_other", "_law_two", "_law_x", "_law_y"] ["_law_pen_here", "_law_limit"] (defScope s_kindly_pairs) := ⟨rfl, rfl, rfl, by decide +kernel, rfl, by decide +kernel, by decide +kernel⟩
theorem ok_kindly_pairs {f : Addr} {fd : FuncData} (F : Fun K "_law_kindly_pairs" "_law_kindly_pairs" s_kindly_pairs f fd) (T : Bare mg) (D_gentle_pairs : HasF P w K mg base C 3 "_law_gentle_pairs" ["_law_pen_here", "_law_limit"] F_gentle_pairs) (D_draw : HasF P w K mg base C 1 "_law_draw" ["_law_pen_here", "_law_many"] F_draw) (D_shuffled : HasF P w K mg base C 2 "_law_shuffled" ["_law_pen_here", "_law_some"] F_shuffled) (D_side_by_side : HasF P w K mg base C 1 "_law_side_by_side" ["_law_one", "_law_other"] F_side_by_side) (D_powers : HasF P w K mg base C 1 "_law_powers" ["_law_moves", "_law_many"] F_powers) : FnOk P w K mg base (L2.CX P w) 4 f fd ["_law_pen_here", "_law_limit"] (spF K C mg F_kindly_pairs) := by
  obtain ⟨_, _, G_gentle_pairs, m_gentle_pairs, k_gentle_pairs, b_gentle_pairs⟩ := D_gentle_pairs.ex
  obtain ⟨_, _, G_draw, m_draw, k_draw, b_draw⟩ := D_draw.ex
  obtain ⟨_, _, G_shuffled, m_shuffled, k_shuffled, b_shuffled⟩ := D_shuffled.ex
  obtain ⟨_, _, G_side_by_side, m_side_by_side, k_side_by_side, b_side_by_side⟩ := D_side_by_side.ex
  obtain ⟨_, _, G_powers, m_powers, k_powers, b_powers⟩ := D_powers.ex
  refine fn_okX F sc_kindly_pairs fun cdv A outer s H E pen hr => ?_
  have tk : Takes (cxOf (L2.CX P w) P w K mg base ["_law_pen_here", "_law_limit", "_law_many", "_law_road", "_law_moves", "_law_one", "_law_other", "_law_two", "_law_x", "_law_y"] "_law_kindly_pairs" (defScope s_kindly_pairs) f cdv A outer s H E) (fun cls d _ H' => E cls d H') := takes_of rfl rfl rfl rfl
  have hp : PassesOwn (model P w) (cxOf (L2.CX P w) P w K mg base ["_law_pen_here", "_law_limit", "_law_many", "_law_road", "_law_moves", "_law_one", "_law_other", "_law_two", "_law_x", "_law_y"] "_law_kindly_pairs" (defScope s_kindly_pairs) f cdv A outer s H E).A (cxOf (L2.CX P w) P w K mg base ["_law_pen_here", "_law_limit", "_law_many", "_law_road", "_law_moves", "_law_one", "_law_other", "_law_two", "_law_x", "_law_y"] "_law_kindly_pairs" (defScope s_kindly_pairs) f cdv A outer s H E).env (cxOf (L2.CX P w) P w K mg base ["_law_pen_here", "_law_limit", "_law_many", "_law_road", "_law_moves", "_law_one", "_law_other", "_law_two", "_law_x", "_law_y"] "_law_kindly_pairs" (defScope s_kindly_pairs) f cdv A outer s H E).xe := passes_of rfl
  exact (ss_cons (s_parC (is := [2, 3]) rfl (pn_cons (pg_name (i := 2) sc_kindly_pairs.nd rfl (Or.inr rfl)) (pn_cons (pg_name (i := 3) sc_kindly_pairs.nd rfl (Or.inl rfl)) pn_nil)) (n_cons (f_op op_addD (toE f_int) (toE (f_call tk G_draw (hr.mono (by decide)) rfl m_draw k_draw b_draw (a_cons (fv 0) (a_cons (fv 1) a_nil))))) (n_cons (f_call tk G_draw (hr.mono (by decide)) rfl m_draw k_draw b_draw (a_cons (fv 0) (a_cons (toE f_int) a_nil))) n_nil)) (by show 2 ≤ sizeLine; decide))
      (ss_frz 4 (ss_cons (s_if (t_cmp (op_eqF rfl hr.units) (fv 3) (toE f_int) (nomark _))
      (ss_cons (s_set (i := 4) sc_kindly_pairs.nd rfl (Or.inl rfl) (f_call tk G_shuffled (hr.mono (by decide)) rfl m_shuffled k_shuffled b_shuffled (a_cons (fv 0) (a_cons (lockN (f_rgL rfl rfl T.n_list (g_1 rfl T.n_range (fv 2)))) a_nil))))
      (ss_frz 4 (ss_cons (s_parC (is := [5, 6]) rfl (pn_cons (pg_name (i := 5) sc_kindly_pairs.nd rfl (Or.inr rfl)) (pn_cons (pg_name (i := 6) sc_kindly_pairs.nd rfl (Or.inr rfl)) pn_nil)) (n_cons (f_call tk G_powers (hr.mono (by decide)) rfl m_powers k_powers b_powers (a_cons (fv 4) (a_cons (lockN (f_call tk G_draw (hr.mono (by decide)) rfl m_draw k_draw b_draw (a_cons (fv 0) (a_cons (toE f_int) a_nil)))) a_nil))) (n_cons (f_call tk G_powers (hr.mono (by decide)) rfl m_powers k_powers b_powers (a_cons (fv 4) (a_cons (lockN (f_call tk G_draw (hr.mono (by decide)) rfl m_draw k_draw b_draw (a_cons (fv 0) (a_cons (toE f_int) a_nil)))) a_nil))) n_nil)) (by show 2 ≤ sizeLine; decide))
      (ss_one (s_ret (toE (f_comp (own := [("_law_x", 8)]) (t := (.name 8)) rfl sc_kindly_pairs.nd (i_range1 rfl T.n_range (a_cons (fv 2) a_nil)) (blkOk_by (own := [("_law_x", 8)]) (N := ["_law_pen_here", "_law_limit", "_law_many", "_law_road", "_law_moves", "_law_one", "_law_other", "_law_two", "_law_x", "_law_y"]) (sc := defScope s_kindly_pairs) (by decide +kernel)) (by decide) (fun _ _ _ _ _ => (tg_name (i := 8) sc_kindly_pairs.nd rfl (Or.inr rfl))) (fun _ _ _ _ _ => ts_nil) (fun _ _ _ _ _ => (lockN (f_comp (own := [("_law_y", 9)]) (t := (.name 9)) rfl sc_kindly_pairs.nd (i_range1 rfl T.n_range (a_cons (fv 2) a_nil)) (blkOk_by (own := [("_law_y", 9)]) (N := ["_law_pen_here", "_law_limit", "_law_many", "_law_road", "_law_moves", "_law_one", "_law_other", "_law_two", "_law_x", "_law_y"]) (sc := { kind := .function, names := [(".0", .local), ("_law_x", .cell), ("range", .globalImplicit), ("_law_many", .cell), ("_law_one", .cell), ("_law_other", .cell)], isGenerator := false, isCoroutine := false }) (by decide +kernel)) (by decide) (fun _ _ _ _ _ => (tg_name (i := 9) sc_kindly_pairs.nd rfl (Or.inl rfl))) (fun _ _ _ _ _ => ts_nil) (fun _ _ _ _ _ => (toE (f_tup (a_cons (toE (f_ix (fv 5) (fv 9) (fun _ _ => rfl))) (a_cons (toE (f_ix (fv 6) (fv 8) (fun _ _ => rfl))) a_nil))))))))))))))) ss_nil)
      (ss_cons (s_if (t_cmp (op_eqF rfl hr.units) (fv 3) (toE f_int) (nomark _))
      (ss_one (s_ret (toE (f_comp (own := [("_law_x", 8)]) (t := (.name 8)) rfl sc_kindly_pairs.nd (i_range1 rfl T.n_range (a_cons (fv 2) a_nil)) (blkOk_by (own := [("_law_x", 8)]) (N := ["_law_pen_here", "_law_limit", "_law_many", "_law_road", "_law_moves", "_law_one", "_law_other", "_law_two", "_law_x", "_law_y"]) (sc := defScope s_kindly_pairs) (by decide +kernel)) (by decide) (fun _ _ _ _ _ => (tg_name (i := 8) sc_kindly_pairs.nd rfl (Or.inr rfl))) (fun _ _ _ _ _ => ts_nil) (fun _ _ _ _ _ => (lockN (f_comp (own := [("_law_y", 9)]) (t := (.name 9)) rfl sc_kindly_pairs.nd (i_range1 rfl T.n_range (a_cons (fv 2) a_nil)) (blkOk_by (own := [("_law_y", 9)]) (N := ["_law_pen_here", "_law_limit", "_law_many", "_law_road", "_law_moves", "_law_one", "_law_other", "_law_two", "_law_x", "_law_y"]) (sc := { kind := .function, names := [(".0", .local), ("_law_x", .cell), ("range", .globalImplicit), ("_law_many", .cell)], isGenerator := false, isCoroutine := false }) (by decide +kernel)) (by decide) (fun _ _ _ _ _ => (tg_name (i := 9) sc_kindly_pairs.nd rfl (Or.inl rfl))) (fun _ _ _ _ _ => ts_nil) (fun _ _ _ _ _ => (toE (f_tup (a_cons (fv 9) (a_cons (toE (f_op op_modD (toE (f_op op_subD (toE (f_op op_mulD (toE f_int) (fv 9))) (fv 8))) (fv 2))) a_nil)))))))))))) ss_nil)
      (ss_frz 7 (ss_cons (s_if (w_pt (w_and (t_cmp (op_eqF rfl hr.units) (fv 3) (toE f_int) (nomark _)) (w_and1 (t_cmp op_gtF (fv 1) (toE f_int) (nomark _)))))
      (ss_cons (s_setLc (i := 7) (own := [("_law_x", 8)]) (t := (.name 8)) rfl sc_kindly_pairs.nd rfl rfl (sw_true rfl rfl rfl (by decide +kernel)) (i_range1 rfl T.n_range (a_cons (toE f_int) a_nil)) (blkOk_by (own := [("_law_x", 8)]) (N := ["_law_pen_here", "_law_limit", "_law_many", "_law_road", "_law_moves", "_law_one", "_law_other", "_law_two", "_law_x", "_law_y"]) (sc := defScope s_kindly_pairs) (by decide +kernel)) (by decide) (fun _ _ _ _ _ => (tg_name (i := 8) sc_kindly_pairs.nd rfl (Or.inr rfl))) (fun _ _ _ _ _ => ts_nil) (fun _ _ _ _ _ => (lockN (f_comp (own := [("_law_y", 9)]) (t := (.name 9)) rfl sc_kindly_pairs.nd (i_range1 rfl T.n_range (a_cons (toE f_int) a_nil)) (blkOk_by (own := [("_law_y", 9)]) (N := ["_law_pen_here", "_law_limit", "_law_many", "_law_road", "_law_moves", "_law_one", "_law_other", "_law_two", "_law_x", "_law_y"]) (sc := { kind := .function, names := [(".0", .local), ("_law_x", .cell), ("range", .globalImplicit)], isGenerator := false, isCoroutine := false }) (by decide +kernel)) (by decide) (fun _ _ _ _ _ => (tg_name (i := 9) sc_kindly_pairs.nd rfl (Or.inl rfl))) (fun _ _ _ _ _ => ts_nil) (fun _ _ _ _ _ => (toE (f_tup (a_cons (fv 9) (a_cons (toE (f_op op_modD (toE (f_op op_addD (fv 8) (toE f_int))) (toE f_int))) a_nil)))))))))
      (ss_frz 7 (ss_one (s_ret (toE (f_call tk G_side_by_side (hr.mono (by decide)) rfl m_side_by_side k_side_by_side b_side_by_side (a_cons (fv 7) (a_cons (lockN (f_comp (own := [("_law_x", 8)]) (t := (.name 8)) rfl sc_kindly_pairs.nd (i_range1 rfl T.n_range (a_cons (toE f_int) a_nil)) (blkOk_by (own := [("_law_x", 8)]) (N := ["_law_pen_here", "_law_limit", "_law_many", "_law_road", "_law_moves", "_law_one", "_law_other", "_law_two", "_law_x", "_law_y"]) (sc := defScope s_kindly_pairs) (by decide +kernel)) (by decide) (fun _ _ _ _ _ => (tg_name (i := 8) sc_kindly_pairs.nd rfl (Or.inr rfl))) (fun _ _ _ _ _ => ts_nil) (fun _ _ _ _ _ => (lockN (f_comp (own := [("_law_y", 9)]) (t := (.name 9)) rfl sc_kindly_pairs.nd (i_range1 rfl T.n_range (a_cons (toE f_int) a_nil)) (blkOk_by (own := [("_law_y", 9)]) (N := ["_law_pen_here", "_law_limit", "_law_many", "_law_road", "_law_moves", "_law_one", "_law_other", "_law_two", "_law_x", "_law_y"]) (sc := { kind := .function, names := [(".0", .local), ("_law_x", .cell), ("range", .globalImplicit)], isGenerator := false, isCoroutine := false }) (by decide +kernel)) (by decide) (fun _ _ _ _ _ => (tg_name (i := 9) sc_kindly_pairs.nd rfl (Or.inl rfl))) (fun _ _ _ _ _ => ts_nil) (fun _ _ _ _ _ => (toE (f_tup (a_cons (fv 9) (a_cons (toE (f_op op_modD (toE (f_op op_subD (toE (f_op op_mulD (toE f_int) (fv 9))) (fv 8))) (toE f_int))) a_nil)))))))))) a_nil)))))))) ss_nil)
      (ss_one (s_ret (toE (f_call tk G_gentle_pairs (hr.mono (by decide)) rfl m_gentle_pairs k_gentle_pairs b_gentle_pairs (a_cons (fv 0) (a_cons (fv 1) a_nil))))))))))))
abbrev s_raw : Stmt := top 56
theorem sc_raw : FnScope ["_law_pen_here", "_law_pairs"] ["_law_pen_here", "_law_pairs"] (defScope s_raw) := ⟨rfl, rfl, rfl, by decide +kernel, rfl, by decide +kernel, by decide +kernel⟩
theorem ok_raw {f : Addr} {fd : FuncData} (F : Fun K "_law_raw" "_law_raw" s_raw f fd) (T : Bare mg) (D_names : HasF P w K mg base C 3 "_law_names" ["_law_pen_here", "_law_many"] F_names) : FnOk P w K mg base (L2.CX P w) 4 f fd ["_law_pen_here", "_law_pairs"] (spF K C mg F_raw) := by
  obtain ⟨_, _, G_names, m_names, k_names, b_names⟩ := D_names.ex
  refine fn_okX F sc_raw fun cdv A outer s H E pen hr => ?_
  have tk : Takes (cxOf (L2.CX P w) P w K mg base ["_law_pen_here", "_law_pairs"] "_law_raw" (defScope s_raw) f cdv A outer s H E) (fun cls d _ H' => E cls d H') := takes_of rfl rfl rfl rfl
  have hp : PassesOwn (model P w) (cxOf (L2.CX P w) P w K mg base ["_law_pen_here", "_law_pairs"] "_law_raw" (defScope s_raw) f cdv A outer s H E).A (cxOf (L2.CX P w) P w K mg base ["_law_pen_here", "_law_pairs"] "_law_raw" (defScope s_raw) f cdv A outer s H E).env (cxOf (L2.CX P w) P w K mg base ["_law_pen_here", "_law_pairs"] "_law_raw" (defScope s_raw) f cdv A outer s H E).xe := passes_of rfl
  exact (ss_one (s_ret (toE (f_tup (a_cons (lockN (f_call tk G_names (hr.mono (by decide)) rfl m_names k_names b_names (a_cons (fv 0) (a_cons (toE (f_callB (call_lenF rfl) rfl T.n_len (by decide +kernel) (a_cons (fv 1) a_nil))) a_nil)))) (a_cons (fv 1) a_nil))))))
abbrev s_Table_init : Stmt := meth 23 0
theorem sc_Table_init : FnScope ["self", "marks", "pairs", "line", "pair"] ["self", "marks", "pairs"] (defScope s_Table_init) := ⟨rfl, rfl, rfl, by decide +kernel, rfl, by decide +kernel, by decide +kernel⟩
theorem ok_Table_init {f0 f : Addr} {fd : FuncData} (F : Fun K "__init__" "Table.__init__" s_Table_init f fd) (T : Bare mg) (TC : TabC K mg C f0) (D__are_marks : HasF P w K mg base C 2 "_are_marks" ["marks"] F__are_marks) (D__are_pairs : HasF P w K mg base C 4 "_are_pairs" ["pairs", "marks"] F__are_pairs) : FnOk P w K mg base (L2.CX P w) 5 f fd ["self", "marks", "pairs"] (spInitF K C) := by
  obtain ⟨_, _, G__are_marks, m__are_marks, k__are_marks, b__are_marks⟩ := D__are_marks.ex
  obtain ⟨_, _, G__are_pairs, m__are_pairs, k__are_pairs, b__are_pairs⟩ := D__are_pairs.ex
  refine F.okX sc_Table_init (fun vs H Q E h => init_len h) fun cdv A outer s H vs Q E hr h => ?_
  refine ⟨_, pss_cons (ps_if (PT.any fun a : Option (Addr × Addr) × Hp => (show FT _ (fcNo K C mg a.1 a.2) _ t_init1 from (t_not (t_tru (toE (f_call takes0 G__are_marks (hr.mono (by decide)) rfl m__are_marks k__are_marks b__are_marks (a_cons (fv 1) a_nil))) (by intro _; rfl))))) (pss_one ps_never) pss_nil) (pss_cons (ps_if (PT.any fun a : Option (Addr × Addr) × Hp => (show FT _ (fcNo K C mg a.1 a.2) _ t_init2 from (t_not (t_tru (toE (f_call takes0 G__are_pairs (hr.mono (by decide)) rfl m__are_pairs k__are_pairs b__are_pairs (a_cons (fv 2) (a_cons (fv 1) a_nil)))) (by intro _; rfl))))) (pss_one ps_never) pss_nil)
    (pss_cons (ps_fld (pv 0) (PE.any fun a : Option (Addr × Addr) × Hp => (show FN _ (fcNo K C mg a.1 a.2) _ e_init1 from (f_callTy call_tupleG rfl T.n_tuple (by decide +kernel) (a_cons (fv 1) a_nil)))) rfl) (pss_one (ps_fld (pv 0) (PE.any fun a : Option (Addr × Addr) × Hp => (show FN _ (fcNo K C mg a.1 a.2) _ e_init2 from (f_callTy call_tupleG rfl T.n_tuple (by decide +kernel) (a_cons (toE (f_comp (own := [("line", 3)]) (t := (.name 3)) rfl sc_Table_init.nd (i_any (fv 2)) (blkOk_by (own := [("line", 3)]) (N := ["self", "marks", "pairs", "line", "pair"]) (sc := defScope s_Table_init) (by decide +kernel)) (by decide) (fun _ _ _ _ _ => (tg_name (i := 3) sc_Table_init.nd rfl (Or.inl rfl))) (fun _ _ _ _ _ => ts_nil) (fun _ _ _ _ _ => (toE (f_callTy call_tupleG rfl T.n_tuple (by decide +kernel) (a_cons (toE (f_comp (own := [("pair", 4)]) (t := (.name 4)) rfl sc_Table_init.nd (i_any (fv 3)) (blkOk_by (own := [("pair", 4)]) (N := ["self", "marks", "pairs", "line", "pair"]) (sc := { kind := .function, names := [(".0", .local), ("line", .local), ("tuple", .globalImplicit)], isGenerator := false, isCoroutine := false }) (by decide +kernel)) (by decide) (fun _ _ _ _ _ => (tg_name (i := 4) sc_Table_init.nd rfl (Or.inl rfl))) (fun _ _ _ _ _ => ts_nil) (fun _ _ _ _ _ => (toE (f_callTy call_tupleG rfl T.n_tuple (by decide +kernel) (a_cons (fv 4) a_nil)))))) a_nil)))))) a_nil)))) rfl)))), ?_⟩
  exact init_goes TC h
abbrev s_row_behind : Stmt := top 37
theorem sc_row_behind : FnScope ["table", "row", "word"] ["table", "row", "word"] (defScope s_row_behind) := ⟨rfl, rfl, rfl, by decide +kernel, rfl, by decide +kernel, by decide +kernel⟩
theorem ok_row_behind {f : Addr} {fd : FuncData} (F : Fun K "row_behind" "row_behind" s_row_behind f fd) (T : Bare mg) (D_rows_on : HasF P w K mg base C 4 "rows_on" ["table", "row", "word"] F_rows_on) : FnOk P w K mg base (L2.CX P w) 5 f fd ["table", "row", "word"] (spF K C mg F_row_behind) := by
  obtain ⟨_, _, G_rows_on, m_rows_on, k_rows_on, b_rows_on⟩ := D_rows_on.ex
  refine fn_okX F sc_row_behind fun cdv A outer s H E pen hr => ?_
  have tk : Takes (cxOf (L2.CX P w) P w K mg base ["table", "row", "word"] "row_behind" (defScope s_row_behind) f cdv A outer s H E) (fun cls d _ H' => E cls d H') := takes_of rfl rfl rfl rfl
  have hp : PassesOwn (model P w) (cxOf (L2.CX P w) P w K mg base ["table", "row", "word"] "row_behind" (defScope s_row_behind) f cdv A outer s H E).A (cxOf (L2.CX P w) P w K mg base ["table", "row", "word"] "row_behind" (defScope s_row_behind) f cdv A outer s H E).env (cxOf (L2.CX P w) P w K mg base ["table", "row", "word"] "row_behind" (defScope s_row_behind) f cdv A outer s H E).xe := passes_of rfl
  exact (ss_one (s_ret (toE (f_ix (toE (f_call tk G_rows_on (hr.mono (by decide)) rfl m_rows_on k_rows_on b_rows_on (a_cons (fv 0) (a_cons (fv 1) (a_cons (fv 2) a_nil))))) (toE (f_neg (toE f_int))) (fun _ _ => rfl)))))
abbrev s_three_pairs : Stmt := top 53
theorem sc_three_pairs : FnScope ["_law_pen_here", "_law_limit", "_law_many", "_law_road", "_law_goal", "_law_x", "_law_y"] ["_law_pen_here", "_law_limit"] (defScope s_three_pairs) := ⟨rfl, rfl, rfl, by decide +kernel, rfl, by decide +kernel, by decide +kernel⟩
theorem ok_three_pairs {f : Addr} {fd : FuncData} (F : Fun K "_law_three_pairs" "_law_three_pairs" s_three_pairs f fd) (T : Bare mg) (D_kindly_pairs : HasF P w K mg base C 4 "_law_kindly_pairs" ["_law_pen_here", "_law_limit"] F_kindly_pairs) (D_draw : HasF P w K mg base C 1 "_law_draw" ["_law_pen_here", "_law_many"] F_draw) : FnOk P w K mg base (L2.CX P w) 5 f fd ["_law_pen_here", "_law_limit"] (spF K C mg F_three_pairs) := by
  obtain ⟨_, _, G_kindly_pairs, m_kindly_pairs, k_kindly_pairs, b_kindly_pairs⟩ := D_kindly_pairs.ex
  obtain ⟨_, _, G_draw, m_draw, k_draw, b_draw⟩ := D_draw.ex
  refine fn_okX F sc_three_pairs fun cdv A outer s H E pen hr => ?_
  have tk : Takes (cxOf (L2.CX P w) P w K mg base ["_law_pen_here", "_law_limit", "_law_many", "_law_road", "_law_goal", "_law_x", "_law_y"] "_law_three_pairs" (defScope s_three_pairs) f cdv A outer s H E) (fun cls d _ H' => E cls d H') := takes_of rfl rfl rfl rfl
  have hp : PassesOwn (model P w) (cxOf (L2.CX P w) P w K mg base ["_law_pen_here", "_law_limit", "_law_many", "_law_road", "_law_goal", "_law_x", "_law_y"] "_law_three_pairs" (defScope s_three_pairs) f cdv A outer s H E).A (cxOf (L2.CX P w) P w K mg base ["_law_pen_here", "_law_limit", "_law_many", "_law_road", "_law_goal", "_law_x", "_law_y"] "_law_three_pairs" (defScope s_three_pairs) f cdv A outer s H E).env (cxOf (L2.CX P w) P w K mg base ["_law_pen_here", "_law_limit", "_law_many", "_law_road", "_law_goal", "_law_x", "_law_y"] "_law_three_pairs" (defScope s_three_pairs) f cdv A outer s H E).xe := passes_of rfl
  exact (ss_cons (s_parC (is := [2, 3]) rfl (pn_cons (pg_name (i := 2) sc_three_pairs.nd rfl (Or.inr rfl)) (pn_cons (pg_name (i := 3) sc_three_pairs.nd rfl (Or.inl rfl)) pn_nil)) (n_cons (f_op op_addD (toE f_int) (toE (f_call tk G_draw (hr.mono (by decide)) rfl m_draw k_draw b_draw (a_cons (fv 0) (a_cons (fv 1) a_nil))))) (n_cons (f_call tk G_draw (hr.mono (by decide)) rfl m_draw k_draw b_draw (a_cons (fv 0) (a_cons (toE f_int) a_nil))) n_nil)) (by show 2 ≤ sizeLine; decide))
      (ss_cons (s_if (t_cmp (op_eqF rfl hr.units) (fv 3) (toE f_int) (nomark _))
      (ss_one (s_ret (toE (f_comp (own := [("_law_x", 5)]) (t := (.name 5)) rfl sc_three_pairs.nd (i_range1 rfl T.n_range (a_cons (fv 2) a_nil)) (blkOk_by (own := [("_law_x", 5)]) (N := ["_law_pen_here", "_law_limit", "_law_many", "_law_road", "_law_goal", "_law_x", "_law_y"]) (sc := defScope s_three_pairs) (by decide +kernel)) (by decide) (fun _ _ _ _ _ => (tg_name (i := 5) sc_three_pairs.nd rfl (Or.inr rfl))) (fun _ _ _ _ _ => ts_nil) (fun _ _ _ _ _ => (lockN (f_comp (own := [("_law_y", 6)]) (t := (.name 6)) rfl sc_three_pairs.nd (i_range1 rfl T.n_range (a_cons (fv 2) a_nil)) (blkOk_by (own := [("_law_y", 6)]) (N := ["_law_pen_here", "_law_limit", "_law_many", "_law_road", "_law_goal", "_law_x", "_law_y"]) (sc := { kind := .function, names := [(".0", .local), ("_law_x", .cell), ("range", .globalImplicit), ("_law_many", .cell)], isGenerator := false, isCoroutine := false }) (by decide +kernel)) (by decide) (fun _ _ _ _ _ => (tg_name (i := 6) sc_three_pairs.nd rfl (Or.inl rfl))) (fun _ _ _ _ _ => ts_nil) (fun _ _ _ _ _ => (toE (f_tup (a_cons (toE (f_callB (call_minF rfl) rfl T.n_min (by decide +kernel) (a_cons (fv 5) (a_cons (fv 6) a_nil)))) (a_cons (toE (f_callB (call_maxF rfl) rfl T.n_max (by decide +kernel) (a_cons (fv 5) (a_cons (fv 6) a_nil)))) a_nil)))))))))))) ss_nil)
      (ss_cons (s_if (w_pt (w_and (t_cmp (op_eqF rfl hr.units) (fv 3) (toE f_int) (nomark _)) (w_and1 (t_cmp op_gtF (fv 1) (toE f_int) (nomark _)))))
      (ss_one (s_ret (toE (f_lst (a_cons (lockN (f_lst (a_cons (toE (f_tup (a_cons (toE f_int) (a_cons (toE f_int) a_nil)))) (a_cons (toE (f_tup (a_cons (toE f_int) (a_cons (toE f_int) a_nil)))) (a_cons (toE (f_tup (a_cons (toE f_int) (a_cons (toE f_int) a_nil)))) a_nil))))) (a_cons (lockN (f_lst (a_cons (toE (f_tup (a_cons (toE f_int) (a_cons (toE f_int) a_nil)))) (a_cons (toE (f_tup (a_cons (toE f_int) (a_cons (toE f_int) a_nil)))) (a_cons (toE (f_tup (a_cons (toE f_int) (a_cons (toE f_int) a_nil)))) a_nil))))) (a_cons (lockN (f_lst (a_cons (toE (f_tup (a_cons (toE f_int) (a_cons (toE f_int) a_nil)))) (a_cons (toE (f_tup (a_cons (toE f_int) (a_cons (toE f_int) a_nil)))) (a_cons (toE (f_tup (a_cons (toE f_int) (a_cons (toE f_int) a_nil)))) a_nil))))) a_nil))))))) ss_nil)
      (ss_frz 2 (ss_frz 4 (ss_cons (s_if (t_cmp (op_eqF rfl hr.units) (fv 3) (toE f_int) (nomark _))
      (ss_frz 2 (ss_cons (s_set (i := 4) sc_three_pairs.nd rfl (Or.inr rfl) (f_call tk G_draw (hr.mono (by decide)) rfl m_draw k_draw b_draw (a_cons (fv 0) (a_cons (fv 2) a_nil))))
      (ss_frz 4 (ss_one (s_ret (toE (f_comp (own := [("_law_x", 5)]) (t := (.name 5)) rfl sc_three_pairs.nd (i_range1 rfl T.n_range (a_cons (fv 2) a_nil)) (blkOk_by (own := [("_law_x", 5)]) (N := ["_law_pen_here", "_law_limit", "_law_many", "_law_road", "_law_goal", "_law_x", "_law_y"]) (sc := defScope s_three_pairs) (by decide +kernel)) (by decide) (fun _ _ _ _ _ => (tg_name (i := 5) sc_three_pairs.nd rfl (Or.inl rfl))) (fun _ _ _ _ _ => ts_nil) (fun _ _ _ _ _ => (lockN (f_comp (own := [("_law_y", 6)]) (t := (.name 6)) rfl sc_three_pairs.nd (i_range1 rfl T.n_range (a_cons (fv 2) a_nil)) (blkOk_by (own := [("_law_y", 6)]) (N := ["_law_pen_here", "_law_limit", "_law_many", "_law_road", "_law_goal", "_law_x", "_law_y"]) (sc := { kind := .function, names := [(".0", .local), ("_law_x", .local), ("range", .globalImplicit), ("_law_goal", .cell), ("_law_many", .cell)], isGenerator := false, isCoroutine := false }) (by decide +kernel)) (by decide) (fun _ _ _ _ _ => (tg_name (i := 6) sc_three_pairs.nd rfl (Or.inl rfl))) (fun _ _ _ _ _ => ts_nil) (fun _ _ _ _ _ => (toE (f_tup (a_cons (fv 4) (a_cons (fv 4) a_nil))))))))))))))) ss_nil)
      (ss_one (s_ret (toE (f_call tk G_kindly_pairs (hr.mono (by decide)) rfl m_kindly_pairs k_kindly_pairs b_kindly_pairs (a_cons (fv 0) (a_cons (fv 1) a_nil))))))))))))
abbrev s_any_pairs : Stmt := top 55
theorem sc_any_pairs : FnScope ["_law_pen_here", "_law_limit", "_law_many", "_law_road", "_law_pairs", "_law_x", "_law_y"] ["_law_pen_here", "_law_limit"] (defScope s_any_pairs) := ⟨rfl, rfl, rfl, by decide +kernel, rfl, by decide +kernel, by decide +kernel⟩
theorem ok_any_pairs {f : Addr} {fd : FuncData} (F : Fun K "_law_any_pairs" "_law_any_pairs" s_any_pairs f fd) (T : Bare mg) (D_turned_pairs : HasF P w K mg base C 3 "_law_turned_pairs" ["_law_pen_here", "_law_pairs"] F_turned_pairs) (D_draw : HasF P w K mg base C 1 "_law_draw" ["_law_pen_here", "_law_many"] F_draw) (D_three_pairs : HasF P w K mg base C 5 "_law_three_pairs" ["_law_pen_here", "_law_limit"] F_three_pairs) : FnOk P w K mg base (L2.CX P w) 6 f fd ["_law_pen_here", "_law_limit"] (spF K C mg F_any_pairs) := by
  obtain ⟨_, _, G_turned_pairs, m_turned_pairs, k_turned_pairs, b_turned_pairs⟩ := D_turned_pairs.ex
  obtain ⟨_, _, G_draw, m_draw, k_draw, b_draw⟩ := D_draw.ex
  obtain ⟨_, _, G_three_pairs, m_three_pairs, k_three_pairs, b_three_pairs⟩ := D_three_pairs.ex
  refine fn_okX F sc_any_pairs fun cdv A outer s H E pen hr => ?_
  have tk : Takes (cxOf (L2.CX P w) P w K mg base ["_law_pen_here", "_law_limit", "_law_many", "_law_road", "_law_pairs", "_law_x", "_law_y"] "_law_any_pairs" (defScope s_any_pairs) f cdv A outer s H E) (fun cls d _ H' => E cls d H') := takes_of rfl rfl rfl rfl
  have hp : PassesOwn (model P w) (cxOf (L2.CX P w) P w K mg base ["_law_pen_here", "_law_limit", "_law_many", "_law_road", "_law_pairs", "_law_x", "_law_y"] "_law_any_pairs" (defScope s_any_pairs) f cdv A outer s H E).A (cxOf (L2.CX P w) P w K mg base ["_law_pen_here", "_law_limit", "_law_many", "_law_road", "_law_pairs", "_law_x", "_law_y"] "_law_any_pairs" (defScope s_any_pairs) f cdv A outer s H E).env (cxOf (L2.CX P w) P w K mg base ["_law_pen_here", "_law_limit", "_law_many", "_law_road", "_law_pairs", "_law_x", "_law_y"] "_law_any_pairs" (defScope s_any_pairs) f cdv A outer s H E).xe := passes_of rfl
  exact (ss_cons (s_parC (is := [2, 3]) rfl (pn_cons (pg_name (i := 2) sc_any_pairs.nd rfl (Or.inr rfl)) (pn_cons (pg_name (i := 3) sc_any_pairs.nd rfl (Or.inl rfl)) pn_nil)) (n_cons (f_op op_addD (toE f_int) (toE (f_call tk G_draw (hr.mono (by decide)) rfl m_draw k_draw b_draw (a_cons (fv 0) (a_cons (fv 1) a_nil))))) (n_cons (f_call tk G_draw (hr.mono (by decide)) rfl m_draw k_draw b_draw (a_cons (fv 0) (a_cons (toE f_int) a_nil))) n_nil)) (by show 2 ≤ sizeLine; decide))
      (ss_frz 2 (ss_cons (s_if (t_cmp (op_eqF rfl hr.units) (fv 3) (toE f_int) (nomark _))
      (ss_frz 2 (ss_one (s_ret (toE (f_comp (own := [("_law_x", 5)]) (t := (.name 5)) rfl sc_any_pairs.nd (i_range1 rfl T.n_range (a_cons (fv 2) a_nil)) (blkOk_by (own := [("_law_x", 5)]) (N := ["_law_pen_here", "_law_limit", "_law_many", "_law_road", "_law_pairs", "_law_x", "_law_y"]) (sc := defScope s_any_pairs) (by decide +kernel)) (by decide) (fun _ _ _ _ _ => (tg_name (i := 5) sc_any_pairs.nd rfl (Or.inl rfl))) (fun _ _ _ _ _ => ts_nil) (fun _ _ _ _ _ => (lockN (f_comp (own := [("_law_y", 6)]) (t := (.name 6)) rfl sc_any_pairs.nd (i_range1 rfl T.n_range (a_cons (fv 2) a_nil)) (blkOk_by (own := [("_law_y", 6)]) (N := ["_law_pen_here", "_law_limit", "_law_many", "_law_road", "_law_pairs", "_law_x", "_law_y"]) (sc := { kind := .function, names := [(".0", .local), ("_law_x", .local), ("range", .globalImplicit), ("_law_many", .cell), ("_law_pen_here", .cell)], isGenerator := false, isCoroutine := false }) (by decide +kernel)) (by decide) (fun _ _ _ _ _ => (tg_name (i := 6) sc_any_pairs.nd rfl (Or.inl rfl))) (fun _ _ _ _ _ => ts_nil) (fun _ _ _ _ _ => (toE (f_tup (a_cons (lockN (f_call takes0 G_draw (hr.mono (by decide)) rfl m_draw k_draw b_draw (a_cons (fv 0) (a_cons (fv 2) a_nil)))) (a_cons (lockN (f_call takes0 G_draw (hr.mono (by decide)) rfl m_draw k_draw b_draw (a_cons (fv 0) (a_cons (fv 2) a_nil)))) a_nil))))))))))))) ss_nil)
      (ss_cons (s_set (i := 4) sc_any_pairs.nd rfl (Or.inl rfl) (f_call tk G_turned_pairs (hr.mono (by decide)) rfl m_turned_pairs k_turned_pairs b_turned_pairs (a_cons (fv 0) (a_cons (lockN (f_call tk G_three_pairs (hr.mono (by decide)) rfl m_three_pairs k_three_pairs b_three_pairs (a_cons (fv 0) (a_cons (fv 1) a_nil)))) a_nil))))
      (ss_frz 2 (ss_cons (s_if (t_cmp (op_eqF rfl hr.units) (fv 3) (toE f_int) (nomark _))
      (ss_cons (s_set (i := 2) sc_any_pairs.nd rfl (Or.inr rfl) (f_callB (call_lenF rfl) rfl T.n_len (by decide +kernel) (a_cons (fv 4) a_nil)))
      (ss_frz 2 (ss_cons (s_par (i := 5) (j := 6) rfl sc_any_pairs.nd rfl rfl (by decide) rfl rfl (n_cons (f_call tk G_draw (hr.mono (by decide)) rfl m_draw k_draw b_draw (a_cons (fv 0) (a_cons (fv 2) a_nil))) (n_cons (f_call tk G_draw (hr.mono (by decide)) rfl m_draw k_draw b_draw (a_cons (fv 0) (a_cons (fv 2) a_nil))) n_nil)) (by rfl))
      (ss_frz 2 (ss_one (s_asg (lockN (f_op op_addD (toE (f_op op_addD (toE (f_slice (toE (f_ix (fv 4) (fv 5) (fun _ _ => rfl))) o_none (o_some (fv 6)))) (toE (f_lst (a_cons (toE (f_tup (a_cons (lockN (f_call tk G_draw (hr.mono (by decide)) rfl m_draw k_draw b_draw (a_cons (fv 0) (a_cons (fv 2) a_nil)))) (a_cons (lockN (f_call tk G_draw (hr.mono (by decide)) rfl m_draw k_draw b_draw (a_cons (fv 0) (a_cons (fv 2) a_nil)))) a_nil)))) a_nil))))) (toE (f_slice (toE (f_ix (fv 4) (fv 5) (fun _ _ => rfl))) (o_some (toE (f_op op_addD (fv 6) (toE f_int)))) o_none)))) (x_sub (i := 4) rfl (Or.inl rfl) (by decide) (by decide) (fv 5)))))))) ss_nil)
      (ss_one (s_ret (fv 4)))))))))
abbrev s_made : Stmt := top 57
theorem sc_made : FnScope ["_law_raw_here", "_law_marks_here", "_law_pairs", "_law_row", "_law_one", "_law_two"] ["_law_raw_here"] (defScope s_made) := ⟨rfl, rfl, rfl, by decide +kernel, rfl, by decide +kernel, by decide +kernel⟩
theorem ok_made {f : Addr} {fd : FuncData} (F : Fun K "_law_made" "_law_made" s_made f fd) (T : Bare mg) {f0 : Addr} (TC : TabC K mg C f0) (D_Table_init : HasIF P w K mg base 5 C f0 ["self", "marks", "pairs"] (spInitF K C)) : FnOk P w K mg base (L2.CX P w) 7 f fd ["_law_raw_here"] (spF K C mg F_made) := by
  obtain ⟨_, G_Table_init, b_Table_init⟩ := D_Table_init
  refine fn_okX F sc_made fun cdv A outer s H E pen hr => ?_
  have tk : Takes (cxOf (L2.CX P w) P w K mg base ["_law_raw_here", "_law_marks_here", "_law_pairs", "_law_row", "_law_one", "_law_two"] "_law_made" (defScope s_made) f cdv A outer s H E) (fun cls d _ H' => E cls d H') := takes_of rfl rfl rfl rfl
  have hp : PassesOwn (model P w) (cxOf (L2.CX P w) P w K mg base ["_law_raw_here", "_law_marks_here", "_law_pairs", "_law_row", "_law_one", "_law_two"] "_law_made" (defScope s_made) f cdv A outer s H E).A (cxOf (L2.CX P w) P w K mg base ["_law_raw_here", "_law_marks_here", "_law_pairs", "_law_row", "_law_one", "_law_two"] "_law_made" (defScope s_made) f cdv A outer s H E).env (cxOf (L2.CX P w) P w K mg base ["_law_raw_here", "_law_marks_here", "_law_pairs", "_law_row", "_law_one", "_law_two"] "_law_made" (defScope s_made) f cdv A outer s H E).xe := passes_of rfl
  exact (ss_cons (s_asg (fv 0) (x_tup rfl (xs_cons (x_name (i := 1) sc_made.nd rfl (Or.inr rfl)) (xs_cons (x_name (i := 2) sc_made.nd rfl (Or.inl rfl)) xs_nil))))
      (ss_one (s_ret (toE (f_table TC.make G_Table_init (hr.mono (by decide)) rfl TC.mg b_Table_init (a_cons (lockN (f_callTy call_listF rfl T.n_list (by decide +kernel) (a_cons (fv 1) a_nil))) (a_cons (lockN (f_comp (own := [("_law_row", 3)]) (t := (.name 3)) rfl sc_made.nd (i_any (fv 2)) (blkOk_by (own := [("_law_row", 3)]) (N := ["_law_raw_here", "_law_marks_here", "_law_pairs", "_law_row", "_law_one", "_law_two"]) (sc := defScope s_made) (by decide +kernel)) (by decide) (fun _ _ _ _ _ => (tg_name (i := 3) sc_made.nd rfl (Or.inl rfl))) (fun _ _ _ _ _ => ts_nil) (fun _ _ _ _ _ => (lockN (f_comp (own := [("_law_one", 4), ("_law_two", 5)]) (t := (.tup [(.name 4), (.name 5)])) rfl sc_made.nd (i_any (fv 3)) (blkOk_by (own := [("_law_one", 4), ("_law_two", 5)]) (N := ["_law_raw_here", "_law_marks_here", "_law_pairs", "_law_row", "_law_one", "_law_two"]) (sc := { kind := .function, names := [(".0", .local), ("_law_row", .local), ("_law_marks_here", .cell)], isGenerator := false, isCoroutine := false }) (by decide +kernel)) (by decide) (fun _ _ _ _ _ => (tg_tup rfl rfl (tgs_cons (tg_name (i := 4) sc_made.nd rfl (Or.inl rfl)) (tgs_cons (tg_name (i := 5) sc_made.nd rfl (Or.inl rfl)) tgs_nil)))) (fun _ _ _ _ _ => ts_nil) (fun _ _ _ _ _ => (toE (f_tup (a_cons (toE (f_ix (fv 1) (fv 4) (fun _ _ => rfl))) (a_cons (toE (f_ix (fv 1) (fv 5) (fun _ _ => rfl))) a_nil)))))))))) a_nil)))))))
abbrev s_law : Stmt := top 60
theorem sc_law : FnScope ["_law_script", "_law_pen_here", "_law_bout", "_law_raw_here", "_law_table", "_law_places", "_law_row", "_law_turn", "_law_spot", "_law_flat", "_law_after", "_law_other", "_law_fault"] ["_law_script"] (defScope s_law) := ⟨rfl, rfl, rfl, by decide +kernel, rfl, by decide +kernel, by decide +kernel⟩
theorem ok_law {f : Addr} {fd : FuncData} (F : Fun K "law" "law" s_law f fd) (T : Bare mg) (D_pen : Has P w K mg base 1 "_law_pen" ["_law_script"] (spPenX K)) (D_raw : HasF P w K mg base C 4 "_law_raw" ["_law_pen_here", "_law_pairs"] F_raw) (D_marks : HasF P w K mg base C 1 "_law_marks" ["_law_raw_here", "_law_line"] F_marks) (D_made : HasF P w K mg base C 7 "_law_made" ["_law_raw_here"] F_made) (D_three_fault : HasF P w K mg base C 4 "three_fault" ["table"] F_three_fault) (D_turned_pairs : HasF P w K mg base C 3 "_law_turned_pairs" ["_law_pen_here", "_law_pairs"] F_turned_pairs) (D_pick : HasF P w K mg base C 2 "_law_pick" ["_law_pen_here", "_law_some"] F_pick) (D_numbers : HasF P w K mg base C 2 "_law_numbers" ["_law_pen_here", "_law_raw_here", "_law_places"] F_numbers) (D_row_behind : HasF P w K mg base C 5 "row_behind" ["table", "row", "word"] F_row_behind) (D_plain : HasF P w K mg base C 4 "plain" ["table", "row"] F_plain) (D_three_pairs : HasF P w K mg base C 5 "_law_three_pairs" ["_law_pen_here", "_law_limit"] F_three_pairs) (D_draw : HasF P w K mg base C 1 "_law_draw" ["_law_pen_here", "_law_many"] F_draw) (D_any_pairs : HasF P w K mg base C 6 "_law_any_pairs" ["_law_pen_here", "_law_limit"] F_any_pairs)
    (pure : ∀ ns : List Int, ns.length ≤ 63 → ∃ π', g_law_k53 (lawEnv ns.length 11) ⟨ns, 0, 0⟩ = some (.ok (.rt (.bl true)), π')) : FnG P w K mg base 8 f fd ["_law_script"] (spLaw K) := by
  obtain ⟨_, _, G_pen, m_pen, k_pen, b_pen⟩ := D_pen
  obtain ⟨_, _, G_raw, m_raw, k_raw, b_raw⟩ := D_raw.ex
  obtain ⟨_, _, G_marks, m_marks, k_marks, b_marks⟩ := D_marks.ex
  obtain ⟨_, _, G_made, m_made, k_made, b_made⟩ := D_made.ex
  obtain ⟨_, _, G_three_fault, m_three_fault, k_three_fault, b_three_fault⟩ := D_three_fault.ex
  obtain ⟨_, _, G_turned_pairs, m_turned_pairs, k_turned_pairs, b_turned_pairs⟩ := D_turned_pairs.ex
  obtain ⟨_, _, G_pick, m_pick, k_pick, b_pick⟩ := D_pick.ex
  obtain ⟨_, _, G_numbers, m_numbers, k_numbers, b_numbers⟩ := D_numbers.ex
  obtain ⟨_, _, G_row_behind, m_row_behind, k_row_behind, b_row_behind⟩ := D_row_behind.ex
  obtain ⟨_, _, G_plain, m_plain, k_plain, b_plain⟩ := D_plain.ex
  obtain ⟨_, _, G_three_pairs, m_three_pairs, k_three_pairs, b_three_pairs⟩ := D_three_pairs.ex
  obtain ⟨_, _, G_draw, m_draw, k_draw, b_draw⟩ := D_draw.ex
  obtain ⟨_, _, G_any_pairs, m_any_pairs, k_any_pairs, b_any_pairs⟩ := D_any_pairs.ex
  refine gok F sc_law (fun vs H Q E h => law_len h) (fun cdv A outer s H vs Q E hgA hr h => ?_)
  have hg : (A.deeper (PyProof.Rows.envOfC "law" (defScope s_law) s.heap.objs.size f cdv)).guards = some [] := hgA
  have tk : Takes ((cxOf L2.CX0 P w K mg base ["_law_script", "_law_pen_here", "_law_bout", "_law_raw_here", "_law_table", "_law_places", "_law_row", "_law_turn", "_law_spot", "_law_flat", "_law_after", "_law_other", "_law_fault"] "law" (defScope s_law) f cdv A outer s H E).nox) (fun _ _ _ _ => False) := takes0
  have hp : PassesOwn (model P w) (A.deeper (PyProof.Rows.envOfC "law" (defScope s_law) s.heap.objs.size f cdv)) (PyProof.Rows.envOfC "law" (defScope s_law) s.heap.objs.size f cdv) (fun _ _ => False) := PassesOwn.never
  obtain ⟨a, ns, rfl, hS, hl, k⟩ := h
  refine ⟨_, (pss_cons (ps_set (i := 1) sc_law.nd rfl (Or.inl rfl) (pe_call G_pen (hr.mono (by decide)) rfl m_pen k_pen b_pen .nil pass0 (pa_cons (pv 0) pa_nil)))
      (law_rest (C := C) (g := g_law_k53) fun pen H => (ss_frz 1 (ss_frz 3 (ss_frz 4 (ss_frz 5 (ss_frz 6 (ss_frz 8 (ss_frz 11 (ss_frz 12 (ss_cons (s_for hp rfl (i_range1 rfl T.n_range (a_cons (toE (f_op op_addD (toE f_int) (toE (f_callB (call_minF rfl) rfl T.n_min (by decide +kernel) (a_cons (toE f_int) (a_cons (toE (f_callB (call_lenF rfl) rfl T.n_len (by decide +kernel) (a_cons (fv 0) a_nil))) a_nil)))))) a_nil)) (tg_name (i := 2) sc_law.nd rfl (Or.inl rfl))
      (ss_frz 1 (ss_cons (s_set (i := 3) sc_law.nd rfl (Or.inl rfl) (f_call tk G_raw (hr.mono (by decide)) rfl m_raw k_raw b_raw (a_cons (fv 1) (a_cons (lockN (f_call tk G_turned_pairs (hr.mono (by decide)) rfl m_turned_pairs k_turned_pairs b_turned_pairs (a_cons (fv 1) (a_cons (lockN (f_call tk G_three_pairs (hr.mono (by decide)) rfl m_three_pairs k_three_pairs b_three_pairs (a_cons (fv 1) (a_cons (toE f_int) a_nil)))) a_nil)))) a_nil))))
      (ss_frz 1 (ss_frz 3 (ss_cons (s_par (i := 4) (j := 5) rfl sc_law.nd rfl rfl (by decide) rfl rfl (n_cons (f_call tk G_made (hr.mono (by decide)) rfl m_made k_made b_made (a_cons (fv 3) a_nil)) (n_cons (f_call tk G_pick (hr.mono (by decide)) rfl m_pick k_pick b_pick (a_cons (fv 1) (a_cons (lockN (f_lst (a_cons (toE f_int) (a_cons (toE f_int) (a_cons (toE f_int) (a_cons (toE f_int) a_nil)))))) a_nil))) n_nil)) (by rfl))
      (ss_frz 1 (ss_frz 3 (ss_frz 5 (ss_cons (s_set (i := 6) sc_law.nd rfl (Or.inl rfl) (f_call tk G_marks (hr.mono (by decide)) rfl m_marks k_marks b_marks (a_cons (fv 3) (a_cons (lockN (f_call tk G_numbers (hr.mono (by decide)) rfl m_numbers k_numbers b_numbers (a_cons (fv 1) (a_cons (fv 3) (a_cons (fv 5) a_nil))))) a_nil))))
      (ss_frz 1 (ss_frz 4 (ss_frz 6 (ss_frz 8 (ss_cons (s_for hp rfl (i_range1 rfl T.n_range (a_cons (toE f_int) a_nil)) (tg_name (i := 7) sc_law.nd rfl (Or.inl rfl))
      (ss_frz 1 (ss_frz 4 (ss_frz 6 (ss_cons (s_par (i := 8) (j := 9) rfl sc_law.nd rfl rfl (by decide) rfl rfl (n_cons (f_call tk G_draw (hr.mono (by decide)) rfl m_draw k_draw b_draw (a_cons (fv 1) (a_cons (toE (f_op op_subD (fv 5) (toE f_int))) a_nil))) (n_cons (f_call tk G_plain (hr.mono (by decide)) rfl m_plain k_plain b_plain (a_cons (fv 4) (a_cons (fv 6) a_nil))) n_nil)) (by rfl))
      (ss_frz 4 (ss_frz 6 (ss_frz 8 (ss_cons (s_set (i := 6) sc_law.nd rfl (Or.inl rfl) (f_call tk G_row_behind (hr.mono (by decide)) rfl m_row_behind k_row_behind b_row_behind (a_cons (fv 4) (a_cons (fv 6) (a_cons (toE (f_tup (a_cons (fv 8) a_nil))) a_nil)))))
      (ss_frz 4 (ss_frz 6 (ss_cons (s_set (i := 10) sc_law.nd rfl (Or.inl rfl) (f_call tk G_plain (hr.mono (by decide)) rfl m_plain k_plain b_plain (a_cons (fv 4) (a_cons (fv 6) a_nil))))
      (ss_one (s_if (w_pt (w_or (t_cmp (op_neF rfl hr.units) (toE (f_slice (fv 10) o_none (o_some (fv 8)))) (toE (f_slice (fv 9) o_none (o_some (fv 8)))) (nomark _)) (w_or (t_cmp (op_neF rfl hr.units) (toE (f_slice (fv 10) (o_some (toE (f_op op_addD (fv 8) (toE f_int)))) o_none)) (toE (f_slice (fv 9) (o_some (toE (f_op op_addD (fv 8) (toE f_int)))) o_none)) (nomark _)) (w_or1 (t_cmp (op_neF rfl hr.units) (toE (f_ix (fv 10) (toE (f_op op_addD (fv 8) (toE f_int))) (fun _ _ => rfl))) (toE (f_ix (fv 9) (fv 8) (fun _ _ => rfl))) (nomark _))))))
      (ss_one (s_ret (toE f_bl))) ss_nil))))))))))))))
      (ss_frz 1 (ss_cons (s_set (i := 11) sc_law.nd rfl (Or.inl rfl) (f_call tk G_made (hr.mono (by decide)) rfl m_made k_made b_made (a_cons (lockN (f_call tk G_raw (hr.mono (by decide)) rfl m_raw k_raw b_raw (a_cons (fv 1) (a_cons (lockN (f_call tk G_any_pairs (hr.mono (by decide)) rfl m_any_pairs k_any_pairs b_any_pairs (a_cons (fv 1) (a_cons (toE f_int) a_nil)))) a_nil)))) a_nil)))
      (ss_frz 11 (ss_cons (s_set (i := 12) sc_law.nd rfl (Or.inl rfl) (f_call tk G_three_fault (hr.mono (by decide)) rfl m_three_fault k_three_fault b_three_fault (a_cons (fv 11) a_nil)))
      (ss_frz 11 (ss_frz 12 (ss_one (s_if (w_pt (w_and (t_cmp op_notNF (fv 12) (toE f_non) (nomark _)) (w_and1 (t_cmp (op_eqF rfl hr.units) (toE (f_call tk G_row_behind (hr.mono (by decide)) rfl m_row_behind k_row_behind b_row_behind (a_cons (fv 11) (a_cons (fv 12) (a_cons (toE (f_tup (a_cons (toE f_int) (a_cons (toE f_int) (a_cons (toE f_int) a_nil))))) a_nil))))) (toE (f_call tk G_row_behind (hr.mono (by decide)) rfl m_row_behind k_row_behind b_row_behind (a_cons (fv 11) (a_cons (fv 12) (a_cons (toE (f_tup (a_cons (toE f_int) (a_cons (toE f_int) (a_cons (toE f_int) a_nil))))) a_nil))))) (nomark _)))))
      (ss_one (s_ret (toE f_bl))) ss_nil)))))))))))))))))))))))
      (ss_one (s_ret (toE f_bl)))))))))))))), ?_⟩
  refine ⟨_, rfl, a, ns, rfl, hS, hl, fun p c H1 np nc s1 hp1 hc1 => ?_⟩
  exact law_goes (n := 11) (law_at hS s1 nc) hl hp1 hc1 k (pure ns hl)
end
end Fk53
set_option Elab.async false
set_option maxRecDepth 100000
set_option linter.unusedVariables false
namespace Fk53
open PySem L2 Lw Fx
set_option maxHeartbeats 0 in
theorem all_mk {l : PySem.W.OpenLaw} {w : World} {K : PySem.W.Frag} {h : Heap} {mg : Str → Option Value} {fa : Addr} (X : K.In h) (G : h.Ns mainGlobals mg) (hfa : mg "law" = some (.ref fa))
    {C : Addr}
    {f_pen f_draw f_is_listing f_is_number f_is_name f_Table_marks f_Table_passed f_powers f_four f_side_by_side f_behind_pairs f_called f_marks f_row_fault f_word_fault f_pass_done f__are_marks f__is_full f__is_pair f__mark_out f_pick f_shuffled f_lots_pairs f_numbers f_row_taken f_word_taken f__is_line f__turned f_names f_gentle_pairs f_turned_pairs f__are_pairs f_three_fault f_plain f_rows_on f_kindly_pairs f_raw f_Table_init f_row_behind f_three_pairs f_any_pairs f_made f_law : Addr} {od_pen an_pen od_draw an_draw od_is_listing an_is_listing od_is_number an_is_number od_is_name an_is_name od_Table_marks an_Table_marks od_Table_passed an_Table_passed od_powers an_powers od_four an_four od_side_by_side an_side_by_side od_behind_pairs an_behind_pairs od_called an_called od_marks an_marks od_row_fault an_row_fault od_word_fault an_word_fault od_pass_done an_pass_done od__are_marks an__are_marks od__is_full an__is_full od__is_pair an__is_pair od__mark_out an__mark_out od_pick an_pick od_shuffled an_shuffled od_lots_pairs an_lots_pairs od_numbers an_numbers od_row_taken an_row_taken od_word_taken an_word_taken od__is_line an__is_line od__turned an__turned od_names an_names od_gentle_pairs an_gentle_pairs od_turned_pairs an_turned_pairs od__are_pairs an__are_pairs od_three_fault an_three_fault od_plain an_plain od_rows_on an_rows_on od_kindly_pairs an_kindly_pairs od_raw an_raw od_Table_init an_Table_init od_row_behind an_row_behind od_three_pairs an_three_pairs od_any_pairs an_any_pairs od_made an_made od_law an_law : Option Addr} {sl_pen sl_draw sl_is_listing sl_is_number sl_is_name sl_Table_marks sl_Table_passed sl_powers sl_four sl_side_by_side sl_behind_pairs sl_called sl_marks sl_row_fault sl_word_fault sl_pass_done sl__are_marks sl__is_full sl__is_pair sl__mark_out sl_pick sl_shuffled sl_lots_pairs sl_numbers sl_row_taken sl_word_taken sl__is_line sl__turned sl_names sl_gentle_pairs sl_turned_pairs sl__are_pairs sl_three_fault sl_plain sl_rows_on sl_kindly_pairs sl_raw sl_Table_init sl_row_behind sl_three_pairs sl_any_pairs sl_made sl_law : Array (Option Value)}
    {oc_pen kV_pen dc_pen pm_pen cd_pen ct_pen oc_draw kV_draw dc_draw pm_draw cd_draw ct_draw oc_is_listing kV_is_listing dc_is_listing pm_is_listing cd_is_listing ct_is_listing oc_is_number kV_is_number dc_is_number pm_is_number cd_is_number ct_is_number oc_is_name kV_is_name dc_is_name pm_is_name cd_is_name ct_is_name oc_Table_marks kV_Table_marks dc_Table_marks pm_Table_marks cd_Table_marks ct_Table_marks oc_Table_passed kV_Table_passed dc_Table_passed pm_Table_passed cd_Table_passed ct_Table_passed oc_powers kV_powers dc_powers pm_powers cd_powers ct_powers oc_four kV_four dc_four pm_four cd_four ct_four oc_side_by_side kV_side_by_side dc_side_by_side pm_side_by_side cd_side_by_side ct_side_by_side oc_behind_pairs kV_behind_pairs dc_behind_pairs pm_behind_pairs cd_behind_pairs ct_behind_pairs oc_called kV_called dc_called pm_called cd_called ct_called oc_marks kV_marks dc_marks pm_marks cd_marks ct_marks oc_row_fault kV_row_fault dc_row_fault pm_row_fault cd_row_fault ct_row_fault oc_word_fault kV_word_fault dc_word_fault pm_word_fault cd_word_fault ct_word_fault oc_pass_done kV_pass_done dc_pass_done pm_pass_done cd_pass_done ct_pass_done oc__are_marks kV__are_marks dc__are_marks pm__are_marks cd__are_marks ct__are_marks oc__is_full kV__is_full dc__is_full pm__is_full cd__is_full ct__is_full oc__is_pair kV__is_pair dc__is_pair pm__is_pair cd__is_pair ct__is_pair oc__mark_out kV__mark_out dc__mark_out pm__mark_out cd__mark_out ct__mark_out oc_pick kV_pick dc_pick pm_pick cd_pick ct_pick oc_shuffled kV_shuffled dc_shuffled pm_shuffled cd_shuffled ct_shuffled oc_lots_pairs kV_lots_pairs dc_lots_pairs pm_lots_pairs cd_lots_pairs ct_lots_pairs oc_numbers kV_numbers dc_numbers pm_numbers cd_numbers ct_numbers oc_row_taken kV_row_taken dc_row_taken pm_row_taken cd_row_taken ct_row_taken oc_word_taken kV_word_taken dc_word_taken pm_word_taken cd_word_taken ct_word_taken oc__is_line kV__is_line dc__is_line pm__is_line cd__is_line ct__is_line oc__turned kV__turned dc__turned pm__turned cd__turned ct__turned oc_names kV_names dc_names pm_names cd_names ct_names oc_gentle_pairs kV_gentle_pairs dc_gentle_pairs pm_gentle_pairs cd_gentle_pairs ct_gentle_pairs oc_turned_pairs kV_turned_pairs dc_turned_pairs pm_turned_pairs cd_turned_pairs ct_turned_pairs oc__are_pairs kV__are_pairs dc__are_pairs pm__are_pairs cd__are_pairs ct__are_pairs oc_three_fault kV_three_fault dc_three_fault pm_three_fault cd_three_fault ct_three_fault oc_plain kV_plain dc_plain pm_plain cd_plain ct_plain oc_rows_on kV_rows_on dc_rows_on pm_rows_on cd_rows_on ct_rows_on oc_kindly_pairs kV_kindly_pairs dc_kindly_pairs pm_kindly_pairs cd_kindly_pairs ct_kindly_pairs oc_raw kV_raw dc_raw pm_raw cd_raw ct_raw oc_Table_init kV_Table_init dc_Table_init pm_Table_init cd_Table_init ct_Table_init oc_row_behind kV_row_behind dc_row_behind pm_row_behind cd_row_behind ct_row_behind oc_three_pairs kV_three_pairs dc_three_pairs pm_three_pairs cd_three_pairs ct_three_pairs oc_any_pairs kV_any_pairs dc_any_pairs pm_any_pairs cd_any_pairs ct_any_pairs oc_made kV_made dc_made pm_made cd_made ct_made oc_law kV_law dc_law pm_law cd_law ct_law : Value} {t__LONGEST t__LETTERS t_PLACES t_WORD t_MOST_MARKS : Tok}
    (aC : PySem.W.nsIn K mainGlobals "Table" = some (some (.ref C))) (pg : PySem.W.plainGet K C Str.empty = true) (hd : PySem.W.hasDictIn K C = true) (po : PySem.W.plainOver K C = true)
    (sa : PySem.W.findIn K (.ref C) "__setattr__" = some (some (.builtin "object.__setattr__"))) (mk : PySem.W.makesIn K C = true) (kc : PySem.W.keepIn K (.ref C) = true)
    (n_marks : PySem.W.findIn K (.ref C) "_marks" = some none) (n_pairs : PySem.W.findIn K (.ref C) "_pairs" = some none)
    (a_pen : PySem.W.nsIn K mainGlobals "_law_pen" = some (some (.ref f_pen)))
    (l_pen : K.lookup f_pen = some ⟨oc_pen, od_pen, .func (PySem.W.fnOf "_law_pen" "_law_pen" (defArgs s_pen) (defBody s_pen) (defScope s_pen) .none kV_pen dc_pen pm_pen an_pen cd_pen ct_pen), sl_pen⟩)
    (c_pen : PySem.W.codeIn K cd_pen "_law_pen" = true) (k_pen : PySem.W.keepIn K (.ref f_pen) = true)
    (a_draw : PySem.W.nsIn K mainGlobals "_law_draw" = some (some (.ref f_draw)))
    (l_draw : K.lookup f_draw = some ⟨oc_draw, od_draw, .func (PySem.W.fnOf "_law_draw" "_law_draw" (defArgs s_draw) (defBody s_draw) (defScope s_draw) .none kV_draw dc_draw pm_draw an_draw cd_draw ct_draw), sl_draw⟩)
    (c_draw : PySem.W.codeIn K cd_draw "_law_draw" = true) (k_draw : PySem.W.keepIn K (.ref f_draw) = true)
    (a_is_listing : PySem.W.nsIn K mainGlobals "is_listing" = some (some (.ref f_is_listing)))
    (l_is_listing : K.lookup f_is_listing = some ⟨oc_is_listing, od_is_listing, .func (PySem.W.fnOf "is_listing" "is_listing" (defArgs s_is_listing) (defBody s_is_listing) (defScope s_is_listing) .none kV_is_listing dc_is_listing pm_is_listing an_is_listing cd_is_listing ct_is_listing), sl_is_listing⟩)
    (c_is_listing : PySem.W.codeIn K cd_is_listing "is_listing" = true) (k_is_listing : PySem.W.keepIn K (.ref f_is_listing) = true)
    (a_is_number : PySem.W.nsIn K mainGlobals "is_number" = some (some (.ref f_is_number)))
    (l_is_number : K.lookup f_is_number = some ⟨oc_is_number, od_is_number, .func (PySem.W.fnOf "is_number" "is_number" (defArgs s_is_number) (defBody s_is_number) (defScope s_is_number) .none kV_is_number dc_is_number pm_is_number an_is_number cd_is_number ct_is_number), sl_is_number⟩)
    (c_is_number : PySem.W.codeIn K cd_is_number "is_number" = true) (k_is_number : PySem.W.keepIn K (.ref f_is_number) = true)
    (a_is_name : PySem.W.nsIn K mainGlobals "is_name" = some (some (.ref f_is_name)))
    (l_is_name : K.lookup f_is_name = some ⟨oc_is_name, od_is_name, .func (PySem.W.fnOf "is_name" "is_name" (defArgs s_is_name) (defBody s_is_name) (defScope s_is_name) .none kV_is_name dc_is_name pm_is_name an_is_name cd_is_name ct_is_name), sl_is_name⟩)
    (c_is_name : PySem.W.codeIn K cd_is_name "is_name" = true) (k_is_name : PySem.W.keepIn K (.ref f_is_name) = true)
    (a_Table_marks : PySem.W.findIn K (.ref C) "marks" = some (some (.ref f_Table_marks))) (i_Table_marks : PySem.W.isFn K (.ref f_Table_marks) = true)
    (l_Table_marks : K.lookup f_Table_marks = some ⟨oc_Table_marks, od_Table_marks, .func (PySem.W.fnOf "marks" "Table.marks" (defArgs s_Table_marks) (defBody s_Table_marks) (defScope s_Table_marks) .none kV_Table_marks dc_Table_marks pm_Table_marks an_Table_marks cd_Table_marks ct_Table_marks), sl_Table_marks⟩)
    (c_Table_marks : PySem.W.codeIn K cd_Table_marks "Table.marks" = true) (k_Table_marks : PySem.W.keepIn K (.ref f_Table_marks) = true)
    (a_Table_passed : PySem.W.findIn K (.ref C) "passed" = some (some (.ref f_Table_passed))) (i_Table_passed : PySem.W.isFn K (.ref f_Table_passed) = true)
    (l_Table_passed : K.lookup f_Table_passed = some ⟨oc_Table_passed, od_Table_passed, .func (PySem.W.fnOf "passed" "Table.passed" (defArgs s_Table_passed) (defBody s_Table_passed) (defScope s_Table_passed) .none kV_Table_passed dc_Table_passed pm_Table_passed an_Table_passed cd_Table_passed ct_Table_passed), sl_Table_passed⟩)
    (c_Table_passed : PySem.W.codeIn K cd_Table_passed "Table.passed" = true) (k_Table_passed : PySem.W.keepIn K (.ref f_Table_passed) = true)
    (a_powers : PySem.W.nsIn K mainGlobals "_law_powers" = some (some (.ref f_powers)))
    (l_powers : K.lookup f_powers = some ⟨oc_powers, od_powers, .func (PySem.W.fnOf "_law_powers" "_law_powers" (defArgs s_powers) (defBody s_powers) (defScope s_powers) .none kV_powers dc_powers pm_powers an_powers cd_powers ct_powers), sl_powers⟩)
    (c_powers : PySem.W.codeIn K cd_powers "_law_powers" = true) (k_powers : PySem.W.keepIn K (.ref f_powers) = true)
    (a_four : PySem.W.nsIn K mainGlobals "_law_four" = some (some (.ref f_four)))
    (l_four : K.lookup f_four = some ⟨oc_four, od_four, .func (PySem.W.fnOf "_law_four" "_law_four" (defArgs s_four) (defBody s_four) (defScope s_four) .none kV_four dc_four pm_four an_four cd_four ct_four), sl_four⟩)
    (c_four : PySem.W.codeIn K cd_four "_law_four" = true) (k_four : PySem.W.keepIn K (.ref f_four) = true)
    (a_side_by_side : PySem.W.nsIn K mainGlobals "_law_side_by_side" = some (some (.ref f_side_by_side)))
    (l_side_by_side : K.lookup f_side_by_side = some ⟨oc_side_by_side, od_side_by_side, .func (PySem.W.fnOf "_law_side_by_side" "_law_side_by_side" (defArgs s_side_by_side) (defBody s_side_by_side) (defScope s_side_by_side) .none kV_side_by_side dc_side_by_side pm_side_by_side an_side_by_side cd_side_by_side ct_side_by_side), sl_side_by_side⟩)
    (c_side_by_side : PySem.W.codeIn K cd_side_by_side "_law_side_by_side" = true) (k_side_by_side : PySem.W.keepIn K (.ref f_side_by_side) = true)
    (a_behind_pairs : PySem.W.nsIn K mainGlobals "_law_behind_pairs" = some (some (.ref f_behind_pairs)))
    (l_behind_pairs : K.lookup f_behind_pairs = some ⟨oc_behind_pairs, od_behind_pairs, .func (PySem.W.fnOf "_law_behind_pairs" "_law_behind_pairs" (defArgs s_behind_pairs) (defBody s_behind_pairs) (defScope s_behind_pairs) .none kV_behind_pairs dc_behind_pairs pm_behind_pairs an_behind_pairs cd_behind_pairs ct_behind_pairs), sl_behind_pairs⟩)
    (c_behind_pairs : PySem.W.codeIn K cd_behind_pairs "_law_behind_pairs" = true) (k_behind_pairs : PySem.W.keepIn K (.ref f_behind_pairs) = true)
    (a_called : PySem.W.nsIn K mainGlobals "_law_called" = some (some (.ref f_called)))
    (l_called : K.lookup f_called = some ⟨oc_called, od_called, .func (PySem.W.fnOf "_law_called" "_law_called" (defArgs s_called) (defBody s_called) (defScope s_called) .none kV_called dc_called pm_called an_called cd_called ct_called), sl_called⟩)
    (c_called : PySem.W.codeIn K cd_called "_law_called" = true) (k_called : PySem.W.keepIn K (.ref f_called) = true)
    (a_marks : PySem.W.nsIn K mainGlobals "_law_marks" = some (some (.ref f_marks)))
    (l_marks : K.lookup f_marks = some ⟨oc_marks, od_marks, .func (PySem.W.fnOf "_law_marks" "_law_marks" (defArgs s_marks) (defBody s_marks) (defScope s_marks) .none kV_marks dc_marks pm_marks an_marks cd_marks ct_marks), sl_marks⟩)
    (c_marks : PySem.W.codeIn K cd_marks "_law_marks" = true) (k_marks : PySem.W.keepIn K (.ref f_marks) = true)
    (a_row_fault : PySem.W.nsIn K mainGlobals "row_fault" = some (some (.ref f_row_fault)))
    (l_row_fault : K.lookup f_row_fault = some ⟨oc_row_fault, od_row_fault, .func (PySem.W.fnOf "row_fault" "row_fault" (defArgs s_row_fault) (defBody s_row_fault) (defScope s_row_fault) .none kV_row_fault dc_row_fault pm_row_fault an_row_fault cd_row_fault ct_row_fault), sl_row_fault⟩)
    (c_row_fault : PySem.W.codeIn K cd_row_fault "row_fault" = true) (k_row_fault : PySem.W.keepIn K (.ref f_row_fault) = true)
    (a_word_fault : PySem.W.nsIn K mainGlobals "word_fault" = some (some (.ref f_word_fault)))
    (l_word_fault : K.lookup f_word_fault = some ⟨oc_word_fault, od_word_fault, .func (PySem.W.fnOf "word_fault" "word_fault" (defArgs s_word_fault) (defBody s_word_fault) (defScope s_word_fault) .none kV_word_fault dc_word_fault pm_word_fault an_word_fault cd_word_fault ct_word_fault), sl_word_fault⟩)
    (c_word_fault : PySem.W.codeIn K cd_word_fault "word_fault" = true) (k_word_fault : PySem.W.keepIn K (.ref f_word_fault) = true)
    (a_pass_done : PySem.W.nsIn K mainGlobals "pass_done" = some (some (.ref f_pass_done)))
    (l_pass_done : K.lookup f_pass_done = some ⟨oc_pass_done, od_pass_done, .func (PySem.W.fnOf "pass_done" "pass_done" (defArgs s_pass_done) (defBody s_pass_done) (defScope s_pass_done) .none kV_pass_done dc_pass_done pm_pass_done an_pass_done cd_pass_done ct_pass_done), sl_pass_done⟩)
    (c_pass_done : PySem.W.codeIn K cd_pass_done "pass_done" = true) (k_pass_done : PySem.W.keepIn K (.ref f_pass_done) = true)
    (a__are_marks : PySem.W.nsIn K mainGlobals "_are_marks" = some (some (.ref f__are_marks)))
    (l__are_marks : K.lookup f__are_marks = some ⟨oc__are_marks, od__are_marks, .func (PySem.W.fnOf "_are_marks" "_are_marks" (defArgs s__are_marks) (defBody s__are_marks) (defScope s__are_marks) .none kV__are_marks dc__are_marks pm__are_marks an__are_marks cd__are_marks ct__are_marks), sl__are_marks⟩)
    (c__are_marks : PySem.W.codeIn K cd__are_marks "_are_marks" = true) (k__are_marks : PySem.W.keepIn K (.ref f__are_marks) = true)
    (a__is_full : PySem.W.nsIn K mainGlobals "_is_full" = some (some (.ref f__is_full)))
    (l__is_full : K.lookup f__is_full = some ⟨oc__is_full, od__is_full, .func (PySem.W.fnOf "_is_full" "_is_full" (defArgs s__is_full) (defBody s__is_full) (defScope s__is_full) .none kV__is_full dc__is_full pm__is_full an__is_full cd__is_full ct__is_full), sl__is_full⟩)
    (c__is_full : PySem.W.codeIn K cd__is_full "_is_full" = true) (k__is_full : PySem.W.keepIn K (.ref f__is_full) = true)
    (a__is_pair : PySem.W.nsIn K mainGlobals "_is_pair" = some (some (.ref f__is_pair)))
    (l__is_pair : K.lookup f__is_pair = some ⟨oc__is_pair, od__is_pair, .func (PySem.W.fnOf "_is_pair" "_is_pair" (defArgs s__is_pair) (defBody s__is_pair) (defScope s__is_pair) .none kV__is_pair dc__is_pair pm__is_pair an__is_pair cd__is_pair ct__is_pair), sl__is_pair⟩)
    (c__is_pair : PySem.W.codeIn K cd__is_pair "_is_pair" = true) (k__is_pair : PySem.W.keepIn K (.ref f__is_pair) = true)
    (a__mark_out : PySem.W.nsIn K mainGlobals "_mark_out" = some (some (.ref f__mark_out)))
    (l__mark_out : K.lookup f__mark_out = some ⟨oc__mark_out, od__mark_out, .func (PySem.W.fnOf "_mark_out" "_mark_out" (defArgs s__mark_out) (defBody s__mark_out) (defScope s__mark_out) .none kV__mark_out dc__mark_out pm__mark_out an__mark_out cd__mark_out ct__mark_out), sl__mark_out⟩)
    (c__mark_out : PySem.W.codeIn K cd__mark_out "_mark_out" = true) (k__mark_out : PySem.W.keepIn K (.ref f__mark_out) = true)
    (a_pick : PySem.W.nsIn K mainGlobals "_law_pick" = some (some (.ref f_pick)))
    (l_pick : K.lookup f_pick = some ⟨oc_pick, od_pick, .func (PySem.W.fnOf "_law_pick" "_law_pick" (defArgs s_pick) (defBody s_pick) (defScope s_pick) .none kV_pick dc_pick pm_pick an_pick cd_pick ct_pick), sl_pick⟩)
    (c_pick : PySem.W.codeIn K cd_pick "_law_pick" = true) (k_pick : PySem.W.keepIn K (.ref f_pick) = true)
    (a_shuffled : PySem.W.nsIn K mainGlobals "_law_shuffled" = some (some (.ref f_shuffled)))
    (l_shuffled : K.lookup f_shuffled = some ⟨oc_shuffled, od_shuffled, .func (PySem.W.fnOf "_law_shuffled" "_law_shuffled" (defArgs s_shuffled) (defBody s_shuffled) (defScope s_shuffled) .none kV_shuffled dc_shuffled pm_shuffled an_shuffled cd_shuffled ct_shuffled), sl_shuffled⟩)
    (c_shuffled : PySem.W.codeIn K cd_shuffled "_law_shuffled" = true) (k_shuffled : PySem.W.keepIn K (.ref f_shuffled) = true)
    (a_lots_pairs : PySem.W.nsIn K mainGlobals "_law_lots_pairs" = some (some (.ref f_lots_pairs)))
    (l_lots_pairs : K.lookup f_lots_pairs = some ⟨oc_lots_pairs, od_lots_pairs, .func (PySem.W.fnOf "_law_lots_pairs" "_law_lots_pairs" (defArgs s_lots_pairs) (defBody s_lots_pairs) (defScope s_lots_pairs) .none kV_lots_pairs dc_lots_pairs pm_lots_pairs an_lots_pairs cd_lots_pairs ct_lots_pairs), sl_lots_pairs⟩)
    (c_lots_pairs : PySem.W.codeIn K cd_lots_pairs "_law_lots_pairs" = true) (k_lots_pairs : PySem.W.keepIn K (.ref f_lots_pairs) = true)
    (a_numbers : PySem.W.nsIn K mainGlobals "_law_numbers" = some (some (.ref f_numbers)))
    (l_numbers : K.lookup f_numbers = some ⟨oc_numbers, od_numbers, .func (PySem.W.fnOf "_law_numbers" "_law_numbers" (defArgs s_numbers) (defBody s_numbers) (defScope s_numbers) .none kV_numbers dc_numbers pm_numbers an_numbers cd_numbers ct_numbers), sl_numbers⟩)
    (c_numbers : PySem.W.codeIn K cd_numbers "_law_numbers" = true) (k_numbers : PySem.W.keepIn K (.ref f_numbers) = true)
    (a_row_taken : PySem.W.nsIn K mainGlobals "row_taken" = some (some (.ref f_row_taken)))
    (l_row_taken : K.lookup f_row_taken = some ⟨oc_row_taken, od_row_taken, .func (PySem.W.fnOf "row_taken" "row_taken" (defArgs s_row_taken) (defBody s_row_taken) (defScope s_row_taken) .none kV_row_taken dc_row_taken pm_row_taken an_row_taken cd_row_taken ct_row_taken), sl_row_taken⟩)
    (c_row_taken : PySem.W.codeIn K cd_row_taken "row_taken" = true) (k_row_taken : PySem.W.keepIn K (.ref f_row_taken) = true)
    (a_word_taken : PySem.W.nsIn K mainGlobals "word_taken" = some (some (.ref f_word_taken)))
    (l_word_taken : K.lookup f_word_taken = some ⟨oc_word_taken, od_word_taken, .func (PySem.W.fnOf "word_taken" "word_taken" (defArgs s_word_taken) (defBody s_word_taken) (defScope s_word_taken) .none kV_word_taken dc_word_taken pm_word_taken an_word_taken cd_word_taken ct_word_taken), sl_word_taken⟩)
    (c_word_taken : PySem.W.codeIn K cd_word_taken "word_taken" = true) (k_word_taken : PySem.W.keepIn K (.ref f_word_taken) = true)
    (a__is_line : PySem.W.nsIn K mainGlobals "_is_line" = some (some (.ref f__is_line)))
    (l__is_line : K.lookup f__is_line = some ⟨oc__is_line, od__is_line, .func (PySem.W.fnOf "_is_line" "_is_line" (defArgs s__is_line) (defBody s__is_line) (defScope s__is_line) .none kV__is_line dc__is_line pm__is_line an__is_line cd__is_line ct__is_line), sl__is_line⟩)
    (c__is_line : PySem.W.codeIn K cd__is_line "_is_line" = true) (k__is_line : PySem.W.keepIn K (.ref f__is_line) = true)
    (a__turned : PySem.W.nsIn K mainGlobals "_turned" = some (some (.ref f__turned)))
    (l__turned : K.lookup f__turned = some ⟨oc__turned, od__turned, .func (PySem.W.fnOf "_turned" "_turned" (defArgs s__turned) (defBody s__turned) (defScope s__turned) .none kV__turned dc__turned pm__turned an__turned cd__turned ct__turned), sl__turned⟩)
    (c__turned : PySem.W.codeIn K cd__turned "_turned" = true) (k__turned : PySem.W.keepIn K (.ref f__turned) = true)
    (a_names : PySem.W.nsIn K mainGlobals "_law_names" = some (some (.ref f_names)))
    (l_names : K.lookup f_names = some ⟨oc_names, od_names, .func (PySem.W.fnOf "_law_names" "_law_names" (defArgs s_names) (defBody s_names) (defScope s_names) .none kV_names dc_names pm_names an_names cd_names ct_names), sl_names⟩)
    (c_names : PySem.W.codeIn K cd_names "_law_names" = true) (k_names : PySem.W.keepIn K (.ref f_names) = true)
    (a_gentle_pairs : PySem.W.nsIn K mainGlobals "_law_gentle_pairs" = some (some (.ref f_gentle_pairs)))
    (l_gentle_pairs : K.lookup f_gentle_pairs = some ⟨oc_gentle_pairs, od_gentle_pairs, .func (PySem.W.fnOf "_law_gentle_pairs" "_law_gentle_pairs" (defArgs s_gentle_pairs) (defBody s_gentle_pairs) (defScope s_gentle_pairs) .none kV_gentle_pairs dc_gentle_pairs pm_gentle_pairs an_gentle_pairs cd_gentle_pairs ct_gentle_pairs), sl_gentle_pairs⟩)
    (c_gentle_pairs : PySem.W.codeIn K cd_gentle_pairs "_law_gentle_pairs" = true) (k_gentle_pairs : PySem.W.keepIn K (.ref f_gentle_pairs) = true)
    (a_turned_pairs : PySem.W.nsIn K mainGlobals "_law_turned_pairs" = some (some (.ref f_turned_pairs)))
    (l_turned_pairs : K.lookup f_turned_pairs = some ⟨oc_turned_pairs, od_turned_pairs, .func (PySem.W.fnOf "_law_turned_pairs" "_law_turned_pairs" (defArgs s_turned_pairs) (defBody s_turned_pairs) (defScope s_turned_pairs) .none kV_turned_pairs dc_turned_pairs pm_turned_pairs an_turned_pairs cd_turned_pairs ct_turned_pairs), sl_turned_pairs⟩)
    (c_turned_pairs : PySem.W.codeIn K cd_turned_pairs "_law_turned_pairs" = true) (k_turned_pairs : PySem.W.keepIn K (.ref f_turned_pairs) = true)
    (a__are_pairs : PySem.W.nsIn K mainGlobals "_are_pairs" = some (some (.ref f__are_pairs)))
    (l__are_pairs : K.lookup f__are_pairs = some ⟨oc__are_pairs, od__are_pairs, .func (PySem.W.fnOf "_are_pairs" "_are_pairs" (defArgs s__are_pairs) (defBody s__are_pairs) (defScope s__are_pairs) .none kV__are_pairs dc__are_pairs pm__are_pairs an__are_pairs cd__are_pairs ct__are_pairs), sl__are_pairs⟩)
    (c__are_pairs : PySem.W.codeIn K cd__are_pairs "_are_pairs" = true) (k__are_pairs : PySem.W.keepIn K (.ref f__are_pairs) = true)
    (a_three_fault : PySem.W.nsIn K mainGlobals "three_fault" = some (some (.ref f_three_fault)))
    (l_three_fault : K.lookup f_three_fault = some ⟨oc_three_fault, od_three_fault, .func (PySem.W.fnOf "three_fault" "three_fault" (defArgs s_three_fault) (defBody s_three_fault) (defScope s_three_fault) .none kV_three_fault dc_three_fault pm_three_fault an_three_fault cd_three_fault ct_three_fault), sl_three_fault⟩)
    (c_three_fault : PySem.W.codeIn K cd_three_fault "three_fault" = true) (k_three_fault : PySem.W.keepIn K (.ref f_three_fault) = true)
    (a_plain : PySem.W.nsIn K mainGlobals "plain" = some (some (.ref f_plain)))
    (l_plain : K.lookup f_plain = some ⟨oc_plain, od_plain, .func (PySem.W.fnOf "plain" "plain" (defArgs s_plain) (defBody s_plain) (defScope s_plain) .none kV_plain dc_plain pm_plain an_plain cd_plain ct_plain), sl_plain⟩)
    (c_plain : PySem.W.codeIn K cd_plain "plain" = true) (k_plain : PySem.W.keepIn K (.ref f_plain) = true)
    (a_rows_on : PySem.W.nsIn K mainGlobals "rows_on" = some (some (.ref f_rows_on)))
    (l_rows_on : K.lookup f_rows_on = some ⟨oc_rows_on, od_rows_on, .func (PySem.W.fnOf "rows_on" "rows_on" (defArgs s_rows_on) (defBody s_rows_on) (defScope s_rows_on) .none kV_rows_on dc_rows_on pm_rows_on an_rows_on cd_rows_on ct_rows_on), sl_rows_on⟩)
    (c_rows_on : PySem.W.codeIn K cd_rows_on "rows_on" = true) (k_rows_on : PySem.W.keepIn K (.ref f_rows_on) = true)
    (a_kindly_pairs : PySem.W.nsIn K mainGlobals "_law_kindly_pairs" = some (some (.ref f_kindly_pairs)))
    (l_kindly_pairs : K.lookup f_kindly_pairs = some ⟨oc_kindly_pairs, od_kindly_pairs, .func (PySem.W.fnOf "_law_kindly_pairs" "_law_kindly_pairs" (defArgs s_kindly_pairs) (defBody s_kindly_pairs) (defScope s_kindly_pairs) .none kV_kindly_pairs dc_kindly_pairs pm_kindly_pairs an_kindly_pairs cd_kindly_pairs ct_kindly_pairs), sl_kindly_pairs⟩)
    (c_kindly_pairs : PySem.W.codeIn K cd_kindly_pairs "_law_kindly_pairs" = true) (k_kindly_pairs : PySem.W.keepIn K (.ref f_kindly_pairs) = true)
    (a_raw : PySem.W.nsIn K mainGlobals "_law_raw" = some (some (.ref f_raw)))
    (l_raw : K.lookup f_raw = some ⟨oc_raw, od_raw, .func (PySem.W.fnOf "_law_raw" "_law_raw" (defArgs s_raw) (defBody s_raw) (defScope s_raw) .none kV_raw dc_raw pm_raw an_raw cd_raw ct_raw), sl_raw⟩)
    (c_raw : PySem.W.codeIn K cd_raw "_law_raw" = true) (k_raw : PySem.W.keepIn K (.ref f_raw) = true)
    (a_Table_init : PySem.W.findIn K (.ref C) "__init__" = some (some (.ref f_Table_init))) (i_Table_init : PySem.W.isFn K (.ref f_Table_init) = true)
    (l_Table_init : K.lookup f_Table_init = some ⟨oc_Table_init, od_Table_init, .func (PySem.W.fnOf "__init__" "Table.__init__" (defArgs s_Table_init) (defBody s_Table_init) (defScope s_Table_init) .none kV_Table_init dc_Table_init pm_Table_init an_Table_init cd_Table_init ct_Table_init), sl_Table_init⟩)
    (c_Table_init : PySem.W.codeIn K cd_Table_init "Table.__init__" = true) (k_Table_init : PySem.W.keepIn K (.ref f_Table_init) = true)
    (a_row_behind : PySem.W.nsIn K mainGlobals "row_behind" = some (some (.ref f_row_behind)))
    (l_row_behind : K.lookup f_row_behind = some ⟨oc_row_behind, od_row_behind, .func (PySem.W.fnOf "row_behind" "row_behind" (defArgs s_row_behind) (defBody s_row_behind) (defScope s_row_behind) .none kV_row_behind dc_row_behind pm_row_behind an_row_behind cd_row_behind ct_row_behind), sl_row_behind⟩)
    (c_row_behind : PySem.W.codeIn K cd_row_behind "row_behind" = true) (k_row_behind : PySem.W.keepIn K (.ref f_row_behind) = true)
    (a_three_pairs : PySem.W.nsIn K mainGlobals "_law_three_pairs" = some (some (.ref f_three_pairs)))
    (l_three_pairs : K.lookup f_three_pairs = some ⟨oc_three_pairs, od_three_pairs, .func (PySem.W.fnOf "_law_three_pairs" "_law_three_pairs" (defArgs s_three_pairs) (defBody s_three_pairs) (defScope s_three_pairs) .none kV_three_pairs dc_three_pairs pm_three_pairs an_three_pairs cd_three_pairs ct_three_pairs), sl_three_pairs⟩)
    (c_three_pairs : PySem.W.codeIn K cd_three_pairs "_law_three_pairs" = true) (k_three_pairs : PySem.W.keepIn K (.ref f_three_pairs) = true)
    (a_any_pairs : PySem.W.nsIn K mainGlobals "_law_any_pairs" = some (some (.ref f_any_pairs)))
    (l_any_pairs : K.lookup f_any_pairs = some ⟨oc_any_pairs, od_any_pairs, .func (PySem.W.fnOf "_law_any_pairs" "_law_any_pairs" (defArgs s_any_pairs) (defBody s_any_pairs) (defScope s_any_pairs) .none kV_any_pairs dc_any_pairs pm_any_pairs an_any_pairs cd_any_pairs ct_any_pairs), sl_any_pairs⟩)
    (c_any_pairs : PySem.W.codeIn K cd_any_pairs "_law_any_pairs" = true) (k_any_pairs : PySem.W.keepIn K (.ref f_any_pairs) = true)
    (a_made : PySem.W.nsIn K mainGlobals "_law_made" = some (some (.ref f_made)))
    (l_made : K.lookup f_made = some ⟨oc_made, od_made, .func (PySem.W.fnOf "_law_made" "_law_made" (defArgs s_made) (defBody s_made) (defScope s_made) .none kV_made dc_made pm_made an_made cd_made ct_made), sl_made⟩)
    (c_made : PySem.W.codeIn K cd_made "_law_made" = true) (k_made : PySem.W.keepIn K (.ref f_made) = true)
    (a_law : PySem.W.nsIn K mainGlobals "law" = some (some (.ref f_law)))
    (l_law : K.lookup f_law = some ⟨oc_law, od_law, .func (PySem.W.fnOf "law" "law" (defArgs s_law) (defBody s_law) (defScope s_law) .none kV_law dc_law pm_law an_law cd_law ct_law), sl_law⟩)
    (c_law : PySem.W.codeIn K cd_law "law" = true) (k_law : PySem.W.keepIn K (.ref f_law) = true)
    (v__LONGEST : PySem.W.nsIn K mainGlobals "_LONGEST" = some (some (.int 8 t__LONGEST)))
    (v__LETTERS : PySem.W.nsIn K mainGlobals "_LETTERS" = some (some (.str (Str.ofString "abcdefghijklmnopqrstuvwxyz") t__LETTERS)))
    (v_PLACES : PySem.W.nsIn K mainGlobals "PLACES" = some (some (.int 60 t_PLACES)))
    (v_WORD : PySem.W.nsIn K mainGlobals "WORD" = some (some (.int 2000 t_WORD)))
    (v_MOST_MARKS : PySem.W.nsIn K mainGlobals "MOST_MARKS" = some (some (.int 6 t_MOST_MARKS)))
    (z_len : PySem.W.nsIn K mainGlobals "len" = some none)
    (z_list : PySem.W.nsIn K mainGlobals "list" = some none)
    (z_tuple : PySem.W.nsIn K mainGlobals "tuple" = some none)
    (z_range : PySem.W.nsIn K mainGlobals "range" = some none)
    (z_enumerate : PySem.W.nsIn K mainGlobals "enumerate" = some none)
    (z_isinstance : PySem.W.nsIn K mainGlobals "isinstance" = some none)
    (z_int : PySem.W.nsIn K mainGlobals "int" = some none)
    (z_bool : PySem.W.nsIn K mainGlobals "bool" = some none)
    (z_abs : PySem.W.nsIn K mainGlobals "abs" = some none)
    (z_repr : PySem.W.nsIn K mainGlobals "repr" = some none)
    (z_all : PySem.W.nsIn K mainGlobals "all" = some none)
    (z_min : PySem.W.nsIn K mainGlobals "min" = some none)
    (z_max : PySem.W.nsIn K mainGlobals "max" = some none)
    (z_sorted : PySem.W.nsIn K mainGlobals "sorted" = some none)
    (z_set : PySem.W.nsIn K mainGlobals "set" = some none)
    (z_sum : PySem.W.nsIn K mainGlobals "sum" = some none)
    (z_str : PySem.W.nsIn K mainGlobals "str" = some none)
    (z_dict : PySem.W.nsIn K mainGlobals "dict" = some none)
    (z_any : PySem.W.nsIn K mainGlobals "any" = some none)
    (z_reversed : PySem.W.nsIn K mainGlobals "reversed" = some none)
    (z_zip : PySem.W.nsIn K mainGlobals "zip" = some none)
    : ∃ fd : FuncData, (∀ (s : Shared) (v : Value), BindsTo s fd ⟨[v], []⟩ [("_law_script", v)]) ∧ ∀ base : Heap, K.In base → base.Ns mainGlobals mg → FnG l.prog w K mg base 8 fa fd ["_law_script"] (Fx.spLaw K) := by
  have e := hfa.symm.trans (PySem.W.mg_of X G a_law)
  cases e
  have T : Bare mg := { n_len := PySem.W.mg_none_of X G z_len, n_list := PySem.W.mg_none_of X G z_list, n_tuple := PySem.W.mg_none_of X G z_tuple, n_range := PySem.W.mg_none_of X G z_range, n_enumerate := PySem.W.mg_none_of X G z_enumerate, n_isinstance := PySem.W.mg_none_of X G z_isinstance, n_int := PySem.W.mg_none_of X G z_int, n_bool := PySem.W.mg_none_of X G z_bool, n_abs := PySem.W.mg_none_of X G z_abs, n_repr := PySem.W.mg_none_of X G z_repr, n_all := PySem.W.mg_none_of X G z_all, n_min := PySem.W.mg_none_of X G z_min, n_max := PySem.W.mg_none_of X G z_max, n_sorted := PySem.W.mg_none_of X G z_sorted, n_set := PySem.W.mg_none_of X G z_set, n_sum := PySem.W.mg_none_of X G z_sum, n_str := PySem.W.mg_none_of X G z_str, n_dict := PySem.W.mg_none_of X G z_dict, n_any := PySem.W.mg_none_of X G z_any, n_reversed := PySem.W.mg_none_of X G z_reversed, n_zip := PySem.W.mg_none_of X G z_zip }
  have C__LONGEST : ∃ t, mg "_LONGEST" = some (.int 8 t) := ⟨_, PySem.W.mg_of X G v__LONGEST⟩
  have C__LETTERS : ∃ t, mg "_LETTERS" = some (.str (Str.ofString "abcdefghijklmnopqrstuvwxyz") t) := ⟨_, PySem.W.mg_of X G v__LETTERS⟩
  have C_PLACES : ∃ t, mg "PLACES" = some (.int 60 t) := ⟨_, PySem.W.mg_of X G v_PLACES⟩
  have C_WORD : ∃ t, mg "WORD" = some (.int 2000 t) := ⟨_, PySem.W.mg_of X G v_WORD⟩
  have C_MOST_MARKS : ∃ t, mg "MOST_MARKS" = some (.int 6 t) := ⟨_, PySem.W.mg_of X G v_MOST_MARKS⟩
  have TC : TabC K mg C f_Table_init := ⟨⟨pg, hd, po, sa⟩, ⟨mk, a_Table_init, i_Table_init, kc⟩, PySem.W.mg_of X G aC, n_marks, n_pairs⟩
  refine ⟨PySem.W.fnOf "law" "law" (defArgs s_law) (defBody s_law) (defScope s_law) .none kV_law dc_law pm_law an_law cd_law ct_law, fun s v => .of_eq rfl, fun base _ _ => ?_⟩
  have Q_pen := fun_mk (st := s_pen) l_pen c_pen k_pen
  have D_pen : Has l.prog w K mg base 1 "_law_pen" ["_law_script"] (spPenX K) := ⟨_, _, ok_penX Q_pen T, PySem.W.mg_of X G a_pen, k_pen, Q_pen.binds (ps := ["_law_script"]) fun _ _ _ _ _ _ us hl => match us, hl with | [_], _ => rfl⟩
  have Q_draw := fun_mk (st := s_draw) l_draw c_draw k_draw
  have D_draw : HasF l.prog w K mg base C 1 "_law_draw" ["_law_pen_here", "_law_many"] F_draw := ⟨⟨_, _, Fx.FnOk.toX ((ok_drawX Q_draw T).imp draw_spF), PySem.W.mg_of X G a_draw, k_draw, Q_draw.binds (ps := ["_law_pen_here", "_law_many"]) fun _ _ _ _ _ _ us hl => match us, hl with | [_, _], _ => rfl⟩⟩
  have Q_is_listing := fun_mk (st := s_is_listing) l_is_listing c_is_listing k_is_listing
  have D_is_listing : HasF l.prog w K mg base C 1 "is_listing" ["thing"] F_is_listing := ⟨⟨_, _, ok_is_listing Q_is_listing T , PySem.W.mg_of X G a_is_listing, k_is_listing, Q_is_listing.binds (ps := ["thing"]) fun _ _ _ _ _ _ us hl => match us, hl with | [_], _ => rfl⟩⟩
  have Q_is_number := fun_mk (st := s_is_number) l_is_number c_is_number k_is_number
  have D_is_number : HasF l.prog w K mg base C 1 "is_number" ["thing", "least", "most"] F_is_number := ⟨⟨_, _, ok_is_number Q_is_number T , PySem.W.mg_of X G a_is_number, k_is_number, Q_is_number.binds (ps := ["thing", "least", "most"]) fun _ _ _ _ _ _ us hl => match us, hl with | [_, _, _], _ => rfl⟩⟩
  have Q_is_name := fun_mk (st := s_is_name) l_is_name c_is_name k_is_name
  have D_is_name : HasF l.prog w K mg base C 1 "is_name" ["thing"] F_is_name := ⟨⟨_, _, ok_is_name Q_is_name T C__LONGEST C__LETTERS, PySem.W.mg_of X G a_is_name, k_is_name, Q_is_name.binds (ps := ["thing"]) fun _ _ _ _ _ _ us hl => match us, hl with | [_], _ => rfl⟩⟩
  have Q_Table_marks := fun_mk (st := s_Table_marks) l_Table_marks c_Table_marks k_Table_marks
  have D_Table_marks : HasMF l.prog w K mg base C 1 "marks" ["self"] F_Table_marks := ⟨⟨_, _, ok_Table_marks Q_Table_marks T TC, ⟨a_Table_marks, i_Table_marks, k_Table_marks⟩, Q_Table_marks.binds (ps := ["self"]) fun _ _ _ _ _ _ us hl => match us, hl with | [_], _ => rfl⟩⟩
  have Q_Table_passed := fun_mk (st := s_Table_passed) l_Table_passed c_Table_passed k_Table_passed
  have D_Table_passed : HasMF l.prog w K mg base C 1 "passed" ["self", "one", "other"] F_Table_passed := ⟨⟨_, _, ok_Table_passed Q_Table_passed T TC, ⟨a_Table_passed, i_Table_passed, k_Table_passed⟩, Q_Table_passed.binds (ps := ["self", "one", "other"]) fun _ _ _ _ _ _ us hl => match us, hl with | [_, _, _], _ => rfl⟩⟩
  have Q_powers := fun_mk (st := s_powers) l_powers c_powers k_powers
  have D_powers : HasF l.prog w K mg base C 1 "_law_powers" ["_law_moves", "_law_many"] F_powers := ⟨⟨_, _, ok_powers Q_powers T , PySem.W.mg_of X G a_powers, k_powers, Q_powers.binds (ps := ["_law_moves", "_law_many"]) fun _ _ _ _ _ _ us hl => match us, hl with | [_, _], _ => rfl⟩⟩
  have Q_four := fun_mk (st := s_four) l_four c_four k_four
  have D_four : HasF l.prog w K mg base C 1 "_law_four" [] F_four := ⟨⟨_, _, ok_four Q_four T , PySem.W.mg_of X G a_four, k_four, Q_four.binds (ps := []) fun _ _ _ _ _ _ us hl => match us, hl with | [], _ => rfl⟩⟩
  have Q_side_by_side := fun_mk (st := s_side_by_side) l_side_by_side c_side_by_side k_side_by_side
  have D_side_by_side : HasF l.prog w K mg base C 1 "_law_side_by_side" ["_law_one", "_law_other"] F_side_by_side := ⟨⟨_, _, ok_side_by_side Q_side_by_side T , PySem.W.mg_of X G a_side_by_side, k_side_by_side, Q_side_by_side.binds (ps := ["_law_one", "_law_other"]) fun _ _ _ _ _ _ us hl => match us, hl with | [_, _], _ => rfl⟩⟩
  have Q_behind_pairs := fun_mk (st := s_behind_pairs) l_behind_pairs c_behind_pairs k_behind_pairs
  have D_behind_pairs : HasF l.prog w K mg base C 1 "_law_behind_pairs" ["_law_pairs"] F_behind_pairs := ⟨⟨_, _, ok_behind_pairs Q_behind_pairs T , PySem.W.mg_of X G a_behind_pairs, k_behind_pairs, Q_behind_pairs.binds (ps := ["_law_pairs"]) fun _ _ _ _ _ _ us hl => match us, hl with | [_], _ => rfl⟩⟩
  have Q_called := fun_mk (st := s_called) l_called c_called k_called
  have D_called : HasF l.prog w K mg base C 1 "_law_called" ["_law_pairs", "_law_moves"] F_called := ⟨⟨_, _, ok_called Q_called T , PySem.W.mg_of X G a_called, k_called, Q_called.binds (ps := ["_law_pairs", "_law_moves"]) fun _ _ _ _ _ _ us hl => match us, hl with | [_, _], _ => rfl⟩⟩
  have Q_marks := fun_mk (st := s_marks) l_marks c_marks k_marks
  have D_marks : HasF l.prog w K mg base C 1 "_law_marks" ["_law_raw_here", "_law_line"] F_marks := ⟨⟨_, _, ok_marks Q_marks T , PySem.W.mg_of X G a_marks, k_marks, Q_marks.binds (ps := ["_law_raw_here", "_law_line"]) fun _ _ _ _ _ _ us hl => match us, hl with | [_, _], _ => rfl⟩⟩
  have Q_row_fault := fun_mk (st := s_row_fault) l_row_fault c_row_fault k_row_fault
  have D_row_fault : HasF l.prog w K mg base C 2 "row_fault" ["table", "row"] F_row_fault := ⟨⟨_, _, ok_row_fault Q_row_fault T C_PLACES TC D_Table_marks D_is_listing, PySem.W.mg_of X G a_row_fault, k_row_fault, Q_row_fault.binds (ps := ["table", "row"]) fun _ _ _ _ _ _ us hl => match us, hl with | [_, _], _ => rfl⟩⟩
  have Q_word_fault := fun_mk (st := s_word_fault) l_word_fault c_word_fault k_word_fault
  have D_word_fault : HasF l.prog w K mg base C 2 "word_fault" ["places", "word"] F_word_fault := ⟨⟨_, _, ok_word_fault Q_word_fault T C_WORD D_is_listing D_is_number, PySem.W.mg_of X G a_word_fault, k_word_fault, Q_word_fault.binds (ps := ["places", "word"]) fun _ _ _ _ _ _ us hl => match us, hl with | [_, _], _ => rfl⟩⟩
  have Q_pass_done := fun_mk (st := s_pass_done) l_pass_done c_pass_done k_pass_done
  have D_pass_done : HasF l.prog w K mg base C 2 "pass_done" ["table", "row", "place"] F_pass_done := ⟨⟨_, _, ok_pass_done Q_pass_done T TC D_Table_passed, PySem.W.mg_of X G a_pass_done, k_pass_done, Q_pass_done.binds (ps := ["table", "row", "place"]) fun _ _ _ _ _ _ us hl => match us, hl with | [_, _, _], _ => rfl⟩⟩
  have Q__are_marks := fun_mk (st := s__are_marks) l__are_marks c__are_marks k__are_marks
  have D__are_marks : HasF l.prog w K mg base C 2 "_are_marks" ["marks"] F__are_marks := ⟨⟨_, _, ok__are_marks Q__are_marks T C_MOST_MARKS D_is_listing D_is_name, PySem.W.mg_of X G a__are_marks, k__are_marks, Q__are_marks.binds (ps := ["marks"]) fun _ _ _ _ _ _ us hl => match us, hl with | [_], _ => rfl⟩⟩
  have Q__is_full := fun_mk (st := s__is_full) l__is_full c__is_full k__is_full
  have D__is_full : HasF l.prog w K mg base C 2 "_is_full" ["listing", "marks"] F__is_full := ⟨⟨_, _, ok__is_full Q__is_full T D_is_listing, PySem.W.mg_of X G a__is_full, k__is_full, Q__is_full.binds (ps := ["listing", "marks"]) fun _ _ _ _ _ _ us hl => match us, hl with | [_, _], _ => rfl⟩⟩
  have Q__is_pair := fun_mk (st := s__is_pair) l__is_pair c__is_pair k__is_pair
  have D__is_pair : HasF l.prog w K mg base C 2 "_is_pair" ["pair", "marks"] F__is_pair := ⟨⟨_, _, ok__is_pair Q__is_pair T D_is_listing, PySem.W.mg_of X G a__is_pair, k__is_pair, Q__is_pair.binds (ps := ["pair", "marks"]) fun _ _ _ _ _ _ us hl => match us, hl with | [_, _], _ => rfl⟩⟩
  have Q__mark_out := fun_mk (st := s__mark_out) l__mark_out c__mark_out k__mark_out
  have D__mark_out : HasF l.prog w K mg base C 2 "_mark_out" ["table", "mark", "row"] F__mark_out := ⟨⟨_, _, ok__mark_out Q__mark_out T TC D_Table_passed, PySem.W.mg_of X G a__mark_out, k__mark_out, Q__mark_out.binds (ps := ["table", "mark", "row"]) fun _ _ _ _ _ _ us hl => match us, hl with | [_, _, _], _ => rfl⟩⟩
  have Q_pick := fun_mk (st := s_pick) l_pick c_pick k_pick
  have D_pick : HasF l.prog w K mg base C 2 "_law_pick" ["_law_pen_here", "_law_some"] F_pick := ⟨⟨_, _, ok_pick Q_pick T D_draw, PySem.W.mg_of X G a_pick, k_pick, Q_pick.binds (ps := ["_law_pen_here", "_law_some"]) fun _ _ _ _ _ _ us hl => match us, hl with | [_, _], _ => rfl⟩⟩
  have Q_shuffled := fun_mk (st := s_shuffled) l_shuffled c_shuffled k_shuffled
  have D_shuffled : HasF l.prog w K mg base C 2 "_law_shuffled" ["_law_pen_here", "_law_some"] F_shuffled := ⟨⟨_, _, ok_shuffled Q_shuffled T D_draw, PySem.W.mg_of X G a_shuffled, k_shuffled, Q_shuffled.binds (ps := ["_law_pen_here", "_law_some"]) fun _ _ _ _ _ _ us hl => match us, hl with | [_, _], _ => rfl⟩⟩
  have Q_lots_pairs := fun_mk (st := s_lots_pairs) l_lots_pairs c_lots_pairs k_lots_pairs
  have D_lots_pairs : HasF l.prog w K mg base C 2 "_law_lots_pairs" ["_law_pen_here", "_law_many"] F_lots_pairs := ⟨⟨_, _, ok_lots_pairs Q_lots_pairs T D_draw, PySem.W.mg_of X G a_lots_pairs, k_lots_pairs, Q_lots_pairs.binds (ps := ["_law_pen_here", "_law_many"]) fun _ _ _ _ _ _ us hl => match us, hl with | [_, _], _ => rfl⟩⟩
  have Q_numbers := fun_mk (st := s_numbers) l_numbers c_numbers k_numbers
  have D_numbers : HasF l.prog w K mg base C 2 "_law_numbers" ["_law_pen_here", "_law_raw_here", "_law_places"] F_numbers := ⟨⟨_, _, ok_numbers Q_numbers T D_draw, PySem.W.mg_of X G a_numbers, k_numbers, Q_numbers.binds (ps := ["_law_pen_here", "_law_raw_here", "_law_places"]) fun _ _ _ _ _ _ us hl => match us, hl with | [_, _, _], _ => rfl⟩⟩
  have Q_row_taken := fun_mk (st := s_row_taken) l_row_taken c_row_taken k_row_taken
  have D_row_taken : HasF l.prog w K mg base C 3 "row_taken" ["table", "row"] F_row_taken := ⟨⟨_, _, ok_row_taken Q_row_taken T D_row_fault, PySem.W.mg_of X G a_row_taken, k_row_taken, Q_row_taken.binds (ps := ["table", "row"]) fun _ _ _ _ _ _ us hl => match us, hl with | [_, _], _ => rfl⟩⟩
  have Q_word_taken := fun_mk (st := s_word_taken) l_word_taken c_word_taken k_word_taken
  have D_word_taken : HasF l.prog w K mg base C 3 "word_taken" ["places", "word"] F_word_taken := ⟨⟨_, _, ok_word_taken Q_word_taken T D_word_fault, PySem.W.mg_of X G a_word_taken, k_word_taken, Q_word_taken.binds (ps := ["places", "word"]) fun _ _ _ _ _ _ us hl => match us, hl with | [_, _], _ => rfl⟩⟩
  have Q__is_line := fun_mk (st := s__is_line) l__is_line c__is_line k__is_line
  have D__is_line : HasF l.prog w K mg base C 3 "_is_line" ["line", "marks"] F__is_line := ⟨⟨_, _, ok__is_line Q__is_line T D__is_full D__is_pair, PySem.W.mg_of X G a__is_line, k__is_line, Q__is_line.binds (ps := ["line", "marks"]) fun _ _ _ _ _ _ us hl => match us, hl with | [_, _], _ => rfl⟩⟩
  have Q__turned := fun_mk (st := s__turned) l__turned c__turned k__turned
  have D__turned : HasF l.prog w K mg base C 3 "_turned" ["table", "row", "place", "other"] F__turned := ⟨⟨_, _, ok__turned Q__turned T D_pass_done, PySem.W.mg_of X G a__turned, k__turned, Q__turned.binds (ps := ["table", "row", "place", "other"]) fun _ _ _ _ _ _ us hl => match us, hl with | [_, _, _, _], _ => rfl⟩⟩
  have Q_names := fun_mk (st := s_names) l_names c_names k_names
  have D_names : HasF l.prog w K mg base C 3 "_law_names" ["_law_pen_here", "_law_many"] F_names := ⟨⟨_, _, ok_names Q_names T D_draw D_pick, PySem.W.mg_of X G a_names, k_names, Q_names.binds (ps := ["_law_pen_here", "_law_many"]) fun _ _ _ _ _ _ us hl => match us, hl with | [_, _], _ => rfl⟩⟩
  have Q_gentle_pairs := fun_mk (st := s_gentle_pairs) l_gentle_pairs c_gentle_pairs k_gentle_pairs
  have D_gentle_pairs : HasF l.prog w K mg base C 3 "_law_gentle_pairs" ["_law_pen_here", "_law_limit"] F_gentle_pairs := ⟨⟨_, _, ok_gentle_pairs Q_gentle_pairs T D_lots_pairs D_draw D_shuffled D_four D_side_by_side, PySem.W.mg_of X G a_gentle_pairs, k_gentle_pairs, Q_gentle_pairs.binds (ps := ["_law_pen_here", "_law_limit"]) fun _ _ _ _ _ _ us hl => match us, hl with | [_, _], _ => rfl⟩⟩
  have Q_turned_pairs := fun_mk (st := s_turned_pairs) l_turned_pairs c_turned_pairs k_turned_pairs
  have D_turned_pairs : HasF l.prog w K mg base C 3 "_law_turned_pairs" ["_law_pen_here", "_law_pairs"] F_turned_pairs := ⟨⟨_, _, ok_turned_pairs Q_turned_pairs T D_called D_draw D_behind_pairs D_shuffled, PySem.W.mg_of X G a_turned_pairs, k_turned_pairs, Q_turned_pairs.binds (ps := ["_law_pen_here", "_law_pairs"]) fun _ _ _ _ _ _ us hl => match us, hl with | [_, _], _ => rfl⟩⟩
  have Q__are_pairs := fun_mk (st := s__are_pairs) l__are_pairs c__are_pairs k__are_pairs
  have D__are_pairs : HasF l.prog w K mg base C 4 "_are_pairs" ["pairs", "marks"] F__are_pairs := ⟨⟨_, _, ok__are_pairs Q__are_pairs T D__is_full D__is_line, PySem.W.mg_of X G a__are_pairs, k__are_pairs, Q__are_pairs.binds (ps := ["pairs", "marks"]) fun _ _ _ _ _ _ us hl => match us, hl with | [_, _], _ => rfl⟩⟩
  have Q_three_fault := fun_mk (st := s_three_fault) l_three_fault c_three_fault k_three_fault
  have D_three_fault : HasF l.prog w K mg base C 4 "three_fault" ["table"] F_three_fault := ⟨⟨_, _, ok_three_fault Q_three_fault T TC D_Table_marks D__turned, PySem.W.mg_of X G a_three_fault, k_three_fault, Q_three_fault.binds (ps := ["table"]) fun _ _ _ _ _ _ us hl => match us, hl with | [_], _ => rfl⟩⟩
  have Q_plain := fun_mk (st := s_plain) l_plain c_plain k_plain
  have D_plain : HasF l.prog w K mg base C 4 "plain" ["table", "row"] F_plain := ⟨⟨_, _, ok_plain Q_plain T D_row_taken D__mark_out, PySem.W.mg_of X G a_plain, k_plain, Q_plain.binds (ps := ["table", "row"]) fun _ _ _ _ _ _ us hl => match us, hl with | [_, _], _ => rfl⟩⟩
  have Q_rows_on := fun_mk (st := s_rows_on) l_rows_on c_rows_on k_rows_on
  have D_rows_on : HasF l.prog w K mg base C 4 "rows_on" ["table", "row", "word"] F_rows_on := ⟨⟨_, _, ok_rows_on Q_rows_on T D_word_taken D_row_taken D_pass_done, PySem.W.mg_of X G a_rows_on, k_rows_on, Q_rows_on.binds (ps := ["table", "row", "word"]) fun _ _ _ _ _ _ us hl => match us, hl with | [_, _, _], _ => rfl⟩⟩
  have Q_kindly_pairs := fun_mk (st := s_kindly_pairs) l_kindly_pairs c_kindly_pairs k_kindly_pairs
  have D_kindly_pairs : HasF l.prog w K mg base C 4 "_law_kindly_pairs" ["_law_pen_here", "_law_limit"] F_kindly_pairs := ⟨⟨_, _, ok_kindly_pairs Q_kindly_pairs T D_gentle_pairs D_draw D_shuffled D_side_by_side D_powers, PySem.W.mg_of X G a_kindly_pairs, k_kindly_pairs, Q_kindly_pairs.binds (ps := ["_law_pen_here", "_law_limit"]) fun _ _ _ _ _ _ us hl => match us, hl with | [_, _], _ => rfl⟩⟩
  have Q_raw := fun_mk (st := s_raw) l_raw c_raw k_raw
  have D_raw : HasF l.prog w K mg base C 4 "_law_raw" ["_law_pen_here", "_law_pairs"] F_raw := ⟨⟨_, _, ok_raw Q_raw T D_names, PySem.W.mg_of X G a_raw, k_raw, Q_raw.binds (ps := ["_law_pen_here", "_law_pairs"]) fun _ _ _ _ _ _ us hl => match us, hl with | [_, _], _ => rfl⟩⟩
  have Q_Table_init := fun_mk (st := s_Table_init) l_Table_init c_Table_init k_Table_init
  have D_Table_init : HasIF l.prog w K mg base 5 C f_Table_init ["self", "marks", "pairs"] (spInitF K C) := ⟨_, ok_Table_init Q_Table_init T TC D__are_marks D__are_pairs, Q_Table_init.binds (ps := ["self", "marks", "pairs"]) fun _ _ _ _ _ _ us hl => match us, hl with | [_, _, _], _ => rfl⟩
  have Q_row_behind := fun_mk (st := s_row_behind) l_row_behind c_row_behind k_row_behind
  have D_row_behind : HasF l.prog w K mg base C 5 "row_behind" ["table", "row", "word"] F_row_behind := ⟨⟨_, _, ok_row_behind Q_row_behind T D_rows_on, PySem.W.mg_of X G a_row_behind, k_row_behind, Q_row_behind.binds (ps := ["table", "row", "word"]) fun _ _ _ _ _ _ us hl => match us, hl with | [_, _, _], _ => rfl⟩⟩
  have Q_three_pairs := fun_mk (st := s_three_pairs) l_three_pairs c_three_pairs k_three_pairs
  have D_three_pairs : HasF l.prog w K mg base C 5 "_law_three_pairs" ["_law_pen_here", "_law_limit"] F_three_pairs := ⟨⟨_, _, ok_three_pairs Q_three_pairs T D_kindly_pairs D_draw, PySem.W.mg_of X G a_three_pairs, k_three_pairs, Q_three_pairs.binds (ps := ["_law_pen_here", "_law_limit"]) fun _ _ _ _ _ _ us hl => match us, hl with | [_, _], _ => rfl⟩⟩
  have Q_any_pairs := fun_mk (st := s_any_pairs) l_any_pairs c_any_pairs k_any_pairs
  have D_any_pairs : HasF l.prog w K mg base C 6 "_law_any_pairs" ["_law_pen_here", "_law_limit"] F_any_pairs := ⟨⟨_, _, ok_any_pairs Q_any_pairs T D_turned_pairs D_draw D_three_pairs, PySem.W.mg_of X G a_any_pairs, k_any_pairs, Q_any_pairs.binds (ps := ["_law_pen_here", "_law_limit"]) fun _ _ _ _ _ _ us hl => match us, hl with | [_, _], _ => rfl⟩⟩
  have Q_made := fun_mk (st := s_made) l_made c_made k_made
  have D_made : HasF l.prog w K mg base C 7 "_law_made" ["_law_raw_here"] F_made := ⟨⟨_, _, ok_made Q_made T TC D_Table_init, PySem.W.mg_of X G a_made, k_made, Q_made.binds (ps := ["_law_raw_here"]) fun _ _ _ _ _ _ us hl => match us, hl with | [_], _ => rfl⟩⟩
  exact ok_law (fun_mk (st := s_law) l_law c_law k_law) T D_pen D_raw D_marks D_made D_three_fault D_turned_pairs D_pick D_numbers D_row_behind D_plain D_three_pairs D_draw D_any_pairs Fx.pure_k53
theorem walk {l : PySem.W.OpenLaw} {q : Program} {loose : List Str} {XP : (Str → Option Value) → Heap → Prop} {YP : World → Heap → Prop} {d : DefRec} {K : Params → PySem.W.Frag} (hn : l.most = some 63) (hdf : d.params.defaults = [])
    (hY : ∀ (w : World) (h : Heap), YP w h → (K w.params).In h) (F : ∀ (w : World) (mg : Str → Option Value) (fa : Addr) (h : Heap), (K w.params).In h → h.Ns mainGlobals mg → mg d.name = some (.ref fa) →
      ∃ fd : FuncData, (∀ (s : Shared) (u : Value), BindsTo s fd ⟨[u], []⟩ [("_law_script", u)]) ∧ ∀ base : Heap, (K w.params).In base → base.Ns mainGlobals mg → FnG l.prog w (K w.params) mg base 8 fa fd ["_law_script"] (Fx.spLaw (K w.params))) :
    PySem.W.WalkO q loose XP YP l.row.toRowW d [] (fun f vs => PySem.call f vs) :=
  walkG (n := 63) (k := 8) (sp := Fx.spLaw) hn (by decide) hdf ⟨rfl, by decide, by decide⟩ hY F fun K H a ns hl hS => ⟨a, ns, rfl, hS, hl, fun _ => rfl⟩
end Fk53
open PySem PySem.W PyProof.Rows
set_option maxRecDepth 100000 in
set_option maxHeartbeats 0 in
theorem PySem.Challenge.cw_passmarks_k53_whole_who_goes_behind_keep_holds : PySem.Challenge.rw_passmarks_k53_whole_who_goes_behind_keep.Holds := by
  w_on; o_law; k_head; (case hw => w_witness2)
  k_fill
  refine Fk53.walk (l := PySem.Challenge.rw_passmarks_k53_whole_who_goes_behind_keep) rfl rfl (fun w h Y => PySem.W.kIn_of Y) ?F
  case F =>
    intro w mg fa h KX G hmg
    refine' Fk53.all_mk KX G hmg ?aC ?pg ?hd ?po ?sa ?mk ?kc ?n_marks ?n_pairs ?a_pen ?l_pen ?c_pen ?k_pen ?a_draw ?l_draw ?c_draw ?k_draw ?a_is_listing ?l_is_listing ?c_is_listing ?k_is_listing ?a_is_number ?l_is_number ?c_is_number ?k_is_number ?a_is_name ?l_is_name ?c_is_name ?k_is_name ?a_Table_marks ?i_Table_marks ?l_Table_marks ?c_Table_marks ?k_Table_marks ?a_Table_passed ?i_Table_passed ?l_Table_passed ?c_Table_passed ?k_Table_passed ?a_powers ?l_powers ?c_powers ?k_powers ?a_four ?l_four ?c_four ?k_four ?a_side_by_side ?l_side_by_side ?c_side_by_side ?k_side_by_side ?a_behind_pairs ?l_behind_pairs ?c_behind_pairs ?k_behind_pairs ?a_called ?l_called ?c_called ?k_called ?a_marks ?l_marks ?c_marks ?k_marks ?a_row_fault ?l_row_fault ?c_row_fault ?k_row_fault ?a_word_fault ?l_word_fault ?c_word_fault ?k_word_fault ?a_pass_done ?l_pass_done ?c_pass_done ?k_pass_done ?a__are_marks ?l__are_marks ?c__are_marks ?k__are_marks ?a__is_full ?l__is_full ?c__is_full ?k__is_full ?a__is_pair ?l__is_pair ?c__is_pair ?k__is_pair ?a__mark_out ?l__mark_out ?c__mark_out ?k__mark_out ?a_pick ?l_pick ?c_pick ?k_pick ?a_shuffled ?l_shuffled ?c_shuffled ?k_shuffled ?a_lots_pairs ?l_lots_pairs ?c_lots_pairs ?k_lots_pairs ?a_numbers ?l_numbers ?c_numbers ?k_numbers ?a_row_taken ?l_row_taken ?c_row_taken ?k_row_taken ?a_word_taken ?l_word_taken ?c_word_taken ?k_word_taken ?a__is_line ?l__is_line ?c__is_line ?k__is_line ?a__turned ?l__turned ?c__turned ?k__turned ?a_names ?l_names ?c_names ?k_names ?a_gentle_pairs ?l_gentle_pairs ?c_gentle_pairs ?k_gentle_pairs ?a_turned_pairs ?l_turned_pairs ?c_turned_pairs ?k_turned_pairs ?a__are_pairs ?l__are_pairs ?c__are_pairs ?k__are_pairs ?a_three_fault ?l_three_fault ?c_three_fault ?k_three_fault ?a_plain ?l_plain ?c_plain ?k_plain ?a_rows_on ?l_rows_on ?c_rows_on ?k_rows_on ?a_kindly_pairs ?l_kindly_pairs ?c_kindly_pairs ?k_kindly_pairs ?a_raw ?l_raw ?c_raw ?k_raw ?a_Table_init ?i_Table_init ?l_Table_init ?c_Table_init ?k_Table_init ?a_row_behind ?l_row_behind ?c_row_behind ?k_row_behind ?a_three_pairs ?l_three_pairs ?c_three_pairs ?k_three_pairs ?a_any_pairs ?l_any_pairs ?c_any_pairs ?k_any_pairs ?a_made ?l_made ?c_made ?k_made ?a_law ?l_law ?c_law ?k_law ?v__LONGEST ?v__LETTERS ?v_PLACES ?v_WORD ?v_MOST_MARKS ?z_len ?z_list ?z_tuple ?z_range ?z_enumerate ?z_isinstance ?z_int ?z_bool ?z_abs ?z_repr ?z_all ?z_min ?z_max ?z_sorted ?z_set ?z_sum ?z_str ?z_dict ?z_any ?z_reversed ?z_zip
    (case aC => k_is); (case pg => k_is); (case hd => k_is); (case po => k_is); (case sa => k_is); (case mk => k_is)
    (case kc => k_is); (case n_marks => k_is); (case n_pairs => k_is); (case a_pen => k_is); (case l_pen => k_is); (case c_pen => k_is)
    (case k_pen => k_is); (case a_draw => k_is); (case l_draw => k_is); (case c_draw => k_is); (case k_draw => k_is); (case a_is_listing => k_is)
    (case l_is_listing => k_is); (case c_is_listing => k_is); (case k_is_listing => k_is); (case a_is_number => k_is); (case l_is_number => k_is); (case c_is_number => k_is)
    (case k_is_number => k_is); (case a_is_name => k_is); (case l_is_name => k_is); (case c_is_name => k_is); (case k_is_name => k_is); (case a_Table_marks => k_is)
    (case i_Table_marks => k_is); (case l_Table_marks => k_is); (case c_Table_marks => k_is); (case k_Table_marks => k_is); (case a_Table_passed => k_is); (case i_Table_passed => k_is)
    (case l_Table_passed => k_is); (case c_Table_passed => k_is); (case k_Table_passed => k_is); (case a_powers => k_is); (case l_powers => k_is); (case c_powers => k_is)
    (case k_powers => k_is); (case a_four => k_is); (case l_four => k_is); (case c_four => k_is); (case k_four => k_is); (case a_side_by_side => k_is)
    (case l_side_by_side => k_is); (case c_side_by_side => k_is); (case k_side_by_side => k_is); (case a_behind_pairs => k_is); (case l_behind_pairs => k_is); (case c_behind_pairs => k_is)
    (case k_behind_pairs => k_is); (case a_called => k_is); (case l_called => k_is); (case c_called => k_is); (case k_called => k_is); (case a_marks => k_is)
    (case l_marks => k_is); (case c_marks => k_is); (case k_marks => k_is); (case a_row_fault => k_is); (case l_row_fault => k_is); (case c_row_fault => k_is)
    (case k_row_fault => k_is); (case a_word_fault => k_is); (case l_word_fault => k_is); (case c_word_fault => k_is); (case k_word_fault => k_is); (case a_pass_done => k_is)
    (case l_pass_done => k_is); (case c_pass_done => k_is); (case k_pass_done => k_is); (case a__are_marks => k_is); (case l__are_marks => k_is); (case c__are_marks => k_is)
    (case k__are_marks => k_is); (case a__is_full => k_is); (case l__is_full => k_is); (case c__is_full => k_is); (case k__is_full => k_is); (case a__is_pair => k_is)
    (case l__is_pair => k_is); (case c__is_pair => k_is); (case k__is_pair => k_is); (case a__mark_out => k_is); (case l__mark_out => k_is); (case c__mark_out => k_is)
    (case k__mark_out => k_is); (case a_pick => k_is); (case l_pick => k_is); (case c_pick => k_is); (case k_pick => k_is); (case a_shuffled => k_is)
    (case l_shuffled => k_is); (case c_shuffled => k_is); (case k_shuffled => k_is); (case a_lots_pairs => k_is); (case l_lots_pairs => k_is); (case c_lots_pairs => k_is)
    (case k_lots_pairs => k_is); (case a_numbers => k_is); (case l_numbers => k_is); (case c_numbers => k_is); (case k_numbers => k_is); (case a_row_taken => k_is)
    (case l_row_taken => k_is); (case c_row_taken => k_is); (case k_row_taken => k_is); (case a_word_taken => k_is); (case l_word_taken => k_is); (case c_word_taken => k_is)
    (case k_word_taken => k_is); (case a__is_line => k_is); (case l__is_line => k_is); (case c__is_line => k_is); (case k__is_line => k_is); (case a__turned => k_is)
    (case l__turned => k_is); (case c__turned => k_is); (case k__turned => k_is); (case a_names => k_is); (case l_names => k_is); (case c_names => k_is)
    (case k_names => k_is); (case a_gentle_pairs => k_is); (case l_gentle_pairs => k_is); (case c_gentle_pairs => k_is); (case k_gentle_pairs => k_is); (case a_turned_pairs => k_is)
    (case l_turned_pairs => k_is); (case c_turned_pairs => k_is); (case k_turned_pairs => k_is); (case a__are_pairs => k_is); (case l__are_pairs => k_is); (case c__are_pairs => k_is)
    (case k__are_pairs => k_is); (case a_three_fault => k_is); (case l_three_fault => k_is); (case c_three_fault => k_is); (case k_three_fault => k_is); (case a_plain => k_is)
    (case l_plain => k_is); (case c_plain => k_is); (case k_plain => k_is); (case a_rows_on => k_is); (case l_rows_on => k_is); (case c_rows_on => k_is)
    (case k_rows_on => k_is); (case a_kindly_pairs => k_is); (case l_kindly_pairs => k_is); (case c_kindly_pairs => k_is); (case k_kindly_pairs => k_is); (case a_raw => k_is)
    (case l_raw => k_is); (case c_raw => k_is); (case k_raw => k_is); (case a_Table_init => k_is); (case i_Table_init => k_is); (case l_Table_init => k_is)
    (case c_Table_init => k_is); (case k_Table_init => k_is); (case a_row_behind => k_is); (case l_row_behind => k_is); (case c_row_behind => k_is); (case k_row_behind => k_is)
    (case a_three_pairs => k_is); (case l_three_pairs => k_is); (case c_three_pairs => k_is); (case k_three_pairs => k_is); (case a_any_pairs => k_is); (case l_any_pairs => k_is)
    (case c_any_pairs => k_is); (case k_any_pairs => k_is); (case a_made => k_is); (case l_made => k_is); (case c_made => k_is); (case k_made => k_is)
    (case a_law => k_is); (case l_law => k_is); (case c_law => k_is); (case k_law => k_is); (case v__LONGEST => k_is); (case v__LETTERS => k_is)
    (case v_PLACES => k_is); (case v_WORD => k_is); (case v_MOST_MARKS => k_is); (case z_len => k_is); (case z_list => k_is); (case z_tuple => k_is)
    (case z_range => k_is); (case z_enumerate => k_is); (case z_isinstance => k_is); (case z_int => k_is); (case z_bool => k_is); (case z_abs => k_is)
    (case z_repr => k_is); (case z_all => k_is); (case z_min => k_is); (case z_max => k_is); (case z_sorted => k_is); (case z_set => k_is)
    (case z_sum => k_is); (case z_str => k_is); (case z_dict => k_is); (case z_any => k_is); (case z_reversed => k_is); (case z_zip => k_is)
