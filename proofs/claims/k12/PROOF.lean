import PyProof.Rows.All
import Wide.All
import OpenK.AllK
import Wide.FinOn
import HandS.ForMost
import HandS.Conv
import HandS.TupAny
import HandS.Strs
import HandS.Walk
import HandS.IsInst
import HandS.Wide
import KE.GoesEnum
import HandS.Style
import PyProof.ReprLen
import HandS.Deep
import HandS.Zip
import HandS.Text
import HandS.NoneIn
import PySem.Challenge.RW_passmarks_k12_whole_orders_and_rows
set_option Elab.async false
set_option maxRecDepth 100000
/-! Rules of my own over the layer: repr of data, enumerate of a tuple, tuple.index of ints, promises where no repr runs. -/
namespace Lw
open PySem L2

/-! ### repr of data -/
def rRepr (K : PySem.W.Frag) : List V → Hp → VK → Prop := fun xs H Q => ∃ (a : Addr) (d : PyData), xs = [.ref a] ∧ Dp K H (.ref a) d ∧
  d.showable = true ∧ d.hasDict = false ∧ d.depth ≤ 60 ∧ d.shown.length ≤ sizeLine ∧ Q (.str d.shown) H
theorem call_repr {X : Cx} (hg : X.A.guards = some []) (hu : X.A.units + 64 < cLine) : CallR X (.builtin "repr") (rRepr X.K) := by
  intro pins s σ H xs us Q I r h
  obtain ⟨a, d, rfl, hd, hs, hn, hdep, hsz, q⟩ := h
  obtain ⟨u, rfl, ru⟩ := vals1 r
  cases ru
  obtain ⟨as, rd⟩ := Dp.reads I d _ _ hd rfl
  exact repr_of_reads' rd hs (PyData.noDict_hsm hn) hg (by omega) (fun _ _ e => e) (fun h' u tk hk => ⟨.str d.shown, H, I.kept hk, ⟨_, rfl⟩, q⟩) hsz

/-! ### enumerate of a tuple -/
/-- the tuple at a, each item in a new pair with its number -/
def IteT (K : PySem.W.Frag) (a : Addr) : It :=
  { go := fun i H => ∃ (xs : List V) (x : V), SqT K H a xs ∧ xs[i]? = some x
    yld := fun i H v H' => ∃ T x, v = .ref T ∧ H T = none ∧ H' = upd H T (.tup [.int (i : Nat), x]) ∧ ∀ xs, SqT K H a xs → xs[i]? = some x
    stop := fun i H => ∃ xs : List V, SqT K H a xs ∧ xs.length = i }
theorem turn_enumT {P : Program} {w : World} {K : PySem.W.Frag} {elts : List Expr} {kk : Nat} {tpos : Pos} (a e it : Addr) (hai : a ≠ it) (hae : a ≠ e) :
    Turn P w K (.Tuple elts kk tpos) (IteT K a) [e, it] e (fun i h => (∃ old, IsEnum h e it ((i : Nat) : Int) old) ∧ h.IsTupleIter it a i ∧ e ≠ it) where
  mem := by simp
  obj := fun i h st b hb => by
    obtain ⟨⟨old, he⟩, ⟨o, ho, hc, hd⟩, _⟩ := st
    rcases (show b = e ∨ b = it by simpa using hb) with z | z
    · subst z
      exact ⟨_, he, fun v q => nomatch q⟩
    · subst z
      exact ⟨o, ho, fun v q => by rw [hd] at q; cases q⟩
  keep := fun i h h' st k => by
    obtain ⟨⟨old, he⟩, hi, hne⟩ := st
    exact ⟨⟨old, k e (by simp) _ he⟩, hi.at fun o q => k it (by simp) o q, hne⟩
  item := by
    intro X hP hw hK hc i pins s σ H E I hf st hg
    subst hP hw hK
    obtain ⟨⟨old, he⟩, hit, hne⟩ := st
    obtain ⟨xs, x, hq, hx⟩ := hg
    obtain ⟨its, rv, p, hz⟩ := I.tuple hq
    obtain ⟨u, hu, ru⟩ := rv.get hx
    have hel : e < s.heap.objs.size := Heap.lt_size he
    have hil : it < s.heap.objs.size := by obtain ⟨_, q, _⟩ := hit; exact Heap.lt_size q
    have hlt : i < its.toArray.size := by rw [List.size_toArray]; exact (List.getElem?_eq_some_iff.mp hu).1
    refine wpAny_pyNext_enum_itemD (Draws.tuple (A := X.A.in1) (I.ok.hd hc) it a hai its.toArray) he ⟨hit, p⟩ hlt hne (by simpa using ⟨hne, Ne.symm hae⟩) fun x' h' tk hx' ho hst hT hsz hk => ?_
    have hxu : x' = u := by
      have hu' : its.toArray[i]? = some u := by simpa using hu
      rw [hu'] at hx'
      exact (Option.some.inj hx').symm
    subst hxu
    refine ⟨_, rfl, wpAny_letOwnedTupleGo_enum (s := { s with heap := h', toks := tk + 1 }) ho fun h'' he' sb => ?_⟩
    have hT2 : h''.get? s.heap.objs.size = some { cls := .type "tuple", data := .seq #[.int i tk, x'] } := (sb.2 _ (Nat.ne_of_gt hel)).trans hT
    have new : ObjOk X.prog X.w (upd H s.heap.objs.size (.tup [.int (i : Nat), x])) h'' s.heap.objs.size (.tup [.int (i : Nat), x]) :=
      ⟨by show 2 ≤ sizeLine; decide, [.int i tk, x'], .cons ⟨_, rfl⟩ (.cons ru .nil), ⟨_, hT2, rfl, _, rfl⟩⟩
    have I1 : Inv X pins σ (upd H s.heap.objs.size (.tup [.int (i : Nat), x])) { s with heap := h'', toks := tk + 1 } :=
      I.turnedNew (ch := [e, it]) (fun b ob hb q => (sb.2 b (fun z => hb (by simp [z]))).trans (hk b ob (fun z => hb (by simp [z])) (fun z => hb (by simp [z])) q)) hf (Nat.le_refl _) new
    refine ⟨.ref s.heap.objs.size, _, I1, rfl, ⟨_, x, rfl, I.hok.fresh (Nat.le_refl _), rfl, fun ys hy => by rw [I.tuple_inj hy hq]; exact hx⟩, ⟨⟨x', ?_⟩, hst.1.at fun o q => (sb.2 it (Ne.symm hne)).trans q, hne⟩, fun b hb => ?_⟩
    · have e1 : ((i + 1 : Nat) : Int) = (i : Int) + 1 := by omega
      rw [e1]
      exact he'
    · have hb' : b < s.heap.objs.size := by
        rcases (show b = e ∨ b = it by simpa using hb) with z | z
        · rw [z]; exact hel
        · rw [z]; exact hil
      rw [upd_ne (Nat.ne_of_lt hb')]
      exact (hf b hb).1
  done := by
    intro X hP hw hK hc i pins s σ H E I hf st hg
    subst hP hw hK
    obtain ⟨⟨old, he⟩, hit, hne⟩ := st
    obtain ⟨xs, hq, hx⟩ := hg
    obtain ⟨its, rv, p, hz⟩ := I.tuple hq
    obtain ⟨f0, f1, f2, f3, f4, f5⟩ := hf it (by simp)
    have hl := rv.length
    have hge : i = its.toArray.size := by rw [List.size_toArray]; omega
    subst hge
    exact wpAny_pyNext_enum_endD (Draws.tuple (A := X.A.in1) (I.ok.hd hc) it a hai its.toArray) he ⟨hit, p⟩ fun h' eb => ⟨rfl, I.turned (t' := s.toks) (fun b o hb q => eb b o hb q) f0 f1 f3 f4 f5⟩
  self := fun A i s Q E st h => by
    obtain ⟨⟨_, he⟩, _⟩ := st
    exact wpAny_pyIter_enum he h
theorem enum_newT (l : Addr) (items : Array Value) (n : Nat) (dct : Option Addr) (sl : Array (Option Value)) :
    Meets (Builtin.«enumerate.__new__» ⟨[.type "enumerate", .ref l], []⟩) (fun _ R s => s.heap.get? l = some { cls := .type "tuple", dict := dct, data := .seq items n, slots := sl } ∧
      R (.ok (.ret (.ref (s.heap.push { cls := .type "tuple_iterator", data := .fields #[.ref l, .int 0 0] }).objs.size)))
        { s with heap := (s.heap.push { cls := .type "tuple_iterator", data := .fields #[.ref l, .int 0 0] }).push { cls := .type "enumerate", data := .fields #[.none, .bool false, .ref s.heap.objs.size, rawInt 0, .none, .none] } }) :=
  .of_wp fun prog w A R s h => by
    obtain ⟨hp, g, d, tk, os⟩ := s
    obtain ⟨hl, h⟩ := h
    have hsub := sub_enumerate
    have hT : Heap.IsTuple (Shared.heap ⟨hp, g, d, tk, os⟩) l items := ⟨_, hl, rfl, n, rfl⟩
    wp_walk using AutoSeq1.wpAny_loadPart' hl
    refine wpAny_stack_any fun st => wpAny_pure ?_
    split
    · rename_i c _ _ _ _ _
      cases (c == Value.type "enumerate")
      · wp_walk using AutoSeq1.wpAny_loadPart' hl, wpAny_pyIter_tuple hT
        exact ⟨_, rfl, h⟩
      · wp_walk using AutoSeq1.wpAny_loadPart' hl, wpAny_pyIter_tuple hT
        exact ⟨_, rfl, h⟩
    · wp_walk using AutoSeq1.wpAny_loadPart' hl, wpAny_pyIter_tuple hT
      exact ⟨_, rfl, h⟩
theorem enum1_tuple {prog : Program} {w : World} {A : Around} {E : Value → Shared → Prop} {s : Shared} {t : Addr} {items : Array Value} {Q : Value → Shared → Prop} (ht : s.heap.IsTuple t items)
    (h : ∀ h', IsEnum h' (s.heap.objs.size + 1) s.heap.objs.size 0 .none → h'.get? s.heap.objs.size = some { cls := .type "tuple_iterator", data := .fields #[.ref t, .int 0 0] } →
      (∀ b o, s.heap.get? b = some o → h'.get? b = some o) → Q (.ref (s.heap.objs.size + 1)) { s with heap := h' }) :
    wpAny (model prog w) A (call (.type "enumerate") [.ref t]) Q E s := by
  obtain ⟨⟨c, dct, dt, sl⟩, hl, hc, n, hd⟩ := id ht
  replace hc : c = .type "tuple" := hc
  replace hd : dt = .seq items n := hd
  subst hc hd
  refine callType_new F.called_enumerate (by decide) (F.typeCall_enumerate_1 _) (F.newCall_enumerate_1 _) (fun obj => F.args_object_init_2 obj _) F.entry_enumerate_new (enum_newT t items n dct sl) ⟨hl, ?_⟩
  have hz : (s.heap.push { cls := .type "tuple_iterator", data := .fields #[.ref t, .int 0 0] }).objs.size = s.heap.objs.size + 1 := Heap.size_push ..
  show _ ∧ _
  rw [hz]
  have he : IsEnum ((s.heap.push { cls := .type "tuple_iterator", data := .fields #[.ref t, .int 0 0] }).push { cls := .type "enumerate", data := .fields #[.none, .bool false, .ref s.heap.objs.size, rawInt 0, .none, .none] })
      (s.heap.objs.size + 1) s.heap.objs.size 0 .none := by
    have q := Heap.get?_push_size (s.heap.push { cls := .type "tuple_iterator", data := .fields #[.ref t, .int 0 0] }) (o := { cls := .type "enumerate", data := .fields #[.none, .bool false, .ref s.heap.objs.size, rawInt 0, .none, .none] }) rfl
    rw [hz] at q
    exact q
  exact ⟨⟨_, he, rfl⟩, h _ he (Heap.get?_push_of_some _ (Heap.get?_push_size _ rfl)) fun b o x => Heap.get?_push_of_some _ (Heap.get?_push_of_some _ x)⟩
def iEnumA (K : PySem.W.Frag) (ta : TA) : TI := fun σ H R => ta σ H fun vs H1 => ∃ a xs, vs = [.ref a] ∧ ((SqL K H1 a xs ∧ R (Ite K a) H1) ∨ (SqT K H1 a xs ∧ R (IteT K a) H1))
/-- for i, x in enumerate(xs), xs a list or a tuple -/
theorem pi_enumA {X : Cx} {e : Expr} {ta : TA} {p pos tpos : Pos} {elts : List Expr} {kk : Nat} (hg : Gl X "enumerate") (hm : X.mg "enumerate" = none) (ha : PA X [e] ta) (hs : starEach [e] X.env = [(false, eval e X.env)] := by rfl) :
    PI X (.Tuple elts kk tpos) (.Call (.Name "enumerate" p) [e] [] pos) (iEnumA X.K ta) := by
  refine ⟨fun pins s σ H R I h => ?_⟩
  refine PyProof.Rows.Call_ (ld_blt I hg hm PyProof.Rows.boot_enumerate (PyProof.Rows.callWith_type1 (thn (ha.run pos pins s σ H _ I h) fun us s1 ⟨vs, H1, I1, r1, q1⟩ => ?_) hs rfl))
  obtain ⟨a, xs, ex, hq⟩ := q1
  subst ex
  cases r1 with
  | cons r rr =>
    cases rr
    cases r
    have two : ∀ b ∈ [s1.heap.objs.size + 1, s1.heap.objs.size], s1.heap.objs.size ≤ b := fun b hb => by
      rcases (show b = s1.heap.objs.size + 1 ∨ b = s1.heap.objs.size by simpa using hb) with z | z
      · rw [z]; exact Nat.le_add_right _ _
      · rw [z]; exact Nat.le_refl _
    rcases hq with ⟨hq, q⟩ | ⟨hq, q⟩
    · obtain ⟨its, rv, p', hz⟩ := I1.list hq
      refine call_enumerate_list p'.isList fun h' he hit hsz hk => wpAny_pyIter_enum he ?_
      have I2 : Inv X pins σ H1 { s1 with heap := h' } := I1.kept (t' := s1.toks) hk
      exact ⟨s1.heap.objs.size + 1, [s1.heap.objs.size + 1, s1.heap.objs.size], _, _, H1, rfl, I2, turn_enum a (s1.heap.objs.size + 1) s1.heap.objs.size, ⟨⟨.none, he⟩, hit, Nat.succ_ne_self _⟩,
        fun b hb => I1.fpOk (two b hb) (I1.hok.fresh (two b hb)), q⟩
    · obtain ⟨its, rv, p', hz⟩ := I1.tuple hq
      have hal : a < s1.heap.objs.size := by obtain ⟨_, q', _⟩ := id p'; exact Heap.lt_size q'
      refine enum1_tuple p' fun h' he hit hk => wpAny_pyIter_enum he ?_
      have I2 : Inv X pins σ H1 { s1 with heap := h' } := I1.kept (t' := s1.toks) hk
      exact ⟨s1.heap.objs.size + 1, [s1.heap.objs.size + 1, s1.heap.objs.size], _, _, H1, rfl, I2, turn_enumT a (s1.heap.objs.size + 1) s1.heap.objs.size (Nat.ne_of_lt hal) (Nat.ne_of_lt (Nat.lt_succ_of_lt hal)), ⟨⟨.none, he⟩, ⟨_, hit, rfl, rfl⟩, Nat.succ_ne_self _⟩,
        fun b hb => I1.fpOk (two b hb) (I1.hok.fresh (two b hb)), q⟩
theorem walk_enumL {K : PySem.W.Frag} {a : Addr} {xs : List V} : Walk (Ite K a) xs.length (fun H => SqL K H a xs) (YPair (fun i => some (.int (i : Nat))) (fun i => xs[i]?)) := walk_enum
theorem walk_enumT {K : PySem.W.Frag} {a : Addr} {xs : List V} : Walk (IteT K a) xs.length (fun H => SqT K H a xs) (YPair (fun i => some (.int (i : Nat))) (fun i => xs[i]?)) where
  goes := fun i H hi h => ⟨xs, xs[i], h, List.getElem?_eq_getElem hi⟩
  stops := fun H h => ⟨xs, h, rfl⟩
  yields := fun i H x H' hi h y => by
    obtain ⟨T, z, e1, e2, e3, e4⟩ := y
    exact ⟨T, .int (i : Nat), z, e1, e2, e3, rfl, e4 xs h⟩
end Lw
set_option Elab.async false
set_option maxRecDepth 100000
/-! Promises of defs that run where no repr is under way (guards = some []), and the end of a law over them. -/
namespace Lw
open PySem PySem.Spec PyProof.Rows L2

structure FnG (P : Program) (w : World) (K : PySem.W.Frag) (mg : Str → Option Value) (base : Heap) (k : Nat) (f : Addr) (fd : FuncData) (ps : List Str) (sp : Sp) : Prop where
  many : ∀ vs H Q E, sp vs H Q E → vs.length = ps.length
  goes : ∀ (A : Around) (outer : List Env) (s : Shared) (H : Hp) (args : Args) (us : List Value) (vs : List V) (Q : VK) (E : XK), A.guards = some [] → Room k A → Env0 P w K mg base A outer s H →
    BindsTo s fd args (ps.zip us) → Vals vs us → sp vs H Q E → codeAny (model P w) A (.call (.ref f) args) (CR CX0 outer P w H s Q E) s

section
variable {P : Program} {w : World} {K : PySem.W.Frag} {mg : Str → Option Value} {base : Heap}
theorem FnG.of_ok {k : Nat} {f : Addr} {fd : FuncData} {ps : List Str} {sp : Sp} (F : FnOk P w K mg base CX0 k f fd ps sp) : FnG P w K mg base k f fd ps sp :=
  ⟨F.len, fun A outer s H args us vs Q E _ => F.run A outer s H args us vs Q E⟩
/-- a def by its body, the guards known -/
theorem gok {x qual : Str} {st : Stmt} {f : Addr} {fd : FuncData} {N ps : List Str} {k : Nat} {sp : Sp} (F : Fun K x qual st f fd) (S : FnScope N ps (defScope st)) (len : ∀ vs H Q E, sp vs H Q E → vs.length = ps.length)
    (hb : ∀ (cdv : Value) (A : Around) (outer : List Env) (s : Shared) (H : Hp) (vs : List V) (Q : VK) (E : XK), A.guards = some [] → Room k (A.deeper (envOfC qual (defScope st) s.heap.objs.size f cdv)) → sp vs H Q E →
      ∃ t, PSs (cxOf CX0 P w K mg base N qual (defScope st) f cdv A outer s H E).nox (defBody st) t ∧ t { nx := fun _ H' => Q .non H', rt := Q } (start N vs) H) : FnG P w K mg base (k + 1) f fd ps sp := by
  obtain ⟨oc, od, kV, doc, pm, an, cdv, ct, osl, rfl, lk, hcd⟩ := F.ex
  refine ⟨len, fun A outer s H args us vs Q E hg hr e0 hbind rv hsp => ?_⟩
  have kIn : K.In s.heap := e0.mod.kin.keeps fun b o e => (e0.bs b o e).1
  have limit : s.heap.NoLimit :=
    e0.mod.nolimit.keeps fun b o e => (e0.bs b o e).1
  refine codeAny_call_function hr.depth (kIn _ _ lk) rfl S.co S.gen rfl
    (PySem.W.codeRec_of kIn hcd) (hbind _ _ _ _ ?_)
  refine wpAny_newFunctionEnv_cells S.kind (fun ⟨n, v⟩ hy => ?_) fun env he s1 inCall => ?_
  · rcases S.par n (List.of_mem_zip hy).1 with q | q
    · exact .inl q
    · exact .inr ⟨q, PySem.W.cellsFrom_some _ _ _ (.inl q)⟩
  subst he
  refine ⟨limit.keeps inCall.toInCall.keep, codeAny_func ?_⟩
  obtain ⟨t, ht, hq⟩ := hb cdv A outer s H vs Q E hg (hr.deeper _) hsp
  have I0 := inv_start (CX := CX0) (E := E) S hr.hd e0 (len _ _ _ _ hsp) rv inCall
  refine wpAny_mono (ht.nox.run [] s1 (start N vs) H _ I0 hq) (fun flow s' hs => ?_) fun e s' hs => hs
  cases flow with
  | ret u =>
    obtain ⟨v, σ', H', J, r, q⟩ := hs
    exact ⟨v, H', J.os, J.bare, J.base, J.hok, r, q⟩
  | next =>
    obtain ⟨σ', H', J, q⟩ := hs
    exact ⟨V.non, H', J.os, J.bare, J.base, J.hok, rfl, q⟩
  | brk =>
    obtain ⟨_, _, _, q⟩ := hs
    exact q.elim
  | cont =>
    obtain ⟨_, _, _, q⟩ := hs
    exact q.elim
end

section
variable {X : Cx} {k : Nat} {f : Addr} {fd : FuncData} {ps : List Str} {sp : Sp} {x : Str} {p pos : Pos} {e : Expr} {es : List Expr} {t : TA}
theorem pe_callG (F : FnG X.prog X.w X.K X.mg X.base k f fd ps sp) (hg : X.A.guards = some []) (hr : Room k X.A) (gl : Gl X x) (hm : X.mg x = some (.ref f)) (hk : PySem.W.keepIn X.K (.ref f) = true) (hb : Binds X.K fd ps [])
    (ha : PA X (e :: es) t) (hdb : (x == ("__debug__" : Str)) = false := by decide) (he : starEach (e :: es) X.env = (false, eval e X.env) :: starEach es X.env := by rfl)
    (hpl : (backTo pos (starEach es X.env)).any (·.1) = false := by rfl) : PE X (.Call (.Name x p) (e :: es) [] pos) (tCall sp [] E0 t) := by
  refine ⟨fun pins s σ H Q I h => wpAny_Call_Name_kw (ld_glob I gl hm ?_ hdb)⟩
  refine PySem.W.callWith_K (h₀ := X.base) I.ok.mod.kin hk
    (thn (ha.run pos pins s σ H _ I h) fun us s1 ⟨vs, H1, I1, r, q⟩ => ⟨I1.kIn, ?_⟩) he hpl
  have q' : sp vs H1 Q E0 := by
    have z : sp (vs ++ []) H1 Q E0 := q
    rwa [List.append_nil] at z
  have hl : (us ++ []).length = ps.length := by
    rw [List.append_nil, ← r.length]
    exact F.many _ _ _ _ q'
  have hz := hb s1 us I1.kIn hl
  rw [List.append_nil] at hz
  refine wpAny_call (codeAny_mono (F.goes X.A X.stack s1 H1 ⟨us, []⟩ us vs Q E0 hg hr I1.env0 hz r q') fun res s' hq => ?_)
  match res, hq with
  | .error _, hq => exact (show False from hq).elim
  | .ok (.ret _), hq => exact I1.after hq
  | .ok .next, hq => exact (show False from hq).elim
  | .ok .brk, hq => exact (show False from hq).elim
  | .ok .cont, hq => exact (show False from hq).elim
end

/-- the law's own def, called on the script -/
theorem callG {P : Program} {w : World} {K : PySem.W.Frag} {mg mb : Str → Option Value} {k : Nat} {fa a : Addr} {fd : FuncData} {x : Str} {sp : Sp} {s : Shared} {vs : List Value} {ns : List Int}
    (kin : K.In s.heap) (glob : s.heap.Ns mainGlobals mg) (blt : s.heap.Ns builtinsNs mb) (boots : ∀ x : Str, x ≠ "__name__" → mb x = bootBuiltins x) (lim : s.heap.NoLimit) (gens : s.gens = #[])
    (ha : s.heap.get? a = some { cls := .type "list", data := .seq vs.toArray }) (hints : PyProof.Rows.IntsAre vs ns) (hl : ns.length ≤ sizeLine) (hr : Room k callerA)
    (F : ∀ base : Heap, K.In base → base.Ns mainGlobals mg → FnG P w K mg base k fa fd [x] sp) (bind : ∀ (s : Shared) (u : Value), BindsTo s fd ⟨[u], []⟩ [(x, u)])
    (hsp : ∀ H : Hp, SqL K H a (ns.map V.int) → sp [.ref a] H (fun v _ => v = .bl true) fun _ _ _ => False) :
    codeAny (model P w) callerA (.call (.ref fa) ⟨[.ref a], []⟩) (fun r s' => r = .ok (.ret (.bool true)) ∧ OldK s.heap s'.heap ∧ s'.os = s.os ∧ AllBare s'.gens) s := by
  have rv := vals_ints hints
  have lenV := hints.length
  have main : ∀ H : Hp, (∀ b, H b = none ∨ (b = a ∧ ∃ o xs, H b = some (.frz o (.lst xs)))) → SqL K H a (ns.map V.int) → HOk P w H s.heap → (H a ≠ none → K.lookup a = none) →
      codeAny (model P w) callerA (.call (.ref fa) ⟨[.ref a], []⟩) (fun r s' => r = .ok (.ret (.bool true)) ∧ OldK s.heap s'.heap ∧ s'.os = s.os ∧ AllBare s'.gens) s := by
    intro H only sq hok outside
    have there : ∀ {b : Addr} {m : Str → Option Value}, s.heap.Ns b m → (hidT s.heap H).Ns b m := by
      rintro b m ⟨o, es, ep, e, d, r⟩
      refine ⟨o, es, ep, hidT_get e ?_, d, r⟩
      rcases only b with z | ⟨z, _⟩
      · exact z
      · rw [z, ha] at e
        cases e
        exact nomatch d
    have kin' : K.In (hidT s.heap H) := fun b o e => hidT_get (kin b o e) (by
      rcases only b with z | ⟨z, o', xs, q⟩
      · exact z
      · have n := outside (by rw [← z, q]; simp)
        rw [← z, e] at n
        cases n)
    have M : Mod K mg (hidT s.heap H) := by
      obtain ⟨mc, h1, h2⟩ := lim
      exact ⟨kin', there glob, ⟨mb, there blt, boots⟩, ⟨mc, there h1, h2⟩⟩
    have e0 : Env0 P w K mg (hidT s.heap H) callerA [] s H := by
      refine ⟨rfl, M, fun b o e => of_hidT e, Nat.le_of_eq (hidT_size _ _), trivial, fun b hb => ?_, hok, .of_eq gens⟩
      exact absurd (show b ∈ ([] : List Addr) from hb) (by simp)
    have ran := (F _ kin' (there glob)).goes callerA [] s H ⟨[.ref a], []⟩ [.ref a] [.ref a] _ _ rfl hr e0
      (bind s (.ref a)) (.cons rfl .nil) (hsp H sq)
    refine codeAny_mono ran fun r s' h => ?_
    match r, h with
    | .error _, h => exact (show False from h).elim
    | .ok .next, h => exact (show False from h).elim
    | .ok .brk, h => exact (show False from h).elim
    | .ok .cont, h => exact (show False from h).elim
    | .ok (.ret u), ⟨v, H', os, bare, un, hok', r', q⟩ =>
      have q' : v = .bl true := q
      subst q'
      obtain rfl : u = Value.bool true := r'
      refine ⟨rfl, OldK.of_keep fun b o e => ?_, os, bare⟩
      rcases only b with z | ⟨_, ob, xs, z⟩
      · exact un.keep b o e z (by intro y; exact absurd (show b ∈ ([] : List Addr) from y) (by simp)) (by simp)
      · obtain ⟨e1, _⟩ := hok b _ z
        obtain ⟨e2, _⟩ := hok' b _ (un.frzs b ob _ z)
        rw [e] at e1
        cases e1
        exact e2
  cases hk : K.lookup a with
  | some o =>
    have e := kin a o hk
    rw [ha] at e
    cases e
    refine main (fun _ => none) (fun _ => .inl rfl) (.inr ⟨_, vs.toArray, _, hk, rfl, rfl, rfl, ?_, by simpa using rv⟩) (fun b u z => nomatch z) fun z => absurd rfl z
    rw [List.size_toArray, lenV]
    exact hl
  | none =>
    refine main (fun b => if b = a then some (.frz { cls := .type "list", data := .seq vs.toArray } (.lst (ns.map V.int))) else none) (fun b => ?_) (.inl (.inr ⟨_, if_pos rfl⟩)) (fun b u z => ?_) fun _ => hk
    · by_cases hb : b = a
      · exact .inr ⟨hb, _, _, if_pos hb⟩
      · exact .inl (if_neg hb)
    · by_cases hb : b = a
      · have z' := (if_pos hb).symm.trans z
        cases z'
        subst hb
        exact ⟨ha, by rw [List.length_map]; exact hl, vs, _, rv, ha⟩
      · have z' := (if_neg hb).symm.trans z
        cases z'

/-- the goal that the head leaves -/
theorem walkG {l : PySem.W.OpenLaw} {n k : Nat} {q : Program} {loose : List Str} {XP : (Str → Option Value) → Heap → Prop} {YP : World → Heap → Prop} {d : DefRec} {K : Params → PySem.W.Frag} {sp : PySem.W.Frag → Sp} {x : Str}
    (hn : l.most = some n) (hn2 : n ≤ sizeLine) (hdf : d.params.defaults = []) (hr : Room k callerA) (hY : ∀ (w : World) (h : Heap), YP w h → (K w.params).In h)
    (F : ∀ (w : World) (mg : Str → Option Value) (fa : Addr) (h : Heap), (K w.params).In h → h.Ns mainGlobals mg → mg d.name = some (.ref fa) → ∃ fd : FuncData, (∀ (s : Shared) (u : Value), BindsTo s fd ⟨[u], []⟩ [(x, u)]) ∧
      ∀ base : Heap, (K w.params).In base → base.Ns mainGlobals mg → FnG l.prog w (K w.params) mg base k fa fd [x] (sp (K w.params)))
    (hsp : ∀ (K : PySem.W.Frag) (H : Hp) (a : Addr) (ns : List Int), ns.length ≤ n → SqL K H a (ns.map V.int) → sp K [.ref a] H (fun v _ => v = .bl true) fun _ _ _ => False) :
    PySem.W.WalkO q loose XP YP l.row.toRowW d [] (fun f vs => PySem.call f vs) := by
  refine Att.attach_call hn hdf fun w s₀ s₁ mg mb fa o pm cd doc a vs ns G Y ho hd hcd hmg hobj hints hlen hg => ?_
  obtain ⟨fd, hb, hF⟩ := F w mg fa _ (hY w _ Y) G.T.g hmg
  exact callG (hY w _ Y) G.T.g G.T.b G.T.builtins G.T.nolimit hg hobj hints (Nat.le_trans hlen hn2) hr hF hb fun H hS => hsp _ H a ns hlen hS
end Lw
set_option Elab.async false
set_option maxRecDepth 100000
/-! What the drawn numbers stand in, and small lemmas about lists of ints in the heap. -/
namespace Lw
open PySem L2

/-- all that was tracked but p is as it was -/
def SameX (p : Addr) (H H' : Hp) : Prop := ∀ b o, H b = some o → b ≠ p → H' b = some o
theorem SameX.refl (p : Addr) (H : Hp) : SameX p H H := fun _ _ h _ => h
theorem SameX.trans {p : Addr} {H H1 H2 : Hp} (a : SameX p H H1) (b : SameX p H1 H2) : SameX p H H2 := fun c o h n => b c o (a c o h n) n
theorem SameX.of {p : Addr} {H H1 : Hp} (a : Same H H1) : SameX p H H1 := fun c o h _ => a c o h
theorem SameX.upd {p : Addr} {H : Hp} {o : HO} : SameX p H (upd H p o) := fun c o h n => by rw [upd_ne n]; exact h
theorem same_new {H : Hp} {q : Addr} {o : HO} (h : H q = none) : Same H (upd H q o) := fun c o' e => by rw [upd_ne (ne_of_none e h)]; exact e

abbrev kvP (c : Addr) (s m : Int) : List (Key × V) := [((.inr "cells" : Key), V.ref c), (.inr "spot", V.int s), (.inr "more", V.int m)]
theorem n_cs : ¬ (("cells" : Str) = "spot") := by decide +kernel
theorem n_cm : ¬ (("cells" : Str) = "more") := by decide +kernel
theorem n_sm : ¬ (("spot" : Str) = "more") := by decide +kernel
theorem n_ms : ¬ (("more" : Str) = "spot") := by decide +kernel
theorem v_cells (c : Addr) (s m : Int) : valV (kvP c s m) (.inr "cells") = some (.ref c) := by
  unfold valV kvP
  simp
theorem v_spot (c : Addr) (s m : Int) : valV (kvP c s m) (.inr "spot") = some (.int s) := by
  unfold valV kvP
  rw [List.find?_cons_of_neg (by simpa using n_cs)]
  simp
theorem v_more (c : Addr) (s m : Int) : valV (kvP c s m) (.inr "more") = some (.int m) := by
  unfold valV kvP
  rw [List.find?_cons_of_neg (by simpa using n_cm), List.find?_cons_of_neg (by simpa using n_sm)]
  simp
theorem p_spot (c : Addr) (s m t : Int) : putK (kvP c s m) (.inr "spot") (.int t) = kvP c t m := by
  simp [kvP, putK, n_cs, n_ms]
theorem p_more (c : Addr) (s m t : Int) : putK (kvP c s m) (.inr "more") (.int t) = kvP c s t := by
  simp [kvP, putK, n_cm, n_sm]

/-- the pen at p, its cells at c, at most N numbers drawn -/
def PenAt (H : Hp) (p c : Addr) (N : Nat) : Prop :=
  ∃ (ns : List Int) (s m : Int), H p = some (.dK (kvP c s m)) ∧ H c = some (.lst (ns.map V.int)) ∧ 0 ≤ s ∧ s ≤ N ∧ ns.length ≤ 63
section
variable {H H' : Hp} {p c q : Addr} {N M : Nat}
theorem PenAt.more (h : PenAt H p c N) (l : N ≤ M) : PenAt H p c M := by
  obtain ⟨ns, s, m, h1, h2, h3, h4, h5⟩ := h
  exact ⟨ns, s, m, h1, h2, h3, by omega, h5⟩
theorem PenAt.same (h : PenAt H p c N) (s : Same H H') : PenAt H' p c N := by
  obtain ⟨ns, z, m, h1, h2, h3⟩ := h
  exact ⟨ns, z, m, s _ _ h1, s _ _ h2, h3⟩
theorem PenAt.upd {o : HO} (h : PenAt H p c N) (n1 : q ≠ p) (n2 : q ≠ c) : PenAt (upd H q o) p c N := by
  obtain ⟨ns, z, m, h1, h2, h3⟩ := h
  exact ⟨ns, z, m, by rw [upd_ne n1.symm]; exact h1, by rw [upd_ne n2.symm]; exact h2, h3⟩
theorem PenAt.ne {o : HO} (h : PenAt H p c N) (e : H q = some o) (no : ∀ kvs, o ≠ .dK kvs) : q ≠ p := by
  obtain ⟨ns, z, m, h1, _⟩ := h
  intro z
  rw [z, h1] at e
  exact no _ (Option.some.inj e).symm
theorem PenAt.new (h : PenAt H p c N) (e : H q = none) : q ≠ p := by
  obtain ⟨ns, z, m, h1, _⟩ := h
  intro z
  rw [z, h1] at e
  cases e
theorem PenAt.newC (h : PenAt H p c N) (e : H q = none) : q ≠ c := by
  obtain ⟨ns, z, m, _, h1, _⟩ := h
  intro z
  rw [z, h1] at e
  cases e
/-- a tracked list, tuple stays where just the pen changes -/
theorem SameX.lst {xs : List V} (s : SameX p H H') (h : PenAt H p c N) (e : H q = some (.lst xs)) : H' q = some (.lst xs) := s _ _ e (h.ne e fun _ => nofun)
theorem SameX.tup {xs : List V} (s : SameX p H H') (h : PenAt H p c N) (e : H q = some (.tup xs)) : H' q = some (.tup xs) := s _ _ e (h.ne e fun _ => nofun)
theorem SameX.free (s : SameX p H H') (h : PenAt H' p c N) (e : H' q = none) : H q = none := by
  cases z : H q with
  | none => rfl
  | some o =>
    rw [s _ _ z (h.new e)] at e
    cases e
/-- a new thing is changed -/
theorem SameX.new {o : HO} (s : SameX p H H') (e : H q = none) : SameX p H (L2.upd H' q o) := fun b u h n => by
  rw [upd_ne (ne_of_none h e)]
  exact s b u h n
end

/-! ### where ways meet -/
theorem set_cut {te : TE} {g : TG} {D : Ends} {σ : St} {H : Hp} (P : V → Hp → Prop) (h : ∀ Q : VK, (∀ v H', P v H' → Q v H') → te σ H Q) (k : ∀ v H', P v H' → g v σ H' D.nx) : tAsg te g D σ H := h _ k
theorem seq_cut {t u : TS} {D : Ends} {σ : St} {H : Hp} (P : St → Hp → Prop) (h : ∀ N : St → Hp → Prop, (∀ σ' H', P σ' H' → N σ' H') → t { D with nx := N } σ H) (k : ∀ σ' H', P σ' H' → u D σ' H') : tSeq t u D σ H := h _ k
theorem seq_set_cut {te : TE} {g : TG} {u : TS} {D : Ends} {σ : St} {H : Hp} (P : V → Hp → Prop) (h : ∀ Q : VK, (∀ v H', P v H' → Q v H') → te σ H Q) (k : ∀ v H', P v H' → g v σ H' (u D)) : tSeq (tAsg te g) u D σ H := h _ k
theorem fmod_lo (a : Int) {b : Int} (h : 0 < b) : 0 ≤ a.fmod b := Int.fmod_nonneg_of_pos a h
theorem fmod_hi (a : Int) {b : Int} (h : 0 < b) : a.fmod b < b := Int.fmod_lt_of_pos a h
theorem at_int {ns : List Int} {i : Int} (h0 : 0 ≤ i) (h1 : i < ns.length) : ∃ z, atI (ns.map V.int) i = some (.int z) := by
  obtain ⟨n, rfl⟩ := Int.eq_ofNat_of_zero_le h0
  have hn : n < ns.length := by omega
  exact ⟨ns[n], atI_nat (by simp [hn])⟩
theorem dp_ints {K : PySem.W.Frag} {H : Hp} : ∀ ns : List Int, DpAll K H (ns.map V.int) (ns.map PyData.int)
  | [] => .nil
  | n :: ns => .cons (.int n) (dp_ints ns)
theorem dp_list {K : PySem.W.Frag} {H : Hp} {a : Addr} {ns : List Int} (h : H a = some (.lst (ns.map V.int))) : Dp K H (.ref a) (.list (ns.map PyData.int)) := .lst (SqL.of h) (dp_ints ns)
theorem dp_tup {K : PySem.W.Frag} {H : Hp} {a : Addr} {ns : List Int} (h : H a = some (.tup (ns.map V.int))) : Dp K H (.ref a) (.tuple (ns.map PyData.int)) := .tup (SqT.of h) (dp_ints ns)
theorem depth_ints : ∀ ns : List Int, PyData.depthAll (ns.map PyData.int) = 0
  | [] => by simp [PyData.depthAll]
  | n :: ns => by simp [PyData.depthAll, PyData.depth, depth_ints ns]
theorem lay_ints : ∀ ns : List Int, PyData.canLayAll0 (ns.map PyData.int) = true
  | [] => by simp [PyData.canLayAll0]
  | n :: ns => by simp [PyData.canLayAll0, PyData.canLay0, lay_ints ns]
theorem shaped_list (ns : List Int) : SeqAt.shaped (.list (ns.map PyData.int)) = true := by
  simp [SeqAt.shaped, PyData.canLay0, lay_ints, PyData.depth, depth_ints]
theorem shaped_tup (ns : List Int) : SeqAt.shaped (.tuple (ns.map PyData.int)) = true := by
  simp [SeqAt.shaped, PyData.canLay0, lay_ints, PyData.depth, depth_ints]
theorem eqv_ints : ∀ ns ms : List Int, PyData.eqvAll (ns.map PyData.int) (ms.map PyData.int) = decide (ns = ms)
  | [], [] => by simp [PyData.eqvAll]
  | [], _ :: _ => by simp [PyData.eqvAll]
  | _ :: _, [] => by simp [PyData.eqvAll]
  | n :: ns, m :: ms => by
    have e : PyData.eqv (PyData.int n) (PyData.int m) = decide (n = m) := by
      simp only [PyData.eqv]
      by_cases h : n = m <;> simp [h]
    simp only [List.map_cons, PyData.eqvAll, e, eqv_ints ns ms, List.cons.injEq, Bool.decide_and]
theorem eqv_list (ns ms : List Int) : PyData.eqv (.list (ns.map PyData.int)) (.list (ms.map PyData.int)) = decide (ns = ms) := by
  simp only [PyData.eqv, eqv_ints]
theorem eqv_tup (ns ms : List Int) : PyData.eqv (.tuple (ns.map PyData.int)) (.tuple (ms.map PyData.int)) = decide (ns = ms) := by
  simp only [PyData.eqv, eqv_ints]
end Lw
set_option linter.all false
/-! Rows of runners as lists of ints: passes, words, orders. Core Lean alone. -/
namespace Lw
/-- a pass at the k-th place -/
def sw : List Int → Nat → List Int
  | a :: b :: l, 0 => b :: a :: l
  | a :: l, k + 1 => a :: sw l k
  | l, _ => l
def run (l : List Int) (w : List Int) : List Int := w.foldl (fun l k => sw l k.toNat) l
def idl (n : Nat) : List Int := (List.range n).map fun (i : Nat) => (i : Int)
def OkW (n : Nat) (w : List Int) : Prop := ∀ k ∈ w, 0 ≤ k ∧ k + 1 < n

theorem sw_len : ∀ (l : List Int) (k : Nat), (sw l k).length = l.length
  | [], 0 => rfl
  | [], _ + 1 => rfl
  | [_], 0 => rfl
  | _ :: _ :: _, 0 => rfl
  | a :: l, k + 1 => by simp [sw, sw_len l k]
theorem run_len (l : List Int) : ∀ w : List Int, (run l w).length = l.length := by
  intro w
  unfold run
  induction w generalizing l with
  | nil => rfl
  | cons k w ih => rw [List.foldl_cons, ih, sw_len]
theorem run_nil (l : List Int) : run l [] = l := rfl
theorem run_cons (l : List Int) (k : Int) (w : List Int) : run l (k :: w) = run (sw l k.toNat) w := rfl
theorem run_append (l : List Int) (v w : List Int) : run l (v ++ w) = run (run l v) w := by unfold run; rw [List.foldl_append]
theorem run_snoc (l : List Int) (w : List Int) (k : Int) : run l (w ++ [k]) = sw (run l w) k.toNat := by rw [run_append]; rfl
theorem sw_perm : ∀ (l : List Int) (k : Nat), (sw l k).Perm l
  | [], 0 => .refl _
  | [], _ + 1 => .refl _
  | [_], 0 => .refl _
  | a :: b :: l, 0 => .swap a b l
  | a :: l, k + 1 => by
    have h : sw (a :: l) (k + 1) = a :: sw l k := by simp [sw]
    rw [h]
    exact (sw_perm l k).cons a
theorem run_perm (l w : List Int) : (run l w).Perm l := by
  induction w generalizing l with
  | nil => exact .refl _
  | cons k w ih => rw [run_cons]; exact (ih _).trans (sw_perm _ _)
theorem sw_map (g : Int → Int) : ∀ (l : List Int) (k : Nat), sw (l.map g) k = (sw l k).map g
  | [], 0 => rfl
  | [], _ + 1 => rfl
  | [_], 0 => rfl
  | _ :: _ :: _, 0 => rfl
  | a :: l, k + 1 => by simp [sw, sw_map g l k]
theorem run_map (g : Int → Int) (l w : List Int) : run (l.map g) w = (run l w).map g := by
  induction w generalizing l with
  | nil => rfl
  | cons k w ih => rw [run_cons, run_cons, sw_map, ih]
theorem sw_sw : ∀ (l : List Int) (k : Nat), sw (sw l k) k = l
  | [], 0 => rfl
  | [], _ + 1 => rfl
  | [_], 0 => rfl
  | _ :: _ :: _, 0 => rfl
  | a :: l, k + 1 => by simp [sw, sw_sw l k]
theorem run_back (l w : List Int) : run (run l w) w.reverse = l := by
  induction w generalizing l with
  | nil => rfl
  | cons k w ih => rw [run_cons, List.reverse_cons, run_snoc, ih, sw_sw]
theorem sw_at : ∀ (A : List Int) (a b : Int) (R : List Int), sw (A ++ a :: b :: R) A.length = A ++ b :: a :: R
  | [], _, _, _ => rfl
  | x :: A, a, b, R => by simp [sw, sw_at A a b R]
theorem split2 {l : List Int} {k : Nat} (h : k + 1 < l.length) : ∃ A a b R, l = A ++ a :: b :: R ∧ A.length = k := by
  refine ⟨l.take k, l[k], l[k + 1], l.drop (k + 2), ?_, by rw [List.length_take]; omega⟩
  rw [List.getElem_cons_drop h, List.getElem_cons_drop (by omega), List.take_append_drop]
/-- the pass as slices tell it -/
theorem sw_cut {l : List Int} {k : Nat} {a b : Int} (ha : l[k]? = some a) (hb : l[k + 1]? = some b) : l.take k ++ b :: a :: l.drop (k + 2) = sw l k := by
  have h : k + 1 < l.length := (List.getElem?_eq_some_iff.mp hb).1
  obtain ⟨A, x, y, R, rfl, rfl⟩ := split2 h
  have e1 : x = a := by simpa using ha
  have e2 : y = b := by simpa [List.getElem?_append_right] using hb
  subst e1 e2
  rw [sw_at]
  simp [List.drop_append]
/-- .. as two stores tell it -/
theorem sw_set {l : List Int} {k : Nat} {a b : Int} (ha : l[k]? = some a) (hb : l[k + 1]? = some b) : (l.set k b).set (k + 1) a = sw l k := by
  have h : k + 1 < l.length := (List.getElem?_eq_some_iff.mp hb).1
  obtain ⟨A, x, y, R, rfl, rfl⟩ := split2 h
  have e1 : x = a := by simpa using ha
  have e2 : y = b := by simpa [List.getElem?_append_right] using hb
  subst e1 e2
  rw [sw_at]
  simp [List.set_append]

theorem erase_perm {l : List Int} {j : Nat} (h : j < l.length) : (l[j] :: l.eraseIdx j).Perm l := by
  have e : l = l.take j ++ l[j] :: l.drop (j + 1) := by rw [List.getElem_cons_drop h, List.take_append_drop]
  have e2 : l.eraseIdx j = l.take j ++ l.drop (j + 1) := List.eraseIdx_eq_take_drop_succ l j
  rw [e2]
  conv => rhs; rw [e]
  exact List.perm_middle.symm
theorem erase_map {α β : Type} (f : α → β) (l : List α) (j : Nat) : (l.map f).eraseIdx j = (l.eraseIdx j).map f := by
  rw [List.eraseIdx_eq_take_drop_succ, List.eraseIdx_eq_take_drop_succ, List.map_append, List.map_take, List.map_drop]
theorem idl_len (n : Nat) : (idl n).length = n := by simp [idl]
theorem idl_get {n i : Nat} (h : i < n) : (idl n)[i]? = some (i : Int) := by simp [idl, h]
theorem mem_idl {n : Nat} {x : Int} : x ∈ idl n ↔ 0 ≤ x ∧ x < n := by
  unfold idl
  rw [List.mem_map]
  constructor
  · rintro ⟨i, hi, rfl⟩
    have := List.mem_range.mp hi
    omega
  · rintro ⟨h0, h1⟩
    exact ⟨x.toNat, List.mem_range.mpr (by omega), by omega⟩
theorem idl_nodup (n : Nat) : (idl n).Nodup := by
  unfold idl
  rw [List.nodup_iff_pairwise_ne, List.pairwise_map]
  exact (List.nodup_iff_pairwise_ne.mp List.nodup_range).imp (by intro a b h e; exact h (by omega))
theorem idl_succ (n : Nat) : idl (n + 1) = idl n ++ [(n : Int)] := by simp [idl, List.range_succ]
theorem idl_of {n : Nat} (p : List Int) (h : p.length = n) : (idl n).map (fun r => p.getD r.toNat 0) = p := by
  apply List.ext_getElem?
  intro i
  by_cases hi : i < n
  · rw [List.getElem?_map, idl_get hi]
    simp [List.getD_eq_getElem?_getD, List.getElem?_eq_getElem (h ▸ hi : i < p.length)]
  · rw [List.getElem?_eq_none (by rw [List.length_map, idl_len]; omega), List.getElem?_eq_none (by omega)]
/-- a word of the one, then one of the other -/
theorem run_join (n : Nat) (v w : List Int) : run (idl n) (v ++ w) = (run (idl n) w).map fun r => (run (idl n) v).getD r.toNat 0 := by
  rw [run_append, ← run_map, idl_of _ (by rw [run_len, idl_len])]
/-- the word from behind undoes it -/
theorem run_undo (n : Nat) (w : List Int) : (run (idl n) w.reverse).map (fun r => (run (idl n) w).getD r.toNat 0) = idl n := by
  rw [← run_join, run_append, run_back]

/-- orders of n runners -/
def Ord (n : Nat) (p : List Int) : Prop := p.Perm (idl n)
theorem Ord.len {n : Nat} {p : List Int} (h : Ord n p) : p.length = n := by rw [h.length_eq, idl_len]
theorem Ord.nodup {n : Nat} {p : List Int} (h : Ord n p) : p.Nodup := h.nodup_iff.mpr (idl_nodup n)
theorem Ord.mem {n : Nat} {p : List Int} (h : Ord n p) {x : Int} : x ∈ p ↔ 0 ≤ x ∧ x < n := by rw [h.mem_iff, mem_idl]
theorem ord_run (n : Nat) (w : List Int) : Ord n (run (idl n) w) := run_perm _ _
theorem ord_idl (n : Nat) : Ord n (idl n) := .refl _
/-- q undoes p -/
def Undoes (n : Nat) (p q : List Int) : Prop := q.length = n ∧ ∀ (i : Nat) (x : Int), q[i]? = some x → 0 ≤ x ∧ p[x.toNat]? = some (i : Int)
theorem undoes_run (n : Nat) (w : List Int) : Undoes n (run (idl n) w) (run (idl n) w.reverse) := by
  refine ⟨by rw [run_len, idl_len], fun i x hx => ?_⟩
  have hi : i < n := by
    have := (List.getElem?_eq_some_iff.mp hx).1
    rwa [run_len, idl_len] at this
  have hm : x ∈ run (idl n) w.reverse := List.mem_of_getElem? hx
  have hb := (ord_run n w.reverse).mem.mp hm
  refine ⟨hb.1, ?_⟩
  have e := congrArg (fun l => l[i]?) (run_undo n w)
  simp only [List.getElem?_map, hx, idl_get hi, Option.map_some, Option.some.injEq, List.getD_eq_getElem?_getD] at e
  have hl : x.toNat < (run (idl n) w).length := by rw [run_len, idl_len]; omega
  rw [List.getElem?_eq_getElem hl] at e ⊢
  simpa using e
theorem undoes_idx {n : Nat} {p : List Int} (h : Ord n p) : Undoes n p ((idl n).map fun i => ((p.idxOf i : Nat) : Int)) := by
  refine ⟨by rw [List.length_map, idl_len], fun i x hx => ?_⟩
  have hi : i < n := by
    have := (List.getElem?_eq_some_iff.mp hx).1
    rwa [List.length_map, idl_len] at this
  rw [List.getElem?_map, idl_get hi] at hx
  simp only [Option.map_some, Option.some.injEq] at hx
  subst hx
  have hm : (i : Int) ∈ p := h.mem.mpr ⟨by omega, by omega⟩
  refine ⟨by omega, ?_⟩
  rw [Int.toNat_natCast, List.getElem?_eq_getElem (List.idxOf_lt_length_of_mem hm), List.getElem_idxOf]
theorem Undoes.join {n : Nat} {p q : List Int} (h : Undoes n p q) : q.map (fun r => p.getD r.toNat 0) = idl n := by
  apply List.ext_getElem?
  intro i
  by_cases hi : i < n
  · have hq : i < q.length := by rw [h.1]; exact hi
    have e := (h.2 i q[i] (List.getElem?_eq_getElem hq)).2
    rw [List.getElem?_map, List.getElem?_eq_getElem hq, idl_get hi, Option.map_some, List.getD_eq_getElem?_getD, e]
    rfl
  · rw [List.getElem?_eq_none (by rw [List.length_map, h.1]; omega), List.getElem?_eq_none (by rw [idl_len]; omega)]

/-! ### the told form -/
/-- the lesser ones that stand behind r -/
def behind (d : List Int) (r : Int) : List Int := (d.drop (d.idxOf r)).filter fun x => decide (x < r)
def leads (d : List Int) (r : Int) : List Int := (idl (behind d r).length).map fun k => r - 1 - k
def formTo (d : List Int) : Nat → List Int
  | 0 => []
  | k + 1 => formTo d k ++ leads d ((k : Int) + 1)
def form (n : Nat) (d : List Int) : List Int := formTo d (n - 1)

theorem run_move (A : List Int) (x : Int) : ∀ (m : Nat) (B R : List Int), B.length = m → run (A ++ (B ++ x :: R)) ((idl m).map fun j => ((A.length + m : Nat) : Int) - 1 - j) = A ++ x :: (B ++ R) := by
  intro m
  induction m with
  | zero =>
    intro B R hB
    have : B = [] := List.length_eq_zero_iff.mp hB
    subst this
    simp [idl, run]
  | succ m ih =>
    intro B R hB
    have hne : B ≠ [] := by intro e; subst e; simp at hB
    obtain ⟨C, b, rfl⟩ : ∃ C b, B = C ++ [b] := ⟨B.dropLast, B.getLast hne, (List.dropLast_concat_getLast hne).symm⟩
    have hC : C.length = m := by simpa using hB
    have e1 : (idl (m + 1)).map (fun j => ((A.length + (m + 1) : Nat) : Int) - 1 - j) = ((A.length + m : Nat) : Int) :: (idl m).map fun j => ((A.length + m : Nat) : Int) - 1 - j := by
      unfold idl
      rw [List.range_succ_eq_map]
      simp only [List.map_cons, List.map_map]
      congr 1
      · omega
      · apply List.map_congr_left
        intro i _
        simp only [Function.comp]
        omega
    rw [e1, run_cons]
    have e2 : A ++ (C ++ [b] ++ x :: R) = (A ++ C) ++ b :: x :: R := by simp
    have e3 : ((A.length + m : Nat) : Int).toNat = (A ++ C).length := by rw [Int.toNat_natCast, List.length_append, hC]
    rw [e2, e3, sw_at, List.append_assoc, ih C (b :: R) hC]
    simp

theorem split_at {p : List Int} {x : Int} (hn : p.Nodup) (hm : x ∈ p) : ∃ A B, p = A ++ x :: B ∧ p.idxOf x = A.length ∧ x ∉ A ∧ x ∉ B := by
  have hl := List.idxOf_lt_length_of_mem hm
  have e : p = p.take (p.idxOf x) ++ x :: p.drop (p.idxOf x + 1) := by
    have h1 := List.getElem_cons_drop hl
    rw [List.getElem_idxOf] at h1
    rw [h1, List.take_append_drop]
  have hn' := hn
  rw [e] at hn'
  rw [List.nodup_append] at hn'
  refine ⟨_, _, e, by rw [List.length_take]; omega, fun q => hn'.2.2 x q x (by simp) rfl, fun q => ?_⟩
  exact (List.nodup_cons.mp hn'.2.1).1 q
/-- the lesser ones, as they stand -/
def low (d : List Int) (k : Int) : List Int := d.filter fun x => decide (x < k)
theorem low_len {n : Nat} {d : List Int} (h : Ord n d) {k : Nat} (hk : k ≤ n) : (low d k).length = k := by
  have e : (low d k).length = (low (idl n) k).length := (h.filter _).length_eq
  rw [e]
  have : low (idl n) k = idl k := by
    unfold low idl
    rw [List.filter_map]
    congr 1
    have : ∀ n, k ≤ n → (List.range n).filter ((fun x : Int => decide (x < (k : Int))) ∘ fun i : Nat => (i : Int)) = List.range k := by
      intro n hk
      induction n with
      | zero => have : k = 0 := by omega
                subst this; rfl
      | succ n ih =>
        by_cases e : k = n + 1
        · subst e
          apply List.filter_eq_self.mpr
          intro a ha
          have := List.mem_range.mp ha
          simp only [Function.comp, decide_eq_true_eq]
          omega
        · rw [List.range_succ, List.filter_append, ih (by omega)]
          simp only [Function.comp, List.filter_cons, List.filter_nil]
          rw [if_neg (by simp; omega), List.append_nil]
    exact this n hk
  rw [this, idl_len]
theorem formTo_run {n : Nat} {d : List Int} (h : Ord n d) : ∀ k : Nat, k + 1 ≤ n → run (idl n) (formTo d k) = low d ((k : Int) + 1) ++ ((List.range (n - (k + 1))).map fun i => ((k + 1 + i : Nat) : Int)) := by
  intro k
  induction k with
  | zero =>
    intro hk
    have h1 : (low d ((0 : Nat) + 1 : Int)).length = 1 := by have := low_len h (k := 1) hk; simpa using this
    have h2 : ∀ x ∈ low d ((0 : Nat) + 1 : Int), x = 0 := by
      intro x hx
      have hx' := List.mem_filter.mp hx
      have hb := h.mem.mp hx'.1
      have := of_decide_eq_true hx'.2
      omega
    have h3 : low d ((0 : Nat) + 1 : Int) = [0] := by
      match q : low d ((0 : Nat) + 1 : Int), h1, h2 with
      | [x], _, h2 => rw [h2 x (by simp)]
    rw [h3]
    obtain ⟨m, rfl⟩ : ∃ m, n = m + 1 := ⟨n - 1, by omega⟩
    simp only [formTo, run_nil, idl, List.range_succ_eq_map, List.map_cons, List.map_map]
    simp [Nat.add_comm]
  | succ k ih =>
    intro hk
    have i0 := ih (by omega)
    have hm : ((k : Int) + 1) ∈ d := h.mem.mpr ⟨by omega, by omega⟩
    obtain ⟨A, B, e, hi, hA, hB⟩ := split_at h.nodup hm
    have lowk : low d ((k : Int) + 1) = low A ((k : Int) + 1) ++ low B ((k : Int) + 1) := by
      rw [e]
      simp [low, List.filter_append, List.filter_cons]
    have keep : ∀ (C : List Int), ((k : Int) + 1) ∉ C → low C (((k + 1 : Nat) : Int) + 1) = low C ((k : Int) + 1) := by
      intro C hC
      unfold low
      apply List.filter_congr
      intro x hx
      have : x ≠ (k : Int) + 1 := fun q => hC (q ▸ hx)
      rw [decide_eq_decide]
      omega
    have lowk1 : low d (((k + 1 : Nat) : Int) + 1) = low A ((k : Int) + 1) ++ ((k : Int) + 1) :: low B ((k : Int) + 1) := by
      have e2 : low d (((k + 1 : Nat) : Int) + 1) = low A (((k + 1 : Nat) : Int) + 1) ++ low (((k : Int) + 1) :: B) (((k + 1 : Nat) : Int) + 1) := by
        rw [e]
        simp [low, List.filter_append]
      rw [e2, keep A hA]
      congr 1
      have e3 : low (((k : Int) + 1) :: B) (((k + 1 : Nat) : Int) + 1) = ((k : Int) + 1) :: low B (((k + 1 : Nat) : Int) + 1) := by
        unfold low
        rw [List.filter_cons, if_pos (by simp; omega)]
      rw [e3, keep B hB]
    have hbeh : behind d ((k : Int) + 1) = low B ((k : Int) + 1) := by
      unfold behind
      rw [hi, e]
      simp [low, List.filter_cons]
    have hlen : (low A ((k : Int) + 1)).length + (low B ((k : Int) + 1)).length = k + 1 := by
      have := low_len h (k := k + 1) (by omega)
      have e4 : low d ((k + 1 : Nat) : Int) = low d ((k : Int) + 1) := by congr 1
      rw [e4, lowk, List.length_append] at this
      exact this
    have hr : ((List.range (n - (k + 1))).map fun i => ((k + 1 + i : Nat) : Int)) = ((k : Int) + 1) :: ((List.range (n - (k + 1 + 1))).map fun i => ((k + 1 + 1 + i : Nat) : Int)) := by
      obtain ⟨m, hm⟩ : ∃ m, n - (k + 1) = m + 1 := ⟨n - (k + 1) - 1, by omega⟩
      have hm2 : n - (k + 1 + 1) = m := by omega
      rw [hm, hm2, List.range_succ_eq_map]
      simp only [List.map_cons, List.map_map]
      congr 1
      apply List.map_congr_left
      intro i _
      simp only [Function.comp]
      omega
    rw [formTo, run_append, i0, lowk, hr, leads, hbeh]
    have mv := run_move (low A ((k : Int) + 1)) ((k : Int) + 1) (low B ((k : Int) + 1)).length (low B ((k : Int) + 1)) ((List.range (n - (k + 1 + 1))).map fun i => ((k + 1 + 1 + i : Nat) : Int)) rfl
    have ew : (fun j : Int => (((low A ((k : Int) + 1)).length + (low B ((k : Int) + 1)).length : Nat) : Int) - 1 - j) = fun j => (k : Int) + 1 - 1 - j := by
      funext j
      rw [hlen]
      omega
    rw [ew] at mv
    rw [List.append_assoc, mv, lowk1, List.append_assoc]
    simp
theorem form_run {n : Nat} {d : List Int} (h : Ord n d) (hn : 1 ≤ n) : run (idl n) (form n d) = d := by
  have e := formTo_run h (n - 1) (by omega)
  have e2 : n - (n - 1 + 1) = 0 := by omega
  have e3 : low d (((n - 1 : Nat) : Int) + 1) = d := by
    apply List.filter_eq_self.mpr
    intro x hx
    have := h.mem.mp hx
    simp only [decide_eq_true_eq]
    omega
  rw [e2, e3] at e
  simpa [form] using e
theorem behind_len {n : Nat} {d : List Int} (h : Ord n d) {k : Nat} (hk : k + 1 < n + 1) : (behind d (k : Int)).length ≤ k := by
  have h1 : (behind d (k : Int)).length ≤ (low d (k : Int)).length := by
    unfold behind low
    exact ((List.drop_sublist _ _).filter _).length_le
  rw [low_len h (by omega)] at h1
  exact h1
theorem formTo_ok {n : Nat} {d : List Int} (h : Ord n d) : ∀ k : Nat, k + 1 ≤ n → OkW n (formTo d k) ∧ 2 * (formTo d k).length ≤ k * (k + 1) := by
  intro k
  induction k with
  | zero =>
    intro _
    refine ⟨fun x hx => ?_, by simp [formTo]⟩
    simp [formTo] at hx
  | succ k ih =>
    intro hk
    obtain ⟨h1, h2⟩ := ih (by omega)
    have hb : (behind d ((k : Int) + 1)).length ≤ k + 1 := by
      have := behind_len h (k := k + 1) (by omega)
      simpa using this
    refine ⟨fun x hx => ?_, ?_⟩
    · rw [formTo] at hx
      rcases List.mem_append.mp hx with q | q
      · exact h1 x q
      · unfold leads at q
        obtain ⟨j, hj, rfl⟩ := List.mem_map.mp q
        have := mem_idl.mp hj
        omega
    · rw [formTo, List.length_append]
      have : (leads d ((k : Int) + 1)).length ≤ k + 1 := by unfold leads; rw [List.length_map, idl_len]; exact hb
      have e : (k + 1) * (k + 1 + 1) = k * (k + 1) + 2 * (k + 1) := by
        rw [Nat.mul_add, Nat.add_mul, Nat.add_mul]
        omega
      omega
theorem form_ok {n : Nat} {d : List Int} (h : Ord n d) (hn : 1 ≤ n) (h60 : n ≤ 60) : OkW n (form n d) ∧ (form n d).length ≤ 1770 := by
  obtain ⟨h1, h2⟩ := formTo_ok h (n - 1) (by omega)
  refine ⟨h1, ?_⟩
  have : (n - 1) * (n - 1 + 1) ≤ 59 * 60 := Nat.mul_le_mul (by omega) (by omega)
  unfold form
  omega
end Lw
set_option linter.all false
/-! Who pass one another; words in which the lesser one is always ahead. Core Lean alone. -/
namespace Lw
def met (l : List Int) : List Int → List (Int × Int)
  | [] => []
  | k :: w => (l.getD k.toNat 0, l.getD (k.toNat + 1) 0) :: met (sw l k.toNat) w
def Good (l w : List Int) : Prop := ∀ p ∈ met l w, p.1 < p.2
theorem met_append (l v w : List Int) : met l (v ++ w) = met l v ++ met (run l v) w := by
  induction v generalizing l with
  | nil => rfl
  | cons k v ih => simp [met, ih, run_cons]
theorem met_snoc (l v : List Int) (k : Int) : met l (v ++ [k]) = met l v ++ [((run l v).getD k.toNat 0, (run l v).getD (k.toNat + 1) 0)] := by rw [met_append]; rfl
theorem met_len (l w : List Int) : (met l w).length = w.length := by
  induction w generalizing l with
  | nil => rfl
  | cons k w ih => simp [met, ih]
theorem good_append {l v w : List Int} : Good l (v ++ w) ↔ Good l v ∧ Good (run l v) w := by
  unfold Good
  rw [met_append]
  constructor
  · intro h
    exact ⟨fun p hp => h p (List.mem_append_left _ hp), fun p hp => h p (List.mem_append_right _ hp)⟩
  · rintro ⟨h1, h2⟩ p hp
    exact (List.mem_append.mp hp).elim (h1 p) (h2 p)

/-! what stands ahead of what -/
def Ahead (l : List Int) (y x : Int) : Prop := l.idxOf y < l.idxOf x
theorem idx_mid {A R : List Int} {a b : Int} (hn : (A ++ a :: b :: R).Nodup) (z : Int) :
    (A ++ a :: b :: R).idxOf z = if z ∈ A then A.idxOf z else if z = a then A.length else if z = b then A.length + 1 else A.length + 2 + R.idxOf z := by
  rw [List.idxOf_append]
  split
  · rfl
  · rw [List.idxOf_cons, List.idxOf_cons]
    by_cases h1 : z = a
    · subst h1; simp
    · have h1' : ¬ (a == z) = true := by simpa using fun e => h1 e.symm
      rw [if_neg h1]
      by_cases h2 : z = b
      · subst h2
        simp [h1']
        omega
      · have h2' : ¬ (b == z) = true := by simpa using fun e => h2 e.symm
        simp [h1', h2', h2]
        omega
/-- a pass turns just the two that pass -/
theorem ahead_sw {l : List Int} {k : Nat} {a b : Int} (hn : l.Nodup) (ha : l[k]? = some a) (hb : l[k + 1]? = some b) {x y : Int} (hxy : x ≠ y) :
    Ahead (sw l k) y x ↔ (y = b ∧ x = a) ∨ (¬ (y = a ∧ x = b) ∧ Ahead l y x) := by
  have h : k + 1 < l.length := (List.getElem?_eq_some_iff.mp hb).1
  obtain ⟨A, p, q, R, rfl, rfl⟩ := split2 h
  have e1 : p = a := by simpa using ha
  have e2 : q = b := by simpa [List.getElem?_append_right] using hb
  subst e1 e2
  rw [sw_at]
  have hn2 : (A ++ q :: p :: R).Nodup := by
    have := (sw_perm (A ++ p :: q :: R) A.length).nodup_iff.mpr hn
    rwa [sw_at] at this
  have hpq : p ≠ q := by
    intro e
    subst e
    have := (List.nodup_append.mp hn).2.1
    simp at this
  have hpA : p ∉ A := fun m => (List.nodup_append.mp hn).2.2 p m p (by simp) rfl
  have hqA : q ∉ A := fun m => (List.nodup_append.mp hn).2.2 q m q (by simp) rfl
  unfold Ahead
  rw [idx_mid hn2 y, idx_mid hn2 x, idx_mid hn y, idx_mid hn x]
  have hA : ∀ z, z ∈ A → A.idxOf z < A.length := fun z m => List.idxOf_lt_length_of_mem m
  by_cases yA : y ∈ A
  · have yp : y ≠ p := fun e => hpA (e ▸ yA)
    have yq : y ≠ q := fun e => hqA (e ▸ yA)
    have := hA y yA
    by_cases xA : x ∈ A
    · simp [yA, xA, yp, yq]
    · simp only [yA, xA, yp, yq, if_true, if_false, false_and, false_or, not_false_eq_true, true_and]
      by_cases h1 : x = q
      · by_cases h2 : x = p
        · exact absurd (h2.symm.trans h1) hpq
        · rw [if_pos h1, if_neg h2, if_pos h1]
          omega
      · rw [if_neg h1, if_neg h1]
        by_cases h2 : x = p
        · rw [if_pos h2, if_pos h2]
          omega
        · rw [if_neg h2, if_neg h2]
  · by_cases xA : x ∈ A
    · have := hA x xA
      have xp : x ≠ p := fun e => hpA (e ▸ xA)
      have xq : x ≠ q := fun e => hqA (e ▸ xA)
      simp only [yA, xA, xp, xq, if_true, if_false, and_false, false_or, not_false_eq_true, true_and]
      by_cases h1 : y = q
      · by_cases h2 : y = p
        · exact absurd (h2.symm.trans h1) hpq
        · rw [if_pos h1, if_neg h2, if_pos h1]
          omega
      · rw [if_neg h1, if_neg h1]
        by_cases h2 : y = p
        · rw [if_pos h2, if_pos h2]
          omega
        · rw [if_neg h2, if_neg h2]
    · simp only [yA, xA, if_false]
      by_cases yp : y = p
      · subst yp
        by_cases xq : x = q
        · subst xq
          have : ¬ x = y := hxy
          simp [hpq, hxy, Ne.symm hpq]
        · have xp : ¬ x = y := hxy
          simp [xq, xp, hpq]
          omega
      · by_cases yq : y = q
        · subst yq
          by_cases xp : x = p
          · subst xp
            simp [hpq, Ne.symm hpq]
          · have xq : ¬ x = y := hxy
            simp [xp, xq, yp]
            omega
        · by_cases xp : x = p
          · subst xp
            simp [yp, yq, hpq]
            omega
          · by_cases xq : x = q
            · subst xq
              simp [yp, yq, xp]
              omega
            · simp [yp, yq, xp, xq]

/-- what has been passed is just what stands the other way about -/
def Turned (l : List Int) (M : List (Int × Int)) : Prop := ∀ x y, x < y → x ∈ l → y ∈ l → ((x, y) ∈ M ↔ Ahead l y x)
theorem turned_start (n : Nat) : Turned (idl n) [] := by
  intro x y hxy hx hy
  have pos : ∀ z, z ∈ idl n → (idl n).idxOf z = z.toNat := by
    intro z hz
    have hb := mem_idl.mp hz
    have hl : z.toNat < (idl n).length := by rw [idl_len]; omega
    have e := (idl_nodup n).idxOf_getElem z.toNat hl
    have eg : (idl n)[z.toNat] = z := by
      have := idl_get (n := n) (i := z.toNat) (by omega)
      rw [List.getElem?_eq_getElem hl] at this
      have := Option.some.inj this
      omega
    rw [eg] at e
    exact e
  have h1 := mem_idl.mp hx
  have h2 := mem_idl.mp hy
  unfold Ahead
  rw [pos x hx, pos y hy]
  simp
  omega
theorem getD_of {l : List Int} {k : Nat} {a : Int} (h : l[k]? = some a) : l.getD k 0 = a := by rw [List.getD_eq_getElem?_getD, h]; rfl
theorem turned_step {l : List Int} {M : List (Int × Int)} {k : Nat} {a b : Int} (hn : l.Nodup) (ht : Turned l M) (ha : l[k]? = some a) (hb : l[k + 1]? = some b) (hab : a < b) : Turned (sw l k) (M ++ [(a, b)]) := by
  intro x y hxy hx hy
  have hx' := (sw_perm l k).mem_iff.mp hx
  have hy' := (sw_perm l k).mem_iff.mp hy
  rw [ahead_sw hn ha hb (by omega : x ≠ y), List.mem_append, ht x y hxy hx' hy', List.mem_singleton, Prod.mk.injEq]
  constructor
  · rintro (h | ⟨h1, h2⟩)
    · exact .inr ⟨fun e => by omega, h⟩
    · exact .inl ⟨h2, h1⟩
  · rintro (⟨h1, h2⟩ | ⟨_, h⟩)
    · exact .inr ⟨h2, h1⟩
    · exact .inl h
theorem adj {n : Nat} {l : List Int} {k : Int} (hl : l.length = n) (h : 0 ≤ k ∧ k + 1 < n) : ∃ a b, l[k.toNat]? = some a ∧ l[k.toNat + 1]? = some b :=
  ⟨_, _, List.getElem?_eq_getElem (by omega), List.getElem?_eq_getElem (by omega)⟩
/-- while the lesser one is always ahead: who has passed, and nobody twice -/
theorem turned_run {n : Nat} : ∀ (w : List Int) (l : List Int) (M : List (Int × Int)), l.Nodup → l.length = n → OkW n w → Turned l M → M.Nodup → (∀ p ∈ M, p.1 < p.2 ∧ p.1 ∈ l ∧ p.2 ∈ l) → Good l w →
    Turned (run l w) (M ++ met l w) ∧ (M ++ met l w).Nodup
  | [], l, M, _, _, _, ht, hm, _, _ => by simpa [met, run_nil] using ⟨ht, hm⟩
  | k :: w, l, M, hn, hl, hw, ht, hm, hM, hg => by
    obtain ⟨a, b, ha, hb⟩ := adj hl (hw k (by simp))
    have hab : a < b := by
      have := hg (l.getD k.toNat 0, l.getD (k.toNat + 1) 0) (by simp [met])
      rwa [getD_of ha, getD_of hb] at this
    have hal : a ∈ l := List.mem_of_getElem? ha
    have hbl : b ∈ l := List.mem_of_getElem? hb
    have new : (a, b) ∉ M := by
      intro h
      have := (ht a b hab hal hbl).mp h
      obtain ⟨A, p, q, R, rfl, e⟩ := split2 (List.getElem?_eq_some_iff.mp hb).1
      have e1 : p = a := by rw [← e] at ha; simpa using ha
      have e2 : q = b := by rw [← e] at hb; simpa [List.getElem?_append_right] using hb
      subst e1 e2
      unfold Ahead at this
      rw [idx_mid hn, idx_mid hn] at this
      have hpA : p ∉ A := fun m => (List.nodup_append.mp hn).2.2 p m p (by simp) rfl
      have hqA : q ∉ A := fun m => (List.nodup_append.mp hn).2.2 q m q (by simp) rfl
      have hpq : q ≠ p := by omega
      simp only [hpA, hqA, hpq, if_false, if_true] at this
      omega
    have hp := sw_perm l k.toNat
    have ih := turned_run w (sw l k.toNat) (M ++ [(a, b)]) (hp.nodup_iff.mpr hn) (by rw [sw_len, hl]) (fun x hx => hw x (by simp [hx])) (turned_step hn ht ha hb hab)
      (by rw [List.nodup_append]; exact ⟨hm, by simp, fun p hp q hq e => by rw [List.mem_singleton.mp hq] at e; exact new (e ▸ hp)⟩)
      (fun p hp' => by
        rcases List.mem_append.mp hp' with h | h
        · have := hM p h
          exact ⟨this.1, hp.mem_iff.mpr this.2.1, hp.mem_iff.mpr this.2.2⟩
        · rw [List.mem_singleton.mp h]
          exact ⟨hab, hp.mem_iff.mpr hal, hp.mem_iff.mpr hbl⟩)
      (fun p hp' => hg p (by simp [met, hp']))
    have e : M ++ met l (k :: w) = M ++ [(a, b)] ++ met (sw l k.toNat) w := by
      show M ++ ((l.getD k.toNat 0, l.getD (k.toNat + 1) 0) :: met (sw l k.toNat) w) = _
      rw [getD_of ha, getD_of hb, List.append_assoc]
      rfl
    rw [e, run_cons]
    exact ih
theorem good_nodup {n : Nat} {w : List Int} (hw : OkW n w) (hg : Good (idl n) w) : (met (idl n) w).Nodup := by
  have := (turned_run w (idl n) [] (idl_nodup n) (idl_len n) hw (turned_start n) (by simp) (fun p h => by cases h) hg).2
  simpa using this

/-! the told form is so -/
theorem met_move (A : List Int) (x : Int) : ∀ (m : Nat) (B R : List Int), B.length = m → met (A ++ (B ++ x :: R)) ((idl m).map fun j => ((A.length + m : Nat) : Int) - 1 - j) = B.reverse.map fun b => (b, x) := by
  intro m
  induction m with
  | zero =>
    intro B R hB
    have : B = [] := List.length_eq_zero_iff.mp hB
    subst this
    simp [idl, met]
  | succ m ih =>
    intro B R hB
    have hne : B ≠ [] := by intro e; subst e; simp at hB
    obtain ⟨C, b, rfl⟩ : ∃ C b, B = C ++ [b] := ⟨B.dropLast, B.getLast hne, (List.dropLast_concat_getLast hne).symm⟩
    have hC : C.length = m := by simpa using hB
    have e1 : (idl (m + 1)).map (fun j => ((A.length + (m + 1) : Nat) : Int) - 1 - j) = ((A.length + m : Nat) : Int) :: (idl m).map fun j => ((A.length + m : Nat) : Int) - 1 - j := by
      unfold idl
      rw [List.range_succ_eq_map]
      simp only [List.map_cons, List.map_map]
      congr 1
      · omega
      · apply List.map_congr_left
        intro i _
        simp only [Function.comp]
        omega
    have e2 : A ++ (C ++ [b] ++ x :: R) = (A ++ C) ++ b :: x :: R := by simp
    have e3 : ((A.length + m : Nat) : Int).toNat = (A ++ C).length := by rw [Int.toNat_natCast, List.length_append, hC]
    have g1 : ((A ++ C) ++ b :: x :: R).getD (A ++ C).length 0 = b := getD_of (by rw [List.getElem?_append_right (Nat.le_refl _), Nat.sub_self]; rfl)
    have g2 : ((A ++ C) ++ b :: x :: R).getD ((A ++ C).length + 1) 0 = x := getD_of (by rw [List.getElem?_append_right (by omega), show (A ++ C).length + 1 - (A ++ C).length = 1 by omega]; rfl)
    rw [e1, e2]
    show (_, _) :: met _ _ = _
    rw [e3, g1, g2, sw_at, List.append_assoc, ih C (b :: R) hC]
    simp
theorem formTo_good {n : Nat} {d : List Int} (h : Ord n d) : ∀ k : Nat, k + 1 ≤ n → Good (idl n) (formTo d k) := by
  intro k
  induction k with
  | zero =>
    intro _ p hp
    simp [formTo, met] at hp
  | succ k ih =>
    intro hk
    rw [formTo, good_append]
    refine ⟨ih (by omega), ?_⟩
    rw [formTo_run h k (by omega)]
    have hm : ((k : Int) + 1) ∈ d := h.mem.mpr ⟨by omega, by omega⟩
    obtain ⟨A, B, e, hi, hA, hB⟩ := split_at h.nodup hm
    have lowk : low d ((k : Int) + 1) = low A ((k : Int) + 1) ++ low B ((k : Int) + 1) := by
      rw [e]
      simp [low, List.filter_append, List.filter_cons]
    have hbeh : behind d ((k : Int) + 1) = low B ((k : Int) + 1) := by
      unfold behind
      rw [hi, e]
      simp [low, List.filter_cons]
    have hlen : (low A ((k : Int) + 1)).length + (low B ((k : Int) + 1)).length = k + 1 := by
      have := low_len h (k := k + 1) (by omega)
      have e4 : low d ((k + 1 : Nat) : Int) = low d ((k : Int) + 1) := by congr 1
      rw [e4, lowk, List.length_append] at this
      exact this
    have hr : ((List.range (n - (k + 1))).map fun i => ((k + 1 + i : Nat) : Int)) = ((k : Int) + 1) :: ((List.range (n - (k + 1 + 1))).map fun i => ((k + 1 + 1 + i : Nat) : Int)) := by
      obtain ⟨m, hm⟩ : ∃ m, n - (k + 1) = m + 1 := ⟨n - (k + 1) - 1, by omega⟩
      have hm2 : n - (k + 1 + 1) = m := by omega
      rw [hm, hm2, List.range_succ_eq_map]
      simp only [List.map_cons, List.map_map]
      congr 1
      apply List.map_congr_left
      intro i _
      simp only [Function.comp]
      omega
    have mv := met_move (low A ((k : Int) + 1)) ((k : Int) + 1) (low B ((k : Int) + 1)).length (low B ((k : Int) + 1)) ((List.range (n - (k + 1 + 1))).map fun i => ((k + 1 + 1 + i : Nat) : Int)) rfl
    have ew : (fun j : Int => (((low A ((k : Int) + 1)).length + (low B ((k : Int) + 1)).length : Nat) : Int) - 1 - j) = fun j => (k : Int) + 1 - 1 - j := by
      funext j
      rw [hlen]
      omega
    rw [ew] at mv
    intro p hp
    rw [lowk, hr, leads, hbeh, List.append_assoc, mv] at hp
    obtain ⟨b, hb, rfl⟩ := List.mem_map.mp hp
    exact of_decide_eq_true (List.mem_filter.mp (List.mem_reverse.mp hb)).2
theorem form_good {n : Nat} {d : List Int} (h : Ord n d) (hn : 1 ≤ n) : Good (idl n) (form n d) := formTo_good h (n - 1) (by omega)
end Lw
set_option Elab.async false
set_option maxRecDepth 100000
/-! Lists and tuples of ints at addresses: short readings. -/
namespace Lw
open PySem L2

/-- the def called x stands, and keeps its promise -/
def Has (P : Program) (w : World) (K : PySem.W.Frag) (mg : Str → Option Value) (base : Heap) (k : Nat) (x : Str) (ps : List Str) (sp : Sp) : Prop :=
  ∃ (f : Addr) (fd : FuncData), FnOk P w K mg base CX0 k f fd ps sp ∧ mg x = some (.ref f) ∧ PySem.W.keepIn K (.ref f) = true ∧ Binds K fd ps []
theorem ifF {b : Bool} {A B : Prop} (h : b = false) (hB : B) : if b = true then A else B := by subst h; exact iteF hB
theorem ifT {b : Bool} {A B : Prop} (h : b = true) (hA : A) : if b = true then A else B := by subst h; exact iteT hA
/-- the built-in names that the program leaves as they are -/
structure Bare (mg : Str → Option Value) : Prop where
  n_len : mg "len" = none
  n_list : mg "list" = none
  n_tuple : mg "tuple" = none
  n_range : mg "range" = none
  n_enumerate : mg "enumerate" = none
  n_isinstance : mg "isinstance" = none
  n_int : mg "int" = none
  n_bool : mg "bool" = none
  n_abs : mg "abs" = none
  n_repr : mg "repr" = none
  n_all : mg "all" = none
  n_min : mg "min" = none
  n_max : mg "max" = none
  n_sorted : mg "sorted" = none
  n_set : mg "set" = none
  n_sum : mg "sum" = none
  n_str : mg "str" = none
  n_dict : mg "dict" = none
/-- a tuple whose object is known: it has no dict of its own -/
def Tup (H : Hp) (a : Addr) (xs : List V) : Prop := ∃ o : Obj, H a = some (.frz o (.tup xs)) ∧ o.dict = none ∧ o.cls = .type "tuple"
theorem Tup.same {H H' : Hp} {a : Addr} {xs : List V} (h : Tup H a xs) (s : Same H H') : Tup H' a xs := by
  obtain ⟨o, e, r⟩ := h
  exact ⟨o, s _ _ e, r⟩
theorem Tup.sameX {H H' : Hp} {a p c : Addr} {N : Nat} {xs : List V} (h : Tup H a xs) (s : SameX p H H') (P : PenAt H p c N) : Tup H' a xs := by
  obtain ⟨o, e, r⟩ := h
  exact ⟨o, s _ _ e (P.ne e fun _ => nofun), r⟩
theorem Tup.t {K : PySem.W.Frag} {H : Hp} {a : Addr} {xs : List V} (h : Tup H a xs) : SqT K H a xs := by
  obtain ⟨o, e, _⟩ := h
  exact .inl (.inr ⟨o, e⟩)
theorem Tup.ty {K : PySem.W.Frag} {H : Hp} {a : Addr} {xs : List V} (h : Tup H a xs) : TyX K H (.ref a) (.type "tuple") := by
  obtain ⟨o, e, _⟩ := h
  exact .fTuple e
theorem Tup.ne {H : Hp} {a b : Addr} {xs : List V} {o : HO} (h : Tup H a xs) (e : H b = some o) (no : ∀ u v, o ≠ .frz u v) : a ≠ b := by
  obtain ⟨u, e', _⟩ := h
  intro z
  rw [z, e] at e'
  exact no _ _ (Option.some.inj e')
theorem Tup.neN {H : Hp} {a b : Addr} {xs : List V} (h : Tup H a xs) (e : H b = none) : a ≠ b := by
  obtain ⟨u, e', _⟩ := h
  exact ne_of_none e' e
/-- all but b as it was -/
theorem Tup.upd {H : Hp} {a b : Addr} {xs : List V} {o : HO} (h : Tup H a xs) (n : a ≠ b) : Tup (upd H b o) a xs := by
  obtain ⟨u, e, r⟩ := h
  exact ⟨u, by rw [upd_ne n]; exact e, r⟩
theorem dp_tupF {K : PySem.W.Frag} {H : Hp} {a : Addr} {ns : List Int} (h : Tup H a (ns.map V.int)) : Dp K H (.ref a) (.tuple (ns.map PyData.int)) := .tup h.t (dp_ints ns)
/-- a new one, or one that stood -/
abbrev GiveT (H : Hp) (xs : List V) (Q : VK) : Prop := ∀ r H', Same H H' → Tup H' r xs → Q (.ref r) H'
theorem laidT {X : Cx} {pins : List (Addr × Obj)} {σ : St} {H : Hp} {s : Shared} {xs : List V} {us : List Value} {t : Nat} (I : Inv X pins σ H s) (r : Vals xs us) (z : xs.length ≤ sizeLine) {Q : VK} (q : GiveT H xs Q) :
    EP X pins σ Q (.ref s.heap.objs.size) { s with heap := s.heap.push { cls := .type "tuple", data := .seq us.toArray }, toks := t } := by
  have fresh := I.hok.fresh (Nat.le_refl _)
  have look : (s.heap.push { cls := .type "tuple", data := .seq us.toArray }).get? s.heap.objs.size = some { cls := .type "tuple", data := .seq us.toArray } := Heap.get?_push_size _ rfl
  refine ⟨.ref s.heap.objs.size, _, I.laid (o := .frz { cls := .type "tuple", data := .seq us.toArray } (.tup xs)) (fun b u e => Heap.get?_push_of_some _ e) (Nat.le_refl _) ⟨look, z, us, r, _, look, rfl, _, rfl⟩, rfl, q _ _ (same_new fresh) ⟨_, upd_same, rfl, rfl⟩⟩
def tTupF (t : TA) : TE := fun σ H Q => t σ H fun xs H1 => xs.length ≤ sizeLine ∧ GiveT H1 xs Q
section
variable {X : Cx}
theorem pe_tupF {es : List Expr} {t : TA} {x1 : Nat} {pos : Pos} (h : PA X es t) : PE X (.Tuple es x1 pos) (tTupF t) := by
  refine ⟨fun pins s σ H Q I hq => ?_⟩
  exact wpAny_Tuple_spliced (thn (h.run pos pins s σ H _ I hq) fun us s1 ⟨xs, H1, I1, r, z, q⟩ => ⟨by rw [← r.length]; exact z, laidT (t := s1.toks) I1 r z q⟩)
def rTupleF (K : PySem.W.Frag) : List V → Hp → VK → Prop := fun xs H Q => ∃ p ys, xs = [.ref p] ∧ (SqL K H p ys ∨ Tup H p ys) ∧ GiveT H ys Q
theorem call_tupleF {K : PySem.W.Frag} (h : X.K = K) : CallR X (.type "tuple") (rTupleF K) := by
  subst h
  intro pins s σ H xs us Q I r h
  obtain ⟨p, ys, rfl, h, q⟩ := h
  obtain ⟨u, rfl, rx⟩ := vals1 r
  cases rx
  rcases h with hq | hq
  · obtain ⟨its, r', pl, hz⟩ := I.list hq
    refine call_tuple_list pl.isList (fun h' kp => ?_) (by simp only [List.size_toArray]; have := r'.length; omega)
    have q' : GiveT H ys Q := q
    exact laidT (s := { s with heap := h' }) (t := s.toks) (I.kept (t' := s.toks) kp) r' hz q'
  · obtain ⟨its, r', pl, hz⟩ := I.tuple (hq.t (K := X.K))
    exact call_tuple_same pl ⟨.ref p, H, I, rfl, q p H (Same.refl _) hq⟩
def rCatF : R2 := fun x y H Q => ∃ a b xs ys, x = .ref a ∧ y = .ref b ∧ Tup H a xs ∧ Tup H b ys ∧ xs.length + ys.length ≤ sizeLine ∧ GiveT H (xs ++ ys) Q
theorem op_catF : OpR X (binaryOp .Add) rCatF := by
  intro pins s σ H x y v u Q I rx ry h
  obtain ⟨a, b, xs, ys, rfl, rfl, ha, hb, hz, q⟩ := h
  cases rx
  cases ry
  obtain ⟨its, r1, p1, _⟩ := I.tuple (ha.t (K := X.K))
  obtain ⟨its2, r2, p2, _⟩ := I.tuple (hb.t (K := X.K))
  by_cases hx : xs = []
  · subst hx
    cases r1
    exact cat_tup0 p1 p2 ⟨.ref b, H, I, rfl, q b H (Same.refl _) hb⟩
  · refine HT.cat_tup p1 p2 (fun z => hx (r1.nil_iff.mp z)) (fun z => ⟨.ref a, H, I, rfl, q a H (Same.refl _) ?_⟩) (fun z => ?_) (by rw [← r1.length, ← r2.length]; exact hz)
    · rw [r2.nil_iff.mp z, List.append_nil]
      exact ha
    · exact laidT (t := s.toks) I (r1.append r2) (by rw [List.length_append]; exact hz) q
theorem cutV_whole {xs : List V} {lo hi : Option Int} (h : HT.sIx xs.length 0 lo = 0 ∧ HT.sIx xs.length xs.length hi = xs.length) : cutV xs lo hi = xs := by
  unfold cutV
  rw [h.1, h.2, Nat.sub_zero, List.drop_zero]
  exact List.take_of_length_le (Nat.le_refl _)
def rSlF : V → Option Int → Option Int → Hp → VK → Prop := fun x lo hi H Q => ∃ a xs, x = .ref a ∧ Tup H a xs ∧ GiveT H (cutV xs lo hi) Q
theorem sl_tupF : SlR X rSlF := by
  intro pins s σ H x v vl vu lo hi sl Q I rx hs pl pu h
  obtain ⟨a, xs, rfl, hx, q⟩ := h
  cases rx
  obtain ⟨its, r, ht, hz⟩ := I.tuple (hx.t (K := X.K))
  have hlen : its.toArray.size = xs.length := by rw [List.size_toArray]; exact r.length.symm
  refine ⟨"tuple", _, PyProof.Rows.slot_tuple_getitem.lookup, ht.typeIs, ?_⟩
  by_cases hw : HT.sIx xs.length 0 lo = 0 ∧ HT.sIx xs.length xs.length hi = xs.length
  · exact getItem_tuple_whole ht hs pl pu (by rw [hlen]; exact hw) ⟨.ref a, H, I, rfl, q a H (Same.refl _) (by rw [cutV_whole hw]; exact hx)⟩
  · refine HT.getItem_tuple_cut ht hs pl pu (by rw [hlen]; exact hw) ?_ (by rw [hlen]; exact hz)
    rw [hlen]
    exact laidT (t := s.toks) I ((r.drop (HT.sIx xs.length 0 lo)).take (HT.sIx xs.length xs.length hi - HT.sIx xs.length 0 lo)) (Nat.le_trans (cutV_length xs lo hi) hz) q
def tTupRgF (te : St → Hp → (Int → Int → Hp → Prop) → Prop) : TE := fun σ H Q => te σ H fun a b H1 => RgOk a b ∧ GiveT H1 (rgV a b) Q
theorem pe_tupRgF {e : Expr} {te : St → Hp → (Int → Int → Hp → Prop) → Prop} {p pos : Pos} (hc : X.calm = true) (hg : Gl X "tuple") (hm : X.mg "tuple" = none) (he : PRg X e te)
    (na : starEach [e] X.env = (false, eval e X.env) :: starEach [] X.env := by rfl) : PE X (.Call (.Name "tuple" p) [e] [] pos) (tTupRgF te) := by
  refine ⟨fun pins s σ H Q I h => ?_⟩
  refine PyProof.Rows.Call_ (ld_blt I hg hm PyProof.Rows.boot_tuple (PyProof.Rows.callWith_type1 (PyProof.Rows.args_cons (thn (he pins s σ H _ I h) fun x s1 ⟨r, a, b, t, u, v, H1, ex, hr, I1, ok, q⟩ => PyProof.Rows.args_nil ?_) na) na))
  subst ex
  obtain ⟨b1, b2, b3, b4, b5⟩ := ok
  refine call_tuple_range (n := (b - a).toNat) (I1.ok.hd hc) hr (small_one b1 b2 b3 b4) (PyProof.Rows.rangeSize_nat a b) b5 fun h' tk acc hk hi => ?_
  have fin := laidT (s := { s1 with heap := h', toks := tk }) (t := tk) (us := acc.toList) (I1.kept hk) (vals_rg hi) (by rw [rgV_length, sizeLine_eq]; omega) q
  rw [Array.toArray_toList] at fin
  exact fin
/-! methods of such a tuple -/
def tBMT (r : V → List V → Hp → VK → Prop) (to : TE) (t : TA) : TE := fun σ H Q => to σ H fun x H1 => (∃ a xs, x = .ref a ∧ Tup H1 a xs) ∧ t σ H1 fun xs H2 => r x xs H2 Q
theorem pe_bmT {o e : Expr} {es : List Expr} {to : TE} {t : TA} {name : Str} {apos cpos : Pos} {id : String} {r : V → List V → Hp → VK → Prop} (slot : Slot "tuple" name id) (hty : typeOf (.builtin id) = pure (.type "method_descriptor")) (hm : MtR X id r) (ho : PE X o to) (ha : PA X (e :: es) t)
    (hbase : attributeBase o name X.env (eval o X.env) = eval o X.env := by rfl)
    (hfew : ((backTo cpos (starEach (e :: es) X.env)).all (fun x => !x.1) && (backToKw cpos (keywordEach [] X.env)).all (fun x => x.1.isSome)
      && decide ((e :: es).length + ([] : List Keyword).length + (if ([] : List Keyword).isEmpty then 0 else 1) < 30)) = true := by rfl)
    (hline : (apos.endLine == cpos.line) = true := by rfl) (hs : starEach (e :: es) X.env = (false, eval e X.env) :: starEach es X.env := by rfl) (hplain : (backTo cpos (starEach es X.env)).any (·.1) = false := by rfl) :
    PE X (.Call (.Attribute o name apos) (e :: es) [] cpos) (tBMT r to t) := by
  refine ⟨fun pins s σ H Q I h => ?_⟩
  refine wpAny_Call_method_late hbase hfew hline rfl (thn (ho.run pins s σ H _ I h) fun v s1 ⟨x, H1, I1, r1, ⟨a, ys, ex, hT⟩, q1⟩ => ?_)
  subst ex
  cases r1
  obtain ⟨ob, eo, hd, hc⟩ := hT
  have here : s1.heap.get? a = some ob := (show ObjOk X.prog X.w H1 s1.heap a (.frz ob (.tup ys)) from I1.hok a _ eo).1
  refine ⟨"tuple", id, PySem.F.plainAttrs_tuple, slot, hty, ⟨ob, here, hc⟩, fun b z => ?_, ?_⟩
  · cases z
    exact ⟨ob, here, hd⟩
  · have hA := ha.run cpos pins s1 σ H1 _ I1 q1
    rw [hs] at hA ⊢
    refine Calls.callWith_builtin ?_ (Calls.evalArgs_plain ?_)
    · show (false || (backTo cpos (starEach es X.env)).any (·.1)) = false
      rw [hplain]
      rfl
    · exact thn hA fun us s2 ⟨vs, H2, I2, r2, q2⟩ => hm pins s2 σ H2 (.ref a) vs (.ref a) us Q I2 rfl r2 q2
end

/-- a list or a tuple of xs, tracked -/
def Sq (H : Hp) (a : Addr) (xs : List V) : Prop := H a = some (.lst xs) ∨ Tup H a xs
theorem Sq.same {H H' : Hp} {a : Addr} {xs : List V} (h : Sq H a xs) (s : Same H H') : Sq H' a xs := h.imp (s _ _) fun t => t.same s
theorem Sq.sameX {H H' : Hp} {a p c : Addr} {N : Nat} {xs : List V} (h : Sq H a xs) (s : SameX p H H') (P : PenAt H p c N) : Sq H' a xs := h.imp (s.lst P) fun t => t.sameX s P
theorem Sq.lt {K : PySem.W.Frag} {H : Hp} {a : Addr} {xs : List V} (h : Sq H a xs) : SqL K H a xs ∨ SqT K H a xs := h.imp SqL.of fun t => t.t
theorem Sq.lf {K : PySem.W.Frag} {H : Hp} {a : Addr} {xs : List V} (h : Sq H a xs) : SqL K H a xs ∨ Tup H a xs := h.imp SqL.of id
theorem Sq.ty {K : PySem.W.Frag} {H : Hp} {a : Addr} {xs : List V} (h : Sq H a xs) : TyX K H (.ref a) (.type "list") ∨ TyX K H (.ref a) (.type "tuple") := h.imp (fun e => .base (.lst e)) fun t => t.ty
theorem sl_seqF {X : Cx} {K : PySem.W.Frag} (h : X.K = K) : SlR X (fun x lo hi H Q => rSlL K x lo hi H Q ∨ rSlF x lo hi H Q) := by
  subst h
  exact sl_list.or sl_tupF
/-- a slice of either: a list or a tuple again -/
theorem sl_by {K : PySem.W.Frag} {a : Addr} {xs : List V} {lo hi : Option Int} {H : Hp} {Q : VK} (h : Sq H a xs) (k : ∀ r H', Same H H' → Sq H' r (cutV xs lo hi) → Q (.ref r) H') : rSlL K (.ref a) lo hi H Q ∨ rSlF (.ref a) lo hi H Q := by
  rcases h with h | h
  · exact .inl ⟨a, xs, rfl, SqL.of h, fun p np => k p _ (same_new np) (.inl upd_same)⟩
  · exact .inr ⟨a, xs, rfl, h, fun r H' s t => k r H' s (.inr t)⟩
theorem sIx_nat' (n d k : Nat) (h : k ≤ n) : HT.sIx n d (some (k : Int)) = k := by rw [HT.sIx_nat]; omega
theorem cut_to {ns : List Int} {k : Nat} (h : k ≤ ns.length) : cutV (ns.map V.int) none (some (k : Int)) = (ns.take k).map V.int := by
  unfold cutV
  rw [sIx_nat' _ _ _ (by rw [List.length_map]; exact h), HT.sIx_none, Nat.sub_zero, List.drop_zero, List.map_take]
theorem cut_from {ns : List Int} {k : Nat} (h : k ≤ ns.length) : cutV (ns.map V.int) (some (k : Int)) none = (ns.drop k).map V.int := by
  unfold cutV
  rw [sIx_nat' _ _ _ (by rw [List.length_map]; exact h), HT.sIx_none, List.map_drop]
  exact List.take_of_length_le (by simp)
theorem rg_idl (n : Nat) : rgV 0 (n : Int) = (idl n).map V.int := by
  unfold rgV idl
  rw [List.map_map]
  have : ((n : Int) - 0).toNat = n := by omega
  rw [this]
  apply List.map_congr_left
  intro i _
  simp
theorem at_int' {ns : List Int} {i : Nat} {z : Int} (h : ns[i]? = some z) : atI (ns.map V.int) (i : Int) = some (.int z) := atI_nat (by rw [List.getElem?_map, h]; rfl)
theorem map_get {ns : List Int} {i : Nat} {v : V} (h : (ns.map V.int)[i]? = some v) : ∃ z, ns[i]? = some z ∧ v = .int z := by
  rw [List.getElem?_map] at h
  cases e : ns[i]? with
  | none => rw [e] at h; cases h
  | some z => rw [e] at h; exact ⟨z, rfl, (Option.some.inj h).symm⟩
theorem flat_ints (ns : List Int) : (ns.map V.int).all flatV = true := by
  rw [List.all_map]
  exact List.all_eq_true.mpr fun _ _ => rfl
theorem inV_int (z : Int) (ns : List Int) : inV (.int z) (ns.map V.int) = decide (z ∈ ns) := by
  unfold inV
  rw [List.any_map]
  induction ns with
  | nil => simp
  | cons n ns ih =>
    have e : eqV (V.int n) (V.int z) = decide (z = n) := by
      simp only [eqV]
      by_cases h : n = z
      · subst h; simp
      · have h' : ¬ z = n := fun q => h q.symm
        simp [h, h']
    rw [List.any_cons, ih]
    simp only [Function.comp, e, List.mem_cons, Bool.decide_or]
theorem small_line {n : Nat} (h : n ≤ 10000) : n ≤ sizeLine := Nat.le_trans h (by decide)
theorem small_lt {n : Nat} (h : n ≤ 10000) : n < sizeLine := Nat.lt_of_le_of_lt h (by decide)

/-! enumerate over either -/
/-- what a for asks of the iterator -/
abbrev ForGo (g : TG) (tb : TS) (D : Ends) (σ : St) (J : It) (H1 : Hp) : Prop := ∃ W : Nat → Nat → St → Hp → Prop, (∃ m, W 0 m σ H1) ∧ ∀ i m σ H, W i m σ H →
  (J.stop i H ∧ D.nx σ H) ∨ (J.go i H ∧ ∃ N : St → Hp → Prop, (∀ σ' H', N σ' H' → ∃ m', m' < m ∧ W (i + 1) m' σ' H') ∧ ∀ x H', J.yld i H x H' → g x σ H' fun σ2 H2 => tb { D with nx := N, ct := N, bk := D.nx } σ2 H2)
theorem enum_go {K : PySem.W.Frag} {a : Addr} {xs : List V} {H0 H : Hp} (hq : Sq H0 a xs) {g : TG} {tb : TS} {D : Ends} {σ : St} (Pv : Nat → St → Hp → Prop) (h0 : Pv 0 σ H) (hG : ∀ i σ H, i ≤ xs.length → Pv i σ H → Same H0 H)
    (hs : ∀ i x σ H T, xs[i]? = some x → Pv i σ H → H T = none → g (.ref T) σ (upd H T (.tup [.int (i : Nat), x])) fun σ2 H2 => tb { D with nx := Pv (i + 1), ct := Pv (i + 1), bk := D.nx } σ2 H2) (hd : ∀ σ H, Pv xs.length σ H → D.nx σ H) :
    ∃ a' xs', [V.ref a] = [V.ref a'] ∧ ((SqL K H a' xs' ∧ ForGo g tb D σ (Ite K a') H) ∨ (SqT K H a' xs' ∧ ForGo g tb D σ (IteT K a') H)) := by
  have step : ∀ i x σ H H', i < xs.length → Pv i σ H → YPair (fun i => some (.int (i : Nat))) (fun i => xs[i]?) i H x H' → g x σ H' fun σ2 H2 => tb { D with nx := Pv (i + 1), ct := Pv (i + 1), bk := D.nx } σ2 H2 := by
    rintro i x σ H H' _ p ⟨T, y, z, rfl, nT, rfl, e1, e2⟩
    have e1' : V.int (i : Nat) = y := Option.some.inj e1
    subst e1'
    exact hs i z σ H T e2 p nT
  have hH := hG 0 σ H (Nat.zero_le _) h0
  rcases hq with q | q
  · exact ⟨a, xs, rfl, .inl ⟨SqL.of (hH _ _ q), for_it walk_enumL Pv h0 (fun i σ H l p => SqL.of (hG i σ H l p _ _ q)) step hd⟩⟩
  · exact ⟨a, xs, rfl, .inr ⟨(q.same hH).t, for_it walk_enumT Pv h0 (fun i σ H l p => (q.same (hG i σ H l p)).t) step hd⟩⟩

/-! t.index(n), the first place -/
def rTupIx (K : PySem.W.Frag) : V → List V → Hp → VK → Prop := fun x xs H Q => ∃ (p : Addr) (ys : List Int) (z : Int) (j : Nat), x = .ref p ∧ xs = [.int z] ∧ SqT K H p (ys.map V.int) ∧ ys[j]? = some z ∧ (∀ m, m < j → ys[m]? ≠ some z) ∧ Q (.int (j : Nat)) H
theorem mt_tupIndexI {X : Cx} : MtR X "tuple.index" (rTupIx X.K) := by
  intro pins s σ H x xs v us Q I rx rs h
  obtain ⟨p, ys, z, j, rfl, rfl, hq, hy, hno, q⟩ := h
  cases rx
  obtain ⟨u, rfl, t, rfl⟩ := vals1 rs
  obtain ⟨its, r, pl, hz⟩ := I.tuple hq
  obtain ⟨⟨cls, dd, dt, sl⟩, ho, hc, n, hd⟩ := pl
  simp only at hc hd
  subst hc
  subst hd
  have hl : its.toArray.size = ys.length := by
    rw [List.size_toArray, ← r.length, List.length_map]
  have hj : j < its.toArray.size := by
    rw [hl]
    exact (List.getElem?_eq_some_iff.mp hy).1
  have item : ∀ (m : Nat) (hm : m < its.toArray.size), ∃ y t', ys[m]? = some y ∧ its.toArray[m] = Value.int y t' := fun m hm => by
    have hm' : m < ys.length := hl ▸ hm
    obtain ⟨w, hw, t', hw'⟩ := r.get (i := m) (x := .int ys[m]) (by simp [hm'])
    have e := (List.getElem?_eq_some_iff.mp hw).2
    exact ⟨ys[m], t', List.getElem?_eq_getElem hm', by rw [← hw', ← e]; simp⟩
  have eqi : ∀ (y : Int) (t' : Tok), eqU (.int z) (Value.int y t') = decide (y = z) := fun y t' => by
    have e := eqU_of (x := .int z) (y := .int y) (u := Value.int y t') ⟨t', rfl⟩ rfl
    rw [e]
    simp only [eqV]
    by_cases h : y = z <;> simp [h]
  refine call_meets PySem.F.slot_tuple_index ⟨_, ho, rfl⟩ PySem.F.entry_tuple_index (PySem.F.args_tuple_index_2 _ _)
    (TI.tuple_indexAt p its.toArray n dd sl (.int z t) (eqU (.int z)) j hj ?_ fun m hm hmj => ?_) ⟨ho, fun w hw => mem_eqAt (x := .int z) ⟨t, rfl⟩ rfl r (flat_ints ys) w (by simpa using hw), ⟨.int (j : Nat), H, I.tok _, ⟨_, rfl⟩, q⟩⟩
  · obtain ⟨y, t', h1, h2⟩ := item j hj
    rw [hy] at h1
    cases h1
    rw [h2, eqi]
    exact decide_eq_true rfl
  · obtain ⟨y, t', h1, h2⟩ := item m hm
    rw [h2, eqi]
    exact decide_eq_false fun e => hno m hmj (e ▸ h1)

/-! the same rules, the written part given: for a comprehension's block -/
section
variable {X : Cx} {K : PySem.W.Frag}
theorem ix_listK (h : X.K = K) : IxR X (rIxL K) := h ▸ ix_list
theorem ix_tupK (h : X.K = K) : IxR X (rIxT K) := h ▸ ix_tup
theorem ix_seqK (h : X.K = K) : IxR X (rIx K) := h ▸ ix_seq
theorem op_inK (h : X.K = K) : OpR X (compareOp .In) (rIn K false) := h ▸ op_in_seq
theorem op_notInK (h : X.K = K) : OpR X (compareOp .NotIn) (rIn K true) := h ▸ op_notIn_seq
theorem op_eqDK (h : X.K = K) (hu : X.A.units + 64 < cLine) : OpR X (compareOp .Eq) (rEqD K) := h ▸ op_eqD hu
theorem op_neDK (h : X.K = K) (hu : X.A.units + 64 < cLine) : OpR X (compareOp .NotEq) (rNeD K) := h ▸ op_neD hu
theorem sl_listK (h : X.K = K) : SlR X (rSlL K) := h ▸ sl_list
theorem mt_tupIndexK (h : X.K = K) : MtR X "tuple.index" (rTupIx K) := h ▸ mt_tupIndexI
def rLenK (K : PySem.W.Frag) : List V → Hp → VK → Prop := fun xs H Q => ∃ p ys, xs = [.ref p] ∧ (SqL K H p ys ∨ SqT K H p ys) ∧ Q (.int ys.length) H
theorem call_lenK (h : X.K = K) : CallR X (.builtin "len") (rLenK K) := by subst h; exact call_len_seq
def rListK (K : PySem.W.Frag) : List V → Hp → VK → Prop := fun xs H Q => ∃ p ys, xs = [.ref p] ∧ (SqL K H p ys ∨ SqT K H p ys) ∧ ∀ l, H l = none → Q (.ref l) (upd H l (.lst ys))
theorem call_listK (h : X.K = K) : CallR X (.type "list") (rListK K) := by subst h; exact call_list_of
theorem call_isiK' (h : X.K = K) : CallR X (.builtin "isinstance") (rIsi K) := h ▸ call_isi
theorem call_isiTK (h : X.K = K) : CallR X (.builtin "isinstance") (rIsiT K) := h ▸ call_isiT
theorem call_reprK (h : X.K = K) (hg : X.A.guards = some []) (hu : X.A.units + 64 < cLine) : CallR X (.builtin "repr") (rRepr K) := h ▸ call_repr hg hu
theorem pe_bmK {T : String} {r : V → List V → Hp → VK → Prop} {o e : Expr} {es : List Expr} {to : TE} {t : TA} {apos cpos : Pos} {nm : Str} (h : X.K = K)
    (g : PE X (.Call (.Attribute o nm apos) (e :: es) [] cpos) (tBM X.K T r to t)) : PE X (.Call (.Attribute o nm apos) (e :: es) [] cpos) (tBM K T r to t) := h ▸ g
theorem pe_bm0K {T : String} {r : V → List V → Hp → VK → Prop} {o : Expr} {to : TE} {apos cpos : Pos} {nm : Str} (h : X.K = K)
    (g : PE X (.Call (.Attribute o nm apos) [] [] cpos) (tBM0 X.K T r to)) : PE X (.Call (.Attribute o nm apos) [] [] cpos) (tBM0 K T r to) := h ▸ g
end
end Lw
set_option Elab.async false
set_option maxRecDepth 100000
/-! t[::-1] of a tuple. -/
namespace Lw
open PySem PySem.Spec PyProof.Rows L2

theorem places_rev (n : Nat) : Builtin.Slice.slicePlaces ((n : Int) - 1) (-1) (-1) = n := by
  unfold Builtin.Slice.slicePlaces
  have h : ¬ ((-1 : Int) > 0) := by omega
  simp only [h, if_false]
  split
  · have e : ((n : Int) - 1 - -1 - 1) / - -1 = (n : Int) - 1 := by
      have : - -1 = (1 : Int) := rfl
      rw [this, Int.ediv_one]
      omega
    rw [e]
    omega
  · omega
theorem fm_congr {α β : Type} {f g : α → Option β} : ∀ {l : List α}, (∀ x ∈ l, f x = g x) → l.filterMap f = l.filterMap g
  | [], _ => rfl
  | a :: l, h => by
    rw [List.filterMap_cons, List.filterMap_cons, h a (by simp), fm_congr fun x hx => h x (by simp [hx])]
theorem pick_rev (xs : Array Value) : ((List.range xs.size).filterMap fun (m : Nat) => xs[((xs.size : Int) - 1 + (m : Int) * -1).toNat]?) = xs.toList.reverse := by
  have e : ((List.range xs.size).filterMap fun (m : Nat) => xs[((xs.size : Int) - 1 + (m : Int) * -1).toNat]?) = ((List.range xs.size).map fun k => xs.size - 1 - k).filterMap (xs[·]?) := by
    rw [List.filterMap_map]
    refine fm_congr fun m hm => ?_
    have := List.mem_range.mp hm
    have e2 : ((xs.size : Int) - 1 + (m : Int) * -1).toNat = xs.size - 1 - m := by omega
    simp only [Function.comp, e2]
  rw [e, PySem.W.krv_range, List.filterMap_reverse, PySem.W.krv_all]
section
variable {prog : Program} {w : World} {A : Around} {E : Value → Shared → Prop} {s : Shared}
theorem applied_rev {sl : Addr} {vl vu vs : Value} {n : Nat} {Q : Int × Int × Nat → Shared → Prop} (hs : s.heap.IsSliceOf sl vl vu vs) (pl : IsPart vl none) (pu : IsPart vu none) (ps : IsPart vs (some (-1)))
    (h : Q ((n : Int) - 1, -1, n) s) : wpAny (model prog w) A (Builtin.Slice.sliceApplied (.ref sl) (pure (n : Int))) Q E s := by
  obtain ⟨os, hos, hcs, hds⟩ := id hs
  unfold Builtin.Slice.sliceApplied Builtin.Slice.sliceFields
  refine wpAny_bind (wpAny_bind (wpAny_field hos hds (x := vl) rfl (wpAny_bind (wpAny_field hos hds (x := vu) rfl (wpAny_bind (wpAny_field hos hds (x := vs) rfl (wpAny_pure ?_)))))))
  refine wpAny_bind (HT.slicePart_ ps ?_)
  show wpAny _ _ (if ((-1 : Int) == 0) = true then _ else _) _ _ s
  rw [if_neg (by decide)]
  refine wpAny_bind (HT.slicePart_ pl (wpAny_bind (HT.slicePart_ pu (wpAny_bind (wpAny_pure ?_)))))
  show wpAny _ _ (pure ((n : Int) - 1, (-1 : Int), Builtin.Slice.slicePlaces ((n : Int) - 1) (-1) (-1))) _ _ s
  rw [places_rev]
  exact wpAny_pure h
theorem getItem_rev {t sl : Addr} {items : Array Value} {vl vu vs : Value} {Q : Value → Shared → Prop} (ht : IsTup s.heap t items) (hs : s.heap.IsSliceOf sl vl vu vs) (pl : IsPart vl none) (pu : IsPart vu none) (ps : IsPart vs (some (-1)))
    (h : Q (.ref s.heap.objs.size) { s with heap := s.heap.push { cls := .type "tuple", data := .seq items.toList.reverse.toArray } }) (hsz : items.size ≤ sizeLine) : wpAny (model prog w) A (getItem (.ref t) (.ref sl)) Q E s := by
  have fits : sizeOk (.seq items.toList.reverse.toArray) := by
    show items.toList.reverse.toArray.size ≤ sizeLine
    rw [List.size_toArray, List.length_reverse, Array.length_toList]
    exact hsz
  obtain ⟨os, hos, hcs, hds⟩ := id hs
  have isSl : s.TypeIs (.ref sl) "slice" := ⟨os, hos, hcs⟩
  unfold getItem
  try with_reducible refine wpAny_holding ?_
  first | refine wpAny_bind (wpAny_pure ?_) | skip
  refine wpAny_bind (wpAny_sequenceKey ht.typeIs (by decide) ?_)
  refine wpAny_bind (wpAny_callSpecial?_slot (name := Str.ofString "__getitem__") ht.typeIs slot_tuple_getitem
    (wpAny_call_entry slot_tuple_getitem ht.typeIs entry_tuple_getitem ?_ (args_tuple_getitem _ _)))
  show wpAny _ _ (Builtin.Tuple.tupleItemsOf (.ref t) >>= _) _ _ s
  refine wpAny_bind (tupleItemsOf_ ht ?_)
  refine wpAny_bind (wpAny_typeOf isSl ?_)
  rw [if_pos (by decide)]
  refine wpAny_bind (applied_rev hs pl pu ps ?_)
  have no : ¬ (((((items.size : Nat) : Int) - 1) == 0 && (-1 : Int) == 1 && items.size == items.size) = true) := by
    intro q
    rw [Bool.and_eq_true, Bool.and_eq_true] at q
    exact absurd q.1.2 (by decide)
  show wpAny _ _ (if ((((items.size : Nat) : Int) - 1) == 0 && (-1 : Int) == 1 && items.size == items.size) = true then _ else _) _ _ s
  rw [if_neg no, pick_rev]
  first
    | exact wpAny_bind (m := Builtin.Tuple.tupleExact _) (wpAny_newObj_type (wpAny_pure ⟨_, rfl, wpAny_pure h⟩) fits)
    | exact wpAny_bind (wpAny_bind (m := Builtin.Tuple.tupleExact _) (wpAny_newObj_type (wpAny_pure (wpAny_pure ⟨_, rfl, wpAny_pure h⟩)) fits))
    | exact wpAny_bind (wpAny_bind (m := Builtin.Tuple.tupleExact _) (wpAny_newObj_type (wpAny_pure ⟨_, rfl, wpAny_pure h⟩) fits))
end
def tRevT (te : TE) : TE := fun σ H Q => te σ H fun x H1 => ∃ a xs, x = .ref a ∧ Tup H1 a xs ∧ GiveT H1 xs.reverse Q
theorem pe_revT {X : Cx} {e : Expr} {te : TE} {k : Nat} {p1 p2 p3 pos : Pos} (he : PE X e te) : PE X (.Subscript e (.Slice none none (some (.UnaryOp .USub (.Constant (.int 1) k p1) p2)) p3) pos) (tRevT te) := by
  refine ⟨fun pins s σ H Q I h => Subscript_ (thn (he.run pins s σ H _ I h) fun v s1 ⟨x, H1, I1, r1, q1⟩ => ?_)⟩
  obtain ⟨a, xs, ex, hx, q⟩ := q1
  subst ex
  cases r1
  have hst : PO X (some (.UnaryOp .USub (.Constant (.int 1) k p1) p2)) (tPart (tUn (rU fun i => .int (-i)) (tC (.int 1)))) := po_some (pe_un un_neg pe_int)
  refine wpAny_Slice (thn (po_none.run pins s1 σ H1 (fun o H2 => o = none ∧ H2 = H1) I1 ⟨rfl, rfl⟩) fun vl s2 ⟨l, H2, I2, pl, el, e2⟩ => ?_)
  subst el e2
  refine thn (po_none.run pins s2 σ H2 (fun o H3 => o = none ∧ H3 = H2) I2 ⟨rfl, rfl⟩) fun vu s3 ⟨u, H3, I3, pu, eu, e3⟩ => ?_
  subst eu e3
  refine thn (hst.run pins s3 σ H3 (fun o H4 => o = some (-1) ∧ H4 = H3) I3 ⟨1, rfl, -1, rfl, rfl, rfl⟩) fun vs s4 ⟨o, H4, I4, ps, eo, e4⟩ => ?_
  subst eo e4
  have I5 : Inv X pins σ H4 { s4 with heap := s4.heap.push { cls := .type "slice", data := .fields #[vl, vu, vs] } } := I4.kept (t' := s4.toks) fun b ob q => Heap.get?_push_of_some _ q
  obtain ⟨its, r, ht, hz⟩ := I5.tuple (hx.t (K := X.K))
  have hlen := r.length
  refine tail_any (ops := [.ref a, .ref s4.heap.objs.size]) ht.typeIs slot_tuple_getitem.lookup ?_ (by with_unfolding_all rfl)
  refine getItem_rev ht (Heap.IsSliceOf.new _ vl vu vs) pl pu ps ?_ (by rw [List.size_toArray]; omega)
  exact laidT (t := s4.toks) I5 r.reverse (by rw [List.length_reverse]; exact hz) q
end Lw
set_option Elab.async false
set_option maxRecDepth 100000
/-! repr of lists and tuples of ints. -/
namespace Lw
open PySem L2
def Small (ns : List Int) : Prop := (∀ x ∈ ns, x.natAbs < 10 ^ 9) ∧ ns.length ≤ 10000
theorem shown_int (i : Int) (h : i.natAbs < 10 ^ 9) : (PyData.shown (.int i)).length ≤ 10 := by
  have := int_text_length_le10 (a := i) (k := 9) (by decide) h
  show (Str.ofString (toString i)).length ≤ 10
  rw [ofString_length]
  exact this
theorem shown_sum : ∀ ns : List Int, (∀ x ∈ ns, x.natAbs < 10 ^ 9) → ((PyData.shownAll (ns.map PyData.int)).map (·.length)).sum ≤ 10 * ns.length ∧ (PyData.shownAll (ns.map PyData.int)).length = ns.length
  | [], _ => by simp [PyData.shownAll]
  | n :: ns, h => by
    obtain ⟨h1, h2⟩ := shown_sum ns fun x hx => h x (by simp [hx])
    have h3 := shown_int n (h n (by simp))
    simp only [List.map_cons, PyData.shownAll, List.sum_cons, List.length_cons]
    omega
theorem showable_ints : ∀ ns : List Int, (∀ x ∈ ns, x.natAbs < 10 ^ 9) → PyData.showableAll (ns.map PyData.int) = true
  | [], _ => by simp [PyData.showableAll]
  | n :: ns, h => by
    have h1 := showable_ints ns fun x hx => h x (by simp [hx])
    have h2 : n.natAbs.log2 < 1920 := by
      have hn := h n (by simp)
      by_cases e : n.natAbs = 0
      · rw [e]; decide
      · have h30 : n.natAbs.log2 < 30 := (Nat.log2_lt e).mpr (Nat.lt_of_lt_of_le hn (by decide))
        omega
    simp only [List.map_cons, PyData.showableAll, PyData.showable, h1, Bool.and_true, decide_eq_true_eq]
    exact h2
theorem hasDict_ints : ∀ ns : List Int, PyData.hasDictAll (ns.map PyData.int) = false
  | [] => by simp [PyData.hasDictAll]
  | n :: ns => by simp [PyData.hasDictAll, PyData.hasDict, hasDict_ints ns]
theorem len_tup {ns : List Int} (h : Small ns) : (PyData.shown (.tuple (ns.map PyData.int))).length ≤ sizeLine := by
  obtain ⟨h1, h2⟩ := shown_sum ns h.1
  have h3 := tupleText_len_le (PyData.shownAll (ns.map PyData.int))
  have h4 := h.2
  simp only [PyData.shown]
  have : (200000 : Nat) ≤ sizeLine := by decide
  omega
theorem len_list {ns : List Int} (h : Small ns) : (PyData.shown (.list (ns.map PyData.int))).length ≤ sizeLine := by
  obtain ⟨h1, h2⟩ := shown_sum ns h.1
  have h3 := listText_len_le (PyData.shownAll (ns.map PyData.int))
  have h4 := h.2
  simp only [PyData.shown]
  have : (200000 : Nat) ≤ sizeLine := by decide
  omega
theorem repr_tup {K : PySem.W.Frag} {H : Hp} {a : Addr} {ns : List Int} {Q : VK} (h : Tup H a (ns.map V.int)) (sm : Small ns) (q : Q (.str (PyData.shown (.tuple (ns.map PyData.int)))) H) : rRepr K [.ref a] H Q :=
  ⟨a, _, rfl, dp_tupF h, by simpa only [PyData.showable] using showable_ints ns sm.1, by simpa only [PyData.hasDict] using hasDict_ints ns, by simp only [PyData.depth, depth_ints]; omega, len_tup sm, q⟩
theorem repr_list {K : PySem.W.Frag} {H : Hp} {a : Addr} {ns : List Int} {Q : VK} (h : H a = some (.lst (ns.map V.int))) (sm : Small ns) (q : Q (.str (PyData.shown (.list (ns.map PyData.int)))) H) : rRepr K [.ref a] H Q :=
  ⟨a, _, rfl, dp_list h, by simpa only [PyData.showable] using showable_ints ns sm.1, by simpa only [PyData.hasDict] using hasDict_ints ns, by simp only [PyData.depth, depth_ints]; omega, len_list sm, q⟩
/-- what repr asks of a tuple, a list of ints -/
theorem rpT {ns : List Int} (sm : Small ns) : (PyData.tuple (ns.map PyData.int)).showable = true ∧ (PyData.tuple (ns.map PyData.int)).hasDict = false ∧ (PyData.tuple (ns.map PyData.int)).depth ≤ 60 ∧ (PyData.tuple (ns.map PyData.int)).shown.length ≤ sizeLine :=
  ⟨by simpa only [PyData.showable] using showable_ints ns sm.1, by simpa only [PyData.hasDict] using hasDict_ints ns, by simp only [PyData.depth, depth_ints]; omega, len_tup sm⟩
theorem rpL {ns : List Int} (sm : Small ns) : (PyData.list (ns.map PyData.int)).showable = true ∧ (PyData.list (ns.map PyData.int)).hasDict = false ∧ (PyData.list (ns.map PyData.int)).depth ≤ 60 ∧ (PyData.list (ns.map PyData.int)).shown.length ≤ sizeLine :=
  ⟨by simpa only [PyData.showable] using showable_ints ns sm.1, by simpa only [PyData.hasDict] using hasDict_ints ns, by simp only [PyData.depth, depth_ints]; omega, len_list sm⟩
theorem small_ord {n : Nat} {p : List Int} (h : Ord n p) (h60 : n ≤ 60) : Small p := by
  refine ⟨fun x hx => ?_, by rw [h.len]; omega⟩
  have := h.mem.mp hx
  have e : (10 : Nat) ^ 9 = 1000000000 := by decide
  omega
theorem small_word {n : Nat} {ws : List Int} (h : OkW n ws) (h60 : n ≤ 60) (hl : ws.length ≤ 10000) : Small ws := by
  refine ⟨fun x hx => ?_, hl⟩
  have := h x hx
  have e : (10 : Nat) ^ 9 = 1000000000 := by decide
  omega
theorem eqv_refl_ints (ns : List Int) : (!PyData.eqv (.list (ns.map PyData.int)) (.list (ns.map PyData.int))) = false := by rw [eqv_list]; simp
theorem eqv_refl_tup (ns : List Int) : (!PyData.eqv (.tuple (ns.map PyData.int)) (.tuple (ns.map PyData.int))) = false := by rw [eqv_tup]; simp
theorem okw_append {n : Nat} {v w : List Int} (hv : OkW n v) (hw : OkW n w) : OkW n (v ++ w) := fun x hx => (List.mem_append.mp hx).elim (hv x) (hw x)
theorem okw_rev {n : Nat} {v : List Int} (hv : OkW n v) : OkW n v.reverse := fun x hx => hv x (List.mem_reverse.mp hx)
theorem ref_int {ls : List Addr} {ns : List Int} (h : ls.map V.ref = ns.map V.int) : ls = [] := by
  cases ls with
  | nil => rfl
  | cons x xs =>
    cases ns with
    | nil => cases h
    | cons y ys => cases h
theorem shaped_2 (u v : List Int) : SeqAt.shaped (.list [.list (u.map PyData.int), .list (v.map PyData.int)]) = true := by
  simp [SeqAt.shaped, PyData.canLay0, PyData.canLayAll0, lay_ints, PyData.depth, PyData.depthAll, depth_ints]
theorem eqv_2 (u v : List Int) : (!PyData.eqv (.list [.list (u.map PyData.int), .list (v.map PyData.int)]) (.list [.list (u.map PyData.int), .list (v.map PyData.int)])) = false := by
  simp [PyData.eqv, PyData.eqvAll, eqv_ints]

/-! ### lists of pairs of ints -/
abbrev PairT (H : Hp) (t : Addr) (p : Int × Int) : Prop := Tup H t [.int p.1, .int p.2]
def PairsAt (H : Hp) (M : Addr) (ps : List (Int × Int)) : Prop := ∃ ts : List Addr, H M = some (.lst (ts.map V.ref)) ∧ Paired (PairT H) ts ps
theorem PairsAt.same {H H' : Hp} {M : Addr} {ps : List (Int × Int)} (h : PairsAt H M ps) (s : Same H H') : PairsAt H' M ps := by
  obtain ⟨ts, h1, h2⟩ := h
  exact ⟨ts, s _ _ h1, L2.Paired.mapP h2 fun _ _ t => t.same s⟩
theorem PairsAt.upd {H : Hp} {M b : Addr} {ps : List (Int × Int)} {xs : List V} {o : HO} (h : PairsAt H M ps) (n : M ≠ b) (hb : H b = some (.lst xs)) : PairsAt (upd H b o) M ps := by
  obtain ⟨ts, h1, h2⟩ := h
  exact ⟨ts, by rw [upd_ne n]; exact h1, L2.Paired.mapP h2 fun _ _ t => t.upd (t.ne hb fun _ _ => nofun)⟩
theorem PairsAt.new {H : Hp} {M : Addr} (h : H M = some (.lst [])) : PairsAt H M [] := ⟨[], h, .nil⟩
theorem pairs_get {H : Hp} : ∀ {ts : List Addr} {ps : List (Int × Int)} {i : Nat} {v : V}, Paired (PairT H) ts ps → (ts.map V.ref)[i]? = some v → ∃ t p, v = .ref t ∧ ps[i]? = some p ∧ PairT H t p
  | _, _, _, _, .nil, h => by simp at h
  | _, _, 0, _, .cons r _, h => ⟨_, _, (Option.some.inj h).symm, rfl, r⟩
  | _, _, i + 1, _, .cons _ t, h => pairs_get (i := i) t h
theorem PairsAt.push {H : Hp} {M c : Addr} {ts : List Addr} {ps : List (Int × Int)} {p : Int × Int} (h1 : H M = some (.lst (ts.map V.ref))) (h2 : Paired (PairT H) ts ps) (hc : PairT H c p) :
    PairsAt (L2.upd H M (.lst (ts.map V.ref ++ [.ref c]))) M (ps ++ [p]) := by
  refine ⟨ts ++ [c], by rw [upd_same, List.map_append]; rfl, ?_⟩
  exact Paired.snoc (L2.Paired.mapP h2 fun _ _ t => t.upd (t.ne h1 fun _ _ => nofun)) (hc.upd (hc.ne h1 fun _ _ => nofun))
abbrev pD (p : Int × Int) : PyData := .tuple [.int p.1, .int p.2]
theorem dp_pair {K : PySem.W.Frag} {H : Hp} {t : Addr} {p : Int × Int} (h : PairT H t p) : Dp K H (.ref t) (pD p) := .tup h.t (.cons (.int _) (.cons (.int _) .nil))
theorem dp_pairs {K : PySem.W.Frag} {H : Hp} : ∀ {ts : List Addr} {ps : List (Int × Int)}, Paired (PairT H) ts ps → DpAll K H (ts.map V.ref) (ps.map pD)
  | _, _, .nil => .nil
  | _, _, .cons r t => .cons (dp_pair r) (dp_pairs t)
theorem PairsAt.dp {K : PySem.W.Frag} {H : Hp} {M : Addr} {ps : List (Int × Int)} (h : PairsAt H M ps) : Dp K H (.ref M) (.list (ps.map pD)) := by
  obtain ⟨ts, h1, h2⟩ := h
  exact .lst (SqL.of h1) (dp_pairs h2)
theorem pD_depth : ∀ ps : List (Int × Int), PyData.depthAll (ps.map pD) ≤ 1
  | [] => by simp [PyData.depthAll]
  | p :: ps => by
    have := pD_depth ps
    simp only [List.map_cons, PyData.depthAll, PyData.depth]
    omega
theorem pD_lay : ∀ ps : List (Int × Int), PyData.canLayAll0 (ps.map pD) = true
  | [] => by simp [PyData.canLayAll0]
  | p :: ps => by simp [PyData.canLayAll0, PyData.canLay0, pD_lay ps]
theorem shaped_pairs (ps : List (Int × Int)) : SeqAt.shaped (.list (ps.map pD)) = true := by
  have := pD_depth ps
  simp [SeqAt.shaped, PyData.canLay0, pD_lay, PyData.depth]
  omega
theorem shaped_pair (p : Int × Int) : SeqAt.shaped (pD p) = true := by
  simp [SeqAt.shaped, PyData.canLay0, PyData.canLayAll0, PyData.depth, PyData.depthAll]
theorem eqv_pD (p q : Int × Int) : PyData.eqv (pD p) (pD q) = decide (p = q) := by
  obtain ⟨a, b⟩ := p
  obtain ⟨c, d⟩ := q
  simp only [PyData.eqv, PyData.eqvAll, Bool.and_true, Prod.mk.injEq]
  by_cases h1 : a = c <;> by_cases h2 : b = d <;> simp [h1, h2]
theorem in_pairs (p : Int × Int) (ps : List (Int × Int)) : ((ps.map pD).any fun z => PyData.eqv z (pD p)) = decide (p ∈ ps) := by
  rw [List.any_map]
  induction ps with
  | nil => simp
  | cons q ps ih =>
    rw [List.any_cons, ih]
    simp only [Function.comp, eqv_pD, List.mem_cons, Bool.decide_or]
    by_cases h : q = p
    · subst h; simp
    · have h' : ¬ p = q := fun e => h e.symm
      simp [h, h']
theorem units65 {k : Nat} {A : Around} (r : Room k A) : A.units + 65 < cLine := by have := r.un; omega
section
variable {X : Cx} {K : PySem.W.Frag}
theorem op_inDK (h : X.K = K) (hu : X.A.units + 65 < cLine) : OpR X (compareOp .In) (rInD K) := h ▸ op_inD hu
theorem cr_allK (h : X.K = K) (hc : X.calm = true) : CallR X (.builtin "all") (rAll K) := h ▸ cr_all hc
theorem pg_tupK {es : List Expr} {k : Nat} {t : TGs} {n : Nat} {pos : Pos} (e : X.K = K) (hc : X.calm = true) (h : PGs X es t) (hn : (assignEach es X.env).length = n := by rfl)
    (hst : (assignEach es X.env).findIdx? (·.1) = none := by rfl) : PG X (.Tuple es k pos) (gTup K n t) := e ▸ pg_tup hc h hn hst
theorem pe_revLK {e : Expr} {te : TE} {k : Nat} {p1 p2 p3 pos : Pos} (h : X.K = K) (he : PE X e te) : PE X (.Subscript e (.Slice none none (some (.UnaryOp .USub (.Constant (.int 1) k p1) p2)) p3) pos) (tRevL K te) := h ▸ pe_revL he
end
/-- a slice in the middle -/
theorem cut_mid {ns : List Int} {i j : Nat} (h1 : i ≤ j) (h2 : j ≤ ns.length) : cutV (ns.map V.int) (some (i : Int)) (some (j : Int)) = ((ns.drop i).take (j - i)).map V.int := by
  unfold cutV
  rw [sIx_nat' _ _ i (by rw [List.length_map]; omega), sIx_nat' _ _ j (by rw [List.length_map]; exact h2), List.map_take, List.map_drop]
end Lw
set_option Elab.async false
set_option maxRecDepth 100000
/-! A set made of a list of texts, no two alike: how many there are. -/
namespace Lw
open PySem PySem.Spec PyProof.Rows
section
variable {prog : Program} {w : World} {A : Around} {E : Value → Shared → Prop} {s : Shared}
abbrev newSet (led : Bool) : Obj := { cls := .type "set", dict := none, data := .set #[] 0 (.fresh 0 0 led) }
abbrev twoNew (h : Heap) (led : Bool) (l : Addr) : Heap := (h.push (newSet led)).push { cls := .type "list_iterator", data := .fields #[.ref l, .int 0 0] }
section
variable {R : Result → Shared → Prop} {I : Addr} {fp wr : List Addr} {G : Array GenState → Array GenState → Prop} {n : Nat} {P : Nat → Value → Prop} {St : Nat → Shared → Prop}
/-- the first i of them are in -/
abbrev Held (prog : Program) (w : World) (S : Addr) (xs : List Str) (i : Nat) (s : Shared) : Prop := s.heap.SetOf (PySem.strKind prog w) S (fun k => decide (k ∈ xs.take i)) i
theorem Held.moved {S : Addr} {xs : List Str} {i : Nat} {s s' : Shared} (h : Held prog w S xs i s) (hm : Moved wr G s s') (n : S ∉ wr) : Held prog w S xs i s' := by
  obtain ⟨o, es, ep, t, ho, r⟩ := h
  exact ⟨o, es, ep, t, hm.heap S _ n ho, r⟩
theorem set_loop (W : WalksS prog w A.in1 I fp wr G n P St) {S : Addr} (hS : S ∉ fp) {xs : List Str} (hn : xs.Nodup) (hl : xs.length = n) (hb : n + 1 < scanBound) (hv : ∀ i v, P i v → ∃ t, v = .str (xs.getD i Str.empty) t) :
    ∀ (m i : Nat) (s : Shared), i + m = n → St i s → Held prog w S xs i s → (∀ s', Moved (S :: wr) G s s' → Held prog w S xs n s' → R (.ok (.ret .none)) s') →
      codeAny (model prog w) A (.builtin "set.update.loop" ⟨[.ref S, .ref I], []⟩) R s := by
  have nw : S ∉ wr := fun h => hS (W.sub _ h)
  have up : ∀ b ∈ wr, b ∈ S :: wr := fun b h => List.mem_cons_of_mem _ h
  intro m
  induction m with
  | zero =>
    intro i s e st hs q
    have : i = n := by omega
    subst this
    refine codeAny_builtin F.entry_set_update_loop ?_
    rw [Around.under_plainId F.plain_set_update_loop _]
    exact wpAny_bind (W.done s _ _ st fun s' hm => wpAny_pure (q s' (hm.mono up) (hs.moved hm nw)))
  | succ m ih =>
    intro i s e st hs q
    have lt : i < n := by omega
    refine codeAny_builtin F.entry_set_update_loop ?_
    rw [Around.under_plainId F.plain_set_update_loop _]
    refine wpAny_bind (W.item i s _ _ lt st fun v s' hP st' hm => ?_)
    obtain ⟨t, rfl⟩ := hv i v hP
    have hs' := hs.moved hm nw
    have hx : xs.getD i Str.empty = xs[i] := by rw [List.getD_eq_getElem?_getD, List.getElem?_eq_getElem (by omega)]; rfl
    have fresh : xs.getD i Str.empty ∉ xs.take i := by
      rw [hx]
      intro h
      obtain ⟨j, hj, ej⟩ := List.getElem_of_mem h
      rw [List.length_take] at hj
      rw [List.getElem_take] at ej
      exact List.pairwise_iff_getElem.mp hn j i (by omega) (by omega) (by omega) ej
    show wpAny _ A.in1 (holding [Value.str (xs.getD i Str.empty) t] (setAdd S (.str (xs.getD i Str.empty) t)) >>= _) _ _ s'
    refine wpAny_bind (wpAny_holding ?_)
    unfold setAdd
    refine wpAny_holding (wpAny_bind ((PySem.strKind prog w).pyHash (k := xs.getD i Str.empty) (strKind_is _ _ _ _) ?_))
    refine wpAny_setAddHashed_of (knd := PySem.strKind prog w) (s := { s' with toks := s'.toks + 1 }) (strKind_is _ _ _ _) rfl hs' (by omega) fun h' hsb h2 => ?_
    have step : h'.SetOf (PySem.strKind prog w) S (fun k => decide (k ∈ xs.take (i + 1))) (i + 1) := by
      refine SetOf_congr h2 (fun k => ?_) (by simp only [decide_eq_true_eq]; rw [if_neg fresh])
      have et : xs.take (i + 1) = xs.take i ++ [xs.getD i Str.empty] := by rw [List.take_add_one, List.getElem?_eq_getElem (by omega), hx]; rfl
      rw [et]
      by_cases e1 : k ∈ xs.take i <;> by_cases e2 : k = xs.getD i Str.empty <;> simp [e1, e2]
    refine wpAny_pure ⟨plainId_quiet F.plain_set_update_loop _, ih (i + 1) _ (by omega) (W.frame _ s' _ _ st' (Nat.le_succ _) fun b hb o eo => ?_) step fun s2 hm2 hs2 => q s2 (Moved.trans W.gtrans ((hm.mono up).then_heap (Nat.le_succ _) fun b o hb eo => ?_) hm2) hs2⟩
    · rw [hsb.2 b (fun h : b = S => hS (h ▸ hb))]
      exact eo
    · rw [hsb.2 b (fun h : b = S => hb (h ▸ List.mem_cons_self))]
      exact eo
end
set_option maxHeartbeats 4000000 in
/-- set(xs): down to the loop that fills it -/
theorem set_call {l : Addr} {items : Array Value} {Q : Value → Shared → Prop} {Post : Shared → Prop} (hh : A.handled = none) (hl : s.heap.IsList l items)
    (loop : ∀ (led : Bool) (B : Around) (tk : Nat), B.handled = none → codeAny (model prog w) B (.builtin "set.update.loop" ⟨[.ref s.heap.objs.size, .ref (s.heap.push (newSet led)).objs.size], []⟩) (fun r s' => r = .ok (.ret .none) ∧ Post s') { s with heap := twoNew s.heap led l, toks := tk })
    (fin : ∀ s', Post s' → Q (.ref s.heap.objs.size) s') : wpAny (model prog w) A (call (.type "set") [.ref l]) Q E s := by
  obtain ⟨c, tl, hmro⟩ := PySem.F.called_set.mro
  have hmade := PySem.F.called_set.made
  have hsub := PySem.F.called_set.sub
  have h1 := PySem.F.called_set.notType
  have h2 := PySem.F.called_set.canCreate
  have hct := PySem.F.typeCall_set_1 (.ref l)
  refine wpAny_call (codeAny_of_tree (wpAny_pure ⟨Code.quiet_builtin _ (by decide +kernel), codeAny_builtin PySem.F.entry_type_call ?_⟩))
  rw [Around.under_plain (weight_type_call_type "set" [.ref l] []) rfl]
  repeat (any_goals (first | assumption | wp_step))
  refine codeAny_mono (code_set_new_1 (.ref l) (E := E) (Q₁ := fun v t => ∃ led : Bool, v = .ref s.heap.objs.size ∧ t = { s with heap := s.heap.push (newSet led) }) fun led => ⟨led, rfl, rfl⟩) fun r t hr => ?_
  match r, hr with
  | .error e, hr => exact hr
  | .ok (.ret v), hr =>
    obtain ⟨led, rfl, rfl⟩ := hr
    have hS : (s.heap.push (newSet led)).get? s.heap.objs.size = some (newSet led) := Heap.get?_push_size _ rfl
    have hT : Shared.TypeIs { s with heap := s.heap.push (newSet led) } (.ref s.heap.objs.size) "set" := ⟨_, hS, rfl⟩
    have hli := PySem.F.called_set.init.lookup
    have hbi := PySem.F.called_set.init.bind (.ref s.heap.objs.size)
    repeat (any_goals (first | assumption | wp_step))
    refine codeAny_mono (codeAny_call_builtin (R := wants (fun r s₂ => r = .none ∧ Post s₂) E) PySem.F.called_set.init.plain PySem.F.entry_set_init (check_set_init_1 hT ?_)) fun r2 t2 hr2 => ?_
    · obtain ⟨⟨oc, od, ot, os⟩, ho, hc, n, hd⟩ := hl
      simp only at hc hd
      subst hc hd
      have ho' : (s.heap.push (newSet led)).get? l = some { cls := Value.type "list", dict := od, data := Data.seq items n, slots := os } := Heap.get?_push_of_some _ ho
      have hl1 : (s.heap.push (newSet led)).IsList l items := ⟨_, ho', rfl, n, rfl⟩
      have g1 := PySem.F.sub_list_set
      have g2 := PySem.F.sub_list_frozenset
      have g3 : (Value.type "list" == Value.type "dict") = false := by decide
      unfold Builtin.«set.__init__» noKeywords Builtin.Frozenset.updateFrom
      generalize hPI : pyIter = PI
      wp_walk
      subst hPI
      refine wpAny_pyIter_list hl1 (wpAny_bind (wpAny_runValue ?_))
      have hh3 : A.in1.in1.handled = none := by simp [hh]
      refine codeAny_mono (loop led _ _ hh3) fun r3 t3 hr3 => ?_
      obtain ⟨rfl, hp⟩ := hr3
      exact wpAny_pure (wpAny_pure ⟨rfl, hp⟩)
    · match r2, hr2 with
      | .error e, hr2 => exact hr2
      | .ok (.ret v2), hr2 =>
        obtain ⟨rfl, hp⟩ := hr2
        repeat (any_goals (first | assumption | wp_step))
        exact fin _ hp
      | .ok .next, hr2 => exact hr2.elim
      | .ok .brk, hr2 => exact hr2.elim
      | .ok .cont, hr2 => exact hr2.elim
theorem call_set_strs {l : Addr} {items : Array Value} {xs : List Str} {Q : Value → Shared → Prop} (hh : A.handled = none) (hl : s.heap.IsList l items) (hi : StrsAre items.toList xs) (hn : xs.Nodup) (hb : xs.length + 1 < scanBound)
    (h : ∀ (h' : Heap) (tk : Nat), h'.SetOf (PySem.strKind prog w) s.heap.objs.size (fun k => decide (k ∈ xs)) xs.length → (∀ b o, s.heap.get? b = some o → h'.get? b = some o) → Q (.ref s.heap.objs.size) { s with heap := h', toks := tk }) :
    wpAny (model prog w) A (call (.type "set") [.ref l]) Q E s := by
  have hsz : xs.length = items.size := by rw [← StrsAre.len_eq hi, Array.length_toList]
  have hlS : l < s.heap.objs.size := by
    obtain ⟨o, ho, _⟩ := hl
    exact Heap.lt_size ho
  refine set_call (Post := fun s' => ∃ h' tk, s' = { s with heap := h', toks := tk } ∧ h'.SetOf (PySem.strKind prog w) s.heap.objs.size (fun k => decide (k ∈ xs)) xs.length ∧ ∀ b o, s.heap.get? b = some o → h'.get? b = some o) hh hl (fun led B tk hB => ?_) fun s' hp => ?_
  · have hS : (s.heap.push (newSet led)).get? s.heap.objs.size = some (newSet led) := Heap.get?_push_size _ rfl
    have hl1 : (s.heap.push (newSet led)).IsList l items := hl.push _
    have n1 : l ≠ (s.heap.push (newSet led)).objs.size := by
      rw [Heap.size_push]
      exact Nat.ne_of_lt (Nat.lt_succ_of_lt hlS)
    have n2 : s.heap.objs.size ∉ [(s.heap.push (newSet led)).objs.size, l] := by
      rw [Heap.size_push]
      simp only [List.mem_cons, List.not_mem_nil, or_false, not_or]
      exact ⟨Nat.ne_of_lt (Nat.lt_succ_self _), Nat.ne_of_gt hlS⟩
    refine set_loop (xs := xs) ((Walks.list (A := B.in1) hB _ l n1 items).toS) n2 hn hsz (by omega) (fun i v hv => SS.strs_at hi i v (by rw [Array.getElem?_toList]; exact hv)) items.size 0 _ (by omega) ⟨⟨_, Heap.get?_push_size _ rfl, rfl, rfl⟩, hl1.push _⟩ ?_ ?_
    · have hget : ((s.heap.push (newSet led)).push { cls := .type "list_iterator", data := .fields #[.ref l, .int 0 0] }).get? s.heap.objs.size = some (newSet led) := Heap.get?_push_of_some _ hS
      exact SetOf_congr ((setObjOf_fresh (knd := PySem.strKind prog w) led).setOf hget (by unfold scanBound; omega)) (fun k => by simp) rfl
    · intro s' hm hs
      obtain ⟨h', g', d', tk', os'⟩ := s'
      have eg : g' = s.gens := hm.gens
      have ed : d' = s.drawn := hm.drawn
      have eo : os' = s.os := hm.os
      subst eg ed eo
      refine ⟨rfl, h', tk', rfl, ?_, fun b o e => ?_⟩
      · refine SetOf_congr hs (fun k => ?_) hsz.symm
        rw [← hsz, List.take_length]
      · have hb1 := Heap.lt_size e
        refine hm.heap b o ?_ (Heap.get?_push_of_some _ (Heap.get?_push_of_some _ e))
        rw [Heap.size_push]
        simp only [List.mem_cons, List.not_mem_nil, or_false, not_or]
        exact ⟨Nat.ne_of_lt hb1, Nat.ne_of_lt (Nat.lt_succ_of_lt hb1)⟩
  · obtain ⟨h', tk, rfl, hs, hk⟩ := hp
    exact h h' tk hs hk
end
end Lw
set_option Elab.async false
set_option maxRecDepth 100000
namespace Lw
open PySem PySem.Spec PyProof.Rows L2
section
variable {X : Cx} {K : PySem.W.Frag}
/-- len(set(xs)), xs a list of texts, no two alike -/
def tLenSetS (K : PySem.W.Frag) (ta : TE) : TE := fun σ H Q => ta σ H fun x H1 => ∃ (l : Addr) (xs : List Str), x = V.ref l ∧ SqL K H1 l (xs.map V.str) ∧ xs.Nodup ∧ xs.length ≤ 1000 ∧ Q (.int xs.length) H1
theorem pe_lenSetS {a : Expr} {ta : TE} {p p2 q pos : Pos} (hk : X.K = K) (hc : X.calm = true) (hg : Gl X "len") (hm : X.mg "len" = none) (hg2 : Gl X "set") (hm2 : X.mg "set" = none) (ha : PE X a ta)
    (na : starEach [a] X.env = (false, eval a X.env) :: starEach [] X.env := by rfl) : PE X (.Call (.Name "len" p) [.Call (.Name "set" p2) [a] [] q] [] pos) (tLenSetS K ta) := by
  subst hk
  refine ⟨fun pins s σ H Q I h => Call_ (ld_blt I hg hm PySem.boot_len (callWith_builtin1 (args_cons ?_ rfl) rfl rfl))⟩
  refine Call_ (ld_blt I hg2 hm2 boot_set (callWith_type1 (args_cons (thn (ha.run pins s σ H _ I h) fun v s1 ⟨x, H1, I1, r1, q1⟩ => args_nil ?_) na) na rfl))
  obtain ⟨l, xs, rfl, hq, hn, hl, q1⟩ := q1
  cases r1
  obtain ⟨its, r, pl, hz⟩ := I1.list hq
  refine call_set_strs (I1.ok.hd hc) pl.isList (xs := xs) (by simpa using r.strs) hn (by unfold scanBound; omega) fun h' tk hS hk => ?_
  obtain ⟨o, es, ep, t, ho, hex, hd, _, _, _, hf, hn'⟩ := hS
  have I2 : Inv X pins σ H1 { s1 with heap := h', toks := tk } := I1.kept fun b o e => hk b o e
  exact args_nil (call_len_set ho hex hd hf (by rw [hn']; omega) ⟨.int xs.length, H1, I2.tok _, ⟨_, by rw [hn']⟩, q1⟩)
end
end Lw
set_option Elab.async false
set_option maxRecDepth 100000
/-! Texts, lists of texts, tables. -/
namespace Lw
open PySem L2
section
variable {X : Cx} {K : PySem.W.Frag}
def rIxSome (K : PySem.W.Frag) : R2 := fun x y H Q => rIxS x y H Q ∨ rIxL K x y H Q
theorem ix_some (h : X.K = K) : IxR X (rIxSome K) := by
  subst h
  intro a b pins s σ H x y v u Q I rx ry h hs
  exact h.elim (fun h => ix_str a b pins s σ H x y v u Q I rx ry h hs) fun h => ix_list a b pins s σ H x y v u Q I rx ry h hs
def rLenSome (K : PySem.W.Frag) : List V → Hp → VK → Prop := fun xs H Q => (∃ z, xs = [.str z] ∧ z.length ≤ sizeLine ∧ Q (.int z.length) H) ∨ rLenK K xs H Q
theorem call_len_some (h : X.K = K) : CallR X (.builtin "len") (rLenSome K) := by
  intro pins s σ H x v Q I r h'
  exact h'.elim (fun h' => call_len_str pins s σ H x v Q I r h') fun h' => call_lenK h pins s σ H x v Q I r h'
end
theorem flatS (ns : List Str) : (ns.map V.str).all flatV = true := by
  rw [List.all_eq_true]
  intro x hx
  obtain ⟨z, _, rfl⟩ := List.mem_map.mp hx
  rfl
theorem inV_str (z : Str) (ns : List Str) : inV (.str z) (ns.map V.str) = decide (z ∈ ns) := by
  unfold inV
  rw [List.any_map]
  induction ns with
  | nil => simp
  | cons n ns ih =>
    have e : eqV (V.str n) (V.str z) = decide (z = n) := by
      simp only [eqV]
      by_cases h : n = z
      · subst h; simp
      · have h' : ¬ z = n := fun q => h q.symm
        simp [h, h']
    rw [List.any_cons, ih]
    simp only [Function.comp, e, List.mem_cons, Bool.decide_or]
theorem map_gets {ns : List Str} {i : Nat} {v : V} (h : (ns.map V.str)[i]? = some v) : ∃ z, ns[i]? = some z ∧ v = .str z := by
  rw [List.getElem?_map] at h
  cases e : ns[i]? with
  | none => rw [e] at h; cases h
  | some z => rw [e] at h; exact ⟨z, rfl, (Option.some.inj h).symm⟩
/-- a small letter -/
def Low (c : Nat) : Prop := 97 ≤ c ∧ c < 123
/-- one to eight small letters -/
def IsName (z : Str) : Prop := 1 ≤ z.length ∧ z.length ≤ 8 ∧ ∀ c ∈ z.cps.toList, Low c
theorem low_in : ∀ k : Fin 26, (Builtin.Str.occurrences (Str.ofString "abcdefghijklmnopqrstuvwxyz") ⟨#[97 + k.val]⟩ 0 26 1).isEmpty = false := by decide +kernel
theorem low_found {c : Nat} (h : Low c) : (!(Builtin.Str.occurrences (Str.ofString "abcdefghijklmnopqrstuvwxyz") ⟨#[c]⟩ 0 (Str.ofString "abcdefghijklmnopqrstuvwxyz").length 1).isEmpty) = true := by
  have e : (Str.ofString "abcdefghijklmnopqrstuvwxyz").length = 26 := by decide +kernel
  obtain ⟨h1, h2⟩ := h
  have := low_in ⟨c - 97, by omega⟩
  have e2 : 97 + (c - 97) = c := by omega
  simp only [e2] at this
  rw [e, this]
  rfl
/-! tables -/
abbrev StrPair (H : Hp) (t : Addr) (p : Str × Str) : Prop := Tup H t [.str p.1, .str p.2]
def LineT (H : Hp) (l : Addr) (ps : List (Str × Str)) : Prop := ∃ ts : List Addr, Tup H l (ts.map V.ref) ∧ Paired (StrPair H) ts ps
def LineL (H : Hp) (l : Addr) (ps : List (Str × Str)) : Prop := ∃ ts : List Addr, H l = some (.lst (ts.map V.ref)) ∧ Paired (StrPair H) ts ps
theorem StrPairs.same {H H' : Hp} {ts : List Addr} {ps : List (Str × Str)} (h : Paired (StrPair H) ts ps) (s : Same H H') : Paired (StrPair H') ts ps := L2.Paired.mapP h fun _ _ t => t.same s
theorem LineT.same {H H' : Hp} {l : Addr} {ps : List (Str × Str)} (h : LineT H l ps) (s : Same H H') : LineT H' l ps := by
  obtain ⟨ts, a, b⟩ := h
  exact ⟨ts, a.same s, StrPairs.same b s⟩
theorem LineL.same {H H' : Hp} {l : Addr} {ps : List (Str × Str)} (h : LineL H l ps) (s : Same H H') : LineL H' l ps := by
  obtain ⟨ts, a, b⟩ := h
  exact ⟨ts, s _ _ a, StrPairs.same b s⟩
theorem LineT.sameX {H H' : Hp} {l p c : Addr} {N : Nat} {ps : List (Str × Str)} (h : LineT H l ps) (s : SameX p H H') (P : PenAt H p c N) : LineT H' l ps := by
  obtain ⟨ts, a, b⟩ := h
  exact ⟨ts, a.sameX s P, L2.Paired.mapP b fun _ _ t => t.sameX s P⟩
/-- a table's object: its marks, its pairs -/
def TblAt (H : Hp) (C a : Addr) (ms : List Str) (ps : List (List (Str × Str))) : Prop :=
  ∃ (dx m q : Addr) (ls : List Addr), H a = some (.ins C dx [("_marks", .ref m), ("_pairs", .ref q)]) ∧ Tup H m (ms.map V.str) ∧ Tup H q (ls.map V.ref) ∧ Paired (LineT H) ls ps
theorem TblAt.same {H H' : Hp} {C a : Addr} {ms : List Str} {ps : List (List (Str × Str))} (h : TblAt H C a ms ps) (s : Same H H') : TblAt H' C a ms ps := by
  obtain ⟨dx, m, q, ls, h1, h2, h3, h4⟩ := h
  exact ⟨dx, m, q, ls, s _ _ h1, h2.same s, h3.same s, L2.Paired.mapP h4 fun _ _ t => t.same s⟩
theorem TblAt.sameX {H H' : Hp} {C a p c : Addr} {N : Nat} {ms : List Str} {ps : List (List (Str × Str))} (h : TblAt H C a ms ps) (s : SameX p H H') (P : PenAt H p c N) : TblAt H' C a ms ps := by
  obtain ⟨dx, m, q, ls, h1, h2, h3, h4⟩ := h
  exact ⟨dx, m, q, ls, s _ _ h1 (P.ne h1 fun _ => nofun), h2.sameX s P, h3.sameX s P, L2.Paired.mapP h4 fun _ _ t => t.sameX s P⟩
theorem prd_get {α β : Type} {F : α → β → Prop} : ∀ {as : List α} {bs : List β} {i : Nat} {a : α}, Paired F as bs → as[i]? = some a → ∃ b, bs[i]? = some b ∧ F a b
  | _, _, 0, _, .cons r _, h => ⟨_, rfl, (Option.some.inj h) ▸ r⟩
  | _, _, i + 1, _, .cons _ t, h => prd_get (i := i) t h
theorem prd_got {α β : Type} {F : α → β → Prop} : ∀ {as : List α} {bs : List β} {i : Nat} {b : β}, Paired F as bs → bs[i]? = some b → ∃ a, as[i]? = some a ∧ F a b
  | _, _, 0, _, .cons r _, h => ⟨_, rfl, (Option.some.inj h) ▸ r⟩
  | _, _, i + 1, _, .cons _ t, h => prd_got (i := i) t h
theorem map_getr {ts : List Addr} {i : Nat} {v : V} (h : (ts.map V.ref)[i]? = some v) : ∃ t, ts[i]? = some t ∧ v = .ref t := by
  rw [List.getElem?_map] at h
  cases e : ts[i]? with
  | none => rw [e] at h; cases h
  | some z => rw [e] at h; exact ⟨z, rfl, (Option.some.inj h).symm⟩
theorem at_str' {ns : List Str} {i : Nat} {z : Str} (h : ns[i]? = some z) : atI (ns.map V.str) (i : Int) = some (.str z) := atI_nat (by rw [List.getElem?_map, h]; rfl)
theorem at_ref' {ts : List Addr} {i : Nat} {t : Addr} (h : ts[i]? = some t) : atI (ts.map V.ref) (i : Int) = some (.ref t) := atI_nat (by rw [List.getElem?_map, h]; rfl)
/-- the class's facts -/
structure TabC (K : PySem.W.Frag) (mg : Str → Option Value) (C f : Addr) : Prop where
  cl : Cls K C
  make : Mk K C f
  mg : mg "Table" = some (.ref C)
  nM : NoAttr K C "_marks"
  nP : NoAttr K C "_pairs"
def HasM (P : Program) (w : World) (K : PySem.W.Frag) (mg : Str → Option Value) (base : Heap) (k : Nat) (C : Addr) (m : Str) (ps : List Str) (sp : Sp) : Prop :=
  ∃ (f : Addr) (fd : FuncData), FnOk P w K mg base CX0 k f fd ps sp ∧ Meth K C m f ∧ Binds K fd ps []
def HasI (P : Program) (w : World) (K : PySem.W.Frag) (mg : Str → Option Value) (base : Heap) (k : Nat) (C f : Addr) (ps : List Str) (sp : Sp) : Prop :=
  ∃ (fd : FuncData), FnOk P w K mg base CX0 k f fd ps sp ∧ Binds K fd ps []
end Lw
set_option Elab.async false
set_option maxRecDepth 100000
namespace Lw
open PySem PySem.Spec PyProof.Rows L2
def rTupIxS (K : PySem.W.Frag) : V → List V → Hp → VK → Prop := fun x xs H Q => ∃ (p : Addr) (ys : List Str) (z : Str) (j : Nat), x = .ref p ∧ xs = [.str z] ∧ SqT K H p (ys.map V.str) ∧ ys[j]? = some z ∧ (∀ m, m < j → ys[m]? ≠ some z) ∧ Q (.int (j : Nat)) H
theorem mt_tupIndexS0 {X : Cx} : MtR X "tuple.index" (rTupIxS X.K) := by
  intro pins s σ H x xs v us Q I rx rs h
  obtain ⟨p, ys, z, j, rfl, rfl, hq, hy, hno, q⟩ := h
  cases rx
  obtain ⟨u, rfl, t, rfl⟩ := vals1 rs
  obtain ⟨its, r, pl, hz⟩ := I.tuple hq
  obtain ⟨⟨cls, dd, dt, sl⟩, ho, hc, n, hd⟩ := pl
  simp only at hc hd
  subst hc
  subst hd
  have hl : its.toArray.size = ys.length := by
    rw [List.size_toArray, ← r.length, List.length_map]
  have hj : j < its.toArray.size := by
    rw [hl]
    exact (List.getElem?_eq_some_iff.mp hy).1
  have item : ∀ (m : Nat) (hm : m < its.toArray.size), ∃ y t', ys[m]? = some y ∧ its.toArray[m] = Value.str y t' := fun m hm => by
    have hm' : m < ys.length := hl ▸ hm
    obtain ⟨w, hw, t', hw'⟩ := r.get (i := m) (x := .str ys[m]) (by simp [hm'])
    have e := (List.getElem?_eq_some_iff.mp hw).2
    exact ⟨ys[m], t', List.getElem?_eq_getElem hm', by rw [← hw', ← e]; simp⟩
  have eqi : ∀ (y : Str) (t' : Tok), eqU (.str z) (Value.str y t') = decide (y = z) := fun y t' => by
    have e := eqU_of (x := .str z) (y := .str y) (u := Value.str y t') ⟨t', rfl⟩ rfl
    rw [e]
    simp only [eqV]
    by_cases h : y = z <;> simp [h]
  refine call_meets PySem.F.slot_tuple_index ⟨_, ho, rfl⟩ PySem.F.entry_tuple_index (PySem.F.args_tuple_index_2 _ _)
    (TI.tuple_indexAt p its.toArray n dd sl (.str z t) (eqU (.str z)) j hj ?_ fun m hm hmj => ?_) ⟨ho, fun w hw => mem_eqAt (x := .str z) ⟨t, rfl⟩ rfl r (flatS ys) w (by simpa using hw), ⟨.int (j : Nat), H, I.tok _, ⟨_, rfl⟩, q⟩⟩
  · obtain ⟨y, t', h1, h2⟩ := item j hj
    rw [hy] at h1
    cases h1
    rw [h2, eqi]
    exact decide_eq_true rfl
  · obtain ⟨y, t', h1, h2⟩ := item m hm
    rw [h2, eqi]
    exact decide_eq_false fun e => hno m hmj (e ▸ h1)


theorem mt_tupIndexS {X : Cx} {K : PySem.W.Frag} (h : X.K = K) : MtR X "tuple.index" (rTupIxS K) := h ▸ mt_tupIndexS0
end Lw
set_option Elab.async false
set_option maxRecDepth 100000
/-! What a table does to a row. -/
namespace Lw
open PySem L2
theorem pi_listK {X : Cx} {K : PySem.W.Frag} {tg l : Expr} {tl : TE} (h : X.K = K) (hl : PE X l tl) : PI X tg l (iList K tl) := h ▸ pi_list hl
theorem pi_tupK {X : Cx} {K : PySem.W.Frag} {tg l : Expr} {tl : TE} (h : X.K = K) (hl : PE X l tl) : PI X tg l (iTup K tl) := h ▸ pi_tup hl
theorem pe_fldK {X : Cx} {K : PySem.W.Frag} {e : Expr} {f : Str} {pos : Pos} {ta : TE} (h : X.K = K) (ha : PE X e ta) (hb : attributeBase e f X.env (eval e X.env) = eval e X.env) : PE X (e.Attribute f pos) (tFld K ta f) := h ▸ pe_fld ha hb
theorem cutT {xs : List V} {k : Nat} (h : k ≤ xs.length) : cutV xs none (some (k : Int)) = xs.take k := by
  unfold cutV
  rw [HT.sIx_none, sIx_nat' _ _ k h]
  simp
theorem cutD {xs : List V} {k : Nat} (h : k ≤ xs.length) : cutV xs (some (k : Int)) none = xs.drop k := by
  unfold cutV
  rw [HT.sIx_none, sIx_nat' _ _ k h]
  rw [List.take_of_length_le (by rw [List.length_drop]; omega)]
def FullLine (ms : List Str) (ps : List (Str × Str)) : Prop := ps.length = ms.length ∧ ∀ p ∈ ps, p.1 ∈ ms ∧ p.2 ∈ ms
def FullPairs (ms : List Str) (pss : List (List (Str × Str))) : Prop := pss.length = ms.length ∧ ∀ ps ∈ pss, FullLine ms ps
theorem FullPairs.at (h : FullPairs ms pss) {x y : Str} (hx : x ∈ ms) (hy : y ∈ ms) : ∃ ps p, pss[ms.idxOf x]? = some ps ∧ ps[ms.idxOf y]? = some p ∧ p.1 ∈ ms ∧ p.2 ∈ ms := by
  have hi := List.idxOf_lt_length_of_mem hx
  have hj := List.idxOf_lt_length_of_mem hy
  have h1 : ms.idxOf x < pss.length := by rw [h.1]; exact hi
  have fl := h.2 _ (List.getElem_mem h1)
  have h2 : ms.idxOf y < (pss[ms.idxOf x]).length := by rw [fl.1]; exact hj
  exact ⟨_, _, List.getElem?_eq_getElem h1, List.getElem?_eq_getElem h2, (fl.2 _ (List.getElem_mem h2)).1, (fl.2 _ (List.getElem_mem h2)).2⟩
/-- x and y pass -/
def passOf (ms : List Str) (pss : List (List (Str × Str))) (x y : Str) : Str × Str := (pss.getD (ms.idxOf x) []).getD (ms.idxOf y) (x, y)
theorem passOf_eq {ms : List Str} {pss : List (List (Str × Str))} {x y : Str} {ps : List (Str × Str)} {p : Str × Str} (h1 : pss[ms.idxOf x]? = some ps) (h2 : ps[ms.idxOf y]? = some p) : passOf ms pss x y = p := by
  unfold passOf
  have e : pss.getD (ms.idxOf x) [] = ps := by rw [List.getD_eq_getElem?_getD, h1]; rfl
  rw [e, List.getD_eq_getElem?_getD, h2]
  rfl
/-- the row after the pass at place j -/
def stepRow (ms : List Str) (pss : List (List (Str × Str))) (row : List Str) (j : Nat) : List Str :=
  let p := passOf ms pss (row.getD j Str.empty) (row.getD (j + 1) Str.empty)
  row.take j ++ [p.1, p.2] ++ row.drop (j + 2)
theorem stepRow_len {ms : List Str} {pss : List (List (Str × Str))} {row : List Str} {j : Nat} (h : j + 1 < row.length) : (stepRow ms pss row j).length = row.length := by
  unfold stepRow
  simp only [List.length_append, List.length_take, List.length_cons, List.length_nil, List.length_drop]
  omega
theorem getDs {l : List Str} {k : Nat} {a : Str} (h : l[k]? = some a) : l.getD k Str.empty = a := by rw [List.getD_eq_getElem?_getD, h]; rfl
theorem stepRow_in {ms : List Str} {pss : List (List (Str × Str))} {row : List Str} {j : Nat} (hf : FullPairs ms pss) (hm : ∀ z ∈ row, z ∈ ms) (h : j + 1 < row.length) : ∀ z ∈ stepRow ms pss row j, z ∈ ms := by
  have hx : row[j]? = some row[j] := List.getElem?_eq_getElem (by omega)
  have hy : row[j + 1]? = some row[j + 1] := List.getElem?_eq_getElem h
  obtain ⟨ps, p, h1, h2, p1, p2⟩ := hf.at (hm _ (List.mem_of_getElem? hx)) (hm _ (List.mem_of_getElem? hy))
  intro z hz
  unfold stepRow at hz
  rw [getDs hx, getDs hy, passOf_eq h1 h2] at hz
  simp only [List.mem_append, List.mem_cons, List.not_mem_nil, or_false] at hz
  rcases hz with (hz | hz | hz) | hz
  · exact hm z (List.mem_of_mem_take hz)
  · exact hz ▸ p1
  · exact hz ▸ p2
  · exact hm z (List.mem_of_mem_drop hz)
/-- the row behind a word -/
def rowRun (ms : List Str) (pss : List (List (Str × Str))) (row : List Str) (ws : List Int) : List Str := ws.foldl (fun r k => stepRow ms pss r k.toNat) row
theorem rowRun_snoc (ms : List Str) (pss : List (List (Str × Str))) (row : List Str) (ws : List Int) (k : Int) : rowRun ms pss row (ws ++ [k]) = stepRow ms pss (rowRun ms pss row ws) k.toNat := by
  unfold rowRun
  rw [List.foldl_append]
  rfl
theorem rowRun_ok {ms : List Str} {pss : List (List (Str × Str))} {n : Nat} (hf : FullPairs ms pss) : ∀ (ws : List Int) (row : List Str), row.length = n → (∀ z ∈ row, z ∈ ms) → OkW n ws → (rowRun ms pss row ws).length = n ∧ ∀ z ∈ rowRun ms pss row ws, z ∈ ms
  | [], row, hl, hm, _ => ⟨hl, hm⟩
  | k :: ws, row, hl, hm, hw => by
    have hk := hw k (by simp)
    have hj : k.toNat + 1 < row.length := by omega
    exact rowRun_ok hf ws (stepRow ms pss row k.toNat) (by rw [stepRow_len hj, hl]) (stepRow_in hf hm hj) fun x hx => hw x (by simp [hx])
theorem LineT.upd {H : Hp} {l b : Addr} {ps : List (Str × Str)} {xs : List V} {o : HO} (h : LineT H l ps) (hb : H b = some (.lst xs)) : LineT (upd H b o) l ps := by
  obtain ⟨ts, h1, h2⟩ := h
  exact ⟨ts, h1.upd (h1.ne hb fun _ _ => nofun), L2.Paired.mapP h2 fun _ _ t => t.upd (t.ne hb fun _ _ => nofun)⟩
theorem LineT.updI {H : Hp} {l b C dx : Addr} {ps : List (Str × Str)} {fs : List (Str × V)} {o : HO} (h : LineT H l ps) (hb : H b = some (.ins C dx fs)) : LineT (L2.upd H b o) l ps := by
  obtain ⟨ts, h1, h2⟩ := h
  exact ⟨ts, h1.upd (h1.ne hb fun _ _ => nofun), L2.Paired.mapP h2 fun _ _ t => t.upd (t.ne hb fun _ _ => nofun)⟩
theorem paired_take {α β : Type} {F : α → β → Prop} : ∀ {as : List α} {bs : List β}, Paired F as bs → as.length = bs.length := fun h => h.length
end Lw
set_option Elab.async false
set_option maxRecDepth 100000
/-! Names of small letters. -/
namespace Lw
open PySem L2
abbrev one (c : Nat) : Str := ⟨#[c]⟩
abbrev AZ : Str := Str.ofString "abcdefghijklmnopqrstuvwxyz"
theorem az_at : ∀ k : Fin 26, AZ.cps.toList[k.val]? = some (97 + k.val) := by decide +kernel
theorem az_low : ∀ c ∈ AZ.cps.toList, 97 ≤ c ∧ c < 123 := by decide +kernel
theorem az_len : AZ.length = 26 := by decide +kernel
theorem az_get {r : Int} (h0 : 0 ≤ r) (h1 : r < 26) : atI AZ.cps.toList r = some (97 + r.toNat) := by
  obtain ⟨j, rfl⟩ := Int.eq_ofNat_of_zero_le h0
  exact atI_nat (az_at ⟨j, by omega⟩)
theorem len_list' (z : Str) : z.length = z.cps.toList.length := by simp [Str.length]
theorem joined_ones (cs : List Nat) : (Txt.join (Str.ofString "") (cs.map one)).cps.toList = cs := by
  have e0 : (Str.ofString "").cps.toList = [] := by decide +kernel
  rw [TL.join_eq]
  have := TL.tl_join (Str.ofString "") (cs.map one)
  refine this.trans ?_
  show TL.joinL (Str.ofString "").cps.toList _ = cs
  rw [e0, List.map_map]
  clear this
  induction cs with
  | nil => rfl
  | cons a cs ih =>
    cases cs with
    | nil => rfl
    | cons b cs =>
      show [a] ++ ([] ++ TL.joinL [] ((b :: cs).map _)) = a :: b :: cs
      rw [ih]
      rfl
theorem cutS_list (z : Str) (lo hi : Option Int) : (cutS z lo hi).cps.toList = (z.cps.toList.drop (HT.sIx z.length 0 lo)).take (HT.sIx z.length z.length hi - HT.sIx z.length 0 lo) := by
  unfold cutS
  simp
theorem cutS_mem {z : Str} {lo hi : Option Int} {c : Nat} (h : c ∈ (cutS z lo hi).cps.toList) : c ∈ z.cps.toList := by
  rw [cutS_list] at h
  exact List.mem_of_mem_drop (List.mem_of_mem_take h)
theorem cutS_le (z : Str) (lo hi : Option Int) : (cutS z lo hi).length ≤ z.length - HT.sIx z.length 0 lo := by
  rw [len_list', cutS_list, len_list' z, List.length_take, List.length_drop]
  omega
theorem cutS_to {z : Str} {k : Nat} (h : k ≤ z.length) : (cutS z none (some (k : Int))).cps.toList = z.cps.toList.take k := by
  rw [cutS_list, HT.sIx_none, sIx_nat' _ _ k h]
  simp
theorem cutS_from_len {z : Str} {k : Nat} (h : k ≤ z.length) : (cutS z (some (k : Int)) none).length ≤ z.length - k := by
  have := cutS_le z (some (k : Int)) none
  rwa [sIx_nat' _ _ k h] at this
/-- a name: a stem whose letter at one place is another, its end cut -/
theorem name_is {stem A T : Str} {c at' : Nat} (h1 : at' + 1 ≤ stem.length) (h8 : stem.length ≤ 8) (low : ∀ c ∈ stem.cps.toList, Low c) (hA : A.cps.toList = stem.cps.toList.take at') (hT : ∀ c ∈ T.cps.toList, c ∈ stem.cps.toList) (hTl : T.length ≤ stem.length - (at' + 1)) (hc : Low c) :
    IsName (A ++ one c ++ T) := by
  have e : (A ++ one c ++ T).cps.toList = stem.cps.toList.take at' ++ [c] ++ T.cps.toList := by
    rw [Str.cps_append, Str.cps_append, Array.toList_append, Array.toList_append, hA]
  have hs := len_list' stem
  have ht := len_list' T
  have el : (A ++ one c ++ T).length = at' + 1 + T.length := by
    rw [len_list', e, List.length_append, List.length_append, List.length_take, List.length_singleton, ← ht, ← hs]
    omega
  refine ⟨by omega, by omega, fun d hd => ?_⟩
  rw [e, List.mem_append, List.mem_append] at hd
  rcases hd with (hd | hd) | hd
  · exact low d (List.mem_of_mem_take hd)
  · exact List.mem_singleton.mp hd ▸ hc
  · exact low d (hT d hd)
theorem name_ne {A T U : Str} {c d : Nat} (h : A ++ one c ++ T = A ++ one d ++ U) : c = d := by
  have e : ∀ (c : Nat) (T : Str), (A ++ one c ++ T).cps.toList[A.cps.toList.length]? = some c := by
    intro c T
    rw [Str.cps_append, Str.cps_append, Array.toList_append, Array.toList_append]
    simp
  have := e c T
  rw [h, e d U] at this
  exact (Option.some.inj this).symm
theorem steps_differ {b s i j : Int} (hs : s ∈ [(1 : Int), 3, 5, 7, 9, 11, 15, 17, 19, 21, 23, 25]) (hi : 0 ≤ i ∧ i < 6) (hj : 0 ≤ j ∧ j < 6) (h : (b + s * i) % 26 = (b + s * j) % 26) : i = j := by
  simp only [List.mem_cons, List.not_mem_nil, or_false] at hs
  rcases hs with rfl | rfl | rfl | rfl | rfl | rfl | rfl | rfl | rfl | rfl | rfl | rfl <;> omega
end Lw
set_option linter.all false
/-! How many pairs stand the wrong way about; how short a word can be. Core Lean alone. -/
namespace Lw
def inv : List Int → Nat
  | [] => 0
  | a :: l => (l.countP fun z => decide (z < a)) + inv l
theorem inv_sw : ∀ (l : List Int) (k : Nat) (a b : Int), l[k]? = some a → l[k + 1]? = some b → (a < b → inv (sw l k) = inv l + 1) ∧ (b < a → inv l = inv (sw l k) + 1)
  | [], k, a, b, h, _ => by simp at h
  | [x], 0, a, b, _, h => by simp at h
  | x :: y :: l, 0, a, b, h1, h2 => by
    simp at h1 h2
    subst h1 h2
    have e : sw (x :: y :: l) 0 = y :: x :: l := rfl
    rw [e]
    simp only [inv, List.countP_cons]
    constructor
    · intro h
      have h' : ¬ y < x := by omega
      simp [h, h']
      omega
    · intro h
      have h' : ¬ x < y := by omega
      simp [h, h']
      omega
  | x :: l, k + 1, a, b, h1, h2 => by
    have e : sw (x :: l) (k + 1) = x :: sw l k := by
      cases l with
      | nil => rfl
      | cons y l => rfl
    have ih := inv_sw l k a b (by simpa using h1) (by simpa using h2)
    rw [e]
    simp only [inv]
    rw [(sw_perm l k).countP_eq]
    constructor
    · intro h
      have := ih.1 h
      omega
    · intro h
      have := ih.2 h
      omega
theorem inv_asc : ∀ {l : List Int}, l.Pairwise (· < ·) → inv l = 0
  | [], _ => rfl
  | a :: l, h => by
    have h' := List.pairwise_cons.mp h
    simp only [inv]
    rw [inv_asc h'.2, List.countP_eq_zero.mpr]
    intro z hz
    have := h'.1 z hz
    simp
    omega
theorem idl_asc (n : Nat) : (idl n).Pairwise (· < ·) := by
  unfold idl
  rw [List.pairwise_map]
  exact List.Pairwise.imp (fun {a b} h => by omega) List.pairwise_lt_range
theorem inv_idl (n : Nat) : inv (idl n) = 0 := inv_asc (idl_asc n)
theorem asc_of : ∀ {l : List Int}, (∀ k a b, l[k]? = some a → l[k + 1]? = some b → a < b) → l.Pairwise (· < ·)
  | [], _ => .nil
  | [x], _ => by simp
  | x :: y :: l, h => by
    have ih : (y :: l).Pairwise (· < ·) := asc_of fun k a b h1 h2 => h (k + 1) a b (by simpa using h1) (by simpa using h2)
    have hxy := h 0 x y rfl rfl
    refine List.pairwise_cons.mpr ⟨fun z hz => ?_, ih⟩
    rcases List.mem_cons.mp hz with rfl | hz
    · exact hxy
    · have := (List.pairwise_cons.mp ih).1 z hz
      omega
theorem ord_asc {n : Nat} {l : List Int} (h : Ord n l) (ha : l.Pairwise (· < ·)) : l = idl n :=
  List.Perm.eq_of_pairwise (le := (· < ·)) (fun a b _ _ h1 h2 => by omega) ha (idl_asc n) h
theorem inv_run {n : Nat} : ∀ (w l : List Int), l.Nodup → l.length = n → OkW n w → inv (run l w) ≤ inv l + w.length ∧ (inv (run l w) + inv l + w.length) % 2 = 0 ∧ (Good l w ↔ inv (run l w) = inv l + w.length)
  | [], l, _, _, _ => ⟨by simp [run_nil], by simp [run_nil]; omega, by simp [run_nil, Good, met]⟩
  | k :: w, l, hn, hl, hw => by
    obtain ⟨a, b, ha, hb⟩ := adj hl (hw k (by simp))
    have hp := sw_perm l k.toNat
    obtain ⟨i1, i2, i3⟩ := inv_run w (sw l k.toNat) (hp.nodup_iff.mpr hn) (by rw [sw_len, hl]) (fun x hx => hw x (by simp [hx]))
    obtain ⟨s1, s2⟩ := inv_sw l k.toNat a b ha hb
    have gd : Good l (k :: w) ↔ a < b ∧ Good (sw l k.toNat) w := by
      unfold Good
      have e : met l (k :: w) = (a, b) :: met (sw l k.toNat) w := by
        show (l.getD k.toNat 0, l.getD (k.toNat + 1) 0) :: _ = _
        rw [getD_of ha, getD_of hb]
      rw [e]
      constructor
      · intro h
        exact ⟨h (a, b) (by simp), fun p hp => h p (List.mem_cons_of_mem _ hp)⟩
      · rintro ⟨h1, h2⟩ p hp
        rcases List.mem_cons.mp hp with rfl | hp
        · exact h1
        · exact h2 p hp
    have hab : a ≠ b := by
      intro e
      subst e
      have g1 : l[k.toNat]? = l[k.toNat + 1]? := by rw [ha, hb]
      have hlt : k.toNat + 1 < l.length := (List.getElem?_eq_some_iff.mp hb).1
      have := (List.getElem?_inj (by omega) hn).mp g1
      omega
    rw [run_cons, gd, List.length_cons]
    rcases Int.lt_or_gt_of_ne hab with h | h
    · have := s1 h
      refine ⟨by omega, by omega, ?_⟩
      rw [i3]
      constructor
      · rintro ⟨_, h2⟩; omega
      · intro h2; exact ⟨h, by omega⟩
    · have := s2 h
      refine ⟨by omega, by omega, ?_⟩
      constructor
      · rintro ⟨h2, _⟩; omega
      · intro h2; omega
section
variable {n : Nat}
theorem len_le {w : List Int} (hw : OkW n w) : inv (run (idl n) w) ≤ w.length := by
  have := (inv_run w (idl n) (idl_nodup n) (idl_len n) hw).1
  rw [inv_idl] at this
  omega
theorem len_par {w : List Int} (hw : OkW n w) : (inv (run (idl n) w) + w.length) % 2 = 0 := by
  have := (inv_run w (idl n) (idl_nodup n) (idl_len n) hw).2.1
  rw [inv_idl] at this
  omega
theorem good_len {w : List Int} (hw : OkW n w) : Good (idl n) w ↔ w.length = inv (run (idl n) w) := by
  have := (inv_run w (idl n) (idl_nodup n) (idl_len n) hw).2.2
  rw [inv_idl] at this
  rw [this]
  omega
theorem form_len {p : List Int} (h : Ord n p) (h1 : 1 ≤ n) (h60 : n ≤ 60) : (form n p).length = inv p := by
  have := (good_len (form_ok h h1 h60).1).mp (form_good h h1)
  rw [form_run h h1] at this
  exact this
theorem okw_back {w : List Int} (hw : OkW n w) : OkW n w.reverse := fun x hx => hw x (List.mem_reverse.mp hx)
theorem okw_sub {w v : List Int} (hw : OkW n w) (h : ∀ x ∈ v, x ∈ w) : OkW n v := fun x hx => hw x (h x hx)
theorem run_back_of {u v : List Int} (h : run (idl n) u = run (idl n) v) : run (idl n) u.reverse = run (idl n) v.reverse := by
  have hu := undoes_run n u
  have hv := undoes_run n v
  rw [h] at hu
  refine List.ext_getElem? fun i => ?_
  have key : ∀ {q q' : List Int}, Undoes n (run (idl n) v) q → Undoes n (run (idl n) v) q' → ∀ x, q[i]? = some x → q'[i]? = some x := by
    intro q q' hq hq' x hx
    have hi : i < n := by rw [← hq.1]; exact (List.getElem?_eq_some_iff.mp hx).1
    obtain ⟨y, hy⟩ : ∃ y, q'[i]? = some y := ⟨_, List.getElem?_eq_getElem (by rw [hq'.1]; exact hi)⟩
    obtain ⟨x0, ex⟩ := hq.2 i x hx
    obtain ⟨y0, ey⟩ := hq'.2 i y hy
    have nd : (run (idl n) v).Nodup := (ord_run n v).nodup
    have hlt : x.toNat < (run (idl n) v).length := (List.getElem?_eq_some_iff.mp ex).1
    have := (List.getElem?_inj hlt nd).mp (ex.trans ey.symm)
    rw [hy]
    congr 1
    omega
  cases e : (run (idl n) u.reverse)[i]? with
  | some x => exact (key hu hv x e).symm
  | none =>
    cases e' : (run (idl n) v.reverse)[i]? with
    | some x =>
      rw [key hv hu x e'] at e
      cases e
    | none => rfl
/-- the least length of a word: for the way back the same -/
theorem inv_back (h1 : 1 ≤ n) (h60 : n ≤ 60) (w : List Int) (hw : OkW n w) : inv (run (idl n) w.reverse) = inv (run (idl n) w) := by
  have half : ∀ w : List Int, OkW n w → inv (run (idl n) w.reverse) ≤ inv (run (idl n) w) := by
    intro w hw
    have ho := ord_run n w
    have hf := form_run ho h1
    have hb : run (idl n) (form n (run (idl n) w)).reverse = run (idl n) w.reverse := run_back_of hf
    rw [← hb, ← form_len ho h1 h60]
    have := len_le (okw_back (form_ok ho h1 h60).1)
    rwa [List.length_reverse] at this
  refine Nat.le_antisymm (half w hw) ?_
  have := half w.reverse (okw_back hw)
  rwa [List.reverse_reverse] at this
theorem good_back (h1 : 1 ≤ n) (h60 : n ≤ 60) {w : List Int} (hw : OkW n w) (hg : Good (idl n) w) : Good (idl n) w.reverse := by
  rw [good_len (okw_back hw), inv_back h1 h60 w hw, List.length_reverse]
  exact (good_len hw).mp hg
theorem okw_take {w : List Int} (hw : OkW n w) (k : Nat) : OkW n (w.take k) := okw_sub hw fun x hx => List.mem_of_mem_take hx
theorem okw_drop {w : List Int} (hw : OkW n w) (k : Nat) : OkW n (w.drop k) := okw_sub hw fun x hx => List.mem_of_mem_drop hx
theorem good_take {w : List Int} (hg : Good (idl n) w) (k : Nat) : Good (idl n) (w.take k) := by
  have e := List.take_append_drop k w
  rw [← e] at hg
  exact (good_append.mp hg).1
theorem good_drop (h1 : 1 ≤ n) (h60 : n ≤ 60) {w : List Int} (hw : OkW n w) (hg : Good (idl n) w) (k : Nat) : Good (idl n) (w.drop k) := by
  have hb := good_back h1 h60 hw hg
  have e : w.reverse = (w.drop k).reverse ++ (w.take k).reverse := by rw [← List.reverse_append, List.take_append_drop]
  rw [e] at hb
  have := good_back h1 h60 (okw_back (okw_drop hw k)) (good_append.mp hb).1
  rwa [List.reverse_reverse] at this
/-- a place passed twice on end makes a word longer than it need be -/
theorem bad_twice {w : List Int} (hw : OkW n w) (k : Nat) (z : Int) (hz : 0 ≤ z ∧ z + 1 < n) : OkW n (w.take k ++ [z, z] ++ w.drop k) ∧ ¬ Good (idl n) (w.take k ++ [z, z] ++ w.drop k) := by
  have ok : OkW n (w.take k ++ [z, z] ++ w.drop k) := by
    intro x hx
    simp only [List.mem_append, List.mem_cons, List.not_mem_nil, or_false, or_self] at hx
    rcases hx with (hx | hx) | hx
    · exact hw x (List.mem_of_mem_take hx)
    · exact hx ▸ hz
    · exact hw x (List.mem_of_mem_drop hx)
  refine ⟨ok, fun h => ?_⟩
  have e : run (idl n) (w.take k ++ [z, z] ++ w.drop k) = run (idl n) w := by
    rw [run_append, run_append, run_cons, run_cons, run_nil, sw_sw, ← run_append, List.take_append_drop]
  have h' := (good_len ok).mp h
  rw [e] at h'
  have := len_le hw
  have l1 : (w.take k ++ [z, z] ++ w.drop k).length = w.length + 2 := by
    have := congrArg List.length (List.take_append_drop k w)
    rw [List.length_append] at this
    simp only [List.length_append, List.length_cons, List.length_nil]
    omega
  omega
theorem good_iff_form (h1 : 1 ≤ n) (h60 : n ≤ 60) {w : List Int} (hw : OkW n w) : Good (idl n) w ↔ w.length = (form n (run (idl n) w)).length := by
  rw [form_len (ord_run n w) h1 h60]
  exact good_len hw
/-- short words of one order let the same runners pass one another -/
theorem met_perm {v w : List Int} (hv : OkW n v) (hw : OkW n w) (gv : Good (idl n) v) (gw : Good (idl n) w) (h : run (idl n) v = run (idl n) w) : (met (idl n) v).Perm (met (idl n) w) := by
  refine (List.perm_ext_iff_of_nodup (good_nodup hv gv) (good_nodup hw gw)).mpr ?_
  have t1 := (turned_run v (idl n) [] (idl_nodup n) (idl_len n) hv (turned_start n) (by simp) (fun p h => by cases h) gv).1
  have t2 := (turned_run w (idl n) [] (idl_nodup n) (idl_len n) hw (turned_start n) (by simp) (fun p h => by cases h) gw).1
  rw [List.nil_append] at t1 t2
  rw [h] at t1
  have inn : ∀ {u : List Int}, OkW n u → ∀ p ∈ met (idl n) u, p.1 ∈ run (idl n) w ∧ p.2 ∈ run (idl n) w := by
    intro u hu p hp
    have m : ∀ (u l : List Int), l.Perm (idl n) → OkW n u → ∀ p ∈ met l u, p.1 ∈ idl n ∧ p.2 ∈ idl n := by
      intro u
      induction u with
      | nil => intro l _ _ p hp; cases hp
      | cons k u ih =>
        intro l hl hu p hp
        obtain ⟨a, b, ha, hb⟩ := adj (n := n) (by rw [hl.length_eq, idl_len]) (hu k (by simp))
        have e : met l (k :: u) = (a, b) :: met (sw l k.toNat) u := by
          show (l.getD k.toNat 0, l.getD (k.toNat + 1) 0) :: _ = _
          rw [getD_of ha, getD_of hb]
        rw [e] at hp
        rcases List.mem_cons.mp hp with rfl | hp
        · exact ⟨hl.mem_iff.mp (List.mem_of_getElem? ha), hl.mem_iff.mp (List.mem_of_getElem? hb)⟩
        · exact ih _ ((sw_perm l k.toNat).trans hl) (fun x hx => hu x (by simp [hx])) p hp
    have := m u (idl n) (.refl _) hu p hp
    exact ⟨(ord_run n w).mem_iff.mpr this.1, (ord_run n w).mem_iff.mpr this.2⟩
  intro p
  constructor
  · intro hp
    have i := inn hv p hp
    exact (t2 p.1 p.2 (gv p hp) i.1 i.2).mpr ((t1 p.1 p.2 (gv p hp) i.1 i.2).mp hp)
  · intro hp
    have i := inn hw p hp
    exact (t1 p.1 p.2 (gw p hp) i.1 i.2).mpr ((t2 p.1 p.2 (gw p hp) i.1 i.2).mp hp)
/-- one order behind another: no longer than both, and of their parity -/
theorem form_join (h1 : 1 ≤ n) (h60 : n ≤ 60) {p w : List Int} (hp : Ord n p) (hw : OkW n w) : let j := (form n ((run (idl n) w).map fun r => p.getD r.toNat 0)).length
    j ≤ (form n p).length + w.length ∧ ((form n p).length + w.length + j) % 2 = 0 := by
  intro j
  have e : (run (idl n) w).map (fun r => p.getD r.toNat 0) = run (idl n) (form n p ++ w) := by rw [run_join, form_run hp h1]
  have ok : OkW n (form n p ++ w) := fun x hx => (List.mem_append.mp hx).elim ((form_ok hp h1 h60).1 x) (hw x)
  have ej : j = inv (run (idl n) (form n p ++ w)) := by
    show (form n _).length = _
    rw [e, form_len (ord_run n _) h1 h60]
  have a1 := len_le ok
  have a2 := len_par ok
  rw [List.length_append] at a1 a2
  rw [ej]
  exact ⟨a1, by omega⟩
end
end Lw
set_option Elab.async false
set_option maxRecDepth 100000
/-! The table in which all just exchange. -/
namespace Lw
open PySem L2
def exch (ms : List Str) : List (List (Str × Str)) := ms.map fun mark => ms.map fun other => (other, mark)
theorem exch_full (ms : List Str) : FullPairs ms (exch ms) := by
  refine ⟨List.length_map .., fun ps hps => ?_⟩
  obtain ⟨mark, hm, rfl⟩ := List.mem_map.mp hps
  refine ⟨List.length_map .., fun p hp => ?_⟩
  obtain ⟨other, ho, rfl⟩ := List.mem_map.mp hp
  exact ⟨ho, hm⟩
theorem exch_pass {ms : List Str} {x y : Str} (hx : x ∈ ms) (hy : y ∈ ms) : passOf ms (exch ms) x y = (y, x) := by
  have hi := List.idxOf_lt_length_of_mem hx
  have hj := List.idxOf_lt_length_of_mem hy
  have e1 : (exch ms)[ms.idxOf x]? = some (ms.map fun other => (other, x)) := by
    unfold exch
    rw [List.getElem?_map, List.getElem?_eq_getElem hi, List.getElem_idxOf]
    rfl
  have e2 : (ms.map fun other => (other, x))[ms.idxOf y]? = some (y, x) := by
    rw [List.getElem?_map, List.getElem?_eq_getElem hj, List.getElem_idxOf]
    rfl
  exact passOf_eq e1 e2
/-- runners go where their order says -/
theorem exch_run {ms row : List Str} {n : Nat} (hl : row.length = n) (hm : ∀ z ∈ row, z ∈ ms) (ws : List Int) (hw : OkW n ws) : rowRun ms (exch ms) row ws = (run (idl n) ws).map fun r => row.getD r.toNat Str.empty := by
  have key : ∀ i, i ≤ ws.length → rowRun ms (exch ms) row (ws.take i) = (run (idl n) (ws.take i)).map fun r => row.getD r.toNat Str.empty := by
    intro i
    induction i with
    | zero =>
      intro _
      rw [List.take_zero, run_nil]
      show row = _
      refine List.ext_getElem? fun k => ?_
      rw [List.getElem?_map]
      by_cases hk : k < n
      · rw [idl_get hk]
        show row[k]? = some (row.getD ((k : Int)).toNat Str.empty)
        rw [Int.toNat_natCast, List.getD_eq_getElem?_getD, List.getElem?_eq_getElem (by omega)]
        rfl
      · rw [List.getElem?_eq_none (by omega), List.getElem?_eq_none (by rw [idl_len]; omega)]
        rfl
    | succ i ih =>
      intro hi
      have ih := ih (by omega)
      have hz : ws[i]? = some ws[i] := List.getElem?_eq_getElem (by omega)
      have bz := hw _ (List.getElem_mem (by omega : i < ws.length))
      obtain ⟨j, hj⟩ := Int.eq_ofNat_of_zero_le bz.1
      have et : ws.take (i + 1) = ws.take i ++ [(j : Int)] := by rw [List.take_add_one, hz, hj]; rfl
      obtain ⟨rl, rm⟩ := rowRun_ok (exch_full ms) (ws.take i) row hl hm fun x hx => hw x (List.mem_of_mem_take hx)
      have hlen : (run (idl n) (ws.take i)).length = n := by rw [run_len, idl_len]
      have ho := ord_run n (ws.take i)
      obtain ⟨p, hp⟩ : ∃ p, (run (idl n) (ws.take i))[j]? = some p := ⟨_, List.getElem?_eq_getElem (by omega)⟩
      obtain ⟨q, hq⟩ : ∃ q, (run (idl n) (ws.take i))[j + 1]? = some q := ⟨_, List.getElem?_eq_getElem (by omega)⟩
      rw [et, rowRun_snoc, run_snoc, Int.toNat_natCast, ← sw_cut hp hq]
      unfold stepRow
      have hx : (rowRun ms (exch ms) row (ws.take i))[j]? = some (row.getD p.toNat Str.empty) := by rw [ih, List.getElem?_map, hp]; rfl
      have hy : (rowRun ms (exch ms) row (ws.take i))[j + 1]? = some (row.getD q.toNat Str.empty) := by rw [ih, List.getElem?_map, hq]; rfl
      rw [getDs hx, getDs hy, exch_pass (rm _ (List.mem_of_getElem? hx)) (rm _ (List.mem_of_getElem? hy)), ih, List.map_append, List.map_cons, List.map_cons, List.map_take, List.map_drop]
      simp
  have := key ws.length (Nat.le_refl _)
  rwa [List.take_length] at this
theorem LineL.upd {H : Hp} {l b : Addr} {ps : List (Str × Str)} {xs : List V} {o : HO} (h : LineL H l ps) (n : l ≠ b) (hb : H b = some (.lst xs)) : LineL (L2.upd H b o) l ps := by
  obtain ⟨ts, h1, h2⟩ := h
  exact ⟨ts, by rw [upd_ne n]; exact h1, L2.Paired.mapP h2 fun _ _ t => t.upd (t.ne hb fun _ _ => nofun)⟩
/-! tuples of texts, compared -/
abbrev dS (ns : List Str) : List PyData := ns.map PyData.str
theorem dp_strs {K : PySem.W.Frag} {H : Hp} : ∀ ns : List Str, DpAll K H (ns.map V.str) (dS ns)
  | [] => .nil
  | n :: ns => .cons (.str n) (dp_strs ns)
theorem dp_tupS {K : PySem.W.Frag} {H : Hp} {a : Addr} {ns : List Str} (h : Tup H a (ns.map V.str)) : Dp K H (.ref a) (.tuple (dS ns)) := .tup h.t (dp_strs ns)
theorem depthS : ∀ ns : List Str, PyData.depthAll (dS ns) = 0
  | [] => rfl
  | n :: ns => by
    have := depthS ns
    simp only [dS, List.map_cons, PyData.depthAll, PyData.depth]
    simp [dS] at this
    omega
theorem name_ok {z : Str} (h : ∀ c ∈ z.cps.toList, Low c) : PyData.strOk z = true := by
  unfold PyData.strOk
  rw [← Array.all_toList, List.all_eq_true]
  intro c hc
  have := h c hc
  exact decide_eq_true (by unfold Low at this; omega)
theorem layS : ∀ ns : List Str, (∀ z ∈ ns, PyData.strOk z = true) → PyData.canLayAll0 (dS ns) = true
  | [], _ => by simp [PyData.canLayAll0]
  | n :: ns, h => by
    have := layS ns fun z hz => h z (by simp [hz])
    simp only [dS] at this
    simp [PyData.canLayAll0, PyData.canLay0, this, h n (by simp)]
theorem shaped_tupS (ns : List Str) (h : ∀ z ∈ ns, PyData.strOk z = true) : SeqAt.shaped (.tuple (dS ns)) = true := by
  have h1 := depthS ns
  have h2 := layS ns h
  simp only [dS] at h1 h2
  simp [SeqAt.shaped, PyData.canLay0, h2, PyData.depth, h1]
theorem eqv_refl_tupS (ns : List Str) : (!PyData.eqv (.tuple (dS ns)) (.tuple (dS ns))) = false := by
  have : ∀ ns : List Str, PyData.eqvAll (dS ns) (dS ns) = true := by
    intro ns
    induction ns with
    | nil => simp [PyData.eqvAll]
    | cons n ns ih =>
      simp only [dS] at ih
      simp [PyData.eqvAll, PyData.eqv, ih]
  have h := this ns
  simp only [dS] at h
  simp [PyData.eqv, h]
end Lw
set_option Elab.async false
set_option maxRecDepth 100000
namespace Lk12
open PySem L2 Lw
def top (i : Nat) : Stmt := PySem.Challenge.pw_passmarks_k12_whole_orders_and_rows.main.body.getD i (.Pass ⟨0, 0, 0, 0⟩)
def meth (i j : Nat) : Stmt := match top i with
  | .ClassDef _ _ _ body _ _ _ _ _ _ _ => body.getD j (.Pass ⟨0, 0, 0, 0⟩)
  | _ => .Pass ⟨0, 0, 0, 0⟩
section
variable {P : Program} {w : World} {K : PySem.W.Frag} {mg : Str → Option Value} {base : Heap}
abbrev s_is_listing : Stmt := top 13
theorem sc_is_listing : FnScope ["thing"] ["thing"] (defScope s_is_listing) := ⟨rfl, rfl, rfl, by decide +kernel, rfl, by decide +kernel, by decide +kernel⟩
def spIsL : Sp := fun vs H Q _ => ∃ (a : Addr) (xs : List V), vs = [.ref a] ∧ Sq H a xs ∧ ∀ H', Same H H' → Q (.bl true) H'
theorem ok_is_listing {f : Addr} {fd : FuncData} (F : Fun K "is_listing" "is_listing" s_is_listing f fd) (T : Bare mg) : FnOk P w K mg base CX0 1 f fd ["thing"] spIsL := by
  refine F.ok sc_is_listing (fun vs H Q E h => ?_) (fun cdv A outer s H vs Q E hr h => ?_)
  · obtain ⟨a, xs, rfl, _⟩ := h
    rfl
  · obtain ⟨a, xs, rfl, hq, k⟩ := h
    refine ⟨_, (pss_one (ps_ret (pe_callB (call_isiTK (K := K) rfl) (by rfl) T.n_isinstance (by decide +kernel) (pa_cons (pv 0) (pa_cons (pe_tup (pa_cons (pe_bltn (v := .ty "list") (by rfl) T.n_list (by decide +kernel) rfl) (pa_cons (pe_bltn (v := .ty "tuple") (by rfl) T.n_tuple (by decide +kernel) rfl) pa_nil))) pa_nil))))), ?_⟩
    refine ⟨_, rfl, (by show 2 ≤ sizeLine; decide), fun t nt => ?_⟩
    have s1 : Same H (upd H t (.tup [.ty "list", .ty "tuple"])) := same_new nt
    rcases (hq.same s1).ty (K := K) with ty | ty
    · exact ⟨_, t, _, _, _, true, rfl, upd_same, .cons (.ty "list") (.cons (.ty "tuple") .nil), ty, kitAny_cons (kit_ty (r := true) (by decide +kernel)) nofun fun _ => rfl, k _ s1⟩
    · exact ⟨_, t, _, _, _, true, rfl, upd_same, .cons (.ty "list") (.cons (.ty "tuple") .nil), ty, kitAny_cons (kit_ty (r := false) (by decide +kernel)) (fun _ => kitAny_cons (kit_ty (r := true) (by decide +kernel)) nofun fun _ => rfl) nofun, k _ s1⟩
abbrev s_is_number : Stmt := top 14
theorem sc_is_number : FnScope ["thing", "least", "most"] ["thing", "least", "most"] (defScope s_is_number) := ⟨rfl, rfl, rfl, by decide +kernel, rfl, by decide +kernel, by decide +kernel⟩
def spIsN : Sp := fun vs H Q _ => ∃ (i a b : Int), vs = [.int i, .int a, .int b] ∧ Q (.bl (decide (a ≤ i ∧ i ≤ b))) H
theorem ok_is_number {f : Addr} {fd : FuncData} (F : Fun K "is_number" "is_number" s_is_number f fd) (T : Bare mg) : FnOk P w K mg base CX0 1 f fd ["thing", "least", "most"] spIsN := by
  refine F.ok sc_is_number (fun vs H Q E h => ?_) (fun cdv A outer s H vs Q E hr h => ?_)
  · obtain ⟨i, a, b, rfl, _⟩ := h
    rfl
  · obtain ⟨i, a, b, rfl, k⟩ := h
    refine ⟨_, (pss_one (ps_ret (pe_and (pe_callB (call_isiK' (K := K) rfl) (by rfl) T.n_isinstance (by decide +kernel) (pa_cons (pv 0) (pa_cons (pe_bltn (v := .ty "int") (by rfl) T.n_int (by decide +kernel) rfl) pa_nil))) (pe_and (pe_not (pe_callB (call_isiK' (K := K) rfl) (by rfl) T.n_isinstance (by decide +kernel) (pa_cons (pv 0) (pa_cons (pe_bltn (v := .ty "bool") (by rfl) T.n_bool (by decide +kernel) rfl) pa_nil)))) (pe_one (pe_chain op_le op_le (pv 1) (pv 0) (pv 2))))))), ?_⟩
    refine ⟨_, rfl, _, _, _, _, true, rfl, .ty "int", .base (.int i), kit_ty (by decide +kernel), _, rfl, iteT ?_⟩
    refine ⟨_, rfl, _, _, _, _, false, rfl, .ty "bool", .base (.int i), kit_ty (by decide +kernel), _, rfl, _, rfl, iteT ?_⟩
    refine ⟨_, rfl, _, rfl, _, _, rfl, rfl, _, rfl, ?_⟩
    refine ite2 (fun h => ?_) (fun h => ?_)
    · refine ⟨_, rfl, _, _, rfl, rfl, ?_⟩
      have e : decide (a ≤ i ∧ i ≤ b) = decide (i ≤ b) := by simp [of_decide_eq_true h]
      rw [e] at k
      exact k
    · have e : decide (a ≤ i ∧ i ≤ b) = false := by simp at h; simp; omega
      rw [e] at k
      exact k
abbrev s_word_fault : Stmt := top 16
theorem sc_word_fault : FnScope ["places", "word", "at", "place"] ["places", "word"] (defScope s_word_fault) := ⟨rfl, rfl, rfl, by decide +kernel, rfl, by decide +kernel, by decide +kernel⟩
def spWordF : Sp := fun vs H Q _ => ∃ (n : Nat) (a : Addr) (ws : List Int), vs = [.int n, .ref a] ∧ Sq H a (ws.map V.int) ∧ OkW n ws ∧ ws.length ≤ 2000 ∧ ∀ H', Same H H' → Q .non H'
theorem ok_word_fault {f : Addr} {fd : FuncData} (F : Fun K "word_fault" "word_fault" s_word_fault f fd) (T : Bare mg) (hW : ∃ t, mg "WORD" = some (.int 2000 t))
    (D1 : Has P w K mg base 1 "is_listing" ["thing"] spIsL) (D2 : Has P w K mg base 1 "is_number" ["thing", "least", "most"] spIsN) : FnOk P w K mg base CX0 2 f fd ["places", "word"] spWordF := by
  obtain ⟨tW, g_WORD⟩ := hW
  obtain ⟨_, _, G_is_listing, m_is_listing, k_is_listing, b_is_listing⟩ := D1
  obtain ⟨_, _, G_is_number, m_is_number, k_is_number, b_is_number⟩ := D2
  refine F.ok sc_word_fault (fun vs H Q E h => ?_) (fun cdv A outer s H vs Q E hr h => ?_)
  · obtain ⟨n, a, ws, rfl, _⟩ := h
    rfl
  · obtain ⟨n, a, ws, rfl, hq, hw, hl, k⟩ := h
    refine ⟨_, (pss_cons (ps_if (PW.pt (pw_or (pt_not (pt_val (pe_call G_is_listing (hr.mono (by decide)) rfl m_is_listing k_is_listing b_is_listing .nil pass0 (pa_cons (pv 1) pa_nil)))) (pw_or1 (pt_cmpR op_gt (pe_callB (call_lenK (K := K) rfl) (by rfl) T.n_len PySem.boot_len (pa_cons (pv 1) pa_nil)) (pe_glob (v := .int 2000) rfl g_WORD ⟨_, rfl⟩) (nomark _)))))
      (pss_one (ps_ret (pe_un un_neg pe_int))) pss_nil)
      (pss_cons (ps_for PassesOwn.never rfl (pi_enumA rfl T.n_enumerate (pa_cons (pv 1) pa_nil)) (pg_tup rfl (pgs_cons (pg_name (i := 2) sc_word_fault.nd rfl (Or.inl rfl)) (pgs_cons (pg_name (i := 3) sc_word_fault.nd rfl (Or.inl rfl)) pgs_nil)))
      (pss_one (ps_if (pt_not (pt_val (pe_call G_is_number (hr.mono (by decide)) rfl m_is_number k_is_number b_is_number .nil pass0 (pa_cons (pv 3) (pa_cons pe_int (pa_cons (pe_op op_sub (pv 0) pe_int) pa_nil))))))
      (pss_one (ps_ret (pv 2))) pss_nil)))
      (pss_one (ps_ret pe_non)))), ?_⟩
    refine ⟨_, rfl, a, _, rfl, hq, fun H1 s1 => ⟨_, rfl, iteF ⟨_, rfl, a, _, rfl, (hq.same s1).lt, _, _, rfl, rfl, _, rfl, ifF (decide_eq_false (by rw [List.length_map]; omega)) ?_⟩⟩⟩
    refine ⟨_, rfl, enum_go (K := K) hq (fun i σ H' => (∃ u v, σ = [some (.int n), some (.ref a), u, v]) ∧ Same H H') ⟨⟨_, _, rfl⟩, s1⟩ (fun i σ H' _ p => p.2) ?_ ?_⟩
    · rintro i x σ H' t hx ⟨⟨u, v, rfl⟩, s⟩ nt
      obtain ⟨z, hz, rfl⟩ := map_get hx
      have bz := hw z (List.mem_of_getElem? hz)
      refine ⟨t, _, rfl, SqT.of upd_same, rfl, _, _, rfl, _, _, rfl, rfl, ?_⟩
      refine ⟨_, rfl, _, rfl, _, _, rfl, rfl, _, _, _, rfl, _, rfl, ifF (by simp; omega) ?_⟩
      exact ⟨⟨_, _, rfl⟩, s.trans (same_new nt)⟩
    · rintro σ H' ⟨_, s⟩
      exact k H' s
abbrev s_order_fault : Stmt := top 17
theorem sc_order_fault : FnScope ["order", "at", "runner"] ["order"] (defScope s_order_fault) := ⟨rfl, rfl, rfl, by decide +kernel, rfl, by decide +kernel, by decide +kernel⟩
def spOrderF : Sp := fun vs H Q _ => ∃ (n : Nat) (a : Addr) (p : List Int), vs = [.ref a] ∧ Sq H a (p.map V.int) ∧ Ord n p ∧ 1 ≤ n ∧ n ≤ 60 ∧ ∀ H', Same H H' → Q .non H'
theorem ok_order_fault {f : Addr} {fd : FuncData} (F : Fun K "order_fault" "order_fault" s_order_fault f fd) (T : Bare mg) (hP : ∃ t, mg "PLACES" = some (.int 60 t))
    (D1 : Has P w K mg base 1 "is_listing" ["thing"] spIsL) (D2 : Has P w K mg base 1 "is_number" ["thing", "least", "most"] spIsN) : FnOk P w K mg base CX0 2 f fd ["order"] spOrderF := by
  obtain ⟨tP, g_PLACES⟩ := hP
  obtain ⟨_, _, G_is_listing, m_is_listing, k_is_listing, b_is_listing⟩ := D1
  obtain ⟨_, _, G_is_number, m_is_number, k_is_number, b_is_number⟩ := D2
  refine F.ok sc_order_fault (fun vs H Q E h => ?_) (fun cdv A outer s H vs Q E hr h => ?_)
  · obtain ⟨n, a, p, rfl, _⟩ := h
    rfl
  · obtain ⟨n, a, p, rfl, hq, ho, hn1, hn60, k⟩ := h
    have hlen : (p.map V.int).length = n := by rw [List.length_map, ho.len]
    refine ⟨_, (pss_cons (ps_if (PW.pt (pw_or (pt_not (pt_val (pe_call G_is_listing (hr.mono (by decide)) rfl m_is_listing k_is_listing b_is_listing .nil pass0 (pa_cons (pv 0) pa_nil)))) (pw_or1 (pt_not (pt_chain op_le op_le pe_int (pe_callB (call_lenK (K := K) rfl) (by rfl) T.n_len PySem.boot_len (pa_cons (pv 0) pa_nil)) (pe_glob (v := .int 60) rfl g_PLACES ⟨_, rfl⟩))))))
      (pss_one (ps_ret (pe_un un_neg pe_int))) pss_nil)
      (pss_cons (ps_for PassesOwn.never rfl (pi_enumA rfl T.n_enumerate (pa_cons (pv 0) pa_nil)) (pg_tup rfl (pgs_cons (pg_name (i := 1) sc_order_fault.nd rfl (Or.inl rfl)) (pgs_cons (pg_name (i := 2) sc_order_fault.nd rfl (Or.inl rfl)) pgs_nil)))
      (pss_one (ps_if (PW.pt (pw_or (pt_not (pt_val (pe_call G_is_number (hr.mono (by decide)) rfl m_is_number k_is_number b_is_number .nil pass0 (pa_cons (pv 2) (pa_cons pe_int (pa_cons (pe_op op_sub (pe_callB (call_lenK (K := K) rfl) (by rfl) T.n_len PySem.boot_len (pa_cons (pv 0) pa_nil)) pe_int) pa_nil)))))) (pw_or1 (pt_cmpR op_in_seq (pv 2) (pe_slice (sl_seqF (K := K) rfl) (pv 0) po_none (po_some (pv 1))) (by rfl)))))
      (pss_one (ps_ret (pv 1))) pss_nil)))
      (pss_one (ps_ret pe_non)))), ?_⟩
    refine ⟨_, rfl, a, _, rfl, hq, fun H1 s1 => ⟨_, rfl, iteF ?_⟩⟩
    refine ⟨_, rfl, a, _, rfl, (hq.same s1).lt, _, _, rfl, rfl, _, rfl, ifT (decide_eq_true (by rw [hlen]; omega)) ⟨_, _, rfl, rfl, _, rfl, ifF (by rw [hlen]; simp; omega) ?_⟩⟩
    refine ⟨_, rfl, enum_go (K := K) hq (fun i σ H' => (∃ u v, σ = [some (.ref a), u, v]) ∧ Same H H') ⟨⟨_, _, rfl⟩, s1⟩ (fun i σ H' _ p => p.2) ?_ ?_⟩
    · rintro i x σ H' t hx ⟨⟨u, v, rfl⟩, s⟩ nt
      obtain ⟨z, hz, rfl⟩ := map_get hx
      have bz := ho.mem.mp (List.mem_of_getElem? hz)
      have s2 : Same H (upd H' t (.tup [.int (i : Nat), .int z])) := s.trans (same_new nt)
      have hil : i ≤ p.length := Nat.le_of_lt (List.getElem?_eq_some_iff.mp hz).1
      have fresh : inV (.int z) ((p.take i).map V.int) = false := by
        rw [inV_int]
        refine decide_eq_false fun hm => ?_
        obtain ⟨j, hj⟩ := List.getElem?_of_mem hm
        have hji : j < i := by
          have := (List.getElem?_eq_some_iff.mp hj).1
          rw [List.length_take] at this
          omega
        rw [List.getElem?_take_of_lt hji] at hj
        have := nd_ix ho.nodup hj hz
        omega
      refine ⟨t, _, rfl, SqT.of upd_same, rfl, _, _, rfl, _, _, rfl, rfl, ?_⟩
      refine ⟨_, rfl, _, rfl, a, _, rfl, (hq.same s2).lt, _, _, rfl, rfl, _, _, _, rfl, _, rfl, ifF (by rw [hlen]; simp; omega) ?_⟩
      refine ⟨_, rfl, _, rfl, _, rfl, _, rfl, ?_⟩
      refine sl_by (hq.same s2) fun c H3 s3 hc => ?_
      refine ⟨c, _, rfl, hc.lt, rfl, (by rw [cut_to hil]; exact flat_ints _), _, rfl, ifF (by rw [cut_to hil]; exact fresh) ?_⟩
      exact ⟨⟨_, _, rfl⟩, s2.trans s3⟩
    · rintro σ H' ⟨_, s⟩
      exact k H' s
abbrev s_number_taken : Stmt := top 18
theorem sc_number_taken : FnScope ["thing", "least", "most"] ["thing", "least", "most"] (defScope s_number_taken) := ⟨rfl, rfl, rfl, by decide +kernel, rfl, by decide +kernel, by decide +kernel⟩
def spNumT : Sp := fun vs H Q _ => ∃ (i a b : Int), vs = [.int i, .int a, .int b] ∧ a ≤ i ∧ i ≤ b ∧ Q (.int i) H
theorem ok_number_taken {f : Addr} {fd : FuncData} (F : Fun K "number_taken" "number_taken" s_number_taken f fd)
    (D2 : Has P w K mg base 1 "is_number" ["thing", "least", "most"] spIsN) : FnOk P w K mg base CX0 2 f fd ["thing", "least", "most"] spNumT := by
  obtain ⟨_, _, G_is_number, m_is_number, k_is_number, b_is_number⟩ := D2
  refine F.ok sc_number_taken (fun vs H Q E h => ?_) (fun cdv A outer s H vs Q E hr h => ?_)
  · obtain ⟨i, a, b, rfl, _⟩ := h
    rfl
  · obtain ⟨i, a, b, rfl, h1, h2, k⟩ := h
    refine ⟨_, (pss_cons (ps_if (pt_not (pt_val (pe_call G_is_number (hr.mono (by decide)) rfl m_is_number k_is_number b_is_number .nil pass0 (pa_cons (pv 0) (pa_cons (pv 1) (pa_cons (pv 2) pa_nil))))))
      (pss_one ps_never) pss_nil)
      (pss_one (ps_ret (pv 0)))), ?_⟩
    exact ⟨_, rfl, _, rfl, _, rfl, _, _, _, rfl, _, rfl, ifF (by simp; omega) ⟨_, rfl, k⟩⟩
abbrev s_places_taken : Stmt := top 19
theorem sc_places_taken : FnScope ["thing"] ["thing"] (defScope s_places_taken) := ⟨rfl, rfl, rfl, by decide +kernel, rfl, by decide +kernel, by decide +kernel⟩
def spPlacesT : Sp := fun vs H Q _ => ∃ (n : Nat), vs = [.int n] ∧ 1 ≤ n ∧ n ≤ 60 ∧ Q (.int n) H
theorem ok_places_taken {f : Addr} {fd : FuncData} (F : Fun K "places_taken" "places_taken" s_places_taken f fd) (hP : ∃ t, mg "PLACES" = some (.int 60 t))
    (D : Has P w K mg base 2 "number_taken" ["thing", "least", "most"] spNumT) : FnOk P w K mg base CX0 3 f fd ["thing"] spPlacesT := by
  obtain ⟨tP, g_PLACES⟩ := hP
  obtain ⟨_, _, G_number_taken, m_number_taken, k_number_taken, b_number_taken⟩ := D
  refine F.ok sc_places_taken (fun vs H Q E h => ?_) (fun cdv A outer s H vs Q E hr h => ?_)
  · obtain ⟨n, rfl, _⟩ := h
    rfl
  · obtain ⟨n, rfl, h1, h2, k⟩ := h
    refine ⟨_, (pss_one (ps_ret (pe_call G_number_taken (hr.mono (by decide)) rfl m_number_taken k_number_taken b_number_taken .nil pass0 (pa_cons (pv 0) (pa_cons pe_int (pa_cons (pe_glob (v := .int 60) rfl g_PLACES ⟨_, rfl⟩) pa_nil)))))), ?_⟩
    exact ⟨_, rfl, _, _, _, rfl, by omega, by omega, k⟩
abbrev s_word_taken : Stmt := top 21
theorem sc_word_taken : FnScope ["places", "word", "at"] ["places", "word"] (defScope s_word_taken) := ⟨rfl, rfl, rfl, by decide +kernel, rfl, by decide +kernel, by decide +kernel⟩
def spWordT : Sp := fun vs H Q _ => ∃ (n : Nat) (a : Addr) (ws : List Int), vs = [.int n, .ref a] ∧ Sq H a (ws.map V.int) ∧ OkW n ws ∧ ws.length ≤ 2000 ∧ ∀ r H', Same H H' → Tup H' r (ws.map V.int) → Q (.ref r) H'
theorem ok_word_taken {f : Addr} {fd : FuncData} (F : Fun K "word_taken" "word_taken" s_word_taken f fd) (T : Bare mg)
    (D : Has P w K mg base 2 "word_fault" ["places", "word"] spWordF) : FnOk P w K mg base CX0 3 f fd ["places", "word"] spWordT := by
  obtain ⟨_, _, G_word_fault, m_word_fault, k_word_fault, b_word_fault⟩ := D
  refine F.ok sc_word_taken (fun vs H Q E h => ?_) (fun cdv A outer s H vs Q E hr h => ?_)
  · obtain ⟨n, a, ws, rfl, _⟩ := h
    rfl
  · obtain ⟨n, a, ws, rfl, hq, hw, hl, k⟩ := h
    refine ⟨_, (pss_cons (ps_set (i := 2) sc_word_taken.nd rfl (Or.inl rfl) (pe_call G_word_fault (hr.mono (by decide)) rfl m_word_fault k_word_fault b_word_fault .nil pass0 (pa_cons (pv 0) (pa_cons (pv 1) pa_nil))))
      (pss_cons (ps_if (pt_cmpR op_notN (pv 2) pe_non (nomark _))
      (pss_one ps_never) pss_nil)
      (pss_one (ps_ret (pe_callTy (call_tupleF (K := K) rfl) (by rfl) T.n_tuple (by decide +kernel) (pa_cons (pv 1) pa_nil)))))), ?_⟩
    refine ⟨_, rfl, _, rfl, n, a, ws, rfl, hq, hw, hl, fun H1 s1 => ?_⟩
    refine ⟨_, rfl, rfl, _, rfl, ifF rfl ⟨_, rfl, a, _, rfl, (hq.same s1).lf, fun r H2 s2 hr2 => k r H2 (s1.trans s2) hr2⟩⟩
abbrev s_order_taken : Stmt := top 22
theorem sc_order_taken : FnScope ["order", "at"] ["order"] (defScope s_order_taken) := ⟨rfl, rfl, rfl, by decide +kernel, rfl, by decide +kernel, by decide +kernel⟩
def spOrderT : Sp := fun vs H Q _ => ∃ (n : Nat) (a : Addr) (p : List Int), vs = [.ref a] ∧ Sq H a (p.map V.int) ∧ Ord n p ∧ 1 ≤ n ∧ n ≤ 60 ∧ ∀ r H', Same H H' → Tup H' r (p.map V.int) → Q (.ref r) H'
theorem ok_order_taken {f : Addr} {fd : FuncData} (F : Fun K "order_taken" "order_taken" s_order_taken f fd) (T : Bare mg)
    (D : Has P w K mg base 2 "order_fault" ["order"] spOrderF) : FnOk P w K mg base CX0 3 f fd ["order"] spOrderT := by
  obtain ⟨_, _, G_order_fault, m_order_fault, k_order_fault, b_order_fault⟩ := D
  refine F.ok sc_order_taken (fun vs H Q E h => ?_) (fun cdv A outer s H vs Q E hr h => ?_)
  · obtain ⟨n, a, p, rfl, _⟩ := h
    rfl
  · obtain ⟨n, a, p, rfl, hq, ho, hn1, hn60, k⟩ := h
    refine ⟨_, (pss_cons (ps_set (i := 1) sc_order_taken.nd rfl (Or.inl rfl) (pe_call G_order_fault (hr.mono (by decide)) rfl m_order_fault k_order_fault b_order_fault .nil pass0 (pa_cons (pv 0) pa_nil)))
      (pss_cons (ps_if (pt_cmpR op_notN (pv 1) pe_non (nomark _))
      (pss_one ps_never) pss_nil)
      (pss_one (ps_ret (pe_callTy (call_tupleF (K := K) rfl) (by rfl) T.n_tuple (by decide +kernel) (pa_cons (pv 0) pa_nil)))))), ?_⟩
    refine ⟨_, rfl, n, a, p, rfl, hq, ho, hn1, hn60, fun H1 s1 => ?_⟩
    refine ⟨_, rfl, rfl, _, rfl, ifF rfl ⟨_, rfl, a, _, rfl, (hq.same s1).lf, fun r H2 s2 hr2 => k r H2 (s1.trans s2) hr2⟩⟩
abbrev s_order_of : Stmt := top 24
theorem sc_order_of : FnScope ["places", "word", "order", "place"] ["places", "word"] (defScope s_order_of) := ⟨rfl, rfl, rfl, by decide +kernel, rfl, by decide +kernel, by decide +kernel⟩
def spOrderOf : Sp := fun vs H Q _ => ∃ (n : Nat) (a : Addr) (ws : List Int), vs = [.int n, .ref a] ∧ 1 ≤ n ∧ n ≤ 60 ∧ Sq H a (ws.map V.int) ∧ OkW n ws ∧ ws.length ≤ 2000 ∧
  ∀ r H', Same H H' → Tup H' r ((run (idl n) ws).map V.int) → Q (.ref r) H'
theorem ok_order_of {f : Addr} {fd : FuncData} (F : Fun K "order_of" "order_of" s_order_of f fd) (T : Bare mg)
    (D1 : Has P w K mg base 3 "places_taken" ["thing"] spPlacesT) (D2 : Has P w K mg base 3 "word_taken" ["places", "word"] spWordT) : FnOk P w K mg base CX0 4 f fd ["places", "word"] spOrderOf := by
  obtain ⟨_, _, G_places_taken, m_places_taken, k_places_taken, b_places_taken⟩ := D1
  obtain ⟨_, _, G_word_taken, m_word_taken, k_word_taken, b_word_taken⟩ := D2
  refine F.ok sc_order_of (fun vs H Q E h => ?_) (fun cdv A outer s H vs Q E hr h => ?_)
  · obtain ⟨n, a, ws, rfl, _⟩ := h
    rfl
  · obtain ⟨n, a, ws, rfl, h1, h60, hq, hw, hl, k⟩ := h
    refine ⟨_, (pss_cons (ps_set (i := 2) sc_order_of.nd rfl (Or.inl rfl) (pe_listRg rfl rfl T.n_list (prg_1 rfl T.n_range (pe_call G_places_taken (hr.mono (by decide)) rfl m_places_taken k_places_taken b_places_taken .nil pass0 (pa_cons (pv 0) pa_nil)))))
      (pss_cons (ps_for PassesOwn.never rfl (pi_tup (pe_call G_word_taken (hr.mono (by decide)) rfl m_word_taken k_word_taken b_word_taken .nil pass0 (pa_cons (pv 0) (pa_cons (pv 1) pa_nil)))) (pg_name (i := 3) sc_order_of.nd rfl (Or.inl rfl))
      (pss_one (ps_asg (pe_tupF (pa_cons (pe_ix ix_list (pv 2) (pe_op op_add (pv 3) pe_int) (fun _ _ => rfl)) (pa_cons (pe_ix ix_list (pv 2) (pv 3) (fun _ _ => rfl)) pa_nil))) (pg_tup rfl (pgs_cons (pg_sub (pv 2) (pv 3) set_list) (pgs_cons (pg_sub (pv 2) (pe_op op_add (pv 3) pe_int) set_list) pgs_nil))))))
      (pss_one (ps_ret (pe_callTy (call_tupleF (K := K) rfl) (by rfl) T.n_tuple (by decide +kernel) (pa_cons (pv 2) pa_nil)))))), ?_⟩
    refine ⟨_, rfl, n, rfl, h1, h60, _, rfl, RgOk.of_le (by omega) (by omega) (by omega) (by omega), fun o no => ?_⟩
    rw [rg_idl]
    have s1 : Same H (upd H o (.lst ((idl n).map V.int))) := same_new no
    refine ⟨_, rfl, _, rfl, n, a, ws, rfl, hq.same s1, hw, hl, fun t H2 s2 ht => ?_⟩
    have nto : t ≠ o := ht.ne (s2 _ _ upd_same) fun _ _ => nofun
    have hno : H o = none := no
    refine ⟨t, rfl, ⟨_, ht.t⟩, for_tup (K := K) (a := t) (xs := ws.map V.int) (fun i σ H' => (∃ u, σ = [some (.int n), some (.ref a), some (.ref o), u]) ∧ Same H H' ∧ Tup H' t (ws.map V.int) ∧ H' o = some (.lst ((run (idl n) (ws.take i)).map V.int)))
      ⟨⟨_, rfl⟩, s1.trans s2, ht, s2 _ _ upd_same⟩ (fun i σ H' _ p => p.2.2.1.t) ?_ ?_⟩
    · rintro i x σ H' hx ⟨⟨u, rfl⟩, s, ht', ho'⟩
      obtain ⟨z, hz, rfl⟩ := map_get hx
      have bz := hw z (List.mem_of_getElem? hz)
      obtain ⟨j, rfl⟩ := Int.eq_ofNat_of_zero_le bz.1
      have hlen : (run (idl n) (ws.take i)).length = n := by rw [run_len, idl_len]
      obtain ⟨p, hp⟩ : ∃ p, (run (idl n) (ws.take i))[j]? = some p := ⟨_, List.getElem?_eq_getElem (by omega)⟩
      obtain ⟨q, hq'⟩ : ∃ q, (run (idl n) (ws.take i))[j + 1]? = some q := ⟨_, List.getElem?_eq_getElem (by omega)⟩
      have e1 : ((j : Int) + 1) = ((j + 1 : Nat) : Int) := by omega
      refine ⟨_, rfl, _, rfl, _, _, rfl, rfl, o, _, _, _, rfl, rfl, SqL.of ho', (by rw [e1]; exact at_int' hq'), _, rfl, _, rfl, o, _, _, _, rfl, rfl, SqL.of ho', at_int' hp, (by show 2 ≤ sizeLine; decide), fun c H3 s3 hc => ?_⟩
      have ix1 : ixN ((run (idl n) (ws.take i)).map V.int).length (j : Int) = some j := by
        unfold ixN
        rw [if_pos (by omega), List.length_map, hlen, if_pos (by omega)]
        simp
      refine ⟨c, _, rfl, hc.t, rfl, _, _, rfl, _, rfl, _, rfl, o, _, _, j, rfl, rfl, s3 _ _ ho', ix1, _, _, rfl, _, rfl, _, rfl, _, _, rfl, rfl, o, _, _, j + 1, rfl, rfl, upd_same, ?_, rfl, ?_⟩
      · unfold ixN
        rw [if_pos (by omega), List.length_set, List.length_map, hlen, if_pos (by omega)]
        simp
      · have hoH : ∀ b ob, H b = some ob → b ≠ o := fun b ob e => ne_of_none e hno
        refine ⟨⟨_, rfl⟩, fun b ob e => ?_, ?_, ?_⟩
        · rw [upd_ne (hoH _ _ e), upd_ne (hoH _ _ e)]
          exact s3 _ _ (s _ _ e)
        · exact ((ht'.same s3).upd nto).upd nto
        · have et : ws.take (i + 1) = ws.take i ++ [(j : Int)] := by rw [List.take_add_one, hz]; rfl
          rw [upd_same, et, run_snoc, Int.toNat_natCast, ← sw_set hp hq', List.map_set, List.map_set]
    · rintro σ H' ⟨⟨u, rfl⟩, s, _, ho'⟩
      rw [List.length_map, List.take_length] at ho'
      exact ⟨_, rfl, o, _, rfl, .inl (SqL.of ho'), fun r H2 s2 hr2 => k r H2 (s.trans s2) hr2⟩
abbrev s_joined : Stmt := top 25
theorem sc_joined : FnScope ["one", "other", "first", "place"] ["one", "other"] (defScope s_joined) := ⟨rfl, rfl, rfl, by decide +kernel, rfl, by decide +kernel, by decide +kernel⟩
def spJoined : Sp := fun vs H Q _ => ∃ (n : Nat) (a b : Addr) (p q : List Int), vs = [.ref a, .ref b] ∧ 1 ≤ n ∧ n ≤ 60 ∧ Sq H a (p.map V.int) ∧ Sq H b (q.map V.int) ∧ Ord n p ∧ Ord n q ∧
  ∀ r H', Same H H' → Tup H' r ((q.map fun i => p.getD i.toNat 0).map V.int) → Q (.ref r) H'
theorem ok_joined {f : Addr} {fd : FuncData} (F : Fun K "joined" "joined" s_joined f fd) (T : Bare mg)
    (D1 : Has P w K mg base 1 "is_listing" ["thing"] spIsL) (D2 : Has P w K mg base 3 "order_taken" ["order"] spOrderT) : FnOk P w K mg base CX0 4 f fd ["one", "other"] spJoined := by
  obtain ⟨_, _, G_is_listing, m_is_listing, k_is_listing, b_is_listing⟩ := D1
  obtain ⟨_, _, G_order_taken, m_order_taken, k_order_taken, b_order_taken⟩ := D2
  refine F.ok sc_joined (fun vs H Q E h => ?_) (fun cdv A outer s H vs Q E hr h => ?_)
  · obtain ⟨n, a, b, p, q, rfl, _⟩ := h
    rfl
  · obtain ⟨n, a, b, p, q, rfl, h1, h60, ha, hb, hp, hq, k⟩ := h
    refine ⟨_, (pss_cons (ps_set (i := 2) sc_joined.nd rfl (Or.inr rfl) (pe_call G_order_taken (hr.mono (by decide)) rfl m_order_taken k_order_taken b_order_taken .nil pass0 (pa_cons (pv 0) pa_nil)))
      (pss_cons (ps_if (PW.pt (pw_and (pt_val (pe_call G_is_listing (hr.mono (by decide)) rfl m_is_listing k_is_listing b_is_listing .nil pass0 (pa_cons (pv 1) pa_nil))) (pw_and1 (pt_cmpR op_ne (pe_callB (call_lenK (K := K) rfl) (by rfl) T.n_len PySem.boot_len (pa_cons (pv 1) pa_nil)) (pe_callB (call_lenK (K := K) rfl) (by rfl) T.n_len PySem.boot_len (pa_cons (pv 2) pa_nil)) (nomark _)))))
      (pss_one ps_never) pss_nil)
      (pss_one (ps_ret (pe_callTy (call_tupleF (K := K) rfl) (by rfl) T.n_tuple (by decide +kernel) (pa_cons (pe_lc (own := [("place", 3)]) (g := gName 3) (tt := tYes) rfl sc_joined.nd (pi_tup (pe_call G_order_taken (hr.mono (by decide)) rfl m_order_taken k_order_taken b_order_taken .nil pass0 (pa_cons (pv 1) pa_nil))) (blkOk_by (own := [("place", 3)]) (N := ["one", "other", "first", "place"]) (sc := defScope s_joined) (by decide +kernel)) (fun _ _ _ _ _ => pg_name (i := 3) sc_joined.nd rfl (Or.inl rfl)) (fun _ _ _ _ _ => pts_nil) (fun _ _ _ _ _ => (pe_ix (ix_tupK (K := K) rfl) (pv 2) (pv 3) (fun _ _ => rfl)))) pa_nil)))))), ?_⟩
    refine ⟨_, rfl, n, a, p, rfl, ha, hp, h1, h60, fun t H1 s1 ht => ?_⟩
    refine ⟨_, rfl, b, _, rfl, hb.same s1, fun H2 s2 => ⟨_, rfl, iteT ?_⟩⟩
    have s12 := s1.trans s2
    refine ⟨_, rfl, b, _, rfl, (hb.same s12).lt, _, rfl, t, _, rfl, .inr (ht.same s2).t, rfl, _, rfl, ifF (by simp [hp.len, hq.len]) ?_⟩
    refine ⟨_, rfl, n, b, q, rfl, hb.same s12, hq, h1, h60, fun u H3 s3 hu => ?_⟩
    have s13 := s12.trans s3
    have ht3 := (ht.same s2).same s3
    refine ⟨u, rfl, ⟨_, hu.t⟩, fun D nD => lc_tup (K := K) (a := u) (xs := q.map V.int) (fun i H' => Same H3 H' ∧ H' D = some (.lst (((q.take i).map fun i => p.getD i.toNat 0).map V.int))) ⟨same_new nD, upd_same⟩ (fun i H' _ z => (hu.same z.1).t) ?_ ?_⟩
    · rintro i x H' hx ⟨s4, hD⟩
      obtain ⟨z, hz, rfl⟩ := map_get hx
      have bz := hq.mem.mp (List.mem_of_getElem? hz)
      obtain ⟨j, rfl⟩ := Int.eq_ofNat_of_zero_le bz.1
      have hj : p[j]? = some (p.getD j 0) := by
        have hjl : j < p.length := by rw [hp.len]; omega
        rw [List.getD_eq_getElem?_getD, List.getElem?_eq_getElem hjl]
        rfl
      refine ⟨rfl, _, rfl, _, rfl, t, _, _, _, rfl, rfl, (ht3.same s4).t, at_int' hj, _, hD, ?_, ?_, ?_⟩
      · rw [List.length_map, List.length_map, List.length_take]
        have := hq.len
        exact small_lt (by omega)
      · exact fun b' o' e => by rw [upd_ne (ne_of_none e nD)]; exact s4 _ _ e
      · have et : q.take (i + 1) = q.take i ++ [(j : Int)] := by rw [List.take_add_one, hz]; rfl
        rw [upd_same, et, List.map_append, List.map_append]
        rfl
    · rintro H' ⟨s4, hD⟩
      rw [List.length_map, List.take_length] at hD
      exact ⟨D, _, rfl, .inl (SqL.of hD), fun r H5 s5 hr5 => k r H5 ((s13.trans s4).trans s5) hr5⟩
abbrev s_undone : Stmt := top 26
theorem sc_undone : FnScope ["order", "runners", "runner"] ["order"] (defScope s_undone) := ⟨rfl, rfl, rfl, by decide +kernel, rfl, by decide +kernel, by decide +kernel⟩
def spUndone : Sp := fun vs H Q _ => ∃ (n : Nat) (a : Addr) (p q : List Int), vs = [.ref a] ∧ 1 ≤ n ∧ n ≤ 60 ∧ Sq H a (p.map V.int) ∧ Ord n p ∧ Undoes n p q ∧
  ∀ r H', Same H H' → Tup H' r (q.map V.int) → Q (.ref r) H'
theorem ok_undone {f : Addr} {fd : FuncData} (F : Fun K "undone" "undone" s_undone f fd) (T : Bare mg)
    (D2 : Has P w K mg base 3 "order_taken" ["order"] spOrderT) : FnOk P w K mg base CX0 4 f fd ["order"] spUndone := by
  obtain ⟨_, _, G_order_taken, m_order_taken, k_order_taken, b_order_taken⟩ := D2
  refine F.ok sc_undone (fun vs H Q E h => ?_) (fun cdv A outer s H vs Q E hr h => ?_)
  · obtain ⟨n, a, p, q, rfl, _⟩ := h
    rfl
  · obtain ⟨n, a, p, q, rfl, h1, h60, ha, hp, hu, k⟩ := h
    refine ⟨_, (pss_cons (ps_set (i := 1) sc_undone.nd rfl (Or.inr rfl) (pe_call G_order_taken (hr.mono (by decide)) rfl m_order_taken k_order_taken b_order_taken .nil pass0 (pa_cons (pv 0) pa_nil)))
      (pss_one (ps_ret (pe_callTy (call_tupleF (K := K) rfl) (by rfl) T.n_tuple (by decide +kernel) (pa_cons (pe_lc (own := [("runner", 2)]) (g := gName 2) (tt := tYes) rfl sc_undone.nd (pi_range1 rfl T.n_range (pa_cons (pe_callB (call_lenK (K := K) rfl) (by rfl) T.n_len PySem.boot_len (pa_cons (pv 1) pa_nil)) pa_nil)) (blkOk_by (own := [("runner", 2)]) (N := ["order", "runners", "runner"]) (sc := defScope s_undone) (by decide +kernel)) (fun _ _ _ _ _ => pg_name (i := 2) sc_undone.nd rfl (Or.inl rfl)) (fun _ _ _ _ _ => pts_nil) (fun _ _ _ _ _ => (pe_bmT PySem.F.slot_tuple_index PySem.F.type_tuple_index (mt_tupIndexK (K := K) rfl) (pv 1) (pa_cons (pv 2) pa_nil)))) pa_nil))))), ?_⟩
    refine ⟨_, rfl, n, a, p, rfl, ha, hp, h1, h60, fun t H1 s1 ht => ?_⟩
    have hlen : ((p.map V.int).length : Int) = n := by rw [List.length_map, hp.len]
    refine ⟨_, rfl, t, _, rfl, .inr ht.t, _, rfl, by omega, by omega, fun D nD => ?_⟩
    rw [hlen, Int.toNat_natCast]
    refine lc_range (lo := 0) (n := n) (fun i H' => Same H1 H' ∧ H' D = some (.lst ((q.take i).map V.int))) ⟨same_new nD, upd_same⟩ ?_ ?_
    · rintro i H' hi ⟨s4, hD⟩
      have hiq : i < q.length := by rw [hu.1]; exact hi
      have hqi := List.getElem?_eq_getElem hiq
      obtain ⟨b0, hz⟩ := hu.2 i q[i] hqi
      have e0 : (0 : Int) + (i : Int) = (i : Int) := by omega
      refine ⟨rfl, _, rfl, ⟨t, _, rfl, ht.same s4⟩, _, rfl, t, p, (i : Int), q[i].toNat, rfl, (by rw [e0]), (ht.same s4).t, hz, fun m hm e => ?_, _, hD, ?_, ?_, ?_⟩
      · have := nd_ix hp.nodup e hz
        omega
      · rw [List.length_map, List.length_take]
        exact small_lt (by omega)
      · exact fun b' o' e => by rw [upd_ne (ne_of_none e nD)]; exact s4 _ _ e
      · have et : q.take (i + 1) = q.take i ++ [q[i]] := by rw [List.take_add_one, hqi]; rfl
        have ez : ((q[i].toNat : Nat) : Int) = q[i] := by omega
        rw [upd_same, et, List.map_append, ez]
        rfl
    · rintro H' ⟨s4, hD⟩
      have eq : q.take n = q := by rw [← hu.1]; exact List.take_length
      rw [eq] at hD
      exact ⟨D, _, rfl, .inl (SqL.of hD), fun r H5 s5 hr5 => k r H5 ((s1.trans s4).trans s5) hr5⟩
abbrev s_is_name : Stmt := top 30
theorem sc_is_name : FnScope ["thing", "letter"] ["thing"] (defScope s_is_name) := ⟨rfl, rfl, rfl, by decide +kernel, rfl, by decide +kernel, by decide +kernel⟩
def spIsName : Sp := fun vs H Q _ => ∃ (z : Str), vs = [.str z] ∧ IsName z ∧ ∀ H', Same H H' → Q (.bl true) H'
theorem ok_is_name {f : Addr} {fd : FuncData} (F : Fun K "is_name" "is_name" s_is_name f fd) (T : Bare mg) (hL : ∃ t, mg "_LETTERS" = some (.str (Str.ofString "abcdefghijklmnopqrstuvwxyz") t)) (hN : ∃ t, mg "_LONGEST" = some (.int 8 t)) : FnOk P w K mg base CX0 1 f fd ["thing"] spIsName := by
  obtain ⟨_, g__LETTERS⟩ := hL
  obtain ⟨_, g__LONGEST⟩ := hN
  refine F.ok sc_is_name (fun vs H Q E h => ?_) (fun cdv A outer s H vs Q E hr h => ?_)
  · obtain ⟨z, rfl, _⟩ := h
    rfl
  · obtain ⟨z, rfl, ⟨z1, z8, low⟩, k⟩ := h
    refine ⟨_, (pss_cons (ps_if (PW.pt (pw_or (pt_not (pt_val (pe_callB (call_isiK' (K := K) rfl) (by rfl) T.n_isinstance (by decide +kernel) (pa_cons (pv 0) (pa_cons (pe_bltn (v := .ty "str") (by rfl) T.n_str (by decide +kernel) rfl) pa_nil))))) (pw_or1 (pt_not (pt_chain op_le op_le pe_int (pe_callB call_len_str (by rfl) T.n_len PySem.boot_len (pa_cons (pv 0) pa_nil)) (pe_glob (v := .int 8) rfl g__LONGEST ⟨_, rfl⟩))))))
      (pss_one (ps_ret pe_bl)) pss_nil)
      (pss_one (ps_ret (pe_callB (cr_allK (K := K) rfl rfl) (by rfl) T.n_all (by decide +kernel) (pa_cons (pe_lc (own := [("letter", 1)]) (g := gName 1) (tt := tYes) rfl sc_is_name.nd (pi_str (pv 0)) (blkOk_by (own := [("letter", 1)]) (N := ["thing", "letter"]) (sc := defScope s_is_name) (by decide +kernel)) (fun _ _ _ _ _ => pg_name (i := 1) sc_is_name.nd rfl (Or.inl rfl)) (fun _ _ _ _ _ => pts_nil) (fun _ _ _ _ _ => (pe_cmpR op_in_str (pv 1) (pe_glob (v := .str "abcdefghijklmnopqrstuvwxyz") rfl g__LETTERS ⟨_, rfl⟩) (by rfl)))) pa_nil))))), ?_⟩
    have hz : z.length = z.cps.toList.length := by simp [Str.length]
    have hzs : z.cps.size = z.length := rfl
    refine ⟨_, rfl, _, _, _, _, true, rfl, .ty "str", .base (.str z), kit_ty (by decide +kernel), _, rfl, iteF ?_⟩
    refine ⟨_, rfl, z, rfl, small_line (by omega), _, _, rfl, rfl, _, rfl, ifT (decide_eq_true (by omega)) ⟨_, _, rfl, rfl, _, rfl, ifF (by simp; omega) ?_⟩⟩
    refine ⟨_, rfl, z, rfl, fun D nD => ?_⟩
    refine lc_it walk_str (fun i H' => Same H H' ∧ H' D = some (.lst ((List.replicate i true).map V.bl))) ⟨same_new nD, upd_same⟩ (fun _ _ _ _ => trivial) ?_ ?_
    · rintro i x H1 H1' hi ⟨s1, hD⟩ ⟨rfl, c, hc, rfl⟩
      have hlow : Low c := low c (Array.mem_toList_iff.mpr (Array.mem_of_getElem? hc))
      refine ⟨rfl, _, rfl, ?_⟩
      refine ⟨_, _, rfl, rfl, _, hD, ?_, fun b' o' e => by rw [upd_ne (ne_of_none e nD)]; exact s1 _ _ e, ?_⟩
      · rw [List.length_map, List.length_replicate]
        exact small_lt (by omega)
      · rw [upd_same, low_found hlow, List.replicate_succ', List.map_append]
        rfl
    · rintro H1 ⟨s1, hD⟩
      refine ⟨D, _, rfl, SqL.of hD, ?_⟩
      have e : (List.replicate z.cps.size true).all id = true := by simp
      rw [e]
      exact k _ s1
abbrev s__are_marks : Stmt := top 35
theorem sc__are_marks : FnScope ["marks", "mark"] ["marks"] (defScope s__are_marks) := ⟨rfl, rfl, rfl, by decide +kernel, rfl, by decide +kernel, by decide +kernel⟩
def spAreMarks : Sp := fun vs H Q _ => ∃ (a : Addr) (ms : List Str), vs = [.ref a] ∧ H a = some (.lst (ms.map V.str)) ∧ ms.Nodup ∧ 1 ≤ ms.length ∧ ms.length ≤ 6 ∧ (∀ z ∈ ms, IsName z) ∧ ∀ H', Same H H' → Q (.bl true) H'
theorem ok__are_marks {f : Addr} {fd : FuncData} (F : Fun K "_are_marks" "_are_marks" s__are_marks f fd) (T : Bare mg) (hM : ∃ t, mg "MOST_MARKS" = some (.int 6 t))
    (D1 : Has P w K mg base 1 "is_listing" ["thing"] spIsL) (D2 : Has P w K mg base 1 "is_name" ["thing"] spIsName) : FnOk P w K mg base CX0 2 f fd ["marks"] spAreMarks := by
  obtain ⟨_, g_MOST_MARKS⟩ := hM
  obtain ⟨_, _, G_is_listing, m_is_listing, k_is_listing, b_is_listing⟩ := D1
  obtain ⟨_, _, G_is_name, m_is_name, k_is_name, b_is_name⟩ := D2
  refine F.ok sc__are_marks (fun vs H Q E h => ?_) (fun cdv A outer s H vs Q E hr h => ?_)
  · obtain ⟨a, ms, rfl, _⟩ := h
    rfl
  · obtain ⟨a, ms, rfl, ha, nd, m1, m6, hn, k⟩ := h
    refine ⟨_, (pss_cons (ps_if (PW.pt (pw_or (pt_not (pt_val (pe_call G_is_listing (hr.mono (by decide)) rfl m_is_listing k_is_listing b_is_listing .nil pass0 (pa_cons (pv 0) pa_nil)))) (pw_or1 (pt_not (pt_chain op_le op_le pe_int (pe_callB (call_lenK (K := K) rfl) (by rfl) T.n_len PySem.boot_len (pa_cons (pv 0) pa_nil)) (pe_glob (v := .int 6) rfl g_MOST_MARKS ⟨_, rfl⟩))))))
      (pss_one (ps_ret pe_bl)) pss_nil)
      (pss_one (ps_ret (pe_and (pe_callB (cr_allK (K := K) rfl rfl) (by rfl) T.n_all (by decide +kernel) (pa_cons (pe_lc (own := [("mark", 1)]) (g := gName 1) (tt := tYes) rfl sc__are_marks.nd (pi_list (pv 0)) (blkOk_by (own := [("mark", 1)]) (N := ["marks", "mark"]) (sc := defScope s__are_marks) (by decide +kernel)) (fun _ _ _ _ _ => pg_name (i := 1) sc__are_marks.nd rfl (Or.inl rfl)) (fun _ _ _ _ _ => pts_nil) (fun _ _ _ _ _ => (pe_call G_is_name (hr.mono (by decide)) rfl m_is_name k_is_name b_is_name .nil pass0 (pa_cons (pv 1) pa_nil)))) pa_nil)) (pe_one (pe_cmpR op_eq (pe_lenSetS (K := K) rfl rfl rfl T.n_len rfl T.n_set (pv 0)) (pe_callB (call_lenK (K := K) rfl) (by rfl) T.n_len PySem.boot_len (pa_cons (pv 0) pa_nil)) (nomark _))))))), ?_⟩
    have hlen : (ms.map V.str).length = ms.length := List.length_map ..
    refine ⟨_, rfl, a, _, rfl, .inl ha, fun H1 s1 => ⟨_, rfl, iteF ?_⟩⟩
    have ha1 := s1 _ _ ha
    refine ⟨_, rfl, a, _, rfl, .inl (SqL.of ha1), _, _, rfl, rfl, _, rfl, ifT (decide_eq_true (by rw [hlen]; omega)) ⟨_, _, rfl, rfl, _, rfl, ifF (by rw [hlen]; simp; omega) ?_⟩⟩
    refine ⟨_, rfl, a, rfl, ⟨_, SqL.of ha1⟩, fun D nD => ?_⟩
    refine lc_list (K := K) (a := a) (xs := ms.map V.str) (fun i H' => Same H1 H' ∧ H' D = some (.lst ((List.replicate i true).map V.bl))) ⟨same_new nD, upd_same⟩ (fun i H' _ z => SqL.of (z.1 _ _ ha1)) ?_ ?_
    · rintro i x H2 hx ⟨s2, hD⟩
      obtain ⟨z, hz, rfl⟩ := map_gets hx
      have hi := (List.getElem?_eq_some_iff.mp hz).1
      refine ⟨rfl, _, rfl, z, rfl, hn z (List.mem_of_getElem? hz), fun H3 s3 => ?_⟩
      have hD3 := s3 _ _ hD
      refine ⟨_, hD3, ?_, fun b' o' e => by rw [upd_ne (ne_of_none e nD)]; exact s3 _ _ (s2 _ _ e), ?_⟩
      · rw [List.length_map, List.length_replicate]
        exact small_lt (by omega)
      · rw [upd_same, List.replicate_succ', List.map_append]
        rfl
    · rintro H2 ⟨s2, hD⟩
      refine ⟨D, _, rfl, SqL.of hD, ?_⟩
      have e : (List.replicate (ms.map V.str).length true).all id = true := by simp
      rw [e]
      refine ⟨_, rfl, iteT ?_⟩
      have ha2 := s2 _ _ ha1
      refine ⟨_, rfl, a, ms, rfl, SqL.of ha2, nd, by omega, _, rfl, a, _, rfl, .inl (SqL.of ha2), rfl, ?_⟩
      rw [hlen]
      have e2 : decide (V.int (ms.length : Int) = V.int (ms.length : Int)) = true := decide_eq_true rfl
      rw [e2]
      exact k _ (s1.trans s2)
abbrev s__is_pair : Stmt := top 39
theorem sc__is_pair : FnScope ["pair", "marks", "mark"] ["pair", "marks"] (defScope s__is_pair) := ⟨rfl, rfl, rfl, by decide +kernel, rfl, by decide +kernel, by decide +kernel⟩
def spIsPair : Sp := fun vs H Q _ => ∃ (t m : Addr) (p : Str × Str) (ms : List Str), vs = [.ref t, .ref m] ∧ StrPair H t p ∧ H m = some (.lst (ms.map V.str)) ∧ p.1 ∈ ms ∧ p.2 ∈ ms ∧ ∀ H', Same H H' → Q (.bl true) H'
theorem ok__is_pair {f : Addr} {fd : FuncData} (F : Fun K "_is_pair" "_is_pair" s__is_pair f fd) (T : Bare mg) (D1 : Has P w K mg base 1 "is_listing" ["thing"] spIsL) : FnOk P w K mg base CX0 2 f fd ["pair", "marks"] spIsPair := by
  obtain ⟨_, _, G_is_listing, m_is_listing, k_is_listing, b_is_listing⟩ := D1
  refine F.ok sc__is_pair (fun vs H Q E h => ?_) (fun cdv A outer s H vs Q E hr h => ?_)
  · obtain ⟨t, m, p, ms, rfl, _⟩ := h
    rfl
  · obtain ⟨t, m, p, ms, rfl, ht, hm, p1, p2, k⟩ := h
    refine ⟨_, (pss_one (ps_ret (pe_and (pe_call G_is_listing (hr.mono (by decide)) rfl m_is_listing k_is_listing b_is_listing .nil pass0 (pa_cons (pv 0) pa_nil)) (pe_and (pe_cmpR op_eq (pe_callB (call_lenK (K := K) rfl) (by rfl) T.n_len PySem.boot_len (pa_cons (pv 0) pa_nil)) pe_int (nomark _)) (pe_one (pe_callB (cr_allK (K := K) rfl rfl) (by rfl) T.n_all (by decide +kernel) (pa_cons (pe_lc (own := [("mark", 2)]) (g := gName 2) (tt := tYes) rfl sc__is_pair.nd (pi_tup (pv 0)) (blkOk_by (own := [("mark", 2)]) (N := ["pair", "marks", "mark"]) (sc := defScope s__is_pair) (by decide +kernel)) (fun _ _ _ _ _ => pg_name (i := 2) sc__is_pair.nd rfl (Or.inl rfl)) (fun _ _ _ _ _ => pts_nil) (fun _ _ _ _ _ => (pe_cmpR (op_inK (K := K) rfl) (pv 2) (pv 1) (by rfl)))) pa_nil))))))), ?_⟩
    refine ⟨_, rfl, t, _, rfl, .inr ht, fun H1 s1 => ⟨_, rfl, iteT ?_⟩⟩
    have ht1 := ht.same s1
    have hm1 := s1 _ _ hm
    refine ⟨_, rfl, t, _, rfl, .inr ht1.t, rfl, _, rfl, iteT ?_⟩
    refine ⟨_, rfl, t, rfl, ⟨_, ht1.t⟩, fun D nD => ?_⟩
    refine lc_tup (K := K) (a := t) (xs := [V.str p.1, V.str p.2]) (fun i H' => Same H1 H' ∧ H' D = some (.lst ((List.replicate i true).map V.bl))) ⟨same_new nD, upd_same⟩ (fun i H' _ z => (ht1.same z.1).t) ?_ ?_
    · rintro i x H2 hx ⟨s2, hD⟩
      have hi : i < 2 := (List.getElem?_eq_some_iff.mp hx).1
      have hx' : ∃ z, x = .str z ∧ z ∈ ms := by
        match i, hx with
        | 0, hx => exact ⟨_, (Option.some.inj hx).symm, p1⟩
        | 1, hx => exact ⟨_, (Option.some.inj hx).symm, p2⟩
      obtain ⟨z, rfl, hz⟩ := hx'
      refine ⟨rfl, _, rfl, _, rfl, m, _, rfl, .inl (SqL.of (s2 _ _ hm1)), rfl, flatS _, ?_⟩
      rw [inV_str, decide_eq_true hz]
      refine ⟨_, hD, ?_, fun b' o' e => by rw [upd_ne (ne_of_none e nD)]; exact s2 _ _ e, ?_⟩
      · rw [List.length_map, List.length_replicate]
        exact small_lt (by omega)
      · rw [upd_same, List.replicate_succ', List.map_append]
        rfl
    · rintro H2 ⟨s2, hD⟩
      refine ⟨D, _, rfl, SqL.of hD, ?_⟩
      exact k _ (s1.trans s2)
abbrev s__is_full : Stmt := top 38
theorem sc__is_full : FnScope ["listing", "marks"] ["listing", "marks"] (defScope s__is_full) := ⟨rfl, rfl, rfl, by decide +kernel, rfl, by decide +kernel, by decide +kernel⟩
def spIsFull : Sp := fun vs H Q _ => ∃ (t m : Addr) (xs ys : List V), vs = [.ref t, .ref m] ∧ H t = some (.lst xs) ∧ H m = some (.lst ys) ∧ xs.length = ys.length ∧ ∀ H', Same H H' → Q (.bl true) H'
theorem ok__is_full {f : Addr} {fd : FuncData} (F : Fun K "_is_full" "_is_full" s__is_full f fd) (T : Bare mg) (D1 : Has P w K mg base 1 "is_listing" ["thing"] spIsL) : FnOk P w K mg base CX0 2 f fd ["listing", "marks"] spIsFull := by
  obtain ⟨_, _, G_is_listing, m_is_listing, k_is_listing, b_is_listing⟩ := D1
  refine F.ok sc__is_full (fun vs H Q E h => ?_) (fun cdv A outer s H vs Q E hr h => ?_)
  · obtain ⟨t, m, xs, ys, rfl, _⟩ := h
    rfl
  · obtain ⟨t, m, xs, ys, rfl, ht, hm, hl, k⟩ := h
    refine ⟨_, (pss_one (ps_ret (pe_and (pe_call G_is_listing (hr.mono (by decide)) rfl m_is_listing k_is_listing b_is_listing .nil pass0 (pa_cons (pv 0) pa_nil)) (pe_one (pe_cmpR op_eq (pe_callB (call_lenK (K := K) rfl) (by rfl) T.n_len PySem.boot_len (pa_cons (pv 0) pa_nil)) (pe_callB (call_lenK (K := K) rfl) (by rfl) T.n_len PySem.boot_len (pa_cons (pv 1) pa_nil)) (nomark _)))))), ?_⟩
    refine ⟨_, rfl, t, _, rfl, .inl ht, fun H1 s1 => ⟨_, rfl, iteT ?_⟩⟩
    refine ⟨_, rfl, t, _, rfl, .inl (SqL.of (s1 _ _ ht)), _, rfl, m, _, rfl, .inl (SqL.of (s1 _ _ hm)), rfl, ?_⟩
    rw [hl]
    have e2 : decide (V.int (ys.length : Int) = V.int (ys.length : Int)) = true := decide_eq_true rfl
    rw [e2]
    exact k _ s1
abbrev s__is_line : Stmt := top 37
theorem sc__is_line : FnScope ["line", "marks", "pair"] ["line", "marks"] (defScope s__is_line) := ⟨rfl, rfl, rfl, by decide +kernel, rfl, by decide +kernel, by decide +kernel⟩
def spIsLine : Sp := fun vs H Q _ => ∃ (l m : Addr) (ms : List Str) (ps : List (Str × Str)), vs = [.ref l, .ref m] ∧ LineL H l ps ∧ H m = some (.lst (ms.map V.str)) ∧ FullLine ms ps ∧ ms.length ≤ 6 ∧ ∀ H', Same H H' → Q (.bl true) H'
theorem ok__is_line {f : Addr} {fd : FuncData} (F : Fun K "_is_line" "_is_line" s__is_line f fd) (T : Bare mg) (D1 : Has P w K mg base 2 "_is_full" ["listing", "marks"] spIsFull) (D2 : Has P w K mg base 2 "_is_pair" ["pair", "marks"] spIsPair) :
    FnOk P w K mg base CX0 3 f fd ["line", "marks"] spIsLine := by
  obtain ⟨_, _, G__is_full, m__is_full, k__is_full, b__is_full⟩ := D1
  obtain ⟨_, _, G__is_pair, m__is_pair, k__is_pair, b__is_pair⟩ := D2
  refine F.ok sc__is_line (fun vs H Q E h => ?_) (fun cdv A outer s H vs Q E hr h => ?_)
  · obtain ⟨l, m, ms, ps, rfl, _⟩ := h
    rfl
  · obtain ⟨l, m, ms, ps, rfl, ⟨ts, hl, hp⟩, hm, ⟨len, mem⟩, m6, k⟩ := h
    refine ⟨_, (pss_one (ps_ret (pe_and (pe_call G__is_full (hr.mono (by decide)) rfl m__is_full k__is_full b__is_full .nil pass0 (pa_cons (pv 0) (pa_cons (pv 1) pa_nil))) (pe_one (pe_callB (cr_allK (K := K) rfl rfl) (by rfl) T.n_all (by decide +kernel) (pa_cons (pe_lc (own := [("pair", 2)]) (g := gName 2) (tt := tYes) rfl sc__is_line.nd (pi_list (pv 0)) (blkOk_by (own := [("pair", 2)]) (N := ["line", "marks", "pair"]) (sc := defScope s__is_line) (by decide +kernel)) (fun _ _ _ _ _ => pg_name (i := 2) sc__is_line.nd rfl (Or.inl rfl)) (fun _ _ _ _ _ => pts_nil) (fun _ _ _ _ _ => (pe_call G__is_pair (hr.mono (by decide)) rfl m__is_pair k__is_pair b__is_pair .nil pass0 (pa_cons (pv 2) (pa_cons (pv 1) pa_nil))))) pa_nil)))))), ?_⟩
    have hts : ts.length = ps.length := hp.length
    refine ⟨_, rfl, _, rfl, l, m, _, _, rfl, hl, hm, by rw [List.length_map, List.length_map, hts, len], fun H1 s1 => ⟨_, rfl, iteT ?_⟩⟩
    have hl1 := s1 _ _ hl
    refine ⟨_, rfl, l, rfl, ⟨_, SqL.of hl1⟩, fun D nD => ?_⟩
    refine lc_list (K := K) (a := l) (xs := ts.map V.ref) (fun i H' => Same H1 H' ∧ H' D = some (.lst ((List.replicate i true).map V.bl))) ⟨same_new nD, upd_same⟩ (fun i H' _ z => SqL.of (z.1 _ _ hl1)) ?_ ?_
    · rintro i x H2 hx ⟨s2, hD⟩
      obtain ⟨t, ht, rfl⟩ := map_getr hx
      obtain ⟨p, hpi, htp⟩ := prd_get hp ht
      have hi := (List.getElem?_eq_some_iff.mp ht).1
      have hpm := mem p (List.mem_of_getElem? hpi)
      refine ⟨rfl, _, rfl, _, rfl, t, m, p, ms, rfl, (htp.same s1).same s2, s2 _ _ (s1 _ _ hm), hpm.1, hpm.2, fun H3 s3 => ?_⟩
      refine ⟨_, s3 _ _ hD, ?_, fun b' o' e => by rw [upd_ne (ne_of_none e nD)]; exact s3 _ _ (s2 _ _ e), ?_⟩
      · rw [List.length_map, List.length_replicate]
        exact small_lt (by omega)
      · rw [upd_same, List.replicate_succ', List.map_append]
        rfl
    · rintro H2 ⟨s2, hD⟩
      refine ⟨D, _, rfl, SqL.of hD, ?_⟩
      have e : (List.replicate (ts.map V.ref).length true).all id = true := by simp
      rw [e]
      exact k _ (s1.trans s2)
abbrev s__are_pairs : Stmt := top 36
theorem sc__are_pairs : FnScope ["pairs", "marks", "line"] ["pairs", "marks"] (defScope s__are_pairs) := ⟨rfl, rfl, rfl, by decide +kernel, rfl, by decide +kernel, by decide +kernel⟩
def spArePairs : Sp := fun vs H Q _ => ∃ (q m : Addr) (ms : List Str) (ls : List Addr) (pss : List (List (Str × Str))), vs = [.ref q, .ref m] ∧ H q = some (.lst (ls.map V.ref)) ∧ Paired (LineL H) ls pss ∧ H m = some (.lst (ms.map V.str)) ∧ FullPairs ms pss ∧ ms.length ≤ 6 ∧ ∀ H', Same H H' → Q (.bl true) H'
theorem ok__are_pairs {f : Addr} {fd : FuncData} (F : Fun K "_are_pairs" "_are_pairs" s__are_pairs f fd) (T : Bare mg) (D1 : Has P w K mg base 2 "_is_full" ["listing", "marks"] spIsFull) (D2 : Has P w K mg base 3 "_is_line" ["line", "marks"] spIsLine) :
    FnOk P w K mg base CX0 4 f fd ["pairs", "marks"] spArePairs := by
  obtain ⟨_, _, G__is_full, m__is_full, k__is_full, b__is_full⟩ := D1
  obtain ⟨_, _, G__is_line, m__is_line, k__is_line, b__is_line⟩ := D2
  refine F.ok sc__are_pairs (fun vs H Q E h => ?_) (fun cdv A outer s H vs Q E hr h => ?_)
  · obtain ⟨q, m, ms, ls, pss, rfl, _⟩ := h
    rfl
  · obtain ⟨q, m, ms, ls, pss, rfl, hq, hp, hm, ⟨len, mem⟩, m6, k⟩ := h
    refine ⟨_, (pss_one (ps_ret (pe_and (pe_call G__is_full (hr.mono (by decide)) rfl m__is_full k__is_full b__is_full .nil pass0 (pa_cons (pv 0) (pa_cons (pv 1) pa_nil))) (pe_one (pe_callB (cr_allK (K := K) rfl rfl) (by rfl) T.n_all (by decide +kernel) (pa_cons (pe_lc (own := [("line", 2)]) (g := gName 2) (tt := tYes) rfl sc__are_pairs.nd (pi_list (pv 0)) (blkOk_by (own := [("line", 2)]) (N := ["pairs", "marks", "line"]) (sc := defScope s__are_pairs) (by decide +kernel)) (fun _ _ _ _ _ => pg_name (i := 2) sc__are_pairs.nd rfl (Or.inl rfl)) (fun _ _ _ _ _ => pts_nil) (fun _ _ _ _ _ => (pe_call G__is_line (hr.mono (by decide)) rfl m__is_line k__is_line b__is_line .nil pass0 (pa_cons (pv 2) (pa_cons (pv 1) pa_nil))))) pa_nil)))))), ?_⟩
    have hts : ls.length = pss.length := hp.length
    refine ⟨_, rfl, _, rfl, q, m, _, _, rfl, hq, hm, by rw [List.length_map, List.length_map, hts, len], fun H1 s1 => ⟨_, rfl, iteT ?_⟩⟩
    have hl1 := s1 _ _ hq
    refine ⟨_, rfl, q, rfl, ⟨_, SqL.of hl1⟩, fun D nD => ?_⟩
    refine lc_list (K := K) (a := q) (xs := ls.map V.ref) (fun i H' => Same H1 H' ∧ H' D = some (.lst ((List.replicate i true).map V.bl))) ⟨same_new nD, upd_same⟩ (fun i H' _ z => SqL.of (z.1 _ _ hl1)) ?_ ?_
    · rintro i x H2 hx ⟨s2, hD⟩
      obtain ⟨t, ht, rfl⟩ := map_getr hx
      obtain ⟨ps, hpi, htp⟩ := prd_get hp ht
      have hi := (List.getElem?_eq_some_iff.mp ht).1
      refine ⟨rfl, _, rfl, _, rfl, t, m, ms, ps, rfl, (htp.same s1).same s2, s2 _ _ (s1 _ _ hm), mem ps (List.mem_of_getElem? hpi), m6, fun H3 s3 => ?_⟩
      refine ⟨_, s3 _ _ hD, ?_, fun b' o' e => by rw [upd_ne (ne_of_none e nD)]; exact s3 _ _ (s2 _ _ e), ?_⟩
      · rw [List.length_map, List.length_replicate]
        exact small_lt (by omega)
      · rw [upd_same, List.replicate_succ', List.map_append]
        rfl
    · rintro H2 ⟨s2, hD⟩
      refine ⟨D, _, rfl, SqL.of hD, ?_⟩
      have e : (List.replicate (ls.map V.ref).length true).all id = true := by simp
      rw [e]
      exact k _ (s1.trans s2)
end
end Lk12
set_option Elab.async false
set_option maxRecDepth 100000
namespace Lk12
open PySem L2 Lw
section
variable {P : Program} {w : World} {K : PySem.W.Frag} {mg : Str → Option Value} {base : Heap}
abbrev s_Table_init : Stmt := meth 33 0
theorem sc_Table_init : FnScope ["self", "marks", "pairs", "line", "pair"] ["self", "marks", "pairs"] (defScope s_Table_init) := ⟨rfl, rfl, rfl, by decide +kernel, rfl, by decide +kernel, by decide +kernel⟩
def spInit (C : Addr) : Sp := fun vs H Q _ => ∃ (me dx a q : Addr) (ms : List Str) (ls : List Addr) (pss : List (List (Str × Str))), vs = [.ref me, .ref a, .ref q] ∧ H me = some (.ins C dx []) ∧ H a = some (.lst (ms.map V.str)) ∧ ms.Nodup ∧ 1 ≤ ms.length ∧ ms.length ≤ 6 ∧ (∀ z ∈ ms, IsName z) ∧
  H q = some (.lst (ls.map V.ref)) ∧ Paired (LineL H) ls pss ∧ FullPairs ms pss ∧ ∀ H', TblAt H' C me ms pss → (∀ b o, H b = some o → b ≠ me → H' b = some o) → Q .non H'
theorem ok_Table_init {C f0 f : Addr} {fd : FuncData} (F : Fun K "__init__" "Table.__init__" s_Table_init f fd) (T : Bare mg) (TC : TabC K mg C f0)
    (D1 : Has P w K mg base 2 "_are_marks" ["marks"] spAreMarks) (D2 : Has P w K mg base 4 "_are_pairs" ["pairs", "marks"] spArePairs) : FnOk P w K mg base CX0 5 f fd ["self", "marks", "pairs"] (spInit C) := by
  obtain ⟨_, _, G__are_marks, m__are_marks, k__are_marks, b__are_marks⟩ := D1
  obtain ⟨_, _, G__are_pairs, m__are_pairs, k__are_pairs, b__are_pairs⟩ := D2
  refine F.ok sc_Table_init (fun vs H Q E h => ?_) (fun cdv A outer s H vs Q E hr h => ?_)
  · obtain ⟨me, dx, a, q, ms, ls, pss, rfl, _⟩ := h
    rfl
  · obtain ⟨me, dx, a, q, ms, ls, pss, rfl, hme, ha, nd, m1, m6, hn, hq, hp, hf, k⟩ := h
    refine ⟨_, (pss_cons (ps_if (pt_not (pt_val (pe_call G__are_marks (hr.mono (by decide)) rfl m__are_marks k__are_marks b__are_marks .nil pass0 (pa_cons (pv 1) pa_nil))))
      (pss_one ps_never) pss_nil)
      (pss_cons (ps_if (pt_not (pt_val (pe_call G__are_pairs (hr.mono (by decide)) rfl m__are_pairs k__are_pairs b__are_pairs .nil pass0 (pa_cons (pv 2) (pa_cons (pv 1) pa_nil)))))
      (pss_one ps_never) pss_nil)
      (pss_cons (ps_fld (pv 0) (pe_callTy (call_tupleF (K := K) rfl) (by rfl) T.n_tuple (by decide +kernel) (pa_cons (pv 1) pa_nil)) rfl)
      (pss_one (ps_fld (pv 0) (pe_callTy (call_tupleF (K := K) rfl) (by rfl) T.n_tuple (by decide +kernel) (pa_cons (pe_lc (own := [("line", 3)]) (g := gName 3) (tt := tYes) rfl sc_Table_init.nd (pi_list (pv 2)) (blkOk_by (own := [("line", 3)]) (N := ["self", "marks", "pairs", "line", "pair"]) (sc := defScope s_Table_init) (by decide +kernel)) (fun _ _ _ _ _ => pg_name (i := 3) sc_Table_init.nd rfl (Or.inl rfl)) (fun _ _ _ _ _ => pts_nil) (fun _ _ _ _ _ => (pe_callTy (call_tupleF (K := K) rfl) (by rfl) T.n_tuple (by decide +kernel) (pa_cons (pe_lc (own := [("pair", 4)]) (g := gName 4) (tt := tYes) rfl sc_Table_init.nd (pi_listK (K := K) rfl (pv 3)) (blkOk_by (own := [("pair", 4)]) (N := ["self", "marks", "pairs", "line", "pair"]) (sc := { kind := .function, names := [(".0", .local), ("line", .local), ("tuple", .globalImplicit)], isGenerator := false, isCoroutine := false }) (by decide +kernel)) (fun _ _ _ _ _ => pg_name (i := 4) sc_Table_init.nd rfl (Or.inl rfl)) (fun _ _ _ _ _ => pts_nil) (fun _ _ _ _ _ => (pe_callTy (call_tupleF (K := K) rfl) (by rfl) T.n_tuple (by decide +kernel) (pa_cons (pv 4) pa_nil)))) pa_nil)))) pa_nil)) rfl))))), ?_⟩
    refine ⟨_, rfl, a, ms, rfl, ha, nd, m1, m6, hn, fun H1 s1 => ⟨_, rfl, iteF ?_⟩⟩
    have hp1 : Paired (LineL H1) ls pss := L2.Paired.mapP hp fun _ _ t => t.same s1
    refine ⟨_, rfl, _, rfl, q, a, ms, ls, pss, rfl, s1 _ _ hq, hp1, s1 _ _ ha, hf, m6, fun H2 s2 => ⟨_, rfl, iteF ?_⟩⟩
    have s12 := s1.trans s2
    refine ⟨_, rfl, a, _, rfl, .inl (SqL.of (s12 _ _ ha)), fun m H3 s3 hm => ?_⟩
    have s13 := s12.trans s3
    have hme3 := s13 _ _ hme
    refine ⟨_, rfl, me, C, dx, [], rfl, hme3, TC.cl, TC.nM, by decide, ?_⟩
    have sI : ∀ b o, H b = some o → b ≠ me → (upd H3 me (.ins C dx (putF "_marks" (.ref m) []))) b = some o := fun b o e n => by rw [upd_ne n]; exact s13 _ _ e
    have hme4 : (upd H3 me (.ins C dx (putF "_marks" (.ref m) []))) me = some (.ins C dx [("_marks", .ref m)]) := upd_same
    have hm4 : Tup (upd H3 me (.ins C dx (putF "_marks" (.ref m) []))) m (ms.map V.str) := hm.upd (hm.ne hme3 fun _ _ => nofun)
    generalize upd H3 me (.ins C dx (putF "_marks" (.ref m) [])) = H4 at sI hme4 hm4
    have nq : q ≠ me := ne_of hq hme nofun
    have hq4 := sI _ _ hq nq
    have hp4 : Paired (LineL H4) ls pss := L2.Paired.mapP hp fun l ps ⟨ts, h1, h2⟩ => ⟨ts, sI _ _ h1 (ne_of h1 hme nofun), L2.Paired.mapP h2 fun t p ⟨o, h3, h4⟩ => ⟨o, sI _ _ h3 (ne_of h3 hme nofun), h4⟩⟩
    have hls : ls.length = pss.length := hp.length
    refine ⟨_, rfl, q, rfl, ⟨_, SqL.of hq4⟩, fun D nD => ?_⟩
    refine lc_list (K := K) (a := q) (xs := ls.map V.ref) (fun i H' => Same H4 H' ∧ ∃ rs : List Addr, H' D = some (.lst (rs.map V.ref)) ∧ Paired (LineT H') rs (pss.take i)) ⟨same_new nD, [], upd_same, .nil⟩ (fun i H' _ z => SqL.of (z.1 _ _ hq4)) ?_ ?_
    · rintro i x H5 hx ⟨s5, rs, hD, hrs⟩
      obtain ⟨l, hl, rfl⟩ := map_getr hx
      obtain ⟨ps, hps, ts, hlt, hts⟩ := prd_get hp4 hl
      have hlt5 := s5 _ _ hlt
      have hts5 := StrPairs.same hts s5
      have hi := (List.getElem?_eq_some_iff.mp hl).1
      have hps6 : ps.length ≤ 6 := by
        rw [(hf.2 ps (List.mem_of_getElem? hps)).1]
        exact m6
      have htsl : ts.length = ps.length := hts.length
      refine ⟨rfl, _, rfl, l, rfl, ⟨_, SqL.of hlt5⟩, fun D2 nD2 => ?_⟩
      refine lc_list (K := K) (a := l) (xs := ts.map V.ref) (fun j H' => Same H5 H' ∧ ∃ us : List Addr, H' D2 = some (.lst (us.map V.ref)) ∧ Paired (StrPair H') us (ps.take j)) ⟨same_new nD2, [], upd_same, .nil⟩ (fun j H' _ z => SqL.of (z.1 _ _ hlt5)) ?_ ?_
      · rintro j x H6 hx ⟨s6, us, hD2, hus⟩
        obtain ⟨t, ht, rfl⟩ := map_getr hx
        obtain ⟨p, hpp, htp⟩ := prd_get hts5 ht
        have hj := (List.getElem?_eq_some_iff.mp ht).1
        refine ⟨rfl, _, rfl, t, _, rfl, .inr (htp.same s6), fun r H7 s7 hr => ?_⟩
        have hD7 := s7 _ _ hD2
        have hus7 := StrPairs.same hus s7
        refine ⟨_, hD7, ?_, fun b' o' e => by rw [upd_ne (ne_of_none e nD2)]; exact s7 _ _ (s6 _ _ e), us ++ [r], ?_, ?_⟩
        · rw [List.length_map, hus.length, List.length_take]
          exact small_lt (by omega)
        · rw [upd_same, List.map_append]
          rfl
        · have et : ps.take (j + 1) = ps.take j ++ [p] := by rw [List.take_add_one, hpp]; rfl
          rw [et]
          exact Paired.snoc (L2.Paired.mapP hus7 fun _ _ t => t.upd (t.ne hD7 fun _ _ => nofun)) (hr.upd (hr.ne hD7 fun _ _ => nofun))
      · rintro H6 ⟨s6, us, hD2, hus⟩
        refine ⟨D2, _, rfl, .inl (SqL.of hD2), fun r H7 s7 hr => ?_⟩
        have hall : ps.take (ts.map V.ref).length = ps := by rw [List.length_map, htsl, List.take_length]
        rw [hall] at hus
        have s57 := s6.trans s7
        have hD7 := s57 _ _ hD
        have hline : LineT H7 r ps := ⟨us, hr, StrPairs.same hus s7⟩
        refine ⟨_, hD7, ?_, fun b' o' e => by rw [upd_ne (ne_of_none e nD)]; exact s57 _ _ (s5 _ _ e), rs ++ [r], ?_, ?_⟩
        · rw [List.length_map, hrs.length, List.length_take]
          have := hf.1
          exact small_lt (by omega)
        · rw [upd_same, List.map_append]
          rfl
        · have et : pss.take (i + 1) = pss.take i ++ [ps] := by rw [List.take_add_one, hps]; rfl
          rw [et]
          exact Paired.snoc (L2.Paired.mapP hrs fun _ _ t => (t.same s57).upd hD7) (hline.upd hD7)
    · rintro H5 ⟨s5, rs, hD, hrs⟩
      have hall : pss.take (ls.map V.ref).length = pss := by rw [List.length_map, hls, List.take_length]
      rw [hall] at hrs
      refine ⟨D, _, rfl, .inl (SqL.of hD), fun q' H6 s6 hq' => ?_⟩
      have s46 := s5.trans s6
      have hme6 := s46 _ _ hme4
      refine ⟨_, rfl, me, C, dx, _, rfl, hme6, TC.cl, TC.nP, (by show 1 < 1000; decide), ?_⟩
      refine k _ ⟨dx, m, q', rs, upd_same, (hm4.same s46).upd ((hm4.same s46).ne hme6 fun _ _ => nofun), hq'.upd (hq'.ne hme6 fun _ _ => nofun), L2.Paired.mapP hrs fun _ _ t => (t.same s6).updI hme6⟩ fun b o e n => ?_
      rw [upd_ne n]
      exact s46 _ _ (sI _ _ e n)
end
end Lk12
set_option Elab.async false
set_option maxRecDepth 100000
namespace Lk12
open PySem L2 Lw
section
variable {P : Program} {w : World} {K : PySem.W.Frag} {mg : Str → Option Value} {base : Heap}
theorem at_last {xs : List V} {k : Nat} {v : V} (h : xs[k]? = some v) (hl : xs.length = k + 1) : atI xs (-1) = some v := by
  unfold atI ixN
  rw [if_neg (by omega), if_pos (by omega)]
  have e : ((xs.length : Int) + -1).toNat = k := by omega
  show xs[((xs.length : Int) + -1).toNat]? = some v
  rw [e]
  exact h
abbrev s_Table_marks : Stmt := meth 33 2
theorem sc_Table_marks : FnScope ["self"] ["self"] (defScope s_Table_marks) := ⟨rfl, rfl, rfl, by decide +kernel, rfl, by decide +kernel, by decide +kernel⟩
def spMarks (C : Addr) : Sp := fun vs H Q _ => ∃ (a : Addr) (ms : List Str) (pss : List (List (Str × Str))), vs = [.ref a] ∧ TblAt H C a ms pss ∧ ∀ r, H r = none → Q (.ref r) (upd H r (.lst (ms.map V.str)))
theorem ok_Table_marks {C f0 f : Addr} {fd : FuncData} (F : Fun K "marks" "Table.marks" s_Table_marks f fd) (T : Bare mg) (TC : TabC K mg C f0) : FnOk P w K mg base CX0 1 f fd ["self"] (spMarks C) := by
  refine F.ok sc_Table_marks (fun vs H Q E h => ?_) (fun cdv A outer s H vs Q E hr h => ?_)
  · obtain ⟨a, ms, pss, rfl, _⟩ := h
    rfl
  · obtain ⟨a, ms, pss, rfl, ⟨dx, m, q, ls, h1, h2, h3, h4⟩, k⟩ := h
    refine ⟨_, (pss_one (ps_ret (pe_callTy (call_listK (K := K) rfl) (by rfl) T.n_list (by decide +kernel) (pa_cons (pe_fld (pv 0) rfl) pa_nil)))), ?_⟩
    exact ⟨_, rfl, a, C, dx, _, _, rfl, h1, TC.cl, TC.nM, rfl, m, _, rfl, .inr h2.t, fun r nr => k r nr⟩
abbrev s_Table_passed : Stmt := meth 33 4
theorem sc_Table_passed : FnScope ["self", "one", "other", "mark"] ["self", "one", "other"] (defScope s_Table_passed) := ⟨rfl, rfl, rfl, by decide +kernel, rfl, by decide +kernel, by decide +kernel⟩
def spPassed (C : Addr) : Sp := fun vs H Q _ => ∃ (a : Addr) (ms : List Str) (pss : List (List (Str × Str))) (x y : Str), vs = [.ref a, .str x, .str y] ∧ TblAt H C a ms pss ∧ FullPairs ms pss ∧ x ∈ ms ∧ y ∈ ms ∧
  ∀ t H', Same H H' → StrPair H' t (passOf ms pss x y) → Q (.ref t) H'
theorem first_at {ms : List Str} {x : Str} (h : x ∈ ms) : ms[ms.idxOf x]? = some x ∧ ∀ j, j < ms.idxOf x → ms[j]? ≠ some x := by
  have hi := List.idxOf_lt_length_of_mem h
  refine ⟨by rw [List.getElem?_eq_getElem hi, List.getElem_idxOf], fun j hj e => ?_⟩
  obtain ⟨hj', e'⟩ := List.getElem?_eq_some_iff.mp e
  have := List.not_of_lt_findIdx (p := fun z => z == x) (xs := ms) hj
  rw [e'] at this
  simp at this
theorem ok_Table_passed {C f0 f : Addr} {fd : FuncData} (F : Fun K "passed" "Table.passed" s_Table_passed f fd) (T : Bare mg) (TC : TabC K mg C f0) : FnOk P w K mg base CX0 1 f fd ["self", "one", "other"] (spPassed C) := by
  refine F.ok sc_Table_passed (fun vs H Q E h => ?_) (fun cdv A outer s H vs Q E hr h => ?_)
  · obtain ⟨a, ms, pss, x, y, rfl, _⟩ := h
    rfl
  · obtain ⟨a, ms, pss, x, y, rfl, ⟨dx, m, q, ls, h1, h2, h3, h4⟩, hf, hx, hy, k⟩ := h
    refine ⟨_, (pss_cons (ps_for PassesOwn.never rfl (pi_tup (pe_tupF (pa_cons (pv 1) (pa_cons (pv 2) pa_nil)))) (pg_name (i := 3) sc_Table_passed.nd rfl (Or.inl rfl))
      (pss_one (ps_if (pt_cmpR op_notIn_seq (pv 3) (pe_fld (pv 0) rfl) (by rfl))
      (pss_one ps_never) pss_nil)))
      (pss_one (ps_ret (pe_ix ix_tup (pe_ix ix_tup (pe_fld (pv 0) rfl) (pe_bmT PySem.F.slot_tuple_index PySem.F.type_tuple_index (mt_tupIndexS (K := K) rfl) (pe_fld (pv 0) rfl) (pa_cons (pv 1) pa_nil)) (fun _ _ => rfl)) (pe_bmT PySem.F.slot_tuple_index PySem.F.type_tuple_index (mt_tupIndexS (K := K) rfl) (pe_fld (pv 0) rfl) (pa_cons (pv 2) pa_nil)) (fun _ _ => rfl))))), ?_⟩
    refine ⟨_, rfl, _, rfl, by show 2 ≤ sizeLine; decide, fun t H1 s1 ht => ?_⟩
    refine ⟨t, rfl, ⟨_, ht.t⟩, for_tup (K := K) (a := t) (xs := [V.str x, V.str y]) (fun i σ H' => (∃ u, σ = [some (.ref a), some (.str x), some (.str y), u]) ∧ Same H1 H') ⟨⟨_, rfl⟩, Same.refl _⟩ (fun i σ H' _ z => (ht.same z.2).t) ?_ ?_⟩
    · rintro i v σ H' hv ⟨⟨u, rfl⟩, s'⟩
      have s := s1.trans s'
      have hv' : ∃ z, v = .str z ∧ z ∈ ms := by
        have hi : i < 2 := (List.getElem?_eq_some_iff.mp hv).1
        match i, hv with
        | 0, hv => exact ⟨_, (Option.some.inj hv).symm, hx⟩
        | 1, hv => exact ⟨_, (Option.some.inj hv).symm, hy⟩
      obtain ⟨z, rfl, hz⟩ := hv'
      refine ⟨_, rfl, _, rfl, a, C, dx, _, _, rfl, s _ _ h1, TC.cl, TC.nM, rfl, m, _, rfl, .inr (h2.same s).t, rfl, flatS _, _, rfl, ifF (by rw [inV_str]; simp [hz]) ?_⟩
      exact ⟨⟨_, rfl⟩, s'⟩
    · rintro σ H' ⟨⟨u, rfl⟩, s'⟩
      have s := s1.trans s'
      obtain ⟨ps, p, e1, e2, _, _⟩ := hf.at hx hy
      obtain ⟨l, hl, ts, hlt, hts⟩ := prd_got h4 e1
      obtain ⟨t', ht', hp⟩ := prd_got hts e2
      have h1' := s _ _ h1
      have f1 := first_at hx
      have f2 := first_at hy
      refine ⟨_, rfl, a, C, dx, _, _, rfl, h1', TC.cl, TC.nP, rfl, _, rfl, a, C, dx, _, _, rfl, h1', TC.cl, TC.nM, rfl, ⟨m, _, rfl, h2.same s⟩, _, rfl, m, ms, x, _, rfl, rfl, (h2.same s).t, f1.1, f1.2, ?_⟩
      refine ⟨q, _, _, _, rfl, rfl, (h3.same s).t, at_ref' hl, _, rfl, a, C, dx, _, _, rfl, h1', TC.cl, TC.nM, rfl, ⟨m, _, rfl, h2.same s⟩, _, rfl, m, ms, y, _, rfl, rfl, (h2.same s).t, f2.1, f2.2, ?_⟩
      refine ⟨l, _, _, _, rfl, rfl, (hlt.same s).t, at_ref' ht', ?_⟩
      refine k t' _ s ?_
      rw [passOf_eq e1 e2]
      exact hp.same s
abbrev s_row_fault : Stmt := top 15
theorem sc_row_fault : FnScope ["table", "row", "marks", "at", "mark"] ["table", "row"] (defScope s_row_fault) := ⟨rfl, rfl, rfl, by decide +kernel, rfl, by decide +kernel, by decide +kernel⟩
def spRowF (C : Addr) : Sp := fun vs H Q _ => ∃ (a r : Addr) (ms : List Str) (pss : List (List (Str × Str))) (row : List Str), vs = [.ref a, .ref r] ∧ TblAt H C a ms pss ∧ Sq H r (row.map V.str) ∧ 1 ≤ row.length ∧ row.length ≤ 60 ∧ (∀ z ∈ row, z ∈ ms) ∧
  ∀ H', Same H H' → Q .non H'
theorem ok_row_fault {C f0 f : Addr} {fd : FuncData} (F : Fun K "row_fault" "row_fault" s_row_fault f fd) (T : Bare mg) (TC : TabC K mg C f0) (hP : ∃ t, mg "PLACES" = some (.int 60 t))
    (D1 : Has P w K mg base 1 "is_listing" ["thing"] spIsL) (D2 : HasM P w K mg base 1 C "marks" ["self"] (spMarks C)) : FnOk P w K mg base CX0 2 f fd ["table", "row"] (spRowF C) := by
  obtain ⟨tP, g_PLACES⟩ := hP
  obtain ⟨_, _, G_is_listing, m_is_listing, k_is_listing, b_is_listing⟩ := D1
  obtain ⟨_, _, G_Table_marks, M_Table_marks, b_Table_marks⟩ := D2
  refine F.ok sc_row_fault (fun vs H Q E h => ?_) (fun cdv A outer s H vs Q E hr h => ?_)
  · obtain ⟨a, r, ms, pss, row, rfl, _⟩ := h
    rfl
  · obtain ⟨a, r, ms, pss, row, rfl, hT, hq, r1, r60, hm, k⟩ := h
    refine ⟨_, (pss_cons (ps_if (PW.pt (pw_or (pt_not (pt_val (pe_call G_is_listing (hr.mono (by decide)) rfl m_is_listing k_is_listing b_is_listing .nil pass0 (pa_cons (pv 1) pa_nil)))) (pw_or1 (pt_not (pt_chain op_le op_le pe_int (pe_callB (call_lenK (K := K) rfl) (by rfl) T.n_len PySem.boot_len (pa_cons (pv 1) pa_nil)) (pe_glob (v := .int 60) rfl g_PLACES ⟨_, rfl⟩))))))
      (pss_one (ps_ret (pe_un un_neg pe_int))) pss_nil)
      (pss_cons (ps_set (i := 2) sc_row_fault.nd rfl (Or.inl rfl) (pe_meth0 (pv 0) TC.cl M_Table_marks G_Table_marks (hr.mono (by decide)) b_Table_marks .nil pass0))
      (pss_cons (ps_for PassesOwn.never rfl (pi_enumA rfl T.n_enumerate (pa_cons (pv 1) pa_nil)) (pg_tup rfl (pgs_cons (pg_name (i := 3) sc_row_fault.nd rfl (Or.inl rfl)) (pgs_cons (pg_name (i := 4) sc_row_fault.nd rfl (Or.inl rfl)) pgs_nil)))
      (pss_one (ps_if (pt_cmpR op_notIn_seq (pv 4) (pv 2) (by rfl))
      (pss_one (ps_ret (pv 3))) pss_nil)))
      (pss_one (ps_ret pe_non))))), ?_⟩
    have hlen : (row.map V.str).length = row.length := List.length_map ..
    refine ⟨_, rfl, r, _, rfl, hq, fun H1 s1 => ⟨_, rfl, iteF ?_⟩⟩
    refine ⟨_, rfl, r, _, rfl, (hq.same s1).lt, _, _, rfl, rfl, _, rfl, ifT (decide_eq_true (by rw [hlen]; omega)) ⟨_, _, rfl, rfl, _, rfl, ifF (by rw [hlen]; simp; omega) ?_⟩⟩
    obtain ⟨dx, m, q, ls, h1, h2, h3, h4⟩ := hT.same s1
    refine ⟨_, rfl, a, dx, _, rfl, h1, rfl, a, ms, pss, rfl, ⟨dx, m, q, ls, h1, h2, h3, h4⟩, fun l nl => ?_⟩
    have s2 : Same H1 (upd H1 l (.lst (ms.map V.str))) := same_new nl
    have hl2 : (upd H1 l (.lst (ms.map V.str))) l = some (.lst (ms.map V.str)) := upd_same
    generalize upd H1 l (.lst (ms.map V.str)) = H2 at s2 hl2
    have s12 := s1.trans s2
    refine ⟨_, rfl, enum_go (K := K) (hq.same s12) (fun i σ H' => (∃ u v, σ = [some (.ref a), some (.ref r), some (.ref l), u, v]) ∧ Same H2 H') ⟨⟨_, _, rfl⟩, Same.refl _⟩ (fun i σ H' _ p => p.2) ?_ ?_⟩
    · rintro i x σ H' t hx ⟨⟨u, v, rfl⟩, s⟩ nt
      obtain ⟨z, hz, rfl⟩ := map_gets hx
      have s3 : Same H2 (upd H' t (.tup [.int (i : Nat), .str z])) := s.trans (same_new nt)
      refine ⟨t, _, rfl, SqT.of upd_same, rfl, _, _, rfl, _, _, rfl, rfl, ?_⟩
      refine ⟨_, rfl, _, rfl, l, _, rfl, .inl (SqL.of (s3 _ _ hl2)), rfl, flatS _, _, rfl, ifF (by rw [inV_str]; simp [hm z (List.mem_of_getElem? hz)]) ?_⟩
      exact ⟨⟨_, _, rfl⟩, s3⟩
    · rintro σ H' ⟨_, s⟩
      exact k H' (s12.trans s)
abbrev s_row_taken : Stmt := top 20
theorem sc_row_taken : FnScope ["table", "row", "at"] ["table", "row"] (defScope s_row_taken) := ⟨rfl, rfl, rfl, by decide +kernel, rfl, by decide +kernel, by decide +kernel⟩
def spRowT (C : Addr) : Sp := fun vs H Q _ => ∃ (a r : Addr) (ms : List Str) (pss : List (List (Str × Str))) (row : List Str), vs = [.ref a, .ref r] ∧ TblAt H C a ms pss ∧ Sq H r (row.map V.str) ∧ 1 ≤ row.length ∧ row.length ≤ 60 ∧ (∀ z ∈ row, z ∈ ms) ∧
  GiveT H (row.map V.str) Q
theorem ok_row_taken {C : Addr} {f : Addr} {fd : FuncData} (F : Fun K "row_taken" "row_taken" s_row_taken f fd) (T : Bare mg) (D1 : Has P w K mg base 2 "row_fault" ["table", "row"] (spRowF C)) : FnOk P w K mg base CX0 3 f fd ["table", "row"] (spRowT C) := by
  obtain ⟨_, _, G_row_fault, m_row_fault, k_row_fault, b_row_fault⟩ := D1
  refine F.ok sc_row_taken (fun vs H Q E h => ?_) (fun cdv A outer s H vs Q E hr h => ?_)
  · obtain ⟨a, r, ms, pss, row, rfl, _⟩ := h
    rfl
  · obtain ⟨a, r, ms, pss, row, rfl, hT, hq, r1, r60, hm, k⟩ := h
    refine ⟨_, (pss_cons (ps_set (i := 2) sc_row_taken.nd rfl (Or.inl rfl) (pe_call G_row_fault (hr.mono (by decide)) rfl m_row_fault k_row_fault b_row_fault .nil pass0 (pa_cons (pv 0) (pa_cons (pv 1) pa_nil))))
      (pss_cons (ps_if (pt_cmpR op_notN (pv 2) pe_non (nomark _))
      (pss_one ps_never) pss_nil)
      (pss_one (ps_ret (pe_callTy (call_tupleF (K := K) rfl) (by rfl) T.n_tuple (by decide +kernel) (pa_cons (pv 1) pa_nil)))))), ?_⟩
    refine ⟨_, rfl, _, rfl, a, r, ms, pss, row, rfl, hT, hq, r1, r60, hm, fun H1 s1 => ?_⟩
    refine ⟨_, rfl, rfl, _, rfl, ifF rfl ⟨_, rfl, r, _, rfl, (hq.same s1).lf, fun r' H2 s2 hr2 => k r' H2 (s1.trans s2) hr2⟩⟩
abbrev s_pass_done : Stmt := top 34
theorem sc_pass_done : FnScope ["table", "row", "place"] ["table", "row", "place"] (defScope s_pass_done) := ⟨rfl, rfl, rfl, by decide +kernel, rfl, by decide +kernel, by decide +kernel⟩
def spPassDone (C : Addr) : Sp := fun vs H Q _ => ∃ (a r : Addr) (ms : List Str) (pss : List (List (Str × Str))) (row : List Str) (j : Nat), vs = [.ref a, .ref r, .int j] ∧ TblAt H C a ms pss ∧ FullPairs ms pss ∧ Tup H r (row.map V.str) ∧ j + 1 < row.length ∧ row.length ≤ 60 ∧ (∀ z ∈ row, z ∈ ms) ∧
  GiveT H ((stepRow ms pss row j).map V.str) Q
theorem ok_pass_done {C f0 : Addr} {f : Addr} {fd : FuncData} (F : Fun K "pass_done" "pass_done" s_pass_done f fd) (T : Bare mg) (TC : TabC K mg C f0) (D1 : HasM P w K mg base 1 C "passed" ["self", "one", "other"] (spPassed C)) :
    FnOk P w K mg base CX0 2 f fd ["table", "row", "place"] (spPassDone C) := by
  obtain ⟨_, _, G_Table_passed, M_Table_passed, b_Table_passed⟩ := D1
  refine F.ok sc_pass_done (fun vs H Q E h => ?_) (fun cdv A outer s H vs Q E hr h => ?_)
  · obtain ⟨a, r, ms, pss, row, j, rfl, _⟩ := h
    rfl
  · obtain ⟨a, r, ms, pss, row, j, rfl, hT, hf, hq, hj, r60, hm, k⟩ := h
    refine ⟨_, (pss_one (ps_ret (pe_op op_catF (pe_op op_catF (pe_slice sl_tupF (pv 1) po_none (po_some (pv 2))) (pe_meth (pv 0) TC.cl M_Table_passed G_Table_passed (hr.mono (by decide)) b_Table_passed .nil pass0 (pa_cons (pe_ix ix_tup (pv 1) (pv 2) (fun _ _ => rfl)) (pa_cons (pe_ix ix_tup (pv 1) (pe_op op_add (pv 2) pe_int) (fun _ _ => rfl)) pa_nil)))) (pe_slice sl_tupF (pv 1) (po_some (pe_op op_add (pv 2) pe_int)) po_none)))), ?_⟩
    have hlen : (row.map V.str).length = row.length := List.length_map ..
    have hx : row[j]? = some row[j] := List.getElem?_eq_getElem (by omega)
    have hy : row[j + 1]? = some row[j + 1] := List.getElem?_eq_getElem hj
    have e1 : ((j : Int) + 1) = ((j + 1 : Nat) : Int) := by omega
    have e2 : ((j : Int) + 2) = ((j + 2 : Nat) : Int) := by omega
    have c1 : cutV (row.map V.str) none (some (j : Int)) = (row.map V.str).take j := cutT (by omega)
    have c2 : cutV (row.map V.str) (some ((j : Int) + 2)) none = (row.map V.str).drop (j + 2) := by rw [e2]; exact cutD (by omega)
    refine ⟨_, rfl, _, rfl, _, rfl, r, _, rfl, hq, fun r1 H1 s1 h1 => ?_⟩
    obtain ⟨dx, m, q, ls, t1, t2, t3, t4⟩ := hT.same s1
    have hq1 := hq.same s1
    refine ⟨_, rfl, a, dx, _, rfl, t1, rfl, _, rfl, _, rfl, r, _, _, _, rfl, rfl, hq1.t, at_str' hx, _, rfl, _, rfl, _, _, rfl, rfl, r, _, _, _, rfl, rfl, hq1.t, (by rw [e1]; exact at_str' hy), ?_⟩
    refine ⟨a, ms, pss, _, _, rfl, ⟨dx, m, q, ls, t1, t2, t3, t4⟩, hf, hm _ (List.mem_of_getElem? hx), hm _ (List.mem_of_getElem? hy), fun t H2 s2 ht => ?_⟩
    refine ⟨r1, t, _, _, rfl, rfl, h1.same s2, ht, ?_, fun r3 H3 s3 h3 => ?_⟩
    · rw [c1, List.length_take]
      exact small_line (by show min j _ + 2 ≤ _; omega)
    refine ⟨_, rfl, _, rfl, _, _, rfl, rfl, _, rfl, r, _, rfl, (hq1.same s2).same s3, fun r4 H4 s4 h4 => ?_⟩
    refine ⟨r3, r4, _, _, rfl, rfl, h3.same s4, h4, ?_, fun r5 H5 s5 h5 => ?_⟩
    · rw [c1, c2, List.length_append, List.length_take, List.length_drop]
      exact small_line (by show min j _ + 2 + _ ≤ _; omega)
    refine k r5 H5 ((((s1.trans s2).trans s3).trans s4).trans s5) ?_
    have ef : (stepRow ms pss row j).map V.str = cutV (row.map V.str) none (some (j : Int)) ++ [V.str (passOf ms pss row[j] row[j + 1]).1, V.str (passOf ms pss row[j] row[j + 1]).2] ++ cutV (row.map V.str) (some ((j : Int) + 2)) none := by
      unfold stepRow
      rw [c1, c2, getDs hx, getDs hy]
      simp
    rw [ef]
    exact h5
abbrev s_rows_on : Stmt := top 42
theorem sc_rows_on : FnScope ["table", "row", "word", "rows", "place"] ["table", "row", "word"] (defScope s_rows_on) := ⟨rfl, rfl, rfl, by decide +kernel, rfl, by decide +kernel, by decide +kernel⟩
/-- the rows on the way -/
def rowsOf (ms : List Str) (pss : List (List (Str × Str))) (row : List Str) (ws : List Int) : List (List Str) := (List.range (ws.length + 1)).map fun i => rowRun ms pss row (ws.take i)
abbrev RowT (H : Hp) (t : Addr) (row : List Str) : Prop := Tup H t (row.map V.str)
def spRowsOn (C : Addr) : Sp := fun vs H Q _ => ∃ (a r d : Addr) (n : Nat) (ms : List Str) (pss : List (List (Str × Str))) (row : List Str) (ws : List Int), vs = [.ref a, .ref r, .ref d] ∧ TblAt H C a ms pss ∧ FullPairs ms pss ∧ Sq H r (row.map V.str) ∧ row.length = n ∧ 1 ≤ n ∧ n ≤ 60 ∧ (∀ z ∈ row, z ∈ ms) ∧
  Sq H d (ws.map V.int) ∧ OkW n ws ∧ ws.length ≤ 2000 ∧ ∀ (l : Addr) (ts : List Addr) (H' : Hp), H l = none → Same H H' → H' l = some (.lst (ts.map V.ref)) → Paired (RowT H') ts (rowsOf ms pss row ws) → Q (.ref l) H'
theorem ok_rows_on {C : Addr} {f : Addr} {fd : FuncData} (F : Fun K "rows_on" "rows_on" s_rows_on f fd) (T : Bare mg) (D1 : Has P w K mg base 3 "row_taken" ["table", "row"] (spRowT C)) (D2 : Has P w K mg base 3 "word_taken" ["places", "word"] spWordT)
    (D3 : Has P w K mg base 2 "pass_done" ["table", "row", "place"] (spPassDone C)) : FnOk P w K mg base CX0 4 f fd ["table", "row", "word"] (spRowsOn C) := by
  obtain ⟨_, _, G_row_taken, m_row_taken, k_row_taken, b_row_taken⟩ := D1
  obtain ⟨_, _, G_word_taken, m_word_taken, k_word_taken, b_word_taken⟩ := D2
  obtain ⟨_, _, G_pass_done, m_pass_done, k_pass_done, b_pass_done⟩ := D3
  refine F.ok sc_rows_on (fun vs H Q E h => ?_) (fun cdv A outer s H vs Q E hr h => ?_)
  · obtain ⟨a, r, d, n, ms, pss, row, ws, rfl, _⟩ := h
    rfl
  · obtain ⟨a, r, d, n, ms, pss, row, ws, rfl, hT, hf, hq, hn, n1, n60, hm, hd, hw, hl, k⟩ := h
    refine ⟨_, (pss_cons (ps_set (i := 3) sc_rows_on.nd rfl (Or.inl rfl) (pe_lst (pa_cons (pe_call G_row_taken (hr.mono (by decide)) rfl m_row_taken k_row_taken b_row_taken .nil pass0 (pa_cons (pv 0) (pa_cons (pv 1) pa_nil))) pa_nil)))
      (pss_cons (ps_for PassesOwn.never rfl (pi_tup (pe_call G_word_taken (hr.mono (by decide)) rfl m_word_taken k_word_taken b_word_taken .nil pass0 (pa_cons (pe_callB (call_lenK (K := K) rfl) (by rfl) T.n_len PySem.boot_len (pa_cons (pv 1) pa_nil)) (pa_cons (pv 2) pa_nil)))) (pg_name (i := 4) sc_rows_on.nd rfl (Or.inl rfl))
      (pss_one (ps_expr (pe_bm PySem.F.plainAttrs_list PySem.F.slot_list_append PySem.F.type_list_append mt_append (pv 3) (pa_cons (pe_call G_pass_done (hr.mono (by decide)) rfl m_pass_done k_pass_done b_pass_done .nil pass0 (pa_cons (pv 0) (pa_cons (pe_ix ix_list (pv 3) (pe_un un_neg pe_int) (fun _ _ => rfl)) (pa_cons (pv 4) pa_nil)))) pa_nil)))))
      (pss_one (ps_ret (pv 3))))), ?_⟩
    have hlen : (row.map V.str).length = n := by rw [List.length_map, hn]
    refine ⟨_, rfl, _, rfl, a, r, ms, pss, row, rfl, hT, hq, by omega, by omega, hm, fun t0 H1 s1 ht0 => ⟨by show 1 ≤ sizeLine; decide, fun l nl => ?_⟩⟩
    have s2 : Same H1 (upd H1 l (.lst [.ref t0])) := same_new nl
    have hl2 : (upd H1 l (.lst [.ref t0])) l = some (.lst [.ref t0]) := upd_same
    have ht2 := ht0.same s2
    generalize upd H1 l (.lst [.ref t0]) = H2 at s2 hl2 ht2
    have s12 := s1.trans s2
    have nlH : H l = none := s1.free nl
    refine ⟨_, rfl, r, _, rfl, (hq.same s12).lt, _, rfl, ?_⟩
    rw [hlen]
    refine ⟨n, d, ws, rfl, hd.same s12, hw, hl, fun t H3 s3 ht => ?_⟩
    refine ⟨t, rfl, ⟨_, ht.t⟩, for_tup (K := K) (a := t) (xs := ws.map V.int) (fun i σ H' => (∃ u, σ = [some (.ref a), some (.ref r), some (.ref d), some (.ref l), u]) ∧ Same H H' ∧ Tup H' t (ws.map V.int) ∧
        ∃ (ts : List Addr) (tl : Addr), H' l = some (.lst (ts.map V.ref)) ∧ Paired (RowT H') ts ((List.range (i + 1)).map fun j => rowRun ms pss row (ws.take j)) ∧ ts[i]? = some tl)
      ⟨⟨_, rfl⟩, s12.trans s3, ht, [t0], t0, s3 _ _ hl2, .cons (ht2.same s3) .nil, rfl⟩ (fun i σ H' _ p => p.2.2.1.t) ?_ ?_⟩
    · rintro i x σ H' hx ⟨⟨u, rfl⟩, s, ht', ts, tl, hL, hp, hti⟩
      obtain ⟨z, hz, rfl⟩ := map_get hx
      have bz := hw z (List.mem_of_getElem? hz)
      obtain ⟨j, rfl⟩ := Int.eq_ofNat_of_zero_le bz.1
      have hi := (List.getElem?_eq_some_iff.mp hz).1
      have htsl : ts.length = i + 1 := by rw [hp.length, List.length_map, List.length_range]
      obtain ⟨ro, hro, htl⟩ := prd_get hp hti
      have ero : ro = rowRun ms pss row (ws.take i) := by
        rw [List.getElem?_map, List.getElem?_range (by omega)] at hro
        exact (Option.some.inj hro).symm
      subst ero
      obtain ⟨rl, rm⟩ := rowRun_ok hf (ws.take i) row hn hm fun x hx => hw x (List.mem_of_mem_take hx)
      have last : atI (ts.map V.ref) (-1) = some (.ref tl) := at_last (k := i) (by rw [List.getElem?_map, hti]; rfl) (by rw [List.length_map, htsl])
      refine ⟨_, rfl, .inl ⟨rfl, _, SqL.of hL⟩, _, rfl, _, rfl, _, rfl, l, _, _, _, rfl, rfl, SqL.of hL, last, _, rfl, a, tl, ms, pss, _, j, rfl, hT.same s, hf, htl, by omega, by omega, rm, fun r1 H4 s4 h4 => ?_⟩
      have hL4 := s4 _ _ hL
      refine ⟨l, _, _, rfl, rfl, hL4, by rw [List.length_map]; exact small_lt (by omega), ?_⟩
      refine ⟨⟨_, rfl⟩, fun b ob e => ?_, (ht'.same s4).upd ((ht'.same s4).ne hL4 fun _ _ => nofun), ts ++ [r1], r1, ?_, ?_, ?_⟩
      · rw [upd_ne (ne_of_none e nlH)]
        exact s4 _ _ (s _ _ e)
      · rw [upd_same, List.map_append]
        rfl
      · have et : ws.take (i + 1) = ws.take i ++ [(j : Int)] := by rw [List.take_add_one, hz]; rfl
        rw [List.range_succ, List.map_append]
        have h4' : Tup H4 r1 ((rowRun ms pss row (ws.take (i + 1))).map V.str) := by
          rw [et, rowRun_snoc, Int.toNat_natCast]
          exact h4
        exact Paired.snoc (L2.Paired.mapP hp fun _ _ t => (t.same s4).upd ((t.same s4).ne hL4 fun _ _ => nofun)) (h4'.upd (h4'.ne hL4 fun _ _ => nofun))
      · rw [← htsl]
        simp
    · rintro σ H' ⟨⟨u, rfl⟩, s, _, ts, tl, hL, hp, _⟩
      rw [List.length_map] at hp
      exact ⟨_, rfl, k l ts H' nlH s hL hp⟩
abbrev s_row_behind : Stmt := top 41
theorem sc_row_behind : FnScope ["table", "row", "word"] ["table", "row", "word"] (defScope s_row_behind) := ⟨rfl, rfl, rfl, by decide +kernel, rfl, by decide +kernel, by decide +kernel⟩
def spRowBehind (C : Addr) : Sp := fun vs H Q _ => ∃ (a r d : Addr) (n : Nat) (ms : List Str) (pss : List (List (Str × Str))) (row : List Str) (ws : List Int), vs = [.ref a, .ref r, .ref d] ∧ TblAt H C a ms pss ∧ FullPairs ms pss ∧ Sq H r (row.map V.str) ∧ row.length = n ∧ 1 ≤ n ∧ n ≤ 60 ∧ (∀ z ∈ row, z ∈ ms) ∧
  Sq H d (ws.map V.int) ∧ OkW n ws ∧ ws.length ≤ 2000 ∧ GiveT H ((rowRun ms pss row ws).map V.str) Q
theorem ok_row_behind {C : Addr} {f : Addr} {fd : FuncData} (F : Fun K "row_behind" "row_behind" s_row_behind f fd) (T : Bare mg) (D1 : Has P w K mg base 4 "rows_on" ["table", "row", "word"] (spRowsOn C)) : FnOk P w K mg base CX0 5 f fd ["table", "row", "word"] (spRowBehind C) := by
  obtain ⟨_, _, G_rows_on, m_rows_on, k_rows_on, b_rows_on⟩ := D1
  refine F.ok sc_row_behind (fun vs H Q E h => ?_) (fun cdv A outer s H vs Q E hr h => ?_)
  · obtain ⟨a, r, d, n, ms, pss, row, ws, rfl, _⟩ := h
    rfl
  · obtain ⟨a, r, d, n, ms, pss, row, ws, rfl, hT, hf, hq, hn, n1, n60, hm, hd, hw, hl, k⟩ := h
    refine ⟨_, (pss_one (ps_ret (pe_ix ix_list (pe_call G_rows_on (hr.mono (by decide)) rfl m_rows_on k_rows_on b_rows_on .nil pass0 (pa_cons (pv 0) (pa_cons (pv 1) (pa_cons (pv 2) pa_nil)))) (pe_un un_neg pe_int) (fun _ _ => rfl)))), ?_⟩
    refine ⟨_, rfl, _, rfl, _, rfl, a, r, d, n, ms, pss, row, ws, rfl, hT, hf, hq, hn, n1, n60, hm, hd, hw, hl, fun l ts H1 nl s1 hL hp => ?_⟩
    have hlast : (rowsOf ms pss row ws)[ws.length]? = some (rowRun ms pss row ws) := by
      unfold rowsOf
      rw [List.getElem?_map, List.getElem?_range (by omega)]
      show some (rowRun ms pss row (ws.take ws.length)) = _
      rw [List.take_length]
    obtain ⟨t, ht, htr⟩ := prd_got hp hlast
    have htsl : ts.length = ws.length + 1 := by
      rw [hp.length]
      unfold rowsOf
      rw [List.length_map, List.length_range]
    have last : atI (ts.map V.ref) (-1) = some (.ref t) := at_last (k := ws.length) (by rw [List.getElem?_map, ht]; rfl) (by rw [List.length_map, htsl])
    exact ⟨_, rfl, l, _, _, _, rfl, rfl, SqL.of hL, last, k t H1 s1 htr⟩
end
end Lk12
set_option Elab.async false
set_option maxRecDepth 100000
namespace Lk12
open PySem L2 Lw
section
variable {P : Program} {w : World} {K : PySem.W.Frag} {mg : Str → Option Value} {base : Heap}
abbrev s_pen : Stmt := top 44
theorem sc_pen : FnScope ["_law_script"] ["_law_script"] (defScope s_pen) := ⟨rfl, rfl, rfl, by decide +kernel, rfl, by decide +kernel, by decide +kernel⟩
def spPen (K : PySem.W.Frag) : Sp := fun vs H Q _ => ∃ (a : Addr) (ns : List Int), vs = [.ref a] ∧ SqL K H a (ns.map V.int) ∧ ns.length ≤ 63 ∧ ∀ p c H', H p = none → Same H H' → PenAt H' p c 0 → Q (.ref p) H'
theorem ok_pen {f : Addr} {fd : FuncData} (F : Fun K "_law_pen" "_law_pen" s_pen f fd) (T : Bare mg) : FnOk P w K mg base CX0 1 f fd ["_law_script"] (spPen K) := by
  refine F.ok sc_pen (fun vs H Q E h => ?_) (fun cdv A outer s H vs Q E hr h => ?_)
  · obtain ⟨a, ns, rfl, _⟩ := h
    rfl
  · obtain ⟨a, ns, rfl, hS, hl, k⟩ := h
    have hu := hu_of hr
    refine ⟨_, (pss_one (ps_ret (pe_disp (pps_cons pe_str (pe_callTy (call_listK (K := K) rfl) (by rfl) T.n_list (by decide +kernel) (pa_cons (pe_slice sl_list (pv 0) po_none (po_some pe_int)) pa_nil)) (pps_cons pe_str pe_int (pps_cons pe_str pe_int pps_nil))) (by rfl) (by rfl) (fun z => by cases z) (by decide)))), ?_⟩
    intro p np
    have s0 : Same H (upd H p (.dK [])) := same_new np
    refine ⟨_, rfl, _, rfl, a, _, rfl, s0.seq hS, fun q nq => ?_⟩
    have s1 := s0.trans (same_new (o := .lst (cutV (ns.map V.int) none (some 63))) nq)
    refine ⟨q, _, rfl, .inl (SqL.of upd_same), fun l nl => ?_⟩
    have s2 := s1.trans (same_new (o := .lst (cutV (ns.map V.int) none (some 63))) nl)
    have npq : p ≠ q := fun e => by rw [e, upd_same] at nq; cases nq
    have npl : p ≠ l := fun e => by
      rw [← e, upd_ne npq, upd_same] at nl
      cases nl
    have ecut : cutV (ns.map V.int) none (some 63) = ns.map V.int := by
      have e63 : HT.sIx (ns.map V.int).length (ns.map V.int).length (some 63) = (ns.map V.int).length := by
        have z := HT.sIx_nat (ns.map V.int).length (ns.map V.int).length 63
        rw [List.length_map] at z ⊢
        exact z.trans (by omega)
      unfold cutV
      rw [e63, HT.sIx_none, Nat.sub_zero, List.drop_zero]
      exact List.take_of_length_le (Nat.le_refl _)
    refine ⟨by rw [upd_ne npl, upd_ne npq, upd_same], [((.inr "cells" : Key), V.ref l), (.inr "spot", V.int 0), (.inr "more", V.int 0)], rfl, (by show 3 ≤ 15; decide), k p l _ np (fun b o e => ?_) ⟨ns, 0, 0, ?_, ?_, Int.le_refl _, by omega, hl⟩⟩
    · rw [upd_ne (ne_of_none e np)]
      exact s2 _ _ e
    · rw [upd_same]
      simp [mergeK, putK, n_cs, n_cm, n_sm, kvP]
    · rw [upd_ne npl.symm, upd_same, ecut]
abbrev s_draw : Stmt := top 45
theorem sc_draw : FnScope ["_law_pen_here", "_law_many", "_law_digit", "_law_spot", "_law_cell", "_law_mix"] ["_law_pen_here", "_law_many"] (defScope s_draw) := ⟨rfl, rfl, rfl, by decide +kernel, rfl, by decide +kernel, by decide +kernel⟩
def spDraw : Sp := fun vs H Q _ => ∃ (p c : Addr) (n : Int) (N : Nat), vs = [.ref p, .int n] ∧ PenAt H p c N ∧ N ≤ 1000000000 ∧ 1 ≤ n ∧ n ≤ 1000000000 ∧
  ∀ d H', 0 ≤ d → d < n → PenAt H' p c (N + 1) → SameX p H H' → Q (.int d) H'
theorem ok_draw {f : Addr} {fd : FuncData} (F : Fun K "_law_draw" "_law_draw" s_draw f fd) (T : Bare mg) : FnOk P w K mg base CX0 1 f fd ["_law_pen_here", "_law_many"] spDraw := by
  refine F.ok sc_draw (fun vs H Q E h => ?_) (fun cdv A outer s H vs Q E hr h => ?_)
  · obtain ⟨p, c, n, N, rfl, _⟩ := h
    rfl
  · obtain ⟨p, c, n, N, rfl, ⟨ns, z, m, hp, hc, z0, zN, hl⟩, hN, n1, n9, k⟩ := h
    have hu := hu_of hr
    have gm : DGet H p (.str "more") (some (.int m)) := by have q := DGet.k (k := (.inr "more" : Key)) hp; rw [v_more] at q; exact q
    have gs : DGet H p (.str "spot") (some (.int z)) := by have q := DGet.k (k := (.inr "spot" : Key)) hp; rw [v_spot] at q; exact q
    have gc : DGet H p (.str "cells") (some (.ref c)) := by have q := DGet.k (k := (.inr "cells" : Key)) hp; rw [v_cells] at q; exact q
    refine ⟨_, (pss_cons (ps_if (pt_cmpR op_gt (pe_dget hu (pv 0) pe_str (fun _ _ => rfl)) pe_int (nomark _))
      (pss_cons (ps_set (i := 2) sc_draw.nd rfl (Or.inl rfl) (pe_op op_modN (pe_dget hu (pv 0) pe_str (fun _ _ => rfl)) (pv 1)))
      (pss_cons (ps_dput hu (pv 0) pe_str (pe_op op_fdivN (pe_dget hu (pv 0) pe_str (fun _ _ => rfl)) (pv 1)) rfl)
      (pss_one (ps_ret (pv 2))))) pss_nil)
      (pss_cons (ps_set (i := 3) sc_draw.nd rfl (Or.inl rfl) (pe_dget hu (pv 0) pe_str (fun _ _ => rfl)))
      (pss_cons (ps_dput hu (pv 0) pe_str (pe_op op_add (pv 3) pe_int) rfl)
      (pss_cons (ps_set (i := 4) sc_draw.nd rfl (Or.inl rfl) (pe_ifExp (pt_cmpR (op_neDK (K := K) rfl hr.units) (pe_dget hu (pv 0) pe_str (fun _ _ => rfl)) (pe_lst pa_nil) (nomark _)) (pe_ix ix_list (pe_dget hu (pv 0) pe_str (fun _ _ => rfl)) (pe_op op_modN (pv 3) (pe_callB (call_lenK (K := K) rfl) (by rfl) T.n_len PySem.boot_len (pa_cons (pe_dget hu (pv 0) pe_str (fun _ _ => rfl)) pa_nil))) (fun _ _ => rfl)) (pe_op op_add (pe_op op_mul pe_int (pv 3)) pe_int)))
      (pss_cons (ps_if (PW.pt (pw_and (pt_cmpR op_lt (pv 3) (pe_callB (call_lenK (K := K) rfl) (by rfl) T.n_len PySem.boot_len (pa_cons (pe_dget hu (pv 0) pe_str (fun _ _ => rfl)) pa_nil)) (nomark _)) (pw_and1 (pt_cmpR op_ge (pe_callB call_abs (by rfl) T.n_abs (by decide +kernel) (pa_cons (pv 4) pa_nil)) (pe_op op_pow pe_int pe_int) (nomark _)))))
      (pss_cons (ps_dput hu (pv 0) pe_str (pe_op op_fdivN (pe_op op_sub (pe_callB call_abs (by rfl) T.n_abs (by decide +kernel) (pa_cons (pv 4) pa_nil)) (pe_op op_pow pe_int pe_int)) (pv 1)) rfl)
      (pss_one (ps_ret (pe_op op_modN (pe_op op_sub (pe_callB call_abs (by rfl) T.n_abs (by decide +kernel) (pa_cons (pv 4) pa_nil)) (pe_op op_pow pe_int pe_int)) (pv 1))))) pss_nil)
      (pss_cons (ps_set (i := 5) sc_draw.nd rfl (Or.inl rfl) (pe_op op_modN (pe_op op_add (pe_op op_add (pe_op op_add (pe_op op_mul (pe_op op_modN (pv 4) pe_int) pe_int) (pe_op op_mul (pe_op op_mul pe_int (pv 3)) (pv 3))) (pe_op op_mul pe_int (pv 3))) pe_int) pe_int))
      (pss_cons (ps_set (i := 5) sc_draw.nd rfl (Or.inl rfl) (pe_op op_modN (pe_op op_add (pe_op op_add (pe_op op_add (pe_op op_mul (pv 5) (pv 5)) (pe_op op_mul pe_int (pv 5))) (pe_op op_mul pe_int (pv 3))) pe_int) pe_int))
      (pss_one (ps_ret (pe_op op_modN (pe_op op_fdivN (pe_op op_modN (pe_op op_mul (pv 5) (pe_op op_add (pv 5) pe_int)) pe_int) pe_int) (pv 1))))))))))), ?_⟩
    refine ⟨_, rfl, p, _, rfl, gm, _, _, rfl, rfl, _, rfl, ?_⟩
    refine ite2 (fun _ => ?_) (fun _ => ?_)
    · refine ⟨_, rfl, p, _, rfl, gm, _, rfl, _, _, rfl, rfl, (by omega), ?_⟩
      refine ⟨_, rfl, p, _, rfl, gm, _, rfl, _, _, rfl, rfl, ⟨by omega, by omega⟩, _, rfl, p, _, rfl, DPut.k (k := (.inr "more" : Key)) hp (by show 3 < sizeLine; decide), ?_⟩
      refine ⟨_, rfl, ?_⟩
      refine k _ _ (fmod_lo _ (by omega)) (fmod_hi _ (by omega)) ⟨ns, z, m.fdiv n, ?_, ?_, z0, by omega, hl⟩ SameX.upd
      · rw [upd_same, p_more]
      · rw [upd_ne (ne_of hc hp nofun)]
        exact hc
    · refine ⟨_, rfl, p, _, rfl, gs, ?_⟩
      refine ⟨_, rfl, _, _, rfl, rfl, _, rfl, p, _, rfl, DPut.k (k := (.inr "spot" : Key)) hp (by show 3 < sizeLine; decide), ?_⟩
      have hp1 : (upd H p (.dK (putK (kvP c z m) (.inr "spot") (.int (z + 1))))) p = some (.dK (kvP c (z + 1) m)) := by rw [upd_same, p_spot]
      have hc1 : (upd H p (.dK (putK (kvP c z m) (.inr "spot") (.int (z + 1))))) c = some (.lst (ns.map V.int)) := by rw [upd_ne (ne_of hc hp nofun)]; exact hc
      have sx1 : SameX p H (upd H p (.dK (putK (kvP c z m) (.inr "spot") (.int (z + 1))))) := SameX.upd
      generalize upd H p (.dK (putK (kvP c z m) (.inr "spot") (.int (z + 1)))) = H1 at hp1 hc1 sx1
      have gc1 : ∀ H2 : Hp, Same H1 H2 → DGet H2 p (.str "cells") (some (.ref c)) := fun H2 s2 => by have q := DGet.k (k := (.inr "cells" : Key)) (s2 _ _ hp1); rw [v_cells] at q; exact q
      (try dsimp only [gName])
      refine seq_set_cut (fun v H2 => ∃ y : Int, v = .int y ∧ Same H1 H2) (fun Q hQ => ?_) ?_
      · refine ⟨_, rfl, p, _, rfl, gc1 H1 (Same.refl _), Nat.zero_le _, fun q nq => ?_⟩
        have s2 : Same H1 (upd H1 q (.lst [])) := same_new nq
        refine ⟨_, _, dp_list (s2 _ _ hc1), dp_list (ns := []) upd_same, shaped_list _, shaped_list [], _, rfl, ?_⟩
        refine ite2 (fun ne => ?_) (fun _ => ?_)
        · rw [eqv_list] at ne
          have pos : 0 < ns.length := by
            cases ns with
            | nil => simp at ne
            | cons _ _ => simp
          have hlen : ((ns.map V.int).length : Int) = (ns.length : Int) := by simp
          obtain ⟨y, hy⟩ := at_int (ns := ns) (i := z.fmod ns.length) (fmod_lo _ (by omega)) (fmod_hi _ (by omega))
          refine ⟨_, rfl, p, _, rfl, gc1 _ s2, _, rfl, _, rfl, p, _, rfl, gc1 _ s2, c, _, rfl, .inl (SqL.of (s2 _ _ hc1)), _, _, rfl, rfl, (by rw [hlen]; omega), c, _, _, _, rfl, rfl, SqL.of (s2 _ _ hc1), (by rw [hlen]; exact hy), ?_⟩
          exact hQ _ _ ⟨y, rfl, s2⟩
        · refine ⟨_, rfl, _, _, rfl, rfl, .inl (by constructor <;> decide), _, _, rfl, rfl, ?_⟩
          exact hQ _ _ ⟨_, rfl, s2⟩
      · rintro v H2 ⟨y, rfl, s2⟩
        have hp2 := s2 _ _ hp1
        have hc2 := s2 _ _ hc1
        have sx2 : SameX p H H2 := sx1.trans (.of s2)
        (try dsimp only [gName])
        refine seq_cut (fun σ' H' => σ' = [some (.ref p), some (.int n), none, some (.int z), some (.int y), none] ∧ H' = H2) (fun N hN' => ?_) ?_
        · refine ⟨_, rfl, _, rfl, p, _, rfl, gc1 _ s2, c, _, rfl, .inl (SqL.of hc2), _, _, rfl, rfl, _, rfl, ?_⟩
          refine ite2 (fun _ => ?_) (fun _ => iteF (hN' _ _ ⟨rfl, rfl⟩))
          refine ⟨_, rfl, _, rfl, _, _, rfl, rfl, ⟨by decide, by decide, by decide⟩, _, _, rfl, rfl, _, rfl, ?_⟩
          refine ite2 (fun _ => ?_) (fun _ => hN' _ _ ⟨rfl, rfl⟩)
          refine ⟨_, rfl, _, rfl, _, _, rfl, rfl, ⟨by decide, by decide, by decide⟩, _, _, rfl, rfl, _, rfl, _, _, rfl, rfl, ⟨by omega, by omega⟩, _, rfl, p, _, rfl, DPut.k (k := (.inr "more" : Key)) hp2 (by show 3 < sizeLine; decide), ?_⟩
          refine ⟨_, rfl, _, rfl, _, _, rfl, rfl, ⟨by decide, by decide, by decide⟩, _, _, rfl, rfl, _, rfl, _, _, rfl, rfl, (by omega), ?_⟩
          refine k _ _ (fmod_lo _ (by omega)) (fmod_hi _ (by omega)) ⟨ns, z + 1, _, Eq.trans upd_same (by rw [p_more]), ?_, by omega, by omega, hl⟩ (sx2.trans SameX.upd)
          rw [upd_ne (ne_of hc2 hp2 nofun)]
          exact hc2
        · rintro σ' H' ⟨rfl, rfl⟩
          have a1 := fmod_lo y (b := 2147483647) (by decide)
          have a2 := fmod_hi y (b := 2147483647) (by decide)
          refine ⟨_, rfl, _, _, rfl, rfl, (show (2147483647 : Int) ≠ 0 by decide), _, _, rfl, rfl, .inl ⟨by omega, by omega⟩, _, rfl, _, _, rfl, rfl, .inl ⟨by decide, by decide⟩, _, rfl, _, _, rfl, rfl, .inr ⟨by omega, by omega⟩, _, _, rfl, rfl, _, rfl, _, _, rfl, rfl, .inl ⟨by decide, by decide⟩, _, _, rfl, rfl, _, _, rfl, rfl, _, _, rfl, rfl, (show (2147483629 : Int) ≠ 0 by decide), ?_⟩
          dsimp only [gName]
          generalize hm1 : Int.fmod _ 2147483629 = m1
          have b1 : 0 ≤ m1 := hm1 ▸ fmod_lo _ (by decide)
          have b2 : m1 < 2147483629 := hm1 ▸ fmod_hi _ (by decide)
          clear hm1
          refine ⟨_, rfl, _, rfl, _, _, rfl, rfl, .inl ⟨by omega, by omega⟩, _, rfl, _, _, rfl, rfl, .inl ⟨by decide, by decide⟩, _, _, rfl, rfl, _, rfl, _, _, rfl, rfl, .inl ⟨by decide, by decide⟩, _, _, rfl, rfl, _, _, rfl, rfl, _, _, rfl, rfl, (show (2147483587 : Int) ≠ 0 by decide), ?_⟩
          dsimp only [gName]
          generalize hm2 : Int.fmod _ 2147483587 = m2
          have c1 : 0 ≤ m2 := hm2 ▸ fmod_lo _ (by decide)
          have c2 : m2 < 2147483587 := hm2 ▸ fmod_hi _ (by decide)
          clear hm2
          refine ⟨_, rfl, _, rfl, _, _, rfl, rfl, _, _, rfl, rfl, .inl ⟨by omega, by omega⟩, _, _, rfl, rfl, (show (2147483579 : Int) ≠ 0 by decide), _, _, rfl, rfl, ⟨by decide, by decide⟩, _, rfl, _, _, rfl, rfl, (by omega), ?_⟩
          exact k _ _ (fmod_lo _ (by omega)) (fmod_hi _ (by omega)) ⟨ns, z + 1, m, hp2, hc2, by omega, by omega, hl⟩ sx2
abbrev s_pick : Stmt := top 46
theorem sc_pick : FnScope ["_law_pen_here", "_law_some"] ["_law_pen_here", "_law_some"] (defScope s_pick) := ⟨rfl, rfl, rfl, by decide +kernel, rfl, by decide +kernel, by decide +kernel⟩
def spPick : Sp := fun vs H Q _ => ∃ (p c : Addr) (x : V) (N : Nat), vs = [.ref p, x] ∧ PenAt H p c N ∧ N ≤ 100000000 ∧
  ((∃ (a : Addr) (xs : List V), x = .ref a ∧ H a = some (.lst xs) ∧ 1 ≤ xs.length ∧ xs.length ≤ 10000 ∧ ∀ (v : V) (H' : Hp), v ∈ xs → PenAt H' p c (N + 1) → SameX p H H' → Q v H') ∨
   (∃ z : Str, x = .str z ∧ 1 ≤ z.length ∧ z.length ≤ 10000 ∧ ∀ (c' : Nat) (H' : Hp), c' ∈ z.cps.toList → PenAt H' p c (N + 1) → SameX p H H' → Q (.str ⟨#[c']⟩) H'))
theorem ok_pick {f : Addr} {fd : FuncData} (F : Fun K "_law_pick" "_law_pick" s_pick f fd) (T : Bare mg) (D1 : Has P w K mg base 1 "_law_draw" ["_law_pen_here", "_law_many"] spDraw) :
    FnOk P w K mg base CX0 2 f fd ["_law_pen_here", "_law_some"] spPick := by
  obtain ⟨_, _, G_draw, m_draw, k_draw, b_draw⟩ := D1
  refine F.ok sc_pick (fun vs H Q E h => ?_) (fun cdv A outer s H vs Q E hr h => ?_)
  · obtain ⟨p, c, x, N, rfl, _⟩ := h
    rfl
  · obtain ⟨p, c, x, N, rfl, hP, hN, ways⟩ := h
    refine ⟨_, (pss_one (ps_ret (pe_ix (ix_some (K := K) rfl) (pv 1) (pe_call G_draw (hr.mono (by decide)) rfl m_draw k_draw b_draw .nil pass0 (pa_cons (pv 0) (pa_cons (pe_callB (call_len_some (K := K) rfl) (by rfl) T.n_len PySem.boot_len (pa_cons (pv 1) pa_nil)) pa_nil))) (fun _ _ => rfl)))), ?_⟩
    rcases ways with ⟨a, xs, rfl, ha, n1, nz, k⟩ | ⟨z, rfl, n1, nz, k⟩
    · refine ⟨_, rfl, _, rfl, _, rfl, .inr ⟨a, _, rfl, .inl (SqL.of ha), p, c, _, N, rfl, hP, by omega, by omega, by omega, fun i H1 i0 i1 P1 s1 => .inr ?_⟩⟩
      obtain ⟨j, rfl⟩ := Int.eq_ofNat_of_zero_le i0
      have hj : j < xs.length := by omega
      exact ⟨a, _, _, _, rfl, rfl, SqL.of (s1.lst hP ha), atI_nat (List.getElem?_eq_getElem hj), k _ _ (List.getElem_mem hj) P1 s1⟩
    · have hz : z.length = z.cps.toList.length := by simp [Str.length]
      refine ⟨_, rfl, _, rfl, _, rfl, .inl ⟨z, rfl, small_line nz, p, c, _, N, rfl, hP, by omega, by omega, by omega, fun i H1 i0 i1 P1 s1 => .inl ?_⟩⟩
      obtain ⟨j, rfl⟩ := Int.eq_ofNat_of_zero_le i0
      have hj : j < z.cps.toList.length := by omega
      exact ⟨z, _, _, rfl, rfl, small_line nz, atI_nat (List.getElem?_eq_getElem hj), k _ _ (List.getElem_mem hj) P1 s1⟩
abbrev s_names : Stmt := top 47
theorem sc_names : FnScope ["_law_pen_here", "_law_many", "_law_letters", "_law_stem", "_law_at", "_law_begin", "_law_trim", "_law_step", "_law_found", "_law_k", "_law_tail"] ["_law_pen_here", "_law_many"] (defScope s_names) := ⟨rfl, rfl, rfl, by decide +kernel, rfl, by decide +kernel, by decide +kernel⟩
def spNames : Sp := fun vs H Q _ => ∃ (p c : Addr) (m N : Nat), vs = [.ref p, .int m] ∧ m ≤ 6 ∧ PenAt H p c N ∧ N ≤ 90000000 ∧
  ∀ (r : Addr) (ms : List Str) (H' : Hp), H r = none → H' r = some (.lst (ms.map V.str)) → ms.length = m → ms.Nodup → (∀ z ∈ ms, IsName z) → PenAt H' p c (N + 20) → SameX p H H' → Q (.ref r) H'
theorem ok_names {f : Addr} {fd : FuncData} (F : Fun K "_law_names" "_law_names" s_names f fd) (T : Bare mg) (D1 : Has P w K mg base 1 "_law_draw" ["_law_pen_here", "_law_many"] spDraw) (D2 : Has P w K mg base 2 "_law_pick" ["_law_pen_here", "_law_some"] spPick) :
    FnOk P w K mg base CX0 3 f fd ["_law_pen_here", "_law_many"] spNames := by
  obtain ⟨_, _, G_draw, m_draw, k_draw, b_draw⟩ := D1
  obtain ⟨_, _, G_pick, m_pick, k_pick, b_pick⟩ := D2
  refine F.ok sc_names (fun vs H Q E h => ?_) (fun cdv A outer s H vs Q E hr h => ?_)
  · obtain ⟨p, c, m, N, rfl, _⟩ := h
    rfl
  · obtain ⟨p, c, m, N, rfl, m6, hP, hN, k⟩ := h
    refine ⟨_, (pss_cons (ps_set (i := 2) sc_names.nd rfl (Or.inr rfl) pe_str)
      (pss_cons (ps_set (i := 3) sc_names.nd rfl (Or.inl rfl) (pe_join pe_str (pe_lc (own := [("_law_k", 9)]) (g := gName 9) (tt := tYes) rfl sc_names.nd (pi_range1 rfl T.n_range (pa_cons (pe_op op_add pe_int (pe_call G_draw (hr.mono (by decide)) rfl m_draw k_draw b_draw .nil pass0 (pa_cons (pv 0) (pa_cons pe_int pa_nil)))) pa_nil)) (blkOk_by (own := [("_law_k", 9)]) (N := ["_law_pen_here", "_law_many", "_law_letters", "_law_stem", "_law_at", "_law_begin", "_law_trim", "_law_step", "_law_found", "_law_k", "_law_tail"]) (sc := defScope s_names) (by decide +kernel)) (fun _ _ _ _ _ => pg_name (i := 9) sc_names.nd rfl (Or.inl rfl)) (fun _ _ _ _ _ => pts_nil) (fun _ _ _ _ _ => (pe_call G_pick (hr.mono (by decide)) rfl m_pick k_pick b_pick .nil pass0 (pa_cons (pv 0) (pa_cons (pv 2) pa_nil)))))))
      (pss_cons (ps_par3 (i := 4) (j := 5) (l := 6) rfl sc_names.nd rfl rfl rfl (by decide) (by decide) (by decide) rfl rfl rfl (pa_cons (pe_call G_draw (hr.mono (by decide)) rfl m_draw k_draw b_draw .nil pass0 (pa_cons (pv 0) (pa_cons (pe_callB call_len_str (by rfl) T.n_len PySem.boot_len (pa_cons (pv 3) pa_nil)) pa_nil))) (pa_cons (pe_call G_draw (hr.mono (by decide)) rfl m_draw k_draw b_draw .nil pass0 (pa_cons (pv 0) (pa_cons pe_int pa_nil))) (pa_cons (pe_call G_draw (hr.mono (by decide)) rfl m_draw k_draw b_draw .nil pass0 (pa_cons (pv 0) (pa_cons pe_int pa_nil))) pa_nil))) (by rfl))
      (pss_cons (ps_par (i := 7) (j := 8) rfl sc_names.nd rfl rfl (by decide) rfl rfl (pa_cons (pe_call G_pick (hr.mono (by decide)) rfl m_pick k_pick b_pick .nil pass0 (pa_cons (pv 0) (pa_cons (pe_lst (pa_cons pe_int (pa_cons pe_int (pa_cons pe_int (pa_cons pe_int (pa_cons pe_int (pa_cons pe_int (pa_cons pe_int (pa_cons pe_int (pa_cons pe_int (pa_cons pe_int (pa_cons pe_int (pa_cons pe_int pa_nil))))))))))))) pa_nil))) (pa_cons (pe_lst pa_nil) pa_nil)) (by rfl))
      (pss_cons (ps_for PassesOwn.never rfl (pi_range1 rfl T.n_range (pa_cons (pv 1) pa_nil)) (pg_name (i := 9) sc_names.nd rfl (Or.inl rfl))
      (pss_cons (ps_set (i := 10) sc_names.nd rfl (Or.inl rfl) (pe_ifExp (pt_cmpR op_eq (pv 6) pe_int (nomark _)) (pe_slice sl_str (pv 3) (po_some (pe_op op_add (pv 4) pe_int)) po_none) (pe_slice sl_str (pe_slice sl_str (pv 3) (po_some (pe_op op_add (pv 4) pe_int)) po_none) po_none (po_some (pe_op op_modN (pv 9) pe_int)))))
      (pss_one (ps_expr (pe_bm PySem.F.plainAttrs_list PySem.F.slot_list_append PySem.F.type_list_append mt_append (pv 8) (pa_cons (pe_op op_add_str (pe_op op_add_str (pe_slice sl_str (pv 3) po_none (po_some (pv 4))) (pe_ix ix_str (pv 2) (pe_op op_modN (pe_op op_add (pv 5) (pe_op op_mul (pv 7) (pv 9))) pe_int) (fun _ _ => rfl))) (pv 10)) pa_nil))))))
      (pss_one (ps_ret (pv 8)))))))), ?_⟩
    (try dsimp only [gName])
    refine seq_set_cut (fun v H' => v = .str AZ ∧ H = H') (fun Q hQ => hQ _ _ ⟨rfl, rfl⟩) ?_
    rintro v H0 ⟨rfl, rfl⟩
    -- the stem
    (try dsimp only [gName])
    refine seq_set_cut (fun v H' => ∃ z : Str, v = .str z ∧ 1 ≤ z.length ∧ z.length ≤ 8 ∧ (∀ c ∈ z.cps.toList, Low c) ∧ PenAt H' p c (N + 9) ∧ SameX p H H') (fun Q hQ => ?_) ?_
    · refine ⟨⟨_, rfl⟩, _, rfl, p, c, _, N, rfl, hP, by omega, by decide, by decide, fun e H1 e0 e1 P1 s1 => ⟨_, _, rfl, rfl, _, rfl, by omega, by omega, fun D nD => ?_⟩⟩
      obtain ⟨j, rfl⟩ := Int.eq_ofNat_of_zero_le e0
      have en : ((1 : Int) + (j : Int)).toNat = j + 1 := by omega
      rw [en]
      have nDH : H D = none := s1.free P1 nD
      have nDp := P1.new nD
      have nDc := P1.newC nD
      refine lc_range (lo := 0) (n := j + 1) (fun i H' => PenAt H' p c (N + 1 + i) ∧ SameX p H H' ∧ ∃ cs : List Nat, H' D = some (.lst ((cs.map one).map V.str)) ∧ cs.length = i ∧ ∀ c ∈ cs, Low c)
        ⟨P1.upd nDp nDc, s1.new nDH, [], upd_same, rfl, fun _ h => by cases h⟩ ?_ ?_
      · rintro i H2 hi ⟨P2, s2, cs, hD, hcs, low⟩
        refine ⟨rfl, _, rfl, _, rfl, p, c, _, _, rfl, P2, by omega, .inr ⟨AZ, rfl, by rw [az_len]; decide, by rw [az_len]; decide, fun ch H3 hch P3 s3 => ?_⟩⟩
        have hD3 := s3.lst P2 hD
        refine ⟨_, hD3, ?_, P3.upd nDp nDc, (s2.trans s3).new nDH, cs ++ [ch], ?_, ?_, ?_⟩
        · rw [List.length_map, List.length_map]
          exact small_lt (by omega)
        · rw [upd_same, List.map_append, List.map_append]
          rfl
        · rw [List.length_append, hcs]
          rfl
        · intro d hd
          rcases List.mem_append.mp hd with hd | hd
          · exact low d hd
          · rw [List.mem_singleton.mp hd]
            exact az_low ch hch
      · rintro H2 ⟨P2, s2, cs, hD, hcs, low⟩
        have ej := joined_ones cs
        have hl : (Txt.join (Str.ofString "") (cs.map one)).length = j + 1 := by rw [len_list', ej, hcs]
        refine ⟨Str.ofString "", D, cs.map one, rfl, rfl, .inl (SqL.of hD), ?_, hQ _ _ ⟨_, rfl, by omega, by omega, by rw [ej]; exact low, P2.more (by omega), s2⟩⟩
        have e0 : (Str.ofString "").length = 0 := by decide +kernel
        have es : ((cs.map one).map (·.length)).sum = cs.length := by
          rw [List.map_map]
          clear low hD hcs ej hl
          induction cs with
          | nil => rfl
          | cons a cs ih =>
            rw [List.map_cons, List.sum_cons, ih, List.length_cons]
            show 1 + cs.length = _
            omega
        rw [e0, es, Nat.mul_zero, hcs]
        omega
    rintro v H1 ⟨z, rfl, z1, z8, low, P1, s1⟩
    have hz := small_line (n := z.length) (by omega)
    refine ⟨_, rfl, _, rfl, z, rfl, hz, p, c, _, _, rfl, P1, by omega, by omega, by omega, fun at' H2 a0 a1 P2 s2 => ?_⟩
    refine ⟨_, rfl, p, c, _, _, rfl, P2, by omega, by decide, by decide, fun b H3 b0 b1 P3 s3 => ?_⟩
    refine ⟨_, rfl, p, c, _, _, rfl, P3, by omega, by decide, by decide, fun tr H4 t0 t1 P4 s4 => ⟨_, _, _, rfl, ?_⟩⟩
    obtain ⟨a, rfl⟩ := Int.eq_ofNat_of_zero_le a0
    have ha : a + 1 ≤ z.length := by omega
    have s14 := ((s1.trans s2).trans s3).trans s4
    refine ⟨_, rfl, by show 12 ≤ sizeLine; decide, fun l nl => ?_⟩
    have sl : Same H4 (upd H4 l (.lst [.int 1, .int 3, .int 5, .int 7, .int 9, .int 11, .int 15, .int 17, .int 19, .int 21, .int 23, .int 25])) := same_new nl
    have hl4 : (upd H4 l (.lst [.int 1, .int 3, .int 5, .int 7, .int 9, .int 11, .int 15, .int 17, .int 19, .int 21, .int 23, .int 25])) l = _ := upd_same
    have P5 := P4.same sl
    have s15 := s14.trans (.of sl)
    generalize upd H4 l _ = H5 at hl4 P5 s15
    refine ⟨p, c, _, _, rfl, P5, by omega, .inl ⟨l, _, rfl, hl4, by decide, by decide, fun v H6 hv P6 s6 => ⟨Nat.zero_le _, fun g ng => ⟨_, _, rfl, ?_⟩⟩⟩⟩
    obtain ⟨st, rfl, hst⟩ : ∃ st : Int, v = .int st ∧ st ∈ [(1 : Int), 3, 5, 7, 9, 11, 15, 17, 19, 21, 23, 25] := by
      have : v ∈ ([(1 : Int), 3, 5, 7, 9, 11, 15, 17, 19, 21, 23, 25]).map V.int := hv
      obtain ⟨st, h, rfl⟩ := List.mem_map.mp this
      exact ⟨st, rfl, h⟩
    have s16 := s15.trans s6
    have ngH : H g = none := s16.free P6 ng
    have ngp := P6.new ng
    have ngc := P6.newC ng
    have P7 := P6.upd (o := .lst []) ngp ngc
    have s17 := s16.new (o := .lst []) ngH
    have hst' : 1 ≤ st ∧ st ≤ 25 := by
      simp only [List.mem_cons, List.not_mem_nil, or_false] at hst
      omega
    let nm : Nat → Str := fun i => cutS z none (some (a : Int)) ++ one (97 + ((b + st * (0 + (i : Int))).fmod 26).toNat) ++
      (if tr = 0 then cutS z (some ((a : Int) + 1)) none else cutS (cutS z (some ((a : Int) + 1)) none) none (some ((0 + (i : Int)).fmod 3)))
    refine ⟨_, rfl, _, rfl, by omega, by omega, ?_⟩
    have em : ((m : Int)).toNat = m := by omega
    rw [em]
    refine for_range (lo := 0) (n := m) (fun i σ H' => (∃ u v, σ = [some (.ref p), some (.int m), some (.str AZ), some (.str z), some (.int a), some (.int b), some (.int tr), some (.int st), some (.ref g), u, v]) ∧
      PenAt H' p c (N + 20) ∧ SameX p H H' ∧ H' g = some (.lst (((List.range i).map nm).map V.str))) ⟨⟨_, _, rfl⟩, P7.more (by omega), s17, upd_same⟩ ?_ ?_
    · rintro i σ H' hi ⟨⟨u, v, rfl⟩, P', s', hg⟩
      have hi6 : i < 6 := by omega
      have e1 : ((a : Int) + 1) = ((a + 1 : Nat) : Int) := by omega
      have hfm : 0 ≤ (b + st * (0 + (i : Int))).fmod 26 ∧ (b + st * (0 + (i : Int))).fmod 26 < 26 := ⟨fmod_lo _ (by decide), fmod_hi _ (by decide)⟩
      have hf3 : 0 ≤ (0 + (i : Int)).fmod 3 := fmod_lo _ (by decide)
      -- the rest of the turn, the end known
      have rest : ∀ T : Str, T = (if tr = 0 then cutS z (some ((a : Int) + 1)) none else cutS (cutS z (some ((a : Int) + 1)) none) none (some ((0 + (i : Int)).fmod 3))) → T.length ≤ 8 → True := fun _ _ _ => trivial
      (try dsimp only [gName])
      refine seq_set_cut (fun v H2 => H2 = H' ∧ ∃ T : Str, v = .str T ∧ T = (if tr = 0 then cutS z (some ((a : Int) + 1)) none else cutS (cutS z (some ((a : Int) + 1)) none) none (some ((0 + (i : Int)).fmod 3))) ∧ T.length ≤ 8) (fun Q hQ => ?_) ?_
      · have lT : (cutS z (some ((a : Int) + 1)) none).length ≤ 8 := by
          have := cutS_le z (some ((a : Int) + 1)) none
          omega
        refine ⟨_, rfl, rfl, _, rfl, ite2 (fun h => ?_) (fun h => ?_)⟩
        · have h' : tr = 0 := by simpa using h
          refine ⟨_, rfl, _, rfl, _, _, rfl, rfl, _, rfl, z, rfl, hz, hQ _ _ ⟨rfl, _, rfl, by rw [if_pos h'], lT⟩⟩
        · have h' : ¬ tr = 0 := by simpa using h
          refine ⟨_, rfl, _, rfl, _, _, rfl, rfl, _, rfl, z, rfl, hz, _, rfl, _, _, rfl, rfl, (show (3 : Int) ≠ 0 by decide), _, rfl, _, rfl, small_line (by omega), hQ _ _ ⟨rfl, _, rfl, by rw [if_neg h'], ?_⟩⟩
          have := cutS_le (cutS z (some ((a : Int) + 1)) none) none (some ((0 + (i : Int)).fmod 3))
          omega
      rintro v H2 ⟨rfl, T, rfl, eT, lT⟩
      clear rest
      have cl : (cutS z none (some (a : Int))).length ≤ 8 := by
        have := cutS_le z none (some (a : Int))
        omega
      have o1 : ∀ c : Nat, (one c).length = 1 := fun _ => rfl
      refine ⟨_, rfl, .inl ⟨rfl, _, SqL.of hg⟩, _, rfl, _, rfl, _, rfl, z, rfl, hz, _, rfl, _, rfl, _, rfl, _, rfl, _, _, rfl, rfl, .inl ⟨by omega, by omega⟩, _, _, rfl, rfl, _, _, rfl, rfl, (show (26 : Int) ≠ 0 by decide), AZ, _, _, rfl, rfl, by rw [az_len]; exact small_line (by decide), az_get hfm.1 hfm.2, _, _, rfl, rfl, ?_, _, rfl, _, _, rfl, rfl, ?_, g, _, _, rfl, rfl, hg, ?_, ?_⟩
      · rw [o1]
        exact small_line (by omega)
      · rw [Str.length_append, o1]
        exact small_line (by omega)
      · rw [List.length_map, List.length_map, List.length_range]
        exact small_lt (by omega)
      · refine ⟨⟨_, _, rfl⟩, P'.upd ngp ngc, s'.new ngH, ?_⟩
        rw [upd_same, List.range_succ, List.map_append, List.map_append, eT]
        rfl
    · rintro σ H' ⟨⟨u, v, rfl⟩, P', s', hg⟩
      refine ⟨_, rfl, k g ((List.range m).map nm) H' ngH hg (by rw [List.length_map, List.length_range]) ?_ ?_ P' s'⟩
      · refine List.pairwise_map.mpr (List.Pairwise.imp_of_mem (fun {i j} hi hj h e => ?_) List.pairwise_lt_range)
        have hi' := List.mem_range.mp hi
        have hj' := List.mem_range.mp hj
        have ec := name_ne e
        have f1 : 0 ≤ (b + st * (0 + (i : Int))).fmod 26 := fmod_lo _ (by decide)
        have f2 : 0 ≤ (b + st * (0 + (j : Int))).fmod 26 := fmod_lo _ (by decide)
        have ee : (b + st * (0 + (i : Int))).fmod 26 = (b + st * (0 + (j : Int))).fmod 26 := by omega
        rw [Int.fmod_eq_emod_of_nonneg _ (by decide), Int.fmod_eq_emod_of_nonneg _ (by decide)] at ee
        have := steps_differ hst ⟨by omega, by omega⟩ ⟨by omega, by omega⟩ ee
        omega
      · intro y hy
        obtain ⟨i, hi, rfl⟩ := List.mem_map.mp hy
        have f1 : 0 ≤ (b + st * (0 + (i : Int))).fmod 26 := fmod_lo _ (by decide)
        have f2 : (b + st * (0 + (i : Int))).fmod 26 < 26 := fmod_hi _ (by decide)
        have e1 : ((a : Int) + 1) = ((a + 1 : Nat) : Int) := by omega
        have l1 : (cutS z (some ((a : Int) + 1)) none).length ≤ z.length - (a + 1) := by rw [e1]; exact cutS_from_len ha
        refine name_is (at' := a) ha z8 low (cutS_to (by omega)) ?_ ?_ ⟨by omega, by omega⟩
        · intro d hd
          split at hd
          · exact cutS_mem hd
          · exact cutS_mem (cutS_mem hd)
        · split
          · exact l1
          · have := cutS_le (cutS z (some ((a : Int) + 1)) none) none (some ((0 + (i : Int)).fmod 3))
            omega
abbrev s_word : Stmt := top 48
theorem sc_word : FnScope ["_law_pen_here", "_law_places", "_law_many", "_law_turn"] ["_law_pen_here", "_law_places", "_law_many"] (defScope s_word) := ⟨rfl, rfl, rfl, by decide +kernel, rfl, by decide +kernel, by decide +kernel⟩
def spWord : Sp := fun vs H Q _ => ∃ (p c : Addr) (n m N : Nat), vs = [.ref p, .int n, .int m] ∧ PenAt H p c N ∧ N ≤ 100000000 ∧ 1 ≤ n ∧ n ≤ 60 ∧ m ≤ 5000 ∧
  ∀ r ws H', Tup H' r (ws.map V.int) → OkW n ws → ws.length ≤ m → PenAt H' p c (N + m + 1) → SameX p H H' → Q (.ref r) H'
theorem ok_word {f : Addr} {fd : FuncData} (F : Fun K "_law_word" "_law_word" s_word f fd) (T : Bare mg) (D1 : Has P w K mg base 1 "_law_draw" ["_law_pen_here", "_law_many"] spDraw) :
    FnOk P w K mg base CX0 2 f fd ["_law_pen_here", "_law_places", "_law_many"] spWord := by
  obtain ⟨_, _, G_draw, m_draw, k_draw, b_draw⟩ := D1
  refine F.ok sc_word (fun vs H Q E h => ?_) (fun cdv A outer s H vs Q E hr h => ?_)
  · obtain ⟨p, c, n, m, N, rfl, _⟩ := h
    rfl
  · obtain ⟨p, c, n, m, N, rfl, hP, hN, n1, n60, hm, k⟩ := h
    refine ⟨_, (pss_one (ps_ret (pe_callTy (call_tupleF (K := K) rfl) (by rfl) T.n_tuple (by decide +kernel) (pa_cons (pe_lc (own := [("_law_turn", 3)]) (g := gName 3) (tt := tYes) rfl sc_word.nd (pi_range1 rfl T.n_range (pa_cons (pe_op op_mul (pe_call G_draw (hr.mono (by decide)) rfl m_draw k_draw b_draw .nil pass0 (pa_cons (pv 0) (pa_cons (pe_op op_add (pv 2) pe_int) pa_nil))) (pe_callTy call_int1 (by rfl) T.n_int (by decide +kernel) (pa_cons (pe_cmpR op_gt (pv 1) pe_int (nomark _)) pa_nil))) pa_nil)) (blkOk_by (own := [("_law_turn", 3)]) (N := ["_law_pen_here", "_law_places", "_law_many", "_law_turn"]) (sc := defScope s_word) (by decide +kernel)) (fun _ _ _ _ _ => pg_name (i := 3) sc_word.nd rfl (Or.inl rfl)) (fun _ _ _ _ _ => pts_nil) (fun _ _ _ _ _ => (pe_call G_draw (hr.mono (by decide)) rfl m_draw k_draw b_draw .nil pass0 (pa_cons (pv 0) (pa_cons (pe_op op_sub (pv 1) pe_int) pa_nil))))) pa_nil)))), ?_⟩
    refine ⟨_, rfl, _, rfl, _, _, rfl, rfl, p, c, _, N, rfl, hP, by omega, by omega, by omega, fun d H1 d0 d1 P1 s1 => ?_⟩
    refine ⟨_, rfl, _, _, rfl, rfl, .inr ⟨_, rfl, _, _, rfl, rfl, .inl ⟨by omega, by omega⟩, ?_⟩⟩
    have hj : ∃ e : Nat, d * (if decide ((1 : Int) < (n : Int)) = true then 1 else 0) = (e : Int) ∧ e ≤ m ∧ (0 < e → 1 < n) := by
      by_cases h1 : (1 : Int) < (n : Int)
      · exact ⟨d.toNat, by rw [if_pos (decide_eq_true h1)]; omega, by omega, fun _ => by omega⟩
      · exact ⟨0, by rw [if_neg (by simpa using h1)]; simp, by omega, fun h => by omega⟩
    obtain ⟨e, hc, cm, c1⟩ := hj
    refine ⟨_, rfl, by omega, by omega, fun D nD => ?_⟩
    rw [hc, Int.toNat_natCast]
    refine lc_range (lo := 0) (n := e) (fun i H' => ∃ ws : List Int, ws.length = i ∧ OkW n ws ∧ H' D = some (.lst (ws.map V.int)) ∧ PenAt H' p c (N + 1 + i) ∧ SameX p H H')
      ⟨[], rfl, (fun _ h => by cases h), upd_same, P1.same (same_new nD), s1.trans (.of (same_new nD))⟩ ?_ ?_
    · rintro i H' hi ⟨ws, hl, ok, hD, P2, s2⟩
      have n2 := c1 (by omega)
      refine ⟨rfl, _, rfl, _, rfl, _, _, rfl, rfl, p, c, _, N + 1 + i, rfl, P2, by omega, by omega, by omega, fun z H4 z0 z1 P4 s4 => ?_⟩
      have hD4 := s4.lst P2 hD
      have nDp : D ≠ p := P1.new nD
      have nDc : D ≠ c := P1.newC nD
      refine ⟨_, hD4, by rw [List.length_map]; exact small_lt (by omega), ws ++ [z], by rw [List.length_append, hl]; rfl, fun x hx => ?_, by rw [upd_same, List.map_append]; rfl, ?_, ?_⟩
      · rcases List.mem_append.mp hx with h | h
        · exact ok x h
        · rw [List.mem_singleton.mp h]
          omega
      · exact (P4.upd nDp nDc).more (by omega)
      · exact (s2.trans s4).new (s1.free P1 nD)
    · rintro H' ⟨ws, hl, ok, hD, P2, s2⟩
      exact ⟨D, _, rfl, .inl (SqL.of hD), fun r H5 s5 hr5 => k r ws H5 hr5 ok (by omega) ((P2.same s5).more (by omega)) (s2.trans (.of s5))⟩
end
end Lk12
set_option Elab.async false
set_option maxRecDepth 100000
namespace Lk12
open PySem L2 Lw
section
variable {P : Program} {w : World} {K : PySem.W.Frag} {mg : Str → Option Value} {base : Heap}
abbrev s_law : Stmt := top 49
theorem sc_law : FnScope ["_law_script", "_law_pen_here", "_law_turn", "_law_places", "_law_words", "_law_one", "_law_two", "_law_three", "_law_begun", "_law_marks", "_law_table", "_law_line", "_law_k", "_law_word_here", "_law_mark", "_law_other", "_law_runner"] ["_law_script"] (defScope s_law) := ⟨rfl, rfl, rfl, by decide +kernel, rfl, by decide +kernel, by decide +kernel⟩
def spLaw (K : PySem.W.Frag) : Sp := fun vs H Q _ => ∃ (a : Addr) (ns : List Int), vs = [.ref a] ∧ SqL K H a (ns.map V.int) ∧ ns.length ≤ 63 ∧ ∀ H', Q (.bl true) H'
def WordT (n : Nat) (H : Hp) (t : Addr) (ws : List Int) : Prop := Tup H t (ws.map V.int) ∧ OkW n ws ∧ ws.length ≤ 60
theorem paired3 {α β : Type} {F : α → β → Prop} : ∀ {as : List α} {bs : List β}, Paired F as bs → as.length = 3 → ∃ a b c x y z, as = [a, b, c] ∧ bs = [x, y, z] ∧ F a x ∧ F b y ∧ F c z
  | _, _, .cons h0 (.cons h1 (.cons h2 .nil)), _ => ⟨_, _, _, _, _, _, rfl, rfl, h0, h1, h2⟩
abbrev OrdT (n : Nat) (H : Hp) (t : Addr) (ws : List Int) : Prop := Tup H t ((run (idl n) ws).map V.int)
set_option maxHeartbeats 4000000 in
theorem ok_law {C f0 : Addr} {f : Addr} {fd : FuncData} (F : Fun K "law" "law" s_law f fd) (T : Bare mg) (TC : TabC K mg C f0)
    (D_pen : Has P w K mg base 1 "_law_pen" ["_law_script"] (spPen K)) (D_draw : Has P w K mg base 1 "_law_draw" ["_law_pen_here", "_law_many"] spDraw)
    (D_pick : Has P w K mg base 2 "_law_pick" ["_law_pen_here", "_law_some"] spPick) (D_word : Has P w K mg base 2 "_law_word" ["_law_pen_here", "_law_places", "_law_many"] spWord)
    (D_names : Has P w K mg base 3 "_law_names" ["_law_pen_here", "_law_many"] spNames)
    (D_order_of : Has P w K mg base 4 "order_of" ["places", "word"] spOrderOf) (D_joined : Has P w K mg base 4 "joined" ["one", "other"] spJoined) (D_undone : Has P w K mg base 4 "undone" ["order"] spUndone)
    (D_init : HasI P w K mg base 5 C f0 ["self", "marks", "pairs"] (spInit C)) (D_row_behind : Has P w K mg base 5 "row_behind" ["table", "row", "word"] (spRowBehind C)) :
    FnG P w K mg base 7 f fd ["_law_script"] (spLaw K) := by
  obtain ⟨_, _, G_pen, m_pen, k_pen, b_pen⟩ := D_pen
  obtain ⟨_, _, G_draw, m_draw, k_draw, b_draw⟩ := D_draw
  obtain ⟨_, _, G_pick, m_pick, k_pick, b_pick⟩ := D_pick
  obtain ⟨_, _, G_word, m_word, k_word, b_word⟩ := D_word
  obtain ⟨_, _, G_names, m_names, k_names, b_names⟩ := D_names
  obtain ⟨_, _, G_order_of, m_order_of, k_order_of, b_order_of⟩ := D_order_of
  obtain ⟨_, _, G_joined, m_joined, k_joined, b_joined⟩ := D_joined
  obtain ⟨_, _, G_undone, m_undone, k_undone, b_undone⟩ := D_undone
  obtain ⟨_, G_Table_init, b_Table_init⟩ := D_init
  obtain ⟨_, _, G_row_behind, m_row_behind, k_row_behind, b_row_behind⟩ := D_row_behind
  refine gok F sc_law (fun vs H Q E h => ?_) (fun cdv A outer s H vs Q E hgA hr h => ?_)
  · obtain ⟨a, ns, rfl, _⟩ := h
    rfl
  · obtain ⟨a, ns, rfl, hS, hl, k⟩ := h
    refine ⟨_, (pss_cons (ps_set (i := 1) sc_law.nd rfl (Or.inr rfl) (pe_call G_pen (hr.mono (by decide)) rfl m_pen k_pen b_pen .nil pass0 (pa_cons (pv 0) pa_nil)))
      (pss_cons (ps_for PassesOwn.never rfl (pi_range1 rfl T.n_range (pa_cons pe_int pa_nil)) (pg_name (i := 2) sc_law.nd rfl (Or.inl rfl))
      (pss_cons (ps_set (i := 3) sc_law.nd rfl (Or.inr rfl) (pe_op op_add pe_int (pe_call G_draw (hr.mono (by decide)) rfl m_draw k_draw b_draw .nil pass0 (pa_cons (pv 1) (pa_cons (pe_ix ix_list (pe_lst (pa_cons pe_int (pa_cons pe_int (pa_cons pe_int pa_nil)))) (pe_call G_draw (hr.mono (by decide)) rfl m_draw k_draw b_draw .nil pass0 (pa_cons (pv 1) (pa_cons pe_int pa_nil))) (fun _ _ => rfl)) pa_nil)))))
      (pss_cons (ps_setLc (i := 4) (own := [("_law_k", 12)]) (g := gName 12) (tt := tYes) rfl sc_law.nd rfl rfl (sw_true rfl rfl rfl (by decide +kernel)) (pi_range1 rfl T.n_range (pa_cons pe_int pa_nil)) (blkOk_by (own := [("_law_k", 12)]) (N := ["_law_script", "_law_pen_here", "_law_turn", "_law_places", "_law_words", "_law_one", "_law_two", "_law_three", "_law_begun", "_law_marks", "_law_table", "_law_line", "_law_k", "_law_word_here", "_law_mark", "_law_other", "_law_runner"]) (sc := defScope s_law) (by decide +kernel)) (fun _ _ _ _ _ => pg_name (i := 12) sc_law.nd rfl (Or.inl rfl)) (fun _ _ _ _ _ => pts_nil) (fun _ _ _ _ _ => (pe_call G_word (hr.mono (by decide)) rfl m_word k_word b_word .nil pass0 (pa_cons (pv 1) (pa_cons (pv 3) (pa_cons pe_int pa_nil))))))
      (pss_cons (ps_asg (pe_lc (own := [("_law_word_here", 13)]) (g := gName 13) (tt := tYes) rfl sc_law.nd (pi_list (pv 4)) (blkOk_by (own := [("_law_word_here", 13)]) (N := ["_law_script", "_law_pen_here", "_law_turn", "_law_places", "_law_words", "_law_one", "_law_two", "_law_three", "_law_begun", "_law_marks", "_law_table", "_law_line", "_law_k", "_law_word_here", "_law_mark", "_law_other", "_law_runner"]) (sc := defScope s_law) (by decide +kernel)) (fun _ _ _ _ _ => pg_name (i := 13) sc_law.nd rfl (Or.inl rfl)) (fun _ _ _ _ _ => pts_nil) (fun _ _ _ _ _ => (pe_call G_order_of (hr.mono (by decide)) rfl m_order_of k_order_of b_order_of .nil pass0 (pa_cons (pv 3) (pa_cons (pv 13) pa_nil))))) (pg_unl rfl (pgs_cons (pg_name (i := 5) sc_law.nd rfl (Or.inl rfl)) (pgs_cons (pg_name (i := 6) sc_law.nd rfl (Or.inl rfl)) (pgs_cons (pg_name (i := 7) sc_law.nd rfl (Or.inl rfl)) pgs_nil)))))
      (pss_cons (ps_if (pt_cmpR (op_neDK (K := K) rfl hr.units) (pe_call G_order_of (hr.mono (by decide)) rfl m_order_of k_order_of b_order_of .nil pass0 (pa_cons (pv 3) (pa_cons (pe_op op_catF (pe_ix ix_list (pv 4) pe_int (fun _ _ => rfl)) (pe_ix ix_list (pv 4) pe_int (fun _ _ => rfl))) pa_nil))) (pe_call G_joined (hr.mono (by decide)) rfl m_joined k_joined b_joined .nil pass0 (pa_cons (pv 5) (pa_cons (pv 6) pa_nil))) (nomark _))
      (pss_one (ps_ret pe_bl)) pss_nil)
      (pss_cons (ps_if (pt_cmpR (op_neDK (K := K) rfl hr.units) (pe_call G_joined (hr.mono (by decide)) rfl m_joined k_joined b_joined .nil pass0 (pa_cons (pe_call G_joined (hr.mono (by decide)) rfl m_joined k_joined b_joined .nil pass0 (pa_cons (pv 5) (pa_cons (pv 6) pa_nil))) (pa_cons (pv 7) pa_nil))) (pe_call G_joined (hr.mono (by decide)) rfl m_joined k_joined b_joined .nil pass0 (pa_cons (pv 5) (pa_cons (pe_call G_joined (hr.mono (by decide)) rfl m_joined k_joined b_joined .nil pass0 (pa_cons (pv 6) (pa_cons (pv 7) pa_nil))) pa_nil))) (nomark _))
      (pss_one (ps_ret pe_bl)) pss_nil)
      (pss_cons (ps_set (i := 8) sc_law.nd rfl (Or.inl rfl) (pe_tupRgF rfl rfl T.n_tuple (prg_1 rfl T.n_range (pv 3))))
      (pss_cons (ps_if (PW.pt (pw_or (pt_cmpR (op_neDK (K := K) rfl hr.units) (pe_call G_joined (hr.mono (by decide)) rfl m_joined k_joined b_joined .nil pass0 (pa_cons (pv 5) (pa_cons (pe_call G_undone (hr.mono (by decide)) rfl m_undone k_undone b_undone .nil pass0 (pa_cons (pv 5) pa_nil)) pa_nil))) (pv 8) (nomark _)) (pw_or (pt_cmpR (op_neDK (K := K) rfl hr.units) (pe_call G_joined (hr.mono (by decide)) rfl m_joined k_joined b_joined .nil pass0 (pa_cons (pe_call G_undone (hr.mono (by decide)) rfl m_undone k_undone b_undone .nil pass0 (pa_cons (pv 5) pa_nil)) (pa_cons (pv 5) pa_nil))) (pv 8) (nomark _)) (pw_or1 (pt_cmpR (op_neDK (K := K) rfl hr.units) (pe_call G_undone (hr.mono (by decide)) rfl m_undone k_undone b_undone .nil pass0 (pa_cons (pe_call G_undone (hr.mono (by decide)) rfl m_undone k_undone b_undone .nil pass0 (pa_cons (pv 5) pa_nil)) pa_nil)) (pv 5) (nomark _))))))
      (pss_one (ps_ret pe_bl)) pss_nil)
      (pss_cons (ps_if (pt_cmpR (op_neDK (K := K) rfl hr.units) (pe_call G_undone (hr.mono (by decide)) rfl m_undone k_undone b_undone .nil pass0 (pa_cons (pe_call G_joined (hr.mono (by decide)) rfl m_joined k_joined b_joined .nil pass0 (pa_cons (pv 5) (pa_cons (pv 6) pa_nil))) pa_nil)) (pe_call G_joined (hr.mono (by decide)) rfl m_joined k_joined b_joined .nil pass0 (pa_cons (pe_call G_undone (hr.mono (by decide)) rfl m_undone k_undone b_undone .nil pass0 (pa_cons (pv 6) pa_nil)) (pa_cons (pe_call G_undone (hr.mono (by decide)) rfl m_undone k_undone b_undone .nil pass0 (pa_cons (pv 5) pa_nil)) pa_nil))) (nomark _))
      (pss_one (ps_ret pe_bl)) pss_nil)
      (pss_cons (ps_if (PW.pt (pw_or (pt_cmpR (op_neDK (K := K) rfl hr.units) (pe_call G_order_of (hr.mono (by decide)) rfl m_order_of k_order_of b_order_of .nil pass0 (pa_cons (pv 3) (pa_cons (pe_revT (pe_ix ix_list (pv 4) pe_int (fun _ _ => rfl))) pa_nil))) (pe_call G_undone (hr.mono (by decide)) rfl m_undone k_undone b_undone .nil pass0 (pa_cons (pv 5) pa_nil)) (nomark _)) (pw_or1 (pt_cmpR (op_neDK (K := K) rfl hr.units) (pe_call G_order_of (hr.mono (by decide)) rfl m_order_of k_order_of b_order_of .nil pass0 (pa_cons (pv 3) (pa_cons (pe_tupF pa_nil) pa_nil))) (pv 8) (nomark _)))))
      (pss_one (ps_ret pe_bl)) pss_nil)
      (pss_cons (ps_set (i := 9) sc_law.nd rfl (Or.inr rfl) (pe_call G_names (hr.mono (by decide)) rfl m_names k_names b_names .nil pass0 (pa_cons (pv 1) (pa_cons (pe_op op_add pe_int (pe_call G_draw (hr.mono (by decide)) rfl m_draw k_draw b_draw .nil pass0 (pa_cons (pv 1) (pa_cons pe_int pa_nil)))) pa_nil))))
      (pss_cons (ps_set (i := 10) sc_law.nd rfl (Or.inl rfl) (pe_make TC.make G_Table_init (hr.mono (by decide)) rfl TC.mg b_Table_init .nil pass0 (pa_cons (pv 9) (pa_cons (pe_lc (own := [("_law_mark", 14)]) (g := gName 14) (tt := tYes) rfl sc_law.nd (pi_list (pv 9)) (blkOk_by (own := [("_law_mark", 14)]) (N := ["_law_script", "_law_pen_here", "_law_turn", "_law_places", "_law_words", "_law_one", "_law_two", "_law_three", "_law_begun", "_law_marks", "_law_table", "_law_line", "_law_k", "_law_word_here", "_law_mark", "_law_other", "_law_runner"]) (sc := defScope s_law) (by decide +kernel)) (fun _ _ _ _ _ => pg_name (i := 14) sc_law.nd rfl (Or.inr rfl)) (fun _ _ _ _ _ => pts_nil) (fun _ _ _ _ _ => (pe_lc (own := [("_law_other", 15)]) (g := gName 15) (tt := tYes) rfl sc_law.nd (pi_listK (K := K) rfl (pv 9)) (blkOk_by (own := [("_law_other", 15)]) (N := ["_law_script", "_law_pen_here", "_law_turn", "_law_places", "_law_words", "_law_one", "_law_two", "_law_three", "_law_begun", "_law_marks", "_law_table", "_law_line", "_law_k", "_law_word_here", "_law_mark", "_law_other", "_law_runner"]) (sc := { kind := .function, names := [(".0", .local), ("_law_mark", .cell), ("_law_marks", .cell)], isGenerator := false, isCoroutine := false }) (by decide +kernel)) (fun _ _ _ _ _ => pg_name (i := 15) sc_law.nd rfl (Or.inl rfl)) (fun _ _ _ _ _ => pts_nil) (fun _ _ _ _ _ => (pe_tupF (pa_cons (pv 15) (pa_cons (pv 14) pa_nil))))))) pa_nil))))
      (pss_cons (ps_set (i := 11) sc_law.nd rfl (Or.inr rfl) (pe_callTy (call_tupleF (K := K) rfl) (by rfl) T.n_tuple (by decide +kernel) (pa_cons (pe_lc (own := [("_law_k", 12)]) (g := gName 12) (tt := tYes) rfl sc_law.nd (pi_range1 rfl T.n_range (pa_cons (pv 3) pa_nil)) (blkOk_by (own := [("_law_k", 12)]) (N := ["_law_script", "_law_pen_here", "_law_turn", "_law_places", "_law_words", "_law_one", "_law_two", "_law_three", "_law_begun", "_law_marks", "_law_table", "_law_line", "_law_k", "_law_word_here", "_law_mark", "_law_other", "_law_runner"]) (sc := defScope s_law) (by decide +kernel)) (fun _ _ _ _ _ => pg_name (i := 12) sc_law.nd rfl (Or.inl rfl)) (fun _ _ _ _ _ => pts_nil) (fun _ _ _ _ _ => (pe_call G_pick (hr.mono (by decide)) rfl m_pick k_pick b_pick .nil pass0 (pa_cons (pv 1) (pa_cons (pv 9) pa_nil))))) pa_nil)))
      (pss_cons (ps_if (pt_cmpR (op_neDK (K := K) rfl hr.units) (pe_call G_row_behind (hr.mono (by decide)) rfl m_row_behind k_row_behind b_row_behind .nil pass0 (pa_cons (pv 10) (pa_cons (pv 11) (pa_cons (pe_ix ix_list (pv 4) pe_int (fun _ _ => rfl)) pa_nil)))) (pe_callTy (call_tupleF (K := K) rfl) (by rfl) T.n_tuple (by decide +kernel) (pa_cons (pe_lc (own := [("_law_runner", 16)]) (g := gName 16) (tt := tYes) rfl sc_law.nd (pi_tup (pv 5)) (blkOk_by (own := [("_law_runner", 16)]) (N := ["_law_script", "_law_pen_here", "_law_turn", "_law_places", "_law_words", "_law_one", "_law_two", "_law_three", "_law_begun", "_law_marks", "_law_table", "_law_line", "_law_k", "_law_word_here", "_law_mark", "_law_other", "_law_runner"]) (sc := defScope s_law) (by decide +kernel)) (fun _ _ _ _ _ => pg_name (i := 16) sc_law.nd rfl (Or.inl rfl)) (fun _ _ _ _ _ => pts_nil) (fun _ _ _ _ _ => (pe_ix (ix_tupK (K := K) rfl) (pv 11) (pv 16) (fun _ _ => rfl)))) pa_nil)) (nomark _))
      (pss_one (ps_ret pe_bl)) pss_nil)
      (pss_one (ps_if (pt_cmpR (op_neDK (K := K) rfl hr.units) (pe_call G_row_behind (hr.mono (by decide)) rfl m_row_behind k_row_behind b_row_behind .nil pass0 (pa_cons (pv 10) (pa_cons (pe_call G_row_behind (hr.mono (by decide)) rfl m_row_behind k_row_behind b_row_behind .nil pass0 (pa_cons (pv 10) (pa_cons (pv 11) (pa_cons (pe_ix ix_list (pv 4) pe_int (fun _ _ => rfl)) pa_nil)))) (pa_cons (pe_ix ix_list (pv 4) pe_int (fun _ _ => rfl)) pa_nil)))) (pe_callTy (call_tupleF (K := K) rfl) (by rfl) T.n_tuple (by decide +kernel) (pa_cons (pe_lc (own := [("_law_k", 12)]) (g := gName 12) (tt := tYes) rfl sc_law.nd (pi_tup (pe_call G_joined (hr.mono (by decide)) rfl m_joined k_joined b_joined .nil pass0 (pa_cons (pv 5) (pa_cons (pv 6) pa_nil)))) (blkOk_by (own := [("_law_k", 12)]) (N := ["_law_script", "_law_pen_here", "_law_turn", "_law_places", "_law_words", "_law_one", "_law_two", "_law_three", "_law_begun", "_law_marks", "_law_table", "_law_line", "_law_k", "_law_word_here", "_law_mark", "_law_other", "_law_runner"]) (sc := defScope s_law) (by decide +kernel)) (fun _ _ _ _ _ => pg_name (i := 12) sc_law.nd rfl (Or.inl rfl)) (fun _ _ _ _ _ => pts_nil) (fun _ _ _ _ _ => (pe_ix (ix_tupK (K := K) rfl) (pv 11) (pv 12) (fun _ _ => rfl)))) pa_nil)) (nomark _))
      (pss_one (ps_ret pe_bl)) pss_nil))))))))))))))))
      (pss_one (ps_ret pe_bl)))), ?_⟩
    refine ⟨_, rfl, a, ns, rfl, hS, hl, fun p c H1 np s1 P1 => ?_⟩
    refine ⟨_, rfl, by decide, by decide, for_range (lo := 0) (n := 5) (fun i σ H' => (∃ x2 x3 x4 x5 x6 x7 x8 x9 x10 x11 x12 x13 x14 x15 x16, σ = [some (.ref a), some (.ref p), x2, x3, x4, x5, x6, x7, x8, x9, x10, x11, x12, x13, x14, x15, x16]) ∧ PenAt H' p c (i * 1000))
      ⟨⟨_, _, _, _, _, _, _, _, _, _, _, _, _, _, _, rfl⟩, P1.more (by omega)⟩ ?_ (fun σ H' _ => k H')⟩
    rintro i σ H2 hi ⟨⟨x2, x3, x4, x5, x6, x7, x8, x9, x10, x11, x12, x13, x14, x15, x16, rfl⟩, P2⟩
    -- the number of runners
    (try dsimp only [gName])
    refine seq_set_cut (fun v H' => ∃ n : Nat, v = .int n ∧ 2 ≤ n ∧ n ≤ 60 ∧ PenAt H' p c (i * 1000 + 2)) (fun Q hQ => ?_) ?_
    · refine ⟨_, rfl, (by show 3 ≤ sizeLine; decide), fun l nl => ?_⟩
      have Pl := P2.same (same_new (o := .lst [.int 4, .int 9, .int 59]) nl)
      refine ⟨_, rfl, p, c, _, _, rfl, Pl, by omega, by decide, by decide, fun d H4 d0 d1 P4 s4 => ?_⟩
      have three : ∃ v : Int, atI [V.int 4, V.int 9, V.int 59] d = some (.int v) ∧ 1 ≤ v ∧ v ≤ 59 := by
        have : d = 0 ∨ d = 1 ∨ d = 2 := by omega
        rcases this with rfl | rfl | rfl
        · exact ⟨4, rfl, by decide, by decide⟩
        · exact ⟨9, rfl, by decide, by decide⟩
        · exact ⟨59, rfl, by decide, by decide⟩
      obtain ⟨v, hv, v1, v60⟩ := three
      refine ⟨l, _, _, _, rfl, rfl, SqL.of (s4.lst Pl upd_same), hv, p, c, _, _, rfl, P4, by omega, v1, by omega, fun e H5 e0 e1 P5 s5 => ?_⟩
      refine ⟨_, _, rfl, rfl, hQ _ _ ⟨(2 + e).toNat, ?_, by omega, by omega, P5⟩⟩
      have : (2 : Int) + e = ((2 + e).toNat : Int) := by omega
      rw [← this]
    rintro v H3 ⟨n, rfl, n2, n60, P3⟩
    have n1 : 1 ≤ n := by omega
    -- three words
    (try dsimp only [gName])
    refine seq_set_cut (fun v H' => ∃ (W t0 t1 t2 : Addr) (w0 w1 w2 : List Int), v = .ref W ∧ H' W = some (.lst [.ref t0, .ref t1, .ref t2]) ∧ WordT n H' t0 w0 ∧ WordT n H' t1 w1 ∧ WordT n H' t2 w2 ∧ PenAt H' p c (i * 1000 + 185)) (fun Q hQ => ?_) ?_
    · refine ⟨_, rfl, by decide, by decide, fun D nD => ?_⟩
      have nDp := P3.new nD
      have nDc := P3.newC nD
      refine lc_range (lo := 0) (n := 3) (fun j H' => PenAt H' p c (i * 1000 + 2 + 61 * j) ∧ ∃ (ts : List Addr) (wss : List (List Int)), H' D = some (.lst (ts.map V.ref)) ∧ Paired (WordT n H') ts wss ∧ ts.length = j) ⟨P3.upd nDp nDc, [], [], upd_same, .nil, rfl⟩ ?_ ?_
      · rintro j H' hj ⟨P', ts, wss, hD, hts, htl⟩
        refine ⟨rfl, _, rfl, _, rfl, p, c, n, 60, _, rfl, P', by omega, n1, n60, by decide, fun r ws H4 hr ok lw P4 s4 => ?_⟩
        have hD4 := s4.lst P' hD
        refine ⟨_, hD4, by rw [List.length_map]; exact small_lt (by omega), (P4.upd nDp nDc).more (by omega), ts ++ [r], wss ++ [ws], ?_, ?_, ?_⟩
        · rw [upd_same, List.map_append]
          rfl
        · exact Paired.snoc (L2.Paired.mapP hts fun _ _ t => ⟨(t.1.sameX s4 P').upd ((t.1.sameX s4 P').ne hD4 fun _ _ => nofun), t.2⟩) ⟨hr.upd (hr.ne hD4 fun _ _ => nofun), ok, lw⟩
        · rw [List.length_append, htl]
          rfl
      · rintro H' ⟨P', ts, wss, hD, hts, htl⟩
        obtain ⟨t0, t1, t2, w0, w1, w2, rfl, rfl, h0, h1, h2⟩ := paired3 hts htl
        exact hQ _ _ ⟨D, t0, t1, t2, w0, w1, w2, rfl, hD, h0, h1, h2, P'.more (by omega)⟩
    rintro v H4 ⟨W, t0, t1, t2, w0, w1, w2, rfl, hW, ⟨T0, k0, l0⟩, ⟨T1, k1, l1⟩, ⟨T2, k2, l2⟩, P4⟩
    -- their orders
    (try dsimp only [gName])
    refine seq_cut (fun σ' H' => (∃ o1 o2 o3 : Addr, σ' = [some (.ref a), some (.ref p), some (.int (0 + (i : Int))), some (.int n), some (.ref W), some (.ref o1), some (.ref o2), some (.ref o3), x8, x9, x10, x11, x12, x13, x14, x15, x16] ∧ OrdT n H' o1 w0 ∧ OrdT n H' o2 w1 ∧ OrdT n H' o3 w2) ∧ Same H4 H') (fun N hN => ?_) ?_
    · refine ⟨_, rfl, W, rfl, ⟨_, SqL.of hW⟩, fun D nD => ?_⟩
      refine lc_list (K := K) (a := W) (xs := [V.ref t0, V.ref t1, V.ref t2]) (fun j H' => Same H4 H' ∧ ∃ os : List Addr, H' D = some (.lst (os.map V.ref)) ∧ Paired (OrdT n H') os ([w0, w1, w2].take j)) ⟨same_new nD, [], upd_same, .nil⟩ (fun j H' _ z => SqL.of (z.1 _ _ hW)) ?_ ?_
      · rintro j x H5 hx ⟨s5, os, hD, hos⟩
        have hx' : ∃ (t : Addr) (ws : List Int), x = V.ref t ∧ [w0, w1, w2][j]? = some ws ∧ Tup H4 t (ws.map V.int) ∧ OkW n ws ∧ ws.length ≤ 60 := by
          match j, hx with
          | 0, hx => exact ⟨t0, w0, (Option.some.inj hx).symm, rfl, T0, k0, l0⟩
          | 1, hx => exact ⟨t1, w1, (Option.some.inj hx).symm, rfl, T1, k1, l1⟩
          | 2, hx => exact ⟨t2, w2, (Option.some.inj hx).symm, rfl, T2, k2, l2⟩
        obtain ⟨t, ws, rfl, hws, ht, kw, lw⟩ := hx'
        have hj : j < 3 := (List.getElem?_eq_some_iff.mp hws).1
        refine ⟨rfl, _, rfl, _, rfl, n, t, ws, rfl, n1, n60, .inr (ht.same s5), kw, by omega, fun r H6 s6 hr => ?_⟩
        have hD6 := s6 _ _ hD
        refine ⟨_, hD6, ?_, fun b' o' e => by rw [upd_ne (ne_of_none e nD)]; exact s6 _ _ (s5 _ _ e), os ++ [r], ?_, ?_⟩
        · rw [List.length_map, hos.length, List.length_take]
          exact small_lt (by show min j 3 ≤ _; omega)
        · rw [upd_same, List.map_append]
          rfl
        · have et : [w0, w1, w2].take (j + 1) = [w0, w1, w2].take j ++ [ws] := by rw [List.take_add_one, hws]; rfl
          rw [et]
          exact Paired.snoc (L2.Paired.mapP hos fun _ _ t => (t.same s6).upd ((t.same s6).ne hD6 fun _ _ => nofun)) (hr.upd (hr.ne hD6 fun _ _ => nofun))
      · rintro H5 ⟨s5, os, hD, hos⟩
        obtain ⟨o1, o2, o3, y0, y1, y2, rfl, ey, h0, h1, h2⟩ := paired3 hos hos.length
        cases ey
        exact ⟨D, _, rfl, SqL.of hD, rfl, _, _, rfl, _, _, rfl, _, _, rfl, rfl, hN _ _ ⟨⟨o1, o2, o3, rfl, h0, h1, h2⟩, s5⟩⟩
    rintro σ' H5 ⟨⟨o1, o2, o3, rfl, O1, O2, O3⟩, s5⟩
    have hW := s5 _ _ hW
    have T0 := T0.same s5
    have T1 := T1.same s5
    have P5 := P4.same s5
    clear T2 s5 P4 P3
    have q0 := ord_run n w0
    have q1 := ord_run n w1
    have q2 := ord_run n w2
    have k01 := okw_append k0 k1
    have l01 : (w0 ++ w1).length ≤ 120 := by rw [List.length_append]; omega
    have lineW : (w0.map V.int).length + (w1.map V.int).length ≤ sizeLine := by rw [List.length_map, List.length_map]; exact small_line (by omega)
    -- words behind words
    refine ⟨_, rfl, _, rfl, W, _, _, _, rfl, rfl, SqL.of hW, rfl, _, rfl, W, _, _, _, rfl, rfl, SqL.of hW, rfl, t0, t1, _, _, rfl, rfl, T0, T1, lineW, fun r1 G1 z1 h1 => ?_⟩
    rw [← List.map_append] at h1
    refine ⟨n, r1, _, rfl, n1, n60, .inr h1, k01, by omega, fun r2 G2 z2 h2 => ?_⟩
    refine ⟨_, rfl, _, rfl, n, o1, o2, _, _, rfl, n1, n60, .inr (O1.same (z1.trans z2)), .inr (O2.same (z1.trans z2)), q0, q1, fun r3 G3 z3 h3 => ?_⟩
    rw [← run_join] at h3
    refine ⟨_, _, dp_tupF (h2.same z3), dp_tupF h3, shaped_tup _, shaped_tup _, _, rfl, ifF (eqv_refl_tup _) ?_⟩
    have z13 := (z1.trans z2).trans z3
    have hW := z13 _ _ hW
    have T0 := T0.same z13
    have T1 := T1.same z13
    have O1 := Tup.same O1 z13
    have O2 := Tup.same O2 z13
    have O3 := Tup.same O3 z13
    have P6 := P5.same z13
    clear h1 h2 h3 z1 z2 z3 z13 P5
    -- three of them
    refine ⟨_, rfl, _, rfl, n, o1, o2, _, _, rfl, n1, n60, .inr O1, .inr O2, q0, q1, fun r1 G4 z1 h1 => ?_⟩
    rw [← run_join] at h1
    refine ⟨_, rfl, n, r1, o3, _, _, rfl, n1, n60, .inr h1, .inr (O3.same z1), ord_run n _, q2, fun r2 G5 z2 h2 => ?_⟩
    rw [← run_join] at h2
    have z12 := z1.trans z2
    refine ⟨_, rfl, _, rfl, _, rfl, n, o2, o3, _, _, rfl, n1, n60, .inr (O2.same z12), .inr (O3.same z12), q1, q2, fun r3 G6 z3 h3 => ?_⟩
    rw [← run_join] at h3
    have z13 := z12.trans z3
    refine ⟨n, o1, r3, _, _, rfl, n1, n60, .inr (O1.same z13), .inr h3, q0, ord_run n _, fun r4 G7 z4 h4 => ?_⟩
    rw [← run_join] at h4
    rw [List.append_assoc] at h2
    refine ⟨_, _, dp_tupF (h2.same (z3.trans z4)), dp_tupF h4, shaped_tup _, shaped_tup _, _, rfl, ifF (eqv_refl_tup _) ?_⟩
    have z14 := z13.trans z4
    have hW := z14 _ _ hW
    have T0 := T0.same z14
    have T1 := T1.same z14
    have O1 := Tup.same O1 z14
    have O2 := Tup.same O2 z14
    have P7 := P6.same z14
    clear h1 h2 h3 h4 z1 z2 z3 z4 z12 z13 z14 P6 O3
    -- there and back
    refine ⟨_, rfl, _, rfl, RgOk.of_le (by omega) (by omega) (by omega) (by omega), fun bg G8 z1 hb => ?_⟩
    rw [rg_idl] at hb
    have hW := z1 _ _ hW
    have T0 := T0.same z1
    have T1 := T1.same z1
    have O1 := Tup.same O1 z1
    have O2 := Tup.same O2 z1
    have P8 := P7.same z1
    clear z1 P7
    have b1 : run (idl n) (w0 ++ w0.reverse) = idl n := by rw [run_append, run_back]
    have b2 : run (idl n) (w0.reverse ++ w0) = idl n := by
      have := run_back (idl n) w0.reverse
      rw [List.reverse_reverse] at this
      rw [run_append, this]
    refine ⟨_, rfl, _, rfl, n, o1, _, _, rfl, n1, n60, .inr O1, q0, undoes_run n w0, fun u1 G9 z1 hu => ?_⟩
    refine ⟨n, o1, u1, _, _, rfl, n1, n60, .inr (O1.same z1), .inr hu, q0, ord_run n _, fun r1 G10 z2 h1 => ?_⟩
    rw [← run_join, b1] at h1
    have z12 := z1.trans z2
    refine ⟨_, rfl, _, _, dp_tupF h1, dp_tupF (hb.same z12), shaped_tup _, shaped_tup _, _, rfl, ifF (eqv_refl_tup _) ?_⟩
    refine ⟨_, rfl, n, o1, _, _, rfl, n1, n60, .inr (O1.same z12), q0, undoes_run n w0, fun u2 G11 z3 hu2 => ?_⟩
    have z13 := z12.trans z3
    refine ⟨_, rfl, n, u2, o1, _, _, rfl, n1, n60, .inr hu2, .inr (O1.same z13), ord_run n _, q0, fun r2 G12 z4 h2 => ?_⟩
    rw [← run_join, b2] at h2
    have z14 := z13.trans z4
    refine ⟨_, rfl, _, _, dp_tupF h2, dp_tupF (hb.same z14), shaped_tup _, shaped_tup _, _, rfl, ifF (eqv_refl_tup _) ?_⟩
    refine ⟨_, rfl, n, o1, _, _, rfl, n1, n60, .inr (O1.same z14), q0, undoes_run n w0, fun u3 G13 z5 hu3 => ?_⟩
    refine ⟨n, u3, _, _, rfl, n1, n60, .inr hu3, ord_run n _, undoes_run n w0.reverse, fun r3 G14 z6 h3 => ?_⟩
    rw [List.reverse_reverse] at h3
    have z16 := (z14.trans z5).trans z6
    refine ⟨_, rfl, _, _, dp_tupF h3, dp_tupF (O1.same z16), shaped_tup _, shaped_tup _, _, rfl, ifF (eqv_refl_tup _) ?_⟩
    have hW := z16 _ _ hW
    have T0 := T0.same z16
    have T1 := T1.same z16
    have O1 := Tup.same O1 z16
    have O2 := Tup.same O2 z16
    have hb := hb.same z16
    have P9 := P8.same z16
    clear h1 h2 h3 hu hu2 hu3 z1 z2 z3 z4 z5 z6 z12 z13 z14 z16 P8
    -- undone, one behind the other
    refine ⟨_, rfl, _, rfl, n, o1, o2, _, _, rfl, n1, n60, .inr O1, .inr O2, q0, q1, fun r1 G15 z1 h1 => ?_⟩
    rw [← run_join] at h1
    refine ⟨n, r1, _, _, rfl, n1, n60, .inr h1, ord_run n _, undoes_run n (w0 ++ w1), fun r2 G16 z2 h2 => ?_⟩
    have z12 := z1.trans z2
    refine ⟨_, rfl, n, o2, _, _, rfl, n1, n60, .inr (O2.same z12), q1, undoes_run n w1, fun u2 G17 z3 hu2 => ?_⟩
    have z13 := z12.trans z3
    refine ⟨_, rfl, n, o1, _, _, rfl, n1, n60, .inr (O1.same z13), q0, undoes_run n w0, fun u1 G18 z4 hu1 => ?_⟩
    refine ⟨n, u2, u1, _, _, rfl, n1, n60, .inr (hu2.same z4), .inr hu1, ord_run n _, ord_run n _, fun r3 G19 z5 h3 => ?_⟩
    rw [← run_join, ← List.reverse_append] at h3
    refine ⟨_, _, dp_tupF (h2.same ((z3.trans z4).trans z5)), dp_tupF h3, shaped_tup _, shaped_tup _, _, rfl, ifF (eqv_refl_tup _) ?_⟩
    have z15 := (z13.trans z4).trans z5
    have hW := z15 _ _ hW
    have T0 := T0.same z15
    have T1 := T1.same z15
    have O1 := Tup.same O1 z15
    have O2 := Tup.same O2 z15
    have hb := hb.same z15
    have P10 := P9.same z15
    clear h1 h2 h3 hu1 hu2 z1 z2 z3 z4 z5 z12 z13 z15 P9
    refine ⟨_, rfl, _, rfl, W, _, _, _, rfl, rfl, SqL.of hW, rfl, t0, _, rfl, T0, fun rv G20 z1 hrv => ?_⟩
    rw [← List.map_reverse] at hrv
    refine ⟨n, rv, _, rfl, n1, n60, .inr hrv, okw_back k0, by rw [List.length_reverse]; omega, fun r1 G21 z2 h1 => ?_⟩
    have z12 := z1.trans z2
    refine ⟨_, rfl, n, o1, _, _, rfl, n1, n60, .inr (O1.same z12), q0, undoes_run n w0, fun u1 G22 z3 hu1 => ?_⟩
    refine ⟨_, _, dp_tupF (h1.same z3), dp_tupF hu1, shaped_tup _, shaped_tup _, _, rfl, ifF (eqv_refl_tup _) ?_⟩
    have z13 := z12.trans z3
    refine ⟨_, rfl, Nat.zero_le _, fun et G23 z4 het => ?_⟩
    refine ⟨n, et, [], rfl, n1, n60, .inr het, (fun _ h => by cases h), by decide, fun r2 G24 z5 h2 => ?_⟩
    rw [run_nil] at h2
    have z15 := (z13.trans z4).trans z5
    refine ⟨_, rfl, _, _, dp_tupF h2, dp_tupF (hb.same z15), shaped_tup _, shaped_tup _, _, rfl, ifF (eqv_refl_tup _) ?_⟩
    have hW := z15 _ _ hW
    have T0 := T0.same z15
    have T1 := T1.same z15
    have O1 := Tup.same O1 z15
    have O2 := Tup.same O2 z15
    have P11 := P10.same z15
    clear h1 h2 hu1 hrv het hb z1 z2 z3 z4 z5 z12 z13 z15 P10 b1 b2
    -- names
    refine ⟨_, rfl, _, rfl, p, c, _, _, rfl, P11, by omega, by decide, by decide, fun e G25 e0 e1 P12 s1 => ?_⟩
    obtain ⟨e, rfl⟩ := Int.eq_ofNat_of_zero_le e0
    refine ⟨_, _, rfl, rfl, p, c, 1 + e, _, (by rw [Int.natCast_add]; rfl), by omega, P12, by omega, fun M ms G26 nM hM mlen mnd mis P13 s2 => ?_⟩
    have sx := s1.trans s2
    have hW := (s2.lst P12 (s1.lst P11 hW))
    have T0 := Tup.sameX (Tup.sameX T0 s1 P11) s2 P12
    have T1 := Tup.sameX (Tup.sameX T1 s1 P11) s2 P12
    have O1 := Tup.sameX (Tup.sameX O1 s1 P11) s2 P12
    have O2 := Tup.sameX (Tup.sameX O2 s1 P11) s2 P12
    clear P11 P12 s1 s2 sx nM
    have m6 : ms.length ≤ 6 := by omega
    have m1 : 1 ≤ ms.length := by omega
    have mok : ∀ z ∈ ms, PyData.strOk z = true := fun z hz => name_ok (mis z hz).2.2
    -- a table
    (try dsimp only [gName])
    refine seq_set_cut (fun v H' => ∃ tb : Addr, v = .ref tb ∧ TblAt H' C tb ms (exch ms) ∧ Same G26 H') (fun Q hQ => ?_) ?_
    · refine ⟨_, rfl, _, rfl, M, rfl, ⟨_, SqL.of hM⟩, fun D nD => ?_⟩
      have exl : (exch ms).length = ms.length := List.length_map ..
      refine lc_list (K := K) (a := M) (xs := ms.map V.str) (fun j H' => Same G26 H' ∧ ∃ ls : List Addr, H' D = some (.lst (ls.map V.ref)) ∧ Paired (fun l ps => LineL H' l ps ∧ l ≠ D) ls ((exch ms).take j)) ⟨same_new nD, [], upd_same, .nil⟩ (fun j H' _ z => SqL.of (z.1 _ _ hM)) ?_ ?_
      · rintro j x H5 hx ⟨s5, ls, hD, hls⟩
        obtain ⟨mark, hmk, rfl⟩ := map_gets hx
        have hj := (List.getElem?_eq_some_iff.mp hmk).1
        refine ⟨rfl, _, rfl, M, rfl, ⟨_, SqL.of (s5 _ _ hM)⟩, fun D2 nD2 => ?_⟩
        have n2 : D2 ≠ D := (ne_of_none hD nD2).symm
        refine lc_list (K := K) (a := M) (xs := ms.map V.str) (fun k' H' => Same H5 H' ∧ ∃ us : List Addr, H' D2 = some (.lst (us.map V.ref)) ∧ Paired (StrPair H') us ((ms.map fun other => (other, mark)).take k')) ⟨same_new nD2, [], upd_same, .nil⟩ (fun k' H' _ z => SqL.of (z.1 _ _ (s5 _ _ hM))) ?_ ?_
        · rintro k' x H6 hx ⟨s6, us, hD2, hus⟩
          obtain ⟨other, hot, rfl⟩ := map_gets hx
          have hk := (List.getElem?_eq_some_iff.mp hot).1
          refine ⟨rfl, _, rfl, _, rfl, by show 2 ≤ sizeLine; decide, fun t H7 s7 ht => ?_⟩
          have hD7 := s7 _ _ hD2
          refine ⟨_, hD7, ?_, fun b' o' e => by rw [upd_ne (ne_of_none e nD2)]; exact s7 _ _ (s6 _ _ e), us ++ [t], ?_, ?_⟩
          · rw [List.length_map, hus.length, List.length_take]
            exact small_lt (by omega)
          · rw [upd_same, List.map_append]
            rfl
          · have et : (ms.map fun other => (other, mark)).take (k' + 1) = (ms.map fun other => (other, mark)).take k' ++ [(other, mark)] := by rw [List.take_add_one, List.getElem?_map, hot]; rfl
            rw [et]
            exact Paired.snoc (L2.Paired.mapP hus fun _ _ t => (t.same s7).upd ((t.same s7).ne hD7 fun _ _ => nofun)) (ht.upd (ht.ne hD7 fun _ _ => nofun))
        · rintro H6 ⟨s6, us, hD2, hus⟩
          have hall : (ms.map fun other => (other, mark)).take (ms.map V.str).length = ms.map fun other => (other, mark) := by rw [List.length_map]; exact List.take_of_length_le (by simp)
          rw [hall] at hus
          have hD6 := s6 _ _ hD
          refine ⟨_, hD6, ?_, fun b' o' e => by rw [upd_ne (ne_of_none e nD)]; exact s6 _ _ (s5 _ _ e), ls ++ [D2], ?_, ?_⟩
          · rw [List.length_map, hls.length, List.length_take]
            exact small_lt (by omega)
          · rw [upd_same, List.map_append]
            rfl
          · have hex : (exch ms)[j]? = some (ms.map fun other => (other, mark)) := by unfold exch; rw [List.getElem?_map, hmk]; rfl
            have et : (exch ms).take (j + 1) = (exch ms).take j ++ [ms.map fun other => (other, mark)] := by rw [List.take_add_one, hex]; rfl
            rw [et]
            exact Paired.snoc (L2.Paired.mapP hls fun _ _ t => ⟨(t.1.same s6).upd t.2 hD6, t.2⟩) ⟨LineL.upd ⟨us, hD2, hus⟩ n2 hD6, n2⟩
      · rintro H5 ⟨s5, ls, hD, hls⟩
        have hall : (exch ms).take (ms.map V.str).length = exch ms := by rw [List.length_map, ← exl, List.take_length]
        rw [hall] at hls
        intro x dx nx ndx ndx'
        have sN : Same H5 (upd (upd H5 dx (.own x)) x (.ins C dx [])) := (same_new ndx).trans (same_new (by rw [upd_ne ndx'.symm]; exact nx))
        refine ⟨x, dx, M, D, ms, ls, exch ms, rfl, upd_same, sN _ _ (s5 _ _ hM), mnd, m1, m6, mis, sN _ _ hD, L2.Paired.mapP hls fun _ _ t => t.1.same sN, exch_full ms, fun H' hT keep => ⟨rfl, hQ _ _ ⟨x, rfl, hT, fun b o e => ?_⟩⟩⟩
        refine keep b o (sN _ _ (s5 _ _ e)) ?_
        exact ne_of_none (s5 _ _ e) nx
    rintro v G27 ⟨tb, rfl, hT, z1⟩
    have hM := z1 _ _ hM
    have hW := z1 _ _ hW
    have T0 := Tup.same T0 z1
    have T1 := Tup.same T1 z1
    have O1 := Tup.same O1 z1
    have O2 := Tup.same O2 z1
    have P14 := P13.same z1
    clear z1 P13
    -- a row
    (try dsimp only [gName])
    refine seq_set_cut (fun v H' => ∃ (ln : Addr) (row : List Str), v = .ref ln ∧ Tup H' ln (row.map V.str) ∧ row.length = n ∧ (∀ z ∈ row, z ∈ ms) ∧ PenAt H' p c (i * 1000 + 300) ∧ SameX p G27 H') (fun Q hQ => ?_) ?_
    · refine ⟨_, rfl, _, rfl, by omega, by omega, fun D nD => ?_⟩
      have nDp := P14.new nD
      have nDc := P14.newC nD
      have en : ((n : Int)).toNat = n := by omega
      rw [en]
      refine lc_range (lo := 0) (n := n) (fun j H' => PenAt H' p c (i * 1000 + 208 + j) ∧ SameX p G27 H' ∧ ∃ row : List Str, H' D = some (.lst (row.map V.str)) ∧ row.length = j ∧ ∀ z ∈ row, z ∈ ms) ⟨(P14.upd nDp nDc).more (by omega), (SameX.refl _ _).new nD, [], upd_same, rfl, fun _ h => by cases h⟩ ?_ ?_
      · rintro j H' hj ⟨P', s', row, hD, hrl, hrm⟩
        have hM' := s'.lst P14 hM
        refine ⟨rfl, _, rfl, _, rfl, p, c, _, _, rfl, P', by omega, .inl ⟨M, _, rfl, hM', by rw [List.length_map]; omega, by rw [List.length_map]; omega, fun v H6 hv P6 s6 => ?_⟩⟩
        obtain ⟨z, hz, rfl⟩ := List.mem_map.mp hv
        have hD6 := s6.lst P' hD
        refine ⟨_, hD6, by rw [List.length_map]; exact small_lt (by omega), P6.upd nDp nDc, (s'.trans s6).new nD, row ++ [z], ?_, ?_, ?_⟩
        · rw [upd_same, List.map_append]
          rfl
        · rw [List.length_append, hrl]
          rfl
        · intro y hy
          rcases List.mem_append.mp hy with hy | hy
          · exact hrm y hy
          · exact List.mem_singleton.mp hy ▸ hz
      · rintro H' ⟨P', s', row, hD, hrl, hrm⟩
        refine ⟨D, _, rfl, .inl (SqL.of hD), fun ln H6 s6 hln => hQ _ _ ⟨ln, row, rfl, hln, hrl, hrm, (P'.same s6).more (by omega), s'.trans (.of s6)⟩⟩
    rintro v G28 ⟨ln, row, rfl, hln, hrl, hrm, P15, sx⟩
    have hT := hT.sameX sx P14
    have hW := sx.lst P14 hW
    have T0 := Tup.sameX T0 sx P14
    have T1 := Tup.sameX T1 sx P14
    have O1 := Tup.sameX O1 sx P14
    have O2 := Tup.sameX O2 sx P14
    clear P14 sx hM
    have rok : ∀ ws : List Int, OkW n ws → ∀ z ∈ rowRun ms (exch ms) row ws, PyData.strOk z = true := fun ws hw z hz => mok z ((rowRun_ok (exch_full ms) ws row hrl hrm hw).2 z hz)
    -- behind the first word
    have items : ∀ (ws : List Int) (j : Nat) (x : V), ((run (idl n) ws).map V.int)[j]? = some x → ∃ z : Nat, x = V.int (z : Int) ∧ (run (idl n) ws)[j]? = some (z : Int) ∧ row[z]? = some (row.getD z Str.empty) := by
      intro ws j x hx
      obtain ⟨z, hz, rfl⟩ := map_get hx
      have hb := (ord_run n ws).mem.mp (List.mem_of_getElem? hz)
      obtain ⟨z, rfl⟩ := Int.eq_ofNat_of_zero_le hb.1
      have hzl : z < row.length := by omega
      refine ⟨z, rfl, hz, ?_⟩
      rw [List.getD_eq_getElem?_getD, List.getElem?_eq_getElem hzl]
      rfl
    refine ⟨_, rfl, _, rfl, _, rfl, W, _, _, _, rfl, rfl, SqL.of hW, rfl, tb, ln, t0, n, ms, exch ms, row, w0, rfl, hT, exch_full ms, .inr hln, hrl, n1, n60, hrm, .inr T0, k0, by omega, fun r1 G29 z1 h1 => ?_⟩
    have hr1 := rok w0 k0
    rw [exch_run hrl hrm w0 k0] at h1 hr1
    have O1a := Tup.same O1 z1
    have hlna := hln.same z1
    refine ⟨_, rfl, o1, rfl, ⟨_, O1a.t⟩, fun D nD => ?_⟩
    refine lc_tup (K := K) (a := o1) (xs := (run (idl n) w0).map V.int) (fun j H' => Same G29 H' ∧ H' D = some (.lst ((((run (idl n) w0).take j).map fun r => row.getD r.toNat Str.empty).map V.str))) ⟨same_new nD, upd_same⟩ (fun j H' _ z => (O1a.same z.1).t) ?_ ?_
    · rintro j x H' hx ⟨s', hD⟩
      obtain ⟨z, rfl, hz, hrow⟩ := items w0 j x hx
      have hj := (List.getElem?_eq_some_iff.mp hz).1
      have hjn : j < n := by rw [← (ord_run n w0).len]; exact hj
      refine ⟨rfl, _, rfl, _, rfl, ln, _, _, _, rfl, rfl, (hlna.same s').t, at_str' hrow, _, hD, ?_, fun b' o' e => by rw [upd_ne (ne_of_none e nD)]; exact s' _ _ e, ?_⟩
      · rw [List.length_map, List.length_map, List.length_take]
        exact small_lt (by omega)
      · rw [upd_same, List.take_add_one, hz, List.map_append, List.map_append]
        rfl
    rintro G30 ⟨z2, hD⟩
    rw [List.length_map, List.take_length] at hD
    refine ⟨D, _, rfl, .inl (SqL.of hD), fun r2 G31 z3 h2 => ?_⟩
    have z23 := z2.trans z3
    refine ⟨_, _, dp_tupS (h1.same z23), dp_tupS h2, shaped_tupS _ hr1, shaped_tupS _ hr1, _, rfl, ifF (eqv_refl_tupS _) ?_⟩
    have z13 := z1.trans z23
    have hT := hT.same z13
    have hW := z13 _ _ hW
    have hln := hln.same z13
    have T0 := Tup.same T0 z13
    have T1 := Tup.same T1 z13
    have O1 := Tup.same O1 z13
    have O2 := Tup.same O2 z13
    have P16 := P15.same z13
    clear h1 h2 hr1 O1a hlna hD nD z1 z2 z3 z23 z13 P15
    -- behind both
    refine ⟨_, rfl, _, rfl, _, rfl, _, rfl, W, _, _, _, rfl, rfl, SqL.of hW, rfl, tb, ln, t0, n, ms, exch ms, row, w0, rfl, hT, exch_full ms, .inr hln, hrl, n1, n60, hrm, .inr T0, k0, by omega, fun r1 G32 z1 h1 => ?_⟩
    obtain ⟨rl, rm⟩ := rowRun_ok (exch_full ms) w0 row hrl hrm k0
    refine ⟨_, rfl, W, _, _, _, rfl, rfl, SqL.of (z1 _ _ hW), rfl, tb, r1, t1, n, ms, exch ms, _, w1, rfl, hT.same z1, exch_full ms, .inr h1, rl, n1, n60, rm, .inr (T1.same z1), k1, by omega, fun r2 G33 z2 h2 => ?_⟩
    have two : rowRun ms (exch ms) (rowRun ms (exch ms) row w0) w1 = rowRun ms (exch ms) row (w0 ++ w1) := by unfold rowRun; rw [List.foldl_append]
    have hr2 := rok (w0 ++ w1) k01
    rw [two] at h2
    rw [exch_run hrl hrm _ k01] at h2 hr2
    have z12 := z1.trans z2
    refine ⟨_, rfl, _, rfl, n, o1, o2, _, _, rfl, n1, n60, .inr (O1.same z12), .inr (O2.same z12), q0, q1, fun r3 G34 z3 h3 => ?_⟩
    rw [← run_join] at h3
    have hlna := hln.same (z12.trans z3)
    refine ⟨r3, rfl, ⟨_, h3.t⟩, fun D nD => ?_⟩
    refine lc_tup (K := K) (a := r3) (xs := (run (idl n) (w0 ++ w1)).map V.int) (fun j H' => Same G34 H' ∧ H' D = some (.lst ((((run (idl n) (w0 ++ w1)).take j).map fun r => row.getD r.toNat Str.empty).map V.str))) ⟨same_new nD, upd_same⟩ (fun j H' _ z => (h3.same z.1).t) ?_ ?_
    · rintro j x H' hx ⟨s', hD⟩
      obtain ⟨z, rfl, hz, hrow⟩ := items (w0 ++ w1) j x hx
      have hj := (List.getElem?_eq_some_iff.mp hz).1
      have hjn : j < n := by rw [← (ord_run n (w0 ++ w1)).len]; exact hj
      refine ⟨rfl, _, rfl, _, rfl, ln, _, _, _, rfl, rfl, (hlna.same s').t, at_str' hrow, _, hD, ?_, fun b' o' e => by rw [upd_ne (ne_of_none e nD)]; exact s' _ _ e, ?_⟩
      · rw [List.length_map, List.length_map, List.length_take]
        exact small_lt (by omega)
      · rw [upd_same, List.take_add_one, hz, List.map_append, List.map_append]
        rfl
    rintro G35 ⟨z4, hD⟩
    rw [List.length_map, List.take_length] at hD
    refine ⟨D, _, rfl, .inl (SqL.of hD), fun r4 G36 z5 h4 => ?_⟩
    have z35 := (z3.trans z4).trans z5
    refine ⟨_, _, dp_tupS (h2.same z35), dp_tupS h4, shaped_tupS _ hr2, shaped_tupS _ hr2, _, rfl, ifF (eqv_refl_tupS _) ?_⟩
    exact ⟨⟨_, _, _, _, _, _, _, _, _, _, _, _, _, _, _, rfl⟩, (P16.same (z12.trans z35)).more (by omega)⟩
end
end Lk12
set_option maxRecDepth 100000
set_option linter.unusedVariables false
namespace Lk12
open PySem L2 Lw
theorem all_mk {l : PySem.W.OpenLaw} {w : World} {K : PySem.W.Frag} {h : Heap} {mg : Str → Option Value} {fa : Addr} (X : K.In h) (G : h.Ns mainGlobals mg) (hfa : mg "law" = some (.ref fa))
    {C : Addr}
    {f_is_listing f_is_number f_word_fault f_order_fault f_number_taken f_places_taken f_word_taken f_order_taken f_order_of f_joined f_undone f_is_name f__are_marks f__is_pair f__is_full f__is_line f__are_pairs f_Table_init f_Table_marks f_Table_passed f_row_fault f_row_taken f_pass_done f_rows_on f_row_behind f_pen f_draw f_pick f_names f_word f_law : Addr} {od_is_listing an_is_listing od_is_number an_is_number od_word_fault an_word_fault od_order_fault an_order_fault od_number_taken an_number_taken od_places_taken an_places_taken od_word_taken an_word_taken od_order_taken an_order_taken od_order_of an_order_of od_joined an_joined od_undone an_undone od_is_name an_is_name od__are_marks an__are_marks od__is_pair an__is_pair od__is_full an__is_full od__is_line an__is_line od__are_pairs an__are_pairs od_Table_init an_Table_init od_Table_marks an_Table_marks od_Table_passed an_Table_passed od_row_fault an_row_fault od_row_taken an_row_taken od_pass_done an_pass_done od_rows_on an_rows_on od_row_behind an_row_behind od_pen an_pen od_draw an_draw od_pick an_pick od_names an_names od_word an_word od_law an_law : Option Addr} {sl_is_listing sl_is_number sl_word_fault sl_order_fault sl_number_taken sl_places_taken sl_word_taken sl_order_taken sl_order_of sl_joined sl_undone sl_is_name sl__are_marks sl__is_pair sl__is_full sl__is_line sl__are_pairs sl_Table_init sl_Table_marks sl_Table_passed sl_row_fault sl_row_taken sl_pass_done sl_rows_on sl_row_behind sl_pen sl_draw sl_pick sl_names sl_word sl_law : Array (Option Value)}
    {oc_is_listing kV_is_listing dc_is_listing pm_is_listing cd_is_listing ct_is_listing oc_is_number kV_is_number dc_is_number pm_is_number cd_is_number ct_is_number oc_word_fault kV_word_fault dc_word_fault pm_word_fault cd_word_fault ct_word_fault oc_order_fault kV_order_fault dc_order_fault pm_order_fault cd_order_fault ct_order_fault oc_number_taken kV_number_taken dc_number_taken pm_number_taken cd_number_taken ct_number_taken oc_places_taken kV_places_taken dc_places_taken pm_places_taken cd_places_taken ct_places_taken oc_word_taken kV_word_taken dc_word_taken pm_word_taken cd_word_taken ct_word_taken oc_order_taken kV_order_taken dc_order_taken pm_order_taken cd_order_taken ct_order_taken oc_order_of kV_order_of dc_order_of pm_order_of cd_order_of ct_order_of oc_joined kV_joined dc_joined pm_joined cd_joined ct_joined oc_undone kV_undone dc_undone pm_undone cd_undone ct_undone oc_is_name kV_is_name dc_is_name pm_is_name cd_is_name ct_is_name oc__are_marks kV__are_marks dc__are_marks pm__are_marks cd__are_marks ct__are_marks oc__is_pair kV__is_pair dc__is_pair pm__is_pair cd__is_pair ct__is_pair oc__is_full kV__is_full dc__is_full pm__is_full cd__is_full ct__is_full oc__is_line kV__is_line dc__is_line pm__is_line cd__is_line ct__is_line oc__are_pairs kV__are_pairs dc__are_pairs pm__are_pairs cd__are_pairs ct__are_pairs oc_Table_init kV_Table_init dc_Table_init pm_Table_init cd_Table_init ct_Table_init oc_Table_marks kV_Table_marks dc_Table_marks pm_Table_marks cd_Table_marks ct_Table_marks oc_Table_passed kV_Table_passed dc_Table_passed pm_Table_passed cd_Table_passed ct_Table_passed oc_row_fault kV_row_fault dc_row_fault pm_row_fault cd_row_fault ct_row_fault oc_row_taken kV_row_taken dc_row_taken pm_row_taken cd_row_taken ct_row_taken oc_pass_done kV_pass_done dc_pass_done pm_pass_done cd_pass_done ct_pass_done oc_rows_on kV_rows_on dc_rows_on pm_rows_on cd_rows_on ct_rows_on oc_row_behind kV_row_behind dc_row_behind pm_row_behind cd_row_behind ct_row_behind oc_pen kV_pen dc_pen pm_pen cd_pen ct_pen oc_draw kV_draw dc_draw pm_draw cd_draw ct_draw oc_pick kV_pick dc_pick pm_pick cd_pick ct_pick oc_names kV_names dc_names pm_names cd_names ct_names oc_word kV_word dc_word pm_word cd_word ct_word oc_law kV_law dc_law pm_law cd_law ct_law : Value} {t_WORD t_PLACES t_MOST_MARKS t__LONGEST t__LETTERS : Tok}
    (aC : PySem.W.nsIn K mainGlobals "Table" = some (some (.ref C))) (pg : PySem.W.plainGet K C Str.empty = true) (hd : PySem.W.hasDictIn K C = true) (po : PySem.W.plainOver K C = true)
    (sa : PySem.W.findIn K (.ref C) "__setattr__" = some (some (.builtin "object.__setattr__"))) (mk : PySem.W.makesIn K C = true) (kc : PySem.W.keepIn K (.ref C) = true)
    (n_marks : PySem.W.findIn K (.ref C) "_marks" = some none) (n_pairs : PySem.W.findIn K (.ref C) "_pairs" = some none)
    (a_is_listing : PySem.W.nsIn K mainGlobals "is_listing" = some (some (.ref f_is_listing)))
    (l_is_listing : K.lookup f_is_listing = some ⟨oc_is_listing, od_is_listing, .func (PySem.W.fnOf "is_listing" "is_listing" (defArgs s_is_listing) (defBody s_is_listing) (defScope s_is_listing) .none kV_is_listing dc_is_listing pm_is_listing an_is_listing cd_is_listing ct_is_listing), sl_is_listing⟩)
    (c_is_listing : PySem.W.codeIn K cd_is_listing "is_listing" = true) (k_is_listing : PySem.W.keepIn K (.ref f_is_listing) = true)
    (a_is_number : PySem.W.nsIn K mainGlobals "is_number" = some (some (.ref f_is_number)))
    (l_is_number : K.lookup f_is_number = some ⟨oc_is_number, od_is_number, .func (PySem.W.fnOf "is_number" "is_number" (defArgs s_is_number) (defBody s_is_number) (defScope s_is_number) .none kV_is_number dc_is_number pm_is_number an_is_number cd_is_number ct_is_number), sl_is_number⟩)
    (c_is_number : PySem.W.codeIn K cd_is_number "is_number" = true) (k_is_number : PySem.W.keepIn K (.ref f_is_number) = true)
    (a_word_fault : PySem.W.nsIn K mainGlobals "word_fault" = some (some (.ref f_word_fault)))
    (l_word_fault : K.lookup f_word_fault = some ⟨oc_word_fault, od_word_fault, .func (PySem.W.fnOf "word_fault" "word_fault" (defArgs s_word_fault) (defBody s_word_fault) (defScope s_word_fault) .none kV_word_fault dc_word_fault pm_word_fault an_word_fault cd_word_fault ct_word_fault), sl_word_fault⟩)
    (c_word_fault : PySem.W.codeIn K cd_word_fault "word_fault" = true) (k_word_fault : PySem.W.keepIn K (.ref f_word_fault) = true)
    (a_order_fault : PySem.W.nsIn K mainGlobals "order_fault" = some (some (.ref f_order_fault)))
    (l_order_fault : K.lookup f_order_fault = some ⟨oc_order_fault, od_order_fault, .func (PySem.W.fnOf "order_fault" "order_fault" (defArgs s_order_fault) (defBody s_order_fault) (defScope s_order_fault) .none kV_order_fault dc_order_fault pm_order_fault an_order_fault cd_order_fault ct_order_fault), sl_order_fault⟩)
    (c_order_fault : PySem.W.codeIn K cd_order_fault "order_fault" = true) (k_order_fault : PySem.W.keepIn K (.ref f_order_fault) = true)
    (a_number_taken : PySem.W.nsIn K mainGlobals "number_taken" = some (some (.ref f_number_taken)))
    (l_number_taken : K.lookup f_number_taken = some ⟨oc_number_taken, od_number_taken, .func (PySem.W.fnOf "number_taken" "number_taken" (defArgs s_number_taken) (defBody s_number_taken) (defScope s_number_taken) .none kV_number_taken dc_number_taken pm_number_taken an_number_taken cd_number_taken ct_number_taken), sl_number_taken⟩)
    (c_number_taken : PySem.W.codeIn K cd_number_taken "number_taken" = true) (k_number_taken : PySem.W.keepIn K (.ref f_number_taken) = true)
    (a_places_taken : PySem.W.nsIn K mainGlobals "places_taken" = some (some (.ref f_places_taken)))
    (l_places_taken : K.lookup f_places_taken = some ⟨oc_places_taken, od_places_taken, .func (PySem.W.fnOf "places_taken" "places_taken" (defArgs s_places_taken) (defBody s_places_taken) (defScope s_places_taken) .none kV_places_taken dc_places_taken pm_places_taken an_places_taken cd_places_taken ct_places_taken), sl_places_taken⟩)
    (c_places_taken : PySem.W.codeIn K cd_places_taken "places_taken" = true) (k_places_taken : PySem.W.keepIn K (.ref f_places_taken) = true)
    (a_word_taken : PySem.W.nsIn K mainGlobals "word_taken" = some (some (.ref f_word_taken)))
    (l_word_taken : K.lookup f_word_taken = some ⟨oc_word_taken, od_word_taken, .func (PySem.W.fnOf "word_taken" "word_taken" (defArgs s_word_taken) (defBody s_word_taken) (defScope s_word_taken) .none kV_word_taken dc_word_taken pm_word_taken an_word_taken cd_word_taken ct_word_taken), sl_word_taken⟩)
    (c_word_taken : PySem.W.codeIn K cd_word_taken "word_taken" = true) (k_word_taken : PySem.W.keepIn K (.ref f_word_taken) = true)
    (a_order_taken : PySem.W.nsIn K mainGlobals "order_taken" = some (some (.ref f_order_taken)))
    (l_order_taken : K.lookup f_order_taken = some ⟨oc_order_taken, od_order_taken, .func (PySem.W.fnOf "order_taken" "order_taken" (defArgs s_order_taken) (defBody s_order_taken) (defScope s_order_taken) .none kV_order_taken dc_order_taken pm_order_taken an_order_taken cd_order_taken ct_order_taken), sl_order_taken⟩)
    (c_order_taken : PySem.W.codeIn K cd_order_taken "order_taken" = true) (k_order_taken : PySem.W.keepIn K (.ref f_order_taken) = true)
    (a_order_of : PySem.W.nsIn K mainGlobals "order_of" = some (some (.ref f_order_of)))
    (l_order_of : K.lookup f_order_of = some ⟨oc_order_of, od_order_of, .func (PySem.W.fnOf "order_of" "order_of" (defArgs s_order_of) (defBody s_order_of) (defScope s_order_of) .none kV_order_of dc_order_of pm_order_of an_order_of cd_order_of ct_order_of), sl_order_of⟩)
    (c_order_of : PySem.W.codeIn K cd_order_of "order_of" = true) (k_order_of : PySem.W.keepIn K (.ref f_order_of) = true)
    (a_joined : PySem.W.nsIn K mainGlobals "joined" = some (some (.ref f_joined)))
    (l_joined : K.lookup f_joined = some ⟨oc_joined, od_joined, .func (PySem.W.fnOf "joined" "joined" (defArgs s_joined) (defBody s_joined) (defScope s_joined) .none kV_joined dc_joined pm_joined an_joined cd_joined ct_joined), sl_joined⟩)
    (c_joined : PySem.W.codeIn K cd_joined "joined" = true) (k_joined : PySem.W.keepIn K (.ref f_joined) = true)
    (a_undone : PySem.W.nsIn K mainGlobals "undone" = some (some (.ref f_undone)))
    (l_undone : K.lookup f_undone = some ⟨oc_undone, od_undone, .func (PySem.W.fnOf "undone" "undone" (defArgs s_undone) (defBody s_undone) (defScope s_undone) .none kV_undone dc_undone pm_undone an_undone cd_undone ct_undone), sl_undone⟩)
    (c_undone : PySem.W.codeIn K cd_undone "undone" = true) (k_undone : PySem.W.keepIn K (.ref f_undone) = true)
    (a_is_name : PySem.W.nsIn K mainGlobals "is_name" = some (some (.ref f_is_name)))
    (l_is_name : K.lookup f_is_name = some ⟨oc_is_name, od_is_name, .func (PySem.W.fnOf "is_name" "is_name" (defArgs s_is_name) (defBody s_is_name) (defScope s_is_name) .none kV_is_name dc_is_name pm_is_name an_is_name cd_is_name ct_is_name), sl_is_name⟩)
    (c_is_name : PySem.W.codeIn K cd_is_name "is_name" = true) (k_is_name : PySem.W.keepIn K (.ref f_is_name) = true)
    (a__are_marks : PySem.W.nsIn K mainGlobals "_are_marks" = some (some (.ref f__are_marks)))
    (l__are_marks : K.lookup f__are_marks = some ⟨oc__are_marks, od__are_marks, .func (PySem.W.fnOf "_are_marks" "_are_marks" (defArgs s__are_marks) (defBody s__are_marks) (defScope s__are_marks) .none kV__are_marks dc__are_marks pm__are_marks an__are_marks cd__are_marks ct__are_marks), sl__are_marks⟩)
    (c__are_marks : PySem.W.codeIn K cd__are_marks "_are_marks" = true) (k__are_marks : PySem.W.keepIn K (.ref f__are_marks) = true)
    (a__is_pair : PySem.W.nsIn K mainGlobals "_is_pair" = some (some (.ref f__is_pair)))
    (l__is_pair : K.lookup f__is_pair = some ⟨oc__is_pair, od__is_pair, .func (PySem.W.fnOf "_is_pair" "_is_pair" (defArgs s__is_pair) (defBody s__is_pair) (defScope s__is_pair) .none kV__is_pair dc__is_pair pm__is_pair an__is_pair cd__is_pair ct__is_pair), sl__is_pair⟩)
    (c__is_pair : PySem.W.codeIn K cd__is_pair "_is_pair" = true) (k__is_pair : PySem.W.keepIn K (.ref f__is_pair) = true)
    (a__is_full : PySem.W.nsIn K mainGlobals "_is_full" = some (some (.ref f__is_full)))
    (l__is_full : K.lookup f__is_full = some ⟨oc__is_full, od__is_full, .func (PySem.W.fnOf "_is_full" "_is_full" (defArgs s__is_full) (defBody s__is_full) (defScope s__is_full) .none kV__is_full dc__is_full pm__is_full an__is_full cd__is_full ct__is_full), sl__is_full⟩)
    (c__is_full : PySem.W.codeIn K cd__is_full "_is_full" = true) (k__is_full : PySem.W.keepIn K (.ref f__is_full) = true)
    (a__is_line : PySem.W.nsIn K mainGlobals "_is_line" = some (some (.ref f__is_line)))
    (l__is_line : K.lookup f__is_line = some ⟨oc__is_line, od__is_line, .func (PySem.W.fnOf "_is_line" "_is_line" (defArgs s__is_line) (defBody s__is_line) (defScope s__is_line) .none kV__is_line dc__is_line pm__is_line an__is_line cd__is_line ct__is_line), sl__is_line⟩)
    (c__is_line : PySem.W.codeIn K cd__is_line "_is_line" = true) (k__is_line : PySem.W.keepIn K (.ref f__is_line) = true)
    (a__are_pairs : PySem.W.nsIn K mainGlobals "_are_pairs" = some (some (.ref f__are_pairs)))
    (l__are_pairs : K.lookup f__are_pairs = some ⟨oc__are_pairs, od__are_pairs, .func (PySem.W.fnOf "_are_pairs" "_are_pairs" (defArgs s__are_pairs) (defBody s__are_pairs) (defScope s__are_pairs) .none kV__are_pairs dc__are_pairs pm__are_pairs an__are_pairs cd__are_pairs ct__are_pairs), sl__are_pairs⟩)
    (c__are_pairs : PySem.W.codeIn K cd__are_pairs "_are_pairs" = true) (k__are_pairs : PySem.W.keepIn K (.ref f__are_pairs) = true)
    (a_Table_init : PySem.W.findIn K (.ref C) "__init__" = some (some (.ref f_Table_init))) (i_Table_init : PySem.W.isFn K (.ref f_Table_init) = true)
    (l_Table_init : K.lookup f_Table_init = some ⟨oc_Table_init, od_Table_init, .func (PySem.W.fnOf "__init__" "Table.__init__" (defArgs s_Table_init) (defBody s_Table_init) (defScope s_Table_init) .none kV_Table_init dc_Table_init pm_Table_init an_Table_init cd_Table_init ct_Table_init), sl_Table_init⟩)
    (c_Table_init : PySem.W.codeIn K cd_Table_init "Table.__init__" = true) (k_Table_init : PySem.W.keepIn K (.ref f_Table_init) = true)
    (a_Table_marks : PySem.W.findIn K (.ref C) "marks" = some (some (.ref f_Table_marks))) (i_Table_marks : PySem.W.isFn K (.ref f_Table_marks) = true)
    (l_Table_marks : K.lookup f_Table_marks = some ⟨oc_Table_marks, od_Table_marks, .func (PySem.W.fnOf "marks" "Table.marks" (defArgs s_Table_marks) (defBody s_Table_marks) (defScope s_Table_marks) .none kV_Table_marks dc_Table_marks pm_Table_marks an_Table_marks cd_Table_marks ct_Table_marks), sl_Table_marks⟩)
    (c_Table_marks : PySem.W.codeIn K cd_Table_marks "Table.marks" = true) (k_Table_marks : PySem.W.keepIn K (.ref f_Table_marks) = true)
    (a_Table_passed : PySem.W.findIn K (.ref C) "passed" = some (some (.ref f_Table_passed))) (i_Table_passed : PySem.W.isFn K (.ref f_Table_passed) = true)
    (l_Table_passed : K.lookup f_Table_passed = some ⟨oc_Table_passed, od_Table_passed, .func (PySem.W.fnOf "passed" "Table.passed" (defArgs s_Table_passed) (defBody s_Table_passed) (defScope s_Table_passed) .none kV_Table_passed dc_Table_passed pm_Table_passed an_Table_passed cd_Table_passed ct_Table_passed), sl_Table_passed⟩)
    (c_Table_passed : PySem.W.codeIn K cd_Table_passed "Table.passed" = true) (k_Table_passed : PySem.W.keepIn K (.ref f_Table_passed) = true)
    (a_row_fault : PySem.W.nsIn K mainGlobals "row_fault" = some (some (.ref f_row_fault)))
    (l_row_fault : K.lookup f_row_fault = some ⟨oc_row_fault, od_row_fault, .func (PySem.W.fnOf "row_fault" "row_fault" (defArgs s_row_fault) (defBody s_row_fault) (defScope s_row_fault) .none kV_row_fault dc_row_fault pm_row_fault an_row_fault cd_row_fault ct_row_fault), sl_row_fault⟩)
    (c_row_fault : PySem.W.codeIn K cd_row_fault "row_fault" = true) (k_row_fault : PySem.W.keepIn K (.ref f_row_fault) = true)
    (a_row_taken : PySem.W.nsIn K mainGlobals "row_taken" = some (some (.ref f_row_taken)))
    (l_row_taken : K.lookup f_row_taken = some ⟨oc_row_taken, od_row_taken, .func (PySem.W.fnOf "row_taken" "row_taken" (defArgs s_row_taken) (defBody s_row_taken) (defScope s_row_taken) .none kV_row_taken dc_row_taken pm_row_taken an_row_taken cd_row_taken ct_row_taken), sl_row_taken⟩)
    (c_row_taken : PySem.W.codeIn K cd_row_taken "row_taken" = true) (k_row_taken : PySem.W.keepIn K (.ref f_row_taken) = true)
    (a_pass_done : PySem.W.nsIn K mainGlobals "pass_done" = some (some (.ref f_pass_done)))
    (l_pass_done : K.lookup f_pass_done = some ⟨oc_pass_done, od_pass_done, .func (PySem.W.fnOf "pass_done" "pass_done" (defArgs s_pass_done) (defBody s_pass_done) (defScope s_pass_done) .none kV_pass_done dc_pass_done pm_pass_done an_pass_done cd_pass_done ct_pass_done), sl_pass_done⟩)
    (c_pass_done : PySem.W.codeIn K cd_pass_done "pass_done" = true) (k_pass_done : PySem.W.keepIn K (.ref f_pass_done) = true)
    (a_rows_on : PySem.W.nsIn K mainGlobals "rows_on" = some (some (.ref f_rows_on)))
    (l_rows_on : K.lookup f_rows_on = some ⟨oc_rows_on, od_rows_on, .func (PySem.W.fnOf "rows_on" "rows_on" (defArgs s_rows_on) (defBody s_rows_on) (defScope s_rows_on) .none kV_rows_on dc_rows_on pm_rows_on an_rows_on cd_rows_on ct_rows_on), sl_rows_on⟩)
    (c_rows_on : PySem.W.codeIn K cd_rows_on "rows_on" = true) (k_rows_on : PySem.W.keepIn K (.ref f_rows_on) = true)
    (a_row_behind : PySem.W.nsIn K mainGlobals "row_behind" = some (some (.ref f_row_behind)))
    (l_row_behind : K.lookup f_row_behind = some ⟨oc_row_behind, od_row_behind, .func (PySem.W.fnOf "row_behind" "row_behind" (defArgs s_row_behind) (defBody s_row_behind) (defScope s_row_behind) .none kV_row_behind dc_row_behind pm_row_behind an_row_behind cd_row_behind ct_row_behind), sl_row_behind⟩)
    (c_row_behind : PySem.W.codeIn K cd_row_behind "row_behind" = true) (k_row_behind : PySem.W.keepIn K (.ref f_row_behind) = true)
    (a_pen : PySem.W.nsIn K mainGlobals "_law_pen" = some (some (.ref f_pen)))
    (l_pen : K.lookup f_pen = some ⟨oc_pen, od_pen, .func (PySem.W.fnOf "_law_pen" "_law_pen" (defArgs s_pen) (defBody s_pen) (defScope s_pen) .none kV_pen dc_pen pm_pen an_pen cd_pen ct_pen), sl_pen⟩)
    (c_pen : PySem.W.codeIn K cd_pen "_law_pen" = true) (k_pen : PySem.W.keepIn K (.ref f_pen) = true)
    (a_draw : PySem.W.nsIn K mainGlobals "_law_draw" = some (some (.ref f_draw)))
    (l_draw : K.lookup f_draw = some ⟨oc_draw, od_draw, .func (PySem.W.fnOf "_law_draw" "_law_draw" (defArgs s_draw) (defBody s_draw) (defScope s_draw) .none kV_draw dc_draw pm_draw an_draw cd_draw ct_draw), sl_draw⟩)
    (c_draw : PySem.W.codeIn K cd_draw "_law_draw" = true) (k_draw : PySem.W.keepIn K (.ref f_draw) = true)
    (a_pick : PySem.W.nsIn K mainGlobals "_law_pick" = some (some (.ref f_pick)))
    (l_pick : K.lookup f_pick = some ⟨oc_pick, od_pick, .func (PySem.W.fnOf "_law_pick" "_law_pick" (defArgs s_pick) (defBody s_pick) (defScope s_pick) .none kV_pick dc_pick pm_pick an_pick cd_pick ct_pick), sl_pick⟩)
    (c_pick : PySem.W.codeIn K cd_pick "_law_pick" = true) (k_pick : PySem.W.keepIn K (.ref f_pick) = true)
    (a_names : PySem.W.nsIn K mainGlobals "_law_names" = some (some (.ref f_names)))
    (l_names : K.lookup f_names = some ⟨oc_names, od_names, .func (PySem.W.fnOf "_law_names" "_law_names" (defArgs s_names) (defBody s_names) (defScope s_names) .none kV_names dc_names pm_names an_names cd_names ct_names), sl_names⟩)
    (c_names : PySem.W.codeIn K cd_names "_law_names" = true) (k_names : PySem.W.keepIn K (.ref f_names) = true)
    (a_word : PySem.W.nsIn K mainGlobals "_law_word" = some (some (.ref f_word)))
    (l_word : K.lookup f_word = some ⟨oc_word, od_word, .func (PySem.W.fnOf "_law_word" "_law_word" (defArgs s_word) (defBody s_word) (defScope s_word) .none kV_word dc_word pm_word an_word cd_word ct_word), sl_word⟩)
    (c_word : PySem.W.codeIn K cd_word "_law_word" = true) (k_word : PySem.W.keepIn K (.ref f_word) = true)
    (a_law : PySem.W.nsIn K mainGlobals "law" = some (some (.ref f_law)))
    (l_law : K.lookup f_law = some ⟨oc_law, od_law, .func (PySem.W.fnOf "law" "law" (defArgs s_law) (defBody s_law) (defScope s_law) .none kV_law dc_law pm_law an_law cd_law ct_law), sl_law⟩)
    (c_law : PySem.W.codeIn K cd_law "law" = true) (k_law : PySem.W.keepIn K (.ref f_law) = true)
    (v_WORD : PySem.W.nsIn K mainGlobals "WORD" = some (some (.int 2000 t_WORD)))
    (v_PLACES : PySem.W.nsIn K mainGlobals "PLACES" = some (some (.int 60 t_PLACES)))
    (v_MOST_MARKS : PySem.W.nsIn K mainGlobals "MOST_MARKS" = some (some (.int 6 t_MOST_MARKS)))
    (v__LONGEST : PySem.W.nsIn K mainGlobals "_LONGEST" = some (some (.int 8 t__LONGEST)))
    (v__LETTERS : PySem.W.nsIn K mainGlobals "_LETTERS" = some (some (.str (Str.ofString "abcdefghijklmnopqrstuvwxyz") t__LETTERS)))
    (z_len : PySem.W.nsIn K mainGlobals "len" = some none)
    (z_list : PySem.W.nsIn K mainGlobals "list" = some none)
    (z_tuple : PySem.W.nsIn K mainGlobals "tuple" = some none)
    (z_range : PySem.W.nsIn K mainGlobals "range" = some none)
    (z_enumerate : PySem.W.nsIn K mainGlobals "enumerate" = some none)
    (z_isinstance : PySem.W.nsIn K mainGlobals "isinstance" = some none)
    (z_int : PySem.W.nsIn K mainGlobals "int" = some none)
    (z_bool : PySem.W.nsIn K mainGlobals "bool" = some none)
    (z_abs : PySem.W.nsIn K mainGlobals "abs" = some none)
    (z_repr : PySem.W.nsIn K mainGlobals "repr" = some none)
    (z_all : PySem.W.nsIn K mainGlobals "all" = some none)
    (z_min : PySem.W.nsIn K mainGlobals "min" = some none)
    (z_max : PySem.W.nsIn K mainGlobals "max" = some none)
    (z_sorted : PySem.W.nsIn K mainGlobals "sorted" = some none)
    (z_set : PySem.W.nsIn K mainGlobals "set" = some none)
    (z_sum : PySem.W.nsIn K mainGlobals "sum" = some none)
    (z_str : PySem.W.nsIn K mainGlobals "str" = some none)
    (z_dict : PySem.W.nsIn K mainGlobals "dict" = some none)
    : ∃ fd : FuncData, (∀ (s : Shared) (v : Value), BindsTo s fd ⟨[v], []⟩ [("_law_script", v)]) ∧ ∀ base : Heap, K.In base → base.Ns mainGlobals mg → FnG l.prog w K mg base 7 fa fd ["_law_script"] (spLaw K) := by
  have e := hfa.symm.trans (PySem.W.mg_of X G a_law)
  cases e
  have T : Bare mg := { n_len := PySem.W.mg_none_of X G z_len, n_list := PySem.W.mg_none_of X G z_list, n_tuple := PySem.W.mg_none_of X G z_tuple, n_range := PySem.W.mg_none_of X G z_range, n_enumerate := PySem.W.mg_none_of X G z_enumerate, n_isinstance := PySem.W.mg_none_of X G z_isinstance, n_int := PySem.W.mg_none_of X G z_int, n_bool := PySem.W.mg_none_of X G z_bool, n_abs := PySem.W.mg_none_of X G z_abs, n_repr := PySem.W.mg_none_of X G z_repr, n_all := PySem.W.mg_none_of X G z_all, n_min := PySem.W.mg_none_of X G z_min, n_max := PySem.W.mg_none_of X G z_max, n_sorted := PySem.W.mg_none_of X G z_sorted, n_set := PySem.W.mg_none_of X G z_set, n_sum := PySem.W.mg_none_of X G z_sum, n_str := PySem.W.mg_none_of X G z_str, n_dict := PySem.W.mg_none_of X G z_dict }
  have C_WORD : ∃ t, mg "WORD" = some (.int 2000 t) := ⟨_, PySem.W.mg_of X G v_WORD⟩
  have C_PLACES : ∃ t, mg "PLACES" = some (.int 60 t) := ⟨_, PySem.W.mg_of X G v_PLACES⟩
  have C_MOST_MARKS : ∃ t, mg "MOST_MARKS" = some (.int 6 t) := ⟨_, PySem.W.mg_of X G v_MOST_MARKS⟩
  have C__LONGEST : ∃ t, mg "_LONGEST" = some (.int 8 t) := ⟨_, PySem.W.mg_of X G v__LONGEST⟩
  have C__LETTERS : ∃ t, mg "_LETTERS" = some (.str (Str.ofString "abcdefghijklmnopqrstuvwxyz") t) := ⟨_, PySem.W.mg_of X G v__LETTERS⟩
  have TC : TabC K mg C f_Table_init := ⟨⟨pg, hd, po, sa⟩, ⟨mk, a_Table_init, i_Table_init, kc⟩, PySem.W.mg_of X G aC, n_marks, n_pairs⟩
  refine ⟨PySem.W.fnOf "law" "law" (defArgs s_law) (defBody s_law) (defScope s_law) .none kV_law dc_law pm_law an_law cd_law ct_law, fun s v => .of_eq rfl, fun base _ _ => ?_⟩
  have F_is_listing := fun_mk (st := s_is_listing) l_is_listing c_is_listing k_is_listing
  have H_is_listing : Has l.prog w K mg base 1 "is_listing" ["thing"] spIsL := ⟨_, _, ok_is_listing F_is_listing T, PySem.W.mg_of X G a_is_listing, k_is_listing, F_is_listing.binds (ps := ["thing"]) fun _ _ _ _ _ _ us hl => match us, hl with | [_], _ => rfl⟩
  have F_is_number := fun_mk (st := s_is_number) l_is_number c_is_number k_is_number
  have H_is_number : Has l.prog w K mg base 1 "is_number" ["thing", "least", "most"] spIsN := ⟨_, _, ok_is_number F_is_number T, PySem.W.mg_of X G a_is_number, k_is_number, F_is_number.binds (ps := ["thing", "least", "most"]) fun _ _ _ _ _ _ us hl => match us, hl with | [_, _, _], _ => rfl⟩
  have F_word_fault := fun_mk (st := s_word_fault) l_word_fault c_word_fault k_word_fault
  have H_word_fault : Has l.prog w K mg base 2 "word_fault" ["places", "word"] spWordF := ⟨_, _, ok_word_fault F_word_fault T C_WORD H_is_listing H_is_number, PySem.W.mg_of X G a_word_fault, k_word_fault, F_word_fault.binds (ps := ["places", "word"]) fun _ _ _ _ _ _ us hl => match us, hl with | [_, _], _ => rfl⟩
  have F_order_fault := fun_mk (st := s_order_fault) l_order_fault c_order_fault k_order_fault
  have H_order_fault : Has l.prog w K mg base 2 "order_fault" ["order"] spOrderF := ⟨_, _, ok_order_fault F_order_fault T C_PLACES H_is_listing H_is_number, PySem.W.mg_of X G a_order_fault, k_order_fault, F_order_fault.binds (ps := ["order"]) fun _ _ _ _ _ _ us hl => match us, hl with | [_], _ => rfl⟩
  have F_number_taken := fun_mk (st := s_number_taken) l_number_taken c_number_taken k_number_taken
  have H_number_taken : Has l.prog w K mg base 2 "number_taken" ["thing", "least", "most"] spNumT := ⟨_, _, ok_number_taken F_number_taken H_is_number, PySem.W.mg_of X G a_number_taken, k_number_taken, F_number_taken.binds (ps := ["thing", "least", "most"]) fun _ _ _ _ _ _ us hl => match us, hl with | [_, _, _], _ => rfl⟩
  have F_places_taken := fun_mk (st := s_places_taken) l_places_taken c_places_taken k_places_taken
  have H_places_taken : Has l.prog w K mg base 3 "places_taken" ["thing"] spPlacesT := ⟨_, _, ok_places_taken F_places_taken C_PLACES H_number_taken, PySem.W.mg_of X G a_places_taken, k_places_taken, F_places_taken.binds (ps := ["thing"]) fun _ _ _ _ _ _ us hl => match us, hl with | [_], _ => rfl⟩
  have F_word_taken := fun_mk (st := s_word_taken) l_word_taken c_word_taken k_word_taken
  have H_word_taken : Has l.prog w K mg base 3 "word_taken" ["places", "word"] spWordT := ⟨_, _, ok_word_taken F_word_taken T H_word_fault, PySem.W.mg_of X G a_word_taken, k_word_taken, F_word_taken.binds (ps := ["places", "word"]) fun _ _ _ _ _ _ us hl => match us, hl with | [_, _], _ => rfl⟩
  have F_order_taken := fun_mk (st := s_order_taken) l_order_taken c_order_taken k_order_taken
  have H_order_taken : Has l.prog w K mg base 3 "order_taken" ["order"] spOrderT := ⟨_, _, ok_order_taken F_order_taken T H_order_fault, PySem.W.mg_of X G a_order_taken, k_order_taken, F_order_taken.binds (ps := ["order"]) fun _ _ _ _ _ _ us hl => match us, hl with | [_], _ => rfl⟩
  have F_order_of := fun_mk (st := s_order_of) l_order_of c_order_of k_order_of
  have H_order_of : Has l.prog w K mg base 4 "order_of" ["places", "word"] spOrderOf := ⟨_, _, ok_order_of F_order_of T H_places_taken H_word_taken, PySem.W.mg_of X G a_order_of, k_order_of, F_order_of.binds (ps := ["places", "word"]) fun _ _ _ _ _ _ us hl => match us, hl with | [_, _], _ => rfl⟩
  have F_joined := fun_mk (st := s_joined) l_joined c_joined k_joined
  have H_joined : Has l.prog w K mg base 4 "joined" ["one", "other"] spJoined := ⟨_, _, ok_joined F_joined T H_is_listing H_order_taken, PySem.W.mg_of X G a_joined, k_joined, F_joined.binds (ps := ["one", "other"]) fun _ _ _ _ _ _ us hl => match us, hl with | [_, _], _ => rfl⟩
  have F_undone := fun_mk (st := s_undone) l_undone c_undone k_undone
  have H_undone : Has l.prog w K mg base 4 "undone" ["order"] spUndone := ⟨_, _, ok_undone F_undone T H_order_taken, PySem.W.mg_of X G a_undone, k_undone, F_undone.binds (ps := ["order"]) fun _ _ _ _ _ _ us hl => match us, hl with | [_], _ => rfl⟩
  have F_is_name := fun_mk (st := s_is_name) l_is_name c_is_name k_is_name
  have H_is_name : Has l.prog w K mg base 1 "is_name" ["thing"] spIsName := ⟨_, _, ok_is_name F_is_name T C__LETTERS C__LONGEST, PySem.W.mg_of X G a_is_name, k_is_name, F_is_name.binds (ps := ["thing"]) fun _ _ _ _ _ _ us hl => match us, hl with | [_], _ => rfl⟩
  have F__are_marks := fun_mk (st := s__are_marks) l__are_marks c__are_marks k__are_marks
  have H__are_marks : Has l.prog w K mg base 2 "_are_marks" ["marks"] spAreMarks := ⟨_, _, ok__are_marks F__are_marks T C_MOST_MARKS H_is_listing H_is_name, PySem.W.mg_of X G a__are_marks, k__are_marks, F__are_marks.binds (ps := ["marks"]) fun _ _ _ _ _ _ us hl => match us, hl with | [_], _ => rfl⟩
  have F__is_pair := fun_mk (st := s__is_pair) l__is_pair c__is_pair k__is_pair
  have H__is_pair : Has l.prog w K mg base 2 "_is_pair" ["pair", "marks"] spIsPair := ⟨_, _, ok__is_pair F__is_pair T H_is_listing, PySem.W.mg_of X G a__is_pair, k__is_pair, F__is_pair.binds (ps := ["pair", "marks"]) fun _ _ _ _ _ _ us hl => match us, hl with | [_, _], _ => rfl⟩
  have F__is_full := fun_mk (st := s__is_full) l__is_full c__is_full k__is_full
  have H__is_full : Has l.prog w K mg base 2 "_is_full" ["listing", "marks"] spIsFull := ⟨_, _, ok__is_full F__is_full T H_is_listing, PySem.W.mg_of X G a__is_full, k__is_full, F__is_full.binds (ps := ["listing", "marks"]) fun _ _ _ _ _ _ us hl => match us, hl with | [_, _], _ => rfl⟩
  have F__is_line := fun_mk (st := s__is_line) l__is_line c__is_line k__is_line
  have H__is_line : Has l.prog w K mg base 3 "_is_line" ["line", "marks"] spIsLine := ⟨_, _, ok__is_line F__is_line T H__is_full H__is_pair, PySem.W.mg_of X G a__is_line, k__is_line, F__is_line.binds (ps := ["line", "marks"]) fun _ _ _ _ _ _ us hl => match us, hl with | [_, _], _ => rfl⟩
  have F__are_pairs := fun_mk (st := s__are_pairs) l__are_pairs c__are_pairs k__are_pairs
  have H__are_pairs : Has l.prog w K mg base 4 "_are_pairs" ["pairs", "marks"] spArePairs := ⟨_, _, ok__are_pairs F__are_pairs T H__is_full H__is_line, PySem.W.mg_of X G a__are_pairs, k__are_pairs, F__are_pairs.binds (ps := ["pairs", "marks"]) fun _ _ _ _ _ _ us hl => match us, hl with | [_, _], _ => rfl⟩
  have F_Table_init := fun_mk (st := s_Table_init) l_Table_init c_Table_init k_Table_init
  have H_Table_init : HasI l.prog w K mg base 5 C f_Table_init ["self", "marks", "pairs"] (spInit C) := ⟨_, ok_Table_init F_Table_init T TC H__are_marks H__are_pairs, F_Table_init.binds (ps := ["self", "marks", "pairs"]) fun _ _ _ _ _ _ us hl => match us, hl with | [_, _, _], _ => rfl⟩
  have F_Table_marks := fun_mk (st := s_Table_marks) l_Table_marks c_Table_marks k_Table_marks
  have H_Table_marks : HasM l.prog w K mg base 1 C "marks" ["self"] (spMarks C) := ⟨_, _, ok_Table_marks F_Table_marks T TC, ⟨a_Table_marks, i_Table_marks, k_Table_marks⟩, F_Table_marks.binds (ps := ["self"]) fun _ _ _ _ _ _ us hl => match us, hl with | [_], _ => rfl⟩
  have F_Table_passed := fun_mk (st := s_Table_passed) l_Table_passed c_Table_passed k_Table_passed
  have H_Table_passed : HasM l.prog w K mg base 1 C "passed" ["self", "one", "other"] (spPassed C) := ⟨_, _, ok_Table_passed F_Table_passed T TC, ⟨a_Table_passed, i_Table_passed, k_Table_passed⟩, F_Table_passed.binds (ps := ["self", "one", "other"]) fun _ _ _ _ _ _ us hl => match us, hl with | [_, _, _], _ => rfl⟩
  have F_row_fault := fun_mk (st := s_row_fault) l_row_fault c_row_fault k_row_fault
  have H_row_fault : Has l.prog w K mg base 2 "row_fault" ["table", "row"] (spRowF C) := ⟨_, _, ok_row_fault F_row_fault T TC C_PLACES H_is_listing H_Table_marks, PySem.W.mg_of X G a_row_fault, k_row_fault, F_row_fault.binds (ps := ["table", "row"]) fun _ _ _ _ _ _ us hl => match us, hl with | [_, _], _ => rfl⟩
  have F_row_taken := fun_mk (st := s_row_taken) l_row_taken c_row_taken k_row_taken
  have H_row_taken : Has l.prog w K mg base 3 "row_taken" ["table", "row"] (spRowT C) := ⟨_, _, ok_row_taken F_row_taken T H_row_fault, PySem.W.mg_of X G a_row_taken, k_row_taken, F_row_taken.binds (ps := ["table", "row"]) fun _ _ _ _ _ _ us hl => match us, hl with | [_, _], _ => rfl⟩
  have F_pass_done := fun_mk (st := s_pass_done) l_pass_done c_pass_done k_pass_done
  have H_pass_done : Has l.prog w K mg base 2 "pass_done" ["table", "row", "place"] (spPassDone C) := ⟨_, _, ok_pass_done F_pass_done T TC H_Table_passed, PySem.W.mg_of X G a_pass_done, k_pass_done, F_pass_done.binds (ps := ["table", "row", "place"]) fun _ _ _ _ _ _ us hl => match us, hl with | [_, _, _], _ => rfl⟩
  have F_rows_on := fun_mk (st := s_rows_on) l_rows_on c_rows_on k_rows_on
  have H_rows_on : Has l.prog w K mg base 4 "rows_on" ["table", "row", "word"] (spRowsOn C) := ⟨_, _, ok_rows_on F_rows_on T H_row_taken H_word_taken H_pass_done, PySem.W.mg_of X G a_rows_on, k_rows_on, F_rows_on.binds (ps := ["table", "row", "word"]) fun _ _ _ _ _ _ us hl => match us, hl with | [_, _, _], _ => rfl⟩
  have F_row_behind := fun_mk (st := s_row_behind) l_row_behind c_row_behind k_row_behind
  have H_row_behind : Has l.prog w K mg base 5 "row_behind" ["table", "row", "word"] (spRowBehind C) := ⟨_, _, ok_row_behind F_row_behind T H_rows_on, PySem.W.mg_of X G a_row_behind, k_row_behind, F_row_behind.binds (ps := ["table", "row", "word"]) fun _ _ _ _ _ _ us hl => match us, hl with | [_, _, _], _ => rfl⟩
  have F_pen := fun_mk (st := s_pen) l_pen c_pen k_pen
  have H_pen : Has l.prog w K mg base 1 "_law_pen" ["_law_script"] (spPen K) := ⟨_, _, ok_pen F_pen T, PySem.W.mg_of X G a_pen, k_pen, F_pen.binds (ps := ["_law_script"]) fun _ _ _ _ _ _ us hl => match us, hl with | [_], _ => rfl⟩
  have F_draw := fun_mk (st := s_draw) l_draw c_draw k_draw
  have H_draw : Has l.prog w K mg base 1 "_law_draw" ["_law_pen_here", "_law_many"] spDraw := ⟨_, _, ok_draw F_draw T, PySem.W.mg_of X G a_draw, k_draw, F_draw.binds (ps := ["_law_pen_here", "_law_many"]) fun _ _ _ _ _ _ us hl => match us, hl with | [_, _], _ => rfl⟩
  have F_pick := fun_mk (st := s_pick) l_pick c_pick k_pick
  have H_pick : Has l.prog w K mg base 2 "_law_pick" ["_law_pen_here", "_law_some"] spPick := ⟨_, _, ok_pick F_pick T H_draw, PySem.W.mg_of X G a_pick, k_pick, F_pick.binds (ps := ["_law_pen_here", "_law_some"]) fun _ _ _ _ _ _ us hl => match us, hl with | [_, _], _ => rfl⟩
  have F_names := fun_mk (st := s_names) l_names c_names k_names
  have H_names : Has l.prog w K mg base 3 "_law_names" ["_law_pen_here", "_law_many"] spNames := ⟨_, _, ok_names F_names T H_draw H_pick, PySem.W.mg_of X G a_names, k_names, F_names.binds (ps := ["_law_pen_here", "_law_many"]) fun _ _ _ _ _ _ us hl => match us, hl with | [_, _], _ => rfl⟩
  have F_word := fun_mk (st := s_word) l_word c_word k_word
  have H_word : Has l.prog w K mg base 2 "_law_word" ["_law_pen_here", "_law_places", "_law_many"] spWord := ⟨_, _, ok_word F_word T H_draw, PySem.W.mg_of X G a_word, k_word, F_word.binds (ps := ["_law_pen_here", "_law_places", "_law_many"]) fun _ _ _ _ _ _ us hl => match us, hl with | [_, _, _], _ => rfl⟩
  exact ok_law (fun_mk (st := s_law) l_law c_law k_law) T TC H_pen H_draw H_pick H_word H_names H_order_of H_joined H_undone H_Table_init H_row_behind
theorem walk {l : PySem.W.OpenLaw} {q : Program} {loose : List Str} {XP : (Str → Option Value) → Heap → Prop} {YP : World → Heap → Prop} {d : DefRec} {K : Params → PySem.W.Frag} (hn : l.most = some 63) (hdf : d.params.defaults = [])
    (hY : ∀ (w : World) (h : Heap), YP w h → (K w.params).In h) (F : ∀ (w : World) (mg : Str → Option Value) (fa : Addr) (h : Heap), (K w.params).In h → h.Ns mainGlobals mg → mg d.name = some (.ref fa) →
      ∃ fd : FuncData, (∀ (s : Shared) (u : Value), BindsTo s fd ⟨[u], []⟩ [("_law_script", u)]) ∧ ∀ base : Heap, (K w.params).In base → base.Ns mainGlobals mg → FnG l.prog w (K w.params) mg base 7 fa fd ["_law_script"] (spLaw (K w.params))) :
    PySem.W.WalkO q loose XP YP l.row.toRowW d [] (fun f vs => PySem.call f vs) :=
  walkG (n := 63) (k := 7) (sp := spLaw) hn (by decide) hdf ⟨rfl, by decide, by decide⟩ hY F fun K H a ns hl hS => ⟨a, ns, rfl, hS, hl, fun _ => rfl⟩
end Lk12
open PySem PySem.W PyProof.Rows
set_option maxRecDepth 100000 in
set_option maxHeartbeats 0 in
theorem PySem.Challenge.cw_passmarks_k12_whole_orders_and_rows_holds : PySem.Challenge.rw_passmarks_k12_whole_orders_and_rows.Holds := by
  w_on; o_law; k_head; (case hw => w_witness2)
  k_fill
  refine Lk12.walk (l := PySem.Challenge.rw_passmarks_k12_whole_orders_and_rows) rfl rfl (fun w h Y => PySem.W.kIn_of Y) ?F
  case F =>
    intro w mg fa h KX G hmg
    refine' Lk12.all_mk KX G hmg ?aC ?pg ?hd ?po ?sa ?mk ?kc ?n_marks ?n_pairs ?a_is_listing ?l_is_listing ?c_is_listing ?k_is_listing ?a_is_number ?l_is_number ?c_is_number ?k_is_number ?a_word_fault ?l_word_fault ?c_word_fault ?k_word_fault ?a_order_fault ?l_order_fault ?c_order_fault ?k_order_fault ?a_number_taken ?l_number_taken ?c_number_taken ?k_number_taken ?a_places_taken ?l_places_taken ?c_places_taken ?k_places_taken ?a_word_taken ?l_word_taken ?c_word_taken ?k_word_taken ?a_order_taken ?l_order_taken ?c_order_taken ?k_order_taken ?a_order_of ?l_order_of ?c_order_of ?k_order_of ?a_joined ?l_joined ?c_joined ?k_joined ?a_undone ?l_undone ?c_undone ?k_undone ?a_is_name ?l_is_name ?c_is_name ?k_is_name ?a__are_marks ?l__are_marks ?c__are_marks ?k__are_marks ?a__is_pair ?l__is_pair ?c__is_pair ?k__is_pair ?a__is_full ?l__is_full ?c__is_full ?k__is_full ?a__is_line ?l__is_line ?c__is_line ?k__is_line ?a__are_pairs ?l__are_pairs ?c__are_pairs ?k__are_pairs ?a_Table_init ?i_Table_init ?l_Table_init ?c_Table_init ?k_Table_init ?a_Table_marks ?i_Table_marks ?l_Table_marks ?c_Table_marks ?k_Table_marks ?a_Table_passed ?i_Table_passed ?l_Table_passed ?c_Table_passed ?k_Table_passed ?a_row_fault ?l_row_fault ?c_row_fault ?k_row_fault ?a_row_taken ?l_row_taken ?c_row_taken ?k_row_taken ?a_pass_done ?l_pass_done ?c_pass_done ?k_pass_done ?a_rows_on ?l_rows_on ?c_rows_on ?k_rows_on ?a_row_behind ?l_row_behind ?c_row_behind ?k_row_behind ?a_pen ?l_pen ?c_pen ?k_pen ?a_draw ?l_draw ?c_draw ?k_draw ?a_pick ?l_pick ?c_pick ?k_pick ?a_names ?l_names ?c_names ?k_names ?a_word ?l_word ?c_word ?k_word ?a_law ?l_law ?c_law ?k_law ?v_WORD ?v_PLACES ?v_MOST_MARKS ?v__LONGEST ?v__LETTERS ?z_len ?z_list ?z_tuple ?z_range ?z_enumerate ?z_isinstance ?z_int ?z_bool ?z_abs ?z_repr ?z_all ?z_min ?z_max ?z_sorted ?z_set ?z_sum ?z_str ?z_dict
    (case aC => k_is); (case pg => k_is); (case hd => k_is); (case po => k_is); (case sa => k_is); (case mk => k_is)
    (case kc => k_is); (case n_marks => k_is); (case n_pairs => k_is); (case a_is_listing => k_is); (case l_is_listing => k_is); (case c_is_listing => k_is)
    (case k_is_listing => k_is); (case a_is_number => k_is); (case l_is_number => k_is); (case c_is_number => k_is); (case k_is_number => k_is); (case a_word_fault => k_is)
    (case l_word_fault => k_is); (case c_word_fault => k_is); (case k_word_fault => k_is); (case a_order_fault => k_is); (case l_order_fault => k_is); (case c_order_fault => k_is)
    (case k_order_fault => k_is); (case a_number_taken => k_is); (case l_number_taken => k_is); (case c_number_taken => k_is); (case k_number_taken => k_is); (case a_places_taken => k_is)
    (case l_places_taken => k_is); (case c_places_taken => k_is); (case k_places_taken => k_is); (case a_word_taken => k_is); (case l_word_taken => k_is); (case c_word_taken => k_is)
    (case k_word_taken => k_is); (case a_order_taken => k_is); (case l_order_taken => k_is); (case c_order_taken => k_is); (case k_order_taken => k_is); (case a_order_of => k_is)
    (case l_order_of => k_is); (case c_order_of => k_is); (case k_order_of => k_is); (case a_joined => k_is); (case l_joined => k_is); (case c_joined => k_is)
    (case k_joined => k_is); (case a_undone => k_is); (case l_undone => k_is); (case c_undone => k_is); (case k_undone => k_is); (case a_is_name => k_is)
    (case l_is_name => k_is); (case c_is_name => k_is); (case k_is_name => k_is); (case a__are_marks => k_is); (case l__are_marks => k_is); (case c__are_marks => k_is)
    (case k__are_marks => k_is); (case a__is_pair => k_is); (case l__is_pair => k_is); (case c__is_pair => k_is); (case k__is_pair => k_is); (case a__is_full => k_is)
    (case l__is_full => k_is); (case c__is_full => k_is); (case k__is_full => k_is); (case a__is_line => k_is); (case l__is_line => k_is); (case c__is_line => k_is)
    (case k__is_line => k_is); (case a__are_pairs => k_is); (case l__are_pairs => k_is); (case c__are_pairs => k_is); (case k__are_pairs => k_is); (case a_Table_init => k_is)
    (case i_Table_init => k_is); (case l_Table_init => k_is); (case c_Table_init => k_is); (case k_Table_init => k_is); (case a_Table_marks => k_is); (case i_Table_marks => k_is)
    (case l_Table_marks => k_is); (case c_Table_marks => k_is); (case k_Table_marks => k_is); (case a_Table_passed => k_is); (case i_Table_passed => k_is); (case l_Table_passed => k_is)
    (case c_Table_passed => k_is); (case k_Table_passed => k_is); (case a_row_fault => k_is); (case l_row_fault => k_is); (case c_row_fault => k_is); (case k_row_fault => k_is)
    (case a_row_taken => k_is); (case l_row_taken => k_is); (case c_row_taken => k_is); (case k_row_taken => k_is); (case a_pass_done => k_is); (case l_pass_done => k_is)
    (case c_pass_done => k_is); (case k_pass_done => k_is); (case a_rows_on => k_is); (case l_rows_on => k_is); (case c_rows_on => k_is); (case k_rows_on => k_is)
    (case a_row_behind => k_is); (case l_row_behind => k_is); (case c_row_behind => k_is); (case k_row_behind => k_is); (case a_pen => k_is); (case l_pen => k_is)
    (case c_pen => k_is); (case k_pen => k_is); (case a_draw => k_is); (case l_draw => k_is); (case c_draw => k_is); (case k_draw => k_is)
    (case a_pick => k_is); (case l_pick => k_is); (case c_pick => k_is); (case k_pick => k_is); (case a_names => k_is); (case l_names => k_is)
    (case c_names => k_is); (case k_names => k_is); (case a_word => k_is); (case l_word => k_is); (case c_word => k_is); (case k_word => k_is)
    (case a_law => k_is); (case l_law => k_is); (case c_law => k_is); (case k_law => k_is); (case v_WORD => k_is); (case v_PLACES => k_is)
    (case v_MOST_MARKS => k_is); (case v__LONGEST => k_is); (case v__LETTERS => k_is); (case z_len => k_is); (case z_list => k_is); (case z_tuple => k_is)
    (case z_range => k_is); (case z_enumerate => k_is); (case z_isinstance => k_is); (case z_int => k_is); (case z_bool => k_is); (case z_abs => k_is)
    (case z_repr => k_is); (case z_all => k_is); (case z_min => k_is); (case z_max => k_is); (case z_sorted => k_is); (case z_set => k_is)
    (case z_sum => k_is); (case z_str => k_is); (case z_dict => k_is)
