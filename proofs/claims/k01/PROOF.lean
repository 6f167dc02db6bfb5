import PyProof.Rows.All
import Wide.All
import OpenK.AllK
import Wide.FinOn
import HandS.ForMost
import HandS.StrMore
import HandS.IsInst
import HandS.Flow
import PyProof.ReprRoads
import HandS.DictComp
import HandS.Walk
import KE.GoesNew
import KE.KDictIter
import PyProof.WalkLemmas
import PyProof.Rows.StrCut
import PySem.Challenge.RW_heelrow_k01_names_of_any_kind
set_option Elab.async false
set_option linter.all false
set_option maxRecDepth 100000
/-! defs that are called where no repr is under way (guards are empty): promises that may rest on it -/
namespace Hee
open PySem PySem.Spec PyProof.Rows L2
/-- as a def's promise, for callers around whom no guard stands -/
structure FnG (P : Program) (w : World) (K : PySem.W.Frag)
    (mg : Str → Option Value) (base : Heap) (CX : CXT) (k : Nat)
    (f : Addr) (fd : FuncData) (ps : List Str) (sp : Sp) : Prop where
  len : ∀ vs H Q E, sp vs H Q E → vs.length = ps.length
  go : ∀ (A : Around) (outer : List Env) (s : Shared) (H : Hp) (args : Args)
    (us : List Value) (vs : List V) (Q : VK) (E : XK),
    A.guards = some [] → Room k A → Env0 P w K mg base A outer s H →
    BindsTo s fd args (ps.zip us) → Vals vs us → sp vs H Q E →
    codeAny (model P w) A (.call (.ref f) args) (CR CX outer P w H s Q E) s
section
variable {P : Program} {w : World} {K : PySem.W.Frag}
  {mg : Str → Option Value} {base : Heap}
theorem okG {x qual : Str} {st : Stmt} {f : Addr} {fd : FuncData}
    {N ps : List Str} {k : Nat} {sp : Sp} (F : Fun K x qual st f fd)
    (S : FnScope N ps (defScope st))
    (ln : ∀ vs H Q E, sp vs H Q E → vs.length = ps.length)
    (bd : ∀ (cdv : Value) (A : Around) (outer : List Env) (s : Shared)
      (H : Hp) (vs : List V) (Q : VK) (E : XK), A.guards = some [] →
      Room k (A.deeper (envOfC qual (defScope st) s.heap.objs.size f cdv)) →
      sp vs H Q E →
      ∃ t, PSs (cxOf CX0 P w K mg base N qual (defScope st) f cdv A outer s H
          E).nox (defBody st) t ∧
        t { nx := fun _ H' => Q .non H', rt := Q } (start N vs) H) :
    FnG P w K mg base CX0 (k + 1) f fd ps sp := by
  obtain ⟨oc, od, kV, dc, pm, an, cdv, ct, osl, rfl, lk, cd0⟩ := F.ex
  refine ⟨ln, fun A outer s H args us vs Q E gd rm ev bn rv want => ?_⟩
  have len0 := ln _ _ _ _ want
  have old : ∀ b o, base.get? b = some o → s.heap.get? b = some o :=
    fun b o z => (ev.bs b o z).1
  have kin := ev.mod.kin.keeps old
  have nolim := ev.mod.nolimit.keeps old
  refine codeAny_call_function rm.depth (kin _ _ lk) rfl S.co S.gen rfl
    (PySem.W.codeRec_of kin cd0) (bn _ _ _ _ ?_)
  refine wpAny_newFunctionEnv_cells S.kind (fun ⟨n, v⟩ hy => ?_)
    fun env he s1 made => ?_
  · rcases S.par n (List.of_mem_zip hy).1 with lo | ce
    · exact .inl lo
    · exact .inr ⟨ce, PySem.W.cellsFrom_some _ _ _ (.inl ce)⟩
  subst he
  refine ⟨nolim.keeps made.toInCall.keep, codeAny_func ?_⟩
  obtain ⟨t, ht, hq⟩ := bd cdv A outer s H vs Q E gd (rm.deeper _) want
  have I := inv_start (CX := CX0) (E := E) S rm.hd ev len0 rv made
  refine wpAny_mono (ht.nox.run [] s1 (start N vs) H _ I hq)
    (fun fl s2 got => ?_) fun _ _ z => z
  match fl, got with
  | .ret u, ⟨v, _, H', J, r, q⟩ =>
    exact ⟨v, H', J.os, J.bare, J.base, J.hok, r, q⟩
  | .next, ⟨_, H', J, q⟩ =>
    exact ⟨V.non, H', J.os, J.bare, J.base, J.hok, rfl, q⟩
  | .brk, ⟨_, _, _, q⟩ => exact q.elim
  | .cont, ⟨_, _, _, q⟩ => exact q.elim
end
section
variable {X : Cx} {CX : CXT} {k : Nat} {f : Addr} {fd : FuncData}
  {ps : List Str} {sp : Sp} {E : XK} {x : Str} {p pos : Pos} {e : Expr}
  {es : List Expr} {t : TA}
/-- f(e, ..) of such a def -/
theorem pe_callG (gd : X.A.guards = some [])
    (F : FnG X.prog X.w X.K X.mg X.base CX k f fd ps sp) (rm : Room k X.A)
    (hg : Gl X x) (hm : X.mg x = some (.ref f))
    (kp : PySem.W.keepIn X.K (.ref f) = true) (bn : Binds X.K fd ps [])
    (px : Passes CX X E) (ha : PA X (e :: es) t)
    (hdb : (x == ("__debug__" : Str)) = false := by decide)
    (he : starEach (e :: es) X.env =
      (false, eval e X.env) :: starEach es X.env := by rfl)
    (hpl : (backTo pos (starEach es X.env)).any (·.1) = false := by rfl) :
    PE X (.Call (.Name x p) (e :: es) [] pos) (tCall sp [] E t) := by
  refine ⟨fun pins s σ H Q I want => ?_⟩
  refine wpAny_Call_Name_kw (ld_glob I hg hm ?_ hdb)
  refine PySem.W.callWith_K (h₀ := X.base) I.ok.mod.kin kp
    (thn (ha.run pos pins s σ H _ I want) fun us s1 ⟨vs, H1, I1, r, q⟩ =>
      ⟨I1.kIn, ?_⟩) he hpl
  have r2 : Vals (vs ++ []) (us ++ []) := r.append .nil
  have ln : (us ++ []).length = ps.length := by
    rw [← r2.length]; exact F.len _ _ _ _ q
  refine wpAny_call (codeAny_mono (F.go X.A X.stack s1 H1 ⟨us, []⟩ (us ++ [])
    (vs ++ []) Q E gd rm I1.env0 (bn s1 us I1.kIn ln) r2 q) fun o s2 got => ?_)
  match o, got with
  | .error z, got => exact px pins σ H1 s1 z s2 I1 got
  | .ok (.ret u), got => exact I1.after got
  | .ok .next, got => exact got.elim
  | .ok .brk, got => exact got.elim
  | .ok .cont, got => exact got.elim
/-- f(k = v, ..): keywords alone -/
theorem pe_callK0 {kws : List Keyword} {ks : List Str} {tk : TA}
    {g : List Value → List Value → List Value}
    {gV : List V → List V → List V}
    (F : FnOk X.prog X.w X.K X.mg X.base CX k f fd ps sp) (rm : Room k X.A)
    (hg : Gl X x) (hm : X.mg x = some (.ref f))
    (kp : PySem.W.keepIn X.K (.ref f) = true) (bn : KBinds X.K fd ps ks g gV)
    (px : Passes CX X E) (hkw : PK X kws tk)
    (hall : (backToKw pos (keywordEach kws X.env)).all (·.1.isSome) = true :=
      by rfl)
    (hks : (backToKw pos (keywordEach kws X.env)).filterMap (·.1) = ks :=
      by rfl)
    (hdb : (x == ("__debug__" : Str)) = false := by decide)
    (hpl : ((backTo pos (starEach [] X.env)).any (·.1) ||
      (backToKw pos (keywordEach kws X.env)).any (·.1.isNone)) = false :=
      by rfl) :
    PE X (.Call (.Name x p) [] kws pos) (tCallK sp gV E tNil tk) := by
  refine ⟨fun pins s σ H Q I want => ?_⟩
  refine wpAny_Call_Name_kw (ld_glob I hg hm ?_ hdb)
  refine PySem.W.callWith_KW0 (h₀ := X.base) I.ok.mod.kin kp hall ?_ hpl
  refine thn (hkw.run pos pins s σ H _ I want)
    fun ws s2 ⟨zs, H2, I2, rz, q2⟩ => ⟨I2.kIn, ?_⟩
  rw [hks]
  exact run_fnk (us := []) (vs := []) F rm bn px I2 .nil rz q2
/-- repr of data at an address -/
def rRepr (K : PySem.W.Frag) : List V → Hp → VK → Prop := fun xs H Q =>
  ∃ (a : Addr) (d : PyData), xs = [.ref a] ∧ Dp K H (.ref a) d ∧
    d.showable = true ∧ d.hasDict = false ∧ d.depth ≤ 60 ∧
    d.shown.length ≤ sizeLine ∧ Q (.str d.shown) H
theorem call_reprD {k : Nat} (gd : X.A.guards = some []) (rm : Room k X.A) :
    CallR X (.builtin "repr") (rRepr X.K) := by
  intro pins s σ H xs us Q I r want
  obtain ⟨a, d, rfl, dp, sh, nd, dep, sz, q⟩ := want
  rw [Vals.ref1 r]
  obtain ⟨as, rd⟩ := Dp.reads I d (.ref a) (.ref a) dp rfl
  have un := rm.units
  exact repr_of_reads' rd sh (PyData.noDict_hsm nd) gd (by omega)
    (fun _ _ z => z)
    (fun h' u tk kept => ⟨.str d.shown, H, I.kept kept, ⟨u, rfl⟩, q⟩) sz
end
/-! ### the law's end, by such a promise -/
/-- All that the top has left stands beside what is tracked, where nothing that is tracked is of the written part or a dict. -/
theorem begin_env {P : Program} {w : World} {K : PySem.W.Frag} {mg mb : Str → Option Value} {z : Shared} {H : Hp}
    (wr : K.In z.heap) (gl : z.heap.Ns mainGlobals mg) (bl : z.heap.Ns builtinsNs mb)
    (boot : ∀ x : Str, x ≠ "__name__" → mb x = bootBuiltins x) (lim : z.heap.NoLimit) (gens : z.gens = #[])
    (ok : HOk P w H z.heap)
    (apart : ∀ b, H b ≠ none → K.lookup b = none ∧ ∀ o es ep, z.heap.get? b = some o → o.data ≠ .dict es ep) :
    Env0 P w K mg (hidT z.heap H) callerA [] z H := by
  have seen : ∀ b o, z.heap.get? b = some o → (K.lookup b ≠ none ∨ ∃ es ep, o.data = .dict es ep) →
      (hidT z.heap H).get? b = some o := by
    intro b o e why
    by_cases tr : H b = none
    · exact hidT_get e tr
    · obtain ⟨n1, n2⟩ := apart b tr
      rcases why with y | ⟨es, ep, y⟩
      · exact absurd n1 y
      · exact absurd y (n2 o es ep e)
  have table : ∀ {b : Addr} {m : Str → Option Value}, z.heap.Ns b m → (hidT z.heap H).Ns b m := by
    rintro b m ⟨o, es, ep, e, rest⟩
    exact ⟨o, es, ep, seen b o e (.inr ⟨es, ep, rest.1⟩), rest⟩
  have written : K.In (hidT z.heap H) := fun b o l => seen b o (wr b o l) (.inl fun n => by rw [n] at l; cases l)
  obtain ⟨ml, l1, l2⟩ := lim
  exact { frames := rfl, mod := ⟨written, table gl, ⟨mb, table bl, boot⟩, ml, table l1, l2⟩
          bs := fun _ _ e => of_hidT e, bsz := Nat.le_of_eq (hidT_size _ _), funs := trivial
          frf := fun _ m => (nomatch m), hok := ok, bare := .of_eq gens }
/-- What is tracked at the start is locked, so all stands at the end as it stood. -/
theorem end_old {P : Program} {w : World} {H H' : Hp} {h h' : Heap} (lock : ∀ b u, H b = some u → ∃ o v, u = .frz o v)
    (ok : HOk P w H h) (ok' : HOk P w H' h') (un : Un (frs []) [] H H' h h') : OldK h h' := by
  refine OldK.of_keep fun b o e => ?_
  match tr : H b with
  | none => exact un.keep b o e tr (fun m => nomatch m) (fun m => nomatch m)
  | some u =>
    obtain ⟨ob, v, rfl⟩ := lock b u tr
    have was := (ok b _ tr).1
    have is := (ok' b _ (un.frzs b ob v tr)).1
    exact is.trans (was.symm.trans e)
/-- The script's list at a: one of the written part, or tracked and locked. -/
theorem script_at {P : Program} {w : World} {K : PySem.W.Frag} {h : Heap} {a : Addr} {vs : List Value} {ns : List Int}
    (wr : K.In h) (ha : h.get? a = some { cls := .type "list", data := .seq vs.toArray }) (hi : IntsAre vs ns)
    (hl : ns.length ≤ sizeLine) :
    ∃ H : Hp, SqL K H a (ns.map V.int) ∧ HOk P w H h ∧
      ∀ b u, H b = some u → b = a ∧ K.lookup a = none ∧ u = .frz { cls := .type "list", data := .seq vs.toArray } (.lst (ns.map V.int)) := by
  have rel := vals_ints hi
  cases lk : K.lookup a with
  | some o =>
    have same := (wr a o lk).symm.trans ha
    cases same
    exact ⟨fun _ => none, .inr ⟨_, vs.toArray, _, lk, rfl, rfl, rfl, by simpa [hi.length] using hl, by simpa using rel⟩,
      fun _ _ n => (nomatch n), fun _ _ n => (nomatch n)⟩
  | none =>
    have only : ∀ b u, (if b = a then some (HO.frz { cls := .type "list", data := .seq vs.toArray } (.lst (ns.map V.int))) else none) = some u →
        b = a ∧ u = .frz { cls := .type "list", data := .seq vs.toArray } (.lst (ns.map V.int)) := by
      intro b u e
      split at e
      · next q => exact ⟨q, (Option.some.inj e).symm⟩
      · cases e
    refine ⟨fun b => if b = a then some (.frz { cls := .type "list", data := .seq vs.toArray } (.lst (ns.map V.int))) else none,
      .inl (.inr ⟨_, if_pos rfl⟩), fun b u e => ?_, fun b u e => ⟨(only b u e).1, rfl, (only b u e).2⟩⟩
    obtain ⟨rfl, rfl⟩ := only b u e
    exact ⟨ha, by simpa using hl, vs, _, rel, ha⟩
theorem law_callG {P : Program} {w : World} {K : PySem.W.Frag} {mg mb : Str → Option Value} {CX : CXT} {k : Nat} {fa a : Addr}
    {fd : FuncData} {x : Str} {sp : Sp} {z : Shared} {vs : List Value} {ns : List Int} (wr : K.In z.heap)
    (gl : z.heap.Ns mainGlobals mg) (bl : z.heap.Ns builtinsNs mb) (boot : ∀ x : Str, x ≠ "__name__" → mb x = bootBuiltins x)
    (lim : z.heap.NoLimit) (gens : z.gens = #[])
    (ha : z.heap.get? a = some { cls := .type "list", data := .seq vs.toArray }) (hi : IntsAre vs ns) (hl : ns.length ≤ sizeLine)
    (rm : Room k callerA)
    (F : ∀ base : Heap, K.In base → base.Ns mainGlobals mg → FnG P w K mg base CX k fa fd [x] sp)
    (bn : ∀ (s : Shared) (u : Value), BindsTo s fd ⟨[u], []⟩ [(x, u)])
    (want : ∀ H : Hp, SqL K H a (ns.map V.int) → sp [.ref a] H (fun v _ => v = .bl true) fun _ _ _ => False)
    (noX : ∀ H e s', CX [] H z (fun _ _ _ => False) e s' → False) :
    codeAny (model P w) callerA (.call (.ref fa) ⟨[.ref a], []⟩)
      (fun r s' => r = .ok (.ret (.bool true)) ∧ OldK z.heap s'.heap ∧ s'.os = z.os ∧ AllBare s'.gens) z := by
  obtain ⟨H, list, ok, only⟩ := script_at (P := P) (w := w) wr ha hi hl
  have env := begin_env wr gl bl boot lim gens ok fun b tr => by
    obtain ⟨u, e⟩ := Option.ne_none_iff_exists'.mp tr
    obtain ⟨rfl, n, _⟩ := only b u e
    exact ⟨n, fun o es ep q y => by rw [ha] at q; cases q; cases y⟩
  have call := (F _ env.mod.kin env.mod.glob).go callerA [] z H ⟨[.ref a], []⟩ [.ref a] [.ref a] (fun v _ => v = .bl true)
    (fun _ _ _ => False) rfl rm env (bn z (.ref a)) (.cons rfl .nil) (want H list)
  refine codeAny_mono call ?_
  rintro (e | fl) s' got
  · exact (noX H e s' got).elim
  · cases fl with
    | ret u =>
      obtain ⟨v, H', os, bare, un, ok', rel, rfl⟩ := got
      cases (show u = Value.bool true from rel)
      exact ⟨rfl, end_old (fun b u e => ⟨_, _, (only b u e).2.2⟩) ok ok' un, os, bare⟩
    | _ => exact got.elim
theorem walk_ofG {l : PySem.W.OpenLaw} {n k : Nat} {q : Program} {loose : List Str} {XP : (Str → Option Value) → Heap → Prop}
    {YP : World → Heap → Prop} {d : DefRec} {K : Params → PySem.W.Frag} {sp : PySem.W.Frag → Sp} {x : Str} (hn : l.most = some n)
    (hn2 : n ≤ sizeLine) (hdf : d.params.defaults = []) (rm : Room k callerA)
    (left : ∀ (w : World) (h : Heap), YP w h → (K w.params).In h)
    (F : ∀ (w : World) (mg : Str → Option Value) (fa : Addr) (h : Heap),
      (K w.params).In h → h.Ns mainGlobals mg → mg d.name = some (.ref fa) →
      ∃ fd : FuncData, (∀ (s : Shared) (u : Value), BindsTo s fd ⟨[u], []⟩ [(x, u)]) ∧
        ∀ base : Heap, (K w.params).In base → base.Ns mainGlobals mg →
          FnG l.prog w (K w.params) mg base CX0 k fa fd [x] (sp (K w.params)))
    (want : ∀ (K : PySem.W.Frag) (H : Hp) (a : Addr) (ns : List Int), ns.length ≤ n → SqL K H a (ns.map V.int) →
      sp K [.ref a] H (fun v _ => v = .bl true) fun _ _ _ => False) :
    PySem.W.WalkO q loose XP YP l.row.toRowW d [] (fun f vs => PySem.call f vs) :=
  Att.attach_call hn hdf fun w _ _ mg _ fa _ _ _ _ a _ ns G Y _ _ _ at_f at_a are short gens =>
    let wr := left w _ Y
    let ⟨_, bn, all⟩ := F w mg fa _ wr G.T.g at_f
    law_callG wr G.T.g G.T.b G.T.builtins G.T.nolimit gens at_a are (Nat.le_trans short hn2) rm all bn
      (fun H list => want (K w.params) H a ns short list) fun _ _ _ no => no
end Hee


set_option Elab.async false
set_option linter.all false
set_option maxRecDepth 100000
namespace Hee
open PySem PySem.Spec PyProof.Rows L2
/-! ### y = {..} -/
section
variable {X : Cx}
theorem ps_setDc {i : Nat} {y : Str} {py : Pos} {kx vx tg iter : Expr}
    {ifs : List Expr} {scope : Scope} {own : List (Str × Nat)}
    {pos spos : Pos} {wi : TI} {g : TG} {tt : TT} {tk tv : TE}
    (hc : X.calm = true) (hN : X.N.Nodup) (hy : X.N[i]? = some y)
    (hyl : X.env.scope.names.lookup y = some .local)
    (hsw : swapsWith (.DictComp kx vx [⟨tg, iter, ifs, 0⟩] scope pos)
      (some (.Name y py)) spos.line X.env = pure true)
    (hi : PI X tg iter wi) (ok : BlkOk X.N X.env.scope scope own)
    (hg : ∀ (s : Shared) (H : Hp) (C : Addr) (cl : List (Str × Addr))
      (fp : List Addr),
      PG (X.blk s H scope (compEnvC scope cl C X.env) fp) tg g)
    (ht : ∀ (s : Shared) (H : Hp) (C : Addr) (cl : List (Str × Addr))
      (fp : List Addr),
      PTs (X.blk s H scope (compEnvC scope cl C X.env) fp) ifs tt)
    (hk : ∀ (s : Shared) (H : Hp) (C : Addr) (cl : List (Str × Addr))
      (fp : List Addr),
      PE (X.blk s H scope (compEnvC scope cl C X.env) fp) kx tk)
    (he : ∀ (s : Shared) (H : Hp) (C : Addr) (cl : List (Str × Addr))
      (fp : List Addr),
      PE (X.blk s H scope (compEnvC scope cl C X.env) fp) vx tv)
    (hs : ∀ x, foldedSetIterable iter X.env x = pure x := by intro _; rfl) :
    PS X (.Assign [.Name y py]
        (.DictComp kx vx [⟨tg, iter, ifs, 0⟩] scope pos) spos)
      (tAsg (tDc wi g tt tk tv (own.map (·.2))) (gName i)) := by
  constructor
  intro pins s σ H D I want
  -- the dict's own frame is left only when the name holds it
  have stored : ∀ (L C : Addr) (s' : Shared) (m : Str → Option Value) (H' : Hp), Inv X pins σ H' s' →
      gName i (.ref L) σ H' D.nx → s'.heap.Ns C m → FpOk X pins H' C →
      compPost (model X.prog X.w) X.A X.xe (some (assign (.Name y py) X.env)) (fun _ s' => SP X pins D .next s')
        (.ref L) C (.ok .next) s' := by
    intro L C s' m H' I' q ns away
    have put := store_ok2 (M := model X.prog X.w) (A := X.A) (E := X.xe) (v := V.ref L) (u := .ref L)
      (Q := fun _ s2 => ∃ m, s2.heap.Ns C m ∧ ∀ h3, Heap.SameBut C s2.heap h3 → SP X pins D .next { s2 with heap := h3 })
      I' hN hy (.inl hyl) rfl (fun s2 I2 ⟨a, sb, ha⟩ => by
        have ne : C ≠ a := by
          rintro rfl
          exact ha.elim (fun z => away.2.1 z) fun z => away.2.2.2.2.1 y C z rfl
        refine ⟨m, ns.sameBut sb ne, fun h3 s3 => ⟨_, H', ?_, q⟩⟩
        exact I2.turned (t' := s2.toks) (it := C) (fun b o hb e => (s3.2 b hb).trans e) away.1 away.2.1 away.2.2.2.1
          away.2.2.2.2.1 away.2.2.2.2.2) (.inr hyl)
    exact wpAny_assign_Name put
  have all := dc_core (pos := pos) (pos' := firstIterPos [⟨tg, iter, ifs, 0⟩] pos)
    (use := some (assign (.Name y py) X.env)) (Qf := fun _ s' => SP X pins D .next s') hc hN I hi ok hg ht hk he hs want stored
  rw [exec_Assign_Name_used _ _ _ _ hsw]
  exact wpAny_bind (wpAny_standAt (wpAny_bind (wpAny_bind (thn all fun _ _ q => wpAny_pure (wpAny_pure q)))))
end
/-! ### what the iterator over a dict's keys draws -/
section
variable {prog : Program} {w : World} {A : Around} {E : Value → Shared → Prop} {s : Shared}
set_option maxHeartbeats 2000000 in
/-- no key is left -/
theorem key_out {it d : Addr} {i n ep : Nat} {od : Obj} {es : Array DictEntry} {Q : Value → Shared → Prop}
    (hh : A.handled = none) (hit : s.heap.IsKeyIter it d i n ep) (hod : s.heap.get? d = some od)
    (hdd : od.data = .dict es ep) (hsz : es.size = n) (hge : n ≤ i)
    (out : ∀ h' e, Heap.ExtBut it s.heap h' → (∃ o, h'.get? e = some o ∧ o.cls = .type "StopIteration") →
      E (.ref e) { s with heap := h' }) :
    wpAny (model prog w) A (Builtin.SmallTypes.nextOf (.ref it)) Q E s := by
  have ty := hit.typeIs
  obtain ⟨⟨c, dc, dt, sl⟩, ho, hc, hd⟩ := hit
  obtain ⟨c2, dc2, dt2, sl2⟩ := od
  simp only at hc hd hdd
  subst hc hd hdd
  have calm1 : A.in1.handled = none := hh
  have nm : ∀ {Q : String → Shared → Prop} {A : Around} {E : Value → Shared → Prop}, Q "dict_keyiterator" s →
      wpAny (model prog w) A (typeNameOfWhole (.ref it)) Q E s := fun q => wpAny_typeNameOfWhole_keyiter ty q
  have none1 : (if ((i : Nat) : Int) < 0 then none else es[((i : Nat) : Int).toNat]?) = none := by
    rw [if_neg (by omega), Int.toNat_natCast]; exact Array.getElem?_eq_none (by omega)
  refine wpAny_bind (wpAny_callSpecial?_slot (name := Str.ofString "__next__") ty F.slot_dict_keyiterator_next
    (wpAny_call_entry F.slot_dict_keyiterator_next ty F.entry_dict_keyiterator_next ?_ (F.args_dict_keyiterator_next_1 _)))
  unfold Builtin.«dict_keyiterator.__next__»
  wp_walk using nm
  rw [none1]
  wp_walk using nm
  unfold raiseNew
  wp_walk using nm
  exact out _ _ (((Heap.SameBut.update ..).extBut.push _).push _) ⟨_, Heap.get?_push_size _ rfl, rfl⟩
/-- the keys, one after another -/
theorem draws_keys {K : Type} [DecidableEq K] {knd : KeyKind prog w K} (hh : A.handled = none) (it d : Addr) (hne : d ≠ it)
    (kvs : List (K × Value)) (ep : Nat) :
    Draws prog w A it [it, d] kvs.length (fun i v => ∃ k x, kvs[i]? = some (k, x) ∧ knd.is k v = true)
      (fun i h => h.IsKeyIter it d i kvs.length ep ∧ h.DictAt knd d kvs ep) where
  live _ _ st := st.1.imp fun _ q => q.1
  frame _ _ _ st hk := by
    obtain ⟨⟨o, ho, r⟩, od, es, hd, r2⟩ := st
    exact ⟨⟨o, hk it (by simp) o ho, r⟩, od, es, hk d (by simp) od hd, r2⟩
  item i s Q E hi st go := by
    have here : kvs[i]? = some (kvs[i].1, kvs[i].2) := List.getElem?_eq_getElem hi
    exact wpAny_bind (PySem.W.kdk_special st.1 st.2 here fun key h' is it' sb => wpAny_pure
      (go key h' s.toks ⟨_, _, here, is⟩ ⟨it', st.2.extBut sb.extBut hne⟩ sb))
  done s Q E st out := by
    obtain ⟨od, es, ho, _, hd, _, hp, _⟩ := id st.2
    exact key_out hh st.1 ho hd (by rw [← hp.length]; simp) (Nat.le_refl _) out
theorem any_truth {b : Bool} {Q : Bool → Shared → Prop} (h : ∀ b, Q b s) : wpAny (model prog w) A (pure b) Q E s := wpAny_pure (h b)
abbrev enO (it : Addr) : Obj := { cls := .type "enumerate", data := .fields #[.none, .bool false, .ref it, rawInt 0, .none, .none] }
/-- enumerate(v), by v's iterator o: its two new objects -/
theorem enum_one {v : Value} {o : Obj} {Q : Value → Shared → Prop} (free : o.isFreed = false)
    (it : ∀ {A : Around} {E : Value → Shared → Prop} {Q : Value → Shared → Prop},
      Q (.ref s.heap.objs.size) { s with heap := s.heap.push o } → wpAny (model prog w) A (pyIter v) Q E s)
    (go : ∀ h', IsEnum h' (s.heap.objs.size + 1) s.heap.objs.size 0 .none → h'.get? s.heap.objs.size = some o →
      (∀ b u, s.heap.get? b = some u → h'.get? b = some u) → Q (.ref (s.heap.objs.size + 1)) { s with heap := h' }) :
    wpAny (model prog w) A (call (.type "enumerate") [v]) Q E s := by
  have made : MeetsIn prog w (Builtin.«enumerate.__new__» ⟨[.type "enumerate", v], []⟩) (fun _ R s' => s' = s ∧
      R (.ok (.ret (.ref (s.heap.push o).objs.size))) { s with heap := (s.heap.push o).push (enO s.heap.objs.size) }) := by
    refine .of_wp fun A R s' ⟨e, q⟩ => ?_
    subst e
    have sub := sub_enumerate
    wp_walk using it
    -- whether it was called through its type does not matter for one argument
    refine wpAny_stack_any fun st => any_truth fun b => ?_
    cases b <;> (wp_walk using it; exact ⟨_, rfl, q⟩)
  refine callType_newIn F.called_enumerate (by decide) (F.typeCall_enumerate_1 _) (F.newCall_enumerate_1 _)
    (fun obj => F.args_object_init_2 obj _) F.entry_enumerate_new made ⟨rfl, ?_⟩
  have two : (s.heap.push o).objs.size = s.heap.objs.size + 1 := Heap.size_push ..
  have at2 : IsEnum ((s.heap.push o).push (enO s.heap.objs.size)) (s.heap.objs.size + 1) s.heap.objs.size 0 .none :=
    two ▸ Heap.get?_push_size (s.heap.push o) rfl
  refine ⟨⟨_, Heap.get?_push_size _ rfl, rfl⟩, ?_⟩
  rw [two]
  exact go _ at2 (Heap.get?_push_of_some _ (Heap.get?_push_size _ free)) fun b u q =>
    Heap.get?_push_of_some _ (Heap.get?_push_of_some _ q)
end
/-! ### enumerate over what an iterator draws -/
theorem turn_pairs {P : Program} {w : World} {K : PySem.W.Frag} {elts : List Expr} {kk : Nat} {tpos : Pos} (e it : Addr)
    {go stop : Nat → Hp → Prop} {item : Nat → Hp → V → Prop} {st : Nat → Heap → Prop}
    (live : ∀ i h, st i h → ∃ o, h.get? it = some o ∧ ∀ v, o.data ≠ .cell v)
    (keep : ∀ i h h', st i h → (∀ o, h.get? it = some o → h'.get? it = some o) → st i h')
    (src : ∀ X : Cx, X.prog = P → X.w = w → X.K = K → X.calm = true → ∀ (i : Nat) (pins : List (Addr × Obj)) (s : Shared)
      (σ : L2.St) (H : Hp), Inv X pins σ H s → st i s.heap → (∃ old, IsEnum s.heap e it i old) → (go i H ∨ stop i H) →
      ∃ (fp : List Addr) (n : Nat) (Pv : Nat → Value → Prop) (S : Nat → Heap → Prop), Draws P w X.A.in1 it fp n Pv S ∧ it ∈ fp ∧
        e ∉ fp ∧ S i s.heap ∧ (go i H → i < n) ∧ (stop i H → i = n) ∧ (∀ u, Pv i u → ∃ v, RelV v u ∧ item i H v) ∧
        ∀ h', S (i + 1) h' → st (i + 1) h') :
    Turn P w K (.Tuple elts kk tpos) ⟨go, fun i H v H' => ∃ T x, v = .ref T ∧ H T = none ∧
        H' = upd H T (.tup [.int (i : Nat), x]) ∧ item i H x, stop⟩ [e, it] e
      (fun i h => (∃ old, IsEnum h e it ((i : Nat) : Int) old) ∧ st i h) := by
  have both : ∀ {b : Addr}, b ∈ [e, it] → b = e ∨ b = it := by intro b q; simpa using q
  have there : ∀ {i : Nat} {h : Heap}, (∃ old, IsEnum h e it ((i : Nat) : Int) old) ∧ st i h → ∀ b ∈ [e, it],
      ∃ o, h.get? b = some o ∧ ∀ v, o.data ≠ .cell v := by
    rintro i h ⟨⟨old, he⟩, q⟩ b m
    rcases both m with rfl | rfl
    · exact ⟨_, he, fun v y => by cases y⟩
    · exact live i h q
  refine { mem := by simp, obj := fun i h q => there q, keep := ?_, item := ?_, done := ?_, self := ?_ }
  · rintro i h h' ⟨⟨old, he⟩, q⟩ k
    exact ⟨⟨old, k e (by simp) _ he⟩, keep i h h' q (k it (by simp))⟩
  · rintro X rfl rfl rfl hc i pins s σ H E I hf q hg
    obtain ⟨fp, n, Pv, S, D, mi, ef, hS, lt, _, is, nx⟩ := src X rfl rfl rfl hc i pins s σ H I q.2 q.1 (.inl hg)
    have G := GoesN.enumFrom (elts := elts) (x1 := kk) (pos := tpos) 0 D e (fun y => ef (y ▸ mi)) ef mi
    refine G.goes i s (fun u s2 => ∃ x H', Inv X pins σ H' s2 ∧ RelV x u ∧ _ ∧ _ ∧ ∀ b ∈ [e, it], H' b = none) E (lt hg)
      ⟨by simpa using q.1, hS⟩ ?_
    rintro v h' tk ⟨T, t, u, rfl, new, hP, tup⟩ ⟨en, hS'⟩ kept _
    obtain ⟨x, rel, hx⟩ := is u hP
    have ok : ObjOk X.prog X.w (upd H T (.tup [.int (i : Nat), x])) h' T (.tup [.int (i : Nat), x]) :=
      ⟨by show 2 ≤ sizeLine; decide, [.int (0 + (i : Int)) t, u], .cons ⟨t, by simp⟩ (.cons rel .nil), tup⟩
    refine ⟨.ref T, _, I.turnedNew kept hf new ok, rfl, ⟨T, x, rfl, I.hok.fresh new, rfl, hx⟩,
      ⟨by simpa using en, nx h' hS'⟩, fun b m => ?_⟩
    obtain ⟨o, ho, _⟩ := there q b m
    exact (upd_ne (Nat.ne_of_lt (Nat.lt_of_lt_of_le (Heap.lt_size ho) new))).trans (hf b m).1
  · rintro X rfl rfl rfl hc i pins s σ H E I hf q hg
    obtain ⟨fp, n, Pv, S, D, mi, ef, hS, _, eq, _, _⟩ := src X rfl rfl rfl hc i pins s σ H I q.2 q.1 (.inr hg)
    obtain rfl := eq hg
    obtain ⟨old, he⟩ := q.1
    have away := hf it (by simp)
    exact wpAny_pyNext_enum_endD D he hS fun h' eb => ⟨rfl, I.turned (t' := s.toks) (it := it) eb away.1 away.2.1
      away.2.2.2.1 away.2.2.2.2.1 away.2.2.2.2.2⟩
  · rintro A i s Q E ⟨⟨old, he⟩, _⟩ q
    exact wpAny_pyIter_enum he q
/-- two new addresses are nobody's -/
theorem two_new {X : Cx} {pins : List (Addr × Obj)} {σ : L2.St} {H : Hp} {s : Shared} (I : Inv X pins σ H s) :
    ∀ b ∈ [s.heap.objs.size + 1, s.heap.objs.size], FpOk X pins H b := by
  intro b m
  have le : s.heap.objs.size ≤ b := by
    simp only [List.mem_cons, List.not_mem_nil, or_false] at m
    omega
  exact I.fpOk le (I.hok.fresh le)
theorem class_ne {h : Heap} {a b : Addr} {oa ob : Obj} {ca cb : String} (ha : h.get? a = some oa) (hb : h.get? b = some ob)
    (ea : oa.cls = .type ca) (eb : ob.cls = .type cb) (ne : ca ≠ cb) : a ≠ b := by
  rintro rfl
  cases ha.symm.trans hb
  exact ne (Value.type.inj (ea.symm.trans eb))
/-- enumerate(t), t a tuple that stands still -/
def Iet (K : PySem.W.Frag) (a : Addr) : It :=
  ⟨fun i H => ∃ (xs : List V) (x : V), SqT K H a xs ∧ xs[i]? = some x,
    fun i H v H' => ∃ T x, v = .ref T ∧ H T = none ∧
      H' = upd H T (.tup [.int (i : Nat), x]) ∧
      ∀ xs, SqT K H a xs → xs[i]? = some x,
    fun i H => ∃ xs : List V, SqT K H a xs ∧ xs.length = i⟩
theorem turn_enumT {P : Program} {w : World} {K : PySem.W.Frag} {elts : List Expr} {kk : Nat} {tpos : Pos} (a e it : Addr) :
    Turn P w K (.Tuple elts kk tpos) (Iet K a) [e, it] e
      (fun i h => (∃ old, IsEnum h e it ((i : Nat) : Int) old) ∧ h.IsTupleIter it a i) := by
  refine turn_pairs e it (item := fun i H x => ∀ xs, SqT K H a xs → xs[i]? = some x) (fun i h q => ?_) (fun i h h' q k => q.at k) ?_
  · obtain ⟨o, ho, _, hd⟩ := q
    exact ⟨o, ho, fun v y => by rw [hd] at y; cases y⟩
  rintro X rfl rfl rfl hc i pins s σ H I q ⟨old, he⟩ g
  obtain ⟨xs, hq⟩ : ∃ xs, SqT X.K H a xs := g.elim (fun ⟨xs, _, y, _⟩ => ⟨xs, y⟩) fun ⟨xs, y, _⟩ => ⟨xs, y⟩
  have one : ∀ {ys : List V}, SqT X.K H a ys → ys = xs := fun y => I.tuple_inj y hq
  obtain ⟨its, rv, tup, _⟩ := I.tuple hq
  obtain ⟨o1, g1, c1, _⟩ := id q
  obtain ⟨o2, g2, c2, _⟩ := id tup
  refine ⟨[it, a], its.toArray.size, _, _, Draws.tuple (A := X.A.in1) (I.ok.hd hc) it a (class_ne g2 g1 c2 c1 (by decide)) its.toArray, by simp,
    ?_, ⟨q, tup⟩, ?_, ?_, fun u hu => ?_, fun h' y => y.1⟩
  · have n1 : e ≠ it := class_ne he g1 rfl c1 (by decide)
    have n2 : e ≠ a := class_ne he g2 rfl c2 (by decide)
    simp [n1, n2]
  · rintro ⟨ys, x, y, hx⟩
    cases one y
    simpa [← rv.length] using (List.getElem?_eq_some_iff.mp hx).1
  · rintro ⟨ys, y, hx⟩
    cases one y
    simpa [← rv.length] using hx.symm
  · have at_i : its[i]? = some u := by simpa using hu
    have lt : i < xs.length := by rw [rv.length]; exact (List.getElem?_eq_some_iff.mp at_i).1
    obtain ⟨u', e', rel⟩ := rv.get (List.getElem?_eq_getElem lt)
    cases at_i.symm.trans e'
    exact ⟨xs[i], rel, fun ys y => by rw [one y]; exact List.getElem?_eq_getElem lt⟩
def iEnumT (K : PySem.W.Frag) (ta : TA) : TI := fun σ H R =>
  ta σ H fun vs H1 => ∃ a xs, vs = [.ref a] ∧ SqT K H1 a xs ∧ R (Iet K a) H1
theorem pi_enumT {X : Cx} {e : Expr} {ta : TA} {p pos tpos : Pos}
    {elts : List Expr} {kk : Nat} (hg : Gl X "enumerate")
    (hm : X.mg "enumerate" = none) (ha : PA X [e] ta)
    (hs : starEach [e] X.env = [(false, eval e X.env)] := by rfl) :
    PI X (.Tuple elts kk tpos) (.Call (.Name "enumerate" p) [e] [] pos)
      (iEnumT X.K ta) := by
  constructor
  intro pins s σ H R I want
  have args := ha.run pos pins s σ H _ I want
  refine Call_ (ld_blt I hg hm boot_enumerate (PyProof.Rows.callWith_type1 (thn args ?_) hs rfl))
  rintro us s1 ⟨_, H1, I1, rel, a, xs, rfl, hq, q⟩
  cases Vals.ref1 rel
  obtain ⟨its, _, tup, _⟩ := I1.tuple hq
  refine enum_one (o := { cls := .type "tuple_iterator", data := .fields #[.ref a, .int 0 0] }) rfl
    (fun y => wpAny_pyIter_tuple tup y) fun h' he hit kept => wpAny_pyIter_enum he ?_
  exact ⟨_, _, _, Iet X.K a, H1, rfl, I1.kept (t' := s1.toks) kept, turn_enumT a _ s1.heap.objs.size,
    ⟨⟨_, he⟩, _, hit, rfl, rfl⟩, two_new I1, q⟩
/-- enumerate(d), d a locked dict -/
def Ied (d : Addr) (o : Obj) (kvs : List (Key × V)) : It :=
  ⟨fun i H => H d = some (.frz o (.dK kvs)) ∧ i < kvs.length,
    fun i H v H' => ∃ T x, v = .ref T ∧ H T = none ∧
      H' = upd H T (.tup [.int (i : Nat), x]) ∧
      ∃ k v, kvs[i]? = some (k, v) ∧ x = kV k,
    fun i H => H d = some (.frz o (.dK kvs)) ∧ i = kvs.length⟩
theorem turn_enumD {P : Program} {w : World} {K : PySem.W.Frag} {elts : List Expr} {kk : Nat} {tpos : Pos} {d : Addr} {o : Obj}
    {es : Array DictEntry} {ep : Nat} {kvs : List (Key × V)} (e it : Addr) (hod : o.data = .dict es ep) :
    Turn P w K (.Tuple elts kk tpos) (Ied d o kvs) [e, it] e
      (fun i h => (∃ old, IsEnum h e it ((i : Nat) : Int) old) ∧ h.IsKeyIter it d i kvs.length ep) := by
  refine turn_pairs e it (item := fun i H x => ∃ k v, kvs[i]? = some (k, v) ∧ x = kV k) (fun i h q => ?_) (fun i h h' q k => q.at k) ?_
  · obtain ⟨o, ho, _, hd⟩ := q
    exact ⟨o, ho, fun v y => by rw [hd] at y; cases y⟩
  rintro X rfl rfl rfl hc i pins s σ H I q ⟨old, he⟩ g
  have hd : H d = some (.frz o (.dK kvs)) := g.elim (·.1) (·.1)
  obtain ⟨_, at_d, exact_, es', ep', vs, dat, _, kv, hm⟩ := I.frzK hd
  cases hod.symm.trans dat
  have len : kvs.length = vs.length := Paired.length kv
  rw [len] at q
  have dat' : s.heap.DictAt (mixKind X.prog X.w) d vs ep := hm
  obtain ⟨o1, g1, c1, _⟩ := id q
  refine ⟨[it, d], vs.length, _, _, draws_keys (A := X.A.in1) (knd := mixKind X.prog X.w) (I.ok.hd hc) it d (class_ne at_d g1 exact_.1 c1 (by decide)) vs ep, by simp, ?_,
    ⟨q, dat'⟩, fun y => by rw [← len]; exact y.2, fun y => by rw [← len]; exact y.2, ?_, fun h' y => by rw [len]; exact y.1⟩
  · have n1 : e ≠ it := class_ne he g1 rfl c1 (by decide)
    have n2 : e ≠ d := class_ne he at_d rfl exact_.1 (by decide)
    simp [n1, n2]
  · rintro u ⟨k, x, at_i, is⟩
    have lt : i < kvs.length := by rw [len]; exact (List.getElem?_eq_some_iff.mp at_i).1
    obtain ⟨y, hy, _⟩ := kv_get kv (show kvs[i]? = some (kvs[i].1, kvs[i].2) from List.getElem?_eq_getElem lt)
    cases at_i.symm.trans hy
    exact ⟨kV kvs[i].1, relV_key is, _, _, List.getElem?_eq_getElem lt, rfl⟩
def iEnumD (ta : TA) : TI := fun σ H R => ta σ H fun vs H1 =>
  ∃ d o kvs, vs = [.ref d] ∧ H1 d = some (.frz o (.dK kvs)) ∧
    R (Ied d o kvs) H1
theorem pi_enumD {X : Cx} {e : Expr} {ta : TA} {p pos tpos : Pos}
    {elts : List Expr} {kk : Nat} (hg : Gl X "enumerate")
    (hm : X.mg "enumerate" = none) (ha : PA X [e] ta)
    (hs : starEach [e] X.env = [(false, eval e X.env)] := by rfl) :
    PI X (.Tuple elts kk tpos) (.Call (.Name "enumerate" p) [e] [] pos)
      (iEnumD ta) := by
  constructor
  intro pins s σ H R I want
  have args := ha.run pos pins s σ H _ I want
  refine Call_ (ld_blt I hg hm boot_enumerate (PyProof.Rows.callWith_type1 (thn args ?_) hs rfl))
  rintro us s1 ⟨_, H1, I1, rel, d, o, kvs, rfl, hd, q⟩
  cases Vals.ref1 rel
  obtain ⟨low, at_d, exact_, es, ep, vs, dat, _, kv, hm⟩ := I1.frzK hd
  have len : kvs.length = vs.length := Paired.length kv
  have dat' : s1.heap.DictAt (mixKind X.prog X.w) d vs ep := hm
  refine enum_one (o := { cls := .type "dict_keyiterator", data := .fields #[.ref d, .int 0 0, .int vs.length 0, .int ep 0] }) rfl
    (fun y => wpAny_pyIter_dict low dat' y) fun h' he hit kept => wpAny_pyIter_enum he ?_
  exact ⟨_, _, _, Ied d o kvs, H1, rfl, I1.kept (t' := s1.toks) kept, turn_enumD (kvs := kvs) _ s1.heap.objs.size dat,
    ⟨⟨_, he⟩, _, hit, rfl, by rw [len]; rfl⟩, two_new I1, q⟩
theorem walk_enumT {K : PySem.W.Frag} {a : Addr} {xs : List V} :
    Walk (Iet K a) xs.length (fun H => SqT K H a xs)
      (YPair (fun i => some (.int (i : Nat))) (fun i => xs[i]?)) where
  goes i _ lt q := ⟨xs, xs[i], q, by simp [lt]⟩
  stops _ q := ⟨xs, q, rfl⟩
  yields i _ _ _ _ q := fun ⟨T, x, at_T, free, new, is⟩ => ⟨T, _, x, at_T, free, new, rfl, is xs q⟩
theorem walk_enumD {d : Addr} {o : Obj} {kvs : List (Key × V)} :
    Walk (Ied d o kvs) kvs.length (fun H => H d = some (.frz o (.dK kvs)))
      (YPair (fun i => some (.int (i : Nat)))
        (fun i => kvs[i]?.map fun p => kV p.1)) := by
  refine ⟨fun i _ hi q => ⟨q, hi⟩, fun _ q => ⟨q, rfl⟩,
    fun i H v H' _ q y => ?_⟩
  obtain ⟨T, x, h1, h2, h3, k, z, h4, h5⟩ := y
  exact ⟨T, .int (i : Nat), x, h1, h2, h3, rfl, by
    show Option.map (fun p => kV p.1) kvs[i]? = some x
    rw [h4, h5]; rfl⟩
end Hee


set_option Elab.async false
set_option linter.all false
set_option maxRecDepth 100000
namespace Hee
open PySem PySem.Spec PyProof.Rows L2
/-! ### the text by places -/
def top (i : Nat) : Stmt := PySem.Challenge.pw_heelrow_k01_names_of_any_kind.main.body.getD i (.Pass ⟨0, 0, 0, 0⟩)
abbrev sIsName : Stmt := top 10
abbrev sIsPerson : Stmt := top 11
abbrev sChkPers : Stmt := top 12
abbrev sChkWhoms : Stmt := top 13
abbrev sComes : Stmt := top 14
abbrev sInit : Stmt := inClass (top 16) 0
/-! ### what the top has left of names -/
def letS : Str := "abcdefghijklmnopqrstuvwxyz"
structure Tx (mg : Str → Option Value) : Prop where
  len : mg "len" = none
  isi : mg "isinstance" = none
  str : mg "str" = none
  tup : mg "tuple" = none
  all : mg "all" = none
  enu : mg "enumerate" = none
  rng : mg "range" = none
  mL : ∃ t, mg "MOST_LETTERS" = some (.int 6 t)
  mP : ∃ t, mg "MOST_PERSONS" = some (.int 12 t)
  lt : ∃ t, mg "LETTERS" = some (.str letS t)
/-! ### heaps -/
theorem same_upd {H : Hp} {p : Addr} {o : HO} (h : H p = none) :
    Same H (upd H p o) := fun b x e => by
  rw [upd_ne (ne_of_none e h)]
  exact e
theorem Same.tup {K : PySem.W.Frag} {H H' : Hp} {a : Addr} {xs : List V}
    (e : Same H H') (h : SqT K H a xs) : SqT K H' a xs :=
  Or.imp (Or.imp (e _ _) fun ⟨o, q⟩ => ⟨o, e _ _ q⟩) id h
theorem small_le {n : Nat} (h : n ≤ 16777216) : n ≤ sizeLine := by
  rw [sizeLine_eq]; exact h
theorem small_lt {n : Nat} (h : n < 16777216) : n < sizeLine := by
  rw [sizeLine_eq]; exact h
theorem blT {c : Prop} [Decidable c] (h : c) : V.bl (decide c) = V.bl true := by
  rw [decide_eq_true h]
theorem blF {c : Prop} [Decidable c] (h : ¬ c) : V.bl (decide c) = V.bl false := by
  rw [decide_eq_false h]
theorem map_ref {ts : List Addr} {i : Nat} {v : V} (h : (ts.map V.ref)[i]? = some v) : ∃ t, ts[i]? = some t ∧ v = .ref t := by
  rw [List.getElem?_map] at h
  cases e : ts[i]? with
  | none => rw [e] at h; cases h
  | some t => rw [e] at h; exact ⟨t, rfl, (Option.some.inj h).symm⟩
/-! ### names -/
def nameB (z : Str) : Bool := decide (1 ≤ z.length) && decide (z.length ≤ 6)
  && z.cps.toList.all (fun c => decide (c ∈ letS.cps.toList))
def nameV : V → Bool
  | .str z => nameB z
  | _ => false
/-- a thing of which isinstance(.., str) is known -/
def KindOk (K : PySem.W.Frag) (H : Hp) (v : V) : Prop :=
  (∃ z, v = .str z ∧ z.length ≤ sizeLine) ∨
  ((∀ z, v ≠ .str z) ∧ ∃ t, TyX K H v t ∧
    PySem.W.kitOne K t (.type "str") = some false)
theorem nameV_no {v : V} (h : ∀ z, v ≠ .str z) : nameV v = false := by
  cases v <;> first | rfl | exact absurd rfl (h _)
section
variable {P : Program} {w : World} {K : PySem.W.Frag}
  {mg : Str → Option Value} {base : Heap}
def spIsName (K : PySem.W.Frag) : Sp := fun vs H Q _ => ∃ v, vs = [v] ∧
  KindOk K H v ∧ ∀ H', Same H H' → Q (.bl (nameV v)) H'
theorem scN : FnScope ["thing", "letter"] ["thing"] (defScope sIsName) :=
  ⟨rfl, rfl, rfl, by decide +kernel, rfl, by decide +kernel, by decide +kernel⟩
theorem ok_isName {f : Addr} {fd : FuncData}
    (F : Fun K "is_name" "is_name" sIsName f fd) (T : Tx mg) :
    FnOk P w K mg base CX0 1 f fd ["thing"] (spIsName K) := by
  refine F.ok scN (fun vs H Q E h => ?_) (fun cdv A outer s H vs Q E hr h => ?_)
  · obtain ⟨v, rfl, _⟩ := h
    rfl
  · obtain ⟨v, rfl, hk, q⟩ := h
    obtain ⟨tL, mL⟩ := T.mL
    obtain ⟨tl, ml⟩ := T.lt
    refine ⟨_, pss_cons (ps_if (PW.pt (pw_or (pt_not (pt_val (pe_callB call_isi
        (by rfl) T.isi boot_isinstance (pa_cons (pv 0) (pa_cons
          (pe_bltn (v := .ty "str") (by rfl) T.str PyProof.Rows.boot_str rfl) pa_nil)))))
        (pw_or1 (pt_not (pt_chain op_le op_le pe_int (pe_callB call_len_str
          (by rfl) T.len PySem.boot_len (pa_cons (pv 0) pa_nil))
          (pe_glob (v := .int 6) (by rfl) mL ⟨_, rfl⟩))))))
        (pss_one (ps_ret pe_bl)) pss_nil)
      (pss_one (ps_ret (pe_callB (cr_all rfl) (by rfl) T.all
        PyProof.Rows.boot_all (pa_cons (pe_lc (own := [("letter", 1)]) (g := gName 1)
          (tt := tYes) rfl scN.nd (pi_str (pv 0))
          (blkOk_by (N := ["thing", "letter"]) (sc := defScope sIsName) (by decide +kernel))
          (fun _ _ _ _ _ => pg_name (i := 1) scN.nd rfl (Or.inl rfl))
          (fun _ _ _ _ _ => pts_nil)
          (fun _ _ _ _ _ => pe_cmpR op_in_sign (pv 1) (pe_glob (v := .str letS) (by rfl) ml ⟨_, rfl⟩) (by rfl)))
          pa_nil)))), ?_⟩
    rcases hk with ⟨z, rfl, hz⟩ | ⟨hn, t, ty, kt⟩
    · refine ⟨.str z, rfl, .str z, .ty "str", .type "str", .type "str", true, rfl, .ty "str", .base (.str z), kit_ty (by decide +kernel), true, rfl, ?_⟩
      refine iteF ?_
      have no : nameB z = false → Q (.bl false) H := fun e => by
        have := q H (Same.refl H)
        rw [show nameV (.str z) = nameB z from rfl, e] at this
        exact this
      refine ⟨.str z, rfl, z, rfl, hz, 1, z.length, rfl, rfl, _, rfl, ?_⟩
      refine ite2 (fun h1 => ?_) (fun h1 => ?_)
      · refine ⟨z.length, 6, rfl, rfl, _, rfl, ?_⟩
        have h1' : (1 : Int) ≤ z.length := of_decide_eq_true h1
        by_cases h6 : (z.length : Int) ≤ 6
        · rw [decide_eq_true h6]
          refine iteF ?_
          refine ⟨.str z, rfl, z, rfl, fun D hD => ?_⟩
          refine lc_it walk_str (fun i H1 => Same H H1 ∧ H1 D = some (.lst
            ((z.cps.toList.take i).map fun c => V.bl (decide (c ∈ letS.cps.toList)))))
            ⟨same_upd hD, upd_same⟩ (fun _ _ _ _ => trivial) ?_ ?_
          · rintro i x H1 H2 hi ⟨sm, hd⟩ ⟨rfl, c, hc, rfl⟩
            refine ⟨rfl, ?_⟩
            refine ⟨_, rfl, c, letS, rfl, rfl, _, hd, ?_, ?_, ?_⟩
            · rw [List.length_map, List.length_take]
              exact Nat.lt_of_le_of_lt (Nat.min_le_left _ _) (small_lt (by have : z.cps.size = z.length := rfl; omega))
            · intro b o e
              rw [upd_ne (ne_of_none e hD)]
              exact sm b o e
            · rw [upd_same, List.take_add_one, show z.cps.toList[i]? = some c by simpa using hc, List.map_append]
              rfl
          · rintro H1 ⟨sm, hd⟩
            refine ⟨D, z.cps.toList.map fun c => decide (c ∈ letS.cps.toList), rfl, .inl (.inl ?_), ?_⟩
            · rw [hd, List.take_of_length_le (by simp), List.map_map]
              rfl
            · have h := q H1 sm
              have e : nameV (.str z) = (z.cps.toList.map fun c => decide (c ∈ letS.cps.toList)).all id := by
                show nameB z = _
                unfold nameB
                rw [decide_eq_true (show 1 ≤ z.length by omega), decide_eq_true (show z.length ≤ 6 by omega), List.all_map]
                rfl
              rw [e] at h
              exact h
        · rw [decide_eq_false h6]
          refine iteT (no ?_)
          unfold nameB
          rw [decide_eq_false (show ¬ z.length ≤ 6 by omega)]
          simp
      · refine ⟨_, rfl, iteT (no ?_)⟩
        have h1' : ¬ (1 : Int) ≤ z.length := fun y => h1 (decide_eq_true y)
        unfold nameB
        rw [decide_eq_false (show ¬ 1 ≤ z.length by omega)]
        rfl
    · refine ⟨v, rfl, v, .ty "str", t, .type "str", false, rfl, .ty "str", ty, kt, false, rfl, ?_⟩
      refine iteT (iteT ?_)
      have := q H (Same.refl H)
      rw [nameV_no hn] at this
      exact this
/-! ### persons -/
def optV : Option Str → V
  | none => .non
  | some w => .str w
def optOk (w : Option Str) : Prop := ∀ x, w = some x → nameB x = true
theorem tyx_tup {K : PySem.W.Frag} {H : Hp} {a : Addr} {xs : List V}
    (h : SqT K H a xs) : TyX K H (.ref a) (.type "tuple") := by
  rcases h with (h | ⟨o, h⟩) | ⟨o, its, n, h, hc, _⟩
  · exact .base (.tup h)
  · exact .fTuple h
  · exact .kTuple h hc
theorem name_len {z : Str} (h : nameB z = true) : 1 ≤ z.length ∧ z.length ≤ 6 := by
  unfold nameB at h
  simp only [Bool.and_eq_true, decide_eq_true_eq] at h
  exact h.1
theorem kind_name {K : PySem.W.Frag} {H : Hp} {z : Str} (h : nameB z = true) : KindOk K H (.str z) :=
  .inl ⟨z, rfl, small_le (by have := name_len h; omega)⟩
def spIsPerson (K : PySem.W.Frag) : Sp := fun vs H Q _ => ∃ (t : Addr) (n : Str) (w : Option Str), vs = [.ref t] ∧
  SqT K H t [.str n, optV w] ∧ nameB n = true ∧ optOk w ∧ ∀ H', Same H H' → Q (.bl true) H'
theorem scPn : FnScope ["thing", "name", "whom"] ["thing"] (defScope sIsPerson) :=
  ⟨rfl, rfl, rfl, by decide +kernel, rfl, by decide +kernel, by decide +kernel⟩
theorem ok_isPerson {f fN : Addr} {fd fdN : FuncData}
    (F : Fun K "is_person" "is_person" sIsPerson f fd) (T : Tx mg)
    (FN : Fun K "is_name" "is_name" sIsName fN fdN) (bN : Binds K fdN ["thing"] []) (gN : mg "is_name" = some (.ref fN)) :
    FnOk P w K mg base CX0 2 f fd ["thing"] (spIsPerson K) := by
  have GN : FnOk P w K mg base CX0 1 fN fdN ["thing"] (spIsName K) := ok_isName FN T
  refine F.ok scPn (fun vs H Q E h => ?_) (fun cdv A outer s H vs Q E hr h => ?_)
  · obtain ⟨t, n, w, rfl, _⟩ := h
    rfl
  · obtain ⟨t, n, wh, rfl, hs, hn, hw, q⟩ := h
    refine ⟨_, pss_cons (ps_if (PW.pt (pw_or (pt_not (pt_val (pe_callB call_isi
        (by rfl) T.isi boot_isinstance (pa_cons (pv 0) (pa_cons
          (pe_bltn (v := .ty "tuple") (by rfl) T.tup PyProof.Rows.boot_tuple rfl) pa_nil)))))
        (pw_or1 (pt_cmpR op_ne (pe_callB call_len_seq (by rfl) T.len PySem.boot_len (pa_cons (pv 0) pa_nil)) pe_int (nomark _)))))
        (pss_one (ps_ret pe_bl)) pss_nil)
      (pss_cons (ps_asg (pv 0) (pg_tup (by rfl) (pgs_cons (pg_name (i := 1) scPn.nd rfl (Or.inl rfl)) (pgs_cons (pg_name (i := 2) scPn.nd rfl (Or.inl rfl)) pgs_nil))))
      (pss_one (ps_ret (pe_and (pe_call GN hr (by rfl) gN FN.kp bN .nil pass0 (pa_cons (pv 1) pa_nil))
        (pe_one (pe_or (pe_cmpR op_isN (pv 2) pe_non (nomark _))
          (pe_one (pe_call GN hr (by rfl) gN FN.kp bN .nil pass0 (pa_cons (pv 2) pa_nil))))))))), ?_⟩
    refine ⟨.ref t, rfl, .ref t, .ty "tuple", .type "tuple", .type "tuple", true, rfl, .ty "tuple", tyx_tup hs, kit_ty (by decide +kernel), true, rfl, ?_⟩
    refine iteF ?_
    refine ⟨.ref t, rfl, t, _, rfl, .inr hs, rfl, _, rfl, ?_⟩
    refine iteF ?_
    refine ⟨.ref t, rfl, t, _, rfl, hs, rfl, .str n, [optV wh], rfl, optV wh, [], rfl, rfl, ?_⟩
    refine ⟨.str n, rfl, .str n, rfl, kind_name hn, fun H1 s1 => ⟨nameB n, rfl, ?_⟩⟩
    rw [hn]
    refine iteT ?_
    refine ⟨optV wh, rfl, rfl, _, rfl, ?_⟩
    cases wh with
    | none => exact q H1 s1
    | some x =>
      refine iteF ?_
      refine ⟨.str x, rfl, .str x, rfl, kind_name (hw x rfl), fun H2 s2 => ?_⟩
      rw [show nameV (.str x) = true from hw x rfl]
      exact q H2 (s1.trans s2)
/-! ### the persons of a web -/
abbrev Folk := List (Str × Option Str)
/-- a tuple of persons stands at a -/
def PersAt (K : PySem.W.Frag) (H : Hp) (a : Addr) (ts : List Addr) (F : Folk) : Prop :=
  SqT K H a (ts.map V.ref) ∧ ts.length = F.length ∧
    ∀ (i : Nat) (t : Addr) (p : Str × Option Str), ts[i]? = some t → F[i]? = some p → SqT K H t [.str p.1, optV p.2]
theorem Same.pers {K : PySem.W.Frag} {H H' : Hp} {a : Addr} {ts : List Addr} {F : Folk} (e : Same H H') (h : PersAt K H a ts F) : PersAt K H' a ts F :=
  ⟨Same.tup e h.1, h.2.1, fun i t p h1 h2 => Same.tup e (h.2.2 i t p h1 h2)⟩
/-- names rise -/
def rises : Str → Folk → Prop
  | _, [] => True
  | a, p :: r => a.cps.toList < p.1.cps.toList ∧ rises p.1 r
def lookF (F : Folk) (x : Str) : Option (Option Str) := (F.find? fun p => decide (p.1 = x)).map Prod.snd
def comesN (F : Folk) : Nat → Str → Bool
  | 0, _ => false
  | n + 1, x => match lookF F x with
    | some none => true
    | some (some y) => comesN F n y
    | none => false
theorem comesN_succ (F : Folk) (n : Nat) (x : Str) : comesN F (n + 1) x = match lookF F x with
    | some none => true
    | some (some y) => comesN F n y
    | none => false := rfl
theorem lookF_mem : ∀ {F : Folk} {p : Str × Option Str}, p ∈ F → ∃ w, lookF F p.1 = some w
  | [], p, h => by cases h
  | q :: r, p, h => by
    unfold lookF
    rw [List.find?_cons]
    by_cases e : q.1 = p.1
    · rw [decide_eq_true e]
      exact ⟨q.2, rfl⟩
    · rw [decide_eq_false e]
      rcases List.mem_cons.mp h with z | z
      · rw [z] at e; exact absurd rfl e
      · exact lookF_mem z
def kvsOf (F : Folk) : List (Key × V) := F.map fun p => (Sum.inr p.1, optV p.2)
theorem val_kvs (F : Folk) (x : Str) : valV (kvsOf F) (Sum.inr x) = (lookF F x).map optV := by
  unfold valV kvsOf lookF
  induction F with
  | nil => rfl
  | cons p r ih =>
    rw [List.map_cons, List.find?_cons, List.find?_cons]
    by_cases h : p.1 = x
    · rw [decide_eq_true h, decide_eq_true (by rw [h])]
      rfl
    · rw [decide_eq_false h, decide_eq_false (fun e => h (Sum.inr.inj e))]
      exact ih
theorem kvs_key {F : Folk} {i : Nat} {v : V} (h : ((kvsOf F)[i]?.map fun p => kV p.1) = some v) : ∃ p, F[i]? = some p ∧ v = .str p.1 := by
  unfold kvsOf at h
  rw [List.getElem?_map] at h
  cases e : F[i]? with
  | none => rw [e] at h; cases h
  | some p => rw [e] at h; exact ⟨p, rfl, (Option.some.inj h).symm⟩
structure FolkOk (F : Folk) : Prop where
  there : ∀ (x y : Str), lookF F x = some (some y) → ∃ w, lookF F y = some w
  lead : ∀ p ∈ F, comesN F F.length p.1 = true
  one : 1 ≤ F.length
  most : F.length ≤ 12
  nm : ∀ p ∈ F, nameB p.1 = true ∧ optOk p.2
  rise : rises "" F
theorem rises_at : ∀ {F : Folk} {a : Str} {i : Nat} {p : Str × Option Str}, rises a F → F[i]? = some p →
    (match i with | 0 => a | j + 1 => (F.map Prod.fst).getD j "").cps.toList < p.1.cps.toList
  | [], _, _, _, _, h => by simp at h
  | q :: r, a, 0, p, hr, h => by
    cases h
    exact hr.1
  | q :: r, a, 1, p, hr, h => rises_at (F := r) (a := q.1) (i := 0) hr.2 h
  | q :: r, a, j + 2, p, hr, h => rises_at (F := r) (a := q.1) (i := j + 1) hr.2 h
def aheadOf (F : Folk) : Nat → Str
  | 0 => ""
  | j + 1 => (F.map Prod.fst).getD j ""
theorem FolkOk.at {F : Folk} (h : FolkOk F) {i : Nat} {p : Str × Option Str} (e : F[i]? = some p) : (aheadOf F i).cps.toList < p.1.cps.toList := by
  have := rises_at h.rise e
  cases i <;> exact this
def spChkPers (K : PySem.W.Frag) : Sp := fun vs H Q _ => ∃ (a : Addr) (ts : List Addr) (F : Folk), vs = [.ref a] ∧
  PersAt K H a ts F ∧ FolkOk F ∧ ∀ H', Same H H' → Q .non H'
theorem scCP : FnScope ["persons", "ahead", "place", "person"] ["persons"] (defScope sChkPers) :=
  ⟨rfl, rfl, rfl, by decide +kernel, rfl, by decide +kernel, by decide +kernel⟩
theorem ok_chkPers {f fN fP : Addr} {fd fdN fdP : FuncData}
    (F : Fun K "check_persons" "check_persons" sChkPers f fd) (T : Tx mg)
    (FN : Fun K "is_name" "is_name" sIsName fN fdN) (bN : Binds K fdN ["thing"] []) (gN : mg "is_name" = some (.ref fN))
    (FP : Fun K "is_person" "is_person" sIsPerson fP fdP) (bP : Binds K fdP ["thing"] []) (gP : mg "is_person" = some (.ref fP)) :
    FnOk P w K mg base CX0 3 f fd ["persons"] (spChkPers K) := by
  have GP : FnOk P w K mg base CX0 2 fP fdP ["thing"] (spIsPerson K) := ok_isPerson FP T FN bN gN
  refine F.ok scCP (fun vs H Q E h => ?_) (fun cdv A outer s H vs Q E hr h => ?_)
  · obtain ⟨t, ts, F0, rfl, _⟩ := h
    rfl
  · obtain ⟨a, ts, F0, rfl, hp, ok, q⟩ := h
    obtain ⟨tL, mL⟩ := T.mP
    obtain ⟨hS, hl, hi⟩ := id hp
    refine ⟨_, pss_cons (ps_if (PW.pt (pw_or (pt_not (pt_val (pe_callB call_isi
        (by rfl) T.isi boot_isinstance (pa_cons (pv 0) (pa_cons
          (pe_bltn (v := .ty "tuple") (by rfl) T.tup PyProof.Rows.boot_tuple rfl) pa_nil)))))
        (pw_or1 (pt_not (pt_chain op_le op_le pe_int (pe_callB call_len_seq
          (by rfl) T.len PySem.boot_len (pa_cons (pv 0) pa_nil))
          (pe_glob (v := .int 12) (by rfl) mL ⟨_, rfl⟩))))))
        (pss_one ps_never) pss_nil)
      (pss_cons (ps_set (i := 1) scCP.nd rfl (Or.inl rfl) pe_str)
      (pss_one (ps_for PassesOwn.never rfl (pi_enumT (by rfl) T.enu (pa_cons (pv 0) pa_nil))
        (pg_tup (by rfl) (pgs_cons (pg_name (i := 2) scCP.nd rfl (Or.inl rfl)) (pgs_cons (pg_name (i := 3) scCP.nd rfl (Or.inl rfl)) pgs_nil)))
        (pss_cons (ps_if (PW.pt (pw_or (pt_not (pt_val (pe_call GP hr (by rfl) gP FP.kp bP .nil pass0 (pa_cons (pv 3) pa_nil))))
            (pw_or1 (pt_cmpR op_le_str (pe_ix ix_tup (pv 3) pe_int (fun _ _ => rfl)) (pv 1) (nomark _)))))
            (pss_one ps_never) pss_nil)
          (pss_one (ps_set (i := 1) scCP.nd rfl (Or.inl rfl) (pe_ix ix_tup (pv 3) pe_int (fun _ _ => rfl)))))))), ?_⟩
    refine ⟨.ref a, rfl, .ref a, .ty "tuple", .type "tuple", .type "tuple", true, rfl, .ty "tuple", tyx_tup hS, kit_ty (by decide +kernel), true, rfl, ?_⟩
    refine iteF ?_
    have h1 := ok.one
    have h12 := ok.most
    refine ⟨.ref a, rfl, a, _, rfl, .inr hS, 1, _, rfl, rfl, true, ?_, ?_⟩
    · exact blT (by rw [List.length_map, hl]; omega)
    refine ⟨_, 12, rfl, rfl, true, ?_, ?_⟩
    · exact blT (by rw [List.length_map, hl]; omega)
    refine iteF ?_
    refine ⟨.ref a, rfl, a, _, rfl, hS, for_it walk_enumT (fun i σ H1 => ∃ y z, σ = [some (.ref a), some (.str (aheadOf F0 i)), y, z] ∧ Same H H1) ⟨none, none, rfl, Same.refl H⟩ (fun i σ H1 _ ⟨_, _, _, sm⟩ => Same.tup sm hS) ?_ ?_⟩
    · rintro i x σ H1 H2 lt ⟨y, z, rfl, sm⟩ ⟨Tp, v1, v2, rfl, nT, rfl, e1, e2⟩
      obtain ⟨t, ht, rfl⟩ := map_ref e2
      have lt' : i < F0.length := by rw [List.length_map] at lt; omega
      obtain ⟨p, hp0⟩ : ∃ p, F0[i]? = some p := ⟨F0[i], List.getElem?_eq_getElem lt'⟩
      have mem : p ∈ F0 := List.mem_of_getElem? hp0
      obtain ⟨hn, hw⟩ := ok.nm p mem
      have s2 : Same H1 (upd H1 Tp (.tup [v1, .ref t])) := same_upd nT
      have hq := Same.tup (sm.trans s2) (hi i t p ht hp0)
      refine ⟨Tp, [v1, .ref t], rfl, .inl (.inl upd_same), rfl, v1, [.ref t], rfl, .ref t, [], rfl, rfl, ?_⟩
      refine ⟨.ref t, rfl, t, p.1, p.2, rfl, hq, hn, hw, fun H3 s3 => ⟨true, rfl, ?_⟩⟩
      refine iteF ?_
      have hq3 := Same.tup s3 hq
      refine ⟨.ref t, rfl, t, _, 0, .str p.1, rfl, rfl, hq3, atI_nat (j := 0) rfl, .str (aheadOf F0 i), rfl, p.1, _, rfl, rfl, false, ?_, ?_⟩
      · rw [decide_eq_true (ok.at hp0)]
        rfl
      refine iteF ?_
      refine ⟨.ref t, rfl, t, _, 0, .str p.1, rfl, rfl, hq3, atI_nat (j := 0) rfl, ?_⟩
      refine ⟨some v1, some (.ref t), ?_, (sm.trans s2).trans s3⟩
      have e : aheadOf F0 (i + 1) = p.1 := by
        show (F0.map Prod.fst).getD i "" = p.1
        rw [List.getD_eq_getElem?_getD, List.getElem?_map, hp0]
        rfl
      rw [e]
      rfl
    · rintro σ H1 ⟨y, z, rfl, sm⟩
      exact q H1 sm
/-! ### who comes to one who leads -/
theorem call_lenR {X : Cx} : CallR X (.builtin "len") (fun xs H Q => ∃ a kvs, xs = [V.ref a] ∧ Rd H a (.dK kvs) ∧ Q (.int kvs.length) H) := by
  intro pins s σ H xs us Q I r h
  obtain ⟨a, kvs, rfl, ha, q⟩ := h
  rw [Vals.ref1 r]
  exact d_len I ha fun t s' I' => ⟨.int kvs.length, H, I', ⟨t, rfl⟩, q⟩
theorem DGet.r {H : Hp} {a : Addr} {kvs : List (Key × V)} {k : Key} (e : Rd H a (.dK kvs)) : DGet H a (kV k) (valV kvs k) := .inl ⟨kvs, k, e, rfl, rfl⟩
def spComes : Sp := fun vs H Q _ => ∃ (d : Addr) (x : Str) (F : Folk) (w : Option Str), vs = [.ref d, .str x] ∧ Rd H d (.dK (kvsOf F)) ∧ F.length ≤ 12 ∧
  (∀ (x y : Str), lookF F x = some (some y) → ∃ w, lookF F y = some w) ∧ lookF F x = some w ∧ Q (.bl (comesN F F.length x)) H
theorem scC : FnScope ["whoms", "name", "at", "step"] ["whoms", "name"] (defScope sComes) :=
  ⟨rfl, rfl, rfl, by decide +kernel, rfl, by decide +kernel, by decide +kernel⟩
theorem ok_comes {f : Addr} {fd : FuncData} (F : Fun K "comes_to_leader" "comes_to_leader" sComes f fd) (T : Tx mg) :
    FnOk P w K mg base CX0 1 f fd ["whoms", "name"] spComes := by
  refine F.ok scC (fun vs H Q E h => ?_) (fun cdv A outer s H vs Q E hr h => ?_)
  · obtain ⟨d, x, F0, w, rfl, _⟩ := h
    rfl
  · obtain ⟨d, x, F0, wx, rfl, hd, h12, cl, hx, q⟩ := h
    have hu := hu_of hr
    refine ⟨_, pss_cons (ps_set (i := 2) scC.nd rfl (Or.inl rfl) (pv 1))
      (pss_cons (ps_for PassesOwn.never rfl (pi_range1 (by rfl) T.rng (pa_cons (pe_callB call_lenR (by rfl) T.len PySem.boot_len (pa_cons (pv 0) pa_nil)) pa_nil))
        (pg_name (i := 3) scC.nd rfl (Or.inl rfl))
        (pss_cons (ps_if (pt_cmpR op_isN (pe_dget hu (pv 0) (pv 2) (fun _ _ => rfl)) pe_non (nomark _)) (pss_one (ps_ret pe_bl)) pss_nil)
          (pss_one (ps_set (i := 2) scC.nd rfl (Or.inl rfl) (pe_dget hu (pv 0) (pv 2) (fun _ _ => rfl))))))
      (pss_one (ps_ret pe_bl))), ?_⟩
    have el : (kvsOf F0).length = F0.length := by unfold kvsOf; rw [List.length_map]
    refine ⟨.str x, rfl, .ref d, rfl, d, _, rfl, hd, _, rfl, ?_, ?_, ?_⟩
    · rw [el]; omega
    · rw [el]; omega
    have en : (((kvsOf F0).length : Int)).toNat = F0.length := by rw [el]; omega
    refine for_range (lo := 0) (n := (((kvsOf F0).length : Int)).toNat) (fun i σ H1 => ∃ (y : Str) (wy : Option Str) (z : Option V), σ = [some (.ref d), some (.str x), some (.str y), z] ∧ H1 = H ∧ lookF F0 y = some wy ∧ comesN F0 (F0.length - i) y = comesN F0 F0.length x)
      ⟨x, wx, none, rfl, rfl, hx, rfl⟩ ?_ ?_
    · rintro i σ H1 lt ⟨y, wy, z, rfl, rfl, hy, hc⟩
      rw [en] at lt
      have hg : DGet H1 d (.str y) (some (optV wy)) := by
        have := DGet.r (k := Sum.inr y) hd
        rw [val_kvs, hy] at this
        exact this
      have em : F0.length - i = (F0.length - (i + 1)) + 1 := by omega
      rw [em, comesN_succ, hy] at hc
      refine ⟨.ref d, rfl, .str y, rfl, d, optV wy, rfl, hg, rfl, _, rfl, ?_⟩
      cases wy with
      | none =>
        refine iteT ?_
        have hc' : true = comesN F0 F0.length x := hc
        rw [← hc'] at q
        exact q
      | some y2 =>
        refine iteF ?_
        obtain ⟨w2, hw2⟩ := cl y y2 hy
        exact ⟨.ref d, rfl, .str y, rfl, d, .str y2, rfl, hg, y2, w2, _, rfl, rfl, hw2, hc⟩
    · rintro σ H1 ⟨y, wy, z, rfl, rfl, hy, hc⟩
      rw [en, Nat.sub_self] at hc
      have hc' : false = comesN F0 F0.length x := hc
      rw [← hc'] at q
      exact q
/-! ### check_whoms -/
def spChkWhoms : Sp := fun vs H Q _ => ∃ (d : Addr) (F : Folk), vs = [.ref d] ∧ H d = some (.dK (kvsOf F)) ∧ FolkOk F ∧ ∀ H', Same H H' → Q .non H'
theorem scCW : FnScope ["whoms", "place", "name", "whom"] ["whoms"] (defScope sChkWhoms) :=
  ⟨rfl, rfl, rfl, by decide +kernel, rfl, by decide +kernel, by decide +kernel⟩
theorem ok_chkWhoms {f fC : Addr} {fd fdC : FuncData} (F : Fun K "check_whoms" "check_whoms" sChkWhoms f fd) (T : Tx mg)
    (FC : Fun K "comes_to_leader" "comes_to_leader" sComes fC fdC) (bC : Binds K fdC ["whoms", "name"] []) (gC : mg "comes_to_leader" = some (.ref fC)) :
    FnOk P w K mg base CX0 2 f fd ["whoms"] spChkWhoms := by
  have GC : FnOk P w K mg base CX0 1 fC fdC ["whoms", "name"] spComes := ok_comes FC T
  refine F.ok scCW (fun vs H Q E h => ?_) (fun cdv A outer s H vs Q E hr h => ?_)
  · obtain ⟨d, F0, rfl, _⟩ := h
    rfl
  · obtain ⟨d, F0, rfl, hd, ok, q⟩ := h
    have hu := hu_of hr
    refine ⟨_, pss_cons (ps_lock (ps_for PassesOwn.never rfl (pi_enumD (by rfl) T.enu (pa_cons (pv 0) pa_nil))
        (pg_tup (by rfl) (pgs_cons (pg_name (i := 1) scCW.nd rfl (Or.inl rfl)) (pgs_cons (pg_name (i := 2) scCW.nd rfl (Or.inl rfl)) pgs_nil)))
        (pss_cons (ps_set (i := 3) scCW.nd rfl (Or.inl rfl) (pe_dget hu (pv 0) (pv 2) (fun _ _ => rfl)))
          (pss_one (ps_if (PW.pt (pw_and (pt_cmpR op_notN (pv 3) pe_non (nomark _)) (pw_and1 (pt_cmp (pc_dnotin hu (pv 3) (pv 0))))))
            (pss_one ps_never) pss_nil)))))
      (pss_one (ps_lock (ps_for PassesOwn.never rfl (pi_enumD (by rfl) T.enu (pa_cons (pv 0) pa_nil))
        (pg_tup (by rfl) (pgs_cons (pg_name (i := 1) scCW.nd rfl (Or.inl rfl)) (pgs_cons (pg_name (i := 2) scCW.nd rfl (Or.inl rfl)) pgs_nil)))
        (pss_one (ps_if (pt_not (pt_val (pe_call GC hr (by rfl) gC FC.kp bC .nil pass0 (pa_cons (pv 0) (pa_cons (pv 2) pa_nil)))))
            (pss_one ps_never) pss_nil))))), ?_⟩
    refine ⟨d, _, hd, trivial, fun od => ?_⟩
    refine ⟨.ref d, rfl, d, od, kvsOf F0, rfl, upd_same, for_it walk_enumD (fun i σ H1 => ∃ x y z, σ = [some (.ref d), x, y, z] ∧ H1 d = some (.frz od (.dK (kvsOf F0))) ∧ ∀ b o, b ≠ d → H b = some o → H1 b = some o) ⟨none, none, none, rfl, upd_same, fun b o nb e => by rw [upd_ne nb]; exact e⟩ (fun i σ H1 _ ⟨_, _, _, _, hf, _⟩ => hf) ?_ ?_⟩
    · rintro i v σ H1 H2 lt ⟨x, y, z, rfl, hf, kp⟩ ⟨Tp, v1, v2, rfl, nT, rfl, e1, e2⟩
      obtain ⟨p, hp0, rfl⟩ := kvs_key e2
      obtain ⟨wp, hwp⟩ := lookF_mem (List.mem_of_getElem? hp0)
      have nTd : d ≠ Tp := ne_of_none hf nT
      have hf2 : (upd H1 Tp (.tup [v1, .str p.1])) d = some (.frz od (.dK (kvsOf F0))) := by rw [upd_ne nTd]; exact hf
      have kp2 : ∀ b o, b ≠ d → H b = some o → (upd H1 Tp (.tup [v1, .str p.1])) b = some o := fun b o nb e => by
        rw [upd_ne (ne_of_none (kp b o nb e) nT)]; exact kp b o nb e
      have hg : ∀ {x : Str} {wx : Option Str}, lookF F0 x = some wx → DGet (upd H1 Tp (.tup [v1, .str p.1])) d (.str x) (some (optV wx)) := fun {x wx} e => by
        have := DGet.r (k := Sum.inr x) (.inr ⟨od, hf2⟩ : Rd (upd H1 Tp (.tup [v1, .str p.1])) d (.dK (kvsOf F0)))
        rw [val_kvs, e] at this
        exact this
      refine ⟨Tp, [v1, .str p.1], rfl, .inl (.inl upd_same), rfl, v1, [.str p.1], rfl, .str p.1, [], rfl, rfl, ?_⟩
      refine ⟨.ref d, rfl, .str p.1, rfl, d, optV wp, rfl, hg hwp, ?_⟩
      refine ⟨optV wp, rfl, rfl, _, rfl, ?_⟩
      cases wp with
      | none => exact ⟨_, _, _, rfl, hf2, kp2⟩
      | some x =>
        refine iteT ?_
        obtain ⟨w2, hw2⟩ := ok.there _ _ hwp
        refine ⟨.str x, rfl, .ref d, rfl, d, _, rfl, hg hw2, _, rfl, ?_⟩
        exact ⟨_, _, _, rfl, hf2, kp2⟩
    · rintro σ H1 ⟨x, y, z, rfl, hf, kp⟩
      refine ⟨hf, d, _, upd_same, trivial, fun od2 => ?_⟩
      refine ⟨.ref d, rfl, d, od2, kvsOf F0, rfl, upd_same, for_it walk_enumD (fun i σ H3 => ∃ x y z, σ = [some (.ref d), x, y, z] ∧ H3 d = some (.frz od2 (.dK (kvsOf F0))) ∧ ∀ b o, b ≠ d → H b = some o → H3 b = some o) ⟨x, y, z, rfl, upd_same, fun b o nb e => by rw [upd_ne nb, upd_ne nb]; exact kp b o nb e⟩ (fun i σ H1 _ ⟨_, _, _, _, hf, _⟩ => hf) ?_ ?_⟩
      · rintro i v σ H3 H4 lt ⟨x, y, z, rfl, hf3, kp3⟩ ⟨Tp, v1, v2, rfl, nT, rfl, e1, e2⟩
        obtain ⟨p, hp0, rfl⟩ := kvs_key e2
        have mem := List.mem_of_getElem? hp0
        obtain ⟨wp, hwp⟩ := lookF_mem mem
        have nTd : d ≠ Tp := ne_of_none hf3 nT
        have hf4 : (upd H3 Tp (.tup [v1, .str p.1])) d = some (.frz od2 (.dK (kvsOf F0))) := by rw [upd_ne nTd]; exact hf3
        refine ⟨Tp, [v1, .str p.1], rfl, .inl (.inl upd_same), rfl, v1, [.str p.1], rfl, .str p.1, [], rfl, rfl, ?_⟩
        refine ⟨.ref d, rfl, .str p.1, rfl, d, p.1, F0, wp, rfl, .inr ⟨od2, hf4⟩, ok.most, ok.there, hwp, true, ?_, ?_⟩
        · rw [ok.lead p mem]
        · refine iteF ?_
          refine ⟨_, _, _, rfl, hf4, fun b o nb e => ?_⟩
          rw [upd_ne (ne_of_none (kp3 b o nb e) nT)]; exact kp3 b o nb e
      · rintro σ H3 ⟨x, y, z, rfl, hf3, kp3⟩
        refine ⟨hf3, q _ fun b o e => ?_⟩
        by_cases nb : b = d
        · subst nb
          rw [hd] at e
          cases e
          exact upd_same
        · rw [upd_ne nb]
          exact kp3 b o nb e
end
end Hee


set_option Elab.async false
set_option linter.all false
set_option maxRecDepth 100000
namespace Hee
open PySem PySem.Spec PyProof.Rows L2
/-! ### the mathematics of rising names -/
theorem rises_gt : ∀ {F : Folk} {a : Str}, rises a F → ∀ p ∈ F, a.cps.toList < p.1.cps.toList
  | [], _, _, p, h => by cases h
  | q :: r, a, hr, p, h => by
    rcases List.mem_cons.mp h with z | z
    · rw [z]; exact hr.1
    · exact List.lt_trans hr.1 (rises_gt hr.2 p z)
theorem rises_nodup : ∀ {F : Folk} {a : Str}, rises a F → (F.map Prod.fst).Nodup
  | [], _, _ => List.nodup_nil
  | q :: r, a, hr => by
    rw [List.map_cons]
    refine List.nodup_cons.mpr ⟨fun h => ?_, rises_nodup hr.2⟩
    obtain ⟨p, hp, e⟩ := List.mem_map.mp h
    have := rises_gt hr.2 p hp
    rw [e] at this
    exact List.lt_irrefl _ this
theorem look_none {F : Folk} {x : Str} (h : x ∉ F.map Prod.fst) : lookF F x = none := by
  unfold lookF
  rw [List.find?_eq_none.mpr fun p hp => ?_]
  · rfl
  · have : ¬ p.1 = x := fun e => h (List.mem_map.mpr ⟨p, hp, e⟩)
    simp [this]
theorem look_some : ∀ {F : Folk} {p : Str × Option Str}, (F.map Prod.fst).Nodup → p ∈ F → lookF F p.1 = some p.2
  | [], _, _, h => by cases h
  | q :: r, p, nd, h => by
    rw [List.map_cons, List.nodup_cons] at nd
    unfold lookF
    rw [List.find?_cons]
    rcases List.mem_cons.mp h with z | z
    · rw [z, decide_eq_true rfl]; rfl
    · by_cases e : q.1 = p.1
      · exact absurd (List.mem_map.mpr ⟨p, z, e.symm⟩) nd.1
      · rw [decide_eq_false e]
        exact look_some nd.2 z
theorem kvs_take {F : Folk} (nd : (F.map Prod.fst).Nodup) {i : Nat} {p : Str × Option Str} (h : F[i]? = some p) :
    putK (kvsOf (F.take i)) (Sum.inr p.1 : Key) (optV p.2) = kvsOf (F.take (i + 1)) := by
  have hi := (List.getElem?_eq_some_iff.mp h).1
  have hv : valV (kvsOf (F.take i)) (Sum.inr p.1 : Key) = none := by
    rw [val_kvs, look_none fun hm => ?_]
    · rfl
    · obtain ⟨q, hq, e⟩ := List.mem_map.mp hm
      obtain ⟨j, hj, rfl⟩ := List.mem_take_iff_getElem.mp hq
      have hj' : j < i := by omega
      have hpi : p = F[i] := (List.getElem?_eq_some_iff.mp h).2.symm
      subst hpi
      have h1 : (F.map Prod.fst)[j]'(by rw [List.length_map]; omega) = (F.map Prod.fst)[i]'(by rw [List.length_map]; exact hi) := by
        simpa using e
      exact List.pairwise_iff_getElem.mp nd j i (by rw [List.length_map]; omega) (by rw [List.length_map]; exact hi) hj' h1
  rw [putK_new _ hv]
  unfold kvsOf
  rw [List.take_add_one, h, List.map_append]
  rfl
/-! ### Web -/
theorem sw_trueD {kx vx : Expr} {gs : List Comprehension} {scope : Scope} {pos py : Pos} {y : Str} {l : Nat} {env : Env}
    (hk : env.scope.kind = .function) (hy : env.scope.names.lookup y = some .local) (hl : (py.line == pos.line) = true)
    (ha : (scope.names.any fun (n, k) => n == y && (k == .local || k == .cell)) = false) :
    swapsWith (.DictComp kx vx gs scope pos) (some (.Name y py)) l env = pure true := by
  have e1 : env.kindOf y = some .local := hy
  have e2 : env.blockKind = .function := by unfold Env.blockKind; rw [hk]; rfl
  unfold swapsWith
  simp only [e2, e1, ha, Expr.pos, hl]
  rfl
theorem pw_ne : ¬ (("persons" : Str) = "whoms") := by decide +kernel
def flds (a d : Addr) : List (Str × V) := putF "whoms" (.ref d) (putF "persons" (.ref a) [])
theorem flds_p (a d : Addr) : (flds a d).lookup ("persons" : Str) = some (.ref a) := by
  unfold flds
  rw [lookup_putF, if_neg pw_ne, lookup_putF, if_pos rfl]
theorem flds_w (a d : Addr) : (flds a d).lookup ("whoms" : Str) = some (.ref d) := by
  unfold flds
  rw [lookup_putF, if_pos rfl]
theorem flds_no (a d : Addr) {m : Str} (h1 : ¬ m = "whoms") (h2 : ¬ m = "persons") : (flds a d).lookup m = none := by
  unfold flds
  rw [lookup_putF, if_neg h1, lookup_putF, if_neg h2]
  all_goals rfl
theorem tup_keep {K : PySem.W.Frag} {H H' : Hp} {x C dx a : Addr} {fs : List (Str × V)} {xs : List V} (hx : H x = some (.ins C dx fs))
    (kp : ∀ b o, b ≠ x → H b = some o → H' b = some o) (h : SqT K H a xs) : SqT K H' a xs := by
  have off : ∀ o : HO, (∀ fs, o ≠ .ins C dx fs) → H a = some o → H' a = some o := fun o n q => kp a o (ne_of q hx (n fs)) q
  exact Or.imp (Or.imp (off _ fun _ y => nomatch y) fun ⟨o, q⟩ => ⟨o, off _ (fun _ y => nomatch y) q⟩) id h
theorem pers_keep {K : PySem.W.Frag} {H H' : Hp} {x C dx a : Addr} {fs : List (Str × V)} {ts : List Addr} {F : Folk} (hx : H x = some (.ins C dx fs))
    (kp : ∀ b o, b ≠ x → H b = some o → H' b = some o) (h : PersAt K H a ts F) : PersAt K H' a ts F :=
  ⟨tup_keep hx kp h.1, h.2.1, fun i t p h1 h2 => tup_keep hx kp (h.2.2 i t p h1 h2)⟩
/-- a Web stands at x -/
structure WebAt (K : PySem.W.Frag) (C : Addr) (H : Hp) (x a d : Addr) (ts : List Addr) (F : Folk) : Prop where
  ob : ∃ dx, H x = some (.ins C dx (flds a d))
  dc : H d = some (.dK (kvsOf F))
  ps : PersAt K H a ts F
  ok : FolkOk F
structure Tw (K : PySem.W.Frag) (mg : Str → Option Value) (C : Addr) : Prop where
  cl : Cls K C
  nP : NoAttr K C "persons"
  nW : NoAttr K C "whoms"
  mgC : mg "Web" = some (.ref C)
section
variable {P : Program} {w : World} {K : PySem.W.Frag}
  {mg : Str → Option Value} {base : Heap}
def spInit (K : PySem.W.Frag) (C : Addr) : Sp := fun vs H Q _ => ∃ (x dx a : Addr) (ts : List Addr) (F : Folk), vs = [.ref x, .ref a] ∧
  H x = some (.ins C dx []) ∧ PersAt K H a ts F ∧ FolkOk F ∧
  ∀ d H', H d = none → WebAt K C H' x a d ts F → (∀ b o, b ≠ x → H b = some o → H' b = some o) → Q .non H'
theorem scI : FnScope ["self", "persons", "whoms", "name", "whom"] ["self", "persons"] (defScope sInit) :=
  ⟨rfl, rfl, rfl, by decide +kernel, rfl, by decide +kernel, by decide +kernel⟩
theorem ok_init {f fCP fCW C : Addr} {fd fdCP fdCW : FuncData} (F : Fun K "__init__" "Web.__init__" sInit f fd) (T : Tx mg) (W : Tw K mg C)
    (FCP : Fun K "check_persons" "check_persons" sChkPers fCP fdCP) (bCP : Binds K fdCP ["persons"] []) (gCP : mg "check_persons" = some (.ref fCP))
    (FCW : Fun K "check_whoms" "check_whoms" sChkWhoms fCW fdCW) (bCW : Binds K fdCW ["whoms"] []) (gCW : mg "check_whoms" = some (.ref fCW))
    (GCP : FnOk P w K mg base CX0 3 fCP fdCP ["persons"] (spChkPers K))
    (GCW : FnOk P w K mg base CX0 2 fCW fdCW ["whoms"] spChkWhoms) :
    FnOk P w K mg base CX0 4 f fd ["self", "persons"] (spInit K C) := by
  refine F.ok scI (fun vs H Q E h => ?_) (fun cdv A outer s H vs Q E hr h => ?_)
  · obtain ⟨x, dx, a, ts, F0, rfl, _⟩ := h
    rfl
  · obtain ⟨x, dx, a, ts, F0, rfl, hx, hp, ok, q⟩ := h
    refine ⟨_, pss_cons (ps_expr (pe_call GCP hr (by rfl) gCP FCP.kp bCP .nil pass0 (pa_cons (pv 1) pa_nil)))
      (pss_cons (ps_setDc (i := 2) (own := [("name", 3), ("whom", 4)]) (g := gTup K 2 (gCons (gName 3) (gCons (gName 4) gNil))) (tt := tYes) rfl scI.nd rfl rfl
        (sw_trueD rfl rfl rfl (by decide +kernel)) (pi_tup (pv 1)) (blkOk_by (N := ["self", "persons", "whoms", "name", "whom"]) (sc := defScope sInit) (by decide +kernel))
        (fun _ _ _ _ _ => pg_tup (by rfl) (pgs_cons (pg_name (i := 3) scI.nd rfl (Or.inl rfl)) (pgs_cons (pg_name (i := 4) scI.nd rfl (Or.inl rfl)) pgs_nil)))
        (fun _ _ _ _ _ => pts_nil) (fun _ _ _ _ _ => pv 3) (fun _ _ _ _ _ => pv 4))
      (pss_cons (ps_expr (pe_call GCW (hr.mono (by decide)) (by rfl) gCW FCW.kp bCW .nil pass0 (pa_cons (pv 2) pa_nil)))
      (pss_cons (ps_fld (pv 0) (pv 1) rfl) (pss_one (ps_fld (pv 0) (pv 2) rfl))))), ?_⟩
    refine ⟨.ref a, rfl, a, ts, F0, rfl, hp, ok, fun H1 s1 => ?_⟩
    obtain ⟨hS, hl, hi⟩ := Same.pers s1 hp
    refine ⟨.ref a, rfl, a, rfl, ⟨_, hS⟩, fun D hD => ?_⟩
    have nd := rises_nodup ok.rise
    have nDx : x ≠ D := ne_of_none (s1 x _ hx) hD
    refine dc_tup (K := K) (a := a) (xs := ts.map V.ref) (fun i H2 => H2 D = some (.dK (kvsOf (F0.take i))) ∧ Same H1 H2) ⟨upd_same, same_upd hD⟩ (fun i H2 _ h => Same.tup h.2 hS) ?_ ?_
    · rintro i v H2 hv ⟨hd2, sm⟩
      obtain ⟨t, ht, rfl⟩ := map_ref hv
      have lt : i < F0.length := by have := (List.getElem?_eq_some_iff.mp ht).1; omega
      obtain ⟨p, hp0⟩ : ∃ p, F0[i]? = some p := ⟨F0[i], List.getElem?_eq_getElem lt⟩
      refine ⟨t, [.str p.1, optV p.2], rfl, Same.tup sm (hi i t p ht hp0), rfl, .str p.1, [optV p.2], rfl, optV p.2, [], rfl, rfl, rfl, ?_⟩
      refine ⟨.str p.1, rfl, optV p.2, rfl, kvsOf (F0.take i), Sum.inr p.1, rfl, hd2, ?_, ?_, ?_⟩
      · have hm := ok.most
        unfold kvsOf
        rw [List.length_map, List.length_take]
        exact small_lt (by omega)
      · rw [upd_same, kvs_take nd hp0]
      · intro b o e
        rw [upd_ne (ne_of_none e hD)]
        exact sm b o e
    · rintro H2 ⟨hd2, sm⟩
      rw [List.length_map, hl, List.take_length] at hd2
      refine ⟨.ref D, rfl, D, F0, rfl, hd2, ok, fun H3 s3 => ?_⟩
      have hx3 := s3 _ _ (sm _ _ (s1 _ _ hx))
      refine ⟨.ref a, rfl, .ref x, rfl, x, C, dx, [], rfl, hx3, W.cl, W.nP, (by show 0 < 1000; decide), ?_⟩
      refine ⟨.ref D, rfl, .ref x, rfl, x, C, dx, _, rfl, upd_same, W.cl, W.nW, (by show 1 < 1000; decide), ?_⟩
      have kp : ∀ b o, b ≠ x → H b = some o → upd (upd H3 x (.ins C dx (putF "persons" (.ref a) []))) x (.ins C dx (flds a D)) b = some o := fun b o nb e => by
        rw [upd_ne nb, upd_ne nb]
        exact s3 _ _ (sm _ _ (s1 _ _ e))
      refine q D _ (s1.free hD) ⟨⟨dx, upd_same⟩, ?_, ?_, ok⟩ kp
      · rw [upd_ne nDx.symm, upd_ne nDx.symm]
        exact s3 _ _ hd2
      · exact pers_keep hx kp hp
end
end Hee


set_option Elab.async false
set_option linter.all false
set_option maxRecDepth 100000
namespace Hee
open PySem PySem.Spec PyProof.Rows L2
theorem strip_iff (x y : Str) : Txt.stripChars x y = ⟨#[]⟩ ↔ ∀ c ∈ x.cps.toList, y.cps.contains c = true := by
  unfold Txt.stripChars
  rw [stripBy_eq]
  generalize hg : (y.cps.contains : Nat → Bool) = goes
  obtain ⟨a1, a2, a3⟩ := lo_facts goes x
  obtain ⟨b1, b2, b3, b4⟩ := hi_facts goes x _ a1
  have hsz : x.cps.size = x.length := rfl
  have all_of : (∀ k, k < x.length → goes (x.cps.getD k 0) = true) → ∀ c ∈ x.cps.toList, goes c = true := fun h c hc => by
    obtain ⟨k, hk, rfl⟩ := List.getElem_of_mem hc
    have hk' : k < x.cps.size := by simpa using hk
    have := h k hk'
    rw [Array.getD_eq_getD_getElem?, Array.getElem?_eq_getElem hk'] at this
    simpa using this
  have of_all : (∀ c ∈ x.cps.toList, goes c = true) → ∀ k, k < x.length → goes (x.cps.getD k 0) = true := fun h k hk => by
    have hk' : k < x.cps.size := hk
    rw [Array.getD_eq_getD_getElem?, Array.getElem?_eq_getElem hk']
    exact h _ (by simp)
  constructor
  · intro e
    have e1 : (x.cps.extract (stripLo goes true x) (stripHi goes true x (stripLo goes true x))).size = 0 := by
      have := congrArg (fun z : Str => z.cps.size) e
      simpa [Builtin.Str.strSub] using this
    rw [Array.size_extract] at e1
    refine all_of fun k hk => ?_
    by_cases h : k < stripLo goes true x
    · exact a2 k h
    · exact b3 k (by omega) hk
  · intro h
    have h' := of_all h
    have e2 : stripLo goes true x = x.length := by
      rcases a3 with z | z
      · exact z
      · by_cases q : stripLo goes true x < x.length
        · rw [h' _ q] at z; cases z
        · omega
    rw [e2]
    unfold Builtin.Str.strSub
    congr 1
    apply Array.ext_getElem?
    intro i
    rw [Array.getElem?_eq_none (by rw [Array.size_extract]; omega)]
    simp
theorem strip_dec (z : Str) : decide (V.str (Txt.stripChars z letS) = V.str "") = z.cps.toList.all (fun c => decide (c ∈ letS.cps.toList)) := by
  have e0 : (("" : String) : Str) = ⟨#[]⟩ := by decide +kernel
  by_cases h : ∀ c ∈ z.cps.toList, letS.cps.contains c = true
  · rw [decide_eq_true (by rw [e0, (strip_iff z letS).mpr h])]
    symm
    rw [List.all_eq_true]
    intro c hc
    have := h c hc
    simpa using this
  · rw [decide_eq_false (fun e => h ((strip_iff z letS).mp (by rw [← e0]; exact V.str.inj e)))]
    symm
    rw [List.all_eq_false]
    have ⟨c, hc⟩ := Classical.not_forall.mp h
    have ⟨hc1, hc2⟩ := Classical.not_imp.mp hc
    exact ⟨c, hc1, by simpa using hc2⟩
end Hee


set_option Elab.async false
set_option linter.all false
set_option maxRecDepth 100000
namespace Hee
open PySem PySem.Spec PyProof.Rows L2
abbrev sCell : Stmt := top 18
abbrev sPurse : Stmt := top 19
abbrev sTake : Stmt := top 20
abbrev sDue : Stmt := top 21
abbrev sAsked : Stmt := top 22
abbrev sWord : Stmt := top 23
abbrev sOthers : Stmt := top 24
abbrev sLaw : Stmt := top 25
/-- names of the law's part -/
structure Ty (mg : Str → Option Value) : Prop where
  repr : mg "repr" = none
  abs : mg "abs" = none
  divmod : mg "divmod" = none
  max : mg "max" = none
  min : mg "min" = none
theorem tyv_str {K : PySem.W.Frag} {H : Hp} (z : Str) : tyV K "str" (.str z) H := rfl
section
variable {P : Program} {w : World} {K : PySem.W.Frag}
  {mg : Str → Option Value} {base : Heap}
/-! ### due -/
def spDue (K : PySem.W.Frag) : Sp := fun vs H Q _ => ∃ v, vs = [v] ∧ KindOk K H v ∧ Q (.bl (nameV v)) H
theorem scDue : FnScope ["_law_item"] ["_law_item"] (defScope sDue) :=
  ⟨rfl, rfl, rfl, by decide +kernel, rfl, by decide +kernel, by decide +kernel⟩
theorem ok_due {f : Addr} {fd : FuncData} (F : Fun K "_law_due" "_law_due" sDue f fd) (T : Tx mg) :
    FnOk P w K mg base CX0 1 f fd ["_law_item"] (spDue K) := by
  refine F.ok scDue (fun vs H Q E h => ?_) (fun cdv A outer s H vs Q E hr h => ?_)
  · obtain ⟨v, rfl, _⟩ := h
    rfl
  · obtain ⟨v, rfl, hk, q⟩ := h
    refine ⟨_, pss_cons (ps_if (pt_not (pt_val (pe_callB call_isi
        (by rfl) T.isi boot_isinstance (pa_cons (pv 0) (pa_cons
          (pe_bltn (v := .ty "str") (by rfl) T.str PyProof.Rows.boot_str rfl) pa_nil)))))
        (pss_one (ps_ret pe_bl)) pss_nil)
      (pss_one (ps_ret (pe_and (pe_chain op_le op_le pe_int (pe_callB call_len_str
          (by rfl) T.len PySem.boot_len (pa_cons (pv 0) pa_nil)) pe_int)
        (pe_one (pe_cmpR op_eq (pe_bm PySem.F.plainAttrs_str PySem.F.slot_str_strip PySem.F.type_str_strip mt_stripChars (pv 0) (pa_cons pe_str pa_nil)) pe_str (nomark _)))))), ?_⟩
    rcases hk with ⟨z, rfl, hz⟩ | ⟨hn, t, ty, kt⟩
    · refine ⟨.str z, rfl, .str z, .ty "str", .type "str", .type "str", true, rfl, .ty "str", .base (.str z), kit_ty (by decide +kernel), true, rfl, ?_⟩
      refine iteF ?_
      have en : nameV (.str z) = (decide (1 ≤ z.length) && decide (z.length ≤ 6) && z.cps.toList.all (fun c => decide (c ∈ letS.cps.toList))) := rfl
      rw [en] at q
      refine ⟨.str z, rfl, z, rfl, hz, 1, z.length, rfl, rfl, _, rfl, ?_⟩
      by_cases h1 : (1 : Int) ≤ z.length
      · rw [decide_eq_true h1]
        refine iteT ?_
        refine ⟨z.length, 6, rfl, rfl, _, rfl, ?_⟩
        rw [decide_eq_true (show 1 ≤ z.length by omega)] at q
        by_cases h6 : (z.length : Int) ≤ 6
        · rw [decide_eq_true h6]
          refine iteT ?_
          rw [decide_eq_true (show z.length ≤ 6 by omega), ← strip_dec] at q
          refine ⟨.str z, rfl, tyv_str z, z, letS, rfl, rfl, hz, rfl, ?_⟩
          exact q
        · rw [decide_eq_false h6]
          refine iteF ?_
          rw [decide_eq_false (show ¬ z.length ≤ 6 by omega)] at q
          exact q
      · rw [decide_eq_false h1]
        refine iteF ⟨_, rfl, iteF ?_⟩
        rw [decide_eq_false (show ¬ 1 ≤ z.length by omega)] at q
        exact q
    · refine ⟨v, rfl, v, .ty "str", t, .type "str", false, rfl, .ty "str", ty, kt, false, rfl, ?_⟩
      refine iteT ?_
      rw [nameV_no hn] at q
      exact q
/-! ### the purse -/
def M0 : Int := 1000000093
def Purse (H : Hp) (p : Addr) : Prop := ∃ s d c : Int, H p = some (.lst [.int s, .int d, .int c]) ∧ 0 ≤ s ∧ s < M0 ∧ 0 ≤ d
def spPurse : Sp := fun vs H Q _ => ∃ n : Int, vs = [.int n] ∧ ∀ p H', H p = none → Same H H' → Purse H' p → Q (.ref p) H'
theorem scPu : FnScope ["_law_cell_here", "_law_digits"] ["_law_cell_here"] (defScope sPurse) :=
  ⟨rfl, rfl, rfl, by decide +kernel, rfl, by decide +kernel, by decide +kernel⟩
theorem ok_purse {f : Addr} {fd : FuncData} (F : Fun K "_law_purse" "_law_purse" sPurse f fd) (Y : Ty mg) :
    FnOk P w K mg base CX0 1 f fd ["_law_cell_here"] spPurse := by
  refine F.ok scPu (fun vs H Q E h => ?_) (fun cdv A outer s H vs Q E hr h => ?_)
  · obtain ⟨v, rfl, _⟩ := h
    rfl
  · obtain ⟨n, rfl, q⟩ := h
    refine ⟨_, pss_cons (ps_set (i := 1) scPu.nd rfl (Or.inl rfl) pe_int)
      (pss_cons (ps_if (PW.pt (pw_or (pt_cmpR op_lt (pv 0) pe_int (nomark _)) (pw_or1 (pt_cmpR op_ge (pv 0) (pe_op op_pow pe_int pe_int) (nomark _)))))
        (pss_one (ps_set (i := 1) scPu.nd rfl (Or.inl rfl) (pe_callB call_abs (by rfl) Y.abs boot_abs (pa_cons (pv 0) pa_nil)))) pss_nil)
      (pss_one (ps_ret (pe_lst (pa_cons (pe_op op_mod (pv 0) pe_int) (pa_cons (pv 1) (pa_cons pe_int pa_nil))))))), ?_⟩
    have fin : ∀ d : Int, 0 ≤ d → tRet (tLst (tCons (tOp (rI (fun _ j => 0 < j) fun i j => .int (i % j)) (tVar 0) (tC (.int 1000000093))) (tCons (tVar 1) (tCons (tC (.int 0)) tNil))))
        { nx := fun _ H' => Q .non H', rt := Q } [some (.int n), some (.int d)] H := fun d hd => by
      refine ⟨.int n, rfl, n, _, rfl, rfl, (by show (0 : Int) < 1000000093; decide), .int d, rfl, (by show 3 ≤ sizeLine; decide), fun p hp => ?_⟩
      refine q p _ hp (same_upd hp) ⟨_, _, _, upd_same, ?_, ?_, hd⟩
      · exact Int.emod_nonneg _ (by decide)
      · exact Int.emod_lt_of_pos _ (by decide)
    refine ⟨.int n, rfl, n, 0, rfl, rfl, _, rfl, ?_⟩
    have abs0 : (0 : Int) ≤ (if n < 0 then -n else n) := by split <;> omega
    by_cases h0 : n < 0
    · rw [decide_eq_true h0]
      refine iteT ?_
      refine iteT ?_
      exact ⟨.int n, rfl, n, rfl, fin _ abs0⟩
    · rw [decide_eq_false h0]
      refine iteF ?_
      refine ⟨.int n, rfl, 10, 18, rfl, rfl, ⟨by decide, by decide, by decide⟩, n, _, rfl, rfl, _, rfl, ?_⟩
      refine ite2 (fun _ => ?_) (fun _ => ?_)
      · exact ⟨.int n, rfl, n, rfl, fin _ abs0⟩
      · exact fin 0 (by decide)
/-! ### take -/
def spTake : Sp := fun vs H Q _ => ∃ (p : Addr) (m : Int), vs = [.ref p, .int m] ∧ Purse H p ∧ 1 ≤ m ∧ m ≤ 1000 ∧
  ∀ r H', 0 ≤ r → r < m → Purse H' p → (∀ b o, b ≠ p → H b = some o → H' b = some o) → Q (.int r) H'
def nextS (s c : Int) : Int := (s * (s % 43003 + 29009) + 60037 * (c + 1)) % 1000000093
theorem take_fin {K : PySem.W.Frag} {H H2 : Hp} {p : Addr} {m s2 d0 c1 s0 : Int} {Q : VK} (hp2 : H2 p = some (.lst [.int s2, .int d0, .int c1]))
    (kp2 : ∀ b o, b ≠ p → H b = some o → H2 b = some o) (hs2a : 0 ≤ s2) (hs2b : s2 < M0) (hd0 : 0 ≤ d0) (hm1 : 1 ≤ m) (hm2 : m ≤ 1000)
    (q : ∀ r H', 0 ≤ r → r < m → Purse H' p → (∀ b o, b ≠ p → H b = some o → H' b = some o) → Q (.int r) H') :
    (tSeq (tIfS (tTest (tOp (rI0 fun i j => V.bl (decide (j < i))) (tOp (rIxL K) (tVar 0) (tC (V.int 1))) (tC (V.int 0))))
        (tSeq (tAsg (tCB (fun xs H Q => ∃ i j, xs = [V.int i, V.int j] ∧ CDiv i j ∧ ∀ (p : Addr), H p = none → Q (V.ref p) (upd H p (HO.tup [V.int (i / j), V.int (i % j)])))
            (tCons (tOp (rIxL K) (tVar 0) (tC (V.int 1))) (tCons (tVar 1) tNil)))
            (gTup K 2 (gCons (gSub (tVar 0) (tC (V.int 1)) rSetL) (gCons (gName 3) gNil))))
          (tRet (tVar 3))) tNext)
      (tRet (tOp (rI (fun x j => j ≠ 0) fun i j => V.int (i.fmod j)) (tOp (rI CDiv fun i j => V.int (i / j)) (tOp (rIxL K) (tVar 0) (tC (V.int 0))) (tC (V.int 32))) (tVar 1))))
      { nx := fun x H' => Q V.non H', rt := Q } [some (.ref p), some (.int m), some (.int s0), none] H2 := by
    refine ⟨.ref p, rfl, p, _, 1, .int d0, rfl, rfl, SqL.of hp2, atI_nat (j := 1) rfl, d0, 0, rfl, rfl, _, rfl, ?_⟩
    refine ite2 (fun _ => ?_) (fun _ => ?_)
    · refine ⟨.ref p, rfl, p, _, 1, .int d0, rfl, rfl, SqL.of hp2, atI_nat (j := 1) rfl, .int m, rfl, d0, m, rfl, ⟨by omega, by omega⟩, fun t ht => ?_⟩
      have npt : p ≠ t := ne_of_none hp2 ht
      have hp3 : (upd H2 t (.tup [.int (d0 / m), .int (d0 % m)])) p = some (.lst [.int s2, .int d0, .int c1]) := by rw [upd_ne npt]; exact hp2
      refine ⟨t, [.int (d0 / m), .int (d0 % m)], rfl, .inl (.inl upd_same), rfl, .int (d0 / m), [.int (d0 % m)], rfl, .ref p, rfl, p, _, 1, 1, rfl, rfl, hp3, rfl, .int (d0 % m), [], rfl, rfl, ?_⟩
      refine ⟨.int (d0 % m), rfl, ?_⟩
      refine q (d0 % m) _ (Int.emod_nonneg _ (by omega)) (Int.emod_lt_of_pos _ (by omega)) ⟨s2, d0 / m, c1, upd_same, hs2a, hs2b, Int.ediv_nonneg hd0 (by omega)⟩ fun b o nb e => ?_
      rw [upd_ne nb, upd_ne (ne_of_none (kp2 b o nb e) ht)]
      exact kp2 b o nb e
    · refine ⟨.ref p, rfl, p, _, 0, .int s2, rfl, rfl, SqL.of hp2, atI_nat (j := 0) rfl, s2, 32, rfl, rfl, ⟨by decide, by decide⟩, .int m, rfl, _, m, rfl, rfl, (by show m ≠ 0; omega), ?_⟩
      have e : (s2 / 32).fmod m = (s2 / 32) % m := Int.fmod_eq_emod_of_nonneg _ (by omega)
      show Q (.int ((s2 / 32).fmod m)) H2
      rw [e]
      exact q _ H2 (Int.emod_nonneg _ (by omega)) (Int.emod_lt_of_pos _ (by omega)) ⟨s2, d0, c1, hp2, hs2a, hs2b, hd0⟩ kp2
theorem scTk : FnScope ["_law_purse_here", "_law_most", "_law_state", "_law_digit"] ["_law_purse_here", "_law_most"] (defScope sTake) :=
  ⟨rfl, rfl, rfl, by decide +kernel, rfl, by decide +kernel, by decide +kernel⟩
theorem ok_take {f : Addr} {fd : FuncData} (F : Fun K "_law_take" "_law_take" sTake f fd) (Y : Ty mg) :
    FnOk P w K mg base CX0 1 f fd ["_law_purse_here", "_law_most"] spTake := by
  refine F.ok scTk (fun vs H Q E h => ?_) (fun cdv A outer s H vs Q E hr h => ?_)
  · obtain ⟨p, m, rfl, _⟩ := h
    rfl
  · obtain ⟨p, m, rfl, ⟨s0, d0, c0, hp, hs0, hs1, hd0⟩, hm1, hm2, q⟩ := h
    refine ⟨_, pss_cons (ps_asg (pe_op op_add (pe_ix ix_list (pv 0) pe_int (fun _ _ => rfl)) pe_int) (pg_sub (pv 0) pe_int set_list))
      (pss_cons (ps_set (i := 2) scTk.nd rfl (Or.inl rfl) (pe_ix ix_list (pv 0) pe_int (fun _ _ => rfl)))
      (pss_cons (ps_asg (pe_op op_mod (pe_op op_add (pe_op op_mul (pv 2) (pe_op op_add (pe_op op_mod (pv 2) pe_int) pe_int)) (pe_op op_mul pe_int (pe_ix ix_list (pv 0) pe_int (fun _ _ => rfl)))) pe_int) (pg_sub (pv 0) pe_int set_list))
      (pss_cons (ps_if (pt_cmpR op_gt (pe_ix ix_list (pv 0) pe_int (fun _ _ => rfl)) pe_int (nomark _))
        (pss_cons (ps_asg (pe_callB call_divmod (by rfl) Y.divmod boot_divmod (pa_cons (pe_ix ix_list (pv 0) pe_int (fun _ _ => rfl)) (pa_cons (pv 1) pa_nil)))
            (pg_tup (by rfl) (pgs_cons (pg_sub (pv 0) pe_int set_list) (pgs_cons (pg_name (i := 3) scTk.nd rfl (Or.inl rfl)) pgs_nil))))
          (pss_one (ps_ret (pv 3)))) pss_nil)
      (pss_one (ps_ret (pe_op op_modN (pe_op op_fdiv (pe_ix ix_list (pv 0) pe_int (fun _ _ => rfl)) pe_int) (pv 1))))))), ?_⟩
    refine ⟨.ref p, rfl, p, _, 2, .int c0, rfl, rfl, SqL.of hp, atI_nat (j := 2) rfl, c0, 1, rfl, rfl, .ref p, rfl, p, _, 2, 2, rfl, rfl, hp, rfl, ?_⟩
    have hp1 : (upd H p (.lst [.int s0, .int d0, .int (c0 + 1)])) p = some (.lst [.int s0, .int d0, .int (c0 + 1)]) := upd_same
    refine ⟨.ref p, rfl, p, _, 0, .int s0, rfl, rfl, SqL.of hp1, atI_nat (j := 0) rfl, ?_⟩
    have hM : M0 = 1000000093 := rfl
    refine ⟨.int s0, rfl, .int s0, rfl, s0, 43003, rfl, rfl, (by show (0 : Int) < 43003; decide), _, 29009, rfl, rfl, s0, _, rfl, rfl, .inl ⟨by omega, by omega⟩, ?_⟩
    refine ⟨.ref p, rfl, p, _, 2, .int (c0 + 1), rfl, rfl, SqL.of hp1, atI_nat (j := 2) rfl, 60037, _, rfl, rfl, .inl ⟨by decide, by decide⟩, _, _, rfl, rfl, _, 1000000093, rfl, rfl, (by show (0 : Int) < 1000000093; decide), ?_⟩
    refine ⟨.ref p, rfl, p, _, 0, 0, rfl, rfl, hp1, rfl, ?_⟩
    have hs2a : 0 ≤ nextS s0 c0 := Int.emod_nonneg _ (by decide)
    have hs2b : nextS s0 c0 < M0 := Int.emod_lt_of_pos _ (by decide)
    refine take_fin (s2 := nextS s0 c0) (H2 := upd (upd H p (.lst [.int s0, .int d0, .int (c0 + 1)])) p (.lst [.int (nextS s0 c0), .int d0, .int (c0 + 1)])) upd_same (fun b o nb e => by rw [upd_ne nb, upd_ne nb]; exact e) hs2a hs2b hd0 hm1 hm2 q
/-! ### a word -/
theorem let26 : letS.cps.toList.length = 26 := by decide +kernel
theorem sum_ones : ∀ {ys : List Str}, (∀ y ∈ ys, y.length = 1) → (ys.map (·.length)).sum = ys.length
  | [], _ => rfl
  | y :: r, h => by
    rw [List.map_cons, List.sum_cons, h y List.mem_cons_self, sum_ones fun z hz => h z (List.mem_cons_of_mem _ hz), List.length_cons]
    omega
theorem join_len (ys : List Str) : (Txt.join "" ys).length = (ys.map (·.length)).sum := by
  have h := size_glued "" ys
  rw [show (("" : String) : Str).length = 0 from by decide +kernel, Nat.mul_zero, Nat.add_zero] at h
  exact h
def spWord : Sp := fun vs H Q _ => ∃ (p : Addr) (n : Nat), vs = [.ref p, .int n] ∧ Purse H p ∧ n ≤ 9 ∧
  ∀ (z : Str) H', z.length = n → Purse H' p → (∀ b o, b ≠ p → H b = some o → H' b = some o) → Q (.str z) H'
theorem scWd : FnScope ["_law_purse_here", "_law_size", "_law_letters", "_law_k"] ["_law_purse_here", "_law_size"] (defScope sWord) :=
  ⟨rfl, rfl, rfl, by decide +kernel, rfl, by decide +kernel, by decide +kernel⟩
theorem ok_word {f fT : Addr} {fd fdT : FuncData} (F : Fun K "_law_word" "_law_word" sWord f fd) (T : Tx mg) (Y : Ty mg)
    (FT : Fun K "_law_take" "_law_take" sTake fT fdT) (bT : Binds K fdT ["_law_purse_here", "_law_most"] []) (gT : mg "_law_take" = some (.ref fT)) :
    FnOk P w K mg base CX0 2 f fd ["_law_purse_here", "_law_size"] spWord := by
  have GT : FnOk P w K mg base CX0 1 fT fdT ["_law_purse_here", "_law_most"] spTake := ok_take FT Y
  refine F.ok scWd (fun vs H Q E h => ?_) (fun cdv A outer s H vs Q E hr h => ?_)
  · obtain ⟨p, m, rfl, _⟩ := h
    rfl
  · obtain ⟨p, n, rfl, hp, hn, q⟩ := h
    refine ⟨_, pss_cons (ps_set (i := 2) scWd.nd rfl (Or.inr rfl) pe_str)
      (pss_one (ps_ret (pe_join pe_str (pe_lc (own := [("_law_k", 3)]) (g := gName 3) (tt := tYes) rfl scWd.nd (pi_range1 (by rfl) T.rng (pa_cons (pv 1) pa_nil))
          (blkOk_by (N := ["_law_purse_here", "_law_size", "_law_letters", "_law_k"]) (sc := defScope sWord) (by decide +kernel))
          (fun _ _ _ _ _ => pg_name (i := 3) scWd.nd rfl (Or.inl rfl)) (fun _ _ _ _ _ => pts_nil)
          (fun _ _ _ _ _ => pe_ix ix_str (pv 2) (pe_call GT hr (by rfl) gT FT.kp bT .nil pass0 (pa_cons (pv 0) (pa_cons pe_int pa_nil))) (fun _ _ => rfl)))))), ?_⟩
    refine ⟨⟨_, rfl⟩, .int n, rfl, n, rfl, by omega, by omega, fun D hD => ?_⟩
    have npD : p ≠ D := by obtain ⟨_, _, _, e, _⟩ := hp; exact ne_of_none e hD
    refine lc_range (lo := 0) (n := ((n : Int)).toNat) (fun i H1 => ∃ ys : List Str, ys.length = i ∧ (∀ y ∈ ys, y.length = 1) ∧ H1 D = some (.lst (ys.map V.str)) ∧ Purse H1 p ∧ ∀ b o, b ≠ p → H b = some o → H1 b = some o)
      ⟨[], rfl, (fun y h => nomatch h), upd_same, ?_, fun b o _ e => same_upd hD b o e⟩ ?_ ?_
    · obtain ⟨a, b, c, e, r⟩ := hp
      exact ⟨a, b, c, by rw [upd_ne npD]; exact e, r⟩
    · rintro i H1 lt ⟨ys, ly, one, hd, pu, kp⟩
      refine ⟨rfl, ?_⟩
      refine ⟨.str letS, rfl, .ref p, rfl, p, 26, rfl, pu, by decide, by decide, fun r H2 h0 h1 pu2 kp2 => ?_⟩
      obtain ⟨c, hc⟩ : ∃ c, letS.cps.toList[r.toNat]? = some c := ⟨_, List.getElem?_eq_getElem (by rw [let26]; omega)⟩
      have er : r = ((r.toNat : Nat) : Int) := by omega
      refine ⟨letS, r, c, rfl, rfl, (by decide +kernel), (by rw [er]; exact atI_nat hc), ?_⟩
      have hd2 := kp2 D _ npD.symm hd
      refine ⟨_, hd2, ?_, ys ++ [⟨#[c]⟩], by rw [List.length_append, ly]; rfl, ?_, ?_, ?_, ?_⟩
      · rw [List.length_map, ly]
        exact small_lt (by omega)
      · intro y hy
        rcases List.mem_append.mp hy with z | z
        · exact one y z
        · rw [List.mem_singleton.mp z]; rfl
      · rw [upd_same, List.map_append]; rfl
      · obtain ⟨a, b, c, e, r⟩ := pu2
        exact ⟨a, b, c, by rw [upd_ne npD]; exact e, r⟩
      · intro b o nb e
        have nbD : b ≠ D := ne_of_none e hD
        rw [upd_ne nbD]
        exact kp2 b o nb (kp b o nb e)
    · rintro H1 ⟨ys, ly, one, hd, pu, kp⟩
      have ln : ys.length = n := by rw [ly]; omega
      have sm : (ys.map (·.length)).sum = ys.length := sum_ones one
      refine ⟨"", D, ys, rfl, rfl, .inl (.inl (.inl hd)), ?_, ?_⟩
      · rw [sm, ln, show (("" : String) : Str).length = 0 from by decide +kernel]; omega
      · exact q _ H1 (by rw [join_len, sm, ln]) pu kp
/-! ### a cell -/
theorem cut_ints {ns : List Int} {lo hi : Option Int} {i : Nat} {v : V} (h : (cutV (ns.map V.int) lo hi)[i]? = some v) : ∃ n, v = .int n := by
  have hm : v ∈ ns.map V.int := by
    have := List.mem_of_getElem? h
    unfold cutV at this
    exact List.mem_of_mem_drop (List.mem_of_mem_take this)
  obtain ⟨n, _, e⟩ := List.mem_map.mp hm
  exact ⟨n, e.symm⟩
def spCell (K : PySem.W.Frag) : Sp := fun vs H Q _ => ∃ (a : Addr) (ns : List Int) (k : Int), vs = [.ref a, .int k] ∧ SqL K H a (ns.map V.int) ∧ 0 ≤ k ∧ k ≤ 63 ∧
  ∀ n H', Same H H' → Q (.int n) H'
theorem scCe : FnScope ["_law_script", "_law_k", "_law_state", "_law_cell_here"] ["_law_script", "_law_k"] (defScope sCell) :=
  ⟨rfl, rfl, rfl, by decide +kernel, rfl, by decide +kernel, by decide +kernel⟩
theorem ok_cell {f : Addr} {fd : FuncData} (F : Fun K "_law_cell" "_law_cell" sCell f fd) (T : Tx mg) :
    FnOk P w K mg base CX0 1 f fd ["_law_script", "_law_k"] (spCell K) := by
  refine F.ok scCe (fun vs H Q E h => ?_) (fun cdv A outer s H vs Q E hr h => ?_)
  · obtain ⟨p, m, k, rfl, _⟩ := h
    rfl
  · obtain ⟨a, ns, k, rfl, hS, hk0, hk1, q⟩ := h
    refine ⟨_, pss_cons (ps_if (pt_cmpR op_lt (pv 1) (pe_callB call_len_seq (by rfl) T.len PySem.boot_len (pa_cons (pv 0) pa_nil)) (nomark _))
        (pss_one (ps_ret (pe_ix ix_list (pv 0) (pv 1) (fun _ _ => rfl)))) pss_nil)
      (pss_cons (ps_set (i := 2) scCe.nd rfl (Or.inl rfl) (pe_op op_mod (pe_op op_mul pe_int (pe_op op_add (pe_op op_add (pe_op op_mul (pv 1) (pv 1)) (pe_op op_mul pe_int (pv 1))) pe_int)) pe_int))
      (pss_cons (ps_for PassesOwn.never rfl (pi_list (pe_slice sl_list (pv 0) po_none (po_some pe_int))) (pg_name (i := 3) scCe.nd rfl (Or.inl rfl))
        (pss_one (ps_set (i := 2) scCe.nd rfl (Or.inl rfl) (pe_op op_mod (pe_op op_add (pe_op op_mul (pv 2) pe_int) (pv 3)) pe_int))))
      (pss_one (ps_ret (pv 2))))), ?_⟩
    refine ⟨.int k, rfl, .ref a, rfl, a, _, rfl, .inl hS, k, _, rfl, rfl, _, rfl, ?_⟩
    refine ite2 (fun hlt => ?_) (fun hlt => ?_)
    · have hlt' : k < ((ns.map V.int).length : Int) := of_decide_eq_true hlt
      rw [List.length_map] at hlt'
      obtain ⟨j, rfl⟩ : ∃ j : Nat, k = j := ⟨k.toNat, by omega⟩
      have hi : j < ns.length := by omega
      have hg : (ns.map V.int)[j]? = some (.int ns[j]) := by
        rw [List.getElem?_map, List.getElem?_eq_getElem hi]; rfl
      refine ⟨.ref a, rfl, .int j, rfl, a, _, j, .int ns[j], rfl, rfl, hS, atI_nat hg, ?_⟩
      exact q _ H (Same.refl H)
    · refine ⟨.int k, rfl, .int k, rfl, k, k, rfl, rfl, .inl ⟨by omega, by omega⟩, .int k, rfl, 11, k, rfl, rfl, .inl ⟨by decide, by decide⟩, _, _, rfl, rfl, _, 3, rfl, rfl, 58013, _, rfl, rfl, .inl ⟨by decide, by decide⟩, _, 1000000093, rfl, rfl, (by show (0 : Int) < 1000000093; decide), ?_⟩
      refine ⟨.ref a, rfl, 3, rfl, a, _, rfl, hS, fun c hc => ?_⟩
      refine ⟨c, rfl, ⟨_, .inl (.inl upd_same)⟩, for_list (K := K) (a := c) (xs := cutV (ns.map V.int) none (some 3)) (fun i σ H1 => ∃ (st : Int) (z : Option V), σ = [some (.ref a), some (.int k), some (.int st), z] ∧ 0 ≤ st ∧ st < M0 ∧ H1 = upd H c (.lst (cutV (ns.map V.int) none (some 3)))) ⟨_, none, rfl, Int.emod_nonneg _ (by decide), Int.emod_lt_of_pos _ (by decide), rfl⟩ (fun i σ H1 _ ⟨_, _, _, _, _, e⟩ => by rw [e]; exact .inl (.inl upd_same)) ?_ ?_⟩
      · rintro i x σ H1 hx ⟨st, z, rfl, h0, h1, rfl⟩
        obtain ⟨n, rfl⟩ := cut_ints hx
        have hM : M0 = 1000000093 := rfl
        refine ⟨.int st, rfl, st, 35027, rfl, rfl, .inl ⟨by omega, by omega⟩, .int n, rfl, _, n, rfl, rfl, _, 1000000093, rfl, rfl, (by show (0 : Int) < 1000000093; decide), ?_⟩
        exact ⟨_, _, rfl, Int.emod_nonneg _ (by decide), Int.emod_lt_of_pos _ (by decide), rfl⟩
      · rintro σ H1 ⟨st, z, rfl, h0, h1, rfl⟩
        exact ⟨.int st, rfl, q st _ (same_upd hc)⟩
/-! ### asked -/
theorem two_bools (b : Bool) : (PyData.list [.bool b, .bool b]).showable = true ∧ (PyData.list [.bool b, .bool b]).hasDict = false ∧ (PyData.list [.bool b, .bool b]).depth ≤ 60 ∧ (PyData.list [.bool b, .bool b]).shown.length ≤ sizeLine := by
  cases b <;> exact ⟨by decide +kernel, by decide +kernel, by decide +kernel, by decide +kernel⟩
def spAsked (K : PySem.W.Frag) : Sp := fun vs H Q _ => ∃ v, vs = [v] ∧ KindOk K H v ∧ (∀ H', Same H H' → KindOk K H' v) ∧ ∀ H', Same H H' → Q (.bl true) H'
theorem scAs : FnScope ["_law_item", "_law_told"] ["_law_item"] (defScope sAsked) :=
  ⟨rfl, rfl, rfl, by decide +kernel, rfl, by decide +kernel, by decide +kernel⟩
theorem ok_asked {f fN fD : Addr} {fd fdN fdD : FuncData} (F : Fun K "_law_asked" "_law_asked" sAsked f fd) (T : Tx mg) (Y : Ty mg)
    (FN : Fun K "is_name" "is_name" sIsName fN fdN) (bN : Binds K fdN ["thing"] []) (kN : KBinds K fdN ["thing"] ["thing"] (fun us ws => us ++ ws) (fun vs zs => vs ++ zs)) (gN : mg "is_name" = some (.ref fN))
    (FD : Fun K "_law_due" "_law_due" sDue fD fdD) (bD : Binds K fdD ["_law_item"] []) (gD : mg "_law_due" = some (.ref fD)) :
    FnG P w K mg base CX0 2 f fd ["_law_item"] (spAsked K) := by
  have GN : FnOk P w K mg base CX0 1 fN fdN ["thing"] (spIsName K) := ok_isName FN T
  have GD : FnOk P w K mg base CX0 1 fD fdD ["_law_item"] (spDue K) := ok_due FD T
  refine okG F scAs (fun vs H Q E h => ?_) (fun cdv A outer s H vs Q E hg hr h => ?_)
  · obtain ⟨v, rfl, _⟩ := h
    rfl
  · obtain ⟨v, rfl, hk, hks, q⟩ := h
    refine ⟨_, pss_cons (ps_set (i := 1) scAs.nd rfl (Or.inl rfl) (pe_lst (pa_cons (pe_call GN hr (by rfl) gN FN.kp bN .nil pass0 (pa_cons (pv 0) pa_nil))
        (pa_cons (pe_callK0 GN hr (by rfl) gN FN.kp kN pass0 (pk_cons (pv 0) pk_nil)) pa_nil))))
      (pss_one (ps_ret (pe_cmpR op_eq (pe_callB (call_reprD hg hr) (by rfl) Y.repr boot_repr (pa_cons (pv 1) pa_nil))
        (pe_callB (call_reprD hg hr) (by rfl) Y.repr boot_repr (pa_cons (pe_op op_rep (pe_lst (pa_cons (pe_call GD hr (by rfl) gD FD.kp bD .nil pass0 (pa_cons (pv 0) pa_nil)) pa_nil)) pe_int) pa_nil)) (nomark _)))), ?_⟩
    refine ⟨v, rfl, v, rfl, hk, fun H1 s1 => ?_⟩
    refine ⟨v, rfl, v, rfl, hks H1 s1, fun H2 s2 => ?_⟩
    refine ⟨by show 2 ≤ sizeLine; decide, fun p np => ?_⟩
    have s3 : Same H2 (upd H2 p (.lst [.bl (nameV v), .bl (nameV v)])) := same_upd np
    obtain ⟨d1, d2, d3, d4⟩ := two_bools (nameV v)
    refine ⟨.ref p, rfl, p, .list [.bool (nameV v), .bool (nameV v)], rfl, .lst (SqL.of upd_same) (.cons (.bl _) (.cons (.bl _) .nil)), d1, d2, d3, d4, ?_⟩
    have s03 := (s1.trans s2).trans s3
    refine ⟨v, rfl, v, rfl, hks _ s03, (by show 1 ≤ sizeLine; decide), fun p2 np2 => ?_⟩
    refine ⟨p2, 2, [.bl (nameV v)], rfl, rfl, upd_same, by decide, by decide, (by show 1 * 2 ≤ sizeLine; decide), fun p3 np3 => ?_⟩
    refine ⟨p3, .list [.bool (nameV v), .bool (nameV v)], rfl, .lst (SqL.of upd_same) (.cons (.bl _) (.cons (.bl _) .nil)), d1, d2, d3, d4, rfl, ?_⟩
    show Q (.bl (decide _)) _
    rw [decide_eq_true rfl]
    exact q _ ((s03.trans (same_upd np2)).trans (same_upd np3))
/-! ### things of other kinds -/
/-- what stands as it is and is no name, or a text -/
inductive Kd (C : Addr) (H : Hp) : V → Prop
  | str (z : Str) (h : z.length ≤ 1000000) : Kd C H (.str z)
  | non : Kd C H .non
  | bl (b : Bool) : Kd C H (.bl b)
  | int (i : Int) : Kd C H (.int i)
  | lst {a : Addr} {xs : List V} (e : H a = some (.lst xs)) : Kd C H (.ref a)
  | tup {a : Addr} {xs : List V} (e : H a = some (.tup xs)) : Kd C H (.ref a)
  | dK {a : Addr} {kvs : List (Key × V)} (e : H a = some (.dK kvs)) : Kd C H (.ref a)
  | ins {a dx : Addr} {fs : List (Str × V)} (e : H a = some (.ins C dx fs)) : Kd C H (.ref a)
theorem Kd.same {C : Addr} {H H' : Hp} {v : V} (k : Kd C H v) (h : Same H H') : Kd C H' v := by
  cases k with
  | str z h => exact .str z h
  | non => exact .non
  | bl b => exact .bl b
  | int i => exact .int i
  | lst e => exact .lst (h _ _ e)
  | tup e => exact .tup (h _ _ e)
  | dK e => exact .dK (h _ _ e)
  | ins e => exact .ins (h _ _ e)
/-- of which class an instance is told to be, and that it is no text -/
structure Ti (K : PySem.W.Frag) (C : Addr) : Prop where
  is : ∀ {H : Hp} {a dx : Addr} {fs : List (Str × V)}, H a = some (.ins C dx fs) → TyOf K H (.ref a) (.ref C)
  no : PySem.W.kitOne K (.ref C) (.type "str") = some false
theorem Kd.kind {K : PySem.W.Frag} {C : Addr} (I : Ti K C) {H : Hp} {v : V} (k : Kd C H v) : KindOk K H v := by
  cases k with
  | str z h => exact .inl ⟨z, rfl, small_le (by omega)⟩
  | non => exact .inr ⟨(fun _ e => nomatch e), _, .base .non, kit_ty (by decide +kernel)⟩
  | bl b => exact .inr ⟨(fun _ e => nomatch e), _, .base (.bl b), kit_ty (by decide +kernel)⟩
  | int i => exact .inr ⟨(fun _ e => nomatch e), _, .base (.int i), kit_ty (by decide +kernel)⟩
  | lst e => exact .inr ⟨(fun _ e => nomatch e), _, .base (.lst e), kit_ty (by decide +kernel)⟩
  | tup e => exact .inr ⟨(fun _ e => nomatch e), _, .base (.tup e), kit_ty (by decide +kernel)⟩
  | dK e => exact .inr ⟨(fun _ e => nomatch e), _, .base (.dK e), kit_ty (by decide +kernel)⟩
  | ins e => exact .inr ⟨(fun _ e => nomatch e), _, .base (I.is e), I.no⟩
end
end Hee




set_option Elab.async false
set_option linter.all false
set_option maxRecDepth 100000
namespace Hee
open PySem PySem.Spec PyProof.Rows L2
section
variable {P : Program} {w : World} {K : PySem.W.Frag}
  {mg : Str → Option Value} {base : Heap}
/-! ### others -/
theorem folkA : FolkOk [(("a" : Str), none)] where
  there := fun x y h => by
    unfold lookF at h
    rw [List.find?_cons] at h
    by_cases e : (("a" : String) : Str) = x
    · rw [decide_eq_true e] at h; cases h
    · rw [decide_eq_false e] at h; cases h
  lead := fun p hp => by
    rw [List.mem_singleton.mp hp]
    decide +kernel
  one := by decide
  most := by decide
  nm := fun p hp => by
    rw [List.mem_singleton.mp hp]
    exact ⟨by decide +kernel, fun x e => nomatch e⟩
  rise := ⟨by decide +kernel, trivial⟩
def spOthers (C : Addr) : Sp := fun vs H Q _ => ∃ z : Str, vs = [.str z] ∧ z.length ≤ 1000 ∧
  ∀ p H' xs, Same H H' → H' p = some (.lst xs) → (∀ v ∈ xs, Kd C H' v) → xs.length ≤ 100 → Q (.ref p) H'
theorem others_fin2 {H H8 H13 : Hp} {z : Str} {xs : List V} {p11 p12 p13 x dx C : Addr} {Q : VK} (s0 : Same H H13) (s8 : Same H8 H13)
    (k11 : H13 p11 = some (.lst (xs ++ [.int (10 ^ (30 : Int).toNat), .int (-1)]))) (t12 : H13 p12 = some (.tup [.str "a", .non])) (t13 : H13 p13 = some (.tup [.ref p12]))
    (kk : ∀ v ∈ xs, Kd C H8 v) (hl : xs.length ≤ 50)
    (q : ∀ p H' xs, Same H H' → H' p = some (.lst xs) → (∀ v ∈ xs, Kd C H' v) → xs.length ≤ 100 → Q (.ref p) H')
    (nx : H13 x = none) (ndx : H13 dx = none) (nex : dx ≠ x) :
    spInit K C [.ref x, .ref p13] (upd (upd H13 dx (.own x)) x (.ins C dx []))
      (fun v H2 => v = .non ∧ tCons (tTup (tCons (tVar 0) (tCons (tC V.non) tNil))) tNil [some (.str z), some (.ref p11)] H2 fun ys H3 =>
        (V.ref x :: ys).length ≤ sizeLine ∧ ∀ p, H3 p = none → rCat (.ref p11) (.ref p) (upd H3 p (.lst (.ref x :: ys))) Q) E0 := by
  have sx : Same H13 (upd (upd H13 dx (.own x)) x (.ins C dx [])) := fun b o e => by
    rw [upd_ne (ne_of_none e nx), upd_ne (ne_of_none e ndx)]; exact e
  refine ⟨x, dx, p13, [p12], [(("a" : Str), none)], rfl, upd_same, ⟨.inl (.inl (sx _ _ t13)), rfl, fun i t p h1 h2 => ?_⟩, folkA, fun d H' nd web kp => ⟨rfl, ?_⟩⟩
  · match i, h1, h2 with
    | 0, h1, h2 =>
      cases h1
      cases h2
      exact .inl (.inl (sx _ _ t12))
    | i + 1, h1, _ => simp at h1
  · have s' : Same H13 H' := fun b o e => kp b o (ne_of_none e nx) (sx b o e)
    obtain ⟨⟨dy, kx⟩, _⟩ := web
    refine ⟨.str z, rfl, (by show 2 ≤ sizeLine; decide), fun p14 n14 => ⟨(by show 2 ≤ sizeLine; decide), fun p15 n15 => ?_⟩⟩
    have s14 := same_upd (o := .tup [.str z, .non]) n14
    have s15 := same_upd (o := .lst [.ref x, .ref p14]) n15
    refine ⟨p11, p15, _, _, rfl, rfl, s15 _ _ (s14 _ _ (s' _ _ k11)), upd_same, small_le (by rw [List.length_append]; show xs.length + 2 + 2 ≤ _; omega), fun p16 n16 => ?_⟩
    have s16 := same_upd (o := .lst ((xs ++ [.int (10 ^ (30 : Int).toNat), .int (-1)]) ++ [.ref x, .ref p14])) n16
    refine q p16 _ _ ((((s0.trans s').trans s14).trans s15).trans s16) upd_same (fun v hv => ?_) (by rw [List.length_append, List.length_append]; show xs.length + 2 + 2 ≤ 100; omega)
    rcases List.mem_append.mp hv with h | h
    · rcases List.mem_append.mp h with h | h
      · exact (kk v h).same ((((s8.trans s').trans s14).trans s15).trans s16)
      · simp only [List.mem_cons, List.not_mem_nil, or_false] at h
        rcases h with e | e <;> rw [e] <;> exact .int _
    · simp only [List.mem_cons, List.not_mem_nil, or_false] at h
      rcases h with e | e <;> rw [e]
      · exact .ins (s16 _ _ (s15 _ _ (s14 _ _ kx)))
      · exact .tup (s16 _ _ (s15 _ _ upd_same))
theorem others_fin {H H8 H9 : Hp} {z : Str} {xs : List V} {p9 C : Addr} {Q : VK} (s8 : Same H H8) (s9 : Same H8 H9) (k9 : H9 p9 = some (.lst xs)) (kk : ∀ v ∈ xs, Kd C H8 v) (hl : xs.length ≤ 50)
    (q : ∀ p H' xs, Same H H' → H' p = some (.lst xs) → (∀ v ∈ xs, Kd C H' v) → xs.length ≤ 100 → Q (.ref p) H') :
    (tSeq (tAsg (tOp rCat (tVar 1) (tLst (tCons (tOp (rI CPow fun i j => V.int (i ^ j.toNat)) (tC (V.int 10)) (tC (V.int 30))) (tCons (tUn (rU fun i => V.int (-i)) (tC (V.int 1))) tNil)))) (gName 1))
      (tRet (tOp rCat (tVar 1) (tLst (tCons (tMake C (spInit K C) [] E0 (tCons (tTup (tCons (tTup (tCons (tC (V.str (Str.ofString "a"))) (tCons (tC V.non) tNil))) tNil)) tNil)) (tCons (tTup (tCons (tVar 0) (tCons (tC V.non) tNil))) tNil))))))
      { nx := fun _ H' => Q V.non H', rt := Q } [some (.str z), some (.ref p9)] H9 := by
  refine ⟨.ref p9, rfl, 10, 30, rfl, rfl, ⟨by decide, by decide, by decide⟩, 1, rfl, (by show 2 ≤ sizeLine; decide), fun p10 n10 => ?_⟩
  have s10 : Same H9 (upd H9 p10 (.lst [.int (10 ^ (30 : Int).toNat), .int (-1)])) := same_upd n10
  refine ⟨p9, p10, xs, _, rfl, rfl, s10 _ _ k9, upd_same, small_le (by show xs.length + 2 ≤ _; omega), fun p11 n11 => ?_⟩
  have s11 := same_upd (o := .lst (xs ++ [.int (10 ^ (30 : Int).toNat), .int (-1)])) n11
  refine ⟨.ref p11, rfl, (by show 2 ≤ sizeLine; decide), fun p12 n12 => ⟨(by show 1 ≤ sizeLine; decide), fun p13 n13 => fun x dx nx ndx nex => ?_⟩⟩
  have s12 := same_upd (o := .tup [.str "a", .non]) n12
  have s13 := same_upd (o := .tup [.ref p12]) n13
  have k11 := s13 _ _ (s12 _ _ (upd_same (H := upd H9 p10 (.lst [.int (10 ^ (30 : Int).toNat), .int (-1)])) (a := p11) (o := .lst (xs ++ [.int (10 ^ (30 : Int).toNat), .int (-1)]))))
  have s0 := ((((s8.trans s9).trans s10).trans s11).trans s12).trans s13
  have s8x := (((s9.trans s10).trans s11).trans s12).trans s13
  have t12 := s13 _ _ (upd_same (H := upd (upd H9 p10 (.lst [.int (10 ^ (30 : Int).toNat), .int (-1)])) p11 (.lst (xs ++ [.int (10 ^ (30 : Int).toNat), .int (-1)]))) (a := p12) (o := .tup [.str "a", .non]))
  exact others_fin2 s0 s8x k11 t12 upd_same kk hl q nx ndx nex
theorem scOt : FnScope ["_law_word_here", "_law_some"] ["_law_word_here"] (defScope sOthers) :=
  ⟨rfl, rfl, rfl, by decide +kernel, rfl, by decide +kernel, by decide +kernel⟩
theorem ok_others {f fI C : Addr} {fd fdI : FuncData} (F : Fun K "_law_others" "_law_others" sOthers f fd) (T : Tx mg) (W : Tw K mg C) (MK : Mk K C fI)
    (FI : Fun K "__init__" "Web.__init__" sInit fI fdI) (bI : Binds K fdI ["self", "persons"] [])
    (GI : FnOk P w K mg base CX0 4 fI fdI ["self", "persons"] (spInit K C)) :
    FnOk P w K mg base CX0 6 f fd ["_law_word_here"] (spOthers C) := by
  refine F.ok scOt (fun vs H Q E h => ?_) (fun cdv A outer s H vs Q E hr h => ?_)
  · obtain ⟨z, rfl, _⟩ := h
    rfl
  · obtain ⟨z, rfl, hz, q⟩ := h
    refine ⟨_, pss_cons (ps_set (i := 1) scOt.nd rfl (Or.inl rfl) (pe_lst (pa_cons pe_non (pa_cons pe_bl (pa_cons pe_bl (pa_cons pe_int (pa_cons pe_int
        (pa_cons (pe_lst (pa_cons (pv 0) pa_nil)) (pa_cons (pe_tup (pa_cons (pv 0) pa_nil)) (pa_cons pe_dnewK (pa_cons (pe_lst pa_nil) (pa_cons (pe_tup pa_nil)
        (pa_cons (pe_disp (pps_cons (pv 0) (pv 0) pps_nil) (by rfl) (by rfl) (fun z => by cases z) (by decide)) (pa_cons (pe_tup (pa_cons (pe_tup (pa_cons (pv 0) pa_nil)) pa_nil)) pa_nil))))))))))))))
      (pss_cons (ps_set (i := 1) scOt.nd rfl (Or.inl rfl) (pe_op op_cat (pv 1) (pe_lst (pa_cons (pe_op op_pow pe_int pe_int) (pa_cons (pe_un un_neg pe_int) pa_nil)))))
      (pss_one (ps_ret (pe_op op_cat (pv 1) (pe_lst (pa_cons (pe_make MK GI hr (by rfl) W.mgC bI .nil pass0 (pa_cons (pe_tup (pa_cons (pe_tup (pa_cons pe_str (pa_cons pe_non pa_nil))) pa_nil)) pa_nil))
        (pa_cons (pe_tup (pa_cons (pv 0) (pa_cons pe_non pa_nil))) pa_nil))))))), ?_⟩
    refine ⟨.str z, rfl, (by show 1 ≤ sizeLine; decide), fun p1 n1 => ?_⟩
    have k1 : upd H p1 (.lst [.str z]) p1 = some (.lst [.str z]) := upd_same
    have s1 : Same H (upd H p1 (.lst [.str z])) := same_upd n1
    generalize upd H p1 (HO.lst [V.str z]) = H1 at k1 s1 ⊢
    refine ⟨.str z, rfl, (by show 1 ≤ sizeLine; decide), fun p2 n2 => ?_⟩
    have k2 : upd H1 p2 (.tup [.str z]) p2 = some (.tup [.str z]) := upd_same
    have s2 : Same H1 (upd H1 p2 (.tup [.str z])) := same_upd n2
    generalize upd H1 p2 (HO.tup [V.str z]) = H2 at k2 s2 ⊢
    intro p3 n3
    have k3 : upd H2 p3 (.dK []) p3 = some (.dK []) := upd_same
    have s3 : Same H2 (upd H2 p3 (.dK [])) := same_upd n3
    generalize upd H2 p3 (HO.dK []) = H3 at k3 s3 ⊢
    refine ⟨Nat.zero_le _, fun p4 n4 => ?_⟩
    have k4 : upd H3 p4 (.lst []) p4 = some (.lst []) := upd_same
    have s4 : Same H3 (upd H3 p4 (.lst [])) := same_upd n4
    generalize upd H3 p4 (HO.lst []) = H4 at k4 s4 ⊢
    refine ⟨Nat.zero_le _, fun p5 n5 => ?_⟩
    have k5 : upd H4 p5 (.tup []) p5 = some (.tup []) := upd_same
    have s5 : Same H4 (upd H4 p5 (.tup [])) := same_upd n5
    generalize upd H4 p5 (HO.tup []) = H5 at k5 s5 ⊢
    refine fun p6 n6 => ⟨.str z, rfl, .str z, rfl, upd_same, [(Sum.inr z, .str z)], rfl, (by show 1 ≤ 15; decide), ?_⟩
    have s6 : Same H5 (upd (upd H5 p6 (.dK [])) p6 (.dK (mergeK [] [(Sum.inr z, .str z)]))) := fun b o e => by
      rw [upd_ne (ne_of_none e n6), upd_ne (ne_of_none e n6)]; exact e
    have k6 : (upd (upd H5 p6 (.dK [])) p6 (.dK (mergeK [] [(Sum.inr z, .str z)]))) p6 = some (.dK (mergeK [] [(Sum.inr z, .str z)])) := upd_same
    generalize upd (upd H5 p6 (HO.dK [])) p6 (HO.dK (mergeK [] [(Sum.inr z, V.str z)])) = H6 at k6 s6 ⊢
    refine ⟨.str z, rfl, (by show 1 ≤ sizeLine; decide), fun p7 n7 => ?_⟩
    have k7 : upd H6 p7 (.tup [.str z]) p7 = some (.tup [.str z]) := upd_same
    have s7 : Same H6 (upd H6 p7 (.tup [.str z])) := same_upd n7
    generalize upd H6 p7 (HO.tup [V.str z]) = H7 at k7 s7 ⊢
    refine ⟨(by show 1 ≤ sizeLine; decide), fun p8 n8 => ?_⟩
    have k8 : upd H7 p8 (.tup [.ref p7]) p8 = some (.tup [.ref p7]) := upd_same
    have s8 : Same H7 (upd H7 p8 (.tup [.ref p7])) := same_upd n8
    generalize upd H7 p8 (HO.tup [V.ref p7]) = H8 at k8 s8 ⊢
    refine ⟨(by show 12 ≤ sizeLine; decide), fun p9 n9 => ?_⟩
    have s68 := (s7.trans s8)
    have s58 := s6.trans s68
    have s48 := s5.trans s58
    have s38 := s4.trans s48
    have s28 := s3.trans s38
    have s18 := s2.trans s28
    have s08 := s1.trans s18
    have kk : ∀ v ∈ [V.non, .bl true, .bl false, .int 0, .int 1, .ref p1, .ref p2, .ref p3, .ref p4, .ref p5, .ref p6, .ref p8], Kd C H8 v := by
      intro v hv
      simp only [List.mem_cons, List.not_mem_nil, or_false] at hv
      rcases hv with e | e | e | e | e | e | e | e | e | e | e | e <;> rw [e]
      · exact .non
      · exact .bl _
      · exact .bl _
      · exact .int _
      · exact .int _
      · exact .lst (s18 _ _ k1)
      · exact .tup (s28 _ _ k2)
      · exact .dK (s38 _ _ k3)
      · exact .lst (s48 _ _ k4)
      · exact .tup (s58 _ _ k5)
      · exact .dK (s68 _ _ k6)
      · exact .tup k8
    have k9 : upd H8 p9 (.lst [V.non, .bl true, .bl false, .int 0, .int 1, .ref p1, .ref p2, .ref p3, .ref p4, .ref p5, .ref p6, .ref p8]) p9 = some (.lst [V.non, .bl true, .bl false, .int 0, .int 1, .ref p1, .ref p2, .ref p3, .ref p4, .ref p5, .ref p6, .ref p8]) := upd_same
    have s9 : Same H8 (upd H8 p9 (.lst [V.non, .bl true, .bl false, .int 0, .int 1, .ref p1, .ref p2, .ref p3, .ref p4, .ref p5, .ref p6, .ref p8])) := same_upd n9
    refine others_fin (xs := [V.non, .bl true, .bl false, .int 0, .int 1, .ref p1, .ref p2, .ref p3, .ref p4, .ref p5, .ref p6, .ref p8]) s08 s9 k9 kk (by show 12 ≤ 50; decide) q
end
end Hee


set_option Elab.async false
set_option linter.all false
set_option maxRecDepth 100000
namespace Hee
open PySem PySem.Spec PyProof.Rows L2
section
variable {P : Program} {w : World} {K : PySem.W.Frag}
  {mg : Str → Option Value} {base : Heap}
/-- all of them -/
theorem all_true {n : Nat} : (List.replicate n true).all id = true := by
  rw [List.all_eq_true]
  intro b hb
  exact (List.mem_replicate.mp hb).2
def sigS : Str := "ABCXYZ0123456789 .,;:-_>?!'\x40[]{}()*&^$#+=|/~\n"
theorem sig45 : sigS.length = 45 := by decide +kernel
theorem sigL45 : sigS.cps.toList.length = 45 := by decide +kernel
def cnt (n : Nat) : Int := if (if (6 : Int) < n then 6 else (n : Int)) > 2 then (if (6 : Int) < n then 6 else (n : Int)) else 2
theorem cnt_ge (n : Nat) : 2 ≤ cnt n := by unfold cnt; split <;> omega
theorem cnt_le (n : Nat) : cnt n ≤ 6 := by unfold cnt; split <;> (try split) <;> omega
theorem cutS_len (z : Str) (lo hi : Option Int) : (cutS z lo hi).length ≤ z.length := by
  show ((z.cps.toList.drop _).take _).toArray.size ≤ z.cps.size
  rw [List.size_toArray, List.length_take, List.length_drop, Array.length_toList]
  omega
def strs1 : List Str := ["", "a", "z", "az", "abcdef", "abcdefg", "A", "aB", "a ", " a", "a1", "1", "zzzzzz", "zzzzzzz", "_", "a-b"]
def strs2 : List Str := ["a\n", "abcdef\n", "\na", "abcdefg\n", "a\nb", "\n"]
theorem strs_short : ∀ z ∈ strs1 ++ strs2, z.length ≤ 1000000 := by decide +kernel
theorem inner_fin {C p14 : Addr} {H11 H14 : Hp} {xs : List V} {D : Ends} {y0 y1 y3 y4 y5 y6 y7 y8 y9 : Option V} (I : Ti K C) (sm0 : Same H11 H14) (h14 : H14 p14 = some (.lst xs)) (hx : ∀ v ∈ xs, Kd C H14 v) (hl : xs.length ≤ 100)
    (q : ∀ H15, Same H11 H15 → D.nx [y0, y1, some (.ref p14), y3, y4, y5, y6, y7, y8, y9] H15) :
    tIfS (tNot (tB (tCB (rAll K) (tCons (tLc (iList K (tVar 2)) (gName 9) tYes (tCall (spAsked K) [] E0 (tCons (tVar 9) tNil)) [9]) tNil)))) (tRet (tC (V.bl false))) tNext D [y0, y1, some (.ref p14), y3, y4, y5, y6, y7, y8, y9] H14 := by
  refine ⟨.ref p14, rfl, p14, rfl, ⟨_, SqL.of h14⟩, fun D hD0 => lc_list (K := K) (a := p14) (xs := xs) (fun i Hi => Same H14 Hi ∧ Hi D = some (.lst (List.replicate i (.bl true)))) ⟨same_upd hD0, upd_same⟩ (fun i Hi _ h => SqL.of (h.1 _ _ h14)) ?_ ?_⟩
  · rintro i v Hi hv ⟨sm, hd⟩
    have hi := (List.getElem?_eq_some_iff.mp hv).1
    have kd := (hx v (List.mem_of_getElem? hv)).same sm
    refine ⟨rfl, ?_⟩
    refine ⟨v, rfl, v, rfl, kd.kind I, fun H3 s3 => (kd.same s3).kind I, fun H3 s3 => ⟨_, s3 _ _ hd, ?_, ?_, ?_⟩⟩
    · rw [List.length_replicate]; exact small_lt (Nat.lt_of_lt_of_le hi (Nat.le_trans hl (by decide)))
    · intro b o e
      rw [upd_ne (ne_of_none e hD0)]
      exact s3 _ _ (sm b o e)
    · rw [upd_same, List.replicate_succ']
  rintro H4 ⟨s4, hD⟩
  refine ⟨D, List.replicate xs.length true, rfl, SqL.of (by rw [List.map_replicate]; exact hD), true, by rw [all_true], ?_⟩
  refine iteF ?_
  exact q H4 (sm0.trans s4)
def spLaw (K : PySem.W.Frag) : Sp := fun vs H Q _ => ∃ (a : Addr) (ns : List Int), vs = [.ref a] ∧ SqL K H a (ns.map V.int) ∧ ns.length ≤ 63 ∧ ∀ H', Q (.bl true) H'
abbrev NL : List Str := ["_law_script", "_law_signs", "_law_some", "_law_word_here", "_law_k", "_law_purse_here", "_law_size", "_law_at", "_law_sign", "_law_item"]
theorem scL : FnScope NL ["_law_script"] (defScope sLaw) :=
  ⟨rfl, rfl, rfl, by decide +kernel, rfl, by decide +kernel, by decide +kernel⟩
theorem ok_law {f fA fP fC fT fW fO C : Addr} {fd fdA fdP fdC fdT fdW fdO : FuncData} (F : Fun K "law" "law" sLaw f fd) (T : Tx mg) (Y : Ty mg) (I : Ti K C)
    (FA : Fun K "_law_asked" "_law_asked" sAsked fA fdA) (bA : Binds K fdA ["_law_item"] []) (gA : mg "_law_asked" = some (.ref fA)) (GA : FnG P w K mg base CX0 2 fA fdA ["_law_item"] (spAsked K))
    (FP : Fun K "_law_purse" "_law_purse" sPurse fP fdP) (bP : Binds K fdP ["_law_cell_here"] []) (gP : mg "_law_purse" = some (.ref fP)) (GP : FnOk P w K mg base CX0 1 fP fdP ["_law_cell_here"] spPurse)
    (FC : Fun K "_law_cell" "_law_cell" sCell fC fdC) (bC : Binds K fdC ["_law_script", "_law_k"] []) (gC : mg "_law_cell" = some (.ref fC)) (GC : FnOk P w K mg base CX0 1 fC fdC ["_law_script", "_law_k"] (spCell K))
    (FT : Fun K "_law_take" "_law_take" sTake fT fdT) (bT : Binds K fdT ["_law_purse_here", "_law_most"] []) (gT : mg "_law_take" = some (.ref fT)) (GT : FnOk P w K mg base CX0 1 fT fdT ["_law_purse_here", "_law_most"] spTake)
    (FW : Fun K "_law_word" "_law_word" sWord fW fdW) (bW : Binds K fdW ["_law_purse_here", "_law_size"] []) (gW : mg "_law_word" = some (.ref fW)) (GW : FnOk P w K mg base CX0 2 fW fdW ["_law_purse_here", "_law_size"] spWord)
    (FO : Fun K "_law_others" "_law_others" sOthers fO fdO) (bO : Binds K fdO ["_law_word_here"] []) (gO : mg "_law_others" = some (.ref fO)) (GO : FnOk P w K mg base CX0 6 fO fdO ["_law_word_here"] (spOthers C)) :
    FnG P w K mg base CX0 7 f fd ["_law_script"] (spLaw K) := by
  refine okG F scL (fun vs H Q E h => ?_) (fun cdv A outer s H vs Q E hg hr h => ?_)
  · obtain ⟨a, ns, rfl, _⟩ := h
    rfl
  · obtain ⟨a, ns, rfl, hS, hlen, q⟩ := h
    have hr1 := hr.mono (show 1 ≤ 6 by decide)
    have hr2 := hr.mono (show 2 ≤ 6 by decide)
    refine ⟨_, pss_cons (ps_set (i := 1) scL.nd rfl (Or.inl rfl) pe_str)
      (pss_cons (ps_set (i := 2) scL.nd rfl (Or.inl rfl) (pe_lst (pa_cons pe_str (pa_cons pe_str (pa_cons pe_str (pa_cons pe_str (pa_cons pe_str (pa_cons pe_str (pa_cons pe_str (pa_cons pe_str (pa_cons pe_str (pa_cons pe_str (pa_cons pe_str (pa_cons pe_str (pa_cons pe_str (pa_cons pe_str (pa_cons pe_str (pa_cons pe_str pa_nil))))))))))))))))))
      (pss_cons (ps_set (i := 2) scL.nd rfl (Or.inl rfl) (pe_op op_cat (pv 2) (pe_lst (pa_cons pe_str (pa_cons pe_str (pa_cons pe_str (pa_cons pe_str (pa_cons pe_str (pa_cons pe_str pa_nil)))))))))
      (pss_cons (ps_if (pt_not (pt_val (pe_callB (cr_all rfl) (by rfl) T.all PyProof.Rows.boot_all (pa_cons (pe_lc (own := [("_law_word_here", 3)]) (g := gName 3) (tt := tYes) rfl scL.nd (pi_list (pv 2))
            (blkOk_by (N := NL) (sc := defScope sLaw) (by decide +kernel)) (fun _ _ _ _ _ => pg_name (i := 3) scL.nd rfl (Or.inl rfl)) (fun _ _ _ _ _ => pts_nil)
            (fun _ _ _ _ _ => pe_callG hg GA hr2 (by rfl) gA FA.kp bA pass0 (pa_cons (pv 3) pa_nil))) pa_nil))))
          (pss_one (ps_ret pe_bl)) pss_nil)
      (pss_cons (ps_for PassesOwn.never rfl (pi_range1 (by rfl) T.rng (pa_cons (pe_callB (call_max2 rfl) (by rfl) Y.max boot_max (pa_cons pe_int (pa_cons (pe_callB (call_min2 rfl) (by rfl) Y.min boot_min (pa_cons (pe_callB call_len_seq (by rfl) T.len PySem.boot_len (pa_cons (pv 0) pa_nil)) (pa_cons pe_int pa_nil))) pa_nil))) pa_nil))
          (pg_name (i := 4) scL.nd rfl (Or.inl rfl))
        (pss_cons (ps_set (i := 5) scL.nd rfl (Or.inl rfl) (pe_call GP hr1 (by rfl) gP FP.kp bP .nil pass0 (pa_cons (pe_call GC hr1 (by rfl) gC FC.kp bC .nil pass0 (pa_cons (pv 0) (pa_cons (pv 4) pa_nil))) pa_nil)))
        (pss_cons (ps_for PassesOwn.never rfl (pi_range1 (by rfl) T.rng (pa_cons pe_int pa_nil)) (pg_name (i := 6) scL.nd rfl (Or.inl rfl))
          (pss_cons (ps_set (i := 3) scL.nd rfl (Or.inl rfl) (pe_call GW hr2 (by rfl) gW FW.kp bW .nil pass0 (pa_cons (pv 5) (pa_cons (pv 6) pa_nil))))
          (pss_cons (ps_par (i := 7) (j := 8) (by rfl) scL.nd rfl rfl (by decide) rfl rfl (pa_cons (pe_call GT hr1 (by rfl) gT FT.kp bT .nil pass0 (pa_cons (pv 5) (pa_cons (pe_op op_add (pv 6) pe_int) pa_nil)))
              (pa_cons (pe_ix ix_str (pv 1) (pe_call GT hr1 (by rfl) gT FT.kp bT .nil pass0 (pa_cons (pv 5) (pa_cons (pe_callB call_len_str (by rfl) T.len PySem.boot_len (pa_cons (pv 1) pa_nil)) pa_nil))) (fun _ _ => rfl)) pa_nil)) (by rfl))
          (pss_cons (ps_set (i := 2) scL.nd rfl (Or.inl rfl) (pe_lst (pa_cons (pv 3)
              (pa_cons (pe_op op_add_str (pe_op op_add_str (pe_slice sl_str (pv 3) po_none (po_some (pv 7))) (pv 8)) (pe_slice sl_str (pv 3) (po_some (pv 7)) po_none))
              (pa_cons (pe_op op_add_str (pe_op op_add_str (pe_slice sl_str (pv 3) po_none (po_some (pv 7))) (pv 8)) (pe_slice sl_str (pv 3) (po_some (pe_op op_add (pv 7) pe_int)) po_none)) pa_nil)))))
          (pss_cons (ps_set (i := 2) scL.nd rfl (Or.inl rfl) (pe_op op_cat (pv 2) (pe_lst (pa_cons (pe_upper (pv 3)) pa_nil))))
          (pss_one (ps_if (pt_not (pt_val (pe_callB (cr_all rfl) (by rfl) T.all PyProof.Rows.boot_all (pa_cons (pe_lc (own := [("_law_item", 9)]) (g := gName 9) (tt := tYes) rfl scL.nd (pi_list (pv 2))
              (blkOk_by (N := NL) (sc := defScope sLaw) (by decide +kernel)) (fun _ _ _ _ _ => pg_name (i := 9) scL.nd rfl (Or.inl rfl)) (fun _ _ _ _ _ => pts_nil)
              (fun _ _ _ _ _ => pe_callG hg GA hr2 (by rfl) gA FA.kp bA pass0 (pa_cons (pv 9) pa_nil))) pa_nil))))
            (pss_one (ps_ret pe_bl)) pss_nil)))))))
        (pss_one (ps_if (pt_not (pt_val (pe_callB (cr_all rfl) (by rfl) T.all PyProof.Rows.boot_all (pa_cons (pe_lc (own := [("_law_item", 9)]) (g := gName 9) (tt := tYes) rfl scL.nd
              (pi_list (pe_call GO hr (by rfl) gO FO.kp bO .nil pass0 (pa_cons (pe_call GW hr2 (by rfl) gW FW.kp bW .nil pass0 (pa_cons (pv 5) (pa_cons (pe_op op_add pe_int (pe_call GT hr1 (by rfl) gT FT.kp bT .nil pass0 (pa_cons (pv 5) (pa_cons pe_int pa_nil)))) pa_nil))) pa_nil)))
              (blkOk_by (N := NL) (sc := defScope sLaw) (by decide +kernel)) (fun _ _ _ _ _ => pg_name (i := 9) scL.nd rfl (Or.inl rfl)) (fun _ _ _ _ _ => pts_nil)
              (fun _ _ _ _ _ => pe_callG hg GA hr2 (by rfl) gA FA.kp bA pass0 (pa_cons (pv 9) pa_nil))) pa_nil))))
            (pss_one (ps_ret pe_bl)) pss_nil)))))
      (pss_one (ps_ret pe_bl)))))), ?_⟩
    refine ⟨(by show 16 ≤ sizeLine; decide), fun p1 n1 => ?_⟩
    refine ⟨.ref p1, rfl, (by show 6 ≤ sizeLine; decide), fun p2 n2 => ?_⟩
    have s1 := same_upd (o := .lst (strs1.map V.str)) n1
    have s2 := same_upd (o := .lst (strs2.map V.str)) n2
    refine ⟨p1, p2, strs1.map V.str, strs2.map V.str, rfl, rfl, s2 _ _ upd_same, upd_same, (by show 16 + 6 ≤ sizeLine; decide), fun p3 n3 => ?_⟩
    have s3 := same_upd (o := .lst (strs1.map V.str ++ strs2.map V.str)) n3
    have hx : ∀ v ∈ strs1.map V.str ++ strs2.map V.str, Kd C (upd (upd (upd H p1 (.lst (strs1.map V.str))) p2 (.lst (strs2.map V.str))) p3 (.lst (strs1.map V.str ++ strs2.map V.str))) v := fun v hv => by
      rw [← List.map_append] at hv
      obtain ⟨z, hz, rfl⟩ := List.mem_map.mp hv
      exact .str z (strs_short z hz)
    have h3 : upd (upd (upd H p1 (.lst (strs1.map V.str))) p2 (.lst (strs2.map V.str))) p3 (.lst (strs1.map V.str ++ strs2.map V.str)) p3 = some (.lst (strs1.map V.str ++ strs2.map V.str)) := upd_same
    refine ⟨.ref p3, rfl, p3, rfl, ⟨_, SqL.of h3⟩, fun D hD0 => lc_list (K := K) (a := p3) (xs := strs1.map V.str ++ strs2.map V.str) (fun i Hi => Same (upd (upd (upd H p1 (.lst (strs1.map V.str))) p2 (.lst (strs2.map V.str))) p3 (.lst (strs1.map V.str ++ strs2.map V.str))) Hi ∧ Hi D = some (.lst (List.replicate i (.bl true)))) ⟨same_upd hD0, upd_same⟩ (fun i Hi _ h => SqL.of (h.1 _ _ h3)) ?_ ?_⟩
    · rintro i v Hi hv ⟨sm, hd⟩
      have hi := (List.getElem?_eq_some_iff.mp hv).1
      have kd := (hx v (List.mem_of_getElem? hv)).same sm
      refine ⟨rfl, ?_⟩
      refine ⟨v, rfl, v, rfl, kd.kind I, fun H3 s3 => (kd.same s3).kind I, fun H3 s3 => ⟨_, s3 _ _ hd, ?_, ?_, ?_⟩⟩
      · rw [List.length_replicate]; exact small_lt (Nat.lt_of_lt_of_le hi (show 22 ≤ 16777216 by decide))
      · intro b o e
        rw [upd_ne (ne_of_none e hD0)]
        exact s3 _ _ (sm b o e)
      · rw [upd_same, List.replicate_succ']
    rintro H4 ⟨s4, hD⟩
    refine ⟨D, List.replicate 22 true, rfl, SqL.of (by rw [List.map_replicate]; exact hD), true, by rw [all_true], ?_⟩
    refine iteF ?_
    have sH4 := ((s1.trans s2).trans s3).trans s4
    refine ⟨.ref a, rfl, a, _, rfl, .inl (sH4.seq hS), _, 6, rfl, 2, _, rfl, _, rfl, ?_, ?_, ?_⟩
    · have := cnt_ge (ns.map V.int).length; show -(2 ^ 62) ≤ cnt (ns.map V.int).length; omega
    · have := cnt_le (ns.map V.int).length; show cnt (ns.map V.int).length < 2 ^ 62; omega
    have hc6 := cnt_le (ns.map V.int).length
    refine for_range (lo := 0) (n := (cnt (ns.map V.int).length).toNat) (fun i σ Hi => ∃ y2 y3 y4 y5 y6 y7 y8 y9, σ = [some (.ref a), some (.str sigS), y2, y3, y4, y5, y6, y7, y8, y9] ∧ Same H Hi) ⟨_, _, _, _, _, _, _, _, rfl, sH4⟩ ?_ ?_
    · rintro i σ H5 lt ⟨y2, y3, y4, y5, y6, y7, y8, y9, rfl, s5⟩
      refine ⟨.ref a, rfl, .int (0 + i), rfl, a, ns, 0 + i, rfl, s5.seq hS, by omega, by omega, fun n H6 s6 => ?_⟩
      refine ⟨n, rfl, fun p H7 np s7 pu => ?_⟩
      have s07 := (s5.trans s6).trans s7
      have np0 : H p = none := (s5.trans s6).free np
      refine ⟨10, rfl, by decide, by decide, for_range (lo := 0) (n := (10 : Int).toNat) (fun j σ Hj => ∃ y2 y3 y6 y7 y8 y9, σ = [some (.ref a), some (.str sigS), y2, y3, some (.int (0 + i)), some (.ref p), y6, y7, y8, y9] ∧ Same H Hj ∧ Purse Hj p) ⟨_, _, _, _, _, _, rfl, s07, pu⟩ ?_ ?_⟩
      · rintro j σ H8 ltj ⟨y2, y3, y6, y7, y8, y9, rfl, s8, pu8⟩
        have ltj' : j < 10 := ltj
        refine ⟨.ref p, rfl, .int (0 + j), rfl, p, j, (by rw [Int.zero_add]; rfl), pu8, by omega, fun z H9 lz pu9 kp9 => ?_⟩
        have s9 : Same H H9 := fun b o e => kp9 b o (ne_of_none e np0) (s8 b o e)
        refine ⟨.ref p, rfl, .int (0 + j), rfl, 0 + j, 1, rfl, rfl, p, 0 + j + 1, rfl, pu9, by omega, by omega, fun r H10 r0 r1 pu10 kp10 => ?_⟩
        have s10 : Same H H10 := fun b o e => kp10 b o (ne_of_none e np0) (s9 b o e)
        refine ⟨.str sigS, rfl, .ref p, rfl, .str sigS, rfl, sigS, rfl, (by decide +kernel), p, 45, (by rw [show sigS.length = 45 from sig45]; rfl), pu10, by decide, by decide, fun r2 H11 h0 h1 pu11 kp11 => ?_⟩
        have s11 : Same H H11 := fun b o e => kp11 b o (ne_of_none e np0) (s10 b o e)
        obtain ⟨c, hc⟩ : ∃ c, sigS.cps.toList[r2.toNat]? = some c := ⟨_, List.getElem?_eq_getElem (by rw [sigL45]; omega)⟩
        have er : r2 = ((r2.toNat : Nat) : Int) := by omega
        refine ⟨sigS, r2, c, rfl, rfl, (by decide +kernel), (by rw [er]; exact atI_nat hc), ?_⟩
        have l1 : (⟨#[c]⟩ : Str).length = 1 := rfl
        have lz9 : z.length ≤ 9 := by omega
        have hz : z.length ≤ sizeLine := small_le (by omega)
        have cl : ∀ lo hi, (cutS z lo hi).length ≤ 9 := fun lo hi => Nat.le_trans (cutS_len z lo hi) lz9
        have add : ∀ lo hi : Option Int, ((cutS z none hi ++ (⟨#[c]⟩ : Str)) ++ cutS z lo none).length ≤ 19 := fun lo hi => by
          rw [strLen_append, strLen_append, l1]; have := cl none hi; have := cl lo none; omega
        refine ⟨_, _, rfl, ?_⟩
        refine ⟨.str z, rfl, .str z, rfl, .int r, rfl, r, rfl, z, rfl, hz, .str ⟨#[c]⟩, rfl, _, _, rfl, rfl, small_le (by rw [l1]; have := cl none (some r); omega), ?_⟩
        refine ⟨.str z, rfl, .int r, rfl, r, rfl, z, rfl, hz, _, _, rfl, rfl, small_le (by rw [strLen_append, l1]; have := cl none (some r); have := cl (some r) none; omega), ?_⟩
        refine ⟨.str z, rfl, .int r, rfl, r, rfl, z, rfl, hz, .str ⟨#[c]⟩, rfl, _, _, rfl, rfl, small_le (by rw [l1]; have := cl none (some r); omega), ?_⟩
        refine ⟨.str z, rfl, .int r, rfl, r, 1, rfl, rfl, r + 1, rfl, z, rfl, hz, _, _, rfl, rfl, small_le (by rw [strLen_append, l1]; have := cl none (some r); have := cl (some (r + 1)) none; omega), (by show 3 ≤ sizeLine; decide), fun p12 n12 => ?_⟩
        refine ⟨.ref p12, rfl, .str z, rfl, ⟨z, rfl⟩, z, rfl, rfl, by omega, (by show 1 ≤ sizeLine; decide), fun p13 n13 => ?_⟩
        have s12 := same_upd (o := .lst [.str z, .str ((cutS z none (some r) ++ (⟨#[c]⟩ : Str)) ++ cutS z (some r) none), .str ((cutS z none (some r) ++ (⟨#[c]⟩ : Str)) ++ cutS z (some (r + 1)) none)]) n12
        have s13 := same_upd (o := .lst [.str (Txt.upper z)]) n13
        refine ⟨p12, p13, _, _, rfl, rfl, s13 _ _ upd_same, upd_same, (by show 3 + 1 ≤ sizeLine; decide), fun p14 n14 => ?_⟩
        have s14 := same_upd (o := .lst ([.str z, .str ((cutS z none (some r) ++ (⟨#[c]⟩ : Str)) ++ cutS z (some r) none), .str ((cutS z none (some r) ++ (⟨#[c]⟩ : Str)) ++ cutS z (some (r + 1)) none)] ++ [.str (Txt.upper z)])) n14
        refine inner_fin (p14 := p14) (H11 := H11) I (s12.trans (s13.trans s14)) upd_same (fun v hv => ?_) (by show 4 ≤ 100; decide) fun H15 s15 => ?_
        · simp only [List.mem_append, List.mem_cons, List.not_mem_nil, or_false] at hv
          rcases hv with (e | e | e) | e <;> rw [e]
          · exact .str _ (by omega)
          · exact .str _ (by have := add (some r) (some r); omega)
          · exact .str _ (by have := add (some (r + 1)) (some r); omega)
          · exact .str _ (by have := len_upper z; omega)
        · obtain ⟨u1, u2, u3, e, u4⟩ := pu11
          exact ⟨_, _, _, _, _, _, rfl, s11.trans s15, u1, u2, u3, s15 _ _ e, u4⟩
      · rintro σ H8 ⟨y2, y3, y6, y7, y8, y9, rfl, s8, pu8⟩
        refine ⟨.ref p, rfl, .ref p, rfl, p, 6, rfl, pu8, by decide, by decide, fun r H9 r0 r1 pu9 kp9 => ?_⟩
        have s9 : Same H H9 := fun b o e => kp9 b o (ne_of_none e np0) (s8 b o e)
        refine ⟨1, r, rfl, rfl, p, (1 + r).toNat, (by rw [Int.toNat_of_nonneg (by omega)]; rfl), pu9, by omega, fun z H10 lz pu10 kp10 => ?_⟩
        have s10 : Same H H10 := fun b o e => kp10 b o (ne_of_none e np0) (s9 b o e)
        refine ⟨z, rfl, by omega, fun p11 H11 xs s11 k11 kd hl => ?_⟩
        refine ⟨p11, rfl, ⟨_, SqL.of k11⟩, fun D hD0 => lc_list (K := K) (a := p11) (xs := xs) (fun i Hi => Same H11 Hi ∧ Hi D = some (.lst (List.replicate i (.bl true)))) ⟨same_upd hD0, upd_same⟩ (fun i Hi _ h => SqL.of (h.1 _ _ k11)) ?_ ?_⟩
        · rintro i v Hi hv ⟨sm, hd⟩
          have hi := (List.getElem?_eq_some_iff.mp hv).1
          have kd := (kd v (List.mem_of_getElem? hv)).same sm
          refine ⟨rfl, ?_⟩
          refine ⟨v, rfl, v, rfl, kd.kind I, fun H3 s3 => (kd.same s3).kind I, fun H3 s3 => ⟨_, s3 _ _ hd, ?_, ?_, ?_⟩⟩
          · rw [List.length_replicate]; exact small_lt (Nat.lt_of_lt_of_le hi (Nat.le_trans hl (by decide)))
          · intro b o e
            rw [upd_ne (ne_of_none e hD0)]
            exact s3 _ _ (sm b o e)
          · rw [upd_same, List.replicate_succ']
        rintro H4 ⟨s4, hD⟩
        refine ⟨D, List.replicate xs.length true, rfl, SqL.of (by rw [List.map_replicate]; exact hD), true, by rw [all_true], ?_⟩
        refine iteF ?_
        exact ⟨_, _, _, _, _, _, _, _, rfl, (s10.trans s11).trans s4⟩
    · rintro σ H5 ⟨y2, y3, y4, y5, y6, y7, y8, y9, rfl, s5⟩
      exact q H5
end
end Hee




set_option Elab.async false
set_option linter.all false
set_option maxRecDepth 100000
namespace Hee
open PySem PySem.Spec PyProof.Rows L2
theorem kit_own {K : PySem.W.Frag} {C : Addr} (h : PySem.W.mroIn K C (.type "str") = some false) : PySem.W.kitOne K (.ref C) (.type "str") = some false := by
  unfold PySem.W.kitOne
  rw [if_neg (by intro z; cases z)]
  exact h
theorem kb_name {K : PySem.W.Frag} {f : Addr} {fd : FuncData} (F : Fun K "is_name" "is_name" sIsName f fd) :
    KBinds K fd ["thing"] ["thing"] (fun us ws => us ++ ws) (fun vs zs => vs ++ zs) := by
  obtain ⟨oc, od, kV, doc, pm, an, cdv, ct, osl, rfl, lk, hcd⟩ := F.ex
  refine ⟨fun s us ws _ hl => ?_, fun r1 r2 => r1.append r2⟩
  match us, ws, hl with
  | [], [v], _ => exact .of_eq rfl
  | [u], [], _ => exact .of_eq rfl

theorem all_mk {l : PySem.W.OpenLaw} {w : World} {K : PySem.W.Frag} {h : Heap} {mg : Str → Option Value} {fa C fN fR fS fU fV fI fC fP fT fD fA fW fO fL : Addr} (X : K.In h) (G : h.Ns mainGlobals mg) (hfa : mg "law" = some (.ref fa))
    {odN anN odR anR odS anS odU anU odV anV odI anI odC anC odP anP odT anT odD anD odA anA odW anW odO anO odL anL : Option Addr} {slN slR slS slU slV slI slC slP slT slD slA slW slO slL : Array (Option Value)}
    {ocN kVN dcN pmN cdN ctN ocR kVR dcR pmR cdR ctR ocS kVS dcS pmS cdS ctS ocU kVU dcU pmU cdU ctU ocV kVV dcV pmV cdV ctV ocI kVI dcI pmI cdI ctI ocC kVC dcC pmC cdC ctC ocP kVP dcP pmP cdP ctP ocT kVT dcT pmT cdT ctT ocD kVD dcD pmD cdD ctD ocA kVA dcA pmA cdA ctA ocW kVW dcW pmW cdW ctW ocO kVO dcO pmO cdO ctO ocL kVL dcL pmL cdL ctL : Value}
    {t1 t2 t3 : Tok}
    (aX : PySem.W.nsIn K mainGlobals "Web" = some (some (.ref C)))
    (aN : PySem.W.nsIn K mainGlobals "is_name" = some (some (.ref fN)))
    (lN : K.lookup fN = some ⟨ocN, odN, .func (PySem.W.fnOf "is_name" "is_name" (defArgs sIsName) (defBody sIsName) (defScope sIsName) .none kVN dcN pmN anN cdN ctN), slN⟩)
    (cN : PySem.W.codeIn K cdN "is_name" = true) (kN : PySem.W.keepIn K (.ref fN) = true)
    (aR : PySem.W.nsIn K mainGlobals "is_person" = some (some (.ref fR)))
    (lR : K.lookup fR = some ⟨ocR, odR, .func (PySem.W.fnOf "is_person" "is_person" (defArgs sIsPerson) (defBody sIsPerson) (defScope sIsPerson) .none kVR dcR pmR anR cdR ctR), slR⟩)
    (cR : PySem.W.codeIn K cdR "is_person" = true) (kR : PySem.W.keepIn K (.ref fR) = true)
    (aS : PySem.W.nsIn K mainGlobals "check_persons" = some (some (.ref fS)))
    (lS : K.lookup fS = some ⟨ocS, odS, .func (PySem.W.fnOf "check_persons" "check_persons" (defArgs sChkPers) (defBody sChkPers) (defScope sChkPers) .none kVS dcS pmS anS cdS ctS), slS⟩)
    (cS : PySem.W.codeIn K cdS "check_persons" = true) (kS : PySem.W.keepIn K (.ref fS) = true)
    (aU : PySem.W.nsIn K mainGlobals "check_whoms" = some (some (.ref fU)))
    (lU : K.lookup fU = some ⟨ocU, odU, .func (PySem.W.fnOf "check_whoms" "check_whoms" (defArgs sChkWhoms) (defBody sChkWhoms) (defScope sChkWhoms) .none kVU dcU pmU anU cdU ctU), slU⟩)
    (cU : PySem.W.codeIn K cdU "check_whoms" = true) (kU : PySem.W.keepIn K (.ref fU) = true)
    (aV : PySem.W.nsIn K mainGlobals "comes_to_leader" = some (some (.ref fV)))
    (lV : K.lookup fV = some ⟨ocV, odV, .func (PySem.W.fnOf "comes_to_leader" "comes_to_leader" (defArgs sComes) (defBody sComes) (defScope sComes) .none kVV dcV pmV anV cdV ctV), slV⟩)
    (cV : PySem.W.codeIn K cdV "comes_to_leader" = true) (kV : PySem.W.keepIn K (.ref fV) = true)
    (aI : PySem.W.findIn K (.ref C) "__init__" = some (some (.ref fI))) (iI : PySem.W.isFn K (.ref fI) = true)
    (lI : K.lookup fI = some ⟨ocI, odI, .func (PySem.W.fnOf "__init__" "Web.__init__" (defArgs sInit) (defBody sInit) (defScope sInit) .none kVI dcI pmI anI cdI ctI), slI⟩)
    (cI : PySem.W.codeIn K cdI "Web.__init__" = true) (kI : PySem.W.keepIn K (.ref fI) = true)
    (aC : PySem.W.nsIn K mainGlobals "_law_cell" = some (some (.ref fC)))
    (lC : K.lookup fC = some ⟨ocC, odC, .func (PySem.W.fnOf "_law_cell" "_law_cell" (defArgs sCell) (defBody sCell) (defScope sCell) .none kVC dcC pmC anC cdC ctC), slC⟩)
    (cC : PySem.W.codeIn K cdC "_law_cell" = true) (kC : PySem.W.keepIn K (.ref fC) = true)
    (aP : PySem.W.nsIn K mainGlobals "_law_purse" = some (some (.ref fP)))
    (lP : K.lookup fP = some ⟨ocP, odP, .func (PySem.W.fnOf "_law_purse" "_law_purse" (defArgs sPurse) (defBody sPurse) (defScope sPurse) .none kVP dcP pmP anP cdP ctP), slP⟩)
    (cP : PySem.W.codeIn K cdP "_law_purse" = true) (kP : PySem.W.keepIn K (.ref fP) = true)
    (aT : PySem.W.nsIn K mainGlobals "_law_take" = some (some (.ref fT)))
    (lT : K.lookup fT = some ⟨ocT, odT, .func (PySem.W.fnOf "_law_take" "_law_take" (defArgs sTake) (defBody sTake) (defScope sTake) .none kVT dcT pmT anT cdT ctT), slT⟩)
    (cT : PySem.W.codeIn K cdT "_law_take" = true) (kT : PySem.W.keepIn K (.ref fT) = true)
    (aD : PySem.W.nsIn K mainGlobals "_law_due" = some (some (.ref fD)))
    (lD : K.lookup fD = some ⟨ocD, odD, .func (PySem.W.fnOf "_law_due" "_law_due" (defArgs sDue) (defBody sDue) (defScope sDue) .none kVD dcD pmD anD cdD ctD), slD⟩)
    (cD : PySem.W.codeIn K cdD "_law_due" = true) (kD : PySem.W.keepIn K (.ref fD) = true)
    (aA : PySem.W.nsIn K mainGlobals "_law_asked" = some (some (.ref fA)))
    (lA : K.lookup fA = some ⟨ocA, odA, .func (PySem.W.fnOf "_law_asked" "_law_asked" (defArgs sAsked) (defBody sAsked) (defScope sAsked) .none kVA dcA pmA anA cdA ctA), slA⟩)
    (cA : PySem.W.codeIn K cdA "_law_asked" = true) (kA : PySem.W.keepIn K (.ref fA) = true)
    (aW : PySem.W.nsIn K mainGlobals "_law_word" = some (some (.ref fW)))
    (lW : K.lookup fW = some ⟨ocW, odW, .func (PySem.W.fnOf "_law_word" "_law_word" (defArgs sWord) (defBody sWord) (defScope sWord) .none kVW dcW pmW anW cdW ctW), slW⟩)
    (cW : PySem.W.codeIn K cdW "_law_word" = true) (kW : PySem.W.keepIn K (.ref fW) = true)
    (aO : PySem.W.nsIn K mainGlobals "_law_others" = some (some (.ref fO)))
    (lO : K.lookup fO = some ⟨ocO, odO, .func (PySem.W.fnOf "_law_others" "_law_others" (defArgs sOthers) (defBody sOthers) (defScope sOthers) .none kVO dcO pmO anO cdO ctO), slO⟩)
    (cO : PySem.W.codeIn K cdO "_law_others" = true) (kO : PySem.W.keepIn K (.ref fO) = true)
    (aL : PySem.W.nsIn K mainGlobals "law" = some (some (.ref fL)))
    (lL : K.lookup fL = some ⟨ocL, odL, .func (PySem.W.fnOf "law" "law" (defArgs sLaw) (defBody sLaw) (defScope sLaw) .none kVL dcL pmL anL cdL ctL), slL⟩)
    (cL : PySem.W.codeIn K cdL "law" = true) (kL : PySem.W.keepIn K (.ref fL) = true)
    (pg : PySem.W.plainGet K C Str.empty = true)
    (hd : PySem.W.hasDictIn K C = true)
    (po : PySem.W.plainOver K C = true)
    (sa : PySem.W.findIn K (.ref C) "__setattr__" = some (some (.builtin "object.__setattr__")))
    (mk : PySem.W.makesIn K C = true)
    (kc : PySem.W.keepIn K (.ref C) = true)
    (nP : PySem.W.findIn K (.ref C) "persons" = some none)
    (nW : PySem.W.findIn K (.ref C) "whoms" = some none)
    (ha : PySem.W.findIn K (.ref C) "__class__" = some (some (.builtin "object.__class__")))
    (hn : PySem.W.specialIn K (.builtin "object.__class__") "__get__" = some (some (.builtin "getset_descriptor.__get__")))
    (ht : PySem.W.takesIn K (.builtin "object.__class__") = some true)
    (hm : PySem.W.mroIn K C (.type "object") = some true)
    (no : PySem.W.mroIn K C (.type "str") = some false)
    (m1 : PySem.W.nsIn K mainGlobals "MOST_LETTERS" = some (some (.int 6 t1)))
    (m2 : PySem.W.nsIn K mainGlobals "MOST_PERSONS" = some (some (.int 12 t2)))
    (m3 : PySem.W.nsIn K mainGlobals "LETTERS" = some (some (.str letS t3)))
    (z0 : PySem.W.nsIn K mainGlobals "len" = some none)
    (z1 : PySem.W.nsIn K mainGlobals "isinstance" = some none)
    (z2 : PySem.W.nsIn K mainGlobals "str" = some none)
    (z3 : PySem.W.nsIn K mainGlobals "tuple" = some none)
    (z4 : PySem.W.nsIn K mainGlobals "all" = some none)
    (z5 : PySem.W.nsIn K mainGlobals "enumerate" = some none)
    (z6 : PySem.W.nsIn K mainGlobals "range" = some none)
    (z7 : PySem.W.nsIn K mainGlobals "repr" = some none)
    (z8 : PySem.W.nsIn K mainGlobals "abs" = some none)
    (z9 : PySem.W.nsIn K mainGlobals "divmod" = some none)
    (z10 : PySem.W.nsIn K mainGlobals "max" = some none)
    (z11 : PySem.W.nsIn K mainGlobals "min" = some none)
    : ∃ fd : FuncData, (∀ (s : Shared) (v : Value), BindsTo s fd ⟨[v], []⟩ [("_law_script", v)]) ∧ ∀ base : Heap, K.In base → base.Ns mainGlobals mg → FnG l.prog w K mg base CX0 7 fa fd ["_law_script"] (spLaw K) := by
  have e := hfa.symm.trans (PySem.W.mg_of X G aL)
  cases e
  have FN := fun_mk (st := sIsName) lN cN kN
  have bN := FN.binds (ps := ["thing"]) fun _ _ _ _ _ _ us hl => match us, hl with | [_], _ => rfl
  have gN := PySem.W.mg_of X G aN
  have FR := fun_mk (st := sIsPerson) lR cR kR
  have bR := FR.binds (ps := ["thing"]) fun _ _ _ _ _ _ us hl => match us, hl with | [_], _ => rfl
  have gR := PySem.W.mg_of X G aR
  have FS := fun_mk (st := sChkPers) lS cS kS
  have bS := FS.binds (ps := ["persons"]) fun _ _ _ _ _ _ us hl => match us, hl with | [_], _ => rfl
  have gS := PySem.W.mg_of X G aS
  have FU := fun_mk (st := sChkWhoms) lU cU kU
  have bU := FU.binds (ps := ["whoms"]) fun _ _ _ _ _ _ us hl => match us, hl with | [_], _ => rfl
  have gU := PySem.W.mg_of X G aU
  have FV := fun_mk (st := sComes) lV cV kV
  have bV := FV.binds (ps := ["whoms", "name"]) fun _ _ _ _ _ _ us hl => match us, hl with | [_, _], _ => rfl
  have gV := PySem.W.mg_of X G aV
  have FI := fun_mk (st := sInit) lI cI kI
  have bI := FI.binds (ps := ["self", "persons"]) fun _ _ _ _ _ _ us hl => match us, hl with | [_, _], _ => rfl
  have FC := fun_mk (st := sCell) lC cC kC
  have bC := FC.binds (ps := ["_law_script", "_law_k"]) fun _ _ _ _ _ _ us hl => match us, hl with | [_, _], _ => rfl
  have gC := PySem.W.mg_of X G aC
  have FP := fun_mk (st := sPurse) lP cP kP
  have bP := FP.binds (ps := ["_law_cell_here"]) fun _ _ _ _ _ _ us hl => match us, hl with | [_], _ => rfl
  have gP := PySem.W.mg_of X G aP
  have FT := fun_mk (st := sTake) lT cT kT
  have bT := FT.binds (ps := ["_law_purse_here", "_law_most"]) fun _ _ _ _ _ _ us hl => match us, hl with | [_, _], _ => rfl
  have gT := PySem.W.mg_of X G aT
  have FD := fun_mk (st := sDue) lD cD kD
  have bD := FD.binds (ps := ["_law_item"]) fun _ _ _ _ _ _ us hl => match us, hl with | [_], _ => rfl
  have gD := PySem.W.mg_of X G aD
  have FA := fun_mk (st := sAsked) lA cA kA
  have bA := FA.binds (ps := ["_law_item"]) fun _ _ _ _ _ _ us hl => match us, hl with | [_], _ => rfl
  have gA := PySem.W.mg_of X G aA
  have FW := fun_mk (st := sWord) lW cW kW
  have bW := FW.binds (ps := ["_law_purse_here", "_law_size"]) fun _ _ _ _ _ _ us hl => match us, hl with | [_, _], _ => rfl
  have gW := PySem.W.mg_of X G aW
  have FO := fun_mk (st := sOthers) lO cO kO
  have bO := FO.binds (ps := ["_law_word_here"]) fun _ _ _ _ _ _ us hl => match us, hl with | [_], _ => rfl
  have gO := PySem.W.mg_of X G aO
  have FL := fun_mk (st := sLaw) lL cL kL
  have bL := FL.binds (ps := ["_law_script"]) fun _ _ _ _ _ _ us hl => match us, hl with | [_], _ => rfl
  have gL := PySem.W.mg_of X G aL
  have T : Tx mg := ⟨PySem.W.mg_none_of X G z0, PySem.W.mg_none_of X G z1, PySem.W.mg_none_of X G z2, PySem.W.mg_none_of X G z3, PySem.W.mg_none_of X G z4, PySem.W.mg_none_of X G z5, PySem.W.mg_none_of X G z6, ⟨_, PySem.W.mg_of X G m1⟩, ⟨_, PySem.W.mg_of X G m2⟩, ⟨_, PySem.W.mg_of X G m3⟩⟩
  have Y : Ty mg := ⟨PySem.W.mg_none_of X G z7, PySem.W.mg_none_of X G z8, PySem.W.mg_none_of X G z9, PySem.W.mg_none_of X G z10, PySem.W.mg_none_of X G z11⟩
  have W : Tw K mg C := ⟨⟨pg, hd, po, sa⟩, nP, nW, PySem.W.mg_of X G aX⟩
  have I : Ti K C := ⟨fun e => .ins e ⟨pg, hd, po, sa⟩ ha hn ht hm, kit_own no⟩
  refine ⟨PySem.W.fnOf "law" "law" (defArgs sLaw) (defBody sLaw) (defScope sLaw) .none kVL dcL pmL anL cdL ctL, fun s v => .of_eq rfl, fun base _ _ => ?_⟩
  have GCP := ok_chkPers (P := l.prog) (w := w) (base := base) FS T FN bN gN FR bR gR
  have GCW := ok_chkWhoms (P := l.prog) (w := w) (base := base) FU T FV bV gV
  have GI := ok_init (P := l.prog) (w := w) (base := base) FI T W FS bS gS FU bU gU GCP GCW
  exact ok_law FL T Y I FA bA gA (ok_asked FA T Y FN bN (kb_name FN) gN FD bD gD) FP bP gP (ok_purse FP Y) FC bC gC (ok_cell FC T) FT bT gT (ok_take FT Y) FW bW gW (ok_word FW T Y FT bT gT) FO bO gO (ok_others FO T W ⟨mk, aI, iI, kc⟩ FI bI GI)
end Hee


set_option Elab.async false
open PySem PySem.W PyProof.Rows
set_option maxRecDepth 100000 in
set_option maxHeartbeats 0 in
theorem PySem.Challenge.cw_heelrow_k01_names_of_any_kind_holds : PySem.Challenge.rw_heelrow_k01_names_of_any_kind.Holds := by
  w_on; o_law; k_head; (case hw => w_witness2)
  k_fill
  refine Hee.walk_ofG (l := PySem.Challenge.rw_heelrow_k01_names_of_any_kind) (n := 63) (k := 7) (x := "_law_script") (sp := Hee.spLaw) rfl (by decide) rfl ⟨rfl, by decide, by decide⟩ (fun w h Y => PySem.W.kIn_of Y) ?F (fun _ _ a ns hl hS => ⟨a, ns, rfl, hS, hl, fun _ => rfl⟩)
  case F =>
    intro w mg fa h KX G hmg
    refine' Hee.all_mk KX G hmg ?aX ?aN ?lN ?cN ?kN ?aR ?lR ?cR ?kR ?aS ?lS ?cS ?kS ?aU ?lU ?cU ?kU ?aV ?lV ?cV ?kV ?aI ?iI ?lI ?cI ?kI ?aC ?lC ?cC ?kC ?aP ?lP ?cP ?kP ?aT ?lT ?cT ?kT ?aD ?lD ?cD ?kD ?aA ?lA ?cA ?kA ?aW ?lW ?cW ?kW ?aO ?lO ?cO ?kO ?aL ?lL ?cL ?kL ?pg ?hd ?po ?sa ?mk ?kc ?nP ?nW ?ha ?hn ?ht ?hm ?no ?m1 ?m2 ?m3 ?z0 ?z1 ?z2 ?z3 ?z4 ?z5 ?z6 ?z7 ?z8 ?z9 ?z10 ?z11
    (case aX => k_is)
    (case aN => k_is)
    (case lN => k_is)
    (case cN => k_is)
    (case kN => k_is)
    (case aR => k_is)
    (case lR => k_is)
    (case cR => k_is)
    (case kR => k_is)
    (case aS => k_is)
    (case lS => k_is)
    (case cS => k_is)
    (case kS => k_is)
    (case aU => k_is)
    (case lU => k_is)
    (case cU => k_is)
    (case kU => k_is)
    (case aV => k_is)
    (case lV => k_is)
    (case cV => k_is)
    (case kV => k_is)
    (case aI => k_is)
    (case iI => k_is)
    (case lI => k_is)
    (case cI => k_is)
    (case kI => k_is)
    (case aC => k_is)
    (case lC => k_is)
    (case cC => k_is)
    (case kC => k_is)
    (case aP => k_is)
    (case lP => k_is)
    (case cP => k_is)
    (case kP => k_is)
    (case aT => k_is)
    (case lT => k_is)
    (case cT => k_is)
    (case kT => k_is)
    (case aD => k_is)
    (case lD => k_is)
    (case cD => k_is)
    (case kD => k_is)
    (case aA => k_is)
    (case lA => k_is)
    (case cA => k_is)
    (case kA => k_is)
    (case aW => k_is)
    (case lW => k_is)
    (case cW => k_is)
    (case kW => k_is)
    (case aO => k_is)
    (case lO => k_is)
    (case cO => k_is)
    (case kO => k_is)
    (case aL => k_is)
    (case lL => k_is)
    (case cL => k_is)
    (case kL => k_is)
    (case pg => k_is)
    (case hd => k_is)
    (case po => k_is)
    (case sa => k_is)
    (case mk => k_is)
    (case kc => k_is)
    (case nP => k_is)
    (case nW => k_is)
    (case ha => k_is)
    (case hn => k_is)
    (case ht => k_is)
    (case hm => k_is)
    (case no => k_is)
    (case m1 => k_is)
    (case m2 => k_is)
    (case m3 => k_is)
    (case z0 => k_is)
    (case z1 => k_is)
    (case z2 => k_is)
    (case z3 => k_is)
    (case z4 => k_is)
    (case z5 => k_is)
    (case z6 => k_is)
    (case z7 => k_is)
    (case z8 => k_is)
    (case z9 => k_is)
    (case z10 => k_is)
    (case z11 => k_is)

