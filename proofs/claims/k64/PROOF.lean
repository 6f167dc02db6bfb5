import PyProof.Rows.All
import Wide.All
import OpenK.AllK
import Wide.FinOn
import HandS.ForMost
import HandS.StrMore
import HandS.IsInst
import HandS.Flow
import PyProof.ReprRoads
import HandS.DictComp
import HandS.Walk
import KE.GoesNew
import KE.KDictIter
import PyProof.WalkLemmas
import KE.KDictPairs
import OpenK.KOps
import HandS.TupAny
import HandS.Style
import PyProof.FitsReplace
import PyProof.Rows.StrMeet
import HandS.FStr
import HandS.MakeKwOnly
import HandS.Star
import HandS.TupMul
import HandS.Strs
import HandS.Zip
import PySem.Challenge.RW_heelrow_k64_whole_laid_from_every_row
set_option Elab.async false
set_option linter.all false
set_option maxRecDepth 100000
/-! defs that are called where no repr is under way (guards are empty): promises that may rest on it -/
namespace Hee
open PySem PySem.Spec PyProof.Rows L2
/-- as a def's promise, for callers around whom no guard stands -/
structure FnG (P : Program) (w : World) (K : PySem.W.Frag)
    (mg : Str → Option Value) (base : Heap) (CX : CXT) (k : Nat)
    (f : Addr) (fd : FuncData) (ps : List Str) (sp : Sp) : Prop where
  len : ∀ vs H Q E, sp vs H Q E → vs.length = ps.length
  go : ∀ (A : Around) (outer : List Env) (s : Shared) (H : Hp) (args : Args)
    (us : List Value) (vs : List V) (Q : VK) (E : XK),
    A.guards = some [] → Room k A → Env0 P w K mg base A outer s H →
    BindsTo s fd args (ps.zip us) → Vals vs us → sp vs H Q E →
    codeAny (model P w) A (.call (.ref f) args) (CR CX outer P w H s Q E) s
section
variable {P : Program} {w : World} {K : PySem.W.Frag}
  {mg : Str → Option Value} {base : Heap}
theorem okG {x qual : Str} {st : Stmt} {f : Addr} {fd : FuncData}
    {N ps : List Str} {k : Nat} {sp : Sp} (F : Fun K x qual st f fd)
    (S : FnScope N ps (defScope st))
    (ln : ∀ vs H Q E, sp vs H Q E → vs.length = ps.length)
    (bd : ∀ (cdv : Value) (A : Around) (outer : List Env) (s : Shared)
      (H : Hp) (vs : List V) (Q : VK) (E : XK), A.guards = some [] →
      Room k (A.deeper (envOfC qual (defScope st) s.heap.objs.size f cdv)) →
      sp vs H Q E →
      ∃ t, PSs (cxOf CX0 P w K mg base N qual (defScope st) f cdv A outer s H
          E).nox (defBody st) t ∧
        t { nx := fun _ H' => Q .non H', rt := Q } (start N vs) H) :
    FnG P w K mg base CX0 (k + 1) f fd ps sp := by
  obtain ⟨oc, od, kV, dc, pm, an, cdv, ct, osl, rfl, lk, cd0⟩ := F.ex
  refine ⟨ln, fun A outer s H args us vs Q E gd rm ev bn rv want => ?_⟩
  have len0 := ln _ _ _ _ want
  have old : ∀ b o, base.get? b = some o → s.heap.get? b = some o :=
    fun b o z => (ev.bs b o z).1
  have kin := ev.mod.kin.keeps old
  have nolim := ev.mod.nolimit.keeps old
  refine codeAny_call_function rm.depth (kin _ _ lk) rfl S.co S.gen rfl
    (PySem.W.codeRec_of kin cd0) (bn _ _ _ _ ?_)
  refine wpAny_newFunctionEnv_cells S.kind (fun ⟨n, v⟩ hy => ?_)
    fun env he s1 made => ?_
  · rcases S.par n (List.of_mem_zip hy).1 with lo | ce
    · exact .inl lo
    · exact .inr ⟨ce, PySem.W.cellsFrom_some _ _ _ (.inl ce)⟩
  subst he
  refine ⟨nolim.keeps made.toInCall.keep, codeAny_func ?_⟩
  obtain ⟨t, ht, hq⟩ := bd cdv A outer s H vs Q E gd (rm.deeper _) want
  have I := inv_start (CX := CX0) (E := E) S rm.hd ev len0 rv made
  refine wpAny_mono (ht.nox.run [] s1 (start N vs) H _ I hq)
    (fun fl s2 got => ?_) fun _ _ z => z
  match fl, got with
  | .ret u, ⟨v, _, H', J, r, q⟩ =>
    exact ⟨v, H', J.os, J.bare, J.base, J.hok, r, q⟩
  | .next, ⟨_, H', J, q⟩ =>
    exact ⟨V.non, H', J.os, J.bare, J.base, J.hok, rfl, q⟩
  | .brk, ⟨_, _, _, q⟩ => exact q.elim
  | .cont, ⟨_, _, _, q⟩ => exact q.elim
end
section
variable {X : Cx} {CX : CXT} {k : Nat} {f : Addr} {fd : FuncData}
  {ps : List Str} {sp : Sp} {E : XK} {x : Str} {p pos : Pos} {e : Expr}
  {es : List Expr} {t : TA}
/-- f(e, ..) of such a def -/
theorem pe_callG (gd : X.A.guards = some [])
    (F : FnG X.prog X.w X.K X.mg X.base CX k f fd ps sp) (rm : Room k X.A)
    (hg : Gl X x) (hm : X.mg x = some (.ref f))
    (kp : PySem.W.keepIn X.K (.ref f) = true) (bn : Binds X.K fd ps [])
    (px : Passes CX X E) (ha : PA X (e :: es) t)
    (hdb : (x == ("__debug__" : Str)) = false := by decide)
    (he : starEach (e :: es) X.env =
      (false, eval e X.env) :: starEach es X.env := by rfl)
    (hpl : (backTo pos (starEach es X.env)).any (·.1) = false := by rfl) :
    PE X (.Call (.Name x p) (e :: es) [] pos) (tCall sp [] E t) := by
  refine ⟨fun pins s σ H Q I want => ?_⟩
  refine wpAny_Call_Name_kw (ld_glob I hg hm ?_ hdb)
  refine PySem.W.callWith_K (h₀ := X.base) I.ok.mod.kin kp
    (thn (ha.run pos pins s σ H _ I want) fun us s1 ⟨vs, H1, I1, r, q⟩ =>
      ⟨I1.kIn, ?_⟩) he hpl
  have r2 : Vals (vs ++ []) (us ++ []) := r.append .nil
  have ln : (us ++ []).length = ps.length := by
    rw [← r2.length]; exact F.len _ _ _ _ q
  refine wpAny_call (codeAny_mono (F.go X.A X.stack s1 H1 ⟨us, []⟩ (us ++ [])
    (vs ++ []) Q E gd rm I1.env0 (bn s1 us I1.kIn ln) r2 q) fun o s2 got => ?_)
  match o, got with
  | .error z, got => exact px pins σ H1 s1 z s2 I1 got
  | .ok (.ret u), got => exact I1.after got
  | .ok .next, got => exact got.elim
  | .ok .brk, got => exact got.elim
  | .ok .cont, got => exact got.elim
/-- f(k = v, ..): keywords alone -/
theorem pe_callK0 {kws : List Keyword} {ks : List Str} {tk : TA}
    {g : List Value → List Value → List Value}
    {gV : List V → List V → List V}
    (F : FnOk X.prog X.w X.K X.mg X.base CX k f fd ps sp) (rm : Room k X.A)
    (hg : Gl X x) (hm : X.mg x = some (.ref f))
    (kp : PySem.W.keepIn X.K (.ref f) = true) (bn : KBinds X.K fd ps ks g gV)
    (px : Passes CX X E) (hkw : PK X kws tk)
    (hall : (backToKw pos (keywordEach kws X.env)).all (·.1.isSome) = true :=
      by rfl)
    (hks : (backToKw pos (keywordEach kws X.env)).filterMap (·.1) = ks :=
      by rfl)
    (hdb : (x == ("__debug__" : Str)) = false := by decide)
    (hpl : ((backTo pos (starEach [] X.env)).any (·.1) ||
      (backToKw pos (keywordEach kws X.env)).any (·.1.isNone)) = false :=
      by rfl) :
    PE X (.Call (.Name x p) [] kws pos) (tCallK sp gV E tNil tk) := by
  refine ⟨fun pins s σ H Q I want => ?_⟩
  refine wpAny_Call_Name_kw (ld_glob I hg hm ?_ hdb)
  refine PySem.W.callWith_KW0 (h₀ := X.base) I.ok.mod.kin kp hall ?_ hpl
  refine thn (hkw.run pos pins s σ H _ I want)
    fun ws s2 ⟨zs, H2, I2, rz, q2⟩ => ⟨I2.kIn, ?_⟩
  rw [hks]
  exact run_fnk (us := []) (vs := []) F rm bn px I2 .nil rz q2
/-- repr of data at an address -/
def rRepr (K : PySem.W.Frag) : List V → Hp → VK → Prop := fun xs H Q =>
  ∃ (a : Addr) (d : PyData), xs = [.ref a] ∧ Dp K H (.ref a) d ∧
    d.showable = true ∧ d.hasDict = false ∧ d.depth ≤ 60 ∧
    d.shown.length ≤ sizeLine ∧ Q (.str d.shown) H
theorem call_reprD {k : Nat} (gd : X.A.guards = some []) (rm : Room k X.A) :
    CallR X (.builtin "repr") (rRepr X.K) := by
  intro pins s σ H xs us Q I r want
  obtain ⟨a, d, rfl, dp, sh, nd, dep, sz, q⟩ := want
  rw [Vals.ref1 r]
  obtain ⟨as, rd⟩ := Dp.reads I d (.ref a) (.ref a) dp rfl
  have un := rm.units
  exact repr_of_reads' rd sh (PyData.noDict_hsm nd) gd (by omega)
    (fun _ _ z => z)
    (fun h' u tk kept => ⟨.str d.shown, H, I.kept kept, ⟨u, rfl⟩, q⟩) sz
end
/-! ### the law's end, by such a promise -/
/-- All that the top has left stands beside what is tracked, where nothing that is tracked is of the written part or a dict. -/
theorem begin_env {P : Program} {w : World} {K : PySem.W.Frag} {mg mb : Str → Option Value} {z : Shared} {H : Hp}
    (wr : K.In z.heap) (gl : z.heap.Ns mainGlobals mg) (bl : z.heap.Ns builtinsNs mb)
    (boot : ∀ x : Str, x ≠ "__name__" → mb x = bootBuiltins x) (lim : z.heap.NoLimit) (gens : z.gens = #[])
    (ok : HOk P w H z.heap)
    (apart : ∀ b, H b ≠ none → K.lookup b = none ∧ ∀ o es ep, z.heap.get? b = some o → o.data ≠ .dict es ep) :
    Env0 P w K mg (hidT z.heap H) callerA [] z H := by
  have seen : ∀ b o, z.heap.get? b = some o → (K.lookup b ≠ none ∨ ∃ es ep, o.data = .dict es ep) →
      (hidT z.heap H).get? b = some o := by
    intro b o e why
    by_cases tr : H b = none
    · exact hidT_get e tr
    · obtain ⟨n1, n2⟩ := apart b tr
      rcases why with y | ⟨es, ep, y⟩
      · exact absurd n1 y
      · exact absurd y (n2 o es ep e)
  have table : ∀ {b : Addr} {m : Str → Option Value}, z.heap.Ns b m → (hidT z.heap H).Ns b m := by
    rintro b m ⟨o, es, ep, e, rest⟩
    exact ⟨o, es, ep, seen b o e (.inr ⟨es, ep, rest.1⟩), rest⟩
  have written : K.In (hidT z.heap H) := fun b o l => seen b o (wr b o l) (.inl fun n => by rw [n] at l; cases l)
  obtain ⟨ml, l1, l2⟩ := lim
  exact { frames := rfl, mod := ⟨written, table gl, ⟨mb, table bl, boot⟩, ml, table l1, l2⟩
          bs := fun _ _ e => of_hidT e, bsz := Nat.le_of_eq (hidT_size _ _), funs := trivial
          frf := fun _ m => (nomatch m), hok := ok, bare := .of_eq gens }
/-- What is tracked at the start is locked, so all stands at the end as it stood. -/
theorem end_old {P : Program} {w : World} {H H' : Hp} {h h' : Heap} (lock : ∀ b u, H b = some u → ∃ o v, u = .frz o v)
    (ok : HOk P w H h) (ok' : HOk P w H' h') (un : Un (frs []) [] H H' h h') : OldK h h' := by
  refine OldK.of_keep fun b o e => ?_
  match tr : H b with
  | none => exact un.keep b o e tr (fun m => nomatch m) (fun m => nomatch m)
  | some u =>
    obtain ⟨ob, v, rfl⟩ := lock b u tr
    have was := (ok b _ tr).1
    have is := (ok' b _ (un.frzs b ob v tr)).1
    exact is.trans (was.symm.trans e)
/-- The script's list at a: one of the written part, or tracked and locked. -/
theorem script_at {P : Program} {w : World} {K : PySem.W.Frag} {h : Heap} {a : Addr} {vs : List Value} {ns : List Int}
    (wr : K.In h) (ha : h.get? a = some { cls := .type "list", data := .seq vs.toArray }) (hi : IntsAre vs ns)
    (hl : ns.length ≤ sizeLine) :
    ∃ H : Hp, SqL K H a (ns.map V.int) ∧ HOk P w H h ∧
      ∀ b u, H b = some u → b = a ∧ K.lookup a = none ∧ u = .frz { cls := .type "list", data := .seq vs.toArray } (.lst (ns.map V.int)) := by
  have rel := vals_ints hi
  cases lk : K.lookup a with
  | some o =>
    have same := (wr a o lk).symm.trans ha
    cases same
    exact ⟨fun _ => none, .inr ⟨_, vs.toArray, _, lk, rfl, rfl, rfl, by simpa [hi.length] using hl, by simpa using rel⟩,
      fun _ _ n => (nomatch n), fun _ _ n => (nomatch n)⟩
  | none =>
    have only : ∀ b u, (if b = a then some (HO.frz { cls := .type "list", data := .seq vs.toArray } (.lst (ns.map V.int))) else none) = some u →
        b = a ∧ u = .frz { cls := .type "list", data := .seq vs.toArray } (.lst (ns.map V.int)) := by
      intro b u e
      split at e
      · next q => exact ⟨q, (Option.some.inj e).symm⟩
      · cases e
    refine ⟨fun b => if b = a then some (.frz { cls := .type "list", data := .seq vs.toArray } (.lst (ns.map V.int))) else none,
      .inl (.inr ⟨_, if_pos rfl⟩), fun b u e => ?_, fun b u e => ⟨(only b u e).1, rfl, (only b u e).2⟩⟩
    obtain ⟨rfl, rfl⟩ := only b u e
    exact ⟨ha, by simpa using hl, vs, _, rel, ha⟩
theorem law_callG {P : Program} {w : World} {K : PySem.W.Frag} {mg mb : Str → Option Value} {CX : CXT} {k : Nat} {fa a : Addr}
    {fd : FuncData} {x : Str} {sp : Sp} {z : Shared} {vs : List Value} {ns : List Int} (wr : K.In z.heap)
    (gl : z.heap.Ns mainGlobals mg) (bl : z.heap.Ns builtinsNs mb) (boot : ∀ x : Str, x ≠ "__name__" → mb x = bootBuiltins x)
    (lim : z.heap.NoLimit) (gens : z.gens = #[])
    (ha : z.heap.get? a = some { cls := .type "list", data := .seq vs.toArray }) (hi : IntsAre vs ns) (hl : ns.length ≤ sizeLine)
    (rm : Room k callerA)
    (F : ∀ base : Heap, K.In base → base.Ns mainGlobals mg → FnG P w K mg base CX k fa fd [x] sp)
    (bn : ∀ (s : Shared) (u : Value), BindsTo s fd ⟨[u], []⟩ [(x, u)])
    (want : ∀ H : Hp, SqL K H a (ns.map V.int) → sp [.ref a] H (fun v _ => v = .bl true) fun _ _ _ => False)
    (noX : ∀ H e s', CX [] H z (fun _ _ _ => False) e s' → False) :
    codeAny (model P w) callerA (.call (.ref fa) ⟨[.ref a], []⟩)
      (fun r s' => r = .ok (.ret (.bool true)) ∧ OldK z.heap s'.heap ∧ s'.os = z.os ∧ AllBare s'.gens) z := by
  obtain ⟨H, list, ok, only⟩ := script_at (P := P) (w := w) wr ha hi hl
  have env := begin_env wr gl bl boot lim gens ok fun b tr => by
    obtain ⟨u, e⟩ := Option.ne_none_iff_exists'.mp tr
    obtain ⟨rfl, n, _⟩ := only b u e
    exact ⟨n, fun o es ep q y => by rw [ha] at q; cases q; cases y⟩
  have call := (F _ env.mod.kin env.mod.glob).go callerA [] z H ⟨[.ref a], []⟩ [.ref a] [.ref a] (fun v _ => v = .bl true)
    (fun _ _ _ => False) rfl rm env (bn z (.ref a)) (.cons rfl .nil) (want H list)
  refine codeAny_mono call ?_
  rintro (e | fl) s' got
  · exact (noX H e s' got).elim
  · cases fl with
    | ret u =>
      obtain ⟨v, H', os, bare, un, ok', rel, rfl⟩ := got
      cases (show u = Value.bool true from rel)
      exact ⟨rfl, end_old (fun b u e => ⟨_, _, (only b u e).2.2⟩) ok ok' un, os, bare⟩
    | _ => exact got.elim
theorem walk_ofG {l : PySem.W.OpenLaw} {n k : Nat} {q : Program} {loose : List Str} {XP : (Str → Option Value) → Heap → Prop}
    {YP : World → Heap → Prop} {d : DefRec} {K : Params → PySem.W.Frag} {sp : PySem.W.Frag → Sp} {x : Str} (hn : l.most = some n)
    (hn2 : n ≤ sizeLine) (hdf : d.params.defaults = []) (rm : Room k callerA)
    (left : ∀ (w : World) (h : Heap), YP w h → (K w.params).In h)
    (F : ∀ (w : World) (mg : Str → Option Value) (fa : Addr) (h : Heap),
      (K w.params).In h → h.Ns mainGlobals mg → mg d.name = some (.ref fa) →
      ∃ fd : FuncData, (∀ (s : Shared) (u : Value), BindsTo s fd ⟨[u], []⟩ [(x, u)]) ∧
        ∀ base : Heap, (K w.params).In base → base.Ns mainGlobals mg →
          FnG l.prog w (K w.params) mg base CX0 k fa fd [x] (sp (K w.params)))
    (want : ∀ (K : PySem.W.Frag) (H : Hp) (a : Addr) (ns : List Int), ns.length ≤ n → SqL K H a (ns.map V.int) →
      sp K [.ref a] H (fun v _ => v = .bl true) fun _ _ _ => False) :
    PySem.W.WalkO q loose XP YP l.row.toRowW d [] (fun f vs => PySem.call f vs) :=
  Att.attach_call hn hdf fun w _ _ mg _ fa _ _ _ _ a _ ns G Y _ _ _ at_f at_a are short gens =>
    let wr := left w _ Y
    let ⟨_, bn, all⟩ := F w mg fa _ wr G.T.g at_f
    law_callG wr G.T.g G.T.b G.T.builtins G.T.nolimit gens at_a are (Nat.le_trans short hn2) rm all bn
      (fun H list => want (K w.params) H a ns short list) fun _ _ _ no => no
end Hee


set_option Elab.async false
set_option linter.all false
set_option maxRecDepth 100000
namespace Hee
open PySem PySem.Spec PyProof.Rows L2
/-! ### y = {..} -/
section
variable {X : Cx}
theorem ps_setDc {i : Nat} {y : Str} {py : Pos} {kx vx tg iter : Expr}
    {ifs : List Expr} {scope : Scope} {own : List (Str × Nat)}
    {pos spos : Pos} {wi : TI} {g : TG} {tt : TT} {tk tv : TE}
    (hc : X.calm = true) (hN : X.N.Nodup) (hy : X.N[i]? = some y)
    (hyl : X.env.scope.names.lookup y = some .local)
    (hsw : swapsWith (.DictComp kx vx [⟨tg, iter, ifs, 0⟩] scope pos)
      (some (.Name y py)) spos.line X.env = pure true)
    (hi : PI X tg iter wi) (ok : BlkOk X.N X.env.scope scope own)
    (hg : ∀ (s : Shared) (H : Hp) (C : Addr) (cl : List (Str × Addr))
      (fp : List Addr),
      PG (X.blk s H scope (compEnvC scope cl C X.env) fp) tg g)
    (ht : ∀ (s : Shared) (H : Hp) (C : Addr) (cl : List (Str × Addr))
      (fp : List Addr),
      PTs (X.blk s H scope (compEnvC scope cl C X.env) fp) ifs tt)
    (hk : ∀ (s : Shared) (H : Hp) (C : Addr) (cl : List (Str × Addr))
      (fp : List Addr),
      PE (X.blk s H scope (compEnvC scope cl C X.env) fp) kx tk)
    (he : ∀ (s : Shared) (H : Hp) (C : Addr) (cl : List (Str × Addr))
      (fp : List Addr),
      PE (X.blk s H scope (compEnvC scope cl C X.env) fp) vx tv)
    (hs : ∀ x, foldedSetIterable iter X.env x = pure x := by intro _; rfl) :
    PS X (.Assign [.Name y py]
        (.DictComp kx vx [⟨tg, iter, ifs, 0⟩] scope pos) spos)
      (tAsg (tDc wi g tt tk tv (own.map (·.2))) (gName i)) := by
  constructor
  intro pins s σ H D I want
  -- the dict's own frame is left only when the name holds it
  have stored : ∀ (L C : Addr) (s' : Shared) (m : Str → Option Value) (H' : Hp), Inv X pins σ H' s' →
      gName i (.ref L) σ H' D.nx → s'.heap.Ns C m → FpOk X pins H' C →
      compPost (model X.prog X.w) X.A X.xe (some (assign (.Name y py) X.env)) (fun _ s' => SP X pins D .next s')
        (.ref L) C (.ok .next) s' := by
    intro L C s' m H' I' q ns away
    have put := store_ok2 (M := model X.prog X.w) (A := X.A) (E := X.xe) (v := V.ref L) (u := .ref L)
      (Q := fun _ s2 => ∃ m, s2.heap.Ns C m ∧ ∀ h3, Heap.SameBut C s2.heap h3 → SP X pins D .next { s2 with heap := h3 })
      I' hN hy (.inl hyl) rfl (fun s2 I2 ⟨a, sb, ha⟩ => by
        have ne : C ≠ a := by
          rintro rfl
          exact ha.elim (fun z => away.2.1 z) fun z => away.2.2.2.2.1 y C z rfl
        refine ⟨m, ns.sameBut sb ne, fun h3 s3 => ⟨_, H', ?_, q⟩⟩
        exact I2.turned (t' := s2.toks) (it := C) (fun b o hb e => (s3.2 b hb).trans e) away.1 away.2.1 away.2.2.2.1
          away.2.2.2.2.1 away.2.2.2.2.2) (.inr hyl)
    exact wpAny_assign_Name put
  have all := dc_core (pos := pos) (pos' := firstIterPos [⟨tg, iter, ifs, 0⟩] pos)
    (use := some (assign (.Name y py) X.env)) (Qf := fun _ s' => SP X pins D .next s') hc hN I hi ok hg ht hk he hs want stored
  rw [exec_Assign_Name_used _ _ _ _ hsw]
  exact wpAny_bind (wpAny_standAt (wpAny_bind (wpAny_bind (thn all fun _ _ q => wpAny_pure (wpAny_pure q)))))
end
/-! ### what the iterator over a dict's keys draws -/
section
variable {prog : Program} {w : World} {A : Around} {E : Value → Shared → Prop} {s : Shared}
set_option maxHeartbeats 2000000 in
/-- no key is left -/
theorem key_out {it d : Addr} {i n ep : Nat} {od : Obj} {es : Array DictEntry} {Q : Value → Shared → Prop}
    (hh : A.handled = none) (hit : s.heap.IsKeyIter it d i n ep) (hod : s.heap.get? d = some od)
    (hdd : od.data = .dict es ep) (hsz : es.size = n) (hge : n ≤ i)
    (out : ∀ h' e, Heap.ExtBut it s.heap h' → (∃ o, h'.get? e = some o ∧ o.cls = .type "StopIteration") →
      E (.ref e) { s with heap := h' }) :
    wpAny (model prog w) A (Builtin.SmallTypes.nextOf (.ref it)) Q E s := by
  have ty := hit.typeIs
  obtain ⟨⟨c, dc, dt, sl⟩, ho, hc, hd⟩ := hit
  obtain ⟨c2, dc2, dt2, sl2⟩ := od
  simp only at hc hd hdd
  subst hc hd hdd
  have calm1 : A.in1.handled = none := hh
  have nm : ∀ {Q : String → Shared → Prop} {A : Around} {E : Value → Shared → Prop}, Q "dict_keyiterator" s →
      wpAny (model prog w) A (typeNameOfWhole (.ref it)) Q E s := fun q => wpAny_typeNameOfWhole_keyiter ty q
  have none1 : (if ((i : Nat) : Int) < 0 then none else es[((i : Nat) : Int).toNat]?) = none := by
    rw [if_neg (by omega), Int.toNat_natCast]; exact Array.getElem?_eq_none (by omega)
  refine wpAny_bind (wpAny_callSpecial?_slot (name := Str.ofString "__next__") ty F.slot_dict_keyiterator_next
    (wpAny_call_entry F.slot_dict_keyiterator_next ty F.entry_dict_keyiterator_next ?_ (F.args_dict_keyiterator_next_1 _)))
  unfold Builtin.«dict_keyiterator.__next__»
  wp_walk using nm
  rw [none1]
  wp_walk using nm
  unfold raiseNew
  wp_walk using nm
  exact out _ _ (((Heap.SameBut.update ..).extBut.push _).push _) ⟨_, Heap.get?_push_size _ rfl, rfl⟩
/-- the keys, one after another -/
theorem draws_keys {K : Type} [DecidableEq K] {knd : KeyKind prog w K} (hh : A.handled = none) (it d : Addr) (hne : d ≠ it)
    (kvs : List (K × Value)) (ep : Nat) :
    Draws prog w A it [it, d] kvs.length (fun i v => ∃ k x, kvs[i]? = some (k, x) ∧ knd.is k v = true)
      (fun i h => h.IsKeyIter it d i kvs.length ep ∧ h.DictAt knd d kvs ep) where
  live _ _ st := st.1.imp fun _ q => q.1
  frame _ _ _ st hk := by
    obtain ⟨⟨o, ho, r⟩, od, es, hd, r2⟩ := st
    exact ⟨⟨o, hk it (by simp) o ho, r⟩, od, es, hk d (by simp) od hd, r2⟩
  item i s Q E hi st go := by
    have here : kvs[i]? = some (kvs[i].1, kvs[i].2) := List.getElem?_eq_getElem hi
    exact wpAny_bind (PySem.W.kdk_special st.1 st.2 here fun key h' is it' sb => wpAny_pure
      (go key h' s.toks ⟨_, _, here, is⟩ ⟨it', st.2.extBut sb.extBut hne⟩ sb))
  done s Q E st out := by
    obtain ⟨od, es, ho, _, hd, _, hp, _⟩ := id st.2
    exact key_out hh st.1 ho hd (by rw [← hp.length]; simp) (Nat.le_refl _) out
theorem any_truth {b : Bool} {Q : Bool → Shared → Prop} (h : ∀ b, Q b s) : wpAny (model prog w) A (pure b) Q E s := wpAny_pure (h b)
abbrev enO (it : Addr) : Obj := { cls := .type "enumerate", data := .fields #[.none, .bool false, .ref it, rawInt 0, .none, .none] }
/-- enumerate(v), by v's iterator o: its two new objects -/
theorem enum_one {v : Value} {o : Obj} {Q : Value → Shared → Prop} (free : o.isFreed = false)
    (it : ∀ {A : Around} {E : Value → Shared → Prop} {Q : Value → Shared → Prop},
      Q (.ref s.heap.objs.size) { s with heap := s.heap.push o } → wpAny (model prog w) A (pyIter v) Q E s)
    (go : ∀ h', IsEnum h' (s.heap.objs.size + 1) s.heap.objs.size 0 .none → h'.get? s.heap.objs.size = some o →
      (∀ b u, s.heap.get? b = some u → h'.get? b = some u) → Q (.ref (s.heap.objs.size + 1)) { s with heap := h' }) :
    wpAny (model prog w) A (call (.type "enumerate") [v]) Q E s := by
  have made : MeetsIn prog w (Builtin.«enumerate.__new__» ⟨[.type "enumerate", v], []⟩) (fun _ R s' => s' = s ∧
      R (.ok (.ret (.ref (s.heap.push o).objs.size))) { s with heap := (s.heap.push o).push (enO s.heap.objs.size) }) := by
    refine .of_wp fun A R s' ⟨e, q⟩ => ?_
    subst e
    have sub := sub_enumerate
    wp_walk using it
    -- whether it was called through its type does not matter for one argument
    refine wpAny_stack_any fun st => any_truth fun b => ?_
    cases b <;> (wp_walk using it; exact ⟨_, rfl, q⟩)
  refine callType_newIn F.called_enumerate (by decide) (F.typeCall_enumerate_1 _) (F.newCall_enumerate_1 _)
    (fun obj => F.args_object_init_2 obj _) F.entry_enumerate_new made ⟨rfl, ?_⟩
  have two : (s.heap.push o).objs.size = s.heap.objs.size + 1 := Heap.size_push ..
  have at2 : IsEnum ((s.heap.push o).push (enO s.heap.objs.size)) (s.heap.objs.size + 1) s.heap.objs.size 0 .none :=
    two ▸ Heap.get?_push_size (s.heap.push o) rfl
  refine ⟨⟨_, Heap.get?_push_size _ rfl, rfl⟩, ?_⟩
  rw [two]
  exact go _ at2 (Heap.get?_push_of_some _ (Heap.get?_push_size _ free)) fun b u q =>
    Heap.get?_push_of_some _ (Heap.get?_push_of_some _ q)
end
/-! ### enumerate over what an iterator draws -/
theorem turn_pairs {P : Program} {w : World} {K : PySem.W.Frag} {elts : List Expr} {kk : Nat} {tpos : Pos} (e it : Addr)
    {go stop : Nat → Hp → Prop} {item : Nat → Hp → V → Prop} {st : Nat → Heap → Prop}
    (live : ∀ i h, st i h → ∃ o, h.get? it = some o ∧ ∀ v, o.data ≠ .cell v)
    (keep : ∀ i h h', st i h → (∀ o, h.get? it = some o → h'.get? it = some o) → st i h')
    (src : ∀ X : Cx, X.prog = P → X.w = w → X.K = K → X.calm = true → ∀ (i : Nat) (pins : List (Addr × Obj)) (s : Shared)
      (σ : L2.St) (H : Hp), Inv X pins σ H s → st i s.heap → (∃ old, IsEnum s.heap e it i old) → (go i H ∨ stop i H) →
      ∃ (fp : List Addr) (n : Nat) (Pv : Nat → Value → Prop) (S : Nat → Heap → Prop), Draws P w X.A.in1 it fp n Pv S ∧ it ∈ fp ∧
        e ∉ fp ∧ S i s.heap ∧ (go i H → i < n) ∧ (stop i H → i = n) ∧ (∀ u, Pv i u → ∃ v, RelV v u ∧ item i H v) ∧
        ∀ h', S (i + 1) h' → st (i + 1) h') :
    Turn P w K (.Tuple elts kk tpos) ⟨go, fun i H v H' => ∃ T x, v = .ref T ∧ H T = none ∧
        H' = upd H T (.tup [.int (i : Nat), x]) ∧ item i H x, stop⟩ [e, it] e
      (fun i h => (∃ old, IsEnum h e it ((i : Nat) : Int) old) ∧ st i h) := by
  have both : ∀ {b : Addr}, b ∈ [e, it] → b = e ∨ b = it := by intro b q; simpa using q
  have there : ∀ {i : Nat} {h : Heap}, (∃ old, IsEnum h e it ((i : Nat) : Int) old) ∧ st i h → ∀ b ∈ [e, it],
      ∃ o, h.get? b = some o ∧ ∀ v, o.data ≠ .cell v := by
    rintro i h ⟨⟨old, he⟩, q⟩ b m
    rcases both m with rfl | rfl
    · exact ⟨_, he, fun v y => by cases y⟩
    · exact live i h q
  refine { mem := by simp, obj := fun i h q => there q, keep := ?_, item := ?_, done := ?_, self := ?_ }
  · rintro i h h' ⟨⟨old, he⟩, q⟩ k
    exact ⟨⟨old, k e (by simp) _ he⟩, keep i h h' q (k it (by simp))⟩
  · rintro X rfl rfl rfl hc i pins s σ H E I hf q hg
    obtain ⟨fp, n, Pv, S, D, mi, ef, hS, lt, _, is, nx⟩ := src X rfl rfl rfl hc i pins s σ H I q.2 q.1 (.inl hg)
    have G := GoesN.enumFrom (elts := elts) (x1 := kk) (pos := tpos) 0 D e (fun y => ef (y ▸ mi)) ef mi
    refine G.goes i s (fun u s2 => ∃ x H', Inv X pins σ H' s2 ∧ RelV x u ∧ _ ∧ _ ∧ ∀ b ∈ [e, it], H' b = none) E (lt hg)
      ⟨by simpa using q.1, hS⟩ ?_
    rintro v h' tk ⟨T, t, u, rfl, new, hP, tup⟩ ⟨en, hS'⟩ kept _
    obtain ⟨x, rel, hx⟩ := is u hP
    have ok : ObjOk X.prog X.w (upd H T (.tup [.int (i : Nat), x])) h' T (.tup [.int (i : Nat), x]) :=
      ⟨by show 2 ≤ sizeLine; decide, [.int (0 + (i : Int)) t, u], .cons ⟨t, by simp⟩ (.cons rel .nil), tup⟩
    refine ⟨.ref T, _, I.turnedNew kept hf new ok, rfl, ⟨T, x, rfl, I.hok.fresh new, rfl, hx⟩,
      ⟨by simpa using en, nx h' hS'⟩, fun b m => ?_⟩
    obtain ⟨o, ho, _⟩ := there q b m
    exact (upd_ne (Nat.ne_of_lt (Nat.lt_of_lt_of_le (Heap.lt_size ho) new))).trans (hf b m).1
  · rintro X rfl rfl rfl hc i pins s σ H E I hf q hg
    obtain ⟨fp, n, Pv, S, D, mi, ef, hS, _, eq, _, _⟩ := src X rfl rfl rfl hc i pins s σ H I q.2 q.1 (.inr hg)
    obtain rfl := eq hg
    obtain ⟨old, he⟩ := q.1
    have away := hf it (by simp)
    exact wpAny_pyNext_enum_endD D he hS fun h' eb => ⟨rfl, I.turned (t' := s.toks) (it := it) eb away.1 away.2.1
      away.2.2.2.1 away.2.2.2.2.1 away.2.2.2.2.2⟩
  · rintro A i s Q E ⟨⟨old, he⟩, _⟩ q
    exact wpAny_pyIter_enum he q
/-- two new addresses are nobody's -/
theorem two_new {X : Cx} {pins : List (Addr × Obj)} {σ : L2.St} {H : Hp} {s : Shared} (I : Inv X pins σ H s) :
    ∀ b ∈ [s.heap.objs.size + 1, s.heap.objs.size], FpOk X pins H b := by
  intro b m
  have le : s.heap.objs.size ≤ b := by
    simp only [List.mem_cons, List.not_mem_nil, or_false] at m
    omega
  exact I.fpOk le (I.hok.fresh le)
theorem class_ne {h : Heap} {a b : Addr} {oa ob : Obj} {ca cb : String} (ha : h.get? a = some oa) (hb : h.get? b = some ob)
    (ea : oa.cls = .type ca) (eb : ob.cls = .type cb) (ne : ca ≠ cb) : a ≠ b := by
  rintro rfl
  cases ha.symm.trans hb
  exact ne (Value.type.inj (ea.symm.trans eb))
/-- enumerate(t), t a tuple that stands still -/
def Iet (K : PySem.W.Frag) (a : Addr) : It :=
  ⟨fun i H => ∃ (xs : List V) (x : V), SqT K H a xs ∧ xs[i]? = some x,
    fun i H v H' => ∃ T x, v = .ref T ∧ H T = none ∧
      H' = upd H T (.tup [.int (i : Nat), x]) ∧
      ∀ xs, SqT K H a xs → xs[i]? = some x,
    fun i H => ∃ xs : List V, SqT K H a xs ∧ xs.length = i⟩
theorem turn_enumT {P : Program} {w : World} {K : PySem.W.Frag} {elts : List Expr} {kk : Nat} {tpos : Pos} (a e it : Addr) :
    Turn P w K (.Tuple elts kk tpos) (Iet K a) [e, it] e
      (fun i h => (∃ old, IsEnum h e it ((i : Nat) : Int) old) ∧ h.IsTupleIter it a i) := by
  refine turn_pairs e it (item := fun i H x => ∀ xs, SqT K H a xs → xs[i]? = some x) (fun i h q => ?_) (fun i h h' q k => q.at k) ?_
  · obtain ⟨o, ho, _, hd⟩ := q
    exact ⟨o, ho, fun v y => by rw [hd] at y; cases y⟩
  rintro X rfl rfl rfl hc i pins s σ H I q ⟨old, he⟩ g
  obtain ⟨xs, hq⟩ : ∃ xs, SqT X.K H a xs := g.elim (fun ⟨xs, _, y, _⟩ => ⟨xs, y⟩) fun ⟨xs, y, _⟩ => ⟨xs, y⟩
  have one : ∀ {ys : List V}, SqT X.K H a ys → ys = xs := fun y => I.tuple_inj y hq
  obtain ⟨its, rv, tup, _⟩ := I.tuple hq
  obtain ⟨o1, g1, c1, _⟩ := id q
  obtain ⟨o2, g2, c2, _⟩ := id tup
  refine ⟨[it, a], its.toArray.size, _, _, Draws.tuple (A := X.A.in1) (I.ok.hd hc) it a (class_ne g2 g1 c2 c1 (by decide)) its.toArray, by simp,
    ?_, ⟨q, tup⟩, ?_, ?_, fun u hu => ?_, fun h' y => y.1⟩
  · have n1 : e ≠ it := class_ne he g1 rfl c1 (by decide)
    have n2 : e ≠ a := class_ne he g2 rfl c2 (by decide)
    simp [n1, n2]
  · rintro ⟨ys, x, y, hx⟩
    cases one y
    simpa [← rv.length] using (List.getElem?_eq_some_iff.mp hx).1
  · rintro ⟨ys, y, hx⟩
    cases one y
    simpa [← rv.length] using hx.symm
  · have at_i : its[i]? = some u := by simpa using hu
    have lt : i < xs.length := by rw [rv.length]; exact (List.getElem?_eq_some_iff.mp at_i).1
    obtain ⟨u', e', rel⟩ := rv.get (List.getElem?_eq_getElem lt)
    cases at_i.symm.trans e'
    exact ⟨xs[i], rel, fun ys y => by rw [one y]; exact List.getElem?_eq_getElem lt⟩
def iEnumT (K : PySem.W.Frag) (ta : TA) : TI := fun σ H R =>
  ta σ H fun vs H1 => ∃ a xs, vs = [.ref a] ∧ SqT K H1 a xs ∧ R (Iet K a) H1
theorem pi_enumT {X : Cx} {e : Expr} {ta : TA} {p pos tpos : Pos}
    {elts : List Expr} {kk : Nat} (hg : Gl X "enumerate")
    (hm : X.mg "enumerate" = none) (ha : PA X [e] ta)
    (hs : starEach [e] X.env = [(false, eval e X.env)] := by rfl) :
    PI X (.Tuple elts kk tpos) (.Call (.Name "enumerate" p) [e] [] pos)
      (iEnumT X.K ta) := by
  constructor
  intro pins s σ H R I want
  have args := ha.run pos pins s σ H _ I want
  refine Call_ (ld_blt I hg hm boot_enumerate (PyProof.Rows.callWith_type1 (thn args ?_) hs rfl))
  rintro us s1 ⟨_, H1, I1, rel, a, xs, rfl, hq, q⟩
  cases Vals.ref1 rel
  obtain ⟨its, _, tup, _⟩ := I1.tuple hq
  refine enum_one (o := { cls := .type "tuple_iterator", data := .fields #[.ref a, .int 0 0] }) rfl
    (fun y => wpAny_pyIter_tuple tup y) fun h' he hit kept => wpAny_pyIter_enum he ?_
  exact ⟨_, _, _, Iet X.K a, H1, rfl, I1.kept (t' := s1.toks) kept, turn_enumT a _ s1.heap.objs.size,
    ⟨⟨_, he⟩, _, hit, rfl, rfl⟩, two_new I1, q⟩
/-- enumerate(d), d a locked dict -/
def Ied (d : Addr) (o : Obj) (kvs : List (Key × V)) : It :=
  ⟨fun i H => H d = some (.frz o (.dK kvs)) ∧ i < kvs.length,
    fun i H v H' => ∃ T x, v = .ref T ∧ H T = none ∧
      H' = upd H T (.tup [.int (i : Nat), x]) ∧
      ∃ k v, kvs[i]? = some (k, v) ∧ x = kV k,
    fun i H => H d = some (.frz o (.dK kvs)) ∧ i = kvs.length⟩
theorem turn_enumD {P : Program} {w : World} {K : PySem.W.Frag} {elts : List Expr} {kk : Nat} {tpos : Pos} {d : Addr} {o : Obj}
    {es : Array DictEntry} {ep : Nat} {kvs : List (Key × V)} (e it : Addr) (hod : o.data = .dict es ep) :
    Turn P w K (.Tuple elts kk tpos) (Ied d o kvs) [e, it] e
      (fun i h => (∃ old, IsEnum h e it ((i : Nat) : Int) old) ∧ h.IsKeyIter it d i kvs.length ep) := by
  refine turn_pairs e it (item := fun i H x => ∃ k v, kvs[i]? = some (k, v) ∧ x = kV k) (fun i h q => ?_) (fun i h h' q k => q.at k) ?_
  · obtain ⟨o, ho, _, hd⟩ := q
    exact ⟨o, ho, fun v y => by rw [hd] at y; cases y⟩
  rintro X rfl rfl rfl hc i pins s σ H I q ⟨old, he⟩ g
  have hd : H d = some (.frz o (.dK kvs)) := g.elim (·.1) (·.1)
  obtain ⟨_, at_d, exact_, es', ep', vs, dat, _, kv, hm⟩ := I.frzK hd
  cases hod.symm.trans dat
  have len : kvs.length = vs.length := Paired.length kv
  rw [len] at q
  have dat' : s.heap.DictAt (mixKind X.prog X.w) d vs ep := hm
  obtain ⟨o1, g1, c1, _⟩ := id q
  refine ⟨[it, d], vs.length, _, _, draws_keys (A := X.A.in1) (knd := mixKind X.prog X.w) (I.ok.hd hc) it d (class_ne at_d g1 exact_.1 c1 (by decide)) vs ep, by simp, ?_,
    ⟨q, dat'⟩, fun y => by rw [← len]; exact y.2, fun y => by rw [← len]; exact y.2, ?_, fun h' y => by rw [len]; exact y.1⟩
  · have n1 : e ≠ it := class_ne he g1 rfl c1 (by decide)
    have n2 : e ≠ d := class_ne he at_d rfl exact_.1 (by decide)
    simp [n1, n2]
  · rintro u ⟨k, x, at_i, is⟩
    have lt : i < kvs.length := by rw [len]; exact (List.getElem?_eq_some_iff.mp at_i).1
    obtain ⟨y, hy, _⟩ := kv_get kv (show kvs[i]? = some (kvs[i].1, kvs[i].2) from List.getElem?_eq_getElem lt)
    cases at_i.symm.trans hy
    exact ⟨kV kvs[i].1, relV_key is, _, _, List.getElem?_eq_getElem lt, rfl⟩
def iEnumD (ta : TA) : TI := fun σ H R => ta σ H fun vs H1 =>
  ∃ d o kvs, vs = [.ref d] ∧ H1 d = some (.frz o (.dK kvs)) ∧
    R (Ied d o kvs) H1
theorem pi_enumD {X : Cx} {e : Expr} {ta : TA} {p pos tpos : Pos}
    {elts : List Expr} {kk : Nat} (hg : Gl X "enumerate")
    (hm : X.mg "enumerate" = none) (ha : PA X [e] ta)
    (hs : starEach [e] X.env = [(false, eval e X.env)] := by rfl) :
    PI X (.Tuple elts kk tpos) (.Call (.Name "enumerate" p) [e] [] pos)
      (iEnumD ta) := by
  constructor
  intro pins s σ H R I want
  have args := ha.run pos pins s σ H _ I want
  refine Call_ (ld_blt I hg hm boot_enumerate (PyProof.Rows.callWith_type1 (thn args ?_) hs rfl))
  rintro us s1 ⟨_, H1, I1, rel, d, o, kvs, rfl, hd, q⟩
  cases Vals.ref1 rel
  obtain ⟨low, at_d, exact_, es, ep, vs, dat, _, kv, hm⟩ := I1.frzK hd
  have len : kvs.length = vs.length := Paired.length kv
  have dat' : s1.heap.DictAt (mixKind X.prog X.w) d vs ep := hm
  refine enum_one (o := { cls := .type "dict_keyiterator", data := .fields #[.ref d, .int 0 0, .int vs.length 0, .int ep 0] }) rfl
    (fun y => wpAny_pyIter_dict low dat' y) fun h' he hit kept => wpAny_pyIter_enum he ?_
  exact ⟨_, _, _, Ied d o kvs, H1, rfl, I1.kept (t' := s1.toks) kept, turn_enumD (kvs := kvs) _ s1.heap.objs.size dat,
    ⟨⟨_, he⟩, _, hit, rfl, by rw [len]; rfl⟩, two_new I1, q⟩
theorem walk_enumT {K : PySem.W.Frag} {a : Addr} {xs : List V} :
    Walk (Iet K a) xs.length (fun H => SqT K H a xs)
      (YPair (fun i => some (.int (i : Nat))) (fun i => xs[i]?)) where
  goes i _ lt q := ⟨xs, xs[i], q, by simp [lt]⟩
  stops _ q := ⟨xs, q, rfl⟩
  yields i _ _ _ _ q := fun ⟨T, x, at_T, free, new, is⟩ => ⟨T, _, x, at_T, free, new, rfl, is xs q⟩
theorem walk_enumD {d : Addr} {o : Obj} {kvs : List (Key × V)} :
    Walk (Ied d o kvs) kvs.length (fun H => H d = some (.frz o (.dK kvs)))
      (YPair (fun i => some (.int (i : Nat)))
        (fun i => kvs[i]?.map fun p => kV p.1)) := by
  refine ⟨fun i _ hi q => ⟨q, hi⟩, fun _ q => ⟨q, rfl⟩,
    fun i H v H' _ q y => ?_⟩
  obtain ⟨T, x, h1, h2, h3, k, z, h4, h5⟩ := y
  exact ⟨T, .int (i : Nat), x, h1, h2, h3, rfl, by
    show Option.map (fun p => kV p.1) kvs[i]? = some x
    rw [h4, h5]; rfl⟩
end Hee


set_option Elab.async false
set_option linter.all false
set_option maxRecDepth 100000
namespace Hee
open PySem PySem.Spec PyProof.Rows L2
/-! ### tuple(xs) and tuple displays, kept by the very object -/
abbrev tupO (its : List Value) : Obj := { cls := .type "tuple", data := .seq its.toArray }
/-- a new tuple at the heap's end, tracked and locked -/
theorem lock_tuple {X : Cx} {pins : List (Addr × Obj)} {σ : L2.St} {H : Hp} {s : Shared} {ys : List V} {its : List Value}
    (I : Inv X pins σ H s) (rel : Vals ys its) (short : ys.length ≤ sizeLine) {h' : Heap}
    (kept : ∀ b u, s.heap.get? b = some u → h'.get? b = some u) :
    Inv X pins σ (upd H h'.objs.size (.frz (tupO its) (.tup ys))) { s with heap := h'.push (tupO its) } ∧ H h'.objs.size = none := by
  have J : Inv X pins σ H { s with heap := h' } := I.kept (t' := s.toks) kept
  have at_end : (h'.push (tupO its)).get? h'.objs.size = some (tupO its) := Heap.get?_push_size _ rfl
  exact ⟨J.laid (t' := s.toks) (fun _ _ q => Heap.get?_push_of_some _ q) (Nat.le_refl _)
    ⟨at_end, short, its, rel, tupO its, at_end, rfl, _, rfl⟩, J.hok.fresh (Nat.le_refl _)⟩
section
variable {X : Cx}
theorem call_tupleF : CallR X (.type "tuple") (fun xs H Q => ∃ p ys, xs = [.ref p] ∧ SqL X.K H p ys ∧ ∀ l (o : Obj), H l = none → o.dict = none → Q (.ref l) (upd H l (.frz o (.tup ys)))) := by
  rintro pins s σ H _ us Q I r ⟨p, ys, rfl, list, q⟩
  cases Vals.ref1 r
  obtain ⟨its, rel, here, short⟩ := I.list list
  have len : its.length ≤ sizeLine := rel.length ▸ short
  refine call_tuple_list here.isList (fun h' kept => ?_) (by simpa using len)
  obtain ⟨J, free⟩ := lock_tuple I rel short kept
  exact ⟨.ref h'.objs.size, _, J, rfl, q _ _ free rfl⟩
/-- a tuple display -/
theorem pe_tupF {es : List Expr} {t : TA} {x1 : Nat} {pos : Pos} (ha : PA X es t) : PE X (.Tuple es x1 pos)
    (fun σ H Q => t σ H fun xs H1 => xs.length ≤ sizeLine ∧ ∀ p (o : Obj), H1 p = none → o.dict = none → Q (.ref p) (upd H1 p (.frz o (.tup xs)))) := by
  constructor
  intro pins s σ H Q I want
  refine wpAny_Tuple_spliced (thn (ha.run pos pins s σ H _ I want) ?_)
  rintro us s1 ⟨xs, H1, I1, rel, short, q⟩
  obtain ⟨J, free⟩ := lock_tuple I1 rel short fun _ _ y => y
  exact ⟨rel.length ▸ short, .ref s1.heap.objs.size, _, J, rfl, q _ _ free rfl⟩
/-! ### dict(t), t a tuple of pairs -/
/-- for each of a row one that fits: a row of them -/
theorem row_of {α β : Type} : ∀ (xs : List α) {R : Nat → α → β → Prop}, (∀ j x, xs[j]? = some x → ∃ y, R j x y) →
    ∃ ys : List β, ys.length = xs.length ∧ ∀ j x, xs[j]? = some x → ∃ y, ys[j]? = some y ∧ R j x y
  | [], _, _ => ⟨[], rfl, fun _ _ e => by simp at e⟩
  | x :: xs, R, h => by
    obtain ⟨y, hy⟩ := h 0 x rfl
    obtain ⟨ys, len, rest⟩ := row_of xs (R := fun j => R (j + 1)) fun j z e => h (j + 1) z (by simpa using e)
    refine ⟨y :: ys, by simp [len], fun j z e => ?_⟩
    cases j with
    | zero => cases e; exact ⟨y, rfl, hy⟩
    | succ j => simpa using rest j z (by simpa using e)
theorem call_dictT (hcalm : X.calm = true) : CallR X (.type "dict") (fun xs H Q => ∃ (a : Addr) (o : Obj) (ps : List Addr) (kvs : List (Key × V)),
    xs = [.ref a] ∧ H a = some (.frz o (.tup (ps.map V.ref))) ∧ o.dict = none ∧ Paired (fun p kv => SqT X.K H p [kV kv.1, kv.2]) ps kvs ∧
    ∀ p, H p = none → Q (.ref p) (upd H p (.dK (mergeK [] kvs)))) := by
  rintro pins s σ H _ us Q I r ⟨a, o, ps, kvs, rfl, ha, plain, two, q⟩
  cases Vals.ref1 r
  obtain ⟨at_a, short, its, rv, o', at_a', cls, n, dat⟩ := (show ObjOk X.prog X.w H s.heap a (.frz o (.tup (ps.map V.ref))) from I.hok a _ ha)
  cases at_a.symm.trans at_a'
  cases refs_at rv
  rw [List.length_map] at short
  obtain ⟨prs, rel, len, fits⟩ := pairs_of I two
  -- the keys as they stand there
  obtain ⟨ks, klen, kfit⟩ := row_of prs (R := fun j p u => ∃ b, ps[j]? = some b ∧ IsTup s.heap b #[u, p.2] ∧ keyIs p.1 u = true)
    fun j p e => let ⟨b, u, y⟩ := fits j p e; ⟨u, b, y⟩
  have both : ∀ (j : Nat) (k v : Value), ((ks.zip prs).map fun p => (p.1, p.2.2))[j]? = some (k, v) → ∃ c b, prs[j]? = some (c, v) ∧ ps[j]? = some b ∧
      IsTup s.heap b #[k, v] ∧ keyIs c k = true := by
    intro j k v e
    rw [List.getElem?_map, Option.map_eq_some_iff] at e
    obtain ⟨⟨u, c, v'⟩, e1, e2⟩ := e
    cases e2
    obtain ⟨e3, e4⟩ := List.getElem?_zip_eq_some.mp e1
    obtain ⟨u', e5, b, y⟩ := kfit j _ e4
    cases e3.symm.trans e5
    exact ⟨c, b, e4, y⟩
  have arg := PySem.PairArg.tuple (prog := X.prog) (w := X.w) a (ps.map Value.ref).toArray (fun j => ps[j]?.getD 0) ((ks.zip prs).map fun p => (p.1, p.2.2))
  have many : ((ks.zip prs).map fun p => (p.1, p.2.2)).length = prs.length := by simp [klen]
  refine PySem.call_dict_pairs (knd := mixKind X.prog X.w) (kvs := prs) arg (I.ok.hd hcalm) ⟨⟨o, n, at_a, cls, plain, dat⟩, ?_, fun j k v e => ?_⟩
    ⟨many.symm, fun j k v e => ?_⟩ (by rw [many, len]; exact short) fun h' tk made kept => ?_
  · rw [many, len]; simp
  · obtain ⟨c, b, _, e1, tup, _⟩ := both j k v e
    exact ⟨by simp [e1], .inl (by show s.heap.IsTuple (ps[j]?.getD 0) #[k, v]; rw [e1]; exact tup)⟩
  · obtain ⟨c, b, e1, _, _, is⟩ := both j k v e
    exact ⟨c, e1, is⟩
  · have low : (s.heap.objs.size == sysModules) = false := by simpa using Nat.ne_of_gt I.big
    have fit : (mergeK [] kvs).length ≤ sizeLine := by
      have := length_mergeK kvs []
      simp only [List.length_nil, Nat.zero_add, rel.length, len] at this
      omega
    exact ⟨.ref s.heap.objs.size, upd H s.heap.objs.size (.dK (mergeK [] kvs)), I.laid (o := .dK (mergeK [] kvs)) (t' := tk) (fun b u y => kept b u (by simp) y) (Nat.le_refl _) ⟨fit, low, merged [] prs, KV.merge rel .nil, made⟩, rfl,
      q _ (I.hok.fresh (Nat.le_refl _))⟩
/-! ### o.m(k = v) -/
variable {CX : CXT} {k : Nat} {f C : Addr} {fd : FuncData} {ps ks : List Str} {sp : Sp} {E : XK} {m : Str} {pos apos : Pos}
  {o : Expr} {kws : List Keyword} {ta : TE} {tk : TA} {g : List Value → List Value → List Value} {gV : List V → List V → List V}
def tMethK (C : Addr) (m : Str) (sp : Sp) (gV : List V → List V → List V) (E : XK) (ta : TE) (tk : TA) : TE := fun σ H Q =>
  ta σ H fun x H1 => ∃ a dx fs, x = .ref a ∧ H1 a = some (.ins C dx fs) ∧ fs.lookup m = none ∧ tk σ H1 fun zs H2 => sp (gV [x] zs) H2 Q E
theorem pe_methK0 {pl : Sem Bool} (he : PE X o ta) (c : Cls X.K C) (hm : Meth X.K C m f)
    (F : FnOk X.prog X.w X.K X.mg X.base CX k f fd ps sp) (rm : Room k X.A) (bn : KBinds X.K fd ps ks g gV)
    (px : Passes CX X E) (hkw : PK X kws tk)
    (hall : (backToKw pos (keywordEach kws X.env)).all (·.1.isSome) = true := by rfl)
    (hks : (backToKw pos (keywordEach kws X.env)).filterMap (·.1) = ks := by rfl)
    (hpl : ((backTo pos (starEach [] X.env)).any (·.1) || (backToKw pos (keywordEach kws X.env)).any (·.1.isNone)) = false := by rfl)
    (ht : eval (.Call (.Attribute o m apos) [] kws pos) X.env = (do
      let ov ← eval o X.env
      standAt apos.atName
      let (f, first) ← holding [ov] (getMethod ov m pl)
      callWith pos f first (backTo pos (starEach [] X.env)) (backToKw pos (keywordEach kws X.env))) := by rfl) :
    PE X (.Call (.Attribute o m apos) [] kws pos) (tMethK C m sp gV E ta tk) := by
  constructor
  intro pins s σ H Q I want
  refine PySem.W.methodCall_KW (pl := pl) (thn (he.run pins s σ H _ I want) ?_) ht
  rintro u s1 ⟨_, H1, I1, rel, a, dx, fs, rfl, at_a, own, q⟩
  cases (show u = Value.ref a from rel)
  refine getmeth_ok I1 at_a c hm own (PySem.W.callWith_KW0 (first := [.ref a]) (h₀ := X.base) I.ok.mod.kin hm.kp hall ?_ hpl)
  refine thn (hkw.run pos pins s1 σ H1 _ I1 q) ?_
  rintro ws s2 ⟨zs, H2, I2, rz, q2⟩
  refine ⟨I2.kIn, ?_⟩
  subst hks
  exact run_fnk (us := [.ref a]) (vs := [.ref a]) F rm bn px I2 (.cons rfl .nil) rz q2
end
end Hee


set_option Elab.async false
set_option linter.all false
set_option maxRecDepth 100000
namespace Hee
open PySem PySem.Spec PyProof.Rows L2
/-! ### len(o), repr(o) by the class's own methods -/
section
variable {X : Cx} {k : Nat} {f C : Addr} {fd : FuncData} {ps : List Str} {sp : Sp}
/-- the own method, one call deeper -/
theorem run_in1 {pins : List (Addr × Obj)} {σ : L2.St} {H : Hp} {s : Shared} {Q : VK} {x : Addr} {R : Value → Shared → Prop}
    (F : FnOk X.prog X.w X.K X.mg X.base CX0 k f fd ps sp) (rm : Room (k + 1) X.A) (bn : Binds X.K fd ps [])
    (I : Inv X pins σ H s) (want : sp [.ref x] H Q E0) (back : ∀ u s', EP X pins σ Q u s' → R u s') :
    wpAny (model X.prog X.w) X.A.in1 (call (.ref f) [.ref x]) R X.xe s := by
  have r2 : Vals [V.ref x] [Value.ref x] := .cons rfl .nil
  have ln : ([Value.ref x] ++ []).length = ps.length := by
    have := F.len _ _ _ _ want
    exact this
  refine wpAny_call (codeAny_mono (F.run X.A.in1 X.stack s H ⟨[.ref x], []⟩ [.ref x] [.ref x] Q E0 rm.in1 I.env0.in1
    (by have := bn s [.ref x] I.kIn ln; rw [List.append_nil] at this; exact this) r2 want) fun o s2 got => ?_)
  match o, got with
  | .error z, got => exact got.elim
  | .ok (.ret u), got => exact back u s2 (I.after got)
  | .ok .next, got => exact got.elim
  | .ok .brk, got => exact got.elim
  | .ok .cont, got => exact got.elim
theorem call_lenOwn (F : FnOk X.prog X.w X.K X.mg X.base CX0 k f fd ps sp) (rm : Room (k + 1) X.A) (bn : Binds X.K fd ps [])
    (hs : PySem.W.findIn X.K (.ref C) "__len__" = some (some (.ref f))) (hf : PySem.W.isFn X.K (.ref f) = true) :
    CallR X (.builtin "len") (fun xs H Q => ∃ x dx fs, xs = [.ref x] ∧ H x = some (.ins C dx fs) ∧
      sp [.ref x] H (fun v H' => ∃ n : Int, v = .int n ∧ 0 ≤ n ∧ n < 2 ^ 63 ∧ Q (.int n) H') E0) := by
  intro pins s σ H xs us Q I r want
  obtain ⟨x, dx, fs, rfl, hx, q⟩ := want
  rw [Vals.ref1 r]
  obtain ⟨mA, O, _⟩ := ins_get I.hok hx
  obtain ⟨od, J, _⟩ := O.look
  obtain ⟨m, fr⟩ := I.fr
  refine PySem.W.len_K fr I.mod.kin J hs hf (run_in1 F rm bn I q fun u s' got => ?_)
  obtain ⟨v, H', I', rv, n, rfl, h0, h1, q'⟩ := got
  obtain ⟨t, rfl⟩ := rv
  exact ⟨⟨h0, h1⟩, .int n, H', I'.tok _, ⟨_, rfl⟩, q'⟩
theorem call_reprOwn (F : FnOk X.prog X.w X.K X.mg X.base CX0 k f fd ps sp) (rm : Room (k + 1) X.A) (bn : Binds X.K fd ps [])
    (hs : PySem.W.findIn X.K (.ref C) "__repr__" = some (some (.ref f))) (hf : PySem.W.isFn X.K (.ref f) = true) :
    CallR X (.builtin "repr") (fun xs H Q => ∃ x dx fs, xs = [.ref x] ∧ H x = some (.ins C dx fs) ∧
      sp [.ref x] H (fun v H' => ∃ z : Str, v = .str z ∧ Q (.str z) H') E0) := by
  intro pins s σ H xs us Q I r want
  obtain ⟨x, dx, fs, rfl, hx, q⟩ := want
  rw [Vals.ref1 r]
  obtain ⟨mA, O, _⟩ := ins_get I.hok hx
  obtain ⟨od, J, _⟩ := O.look
  obtain ⟨m, fr⟩ := I.fr
  have hu : X.A.in1.units < cLine := rm.in1.units0
  refine PySem.W.repr_K hu fr I.mod.kin J hs hf (run_in1 F rm bn I q fun u s' got => ?_)
  obtain ⟨v, H', I', rv, z, rfl, q'⟩ := got
  obtain ⟨t, rfl⟩ := rv
  exact ⟨.str z, H', I', ⟨_, rfl⟩, q'⟩
end
end Hee


set_option Elab.async false
set_option linter.all false
set_option maxRecDepth 100000
namespace Hee
open PySem PySem.Spec PyProof.Rows L2
theorem rev_places (n : Nat) : Builtin.Slice.sliceAdjust none none (-1) (n : Int) = ((n : Int) - 1, -1) ∧ Builtin.Slice.slicePlaces ((n : Int) - 1) (-1) (-1) = n := by
  constructor
  · simp [Builtin.Slice.sliceAdjust]
  · unfold Builtin.Slice.slicePlaces
    rw [if_neg (by decide)]
    cases n with
    | zero => decide
    | succ m => rw [if_pos (by omega)]; simp
theorem filter_same {α β : Type} {f g : α → Option β} : ∀ l : List α, (∀ x ∈ l, f x = g x) → l.filterMap f = l.filterMap g
  | [], _ => rfl
  | x :: r, h => by
    rw [List.filterMap_cons, List.filterMap_cons, h x List.mem_cons_self, filter_same r fun y hy => h y (List.mem_cons_of_mem _ hy)]
theorem rev_pick (items : Array Value) : (List.filterMap (fun k : Nat => items[((Builtin.Slice.sliceAdjust none none (-1) (items.size : Int)).fst + (k : Int) * -1).toNat]?)
    (List.range (Builtin.Slice.slicePlaces (Builtin.Slice.sliceAdjust none none (-1) (items.size : Int)).fst (Builtin.Slice.sliceAdjust none none (-1) (items.size : Int)).snd (-1)))).toArray = items.toList.reverse.toArray := by
  obtain ⟨e1, e2⟩ := rev_places items.size
  rw [e1, e2]
  congr 1
  have all := PySem.W.krv_all items.toList.reverse.toArray
  simp only [List.size_toArray, List.length_reverse, Array.length_toList] at all
  refine Eq.trans (filter_same _ fun k hk => ?_) all
  have lt := List.mem_range.mp hk
  have e : (((items.size : Int) - 1) + (k : Int) * -1).toNat = items.size - 1 - k := by omega
  simp only [e]
  simp [List.getElem?_reverse, lt]
section
variable {prog : Program} {w : World} {A : Around} {E : Value → Shared → Prop} {s : Shared}
set_option maxHeartbeats 2000000 in
theorem get_rev {t sl : Addr} {items : Array Value} {tk : Tok} {Q : Value → Shared → Prop} (ht : IsTup s.heap t items)
    (hs : s.heap.IsSliceOf sl .none .none (.int (-1) tk)) (short : items.size ≤ sizeLine)
    (go : Q (.ref s.heap.objs.size) { s with heap := s.heap.push { cls := .type "tuple", data := .seq items.toList.reverse.toArray } }) :
    wpAny (model prog w) A (getItem (.ref t) (.ref sl)) Q E s := by
  refine PyProof.Rows.getItem_slot ht.typeIs rfl PyProof.Rows.slot_tuple_getitem
    (wpAny_call_entry PyProof.Rows.slot_tuple_getitem ht.typeIs PyProof.Rows.entry_tuple_getitem ?_ (PyProof.Rows.args_tuple_getitem _ _))
  obtain ⟨⟨kd, dk, dat, slt⟩, at_sl, rfl, rfl⟩ := hs
  have isSlice : s.TypeIs (.ref sl) "slice" := ⟨_, at_sl, rfl⟩
  obtain ⟨⟨kt, dtt, datt, slt2⟩, at_t, rfl, n, rfl⟩ := ht
  unfold Builtin.«tuple.__getitem__»
  have lk := F.slot_int_index.lookup
  wp_walk
  simp only [Option.getD_some]
  rw [rev_pick]
  have few : ¬ (items.toList.reverse.toArray.size > sizeLine) := by simpa using short
  rw [if_neg few]
  wp_walk
  exact ⟨_, rfl, go⟩
end
/-! ### t[::-1], t a tuple -/
section
variable {X : Cx}
def tRevT (K : PySem.W.Frag) (te : TE) : TE := fun σ H Q => te σ H fun x H1 => ∃ a xs, x = .ref a ∧ SqT K H1 a xs ∧ ∀ p, H1 p = none → Q (.ref p) (upd H1 p (.tup xs.reverse))
theorem pe_revT {e : Expr} {te : TE} {k : Nat} {p1 p2 p3 pos : Pos} (he : PE X e te) :
    PE X (.Subscript e (.Slice none none (some (.UnaryOp .USub (.Constant (.int 1) k p1) p2)) p3) pos) (tRevT X.K te) := by
  constructor
  intro pins s σ H Q I want
  refine Subscript_ (thn (he.run pins s σ H _ I want) ?_)
  rintro v s1 ⟨_, H1, I1, rel, a, xs, rfl, hx, q⟩
  cases (show v = Value.ref a from rel)
  have minus : PO X (some (.UnaryOp .USub (.Constant (.int 1) k p1) p2)) (tPart (tUn (rU fun i => .int (-i)) (tC (.int 1)))) := po_some (pe_un un_neg pe_int)
  refine wpAny_Slice (thn (po_none.run pins s1 σ H1 (fun o H2 => o = none ∧ H2 = H1) I1 ⟨rfl, rfl⟩) ?_)
  rintro vl s2 ⟨l, H2, I2, pl, rfl, rfl⟩
  refine thn (po_none.run pins s2 σ H2 (fun o H3 => o = none ∧ H3 = H2) I2 ⟨rfl, rfl⟩) ?_
  rintro vu s3 ⟨u, H3, I3, pu, rfl, rfl⟩
  refine thn (minus.run pins s3 σ H3 (fun o H4 => o = some (-1) ∧ H4 = H3) I3 ⟨1, rfl, -1, rfl, rfl, rfl⟩) ?_
  rintro vs s4 ⟨o, H4, I4, pt, rfl, rfl⟩
  obtain rfl : vl = .none := by cases pl; rfl
  obtain rfl : vu = .none := by cases pu; rfl
  obtain ⟨tk, rfl⟩ : ∃ tk, vs = .int (-1) tk := by cases pt; exact ⟨_, rfl⟩
  have I5 : Inv X pins σ H4 { s4 with heap := s4.heap.push { cls := .type "slice", data := .fields #[.none, .none, .int (-1) tk] } } := I4.kept (t' := s4.toks) fun _ _ y => Heap.get?_push_of_some _ y
  obtain ⟨its, rv, tup, short⟩ := I5.tuple hx
  refine tail_any (ops := [.ref a, .ref s4.heap.objs.size]) tup.typeIs PyProof.Rows.slot_tuple_getitem.lookup ?_ (by with_unfolding_all rfl)
  refine get_rev tup (Heap.IsSliceOf.new _ .none .none (.int (-1) tk)) (by rw [List.size_toArray, ← rv.length]; exact short) ?_
  refine ⟨.ref _, _, I5.laid (t' := s4.toks) (o := .tup xs.reverse) (fun _ _ y => Heap.get?_push_of_some _ y) (Nat.le_refl _) ?_, rfl, q _ (I5.hok.fresh (Nat.le_refl _))⟩
  exact ⟨by rw [List.length_reverse]; exact short, its.reverse, rv.reverse, _, Heap.get?_push_size _ rfl, rfl, _, rfl⟩
end
end Hee


set_option Elab.async false
set_option linter.all false
set_option maxRecDepth 100000
namespace Hee
open PySem PySem.Spec PyProof.Rows L2
/-! ### the text by places -/
def top (i : Nat) : Stmt := PySem.Challenge.pw_heelrow_k64_whole_laid_from_every_row.main.body.getD i (.Pass ⟨0, 0, 0, 0⟩)
abbrev sIsName : Stmt := top 14
abbrev sIsPerson : Stmt := top 15
abbrev sChkPers : Stmt := top 16
abbrev sChkWhoms : Stmt := top 17
abbrev sComes : Stmt := top 18
abbrev sInit : Stmt := inClass (top 20) 0
/-! ### what the top has left of names -/
def letS : Str := "abcdefghijklmnopqrstuvwxyz"
structure Tx (mg : Str → Option Value) : Prop where
  len : mg "len" = none
  isi : mg "isinstance" = none
  str : mg "str" = none
  tup : mg "tuple" = none
  all : mg "all" = none
  enu : mg "enumerate" = none
  rng : mg "range" = none
  mL : ∃ t, mg "MOST_LETTERS" = some (.int 6 t)
  mP : ∃ t, mg "MOST_PERSONS" = some (.int 12 t)
  lt : ∃ t, mg "LETTERS" = some (.str letS t)
/-! ### heaps -/
theorem same_upd {H : Hp} {p : Addr} {o : HO} (h : H p = none) :
    Same H (upd H p o) := fun b x e => by
  rw [upd_ne (ne_of_none e h)]
  exact e
theorem Same.tup {K : PySem.W.Frag} {H H' : Hp} {a : Addr} {xs : List V}
    (e : Same H H') (h : SqT K H a xs) : SqT K H' a xs :=
  Or.imp (Or.imp (e _ _) fun ⟨o, q⟩ => ⟨o, e _ _ q⟩) id h
theorem small_le {n : Nat} (h : n ≤ 16777216) : n ≤ sizeLine := by
  rw [sizeLine_eq]; exact h
theorem small_lt {n : Nat} (h : n < 16777216) : n < sizeLine := by
  rw [sizeLine_eq]; exact h
theorem blT {c : Prop} [Decidable c] (h : c) : V.bl (decide c) = V.bl true := by
  rw [decide_eq_true h]
theorem blF {c : Prop} [Decidable c] (h : ¬ c) : V.bl (decide c) = V.bl false := by
  rw [decide_eq_false h]
theorem map_ref {ts : List Addr} {i : Nat} {v : V} (h : (ts.map V.ref)[i]? = some v) : ∃ t, ts[i]? = some t ∧ v = .ref t := by
  rw [List.getElem?_map] at h
  cases e : ts[i]? with
  | none => rw [e] at h; cases h
  | some t => rw [e] at h; exact ⟨t, rfl, (Option.some.inj h).symm⟩
/-! ### names -/
def nameB (z : Str) : Bool := decide (1 ≤ z.length) && decide (z.length ≤ 6)
  && z.cps.toList.all (fun c => decide (c ∈ letS.cps.toList))
def nameV : V → Bool
  | .str z => nameB z
  | _ => false
/-- a thing of which isinstance(.., str) is known -/
def KindOk (K : PySem.W.Frag) (H : Hp) (v : V) : Prop :=
  (∃ z, v = .str z ∧ z.length ≤ sizeLine) ∨
  ((∀ z, v ≠ .str z) ∧ ∃ t, TyX K H v t ∧
    PySem.W.kitOne K t (.type "str") = some false)
theorem nameV_no {v : V} (h : ∀ z, v ≠ .str z) : nameV v = false := by
  cases v <;> first | rfl | exact absurd rfl (h _)
section
variable {P : Program} {w : World} {K : PySem.W.Frag}
  {mg : Str → Option Value} {base : Heap}
def spIsName (K : PySem.W.Frag) : Sp := fun vs H Q _ => ∃ v, vs = [v] ∧
  KindOk K H v ∧ ∀ H', Same H H' → Q (.bl (nameV v)) H'
theorem scN : FnScope ["thing", "letter"] ["thing"] (defScope sIsName) :=
  ⟨rfl, rfl, rfl, by decide +kernel, rfl, by decide +kernel, by decide +kernel⟩
theorem ok_isName {f : Addr} {fd : FuncData}
    (F : Fun K "is_name" "is_name" sIsName f fd) (T : Tx mg) :
    FnOk P w K mg base CX0 1 f fd ["thing"] (spIsName K) := by
  refine F.ok scN (fun vs H Q E h => ?_) (fun cdv A outer s H vs Q E hr h => ?_)
  · obtain ⟨v, rfl, _⟩ := h
    rfl
  · obtain ⟨v, rfl, hk, q⟩ := h
    obtain ⟨tL, mL⟩ := T.mL
    obtain ⟨tl, ml⟩ := T.lt
    refine ⟨_, pss_cons (ps_if (PW.pt (pw_or (pt_not (pt_val (pe_callB call_isi
        (by rfl) T.isi boot_isinstance (pa_cons (pv 0) (pa_cons
          (pe_bltn (v := .ty "str") (by rfl) T.str PyProof.Rows.boot_str rfl) pa_nil)))))
        (pw_or1 (pt_not (pt_chain op_le op_le pe_int (pe_callB call_len_str
          (by rfl) T.len PySem.boot_len (pa_cons (pv 0) pa_nil))
          (pe_glob (v := .int 6) (by rfl) mL ⟨_, rfl⟩))))))
        (pss_one (ps_ret pe_bl)) pss_nil)
      (pss_one (ps_ret (pe_callB (cr_all rfl) (by rfl) T.all
        PyProof.Rows.boot_all (pa_cons (pe_lc (own := [("letter", 1)]) (g := gName 1)
          (tt := tYes) rfl scN.nd (pi_str (pv 0))
          (blkOk_by (N := ["thing", "letter"]) (sc := defScope sIsName) (by decide +kernel))
          (fun _ _ _ _ _ => pg_name (i := 1) scN.nd rfl (Or.inl rfl))
          (fun _ _ _ _ _ => pts_nil)
          (fun _ _ _ _ _ => pe_cmpR op_in_sign (pv 1) (pe_glob (v := .str letS) (by rfl) ml ⟨_, rfl⟩) (by rfl)))
          pa_nil)))), ?_⟩
    rcases hk with ⟨z, rfl, hz⟩ | ⟨hn, t, ty, kt⟩
    · refine ⟨.str z, rfl, .str z, .ty "str", .type "str", .type "str", true, rfl, .ty "str", .base (.str z), kit_ty (by decide +kernel), true, rfl, ?_⟩
      refine iteF ?_
      have no : nameB z = false → Q (.bl false) H := fun e => by
        have := q H (Same.refl H)
        rw [show nameV (.str z) = nameB z from rfl, e] at this
        exact this
      refine ⟨.str z, rfl, z, rfl, hz, 1, z.length, rfl, rfl, _, rfl, ?_⟩
      refine ite2 (fun h1 => ?_) (fun h1 => ?_)
      · refine ⟨z.length, 6, rfl, rfl, _, rfl, ?_⟩
        have h1' : (1 : Int) ≤ z.length := of_decide_eq_true h1
        by_cases h6 : (z.length : Int) ≤ 6
        · rw [decide_eq_true h6]
          refine iteF ?_
          refine ⟨.str z, rfl, z, rfl, fun D hD => ?_⟩
          refine lc_it walk_str (fun i H1 => Same H H1 ∧ H1 D = some (.lst
            ((z.cps.toList.take i).map fun c => V.bl (decide (c ∈ letS.cps.toList)))))
            ⟨same_upd hD, upd_same⟩ (fun _ _ _ _ => trivial) ?_ ?_
          · rintro i x H1 H2 hi ⟨sm, hd⟩ ⟨rfl, c, hc, rfl⟩
            refine ⟨rfl, ?_⟩
            refine ⟨_, rfl, c, letS, rfl, rfl, _, hd, ?_, ?_, ?_⟩
            · rw [List.length_map, List.length_take]
              exact Nat.lt_of_le_of_lt (Nat.min_le_left _ _) (small_lt (by have : z.cps.size = z.length := rfl; omega))
            · intro b o e
              rw [upd_ne (ne_of_none e hD)]
              exact sm b o e
            · rw [upd_same, List.take_add_one, show z.cps.toList[i]? = some c by simpa using hc, List.map_append]
              rfl
          · rintro H1 ⟨sm, hd⟩
            refine ⟨D, z.cps.toList.map fun c => decide (c ∈ letS.cps.toList), rfl, .inl (.inl ?_), ?_⟩
            · rw [hd, List.take_of_length_le (by simp), List.map_map]
              rfl
            · have h := q H1 sm
              have e : nameV (.str z) = (z.cps.toList.map fun c => decide (c ∈ letS.cps.toList)).all id := by
                show nameB z = _
                unfold nameB
                rw [decide_eq_true (show 1 ≤ z.length by omega), decide_eq_true (show z.length ≤ 6 by omega), List.all_map]
                rfl
              rw [e] at h
              exact h
        · rw [decide_eq_false h6]
          refine iteT (no ?_)
          unfold nameB
          rw [decide_eq_false (show ¬ z.length ≤ 6 by omega)]
          simp
      · refine ⟨_, rfl, iteT (no ?_)⟩
        have h1' : ¬ (1 : Int) ≤ z.length := fun y => h1 (decide_eq_true y)
        unfold nameB
        rw [decide_eq_false (show ¬ 1 ≤ z.length by omega)]
        rfl
    · refine ⟨v, rfl, v, .ty "str", t, .type "str", false, rfl, .ty "str", ty, kt, false, rfl, ?_⟩
      refine iteT (iteT ?_)
      have := q H (Same.refl H)
      rw [nameV_no hn] at this
      exact this
/-! ### persons -/
def optV : Option Str → V
  | none => .non
  | some w => .str w
def optOk (w : Option Str) : Prop := ∀ x, w = some x → nameB x = true
theorem tyx_tup {K : PySem.W.Frag} {H : Hp} {a : Addr} {xs : List V}
    (h : SqT K H a xs) : TyX K H (.ref a) (.type "tuple") := by
  rcases h with (h | ⟨o, h⟩) | ⟨o, its, n, h, hc, _⟩
  · exact .base (.tup h)
  · exact .fTuple h
  · exact .kTuple h hc
theorem name_len {z : Str} (h : nameB z = true) : 1 ≤ z.length ∧ z.length ≤ 6 := by
  unfold nameB at h
  simp only [Bool.and_eq_true, decide_eq_true_eq] at h
  exact h.1
theorem kind_name {K : PySem.W.Frag} {H : Hp} {z : Str} (h : nameB z = true) : KindOk K H (.str z) :=
  .inl ⟨z, rfl, small_le (by have := name_len h; omega)⟩
def spIsPerson (K : PySem.W.Frag) : Sp := fun vs H Q _ => ∃ (t : Addr) (n : Str) (w : Option Str), vs = [.ref t] ∧
  SqT K H t [.str n, optV w] ∧ nameB n = true ∧ optOk w ∧ ∀ H', Same H H' → Q (.bl true) H'
theorem scPn : FnScope ["thing", "name", "whom"] ["thing"] (defScope sIsPerson) :=
  ⟨rfl, rfl, rfl, by decide +kernel, rfl, by decide +kernel, by decide +kernel⟩
theorem ok_isPerson {f fN : Addr} {fd fdN : FuncData}
    (F : Fun K "is_person" "is_person" sIsPerson f fd) (T : Tx mg)
    (FN : Fun K "is_name" "is_name" sIsName fN fdN) (bN : Binds K fdN ["thing"] []) (gN : mg "is_name" = some (.ref fN)) :
    FnOk P w K mg base CX0 2 f fd ["thing"] (spIsPerson K) := by
  have GN : FnOk P w K mg base CX0 1 fN fdN ["thing"] (spIsName K) := ok_isName FN T
  refine F.ok scPn (fun vs H Q E h => ?_) (fun cdv A outer s H vs Q E hr h => ?_)
  · obtain ⟨t, n, w, rfl, _⟩ := h
    rfl
  · obtain ⟨t, n, wh, rfl, hs, hn, hw, q⟩ := h
    refine ⟨_, pss_cons (ps_if (PW.pt (pw_or (pt_not (pt_val (pe_callB call_isi
        (by rfl) T.isi boot_isinstance (pa_cons (pv 0) (pa_cons
          (pe_bltn (v := .ty "tuple") (by rfl) T.tup PyProof.Rows.boot_tuple rfl) pa_nil)))))
        (pw_or1 (pt_cmpR op_ne (pe_callB call_len_seq (by rfl) T.len PySem.boot_len (pa_cons (pv 0) pa_nil)) pe_int (nomark _)))))
        (pss_one (ps_ret pe_bl)) pss_nil)
      (pss_cons (ps_asg (pv 0) (pg_tup (by rfl) (pgs_cons (pg_name (i := 1) scPn.nd rfl (Or.inl rfl)) (pgs_cons (pg_name (i := 2) scPn.nd rfl (Or.inl rfl)) pgs_nil))))
      (pss_one (ps_ret (pe_and (pe_call GN hr (by rfl) gN FN.kp bN .nil pass0 (pa_cons (pv 1) pa_nil))
        (pe_one (pe_or (pe_cmpR op_isN (pv 2) pe_non (nomark _))
          (pe_one (pe_call GN hr (by rfl) gN FN.kp bN .nil pass0 (pa_cons (pv 2) pa_nil))))))))), ?_⟩
    refine ⟨.ref t, rfl, .ref t, .ty "tuple", .type "tuple", .type "tuple", true, rfl, .ty "tuple", tyx_tup hs, kit_ty (by decide +kernel), true, rfl, ?_⟩
    refine iteF ?_
    refine ⟨.ref t, rfl, t, _, rfl, .inr hs, rfl, _, rfl, ?_⟩
    refine iteF ?_
    refine ⟨.ref t, rfl, t, _, rfl, hs, rfl, .str n, [optV wh], rfl, optV wh, [], rfl, rfl, ?_⟩
    refine ⟨.str n, rfl, .str n, rfl, kind_name hn, fun H1 s1 => ⟨nameB n, rfl, ?_⟩⟩
    rw [hn]
    refine iteT ?_
    refine ⟨optV wh, rfl, rfl, _, rfl, ?_⟩
    cases wh with
    | none => exact q H1 s1
    | some x =>
      refine iteF ?_
      refine ⟨.str x, rfl, .str x, rfl, kind_name (hw x rfl), fun H2 s2 => ?_⟩
      rw [show nameV (.str x) = true from hw x rfl]
      exact q H2 (s1.trans s2)
/-! ### the persons of a web -/
abbrev Folk := List (Str × Option Str)
/-- a tuple of persons stands at a -/
def PersAt (K : PySem.W.Frag) (H : Hp) (a : Addr) (ts : List Addr) (F : Folk) : Prop :=
  SqT K H a (ts.map V.ref) ∧ ts.length = F.length ∧
    ∀ (i : Nat) (t : Addr) (p : Str × Option Str), ts[i]? = some t → F[i]? = some p → SqT K H t [.str p.1, optV p.2]
theorem Same.pers {K : PySem.W.Frag} {H H' : Hp} {a : Addr} {ts : List Addr} {F : Folk} (e : Same H H') (h : PersAt K H a ts F) : PersAt K H' a ts F :=
  ⟨Same.tup e h.1, h.2.1, fun i t p h1 h2 => Same.tup e (h.2.2 i t p h1 h2)⟩
/-- names rise -/
def rises : Str → Folk → Prop
  | _, [] => True
  | a, p :: r => a.cps.toList < p.1.cps.toList ∧ rises p.1 r
def lookF (F : Folk) (x : Str) : Option (Option Str) := (F.find? fun p => decide (p.1 = x)).map Prod.snd
def comesN (F : Folk) : Nat → Str → Bool
  | 0, _ => false
  | n + 1, x => match lookF F x with
    | some none => true
    | some (some y) => comesN F n y
    | none => false
theorem comesN_succ (F : Folk) (n : Nat) (x : Str) : comesN F (n + 1) x = match lookF F x with
    | some none => true
    | some (some y) => comesN F n y
    | none => false := rfl
theorem lookF_mem : ∀ {F : Folk} {p : Str × Option Str}, p ∈ F → ∃ w, lookF F p.1 = some w
  | [], p, h => by cases h
  | q :: r, p, h => by
    unfold lookF
    rw [List.find?_cons]
    by_cases e : q.1 = p.1
    · rw [decide_eq_true e]
      exact ⟨q.2, rfl⟩
    · rw [decide_eq_false e]
      rcases List.mem_cons.mp h with z | z
      · rw [z] at e; exact absurd rfl e
      · exact lookF_mem z
def kvsOf (F : Folk) : List (Key × V) := F.map fun p => (Sum.inr p.1, optV p.2)
theorem val_kvs (F : Folk) (x : Str) : valV (kvsOf F) (Sum.inr x) = (lookF F x).map optV := by
  unfold valV kvsOf lookF
  induction F with
  | nil => rfl
  | cons p r ih =>
    rw [List.map_cons, List.find?_cons, List.find?_cons]
    by_cases h : p.1 = x
    · rw [decide_eq_true h, decide_eq_true (by rw [h])]
      rfl
    · rw [decide_eq_false h, decide_eq_false (fun e => h (Sum.inr.inj e))]
      exact ih
theorem kvs_key {F : Folk} {i : Nat} {v : V} (h : ((kvsOf F)[i]?.map fun p => kV p.1) = some v) : ∃ p, F[i]? = some p ∧ v = .str p.1 := by
  unfold kvsOf at h
  rw [List.getElem?_map] at h
  cases e : F[i]? with
  | none => rw [e] at h; cases h
  | some p => rw [e] at h; exact ⟨p, rfl, (Option.some.inj h).symm⟩
structure FolkOk (F : Folk) : Prop where
  there : ∀ (x y : Str), lookF F x = some (some y) → ∃ w, lookF F y = some w
  lead : ∀ p ∈ F, comesN F F.length p.1 = true
  one : 1 ≤ F.length
  most : F.length ≤ 12
  nm : ∀ p ∈ F, nameB p.1 = true ∧ optOk p.2
  rise : rises "" F
theorem rises_at : ∀ {F : Folk} {a : Str} {i : Nat} {p : Str × Option Str}, rises a F → F[i]? = some p →
    (match i with | 0 => a | j + 1 => (F.map Prod.fst).getD j "").cps.toList < p.1.cps.toList
  | [], _, _, _, _, h => by simp at h
  | q :: r, a, 0, p, hr, h => by
    cases h
    exact hr.1
  | q :: r, a, 1, p, hr, h => rises_at (F := r) (a := q.1) (i := 0) hr.2 h
  | q :: r, a, j + 2, p, hr, h => rises_at (F := r) (a := q.1) (i := j + 1) hr.2 h
def aheadOf (F : Folk) : Nat → Str
  | 0 => ""
  | j + 1 => (F.map Prod.fst).getD j ""
theorem FolkOk.at {F : Folk} (h : FolkOk F) {i : Nat} {p : Str × Option Str} (e : F[i]? = some p) : (aheadOf F i).cps.toList < p.1.cps.toList := by
  have := rises_at h.rise e
  cases i <;> exact this
def spChkPers (K : PySem.W.Frag) : Sp := fun vs H Q _ => ∃ (a : Addr) (ts : List Addr) (F : Folk), vs = [.ref a] ∧
  PersAt K H a ts F ∧ FolkOk F ∧ ∀ H', Same H H' → Q .non H'
theorem scCP : FnScope ["persons", "ahead", "place", "person"] ["persons"] (defScope sChkPers) :=
  ⟨rfl, rfl, rfl, by decide +kernel, rfl, by decide +kernel, by decide +kernel⟩
theorem ok_chkPers {f fN fP : Addr} {fd fdN fdP : FuncData}
    (F : Fun K "check_persons" "check_persons" sChkPers f fd) (T : Tx mg)
    (FN : Fun K "is_name" "is_name" sIsName fN fdN) (bN : Binds K fdN ["thing"] []) (gN : mg "is_name" = some (.ref fN))
    (FP : Fun K "is_person" "is_person" sIsPerson fP fdP) (bP : Binds K fdP ["thing"] []) (gP : mg "is_person" = some (.ref fP)) :
    FnOk P w K mg base CX0 3 f fd ["persons"] (spChkPers K) := by
  have GP : FnOk P w K mg base CX0 2 fP fdP ["thing"] (spIsPerson K) := ok_isPerson FP T FN bN gN
  refine F.ok scCP (fun vs H Q E h => ?_) (fun cdv A outer s H vs Q E hr h => ?_)
  · obtain ⟨t, ts, F0, rfl, _⟩ := h
    rfl
  · obtain ⟨a, ts, F0, rfl, hp, ok, q⟩ := h
    obtain ⟨tL, mL⟩ := T.mP
    obtain ⟨hS, hl, hi⟩ := id hp
    refine ⟨_, pss_cons (ps_if (PW.pt (pw_or (pt_not (pt_val (pe_callB call_isi
        (by rfl) T.isi boot_isinstance (pa_cons (pv 0) (pa_cons
          (pe_bltn (v := .ty "tuple") (by rfl) T.tup PyProof.Rows.boot_tuple rfl) pa_nil)))))
        (pw_or1 (pt_not (pt_chain op_le op_le pe_int (pe_callB call_len_seq
          (by rfl) T.len PySem.boot_len (pa_cons (pv 0) pa_nil))
          (pe_glob (v := .int 12) (by rfl) mL ⟨_, rfl⟩))))))
        (pss_one ps_never) pss_nil)
      (pss_cons (ps_set (i := 1) scCP.nd rfl (Or.inl rfl) pe_str)
      (pss_one (ps_for PassesOwn.never rfl (pi_enumT (by rfl) T.enu (pa_cons (pv 0) pa_nil))
        (pg_tup (by rfl) (pgs_cons (pg_name (i := 2) scCP.nd rfl (Or.inl rfl)) (pgs_cons (pg_name (i := 3) scCP.nd rfl (Or.inl rfl)) pgs_nil)))
        (pss_cons (ps_if (PW.pt (pw_or (pt_not (pt_val (pe_call GP hr (by rfl) gP FP.kp bP .nil pass0 (pa_cons (pv 3) pa_nil))))
            (pw_or1 (pt_cmpR op_le_str (pe_ix ix_tup (pv 3) pe_int (fun _ _ => rfl)) (pv 1) (nomark _)))))
            (pss_one ps_never) pss_nil)
          (pss_one (ps_set (i := 1) scCP.nd rfl (Or.inl rfl) (pe_ix ix_tup (pv 3) pe_int (fun _ _ => rfl)))))))), ?_⟩
    refine ⟨.ref a, rfl, .ref a, .ty "tuple", .type "tuple", .type "tuple", true, rfl, .ty "tuple", tyx_tup hS, kit_ty (by decide +kernel), true, rfl, ?_⟩
    refine iteF ?_
    have h1 := ok.one
    have h12 := ok.most
    refine ⟨.ref a, rfl, a, _, rfl, .inr hS, 1, _, rfl, rfl, true, ?_, ?_⟩
    · exact blT (by rw [List.length_map, hl]; omega)
    refine ⟨_, 12, rfl, rfl, true, ?_, ?_⟩
    · exact blT (by rw [List.length_map, hl]; omega)
    refine iteF ?_
    refine ⟨.ref a, rfl, a, _, rfl, hS, for_it walk_enumT (fun i σ H1 => ∃ y z, σ = [some (.ref a), some (.str (aheadOf F0 i)), y, z] ∧ Same H H1) ⟨none, none, rfl, Same.refl H⟩ (fun i σ H1 _ ⟨_, _, _, sm⟩ => Same.tup sm hS) ?_ ?_⟩
    · rintro i x σ H1 H2 lt ⟨y, z, rfl, sm⟩ ⟨Tp, v1, v2, rfl, nT, rfl, e1, e2⟩
      obtain ⟨t, ht, rfl⟩ := map_ref e2
      have lt' : i < F0.length := by rw [List.length_map] at lt; omega
      obtain ⟨p, hp0⟩ : ∃ p, F0[i]? = some p := ⟨F0[i], List.getElem?_eq_getElem lt'⟩
      have mem : p ∈ F0 := List.mem_of_getElem? hp0
      obtain ⟨hn, hw⟩ := ok.nm p mem
      have s2 : Same H1 (upd H1 Tp (.tup [v1, .ref t])) := same_upd nT
      have hq := Same.tup (sm.trans s2) (hi i t p ht hp0)
      refine ⟨Tp, [v1, .ref t], rfl, .inl (.inl upd_same), rfl, v1, [.ref t], rfl, .ref t, [], rfl, rfl, ?_⟩
      refine ⟨.ref t, rfl, t, p.1, p.2, rfl, hq, hn, hw, fun H3 s3 => ⟨true, rfl, ?_⟩⟩
      refine iteF ?_
      have hq3 := Same.tup s3 hq
      refine ⟨.ref t, rfl, t, _, 0, .str p.1, rfl, rfl, hq3, atI_nat (j := 0) rfl, .str (aheadOf F0 i), rfl, p.1, _, rfl, rfl, false, ?_, ?_⟩
      · rw [decide_eq_true (ok.at hp0)]
        rfl
      refine iteF ?_
      refine ⟨.ref t, rfl, t, _, 0, .str p.1, rfl, rfl, hq3, atI_nat (j := 0) rfl, ?_⟩
      refine ⟨some v1, some (.ref t), ?_, (sm.trans s2).trans s3⟩
      have e : aheadOf F0 (i + 1) = p.1 := by
        show (F0.map Prod.fst).getD i "" = p.1
        rw [List.getD_eq_getElem?_getD, List.getElem?_map, hp0]
        rfl
      rw [e]
      rfl
    · rintro σ H1 ⟨y, z, rfl, sm⟩
      exact q H1 sm
/-! ### who comes to one who leads -/
theorem call_lenR {X : Cx} : CallR X (.builtin "len") (fun xs H Q => ∃ a kvs, xs = [V.ref a] ∧ Rd H a (.dK kvs) ∧ Q (.int kvs.length) H) := by
  intro pins s σ H xs us Q I r h
  obtain ⟨a, kvs, rfl, ha, q⟩ := h
  rw [Vals.ref1 r]
  exact d_len I ha fun t s' I' => ⟨.int kvs.length, H, I', ⟨t, rfl⟩, q⟩
theorem DGet.r {H : Hp} {a : Addr} {kvs : List (Key × V)} {k : Key} (e : Rd H a (.dK kvs)) : DGet H a (kV k) (valV kvs k) := .inl ⟨kvs, k, e, rfl, rfl⟩
def spComes : Sp := fun vs H Q _ => ∃ (d : Addr) (x : Str) (F : Folk) (w : Option Str), vs = [.ref d, .str x] ∧ Rd H d (.dK (kvsOf F)) ∧ F.length ≤ 12 ∧
  (∀ (x y : Str), lookF F x = some (some y) → ∃ w, lookF F y = some w) ∧ lookF F x = some w ∧ Q (.bl (comesN F F.length x)) H
theorem scC : FnScope ["whoms", "name", "at", "step"] ["whoms", "name"] (defScope sComes) :=
  ⟨rfl, rfl, rfl, by decide +kernel, rfl, by decide +kernel, by decide +kernel⟩
theorem ok_comes {f : Addr} {fd : FuncData} (F : Fun K "comes_to_leader" "comes_to_leader" sComes f fd) (T : Tx mg) :
    FnOk P w K mg base CX0 1 f fd ["whoms", "name"] spComes := by
  refine F.ok scC (fun vs H Q E h => ?_) (fun cdv A outer s H vs Q E hr h => ?_)
  · obtain ⟨d, x, F0, w, rfl, _⟩ := h
    rfl
  · obtain ⟨d, x, F0, wx, rfl, hd, h12, cl, hx, q⟩ := h
    have hu := hu_of hr
    refine ⟨_, pss_cons (ps_set (i := 2) scC.nd rfl (Or.inl rfl) (pv 1))
      (pss_cons (ps_for PassesOwn.never rfl (pi_range1 (by rfl) T.rng (pa_cons (pe_callB call_lenR (by rfl) T.len PySem.boot_len (pa_cons (pv 0) pa_nil)) pa_nil))
        (pg_name (i := 3) scC.nd rfl (Or.inl rfl))
        (pss_cons (ps_if (pt_cmpR op_isN (pe_dget hu (pv 0) (pv 2) (fun _ _ => rfl)) pe_non (nomark _)) (pss_one (ps_ret pe_bl)) pss_nil)
          (pss_one (ps_set (i := 2) scC.nd rfl (Or.inl rfl) (pe_dget hu (pv 0) (pv 2) (fun _ _ => rfl))))))
      (pss_one (ps_ret pe_bl))), ?_⟩
    have el : (kvsOf F0).length = F0.length := by unfold kvsOf; rw [List.length_map]
    refine ⟨.str x, rfl, .ref d, rfl, d, _, rfl, hd, _, rfl, ?_, ?_, ?_⟩
    · rw [el]; omega
    · rw [el]; omega
    have en : (((kvsOf F0).length : Int)).toNat = F0.length := by rw [el]; omega
    refine for_range (lo := 0) (n := (((kvsOf F0).length : Int)).toNat) (fun i σ H1 => ∃ (y : Str) (wy : Option Str) (z : Option V), σ = [some (.ref d), some (.str x), some (.str y), z] ∧ H1 = H ∧ lookF F0 y = some wy ∧ comesN F0 (F0.length - i) y = comesN F0 F0.length x)
      ⟨x, wx, none, rfl, rfl, hx, rfl⟩ ?_ ?_
    · rintro i σ H1 lt ⟨y, wy, z, rfl, rfl, hy, hc⟩
      rw [en] at lt
      have hg : DGet H1 d (.str y) (some (optV wy)) := by
        have := DGet.r (k := Sum.inr y) hd
        rw [val_kvs, hy] at this
        exact this
      have em : F0.length - i = (F0.length - (i + 1)) + 1 := by omega
      rw [em, comesN_succ, hy] at hc
      refine ⟨.ref d, rfl, .str y, rfl, d, optV wy, rfl, hg, rfl, _, rfl, ?_⟩
      cases wy with
      | none =>
        refine iteT ?_
        have hc' : true = comesN F0 F0.length x := hc
        rw [← hc'] at q
        exact q
      | some y2 =>
        refine iteF ?_
        obtain ⟨w2, hw2⟩ := cl y y2 hy
        exact ⟨.ref d, rfl, .str y, rfl, d, .str y2, rfl, hg, y2, w2, _, rfl, rfl, hw2, hc⟩
    · rintro σ H1 ⟨y, wy, z, rfl, rfl, hy, hc⟩
      rw [en, Nat.sub_self] at hc
      have hc' : false = comesN F0 F0.length x := hc
      rw [← hc'] at q
      exact q
/-! ### check_whoms -/
def spChkWhoms : Sp := fun vs H Q _ => ∃ (d : Addr) (F : Folk), vs = [.ref d] ∧ H d = some (.dK (kvsOf F)) ∧ FolkOk F ∧ ∀ H', Same H H' → Q .non H'
theorem scCW : FnScope ["whoms", "place", "name", "whom"] ["whoms"] (defScope sChkWhoms) :=
  ⟨rfl, rfl, rfl, by decide +kernel, rfl, by decide +kernel, by decide +kernel⟩
theorem ok_chkWhoms {f fC : Addr} {fd fdC : FuncData} (F : Fun K "check_whoms" "check_whoms" sChkWhoms f fd) (T : Tx mg)
    (FC : Fun K "comes_to_leader" "comes_to_leader" sComes fC fdC) (bC : Binds K fdC ["whoms", "name"] []) (gC : mg "comes_to_leader" = some (.ref fC)) :
    FnOk P w K mg base CX0 2 f fd ["whoms"] spChkWhoms := by
  have GC : FnOk P w K mg base CX0 1 fC fdC ["whoms", "name"] spComes := ok_comes FC T
  refine F.ok scCW (fun vs H Q E h => ?_) (fun cdv A outer s H vs Q E hr h => ?_)
  · obtain ⟨d, F0, rfl, _⟩ := h
    rfl
  · obtain ⟨d, F0, rfl, hd, ok, q⟩ := h
    have hu := hu_of hr
    refine ⟨_, pss_cons (ps_lock (ps_for PassesOwn.never rfl (pi_enumD (by rfl) T.enu (pa_cons (pv 0) pa_nil))
        (pg_tup (by rfl) (pgs_cons (pg_name (i := 1) scCW.nd rfl (Or.inl rfl)) (pgs_cons (pg_name (i := 2) scCW.nd rfl (Or.inl rfl)) pgs_nil)))
        (pss_cons (ps_set (i := 3) scCW.nd rfl (Or.inl rfl) (pe_dget hu (pv 0) (pv 2) (fun _ _ => rfl)))
          (pss_one (ps_if (PW.pt (pw_and (pt_cmpR op_notN (pv 3) pe_non (nomark _)) (pw_and1 (pt_cmp (pc_dnotin hu (pv 3) (pv 0))))))
            (pss_one ps_never) pss_nil)))))
      (pss_one (ps_lock (ps_for PassesOwn.never rfl (pi_enumD (by rfl) T.enu (pa_cons (pv 0) pa_nil))
        (pg_tup (by rfl) (pgs_cons (pg_name (i := 1) scCW.nd rfl (Or.inl rfl)) (pgs_cons (pg_name (i := 2) scCW.nd rfl (Or.inl rfl)) pgs_nil)))
        (pss_one (ps_if (pt_not (pt_val (pe_call GC hr (by rfl) gC FC.kp bC .nil pass0 (pa_cons (pv 0) (pa_cons (pv 2) pa_nil)))))
            (pss_one ps_never) pss_nil))))), ?_⟩
    refine ⟨d, _, hd, trivial, fun od => ?_⟩
    refine ⟨.ref d, rfl, d, od, kvsOf F0, rfl, upd_same, for_it walk_enumD (fun i σ H1 => ∃ x y z, σ = [some (.ref d), x, y, z] ∧ H1 d = some (.frz od (.dK (kvsOf F0))) ∧ ∀ b o, b ≠ d → H b = some o → H1 b = some o) ⟨none, none, none, rfl, upd_same, fun b o nb e => by rw [upd_ne nb]; exact e⟩ (fun i σ H1 _ ⟨_, _, _, _, hf, _⟩ => hf) ?_ ?_⟩
    · rintro i v σ H1 H2 lt ⟨x, y, z, rfl, hf, kp⟩ ⟨Tp, v1, v2, rfl, nT, rfl, e1, e2⟩
      obtain ⟨p, hp0, rfl⟩ := kvs_key e2
      obtain ⟨wp, hwp⟩ := lookF_mem (List.mem_of_getElem? hp0)
      have nTd : d ≠ Tp := ne_of_none hf nT
      have hf2 : (upd H1 Tp (.tup [v1, .str p.1])) d = some (.frz od (.dK (kvsOf F0))) := by rw [upd_ne nTd]; exact hf
      have kp2 : ∀ b o, b ≠ d → H b = some o → (upd H1 Tp (.tup [v1, .str p.1])) b = some o := fun b o nb e => by
        rw [upd_ne (ne_of_none (kp b o nb e) nT)]; exact kp b o nb e
      have hg : ∀ {x : Str} {wx : Option Str}, lookF F0 x = some wx → DGet (upd H1 Tp (.tup [v1, .str p.1])) d (.str x) (some (optV wx)) := fun {x wx} e => by
        have := DGet.r (k := Sum.inr x) (.inr ⟨od, hf2⟩ : Rd (upd H1 Tp (.tup [v1, .str p.1])) d (.dK (kvsOf F0)))
        rw [val_kvs, e] at this
        exact this
      refine ⟨Tp, [v1, .str p.1], rfl, .inl (.inl upd_same), rfl, v1, [.str p.1], rfl, .str p.1, [], rfl, rfl, ?_⟩
      refine ⟨.ref d, rfl, .str p.1, rfl, d, optV wp, rfl, hg hwp, ?_⟩
      refine ⟨optV wp, rfl, rfl, _, rfl, ?_⟩
      cases wp with
      | none => exact ⟨_, _, _, rfl, hf2, kp2⟩
      | some x =>
        refine iteT ?_
        obtain ⟨w2, hw2⟩ := ok.there _ _ hwp
        refine ⟨.str x, rfl, .ref d, rfl, d, _, rfl, hg hw2, _, rfl, ?_⟩
        exact ⟨_, _, _, rfl, hf2, kp2⟩
    · rintro σ H1 ⟨x, y, z, rfl, hf, kp⟩
      refine ⟨hf, d, _, upd_same, trivial, fun od2 => ?_⟩
      refine ⟨.ref d, rfl, d, od2, kvsOf F0, rfl, upd_same, for_it walk_enumD (fun i σ H3 => ∃ x y z, σ = [some (.ref d), x, y, z] ∧ H3 d = some (.frz od2 (.dK (kvsOf F0))) ∧ ∀ b o, b ≠ d → H b = some o → H3 b = some o) ⟨x, y, z, rfl, upd_same, fun b o nb e => by rw [upd_ne nb, upd_ne nb]; exact kp b o nb e⟩ (fun i σ H1 _ ⟨_, _, _, _, hf, _⟩ => hf) ?_ ?_⟩
      · rintro i v σ H3 H4 lt ⟨x, y, z, rfl, hf3, kp3⟩ ⟨Tp, v1, v2, rfl, nT, rfl, e1, e2⟩
        obtain ⟨p, hp0, rfl⟩ := kvs_key e2
        have mem := List.mem_of_getElem? hp0
        obtain ⟨wp, hwp⟩ := lookF_mem mem
        have nTd : d ≠ Tp := ne_of_none hf3 nT
        have hf4 : (upd H3 Tp (.tup [v1, .str p.1])) d = some (.frz od2 (.dK (kvsOf F0))) := by rw [upd_ne nTd]; exact hf3
        refine ⟨Tp, [v1, .str p.1], rfl, .inl (.inl upd_same), rfl, v1, [.str p.1], rfl, .str p.1, [], rfl, rfl, ?_⟩
        refine ⟨.ref d, rfl, .str p.1, rfl, d, p.1, F0, wp, rfl, .inr ⟨od2, hf4⟩, ok.most, ok.there, hwp, true, ?_, ?_⟩
        · rw [ok.lead p mem]
        · refine iteF ?_
          refine ⟨_, _, _, rfl, hf4, fun b o nb e => ?_⟩
          rw [upd_ne (ne_of_none (kp3 b o nb e) nT)]; exact kp3 b o nb e
      · rintro σ H3 ⟨x, y, z, rfl, hf3, kp3⟩
        refine ⟨hf3, q _ fun b o e => ?_⟩
        by_cases nb : b = d
        · subst nb
          rw [hd] at e
          cases e
          exact upd_same
        · rw [upd_ne nb]
          exact kp3 b o nb e
end
end Hee


set_option Elab.async false
set_option linter.all false
set_option maxRecDepth 100000
namespace Hee
open PySem PySem.Spec PyProof.Rows L2
/-! ### the mathematics of rising names -/
theorem rises_gt : ∀ {F : Folk} {a : Str}, rises a F → ∀ p ∈ F, a.cps.toList < p.1.cps.toList
  | [], _, _, p, h => by cases h
  | q :: r, a, hr, p, h => by
    rcases List.mem_cons.mp h with z | z
    · rw [z]; exact hr.1
    · exact List.lt_trans hr.1 (rises_gt hr.2 p z)
theorem rises_nodup : ∀ {F : Folk} {a : Str}, rises a F → (F.map Prod.fst).Nodup
  | [], _, _ => List.nodup_nil
  | q :: r, a, hr => by
    rw [List.map_cons]
    refine List.nodup_cons.mpr ⟨fun h => ?_, rises_nodup hr.2⟩
    obtain ⟨p, hp, e⟩ := List.mem_map.mp h
    have := rises_gt hr.2 p hp
    rw [e] at this
    exact List.lt_irrefl _ this
theorem look_none {F : Folk} {x : Str} (h : x ∉ F.map Prod.fst) : lookF F x = none := by
  unfold lookF
  rw [List.find?_eq_none.mpr fun p hp => ?_]
  · rfl
  · have : ¬ p.1 = x := fun e => h (List.mem_map.mpr ⟨p, hp, e⟩)
    simp [this]
theorem look_some : ∀ {F : Folk} {p : Str × Option Str}, (F.map Prod.fst).Nodup → p ∈ F → lookF F p.1 = some p.2
  | [], _, _, h => by cases h
  | q :: r, p, nd, h => by
    rw [List.map_cons, List.nodup_cons] at nd
    unfold lookF
    rw [List.find?_cons]
    rcases List.mem_cons.mp h with z | z
    · rw [z, decide_eq_true rfl]; rfl
    · by_cases e : q.1 = p.1
      · exact absurd (List.mem_map.mpr ⟨p, z, e.symm⟩) nd.1
      · rw [decide_eq_false e]
        exact look_some nd.2 z
theorem kvs_take {F : Folk} (nd : (F.map Prod.fst).Nodup) {i : Nat} {p : Str × Option Str} (h : F[i]? = some p) :
    putK (kvsOf (F.take i)) (Sum.inr p.1 : Key) (optV p.2) = kvsOf (F.take (i + 1)) := by
  have hi := (List.getElem?_eq_some_iff.mp h).1
  have hv : valV (kvsOf (F.take i)) (Sum.inr p.1 : Key) = none := by
    rw [val_kvs, look_none fun hm => ?_]
    · rfl
    · obtain ⟨q, hq, e⟩ := List.mem_map.mp hm
      obtain ⟨j, hj, rfl⟩ := List.mem_take_iff_getElem.mp hq
      have hj' : j < i := by omega
      have hpi : p = F[i] := (List.getElem?_eq_some_iff.mp h).2.symm
      subst hpi
      have h1 : (F.map Prod.fst)[j]'(by rw [List.length_map]; omega) = (F.map Prod.fst)[i]'(by rw [List.length_map]; exact hi) := by
        simpa using e
      exact List.pairwise_iff_getElem.mp nd j i (by rw [List.length_map]; omega) (by rw [List.length_map]; exact hi) hj' h1
  rw [putK_new _ hv]
  unfold kvsOf
  rw [List.take_add_one, h, List.map_append]
  rfl
/-! ### Web -/
theorem sw_trueD {kx vx : Expr} {gs : List Comprehension} {scope : Scope} {pos py : Pos} {y : Str} {l : Nat} {env : Env}
    (hk : env.scope.kind = .function) (hy : env.scope.names.lookup y = some .local) (hl : (py.line == pos.line) = true)
    (ha : (scope.names.any fun (n, k) => n == y && (k == .local || k == .cell)) = false) :
    swapsWith (.DictComp kx vx gs scope pos) (some (.Name y py)) l env = pure true := by
  have e1 : env.kindOf y = some .local := hy
  have e2 : env.blockKind = .function := by unfold Env.blockKind; rw [hk]; rfl
  unfold swapsWith
  simp only [e2, e1, ha, Expr.pos, hl]
  rfl
theorem pw_ne : ¬ (("persons" : Str) = "whoms") := by decide +kernel
def flds (a d : Addr) : List (Str × V) := putF "whoms" (.ref d) (putF "persons" (.ref a) [])
theorem flds_p (a d : Addr) : (flds a d).lookup ("persons" : Str) = some (.ref a) := by
  unfold flds
  rw [lookup_putF, if_neg pw_ne, lookup_putF, if_pos rfl]
theorem flds_w (a d : Addr) : (flds a d).lookup ("whoms" : Str) = some (.ref d) := by
  unfold flds
  rw [lookup_putF, if_pos rfl]
theorem flds_no (a d : Addr) {m : Str} (h1 : ¬ m = "whoms") (h2 : ¬ m = "persons") : (flds a d).lookup m = none := by
  unfold flds
  rw [lookup_putF, if_neg h1, lookup_putF, if_neg h2]
  all_goals rfl
theorem tup_keep {K : PySem.W.Frag} {H H' : Hp} {x C dx a : Addr} {fs : List (Str × V)} {xs : List V} (hx : H x = some (.ins C dx fs))
    (kp : ∀ b o, b ≠ x → H b = some o → H' b = some o) (h : SqT K H a xs) : SqT K H' a xs := by
  have off : ∀ o : HO, (∀ fs, o ≠ .ins C dx fs) → H a = some o → H' a = some o := fun o n q => kp a o (ne_of q hx (n fs)) q
  exact Or.imp (Or.imp (off _ fun _ y => nomatch y) fun ⟨o, q⟩ => ⟨o, off _ (fun _ y => nomatch y) q⟩) id h
theorem pers_keep {K : PySem.W.Frag} {H H' : Hp} {x C dx a : Addr} {fs : List (Str × V)} {ts : List Addr} {F : Folk} (hx : H x = some (.ins C dx fs))
    (kp : ∀ b o, b ≠ x → H b = some o → H' b = some o) (h : PersAt K H a ts F) : PersAt K H' a ts F :=
  ⟨tup_keep hx kp h.1, h.2.1, fun i t p h1 h2 => tup_keep hx kp (h.2.2 i t p h1 h2)⟩
/-- a Web stands at x -/
structure WebAt (K : PySem.W.Frag) (C : Addr) (H : Hp) (x a d : Addr) (ts : List Addr) (F : Folk) : Prop where
  ob : ∃ dx, H x = some (.ins C dx (flds a d))
  dc : H d = some (.dK (kvsOf F))
  ps : PersAt K H a ts F
  ok : FolkOk F
structure Tw (K : PySem.W.Frag) (mg : Str → Option Value) (C : Addr) : Prop where
  cl : Cls K C
  nP : NoAttr K C "persons"
  nW : NoAttr K C "whoms"
  mgC : mg "Web" = some (.ref C)
section
variable {P : Program} {w : World} {K : PySem.W.Frag}
  {mg : Str → Option Value} {base : Heap}
def spInit (K : PySem.W.Frag) (C : Addr) : Sp := fun vs H Q _ => ∃ (x dx a : Addr) (ts : List Addr) (F : Folk), vs = [.ref x, .ref a] ∧
  H x = some (.ins C dx []) ∧ PersAt K H a ts F ∧ FolkOk F ∧
  ∀ d H', H d = none → WebAt K C H' x a d ts F → (∀ b o, b ≠ x → H b = some o → H' b = some o) → Q .non H'
theorem scI : FnScope ["self", "persons", "whoms", "name", "whom"] ["self", "persons"] (defScope sInit) :=
  ⟨rfl, rfl, rfl, by decide +kernel, rfl, by decide +kernel, by decide +kernel⟩
theorem ok_init {f fCP fCW C : Addr} {fd fdCP fdCW : FuncData} (F : Fun K "__init__" "Web.__init__" sInit f fd) (T : Tx mg) (W : Tw K mg C)
    (FCP : Fun K "check_persons" "check_persons" sChkPers fCP fdCP) (bCP : Binds K fdCP ["persons"] []) (gCP : mg "check_persons" = some (.ref fCP))
    (FCW : Fun K "check_whoms" "check_whoms" sChkWhoms fCW fdCW) (bCW : Binds K fdCW ["whoms"] []) (gCW : mg "check_whoms" = some (.ref fCW))
    (GCP : FnOk P w K mg base CX0 3 fCP fdCP ["persons"] (spChkPers K))
    (GCW : FnOk P w K mg base CX0 2 fCW fdCW ["whoms"] spChkWhoms) :
    FnOk P w K mg base CX0 4 f fd ["self", "persons"] (spInit K C) := by
  refine F.ok scI (fun vs H Q E h => ?_) (fun cdv A outer s H vs Q E hr h => ?_)
  · obtain ⟨x, dx, a, ts, F0, rfl, _⟩ := h
    rfl
  · obtain ⟨x, dx, a, ts, F0, rfl, hx, hp, ok, q⟩ := h
    refine ⟨_, pss_cons (ps_expr (pe_call GCP hr (by rfl) gCP FCP.kp bCP .nil pass0 (pa_cons (pv 1) pa_nil)))
      (pss_cons (ps_setDc (i := 2) (own := [("name", 3), ("whom", 4)]) (g := gTup K 2 (gCons (gName 3) (gCons (gName 4) gNil))) (tt := tYes) rfl scI.nd rfl rfl
        (sw_trueD rfl rfl rfl (by decide +kernel)) (pi_tup (pv 1)) (blkOk_by (N := ["self", "persons", "whoms", "name", "whom"]) (sc := defScope sInit) (by decide +kernel))
        (fun _ _ _ _ _ => pg_tup (by rfl) (pgs_cons (pg_name (i := 3) scI.nd rfl (Or.inl rfl)) (pgs_cons (pg_name (i := 4) scI.nd rfl (Or.inl rfl)) pgs_nil)))
        (fun _ _ _ _ _ => pts_nil) (fun _ _ _ _ _ => pv 3) (fun _ _ _ _ _ => pv 4))
      (pss_cons (ps_expr (pe_call GCW (hr.mono (by decide)) (by rfl) gCW FCW.kp bCW .nil pass0 (pa_cons (pv 2) pa_nil)))
      (pss_cons (ps_fld (pv 0) (pv 1) rfl) (pss_one (ps_fld (pv 0) (pv 2) rfl))))), ?_⟩
    refine ⟨.ref a, rfl, a, ts, F0, rfl, hp, ok, fun H1 s1 => ?_⟩
    obtain ⟨hS, hl, hi⟩ := Same.pers s1 hp
    refine ⟨.ref a, rfl, a, rfl, ⟨_, hS⟩, fun D hD => ?_⟩
    have nd := rises_nodup ok.rise
    have nDx : x ≠ D := ne_of_none (s1 x _ hx) hD
    refine dc_tup (K := K) (a := a) (xs := ts.map V.ref) (fun i H2 => H2 D = some (.dK (kvsOf (F0.take i))) ∧ Same H1 H2) ⟨upd_same, same_upd hD⟩ (fun i H2 _ h => Same.tup h.2 hS) ?_ ?_
    · rintro i v H2 hv ⟨hd2, sm⟩
      obtain ⟨t, ht, rfl⟩ := map_ref hv
      have lt : i < F0.length := by have := (List.getElem?_eq_some_iff.mp ht).1; omega
      obtain ⟨p, hp0⟩ : ∃ p, F0[i]? = some p := ⟨F0[i], List.getElem?_eq_getElem lt⟩
      refine ⟨t, [.str p.1, optV p.2], rfl, Same.tup sm (hi i t p ht hp0), rfl, .str p.1, [optV p.2], rfl, optV p.2, [], rfl, rfl, rfl, ?_⟩
      refine ⟨.str p.1, rfl, optV p.2, rfl, kvsOf (F0.take i), Sum.inr p.1, rfl, hd2, ?_, ?_, ?_⟩
      · have hm := ok.most
        unfold kvsOf
        rw [List.length_map, List.length_take]
        exact small_lt (by omega)
      · rw [upd_same, kvs_take nd hp0]
      · intro b o e
        rw [upd_ne (ne_of_none e hD)]
        exact sm b o e
    · rintro H2 ⟨hd2, sm⟩
      rw [List.length_map, hl, List.take_length] at hd2
      refine ⟨.ref D, rfl, D, F0, rfl, hd2, ok, fun H3 s3 => ?_⟩
      have hx3 := s3 _ _ (sm _ _ (s1 _ _ hx))
      refine ⟨.ref a, rfl, .ref x, rfl, x, C, dx, [], rfl, hx3, W.cl, W.nP, (by show 0 < 1000; decide), ?_⟩
      refine ⟨.ref D, rfl, .ref x, rfl, x, C, dx, _, rfl, upd_same, W.cl, W.nW, (by show 1 < 1000; decide), ?_⟩
      have kp : ∀ b o, b ≠ x → H b = some o → upd (upd H3 x (.ins C dx (putF "persons" (.ref a) []))) x (.ins C dx (flds a D)) b = some o := fun b o nb e => by
        rw [upd_ne nb, upd_ne nb]
        exact s3 _ _ (sm _ _ (s1 _ _ e))
      refine q D _ (s1.free hD) ⟨⟨dx, upd_same⟩, ?_, ?_, ok⟩ kp
      · rw [upd_ne nDx.symm, upd_ne nDx.symm]
        exact s3 _ _ hd2
      · exact pers_keep hx kp hp
end
end Hee


set_option Elab.async false
set_option linter.all false
set_option maxRecDepth 100000
namespace Hee
open PySem PySem.Spec PyProof.Rows L2
abbrev sHas : Stmt := inClass (top 20) 5
abbrev sChkName : Stmt := inClass (top 20) 6
abbrev sNames : Stmt := inClass (top 20) 8
/-! ### who stands above -/
def upN (F : Folk) : Nat → Str → List Str
  | 0, _ => []
  | n + 1, x => match lookF F x with
    | some (some y) => y :: upN F n y
    | _ => []
def upF (F : Folk) (x : Str) : List Str := upN F F.length x
theorem upN_succ (F : Folk) (n : Nat) (x : Str) : upN F (n + 1) x = match lookF F x with
    | some (some y) => y :: upN F n y
    | _ => [] := rfl
theorem upN_len (F : Folk) : ∀ (n : Nat) (x : Str), (upN F n x).length ≤ n
  | 0, _ => Nat.le_refl _
  | n + 1, x => by
    rw [upN_succ]
    split
    · rw [List.length_cons]; have := upN_len F n ‹_›; omega
    · exact Nat.zero_le _
theorem upN_mem (F : Folk) : ∀ (n : Nat) (x y : Str), y ∈ upN F n x → ∃ z, lookF F z = some (some y)
  | 0, _, y, h => by cases h
  | n + 1, x, y, h => by
    rw [upN_succ] at h
    split at h
    · rename_i z e
      rcases List.mem_cons.mp h with q | q
      · exact ⟨x, by rw [e, q]⟩
      · exact upN_mem F n z y q
    · cases h
theorem look_mem {F : Folk} {x : Str} {w : Option Str} (h : lookF F x = some w) : (x, w) ∈ F := by
  unfold lookF at h
  cases e : F.find? fun p => decide (p.1 = x) with
  | none => rw [e] at h; cases h
  | some p =>
    rw [e] at h
    have h1 : p.2 = w := Option.some.inj h
    have h2 := List.mem_of_find?_eq_some e
    have h4 := List.find?_some e
    have h3 : p.1 = x := by simpa using h4
    have : p = (x, w) := by rw [← h1, ← h3]
    rw [← this]; exact h2
theorem FolkOk.named {F : Folk} (ok : FolkOk F) {x : Str} {w : Option Str} (h : lookF F x = some w) : nameB x = true := (ok.nm _ (look_mem h)).1
theorem FolkOk.upName {F : Folk} (ok : FolkOk F) {n : Nat} {x y : Str} (h : y ∈ upN F n x) : nameB y = true := by
  obtain ⟨z, hz⟩ := upN_mem F n x y h
  obtain ⟨w, hw⟩ := ok.there z y hz
  exact ok.named hw
/-! ### webs under more objects -/
theorem WebAt.same {K : PySem.W.Frag} {C x a d : Addr} {H H' : Hp} {ts : List Addr} {F : Folk} (w : WebAt K C H x a d ts F) (e : Same H H') : WebAt K C H' x a d ts F :=
  ⟨let ⟨dx, h⟩ := w.ob; ⟨dx, e _ _ h⟩, e _ _ w.dc, Same.pers e w.ps, w.ok⟩
theorem WebAt.get {K : PySem.W.Frag} {C x a d : Addr} {H : Hp} {ts : List Addr} {F : Folk} (w : WebAt K C H x a d ts F) {y : Str} {wy : Option Str} (h : lookF F y = some wy) : DGet H d (.str y) (some (optV wy)) := by
  have := DGet.k (k := Sum.inr y) w.dc
  rw [val_kvs, h] at this
  exact this
section
variable {P : Program} {w : World} {K : PySem.W.Frag}
  {mg : Str → Option Value} {base : Heap}
/-! ### has, check_name -/
def spHas (K : PySem.W.Frag) (C : Addr) : Sp := fun vs H Q _ => ∃ (x a d : Addr) (ts : List Addr) (F : Folk) (y : Str) (wy : Option Str), vs = [.ref x, .str y] ∧
  WebAt K C H x a d ts F ∧ lookF F y = some wy ∧ ∀ H', Same H H' → Q (.bl true) H'
theorem scHas : FnScope ["self", "thing"] ["self", "thing"] (defScope sHas) :=
  ⟨rfl, rfl, rfl, by decide +kernel, rfl, by decide +kernel, by decide +kernel⟩
theorem ok_has {f fN C : Addr} {fd fdN : FuncData} (F : Fun K "has" "Web.has" sHas f fd) (T : Tx mg) (W : Tw K mg C)
    (FN : Fun K "is_name" "is_name" sIsName fN fdN) (bN : Binds K fdN ["thing"] []) (gN : mg "is_name" = some (.ref fN)) :
    FnOk P w K mg base CX0 2 f fd ["self", "thing"] (spHas K C) := by
  have GN : FnOk P w K mg base CX0 1 fN fdN ["thing"] (spIsName K) := ok_isName FN T
  refine F.ok scHas (fun vs H Q E h => ?_) (fun cdv A outer s H vs Q E hr h => ?_)
  · obtain ⟨x, a, d, ts, F0, y, wy, rfl, _⟩ := h
    rfl
  · obtain ⟨x, a, d, ts, F0, y, wy, rfl, web, hy, q⟩ := h
    have hu := hu_of hr
    refine ⟨_, pss_one (ps_ret (pe_and (pe_call GN hr (by rfl) gN FN.kp bN .nil pass0 (pa_cons (pv 1) pa_nil))
      (pe_one (pe_cmp (pc_din hu (pv 1) (pe_fld (pv 0) rfl)) rfl)))), ?_⟩
    have hn := web.ok.named hy
    refine ⟨.str y, rfl, .str y, rfl, kind_name hn, fun H1 s1 => ⟨true, by rw [show nameV (.str y) = true from hn], ?_⟩⟩
    refine iteT ?_
    have w1 := web.same s1
    obtain ⟨dx, ho⟩ := w1.ob
    refine ⟨.str y, rfl, .ref x, rfl, x, C, dx, _, _, rfl, ho, W.cl, W.nW, flds_w a d, d, _, rfl, w1.get hy, ?_⟩
    exact q H1 s1
def spChkName (K : PySem.W.Frag) (C : Addr) : Sp := fun vs H Q _ => ∃ (x a d : Addr) (ts : List Addr) (F : Folk) (y : Str) (wy : Option Str), vs = [.ref x, .str y] ∧
  WebAt K C H x a d ts F ∧ lookF F y = some wy ∧ ∀ H', Same H H' → Q .non H'
theorem scCN : FnScope ["self", "name"] ["self", "name"] (defScope sChkName) :=
  ⟨rfl, rfl, rfl, by decide +kernel, rfl, by decide +kernel, by decide +kernel⟩
theorem has_no (a d : Addr) : (flds a d).lookup ("has" : Str) = none := flds_no a d (by decide +kernel) (by decide +kernel)
theorem ok_chkName {f fH C : Addr} {fd fdH : FuncData} (F : Fun K "check_name" "Web.check_name" sChkName f fd) (W : Tw K mg C)
    (bH : Binds K fdH ["self", "thing"] []) (mH : Meth K C "has" fH) (GH : FnOk P w K mg base CX0 2 fH fdH ["self", "thing"] (spHas K C)) :
    FnOk P w K mg base CX0 3 f fd ["self", "name"] (spChkName K C) := by
  refine F.ok scCN (fun vs H Q E h => ?_) (fun cdv A outer s H vs Q E hr h => ?_)
  · obtain ⟨x, a, d, ts, F0, y, wy, rfl, _⟩ := h
    rfl
  · obtain ⟨x, a, d, ts, F0, y, wy, rfl, web, hy, q⟩ := h
    refine ⟨_, pss_one (ps_if (pt_not (pt_val (pe_meth (pv 0) W.cl mH GH hr bH .nil pass0 (pa_cons (pv 1) pa_nil)))) (pss_one ps_never) pss_nil), ?_⟩
    obtain ⟨dx, ho⟩ := web.ob
    refine ⟨.ref x, rfl, x, dx, _, rfl, ho, has_no a d, .str y, rfl, x, a, d, ts, F0, y, wy, rfl, web, hy, fun H1 s1 => ⟨true, rfl, ?_⟩⟩
    refine iteF ?_
    exact q H1 s1
/-! ### names -/
def nmV (F : Folk) : List V := F.map fun p => .str p.1
def spNames (K : PySem.W.Frag) (C : Addr) : Sp := fun vs H Q _ => ∃ (x a d : Addr) (ts : List Addr) (F : Folk), vs = [.ref x] ∧
  WebAt K C H x a d ts F ∧ ∀ p H', Same H H' → H' p = some (.tup (nmV F)) → Q (.ref p) H'
theorem scNm : FnScope ["self", "name", "whom"] ["self"] (defScope sNames) :=
  ⟨rfl, rfl, rfl, by decide +kernel, rfl, by decide +kernel, by decide +kernel⟩
theorem ok_names {f C : Addr} {fd : FuncData} (F : Fun K "names" "Web.names" sNames f fd) (T : Tx mg) (W : Tw K mg C) :
    FnOk P w K mg base CX0 1 f fd ["self"] (spNames K C) := by
  refine F.ok scNm (fun vs H Q E h => ?_) (fun cdv A outer s H vs Q E hr h => ?_)
  · obtain ⟨x, a, d, ts, F0, rfl, _⟩ := h
    rfl
  · obtain ⟨x, a, d, ts, F0, rfl, web, q⟩ := h
    refine ⟨_, pss_one (ps_ret (pe_callTy call_tuple_of (by rfl) T.tup PyProof.Rows.boot_tuple (pa_cons
      (pe_lc (own := [("name", 1), ("whom", 2)]) (g := gTup K 2 (gCons (gName 1) (gCons (gName 2) gNil))) (tt := tYes) rfl scNm.nd (pi_tup (pe_fld (pv 0) rfl))
        (blkOk_by (N := ["self", "name", "whom"]) (sc := defScope sNames) (by decide +kernel))
        (fun _ _ _ _ _ => pg_tup (by rfl) (pgs_cons (pg_name (i := 1) scNm.nd rfl (Or.inl rfl)) (pgs_cons (pg_name (i := 2) scNm.nd rfl (Or.inl rfl)) pgs_nil)))
        (fun _ _ _ _ _ => pts_nil) (fun _ _ _ _ _ => pv 1)) pa_nil))), ?_⟩
    obtain ⟨dx, ho⟩ := web.ob
    obtain ⟨hS, hl, hi⟩ := web.ps
    refine ⟨.ref x, rfl, x, C, dx, _, _, rfl, ho, W.cl, W.nP, flds_p a d, a, rfl, ⟨_, hS⟩, fun D hD => ?_⟩
    refine lc_tup (K := K) (a := a) (xs := ts.map V.ref) (fun i H2 => H2 D = some (.lst ((nmV F0).take i)) ∧ Same H H2) ⟨upd_same, same_upd hD⟩ (fun i H2 _ h => Same.tup h.2 hS) ?_ ?_
    · rintro i v H2 hv ⟨hd2, sm⟩
      obtain ⟨t, ht, rfl⟩ := map_ref hv
      have lt : i < F0.length := by have := (List.getElem?_eq_some_iff.mp ht).1; omega
      obtain ⟨p, hp0⟩ : ∃ p, F0[i]? = some p := ⟨F0[i], List.getElem?_eq_getElem lt⟩
      refine ⟨t, [.str p.1, optV p.2], rfl, Same.tup sm (hi i t p ht hp0), rfl, .str p.1, [optV p.2], rfl, optV p.2, [], rfl, rfl, rfl, ?_⟩
      refine ⟨.str p.1, rfl, _, hd2, ?_, ?_, ?_⟩
      · have hm := web.ok.most
        unfold nmV
        rw [List.length_take, List.length_map]
        exact small_lt (by omega)
      · rw [upd_same, List.take_add_one, show (nmV F0)[i]? = some (.str p.1) by unfold nmV; rw [List.getElem?_map, hp0]; rfl]
        rfl
      · intro b o e
        rw [upd_ne (ne_of_none e hD)]
        exact sm b o e
    · rintro H2 ⟨hd2, sm⟩
      rw [List.length_map, hl, show F0.length = (nmV F0).length by unfold nmV; rw [List.length_map], List.take_length] at hd2
      refine ⟨D, nmV F0, rfl, .inl ⟨SqL.of hd2, fun l hl => ?_⟩⟩
      exact q l _ (sm.trans (same_upd hl)) upd_same
/-! ### above -/
def strV (l : List Str) : List V := l.map V.str
theorem cn_no (a d : Addr) : (flds a d).lookup ("check_name" : Str) = none := flds_no a d (by decide +kernel) (by decide +kernel)
/-! ### below -/
theorem nm_no (a d : Addr) : (flds a d).lookup ("names" : Str) = none := flds_no a d (by decide +kernel) (by decide +kernel)
theorem ab_no (a d : Addr) : (flds a d).lookup ("above" : Str) = none := flds_no a d (by decide +kernel) (by decide +kernel)
theorem inV_str (y : Str) (l : List Str) : inV (.str y) (strV l) = decide (y ∈ l) := by
  unfold inV strV
  rw [List.any_map]
  by_cases h : y ∈ l
  · rw [decide_eq_true h, List.any_eq_true]
    exact ⟨y, h, by show (y == y) = true; exact beq_self_eq_true y⟩
  · rw [decide_eq_false h, List.any_eq_false]
    intro z hz
    show ¬ (z == y) = true
    intro e
    exact h ((beq_iff_eq.mp e) ▸ hz)
theorem flat_str (l : List Str) : (strV l).all flatV = true := by
  unfold strV
  rw [List.all_map, List.all_eq_true]
  intro z _
  rfl
theorem filt_pos {F : Folk} {x y : Str} (h : y ∈ upF F x) : ([x].filter fun o => decide (y ∈ upF F o)) = [x] := by simp [h]
theorem filt_neg {F : Folk} {x y : Str} (h : ¬ y ∈ upF F x) : ([x].filter fun o => decide (y ∈ upF F o)) = [] := by simp [h]
theorem nm_eq (F : Folk) : nmV F = strV (F.map Prod.fst) := by
  unfold nmV strV
  rw [List.map_map]
  rfl
end
end Hee


set_option Elab.async false
set_option linter.all false
set_option maxRecDepth 100000
namespace Hee
open PySem PySem.Spec PyProof.Rows L2
abbrev sCell : Stmt := top 39
abbrev sPurse : Stmt := top 40
abbrev sTake : Stmt := top 41
abbrev sTitles : Stmt := top 42
abbrev sFolk : Stmt := top 43
/-- names of the law's part -/
structure Ty (mg : Str → Option Value) : Prop where
  repr : mg "repr" = none
  abs : mg "abs" = none
  divmod : mg "divmod" = none
  max : mg "max" = none
  min : mg "min" = none
  sorted : mg "sorted" = none
  list : mg "list" = none
  dict : mg "dict" = none
  int : mg "int" = none
theorem tyv_str {K : PySem.W.Frag} {H : Hp} (z : Str) : tyV K "str" (.str z) H := rfl
section
variable {P : Program} {w : World} {K : PySem.W.Frag}
  {mg : Str → Option Value} {base : Heap}
/-! ### the purse -/
def M0 : Int := 1000000093
def Purse (H : Hp) (p : Addr) : Prop := ∃ s d c : Int, H p = some (.lst [.int s, .int d, .int c]) ∧ 0 ≤ s ∧ s < M0 ∧ 0 ≤ d
def spPurse : Sp := fun vs H Q _ => ∃ n : Int, vs = [.int n] ∧ ∀ p H', H p = none → Same H H' → Purse H' p → Q (.ref p) H'
theorem scPu : FnScope ["_law_cell_here", "_law_digits"] ["_law_cell_here"] (defScope sPurse) :=
  ⟨rfl, rfl, rfl, by decide +kernel, rfl, by decide +kernel, by decide +kernel⟩
theorem ok_purse {f : Addr} {fd : FuncData} (F : Fun K "_law_purse" "_law_purse" sPurse f fd) (Y : Ty mg) :
    FnOk P w K mg base CX0 1 f fd ["_law_cell_here"] spPurse := by
  refine F.ok scPu (fun vs H Q E h => ?_) (fun cdv A outer s H vs Q E hr h => ?_)
  · obtain ⟨v, rfl, _⟩ := h
    rfl
  · obtain ⟨n, rfl, q⟩ := h
    refine ⟨_, pss_cons (ps_set (i := 1) scPu.nd rfl (Or.inl rfl) pe_int)
      (pss_cons (ps_if (PW.pt (pw_or (pt_cmpR op_lt (pv 0) pe_int (nomark _)) (pw_or1 (pt_cmpR op_ge (pv 0) (pe_op op_pow pe_int pe_int) (nomark _)))))
        (pss_one (ps_set (i := 1) scPu.nd rfl (Or.inl rfl) (pe_callB call_abs (by rfl) Y.abs boot_abs (pa_cons (pv 0) pa_nil)))) pss_nil)
      (pss_one (ps_ret (pe_lst (pa_cons (pe_op op_mod (pv 0) pe_int) (pa_cons (pv 1) (pa_cons pe_int pa_nil))))))), ?_⟩
    have fin : ∀ d : Int, 0 ≤ d → tRet (tLst (tCons (tOp (rI (fun _ j => 0 < j) fun i j => .int (i % j)) (tVar 0) (tC (.int 1000000093))) (tCons (tVar 1) (tCons (tC (.int 0)) tNil))))
        { nx := fun _ H' => Q .non H', rt := Q } [some (.int n), some (.int d)] H := fun d hd => by
      refine ⟨.int n, rfl, n, _, rfl, rfl, (by show (0 : Int) < 1000000093; decide), .int d, rfl, (by show 3 ≤ sizeLine; decide), fun p hp => ?_⟩
      refine q p _ hp (same_upd hp) ⟨_, _, _, upd_same, ?_, ?_, hd⟩
      · exact Int.emod_nonneg _ (by decide)
      · exact Int.emod_lt_of_pos _ (by decide)
    refine ⟨.int n, rfl, n, 0, rfl, rfl, _, rfl, ?_⟩
    have abs0 : (0 : Int) ≤ (if n < 0 then -n else n) := by split <;> omega
    by_cases h0 : n < 0
    · rw [decide_eq_true h0]
      refine iteT ?_
      refine iteT ?_
      exact ⟨.int n, rfl, n, rfl, fin _ abs0⟩
    · rw [decide_eq_false h0]
      refine iteF ?_
      refine ⟨.int n, rfl, 10, 18, rfl, rfl, ⟨by decide, by decide, by decide⟩, n, _, rfl, rfl, _, rfl, ?_⟩
      refine ite2 (fun _ => ?_) (fun _ => ?_)
      · exact ⟨.int n, rfl, n, rfl, fin _ abs0⟩
      · exact fin 0 (by decide)
/-! ### take -/
def spTake : Sp := fun vs H Q _ => ∃ (p : Addr) (m : Int), vs = [.ref p, .int m] ∧ Purse H p ∧ 1 ≤ m ∧ m ≤ 1000 ∧
  ∀ r H', 0 ≤ r → r < m → Purse H' p → (∀ b o, b ≠ p → H b = some o → H' b = some o) → Q (.int r) H'
def nextS (s c : Int) : Int := (s * (s % 43003 + 29009) + 60037 * (c + 1)) % 1000000093
theorem take_fin {K : PySem.W.Frag} {H H2 : Hp} {p : Addr} {m s2 d0 c1 s0 : Int} {Q : VK} (hp2 : H2 p = some (.lst [.int s2, .int d0, .int c1]))
    (kp2 : ∀ b o, b ≠ p → H b = some o → H2 b = some o) (hs2a : 0 ≤ s2) (hs2b : s2 < M0) (hd0 : 0 ≤ d0) (hm1 : 1 ≤ m) (hm2 : m ≤ 1000)
    (q : ∀ r H', 0 ≤ r → r < m → Purse H' p → (∀ b o, b ≠ p → H b = some o → H' b = some o) → Q (.int r) H') :
    (tSeq (tIfS (tTest (tOp (rI0 fun i j => V.bl (decide (j < i))) (tOp (rIxL K) (tVar 0) (tC (V.int 1))) (tC (V.int 0))))
        (tSeq (tAsg (tCB (fun xs H Q => ∃ i j, xs = [V.int i, V.int j] ∧ CDiv i j ∧ ∀ (p : Addr), H p = none → Q (V.ref p) (upd H p (HO.tup [V.int (i / j), V.int (i % j)])))
            (tCons (tOp (rIxL K) (tVar 0) (tC (V.int 1))) (tCons (tVar 1) tNil)))
            (gTup K 2 (gCons (gSub (tVar 0) (tC (V.int 1)) rSetL) (gCons (gName 3) gNil))))
          (tRet (tVar 3))) tNext)
      (tRet (tOp (rI (fun x j => j ≠ 0) fun i j => V.int (i.fmod j)) (tOp (rI CDiv fun i j => V.int (i / j)) (tOp (rIxL K) (tVar 0) (tC (V.int 0))) (tC (V.int 32))) (tVar 1))))
      { nx := fun x H' => Q V.non H', rt := Q } [some (.ref p), some (.int m), some (.int s0), none] H2 := by
    refine ⟨.ref p, rfl, p, _, 1, .int d0, rfl, rfl, SqL.of hp2, atI_nat (j := 1) rfl, d0, 0, rfl, rfl, _, rfl, ?_⟩
    refine ite2 (fun _ => ?_) (fun _ => ?_)
    · refine ⟨.ref p, rfl, p, _, 1, .int d0, rfl, rfl, SqL.of hp2, atI_nat (j := 1) rfl, .int m, rfl, d0, m, rfl, ⟨by omega, by omega⟩, fun t ht => ?_⟩
      have npt : p ≠ t := ne_of_none hp2 ht
      have hp3 : (upd H2 t (.tup [.int (d0 / m), .int (d0 % m)])) p = some (.lst [.int s2, .int d0, .int c1]) := by rw [upd_ne npt]; exact hp2
      refine ⟨t, [.int (d0 / m), .int (d0 % m)], rfl, .inl (.inl upd_same), rfl, .int (d0 / m), [.int (d0 % m)], rfl, .ref p, rfl, p, _, 1, 1, rfl, rfl, hp3, rfl, .int (d0 % m), [], rfl, rfl, ?_⟩
      refine ⟨.int (d0 % m), rfl, ?_⟩
      refine q (d0 % m) _ (Int.emod_nonneg _ (by omega)) (Int.emod_lt_of_pos _ (by omega)) ⟨s2, d0 / m, c1, upd_same, hs2a, hs2b, Int.ediv_nonneg hd0 (by omega)⟩ fun b o nb e => ?_
      rw [upd_ne nb, upd_ne (ne_of_none (kp2 b o nb e) ht)]
      exact kp2 b o nb e
    · refine ⟨.ref p, rfl, p, _, 0, .int s2, rfl, rfl, SqL.of hp2, atI_nat (j := 0) rfl, s2, 32, rfl, rfl, ⟨by decide, by decide⟩, .int m, rfl, _, m, rfl, rfl, (by show m ≠ 0; omega), ?_⟩
      have e : (s2 / 32).fmod m = (s2 / 32) % m := Int.fmod_eq_emod_of_nonneg _ (by omega)
      show Q (.int ((s2 / 32).fmod m)) H2
      rw [e]
      exact q _ H2 (Int.emod_nonneg _ (by omega)) (Int.emod_lt_of_pos _ (by omega)) ⟨s2, d0, c1, hp2, hs2a, hs2b, hd0⟩ kp2
theorem scTk : FnScope ["_law_purse_here", "_law_wide", "_law_state", "_law_digit"] ["_law_purse_here", "_law_wide"] (defScope sTake) :=
  ⟨rfl, rfl, rfl, by decide +kernel, rfl, by decide +kernel, by decide +kernel⟩
theorem ok_take {f : Addr} {fd : FuncData} (F : Fun K "_law_take" "_law_take" sTake f fd) (Y : Ty mg) :
    FnOk P w K mg base CX0 1 f fd ["_law_purse_here", "_law_wide"] spTake := by
  refine F.ok scTk (fun vs H Q E h => ?_) (fun cdv A outer s H vs Q E hr h => ?_)
  · obtain ⟨p, m, rfl, _⟩ := h
    rfl
  · obtain ⟨p, m, rfl, ⟨s0, d0, c0, hp, hs0, hs1, hd0⟩, hm1, hm2, q⟩ := h
    refine ⟨_, pss_cons (ps_asg (pe_op op_add (pe_ix ix_list (pv 0) pe_int (fun _ _ => rfl)) pe_int) (pg_sub (pv 0) pe_int set_list))
      (pss_cons (ps_set (i := 2) scTk.nd rfl (Or.inl rfl) (pe_ix ix_list (pv 0) pe_int (fun _ _ => rfl)))
      (pss_cons (ps_asg (pe_op op_mod (pe_op op_add (pe_op op_mul (pv 2) (pe_op op_add (pe_op op_mod (pv 2) pe_int) pe_int)) (pe_op op_mul pe_int (pe_ix ix_list (pv 0) pe_int (fun _ _ => rfl)))) pe_int) (pg_sub (pv 0) pe_int set_list))
      (pss_cons (ps_if (pt_cmpR op_gt (pe_ix ix_list (pv 0) pe_int (fun _ _ => rfl)) pe_int (nomark _))
        (pss_cons (ps_asg (pe_callB call_divmod (by rfl) Y.divmod boot_divmod (pa_cons (pe_ix ix_list (pv 0) pe_int (fun _ _ => rfl)) (pa_cons (pv 1) pa_nil)))
            (pg_tup (by rfl) (pgs_cons (pg_sub (pv 0) pe_int set_list) (pgs_cons (pg_name (i := 3) scTk.nd rfl (Or.inl rfl)) pgs_nil))))
          (pss_one (ps_ret (pv 3)))) pss_nil)
      (pss_one (ps_ret (pe_op op_modN (pe_op op_fdiv (pe_ix ix_list (pv 0) pe_int (fun _ _ => rfl)) pe_int) (pv 1))))))), ?_⟩
    refine ⟨.ref p, rfl, p, _, 2, .int c0, rfl, rfl, SqL.of hp, atI_nat (j := 2) rfl, c0, 1, rfl, rfl, .ref p, rfl, p, _, 2, 2, rfl, rfl, hp, rfl, ?_⟩
    have hp1 : (upd H p (.lst [.int s0, .int d0, .int (c0 + 1)])) p = some (.lst [.int s0, .int d0, .int (c0 + 1)]) := upd_same
    refine ⟨.ref p, rfl, p, _, 0, .int s0, rfl, rfl, SqL.of hp1, atI_nat (j := 0) rfl, ?_⟩
    have hM : M0 = 1000000093 := rfl
    refine ⟨.int s0, rfl, .int s0, rfl, s0, 43003, rfl, rfl, (by show (0 : Int) < 43003; decide), _, 29009, rfl, rfl, s0, _, rfl, rfl, .inl ⟨by omega, by omega⟩, ?_⟩
    refine ⟨.ref p, rfl, p, _, 2, .int (c0 + 1), rfl, rfl, SqL.of hp1, atI_nat (j := 2) rfl, 60037, _, rfl, rfl, .inl ⟨by decide, by decide⟩, _, _, rfl, rfl, _, 1000000093, rfl, rfl, (by show (0 : Int) < 1000000093; decide), ?_⟩
    refine ⟨.ref p, rfl, p, _, 0, 0, rfl, rfl, hp1, rfl, ?_⟩
    have hs2a : 0 ≤ nextS s0 c0 := Int.emod_nonneg _ (by decide)
    have hs2b : nextS s0 c0 < M0 := Int.emod_lt_of_pos _ (by decide)
    refine take_fin (s2 := nextS s0 c0) (H2 := upd (upd H p (.lst [.int s0, .int d0, .int (c0 + 1)])) p (.lst [.int (nextS s0 c0), .int d0, .int (c0 + 1)])) upd_same (fun b o nb e => by rw [upd_ne nb, upd_ne nb]; exact e) hs2a hs2b hd0 hm1 hm2 q
/-! ### a word -/
theorem let26 : letS.cps.toList.length = 26 := by decide +kernel
theorem sum_ones : ∀ {ys : List Str}, (∀ y ∈ ys, y.length = 1) → (ys.map (·.length)).sum = ys.length
  | [], _ => rfl
  | y :: r, h => by
    rw [List.map_cons, List.sum_cons, h y List.mem_cons_self, sum_ones fun z hz => h z (List.mem_cons_of_mem _ hz), List.length_cons]
    omega
theorem join_len (ys : List Str) : (Txt.join "" ys).length = (ys.map (·.length)).sum := by
  have h := size_glued "" ys
  rw [show (("" : String) : Str).length = 0 from by decide +kernel, Nat.mul_zero, Nat.add_zero] at h
  exact h
/-! ### a cell -/
theorem cut_ints {ns : List Int} {lo hi : Option Int} {i : Nat} {v : V} (h : (cutV (ns.map V.int) lo hi)[i]? = some v) : ∃ n, v = .int n := by
  have hm : v ∈ ns.map V.int := by
    have := List.mem_of_getElem? h
    unfold cutV at this
    exact List.mem_of_mem_drop (List.mem_of_mem_take this)
  obtain ⟨n, _, e⟩ := List.mem_map.mp hm
  exact ⟨n, e.symm⟩
def spCell (K : PySem.W.Frag) : Sp := fun vs H Q _ => ∃ (a : Addr) (ns : List Int) (k : Int), vs = [.ref a, .int k] ∧ SqL K H a (ns.map V.int) ∧ 0 ≤ k ∧ k ≤ 63 ∧
  ∀ n H', Same H H' → Q (.int n) H'
theorem scCe : FnScope ["_law_script", "_law_k", "_law_state", "_law_cell_here"] ["_law_script", "_law_k"] (defScope sCell) :=
  ⟨rfl, rfl, rfl, by decide +kernel, rfl, by decide +kernel, by decide +kernel⟩
theorem ok_cell {f : Addr} {fd : FuncData} (F : Fun K "_law_cell" "_law_cell" sCell f fd) (T : Tx mg) :
    FnOk P w K mg base CX0 1 f fd ["_law_script", "_law_k"] (spCell K) := by
  refine F.ok scCe (fun vs H Q E h => ?_) (fun cdv A outer s H vs Q E hr h => ?_)
  · obtain ⟨p, m, k, rfl, _⟩ := h
    rfl
  · obtain ⟨a, ns, k, rfl, hS, hk0, hk1, q⟩ := h
    refine ⟨_, pss_cons (ps_if (pt_cmpR op_lt (pv 1) (pe_callB call_len_seq (by rfl) T.len PySem.boot_len (pa_cons (pv 0) pa_nil)) (nomark _))
        (pss_one (ps_ret (pe_ix ix_list (pv 0) (pv 1) (fun _ _ => rfl)))) pss_nil)
      (pss_cons (ps_set (i := 2) scCe.nd rfl (Or.inl rfl) (pe_op op_mod (pe_op op_mul pe_int (pe_op op_add (pe_op op_add (pe_op op_mul (pv 1) (pv 1)) (pe_op op_mul pe_int (pv 1))) pe_int)) pe_int))
      (pss_cons (ps_for PassesOwn.never rfl (pi_list (pe_slice sl_list (pv 0) po_none (po_some pe_int))) (pg_name (i := 3) scCe.nd rfl (Or.inl rfl))
        (pss_one (ps_set (i := 2) scCe.nd rfl (Or.inl rfl) (pe_op op_mod (pe_op op_add (pe_op op_mul (pv 2) pe_int) (pv 3)) pe_int))))
      (pss_one (ps_ret (pv 2))))), ?_⟩
    refine ⟨.int k, rfl, .ref a, rfl, a, _, rfl, .inl hS, k, _, rfl, rfl, _, rfl, ?_⟩
    refine ite2 (fun hlt => ?_) (fun hlt => ?_)
    · have hlt' : k < ((ns.map V.int).length : Int) := of_decide_eq_true hlt
      rw [List.length_map] at hlt'
      obtain ⟨j, rfl⟩ : ∃ j : Nat, k = j := ⟨k.toNat, by omega⟩
      have hi : j < ns.length := by omega
      have hg : (ns.map V.int)[j]? = some (.int ns[j]) := by
        rw [List.getElem?_map, List.getElem?_eq_getElem hi]; rfl
      refine ⟨.ref a, rfl, .int j, rfl, a, _, j, .int ns[j], rfl, rfl, hS, atI_nat hg, ?_⟩
      exact q _ H (Same.refl H)
    · refine ⟨.int k, rfl, .int k, rfl, k, k, rfl, rfl, .inl ⟨by omega, by omega⟩, .int k, rfl, 11, k, rfl, rfl, .inl ⟨by decide, by decide⟩, _, _, rfl, rfl, _, 3, rfl, rfl, 58013, _, rfl, rfl, .inl ⟨by decide, by decide⟩, _, 1000000093, rfl, rfl, (by show (0 : Int) < 1000000093; decide), ?_⟩
      refine ⟨.ref a, rfl, 3, rfl, a, _, rfl, hS, fun c hc => ?_⟩
      refine ⟨c, rfl, ⟨_, .inl (.inl upd_same)⟩, for_list (K := K) (a := c) (xs := cutV (ns.map V.int) none (some 3)) (fun i σ H1 => ∃ (st : Int) (z : Option V), σ = [some (.ref a), some (.int k), some (.int st), z] ∧ 0 ≤ st ∧ st < M0 ∧ H1 = upd H c (.lst (cutV (ns.map V.int) none (some 3)))) ⟨_, none, rfl, Int.emod_nonneg _ (by decide), Int.emod_lt_of_pos _ (by decide), rfl⟩ (fun i σ H1 _ ⟨_, _, _, _, _, e⟩ => by rw [e]; exact .inl (.inl upd_same)) ?_ ?_⟩
      · rintro i x σ H1 hx ⟨st, z, rfl, h0, h1, rfl⟩
        obtain ⟨n, rfl⟩ := cut_ints hx
        have hM : M0 = 1000000093 := rfl
        refine ⟨.int st, rfl, st, 35027, rfl, rfl, .inl ⟨by omega, by omega⟩, .int n, rfl, _, n, rfl, rfl, _, 1000000093, rfl, rfl, (by show (0 : Int) < 1000000093; decide), ?_⟩
        exact ⟨_, _, rfl, Int.emod_nonneg _ (by decide), Int.emod_lt_of_pos _ (by decide), rfl⟩
      · rintro σ H1 ⟨st, z, rfl, h0, h1, rfl⟩
        exact ⟨.int st, rfl, q st _ (same_upd hc)⟩
end
end Hee


set_option Elab.async false
set_option linter.all false
set_option maxRecDepth 100000
namespace Hee
open PySem PySem.Spec PyProof.Rows L2
/-! ### texts that rise -/
def riseT : Str → List Str → Prop
  | _, [] => True
  | a, t :: r => a.cps.toList < t.cps.toList ∧ riseT t r
theorem lt_tri : ∀ a b : List Nat, ltCps a b = false → a ≠ b → ltCps b a = true
  | [], [], _, h => absurd rfl h
  | [], _ :: _, h, _ => by cases h
  | _ :: _, [], _, _ => rfl
  | a :: r, b :: t, h, hne => by
    simp only [ltCps, Bool.or_eq_false_iff, Bool.and_eq_false_iff, decide_eq_false_iff_not] at h
    simp only [ltCps, Bool.or_eq_true, Bool.and_eq_true, decide_eq_true_eq]
    obtain ⟨h1, h2⟩ := h
    by_cases e : a = b
    · subst e
      right
      refine ⟨by simp, lt_tri r t ?_ (fun z => hne (by rw [z]))⟩
      rcases h2 with h2 | h2
      · simp at h2
      · exact h2
    · left; omega
theorem rise_of : ∀ {p : Str} {l : List Str}, risingS p l = true → (p :: l).Nodup → riseT p l
  | _, [], _, _ => trivial
  | p, x :: r, h, nd => by
    have h' : (!ltCps x.cps.toList p.cps.toList && risingS x r) = true := h
    rw [Bool.and_eq_true, Bool.not_eq_true'] at h'
    have nd' := List.nodup_cons.mp nd
    have hne : x.cps.toList ≠ p.cps.toList := fun e => nd'.1 (by
      have : x = p := Str.ext' (Array.toList_inj.mp e)
      rw [this]; exact List.mem_cons_self)
    have := lt_tri _ _ h'.1 hne
    rw [ltCps_eq] at this
    exact ⟨of_decide_eq_true this, rise_of h'.2 nd'.2⟩
theorem rise_all {l : List Str} (hs : sortedS l = true) (nd : l.Nodup) (hn : ∀ t ∈ l, nameB t = true) : riseT "" l := by
  cases l with
  | nil => trivial
  | cons x r =>
    refine ⟨?_, rise_of hs nd⟩
    have hl := name_len (hn x List.mem_cons_self)
    have e0 : (("" : String) : Str).cps.toList = [] := by decide +kernel
    rw [e0]
    cases hx : x.cps.toList with
    | nil =>
      have : x.length = x.cps.toList.length := by simp [Str.length]
      rw [hx] at this
      simp at this
      omega
    | cons c t => exact List.nil_lt_cons c t
section
variable {P : Program} {w : World} {K : PySem.W.Frag}
  {mg : Str → Option Value} {base : Heap}
/-! ### size -/
theorem Purse.keep {H H' : Hp} {p : Addr} (pu : Purse H p) (e : Same H H') : Purse H' p := by
  obtain ⟨a, b, c, h, r⟩ := pu
  exact ⟨a, b, c, e _ _ h, r⟩
end
end Hee


set_option Elab.async false
set_option linter.all false
set_option maxRecDepth 100000
namespace Hee
open PySem PySem.Spec PyProof.Rows L2
/-! ### drawn titles: the mathematics -/
def W12 : List Str := ["call", "join", "part", "turn", "back", "row", "web", "piles", "log", "way", "rests", "share"]
theorem w12_len : W12.length = 12 := rfl
theorem w12_inj : ∀ i : Fin 12, ∀ j : Fin 12, W12.getD i.1 "" = W12.getD j.1 "" → i = j := by decide +kernel
theorem w12_nm : ∀ i : Fin 12, nameB (W12.getD i.1 "") = true := by decide +kernel
theorem let_inj : ∀ i : Fin 26, ∀ j : Fin 26, letS.cps.toList.getD i.1 0 = letS.cps.toList.getD j.1 0 → i = j := by decide +kernel
theorem let_mem : ∀ i : Fin 26, letS.cps.toList.getD i.1 0 ∈ letS.cps.toList := by decide +kernel
def isStep (s : Int) : Prop := s = 1 ∨ s = 5 ∨ s = 7 ∨ s = 11
def ixW (a s : Int) (k : Nat) : Nat := ((a + s * k) % 12).toNat
def ixL (a s : Int) (k : Nat) : Nat := ((a + s * k) % 26).toNat
theorem ixW_lt (a s : Int) (k : Nat) : ixW a s k < 12 := by unfold ixW; omega
theorem ixL_lt (a s : Int) (k : Nat) : ixL a s k < 26 := by unfold ixL; omega
theorem ixW_inj {a s : Int} (hs : isStep s) {i j : Nat} (hi : i < 12) (hj : j < 12) (e : ixW a s i = ixW a s j) : i = j := by
  unfold ixW at e
  rcases hs with h | h | h | h <;> subst h <;> omega
theorem ixL_inj {a s : Int} (hs : isStep s) {i j : Nat} (hi : i < 12) (hj : j < 12) (e : ixL a s i = ixL a s j) : i = j := by
  unfold ixL at e
  rcases hs with h | h | h | h <;> subst h <;> omega
def wordAt (a s : Int) (k : Nat) : Str := W12.getD (ixW a s k) ""
theorem wordAt_inj {a s : Int} (hs : isStep s) {i j : Nat} (hi : i < 12) (hj : j < 12) (e : wordAt a s i = wordAt a s j) : i = j := by
  have := w12_inj ⟨_, ixW_lt a s i⟩ ⟨_, ixW_lt a s j⟩ e
  exact ixW_inj hs hi hj (Fin.mk.inj this)
theorem wordAt_nm (a s : Int) (k : Nat) : nameB (wordAt a s k) = true := w12_nm ⟨_, ixW_lt a s k⟩
theorem nodup_map {f : Nat → Str} : ∀ n, (∀ i j, i < n → j < n → f i = f j → i = j) → ((List.range n).map f).Nodup
  | 0, _ => List.nodup_nil
  | n + 1, h => by
    rw [List.range_succ, List.map_append, List.nodup_append]
    refine ⟨nodup_map n fun i j hi hj e => h i j (by omega) (by omega) e, by simp, fun x hx y hy e => ?_⟩
    obtain ⟨i, hi, rfl⟩ := List.mem_map.mp hx
    have hi' := List.mem_range.mp hi
    rw [List.map_singleton, List.mem_singleton] at hy
    rw [hy] at e
    have := h i n (by omega) (by omega) e
    omega
/-- the letter at a place -/
def sgnAt (b s : Int) (k : Nat) : Nat := letS.cps.toList.getD (ixL b s k) 0
def titAt (st : Str) (put b s : Int) (k : Nat) : Str := (cutS st none (some put) ++ (⟨#[sgnAt b s k]⟩ : Str)) ++ cutS st (some put) none
theorem cut_toList (z : Str) (lo hi : Option Int) : (cutS z lo hi).cps.toList = ((z.cps.toList.drop (HT.sIx z.length 0 lo)).take (HT.sIx z.length z.length hi - HT.sIx z.length 0 lo)) := by
  unfold cutS; simp
theorem tit_toList (st : Str) (put b s : Int) (k : Nat) : (titAt st put b s k).cps.toList = (cutS st none (some put)).cps.toList ++ (sgnAt b s k :: (cutS st (some put) none).cps.toList) := by
  unfold titAt
  rw [Str.cps_append, Array.toList_append, Str.cps_append, Array.toList_append, List.append_assoc]
  rfl
theorem titAt_inj {st : Str} {put b s : Int} (hs : isStep s) {i j : Nat} (hi : i < 12) (hj : j < 12) (e : titAt st put b s i = titAt st put b s j) : i = j := by
  have h : (titAt st put b s i).cps.toList = (titAt st put b s j).cps.toList := by rw [e]
  rw [tit_toList, tit_toList] at h
  have h2 := List.append_cancel_left h
  have h3 : sgnAt b s i = sgnAt b s j := (List.cons.inj h2).1
  have := let_inj ⟨_, ixL_lt b s i⟩ ⟨_, ixL_lt b s j⟩ h3
  exact ixL_inj hs hi hj (Fin.mk.inj this)
theorem titAt_nm {st : Str} {put b s : Int} {k : Nat} (h5 : st.length ≤ 5) (hp : 0 ≤ put) (hc : ∀ c ∈ st.cps.toList, c ∈ letS.cps.toList) : nameB (titAt st put b s k) = true := by
  have e := tit_toList st put b s k
  have hl : st.cps.toList.length = st.length := by simp [Str.length]
  have hlen : (titAt st put b s k).length = st.length + 1 := by
    have : (titAt st put b s k).length = (titAt st put b s k).cps.toList.length := by simp [Str.length]
    rw [this, e, List.length_append, List.length_cons, cut_toList, cut_toList]
    obtain ⟨n, rfl⟩ : ∃ n : Nat, put = n := ⟨put.toNat, by omega⟩
    rw [HT.sIx_none, HT.sIx_none, HT.sIx_nat, HT.sIx_nat]
    simp only [List.length_take, List.length_drop, hl]
    omega
  unfold nameB
  rw [decide_eq_true (by rw [hlen]; omega), decide_eq_true (by rw [hlen]; omega)]
  show ((titAt st put b s k).cps.toList.all fun c => decide (c ∈ letS.cps.toList)) = true
  rw [List.all_eq_true, e]
  intro c hm
  refine decide_eq_true ?_
  rcases List.mem_append.mp hm with h | h
  · rw [cut_toList] at h
    exact hc c (List.mem_of_mem_drop (List.mem_of_mem_take h))
  · rcases List.mem_cons.mp h with z | z
    · rw [z]; exact let_mem ⟨_, ixL_lt b s k⟩
    · rw [cut_toList] at z
      exact hc c (List.mem_of_mem_drop (List.mem_of_mem_take z))
theorem range_map_get {f : Nat → Str} {n i : Nat} : ((List.range (i + 1)).map f) = ((List.range i).map f) ++ [f i] := by
  rw [List.range_succ, List.map_append]; rfl
theorem free_of {H H9 : Hp} {p q : Addr} (pu : Purse H9 p) (k : ∀ b o, b ≠ p → H b = some o → H9 b = some o) (h : H9 q = none) : H q = none := by
  cases e : H q with
  | none => rfl
  | some o =>
    by_cases hq : q = p
    · subst hq
      obtain ⟨_, _, _, e2, _⟩ := pu
      rw [h] at e2; cases e2
    · rw [k q o hq e] at h; cases h
theorem joinL_nil : ∀ ps : List (List Nat), TL.joinL [] ps = ps.flatten
  | [] => rfl
  | [p] => by simp [TL.joinL]
  | p :: q :: r => by
    rw [TL.joinL, joinL_nil (q :: r)]
    rfl
theorem join_mem {ys : List Str} (h : ∀ y ∈ ys, ∀ c ∈ y.cps.toList, c ∈ letS.cps.toList) : ∀ c ∈ (Txt.join "" ys).cps.toList, c ∈ letS.cps.toList := by
  intro c hc
  have e : Txt.join "" ys = Str.join "" ys := StrLaws.glued_eq_join "" ys
  rw [e] at hc
  have h2 := TL.tl_join "" ys
  rw [show TL.tl (("" : String) : Str) = [] from by decide +kernel, joinL_nil] at h2
  have hc' : c ∈ (ys.map TL.tl).flatten := by rw [← h2]; exact hc
  obtain ⟨l, hl, hcl⟩ := List.mem_flatten.mp hc'
  obtain ⟨y, hy, rfl⟩ := List.mem_map.mp hl
  exact h y hy c hcl
section
variable {P : Program} {w : World} {K : PySem.W.Frag}
  {mg : Str → Option Value} {base : Heap}
/-! ### titles -/
structure TitOk (ts : List Str) (n : Nat) : Prop where
  len : ts.length = n
  rise : riseT "" ts
  nm : ∀ t ∈ ts, nameB t = true
theorem tit_ok {f : Nat → Str} {n : Nat} {ys : List Str} (hn : n ≤ 12) (inj : ∀ i j, i < 12 → j < 12 → f i = f j → i = j) (nm : ∀ k, nameB (f k) = true)
    (hp : ys.Perm ((List.range n).map f)) (hs : sortedS ys = true) : TitOk ys n := by
  have nd : ((List.range n).map f).Nodup := nodup_map n fun i j hi hj e => inj i j (by omega) (by omega) e
  have hm : ∀ t ∈ ys, nameB t = true := fun t ht => by
    obtain ⟨k, _, rfl⟩ := List.mem_map.mp (hp.mem_iff.mp ht)
    exact nm k
  exact ⟨by rw [hp.length_eq, List.length_map, List.length_range], rise_all hs (hp.nodup_iff.mpr nd) hm, hm⟩
def spTitles : Sp := fun vs H Q _ => ∃ (p : Addr) (n : Nat), vs = [.ref p, .int n] ∧ Purse H p ∧ 1 ≤ n ∧ n ≤ 12 ∧
  ∀ (ts : List Str) q H', TitOk ts n → Purse H' p → H q = none → (∀ b o, b ≠ p → H b = some o → H' b = some o) → H' q = some (.lst (strV ts)) → Q (.ref q) H'
abbrev NT : List Str := ["_law_purse_here", "_law_many", "_law_words", "_law_first", "_law_pace", "_law_k", "_law_letters", "_law_stem", "_law_put", "_law_begin", "_law_found", "_law_sign"]
theorem scTi : FnScope NT ["_law_purse_here", "_law_many"] (defScope sTitles) :=
  ⟨rfl, rfl, rfl, by decide +kernel, rfl, by decide +kernel, by decide +kernel⟩
set_option maxHeartbeats 4000000 in
theorem ok_titles {f fT : Addr} {fd fdT : FuncData} (F : Fun K "_law_titles" "_law_titles" sTitles f fd) (T : Tx mg) (Y : Ty mg)
    (FT : Fun K "_law_take" "_law_take" sTake fT fdT) (bT : Binds K fdT ["_law_purse_here", "_law_wide"] []) (gT : mg "_law_take" = some (.ref fT)) :
    FnOk P w K mg base CX0 2 f fd ["_law_purse_here", "_law_many"] spTitles := by
  have GT : FnOk P w K mg base CX0 1 fT fdT ["_law_purse_here", "_law_wide"] spTake := ok_take FT Y
  refine F.ok scTi (fun vs H Q E h => ?_) (fun cdv A outer s H vs Q E hr h => ?_)
  · obtain ⟨p, m, rfl, _⟩ := h
    rfl
  · obtain ⟨p, n, rfl, pu, h1, h12, q⟩ := h
    refine ⟨_, pss_cons (ps_set (i := 2) scTi.nd rfl (Or.inr rfl) (pe_lst (pa_cons pe_str (pa_cons pe_str (pa_cons pe_str (pa_cons pe_str (pa_cons pe_str (pa_cons pe_str (pa_cons pe_str (pa_cons pe_str (pa_cons pe_str (pa_cons pe_str (pa_cons pe_str (pa_cons pe_str pa_nil))))))))))))))
      (pss_cons (ps_asg (pe_tup (pa_cons (pe_call GT hr (by rfl) gT FT.kp bT .nil pass0 (pa_cons (pv 0) (pa_cons pe_int pa_nil)))
          (pa_cons (pe_ix ix_list (pe_lst (pa_cons pe_int (pa_cons pe_int (pa_cons pe_int (pa_cons pe_int pa_nil))))) (pe_call GT hr (by rfl) gT FT.kp bT .nil pass0 (pa_cons (pv 0) (pa_cons pe_int pa_nil))) (fun _ _ => rfl)) pa_nil)))
        (pg_tup (by rfl) (pgs_cons (pg_name (i := 3) scTi.nd rfl (Or.inr rfl)) (pgs_cons (pg_name (i := 4) scTi.nd rfl (Or.inr rfl)) pgs_nil))))
      (pss_cons (ps_if (pt_cmpR op_eq (pe_call GT hr (by rfl) gT FT.kp bT .nil pass0 (pa_cons (pv 0) (pa_cons pe_int pa_nil))) pe_int (nomark _))
        (pss_one (ps_ret (pe_callB cr_sortedS (by rfl) Y.sorted (by decide +kernel) (pa_cons
          (pe_lc (own := [("_law_k", 5)]) (g := gName 5) (tt := tYes) (te := tOp (rIxL K) (tVar 2) _) rfl scTi.nd (pi_range1 (by rfl) T.rng (pa_cons (pv 1) pa_nil))
            (blkOk_by (N := NT) (sc := defScope sTitles) (by decide +kernel)) (fun _ _ _ _ _ => pg_name (i := 5) scTi.nd rfl (Or.inl rfl)) (fun _ _ _ _ _ => pts_nil)
            (fun _ _ _ _ _ => pe_ix ix_list (pv 2) (pe_op op_mod (pe_op op_add (pv 3) (pe_op op_mul (pv 4) (pv 5))) pe_int) (fun _ _ => rfl))) pa_nil)))) pss_nil)
      (pss_cons (ps_set (i := 6) scTi.nd rfl (Or.inr rfl) pe_str)
      (pss_cons (ps_set (i := 7) scTi.nd rfl (Or.inl rfl) (pe_join pe_str (pe_lc (own := [("_law_k", 5)]) (g := gName 5) (tt := tYes) rfl scTi.nd (pi_range1 (by rfl) T.rng (pa_cons (pe_call GT hr (by rfl) gT FT.kp bT .nil pass0 (pa_cons (pv 0) (pa_cons pe_int pa_nil))) pa_nil))
          (blkOk_by (N := NT) (sc := defScope sTitles) (by decide +kernel)) (fun _ _ _ _ _ => pg_name (i := 5) scTi.nd rfl (Or.inl rfl)) (fun _ _ _ _ _ => pts_nil)
          (fun _ _ _ _ _ => pe_ix ix_str (pv 6) (pe_call GT hr (by rfl) gT FT.kp bT .nil pass0 (pa_cons (pv 0) (pa_cons pe_int pa_nil))) (fun _ _ => rfl)))))
      (pss_cons (ps_par (i := 8) (j := 9) (by rfl) scTi.nd rfl rfl (by decide) rfl rfl (pa_cons (pe_call GT hr (by rfl) gT FT.kp bT .nil pass0 (pa_cons (pv 0) (pa_cons (pe_op op_add (pe_callB call_len_str (by rfl) T.len PySem.boot_len (pa_cons (pv 7) pa_nil)) pe_int) pa_nil)))
          (pa_cons (pe_call GT hr (by rfl) gT FT.kp bT .nil pass0 (pa_cons (pv 0) (pa_cons pe_int pa_nil))) pa_nil)) (by rfl))
      (pss_cons (ps_set (i := 10) scTi.nd rfl (Or.inl rfl) (pe_lst pa_nil))
      (pss_cons (ps_for PassesOwn.never rfl (pi_range1 (by rfl) T.rng (pa_cons (pv 1) pa_nil)) (pg_name (i := 5) scTi.nd rfl (Or.inl rfl))
        (pss_cons (ps_set (i := 11) scTi.nd rfl (Or.inl rfl) (pe_ix ix_str (pv 6) (pe_op op_mod (pe_op op_add (pv 9) (pe_op op_mul (pv 4) (pv 5))) pe_int) (fun _ _ => rfl)))
        (pss_one (ps_expr (pe_bm PySem.F.plainAttrs_list PySem.F.slot_list_append PySem.F.type_list_append mt_append (pv 10) (pa_cons
          (pe_op op_add_str (pe_op op_add_str (pe_slice sl_str (pv 7) po_none (po_some (pv 8))) (pv 11)) (pe_slice sl_str (pv 7) (po_some (pv 8)) po_none)) pa_nil))))))
      (pss_one (ps_ret (pe_callB cr_sortedS (by rfl) Y.sorted (by decide +kernel) (pa_cons (pv 10) pa_nil))))))))))), ?_⟩
    refine ⟨(by show 12 ≤ sizeLine; decide), fun p3 n3 => ?_⟩
    have S3 := same_upd (o := .lst (strV W12)) n3
    have pu3 := pu.keep S3
    have n0p3 : H p3 = none := n3
    have np3 : p ≠ p3 := by obtain ⟨_, _, _, e, _⟩ := pu; exact ne_of_none e n0p3
    refine ⟨.ref p, rfl, p, 12, rfl, pu3, by decide, by decide, fun a H4 a0 a1 pu4 kp4 => ?_⟩
    have w4 := kp4 p3 _ np3.symm upd_same
    have k4 : ∀ b o, b ≠ p → H b = some o → H4 b = some o := fun b o nb e => kp4 b o nb (S3 b o e)
    refine ⟨(by show 4 ≤ sizeLine; decide), fun p5 n5 => ?_⟩
    have s5 := same_upd (o := .lst [.int 1, .int 5, .int 7, .int 11]) n5
    have np5 : p ≠ p5 := by obtain ⟨_, _, _, e, _⟩ := pu4; exact ne_of_none e n5
    refine ⟨.ref p, rfl, p, 4, rfl, pu4.keep s5, by decide, by decide, fun r H6 r0 r1 pu6 kp6 => ?_⟩
    have l6 := kp6 p5 _ np5.symm upd_same
    have w6 := kp6 p3 _ np3.symm (s5 _ _ w4)
    have k6 : ∀ b o, b ≠ p → H b = some o → H6 b = some o := fun b o nb e => kp6 b o nb (s5 b o (k4 b o nb e))
    obtain ⟨st, hst, hx⟩ : ∃ st, isStep st ∧ atI [V.int 1, .int 5, .int 7, .int 11] r = some (.int st) := by
      have hr4 : r = 0 ∨ r = 1 ∨ r = 2 ∨ r = 3 := by omega
      rcases hr4 with e | e | e | e <;> subst e
      · exact ⟨1, .inl rfl, rfl⟩
      · exact ⟨5, .inr (.inl rfl), rfl⟩
      · exact ⟨7, .inr (.inr (.inl rfl)), rfl⟩
      · exact ⟨11, .inr (.inr (.inr rfl)), rfl⟩
    refine ⟨p5, _, r, .int st, rfl, rfl, SqL.of l6, hx, (by show 2 ≤ sizeLine; decide), fun p7 n7 => ?_⟩
    have s7 := same_upd (o := .tup [.int a, .int st]) n7
    refine ⟨p7, [.int a, .int st], rfl, .inl (.inl upd_same), rfl, .int a, [.int st], rfl, .int st, [], rfl, rfl, ?_⟩
    have w7 := s7 _ _ w6
    have pu7 := pu6.keep s7
    have k7 : ∀ b o, b ≠ p → H b = some o → (upd H6 p7 (.tup [.int a, .int st])) b = some o := fun b o nb e => s7 b o (k6 b o nb e)
    generalize upd H6 p7 (HO.tup [V.int a, V.int st]) = H7 at w7 pu7 k7 ⊢
    have hst0 : 0 ≤ st ∧ st ≤ 11 := by rcases hst with e | e | e | e <;> subst e <;> decide
    refine ⟨.ref p, rfl, p, 4, rfl, pu7, by decide, by decide, fun r8 H8 _ _ pu8 kp8 => ⟨rfl, _, rfl, ?_⟩⟩
    have w8 := kp8 p3 _ np3.symm w7
    have k8 : ∀ b o, b ≠ p → H b = some o → H8 b = some o := fun b o nb e => kp8 b o nb (k7 b o nb e)
    have en : ((n : Int)).toNat = n := by omega
    refine ite2 (fun _ => ?_) (fun _ => ?_)
    · refine ⟨.int n, rfl, n, rfl, by omega, by omega, fun D hD => ?_⟩
      have npD : p ≠ D := by obtain ⟨_, _, _, e, _⟩ := pu8; exact ne_of_none e hD
      refine lc_range (lo := 0) (n := ((n : Int)).toNat) (fun i Hi => Hi D = some (.lst (strV ((List.range i).map (wordAt a st)))) ∧ Same H8 Hi) ⟨upd_same, same_upd hD⟩ ?_ ?_
      · rintro i Hi lt ⟨hd, sm⟩
        rw [en] at lt
        refine ⟨rfl, ?_⟩
        refine ⟨.ref p3, rfl, .int a, rfl, .int st, rfl, .int (0 + i), rfl, st, 0 + i, rfl, rfl, .inl ⟨by omega, by omega⟩, a, _, rfl, rfl, _, 12, rfl, rfl, (by show (0 : Int) < 12; decide), ?_⟩
        have hg : (strV W12)[ixW a st i]? = some (.str (wordAt a st i)) := by
          unfold strV wordAt
          rw [List.getElem?_map, List.getD_eq_getElem?_getD, List.getElem?_eq_getElem (show ixW a st i < W12.length by rw [w12_len]; exact ixW_lt a st i)]
          rfl
        have ex : (a + st * (0 + (i : Int))) % 12 = ((ixW a st i : Nat) : Int) := by
          unfold ixW; rw [Int.zero_add]; omega
        refine ⟨p3, _, _, .str (wordAt a st i), rfl, rfl, SqL.of (sm _ _ w8), (by rw [ex]; exact atI_nat hg), _, hd, ?_, ?_, ?_⟩
        · unfold strV; rw [List.length_map, List.length_map, List.length_range]; exact small_lt (by omega)
        · rw [upd_same, range_map_get (n := 0)]; unfold strV; rw [List.map_append]; rfl
        · intro b o e
          rw [upd_ne (ne_of_none e hD)]
          exact sm b o e
      · rintro Hi ⟨hd, sm⟩
        rw [en] at hd
        refine ⟨D, (List.range n).map (wordAt a st), rfl, SqL.of hd, by rw [List.length_map, List.length_range]; omega, fun ys pp perm srt npp => ?_⟩
        have kz : ∀ b o, b ≠ p → H b = some o → Hi b = some o := fun b o nb e => sm b o (k8 b o nb e)
        have puz := pu8.keep sm
        refine q ys pp _ (tit_ok h12 (fun i j hi hj e => wordAt_inj hst hi hj e) (wordAt_nm a st) perm srt) (puz.keep (same_upd npp)) (free_of puz kz npp) (fun b o nb e => same_upd npp b o (kz b o nb e)) upd_same
    · refine ⟨⟨_, rfl⟩, ?_⟩
      refine ⟨.ref p, rfl, p, 6, rfl, pu8, by decide, by decide, fun r9 H9 h90 h91 pu9 kp9 => ⟨r9, rfl, by omega, by omega, fun D hD => ?_⟩⟩
      have k9 : ∀ b o, b ≠ p → H b = some o → H9 b = some o := fun b o nb e => kp9 b o nb (k8 b o nb e)
      have npD : p ≠ D := by obtain ⟨_, _, _, e, _⟩ := pu9; exact ne_of_none e hD
      have nD0 : H D = none := free_of pu9 k9 hD
      refine lc_range (lo := 0) (n := r9.toNat) (fun i H1 => ∃ ys : List Str, ys.length = i ∧ (∀ y ∈ ys, y.length = 1 ∧ ∀ c ∈ y.cps.toList, c ∈ letS.cps.toList) ∧ H1 D = some (.lst (ys.map V.str)) ∧ Purse H1 p ∧ ∀ b o, b ≠ p → H b = some o → H1 b = some o)
        ⟨[], rfl, (fun y h => nomatch h), upd_same, pu9.keep (same_upd hD), fun b o nb e => same_upd hD b o (k9 b o nb e)⟩ ?_ ?_
      · rintro i H1 lt ⟨ys, ly, one, hd, pu1, kp1⟩
        refine ⟨rfl, ?_⟩
        refine ⟨.str letS, rfl, .ref p, rfl, p, 26, rfl, pu1, by decide, by decide, fun r2 H2 h20 h21 pu2 kp2 => ?_⟩
        obtain ⟨c, hc⟩ : ∃ c, letS.cps.toList[r2.toNat]? = some c := ⟨_, List.getElem?_eq_getElem (by rw [let26]; omega)⟩
        have er : r2 = ((r2.toNat : Nat) : Int) := by omega
        refine ⟨letS, r2, c, rfl, rfl, (by decide +kernel), (by rw [er]; exact atI_nat hc), ?_⟩
        have hd2 := kp2 D _ npD.symm hd
        refine ⟨_, hd2, ?_, ys ++ [⟨#[c]⟩], by rw [List.length_append, ly]; rfl, ?_, ?_, ?_, ?_⟩
        · rw [List.length_map, ly]
          exact small_lt (by omega)
        · intro y hy
          rcases List.mem_append.mp hy with z | z
          · exact one y z
          · rw [List.mem_singleton.mp z]
            refine ⟨rfl, fun c' hc' => ?_⟩
            have : c' = c := by simpa using hc'
            rw [this]; exact List.mem_of_getElem? hc
        · rw [upd_same, List.map_append]; rfl
        · obtain ⟨x1, x2, x3, e, rr⟩ := pu2
          exact ⟨x1, x2, x3, by rw [upd_ne npD]; exact e, rr⟩
        · intro b o nb e
          have nbD : b ≠ D := ne_of_none e nD0
          rw [upd_ne nbD]
          exact kp2 b o nb (kp1 b o nb e)
      · rintro H1 ⟨ys, ly, one, hd, pu1, k1⟩
        have sm : (ys.map (·.length)).sum = ys.length := sum_ones fun y hy => (one y hy).1
        refine ⟨"", D, ys, rfl, rfl, .inl (.inl (.inl hd)), ?_, ?_⟩
        · rw [sm, show (("" : String) : Str).length = 0 from by decide +kernel]; omega
        · have hlen : (Txt.join "" ys).length ≤ 5 := by rw [join_len, sm, ly]; omega
          have hcs : ∀ c ∈ (Txt.join "" ys).cps.toList, c ∈ letS.cps.toList := join_mem fun y hy => (one y hy).2
          generalize Txt.join (Str.ofString "") ys = z at hlen hcs ⊢
          have hz : z.length ≤ sizeLine := small_le (by omega)
          refine ⟨.ref p, rfl, .str z, rfl, z, rfl, hz, _, 1, rfl, rfl, p, (z.length : Int) + 1, rfl, pu1, by omega, by omega, fun put H2 put0 _ pu2 kp2 => ?_⟩
          have k2 : ∀ b o, b ≠ p → H b = some o → H2 b = some o := fun b o nb e => kp2 b o nb (k1 b o nb e)
          refine ⟨.ref p, rfl, p, 26, rfl, pu2, by decide, by decide, fun bg H4 bg0 bg1 pu4 kp3 => ⟨_, _, rfl, ?_⟩⟩
          have k4 : ∀ b o, b ≠ p → H b = some o → H4 b = some o := fun b o nb e => kp3 b o nb (k2 b o nb e)
          refine ⟨Nat.zero_le _, fun D hD => ?_⟩
          refine ⟨.int n, rfl, n, rfl, by omega, by omega, ?_⟩
          have nD4 : H4 D = none := hD
          refine for_range (lo := 0) (n := ((n : Int)).toNat) (fun i σ Hi => ∃ y5 y11, σ = [some (.ref p), some (.int n), some (.ref p3), some (.int a), some (.int st), y5, some (.str letS), some (.str z), some (.int put), some (.int bg), some (.ref D), y11] ∧
            Hi D = some (.lst (strV ((List.range i).map (titAt z put bg st)))) ∧ Same H4 Hi) ⟨_, _, rfl, upd_same, same_upd hD⟩ ?_ ?_
          · rintro i σ Hi lt ⟨y5, y11, rfl, hd, sm⟩
            rw [en] at lt
            have cl : ∀ lo hi, (cutS z lo hi).length ≤ 5 := fun lo hi => by
              have e : (cutS z lo hi).length = (cutS z lo hi).cps.toList.length := by simp [Str.length]
              have e2 : z.cps.toList.length = z.length := by simp [Str.length]
              rw [e, cut_toList, List.length_take, List.length_drop]
              omega
            have l1 : ∀ c : Nat, (⟨#[c]⟩ : Str).length = 1 := fun _ => rfl
            have ex : (bg + st * (0 + (i : Int))) % 26 = ((ixL bg st i : Nat) : Int) := by
              unfold ixL; rw [Int.zero_add]; omega
            have hg : letS.cps.toList[ixL bg st i]? = some (sgnAt bg st i) := by
              unfold sgnAt
              rw [List.getD_eq_getElem?_getD, List.getElem?_eq_getElem (show ixL bg st i < letS.cps.toList.length by rw [let26]; exact ixL_lt bg st i)]
              rfl
            refine ⟨.str letS, rfl, .int bg, rfl, .int st, rfl, .int (0 + i), rfl, st, 0 + i, rfl, rfl, .inl ⟨by omega, by omega⟩, bg, _, rfl, rfl, _, 26, rfl, rfl, (by show (0 : Int) < 26; decide), ?_⟩
            refine ⟨letS, _, sgnAt bg st i, rfl, rfl, (by decide +kernel), (by rw [ex]; exact atI_nat hg), ?_⟩
            refine ⟨.ref D, rfl, .inl ⟨rfl, _, SqL.of hd⟩, .str z, rfl, .int put, rfl, put, rfl, z, rfl, hz, .str ⟨#[sgnAt bg st i]⟩, rfl, _, _, rfl, rfl, small_le (by rw [l1]; have := cl none (some put); omega), ?_⟩
            refine ⟨.str z, rfl, .int put, rfl, put, rfl, z, rfl, hz, _, _, rfl, rfl, small_le (by rw [strLen_append, l1]; have := cl none (some put); have := cl (some put) none; omega), D, _, _, rfl, rfl, hd, ?_, ?_⟩
            · unfold strV; rw [List.length_map, List.length_map, List.length_range]; exact small_lt (by omega)
            · refine ⟨_, _, rfl, ?_, fun b o e => ?_⟩
              · rw [upd_same, range_map_get (n := 0)]; unfold strV; rw [List.map_append]; rfl
              · rw [upd_ne (ne_of_none e nD4)]
                exact sm b o e
          · rintro σ Hi ⟨y5, y11, rfl, hd, sm⟩
            rw [en] at hd
            refine ⟨.ref D, rfl, D, (List.range n).map (titAt z put bg st), rfl, SqL.of hd, by rw [List.length_map, List.length_range]; omega, fun ys' pp perm srt npp => ?_⟩
            have kz : ∀ b o, b ≠ p → H b = some o → Hi b = some o := fun b o nb e => sm b o (k4 b o nb e)
            have puz := pu4.keep sm
            exact q ys' pp _ (tit_ok h12 (fun i j hi hj e => titAt_inj hst hi hj e) (fun k => titAt_nm hlen put0 hcs) perm srt) (puz.keep (same_upd npp)) (free_of puz kz npp) (fun b o nb e => same_upd npp b o (kz b o nb e)) upd_same
end
end Hee


set_option Elab.async false
set_option linter.all false
set_option maxRecDepth 100000
namespace Hee
open PySem PySem.Spec PyProof.Rows L2
/-! ### folk drawn one by one: each follows one drawn ahead, or leads -/
def Chain (ld : Folk) : Prop := ∀ (i : Nat) (x y : Str), ld[i]? = some (x, some y) → ∃ j, j < i ∧ (ld.map Prod.fst)[j]? = some y
theorem chain_nil : Chain [] := fun i x y h => by simp at h
theorem chain_none {ld : Folk} (c : Chain ld) (x : Str) : Chain (ld ++ [(x, none)]) := fun i a y h => by
  by_cases hi : i < ld.length
  · rw [List.getElem?_append_left hi] at h
    obtain ⟨j, hj, e⟩ := c i a y h
    exact ⟨j, hj, by rw [List.map_append, List.getElem?_append_left (by rw [List.length_map]; omega)]; exact e⟩
  · rw [List.getElem?_append_right (by omega)] at h
    cases hk : i - ld.length with
    | zero => rw [hk] at h; cases h
    | succ k => rw [hk] at h; simp at h
theorem chain_some {ld : Folk} (c : Chain ld) (x : Str) {z : Str} {j0 : Nat} (hz : (ld.map Prod.fst)[j0]? = some z) : Chain (ld ++ [(x, some z)]) := fun i a y h => by
  have hj0 : j0 < ld.length := by have := (List.getElem?_eq_some_iff.mp hz).1; rwa [List.length_map] at this
  by_cases hi : i < ld.length
  · rw [List.getElem?_append_left hi] at h
    obtain ⟨j, hj, e⟩ := c i a y h
    exact ⟨j, hj, by rw [List.map_append, List.getElem?_append_left (by rw [List.length_map]; omega)]; exact e⟩
  · rw [List.getElem?_append_right (by omega)] at h
    cases hk : i - ld.length with
    | zero =>
      rw [hk] at h
      have e : y = z := by
        have : (x, some z) = (a, some y) := Option.some.inj h
        exact (Option.some.inj (Prod.mk.inj this).2).symm
      exact ⟨j0, by omega, by rw [List.map_append, List.getElem?_append_left (by rw [List.length_map]; omega), e]; exact hz⟩
    | succ k => rw [hk] at h; simp at h
theorem kvs_app (ld : Folk) (p : Str × Option Str) : kvsOf (ld ++ [p]) = kvsOf ld ++ [(Sum.inr p.1, optV p.2)] := by
  unfold kvsOf; rw [List.map_append]; rfl
theorem put_new {ld : Folk} {x : Str} (hx : x ∉ ld.map Prod.fst) (w : Option Str) : putK (kvsOf ld) (Sum.inr x : Key) (optV w) = kvsOf (ld ++ [(x, w)]) := by
  rw [putK_new _ (by rw [val_kvs, look_none hx]; rfl), kvs_app]
theorem put_old {ld : Folk} {x : Str} (hx : x ∉ ld.map Prod.fst) (w v : Option Str) : putK (kvsOf (ld ++ [(x, w)])) (Sum.inr x : Key) (optV v) = kvsOf (ld ++ [(x, v)]) := by
  have hany : ((kvsOf (ld ++ [(x, w)])).any fun kv => decide (kv.1 = (Sum.inr x : Key))) = true := by
    rw [kvs_app, List.any_append]; simp
  unfold putK
  rw [if_pos hany, kvs_app, kvs_app, List.map_append]
  congr 1
  · have : ∀ kv ∈ kvsOf ld, (if kv.1 = (Sum.inr x : Key) then (kv.1, optV v) else kv) = kv := fun kv hkv => by
      unfold kvsOf at hkv
      obtain ⟨p, hp, rfl⟩ := List.mem_map.mp hkv
      have : ¬ (Sum.inr p.1 : Key) = Sum.inr x := fun e => hx (List.mem_map.mpr ⟨p, hp, Sum.inr.inj e⟩)
      rw [if_neg this]
    rw [List.map_congr_left this, List.map_id']
  · simp
/-- the folk in the titles' turn -/
def folkOf (ts : List Str) (ld : Folk) : Folk := ts.map fun t => (t, (lookF ld t).getD none)
theorem folk_names (ts : List Str) (ld : Folk) : (folkOf ts ld).map Prod.fst = ts := by
  unfold folkOf; rw [List.map_map]; exact List.map_id' ts
theorem folk_rise : ∀ {ts : List Str} {a : Str} (ld : Folk), riseT a ts → rises a (folkOf ts ld)
  | [], _, _, _ => trivial
  | t :: r, a, ld, h => ⟨h.1, folk_rise ld h.2⟩
theorem folk_look {ts : List Str} {ld : Folk} (nd : ts.Nodup) {t : Str} (ht : t ∈ ts) : lookF (folkOf ts ld) t = some ((lookF ld t).getD none) := by
  have h := look_some (F := folkOf ts ld) (p := (t, (lookF ld t).getD none)) (by rw [folk_names]; exact nd) (List.mem_map.mpr ⟨t, ht, rfl⟩)
  exact h
theorem folk_look_in {ts : List Str} {ld : Folk} {x : Str} {w : Option Str} (h : lookF (folkOf ts ld) x = some w) : x ∈ ts := by
  have := look_mem h
  unfold folkOf at this
  obtain ⟨t, ht, e⟩ := List.mem_map.mp this
  rw [← (Prod.mk.inj e).1]; exact ht
theorem folk_ok {ts : List Str} {ld : Folk} {n : Nat} (T : TitOk ts n) (h1 : 1 ≤ n) (h12 : n ≤ 12) (hp : (ld.map Prod.fst).Perm ts) (c : Chain ld) : FolkOk (folkOf ts ld) := by
  have ndT : ts.Nodup := by
    have := rises_nodup (folk_rise ld T.rise)
    rwa [folk_names] at this
  have nd : (ld.map Prod.fst).Nodup := hp.nodup_iff.mpr ndT
  have ll : (folkOf ts ld).length = n := by unfold folkOf; rw [List.length_map]; exact T.len
  have ldl : ld.length = n := by have := hp.length_eq; rw [List.length_map] at this; rw [this]; exact T.len
  -- who is followed
  have fol : ∀ {x y : Str}, lookF (folkOf ts ld) x = some (some y) → y ∈ ts ∧ ∃ i j : Nat, ld[i]? = some (x, some y) ∧ j < i ∧ (ld.map Prod.fst)[j]? = some y := fun {x y} h => by
    have hx := folk_look_in h
    rw [folk_look ndT hx] at h
    cases e : lookF ld x with
    | none => rw [e] at h; cases h
    | some w =>
      rw [e] at h
      have : w = some y := Option.some.inj h
      subst this
      obtain ⟨i, hi, ei⟩ := List.getElem_of_mem (look_mem e)
      have hi' : ld[i]? = some (x, some y) := by rw [List.getElem?_eq_getElem hi, ei]
      obtain ⟨j, hj, ej⟩ := c i x y hi'
      exact ⟨hp.mem_iff.mp (List.mem_of_getElem? ej), i, j, hi', hj, ej⟩
  have come : ∀ (i m : Nat) (x : Str), (ld.map Prod.fst)[i]? = some x → i < m → comesN (folkOf ts ld) m x = true := by
    intro i
    induction i using Nat.strongRecOn with
    | _ i ih =>
      intro m x hx him
      obtain ⟨k, rfl⟩ : ∃ k, m = k + 1 := ⟨m - 1, by omega⟩
      have hxt : x ∈ ts := hp.mem_iff.mp (List.mem_of_getElem? hx)
      rw [comesN_succ, folk_look ndT hxt]
      cases e : (lookF ld x).getD none with
      | none => rfl
      | some y =>
        obtain ⟨_, i2, j, h2, hj, ej⟩ := fol (x := x) (y := y) (by rw [folk_look ndT hxt, e])
        have hi2 : i2 = i := by
          have h3 : (ld.map Prod.fst)[i2]? = some x := by rw [List.getElem?_map, h2]; rfl
          have b1 := (List.getElem?_eq_some_iff.mp h3)
          have b2 := (List.getElem?_eq_some_iff.mp hx)
          obtain ⟨l1, e1⟩ := b1
          obtain ⟨l2, e2⟩ := b2
          rcases Nat.lt_trichotomy i2 i with q | q | q
          · exact absurd (e1.trans e2.symm) (List.pairwise_iff_getElem.mp nd i2 i l1 l2 q)
          · exact q
          · exact absurd (e2.trans e1.symm) (List.pairwise_iff_getElem.mp nd i i2 l2 l1 q)
        show comesN (folkOf ts ld) k y = true
        exact ih j (by omega) k y ej (by omega)
  refine ⟨fun x y h => ?_, fun p hpm => ?_, by omega, by omega, fun p hpm => ?_, folk_rise ld T.rise⟩
  · obtain ⟨hy, _⟩ := fol h
    exact ⟨_, folk_look ndT hy⟩
  · unfold folkOf at hpm
    obtain ⟨t, ht, rfl⟩ := List.mem_map.mp hpm
    obtain ⟨i, hi, ei⟩ := List.getElem_of_mem (hp.mem_iff.mpr ht)
    have hi' : i < ld.length := by rwa [List.length_map] at hi
    rw [ll]
    exact come i n t (by rw [List.getElem?_eq_getElem hi, ei]) (by omega)
  · have hp2 := hpm
    unfold folkOf at hp2
    obtain ⟨t, ht, rfl⟩ := List.mem_map.mp hp2
    refine ⟨T.nm t ht, fun y hy => ?_⟩
    obtain ⟨hyt, _⟩ := fol (x := t) (y := y) (by rw [folk_look ndT ht]; exact congrArg some hy)
    exact T.nm y hyt
end Hee


set_option Elab.async false
set_option linter.all false
set_option maxRecDepth 100000
namespace Hee
open PySem PySem.Spec PyProof.Rows L2
/-! ### folk -/
structure FInv (H0 H : Hp) (p q0 dq lq fq : Addr) (ts dr lf : List Str) (ld : Folk) (k : Nat) : Prop where
  ht : H q0 = some (.lst (strV ts))
  hd : H dq = some (.lst (strV dr))
  hl : H lq = some (.dK (kvsOf ld))
  hf : H fq = some (.lst (strV lf))
  len : dr.length = k
  nm : ld.map Prod.fst = dr
  pm : (dr ++ lf).Perm ts
  ch : Chain ld
  pu : Purse H p
  kp : ∀ b o, b ≠ p → H0 b = some o → H b = some o
/-- five places apart -/
structure Apart (H0 : Hp) (p q0 dq lq fq : Addr) : Prop where
  pq : p ≠ q0
  pd : p ≠ dq
  pl : p ≠ lq
  pf : p ≠ fq
  qd : q0 ≠ dq
  ql : q0 ≠ lq
  qf : q0 ≠ fq
  dl : dq ≠ lq
  df : dq ≠ fq
  lf : lq ≠ fq
  nd : H0 dq = none
  nl : H0 lq = none
  nf : H0 fq = none
theorem FInv.take {H0 H H' : Hp} {p q0 dq lq fq : Addr} {ts dr lf : List Str} {ld : Folk} {k : Nat} (A : Apart H0 p q0 dq lq fq) (I : FInv H0 H p q0 dq lq fq ts dr lf ld k)
    (pu : Purse H' p) (kp : ∀ b o, b ≠ p → H b = some o → H' b = some o) : FInv H0 H' p q0 dq lq fq ts dr lf ld k :=
  ⟨kp _ _ A.pq.symm I.ht, kp _ _ A.pd.symm I.hd, kp _ _ A.pl.symm I.hl, kp _ _ A.pf.symm I.hf, I.len, I.nm, I.pm, I.ch, pu, fun b o nb e => kp b o nb (I.kp b o nb e)⟩
theorem FInv.same {H0 H H' : Hp} {p q0 dq lq fq : Addr} {ts dr lf : List Str} {ld : Folk} {k : Nat} (I : FInv H0 H p q0 dq lq fq ts dr lf ld k) (e : Same H H') : FInv H0 H' p q0 dq lq fq ts dr lf ld k :=
  ⟨e _ _ I.ht, e _ _ I.hd, e _ _ I.hl, e _ _ I.hf, I.len, I.nm, I.pm, I.ch, I.pu.keep e, fun b o nb z => e b o (I.kp b o nb z)⟩
theorem erase_perm : ∀ (l : List Str) (i : Nat) (y : Str), l[i]? = some y → (y :: l.eraseIdx i).Perm l
  | [], i, y, h => by simp at h
  | a :: r, 0, y, h => by
    have e : a = y := Option.some.inj h
    rw [e]; exact List.Perm.refl _
  | a :: r, i + 1, y, h => by
    have ih := erase_perm r i y (by simpa using h)
    show (y :: a :: r.eraseIdx i).Perm (a :: r)
    exact (List.Perm.swap a y _).trans (List.Perm.cons a ih)
theorem perm_pop {dr lf ts : List Str} {i : Nat} {y : Str} (h : (dr ++ lf).Perm ts) (hy : lf[i]? = some y) : ((dr ++ [y]) ++ lf.eraseIdx i).Perm ts := by
  refine List.Perm.trans ?_ h
  rw [List.append_assoc]
  exact List.Perm.append_left dr (erase_perm lf i y hy)
theorem strV_get {l : List Str} {i : Nat} {y : Str} (h : l[i]? = some y) : (strV l)[i]? = some (.str y) := by
  unfold strV; rw [List.getElem?_map, h]; rfl
theorem strV_erase : ∀ (l : List Str) (i : Nat), (strV l).eraseIdx i = strV (l.eraseIdx i)
  | [], _ => rfl
  | a :: r, 0 => rfl
  | a :: r, i + 1 => by
    show V.str a :: (strV r).eraseIdx i = V.str a :: strV (r.eraseIdx i)
    rw [strV_erase r i]
theorem strV_len (l : List Str) : (strV l).length = l.length := by unfold strV; rw [List.length_map]
theorem strV_app (l : List Str) (y : Str) : strV l ++ [V.str y] = strV (l ++ [y]) := by unfold strV; rw [List.map_append]; rfl
theorem FInv.step {H0 H : Hp} {p q0 dq lq fq : Addr} {ts dr lf : List Str} {ld : Folk} {k i : Nat} {y : Str} (A : Apart H0 p q0 dq lq fq) (I : FInv H0 H p q0 dq lq fq ts dr lf ld k) (nd : ts.Nodup)
    (hy : lf[i]? = some y) :
    FInv H0 (upd (upd (upd H fq (.lst ((strV lf).eraseIdx i))) dq (.lst (strV dr ++ [.str y]))) lq (.dK (putK (kvsOf ld) (Sum.inr y : Key) V.non))) p q0 dq lq fq ts (dr ++ [y]) (lf.eraseIdx i) (ld ++ [(y, none)]) (k + 1) ∧ y ∉ ld.map Prod.fst := by
  have ny : y ∉ dr := fun h => by
    have h2 := (I.pm.nodup_iff.mpr nd)
    have := (List.nodup_append.mp h2).2.2 y h y (List.mem_of_getElem? hy)
    exact this rfl
  have ny2 : y ∉ ld.map Prod.fst := by rw [I.nm]; exact ny
  refine ⟨⟨?_, ?_, ?_, ?_, ?_, ?_, perm_pop I.pm hy, chain_none I.ch y, ?_, fun b o nb e => ?_⟩, ny2⟩
  · rw [upd_ne A.ql, upd_ne A.qd, upd_ne A.qf]; exact I.ht
  · rw [upd_ne A.dl, upd_same, strV_app]
  · rw [upd_same, show V.non = optV none from rfl, put_new ny2 none]
  · rw [upd_ne A.lf.symm, upd_ne A.df.symm, upd_same, strV_erase]
  · rw [List.length_append, I.len]; rfl
  · rw [List.map_append, I.nm]; rfl
  · obtain ⟨a, b, c, e, r⟩ := I.pu
    exact ⟨a, b, c, by rw [upd_ne A.pl, upd_ne A.pd, upd_ne A.pf]; exact e, r⟩
  · rw [upd_ne (ne_of_none e A.nl), upd_ne (ne_of_none e A.nd), upd_ne (ne_of_none e A.nf)]
    exact I.kp b o nb e
theorem FInv.put {H0 H : Hp} {p q0 dq lq fq : Addr} {ts dr lf : List Str} {ld : Folk} {k j : Nat} {y z : Str} (A : Apart H0 p q0 dq lq fq) (I : FInv H0 H p q0 dq lq fq ts (dr ++ [y]) lf (ld ++ [(y, none)]) (k + 1))
    (ny : y ∉ ld.map Prod.fst) (c : Chain ld) (nm : ld.map Prod.fst = dr) (hz : dr[j]? = some z) :
    FInv H0 (upd H lq (.dK (putK (kvsOf (ld ++ [(y, none)])) (Sum.inr y : Key) (.str z)))) p q0 dq lq fq ts (dr ++ [y]) lf (ld ++ [(y, some z)]) (k + 1) := by
  refine ⟨?_, ?_, ?_, ?_, I.len, ?_, I.pm, chain_some c y (by rw [nm]; exact hz), ?_, fun b o nb e => ?_⟩
  · rw [upd_ne A.ql]; exact I.ht
  · rw [upd_ne A.dl]; exact I.hd
  · rw [upd_same, show V.str z = optV (some z) from rfl, put_old ny]
  · rw [upd_ne A.lf.symm]; exact I.hf
  · rw [List.map_append, nm]; rfl
  · obtain ⟨a, b, c, e, r⟩ := I.pu
    exact ⟨a, b, c, by rw [upd_ne A.pl]; exact e, r⟩
  · rw [upd_ne (ne_of_none e A.nl)]
    exact I.kp b o nb e
section
variable {P : Program} {w : World} {K : PySem.W.Frag}
  {mg : Str → Option Value} {base : Heap}
def spFolk (K : PySem.W.Frag) : Sp := fun vs H Q _ => ∃ (p : Addr) (n : Nat), vs = [.ref p, .int n] ∧ Purse H p ∧ 1 ≤ n ∧ n ≤ 12 ∧
  ∀ (F : Folk) (a : Addr) (o : Obj) (ts : List Addr) H', FolkOk F → F.length = n → PersAt K H' a ts F → H' a = some (.frz o (.tup (ts.map V.ref))) → o.dict = none → Purse H' p →
    (∀ b o, b ≠ p → H b = some o → H' b = some o) → Q (.ref a) H'
theorem folk_put {H0 H3 : Hp} {p q0 dq lq fq : Addr} {ts dr lf : List Str} {ld : Folk} {k n : Nat} {y : Str} {md : Int} {y8 y9 : Option V} {D : Ends} (AP : Apart H0 p q0 dq lq fq)
    (I : FInv H0 H3 p q0 dq lq fq ts (dr ++ [y]) lf (ld ++ [(y, none)]) (k + 1)) (ny : y ∉ ld.map Prod.fst) (c : Chain ld) (nm : ld.map Prod.fst = dr) (hdk : dr.length = k) (hk0 : 0 < k) (hk12 : k ≤ 12) (md0 : 0 ≤ md) (md1 : md < 4)
    (nxt : ∀ (ld' : Folk) (y8' : Option V) H', FInv H0 H' p q0 dq lq fq ts (dr ++ [y]) lf ld' (k + 1) → D.nx [some (.ref p), some (.int n), some (.ref q0), some (.int md), some (.ref dq), some (.ref lq), some (.ref fq), some (.int (0 + k)), y8', y9] H') :
    tSeq (tAsg (tLst (tCons (tOp (rI0 fun i j => V.int (i - j)) (tVar 7) (tC (V.int 1))) (tCons (tC (V.int 0)) (tCons (tCall spTake [] E0 (tCons (tVar 0) (tCons (tVar 7) tNil)))
      (tCons (tCB (fun xs H Q => ∃ i j, xs = [V.int i, V.int j] ∧ Q (V.int (if j > i then j else i)) H) (tCons (tC (V.int 0)) (tCons (tOp (rI0 fun i j => V.int (i - j)) (tOp (rI0 fun i j => V.int (i - j)) (tVar 7) (tC (V.int 1))) (tCall spTake [] E0 (tCons (tVar 0) (tCons (tC (V.int 2)) tNil)))) tNil))) tNil))))) (gName 8))
      (sDPut (tVar 5) (tOp (rIxL K) (tVar 4) (tVar 7)) (tOp (rIxL K) (tVar 4) (tOp (rIxL K) (tVar 8) (tVar 3)))) D
      [some (.ref p), some (.int n), some (.ref q0), some (.int md), some (.ref dq), some (.ref lq), some (.ref fq), some (.int (0 + k)), y8, y9] H3 := by
  refine ⟨.int (0 + k), rfl, 0 + k, 1, rfl, rfl, .ref p, rfl, .int (0 + k), rfl, p, 0 + k, rfl, I.pu, by omega, by omega, fun r4 H4 r40 r41 pu4 kp4 => ?_⟩
  have I4 := I.take AP pu4 kp4
  refine ⟨.int (0 + k), rfl, 0 + k, 1, rfl, rfl, .ref p, rfl, p, 2, rfl, I4.pu, by decide, by decide, fun r5 H5 r50 r51 pu5 kp5 => ?_⟩
  have I5 := I4.take AP pu5 kp5
  refine ⟨_, r5, rfl, rfl, 0, _, rfl, (by show 4 ≤ sizeLine; decide), fun ll nll => ?_⟩
  have s6 := same_upd (o := .lst [.int (0 + (k : Int) - 1), .int 0, .int r4, .int (if 0 + (k : Int) - 1 - r5 > 0 then 0 + (k : Int) - 1 - r5 else 0)]) nll
  have I6 := I5.same s6
  obtain ⟨j, hj, hx⟩ : ∃ j : Nat, j < k ∧ atI [V.int (0 + (k : Int) - 1), .int 0, .int r4, .int (if 0 + (k : Int) - 1 - r5 > 0 then 0 + (k : Int) - 1 - r5 else 0)] md = some (.int j) := by
    have h4 : md = 0 ∨ md = 1 ∨ md = 2 ∨ md = 3 := by omega
    rcases h4 with e | e | e | e <;> subst e
    · exact ⟨k - 1, by omega, by show some (V.int (0 + (k : Int) - 1)) = _; rw [show (0 + (k : Int) - 1) = ((k - 1 : Nat) : Int) by omega]⟩
    · exact ⟨0, by omega, rfl⟩
    · exact ⟨r4.toNat, by omega, by show some (V.int r4) = _; rw [show r4 = ((r4.toNat : Nat) : Int) by omega]; rfl⟩
    · refine ⟨(if 0 + (k : Int) - 1 - r5 > 0 then 0 + (k : Int) - 1 - r5 else 0).toNat, by split <;> omega, ?_⟩
      show some (V.int (if 0 + (k : Int) - 1 - r5 > 0 then 0 + (k : Int) - 1 - r5 else 0)) = _
      rw [Int.toNat_of_nonneg (by split <;> omega)]
  obtain ⟨z, hz⟩ : ∃ z, dr[j]? = some z := ⟨_, List.getElem?_eq_getElem (by omega)⟩
  have hzz : (strV (dr ++ [y]))[j]? = some (.str z) := strV_get (by rw [List.getElem?_append_left (by omega)]; exact hz)
  have hyy : (strV (dr ++ [y]))[k]? = some (.str y) := strV_get (by rw [List.getElem?_append_right (by omega), hdk, Nat.sub_self]; rfl)
  refine ⟨.ref dq, rfl, .ref ll, rfl, .int md, rfl, ll, _, md, .int j, rfl, rfl, SqL.of upd_same, hx, dq, _, j, .str z, rfl, rfl, SqL.of I6.hd, atI_nat hzz, .ref lq, rfl, .ref dq, rfl, .int (0 + k), rfl, dq, _, 0 + k, .str y, rfl, rfl, SqL.of I6.hd, (by rw [Int.zero_add]; exact atI_nat hyy), lq, _, rfl, DPut.k (k := Sum.inr y) I6.hl (small_lt ?_), ?_⟩
  · unfold kvsOf; rw [List.length_map, List.length_append]
    have : (ld.map Prod.fst).length = dr.length := by rw [nm]
    rw [List.length_map] at this
    show ld.length + 1 < _
    omega
  · exact nxt _ _ _ (I6.put AP ny c nm hz)
abbrev NF : List Str := ["_law_purse_here", "_law_size", "_law_titles_here", "_law_mode", "_law_drawn", "_law_led", "_law_left", "_law_k", "_law_spots", "_law_title"]
theorem scFo : FnScope NF ["_law_purse_here", "_law_size"] (defScope sFolk) :=
  ⟨rfl, rfl, rfl, by decide +kernel, rfl, by decide +kernel, by decide +kernel⟩
set_option maxHeartbeats 4000000 in
theorem ok_folk {f fT fTi : Addr} {fd fdT fdTi : FuncData} (F : Fun K "_law_folk" "_law_folk" sFolk f fd) (T : Tx mg) (Y : Ty mg)
    (FT : Fun K "_law_take" "_law_take" sTake fT fdT) (bT : Binds K fdT ["_law_purse_here", "_law_wide"] []) (gT : mg "_law_take" = some (.ref fT))
    (FTi : Fun K "_law_titles" "_law_titles" sTitles fTi fdTi) (bTi : Binds K fdTi ["_law_purse_here", "_law_many"] []) (gTi : mg "_law_titles" = some (.ref fTi)) :
    FnOk P w K mg base CX0 3 f fd ["_law_purse_here", "_law_size"] (spFolk K) := by
  have GT : FnOk P w K mg base CX0 1 fT fdT ["_law_purse_here", "_law_wide"] spTake := ok_take FT Y
  have GTi : FnOk P w K mg base CX0 2 fTi fdTi ["_law_purse_here", "_law_many"] spTitles := ok_titles FTi T Y FT bT gT
  refine F.ok scFo (fun vs H Q E h => ?_) (fun cdv A outer s H vs Q E hr h => ?_)
  · obtain ⟨p, m, rfl, _⟩ := h
    rfl
  · obtain ⟨p, n, rfl, pu, h1, h12, q⟩ := h
    have hu := hu_of hr
    have hr1 := hr.mono (show 1 ≤ 2 by decide)
    refine ⟨_, pss_cons (ps_asg (pe_tup (pa_cons (pe_call GTi hr (by rfl) gTi FTi.kp bTi .nil pass0 (pa_cons (pv 0) (pa_cons (pv 1) pa_nil)))
          (pa_cons (pe_call GT hr1 (by rfl) gT FT.kp bT .nil pass0 (pa_cons (pv 0) (pa_cons pe_int pa_nil))) (pa_cons (pe_lst pa_nil) (pa_cons pe_dnewK pa_nil)))))
        (pg_tup (by rfl) (pgs_cons (pg_name (i := 2) scFo.nd rfl (Or.inl rfl)) (pgs_cons (pg_name (i := 3) scFo.nd rfl (Or.inl rfl)) (pgs_cons (pg_name (i := 4) scFo.nd rfl (Or.inl rfl)) (pgs_cons (pg_name (i := 5) scFo.nd rfl (Or.inr rfl)) pgs_nil))))))
      (pss_cons (ps_set (i := 6) scFo.nd rfl (Or.inl rfl) (pe_callTy call_list_of (by rfl) Y.list (by decide +kernel) (pa_cons (pv 2) pa_nil)))
      (pss_cons (ps_for PassesOwn.never rfl (pi_range1 (by rfl) T.rng (pa_cons (pv 1) pa_nil)) (pg_name (i := 7) scFo.nd rfl (Or.inl rfl))
        (pss_cons (ps_expr (pe_bm PySem.F.plainAttrs_list PySem.F.slot_list_append PySem.F.type_list_append mt_append (pv 4) (pa_cons
            (pe_bm PySem.F.plainAttrs_list PySem.F.slot_list_pop PySem.F.type_list_pop mt_popAt (pv 6) (pa_cons (pe_call GT hr1 (by rfl) gT FT.kp bT .nil pass0 (pa_cons (pv 0) (pa_cons (pe_callB call_len_seq (by rfl) T.len PySem.boot_len (pa_cons (pv 6) pa_nil)) pa_nil))) pa_nil)) pa_nil)))
        (pss_cons (ps_dput hu (pv 5) (pe_ix ix_list (pv 4) (pv 7) (fun _ _ => rfl)) pe_non rfl)
        (pss_one (ps_if (PW.pt (pw_and (pt_cmpR op_gt (pv 7) pe_int (nomark _)) (pw_and1 (PW.pt (pw_or (pt_cmpR op_lt (pv 3) pe_int (nomark _)) (pw_or1 (pt_cmpR op_gt (pe_call GT hr1 (by rfl) gT FT.kp bT .nil pass0 (pa_cons (pv 0) (pa_cons pe_int pa_nil))) pe_int (nomark _))))))))
          (pss_cons (ps_set (i := 8) scFo.nd rfl (Or.inl rfl) (pe_lst (pa_cons (pe_op op_sub (pv 7) pe_int) (pa_cons pe_int
            (pa_cons (pe_call GT hr1 (by rfl) gT FT.kp bT .nil pass0 (pa_cons (pv 0) (pa_cons (pv 7) pa_nil)))
            (pa_cons (pe_callB (call_max2 rfl) (by rfl) Y.max boot_max (pa_cons pe_int (pa_cons (pe_op op_sub (pe_op op_sub (pv 7) pe_int) (pe_call GT hr1 (by rfl) gT FT.kp bT .nil pass0 (pa_cons (pv 0) (pa_cons pe_int pa_nil)))) pa_nil))) pa_nil))))))
          (pss_one (ps_dput hu (pv 5) (pe_ix ix_list (pv 4) (pv 7) (fun _ _ => rfl)) (pe_ix ix_list (pv 4) (pe_ix ix_list (pv 8) (pv 3) (fun _ _ => rfl)) (fun _ _ => rfl)) rfl))) pss_nil)))))
      (pss_one (ps_ret (pe_callTy call_tupleF (by rfl) T.tup PyProof.Rows.boot_tuple (pa_cons
        (pe_lc (own := [("_law_title", 9)]) (g := gName 9) (tt := tYes) rfl scFo.nd (pi_list (pv 2)) (blkOk_by (N := NF) (sc := defScope sFolk) (by decide +kernel))
          (fun _ _ _ _ _ => pg_name (i := 9) scFo.nd rfl (Or.inl rfl)) (fun _ _ _ _ _ => pts_nil)
          (fun _ _ _ _ _ => pe_tup (pa_cons (pv 9) (pa_cons (pe_dget hu (pv 5) (pv 9) (fun _ _ => rfl)) pa_nil)))) pa_nil)))))), ?_⟩
    refine ⟨.ref p, rfl, .int n, rfl, p, n, rfl, pu, h1, h12, fun ts q0 H1 tk pu1 nq0 k1 hq0 => ?_⟩
    have hpH : ∃ o, H p = some o := by obtain ⟨_, _, _, e, _⟩ := pu; exact ⟨_, e⟩
    have pq : p ≠ q0 := by obtain ⟨o, e⟩ := hpH; exact ne_of_none e nq0
    refine ⟨.ref p, rfl, p, 4, rfl, pu1, by decide, by decide, fun md H2 md0 md1 pu2 kp2 => ?_⟩
    have hq2 := kp2 _ _ pq.symm hq0
    have k2 : ∀ b o, b ≠ p → H b = some o → H2 b = some o := fun b o nb e => kp2 b o nb (k1 b o nb e)
    refine ⟨Nat.zero_le _, fun dq nd => ?_⟩
    intro lq nl
    refine ⟨(by show 4 ≤ sizeLine; decide), fun tq nt => ?_⟩
    refine ⟨tq, [.ref q0, .int md, .ref dq, .ref lq], rfl, .inl (.inl upd_same), rfl, .ref q0, [.int md, .ref dq, .ref lq], rfl, .int md, [.ref dq, .ref lq], rfl, .ref dq, [.ref lq], rfl, .ref lq, [], rfl, rfl, ?_⟩
    have s3 := same_upd (o := .lst []) nd
    have s4 := same_upd (o := .dK []) nl
    have s5 := same_upd (o := .tup [.ref q0, .int md, .ref dq, .ref lq]) nt
    have S := (s3.trans s4).trans s5
    have hq5 := S _ _ hq2
    refine ⟨.ref q0, rfl, q0, _, rfl, .inl (SqL.of hq5), fun fq nf => ?_⟩
    have s6 := same_upd (o := .lst (strV ts)) nf
    have hdq := s5 _ _ (s4 _ _ (upd_same (H := H2) (a := dq) (o := .lst [])))
    have hlq := s5 _ _ (upd_same (H := upd H2 dq (.lst [])) (a := lq) (o := .dK []))
    have hdq4 := s4 _ _ (upd_same (H := H2) (a := dq) (o := .lst []))
    have pu5 := pu2.keep S
    have k5 : ∀ b o, b ≠ p → H b = some o → _ := fun b o nb e => S b o (k2 b o nb e)
    have P2 : ∃ o, H2 p = some o := by obtain ⟨_, _, _, e, _⟩ := pu2; exact ⟨_, e⟩
    have AP : Apart H p q0 dq lq fq := by
      obtain ⟨oP, eP⟩ := P2
      refine ⟨pq, ne_of_none eP nd, ne_of_none (s3 _ _ eP) nl, ne_of_none (S _ _ eP) nf, ne_of_none hq2 nd, ne_of_none (s3 _ _ hq2) nl, ne_of_none hq5 nf, ne_of_none upd_same nl, ne_of_none hdq nf, ne_of_none hlq nf, free_of pu2 k2 nd, ?_, ?_⟩
      · exact free_of (pu2.keep s3) (fun b o nb e => s3 b o (k2 b o nb e)) nl
      · exact free_of pu5 k5 nf
    have I0 : FInv H _ p q0 dq lq fq ts [] ts [] 0 := ⟨s6 _ _ hq5, s6 _ _ hdq, s6 _ _ hlq, upd_same, rfl, rfl, List.Perm.refl _, chain_nil, pu5.keep s6, fun b o nb e => s6 b o (k5 b o nb e)⟩
    generalize upd (upd (upd (upd H2 dq (.lst [])) lq (.dK [])) tq (.tup [.ref q0, .int md, .ref dq, .ref lq])) fq (.lst (strV ts)) = H6 at I0 ⊢
    have tl := tk.len
    have ndT : ts.Nodup := by
      have := rises_nodup (folk_rise [] tk.rise)
      rwa [folk_names] at this
    refine ⟨.int n, rfl, n, rfl, by omega, by omega, for_range (lo := 0) (n := ((n : Int)).toNat) (fun k σ Hk => ∃ (dr lf : List Str) (ld : Folk) (y7 y8 y9 : Option V), σ = [some (.ref p), some (.int n), some (.ref q0), some (.int md), some (.ref dq), some (.ref lq), some (.ref fq), y7, y8, y9] ∧ FInv H Hk p q0 dq lq fq ts dr lf ld k) ⟨[], ts, [], none, none, none, rfl, I0⟩ ?_ ?_⟩
    · rintro k σ Hk ltk ⟨dr, lf, ld, y7, y8, y9, rfl, I⟩
      have ltk' : k < n := by omega
      have hlen : dr.length + lf.length = n := by have := I.pm.length_eq; rw [List.length_append] at this; omega
      have hdk := I.len
      refine ⟨.ref dq, rfl, .inl ⟨rfl, _, SqL.of I.hd⟩, .ref fq, rfl, .inl ⟨rfl, _, SqL.of I.hf⟩, .ref p, rfl, .ref fq, rfl, fq, _, rfl, .inl (SqL.of I.hf), p, _, rfl, I.pu, by rw [strV_len]; omega, by rw [strV_len]; omega, fun r H1 r0 r1 pu1 kp1 => ?_⟩
      rw [strV_len] at r1
      have I1 := I.take AP pu1 kp1
      obtain ⟨i, rfl⟩ : ∃ i : Nat, r = i := ⟨r.toNat, by omega⟩
      have hi : i < lf.length := by omega
      obtain ⟨y, hy⟩ : ∃ y, lf[i]? = some y := ⟨_, List.getElem?_eq_getElem hi⟩
      refine ⟨fq, strV lf, i, i, .str y, rfl, rfl, I1.hf, by omega, by omega, ?_, strV_get hy, ?_⟩
      · unfold seqIndex?
        simp only [strV_len]
        rw [if_neg (show ¬ ((i : Int) < 0) by omega), if_pos (by simp; omega)]
        simp
      obtain ⟨I2, ny⟩ := I1.step AP ndT hy
      refine ⟨dq, _, _, rfl, rfl, (by rw [upd_ne AP.df]; exact I1.hd), (by rw [strV_len]; exact small_lt (by omega)), ?_⟩
      have hdd : (strV dr ++ [V.str y])[k]? = some (.str y) := by
        rw [List.getElem?_append_right (by rw [strV_len]; omega), strV_len, hdk, Nat.sub_self]; rfl
      have at0 : ∀ l : List V, l[k]? = some (.str y) → atI l (0 + (k : Int)) = some (.str y) := fun l hl => by rw [Int.zero_add]; exact atI_nat hl
      refine ⟨.ref lq, rfl, .ref dq, rfl, .int (0 + k), rfl, dq, _, 0 + k, .str y, rfl, rfl, SqL.of upd_same, at0 _ hdd, lq, _, rfl, DPut.k (k := Sum.inr y) (kvs := kvsOf ld) (by rw [upd_ne AP.dl.symm, upd_ne AP.lf]; exact I1.hl) (small_lt ?_), ?_⟩
      · unfold kvsOf; rw [List.length_map]
        have : (ld.map Prod.fst).length = dr.length := by rw [I.nm]
        rw [List.length_map] at this
        omega
      generalize upd (upd (upd H1 fq (.lst ((strV lf).eraseIdx i))) dq (.lst (strV dr ++ [.str y]))) lq (.dK (putK (kvsOf ld) (Sum.inr y) V.non)) = H2 at I2 ⊢
      have done : ∀ H3, FInv H H3 p q0 dq lq fq ts (dr ++ [y]) (lf.eraseIdx i) (ld ++ [(y, none)]) (k + 1) → ∃ (dr lf : List Str) (ld : Folk) (y7' y8' y9' : Option V), [some (V.ref p), some (.int n), some (.ref q0), some (.int md), some (.ref dq), some (.ref lq), some (.ref fq), some (.int (0 + k)), y8, y9] = [some (.ref p), some (.int n), some (.ref q0), some (.int md), some (.ref dq), some (.ref lq), some (.ref fq), y7', y8', y9'] ∧ FInv H H3 p q0 dq lq fq ts dr lf ld (k + 1) :=
        fun H3 I3 => ⟨_, _, _, _, _, _, rfl, I3⟩
      refine ⟨.int (0 + k), rfl, 0 + k, 0, rfl, rfl, _, rfl, ?_⟩
      refine ite2 (fun hk => ?_) (fun _ => done H2 I2)
      have hk0 : 0 < k := by have : (0 : Int) < 0 + k := of_decide_eq_true hk; omega
      refine ⟨.int md, rfl, md, 2, rfl, rfl, _, rfl, ?_⟩
      refine ite2 (fun _ => ?_) (fun _ => ?_)
      · exact folk_put (K := K) (md := md) (y8 := y8) (y9 := y9) (n := n) AP I2 ny I.ch I.nm hdk hk0 (by omega) md0 md1 (fun ld' _ H' I' => ⟨_, _, _, _, _, _, rfl, I'⟩)
      · refine ⟨.ref p, rfl, p, 4, rfl, I2.pu, by decide, by decide, fun r3 H3 _ _ pu3 kp3 => ?_⟩
        have I3 := I2.take AP pu3 kp3
        refine ⟨r3, 0, rfl, rfl, _, rfl, ?_⟩
        refine ite2 (fun _ => ?_) (fun _ => done H3 I3)
        exact folk_put (K := K) (md := md) (y8 := y8) (y9 := y9) (n := n) AP I3 ny I.ch I.nm hdk hk0 (by omega) md0 md1 (fun ld' _ H' I' => ⟨_, _, _, _, _, _, rfl, I'⟩)
    · rintro σ Hk ⟨dr, lf, ld, y7, y8, y9, rfl, I⟩
      have en : ((n : Int)).toNat = n := by omega
      rw [en] at I
      have hlf : lf = [] := by
        have := I.pm.length_eq
        rw [List.length_append, I.len] at this
        exact List.length_eq_zero_iff.mp (by omega)
      subst hlf
      have hpm : (ld.map Prod.fst).Perm ts := by have := I.pm; rw [List.append_nil, ← I.nm] at this; exact this
      have fok := folk_ok tk h1 h12 hpm I.ch
      refine ⟨.ref q0, rfl, q0, rfl, ⟨_, SqL.of I.ht⟩, fun D hD => ?_⟩
      refine lc_list (K := K) (a := q0) (xs := strV ts) (fun j Hj => ∃ as : List Addr, as.length = j ∧ Hj D = some (.lst (as.map V.ref)) ∧ Same Hk Hj ∧
        ∀ (m : Nat) (t : Addr) (x : Str × Option Str), as[m]? = some t → (folkOf ts ld)[m]? = some x → Hj t = some (.tup [.str x.1, optV x.2])) ⟨[], rfl, upd_same, same_upd hD, fun m t x h => by simp at h⟩ (fun j Hj _ ⟨_, _, _, sm, _⟩ => SqL.of (sm _ _ I.ht)) ?_ ?_
      · rintro j v Hj hv ⟨as, la, hd, sm, hx⟩
        obtain ⟨t, ht, rfl⟩ : ∃ t, ts[j]? = some t ∧ v = .str t := by
          unfold strV at hv
          rw [List.getElem?_map] at hv
          cases e : ts[j]? with
          | none => rw [e] at hv; cases hv
          | some t => rw [e] at hv; exact ⟨t, rfl, (Option.some.inj hv).symm⟩
        have hj : j < n := by have := (List.getElem?_eq_some_iff.mp ht).1; omega
        obtain ⟨wt, hw⟩ : ∃ wt, lookF ld t = some wt := by
          obtain ⟨p0, hp0, e0⟩ := List.mem_map.mp (hpm.mem_iff.mpr (List.mem_of_getElem? ht))
          obtain ⟨wt, hw⟩ := lookF_mem hp0
          exact ⟨wt, by rw [← e0]; exact hw⟩
        have hg : DGet Hj lq (.str t) (some (optV wt)) := by
          have := DGet.k (k := Sum.inr t) (sm _ _ I.hl)
          rw [val_kvs, hw] at this
          exact this
        refine ⟨rfl, ?_⟩
        refine ⟨.str t, rfl, .ref lq, rfl, .str t, rfl, lq, optV wt, rfl, hg, (by show 2 ≤ sizeLine; decide), fun tp ntp => ?_⟩
        have s7 := same_upd (o := .tup [.str t, optV wt]) ntp
        have nDt : tp ≠ D := fun e => by rw [e, hd] at ntp; cases ntp
        refine ⟨_, s7 _ _ hd, by rw [List.length_map, la]; exact small_lt (by omega), as ++ [tp], by rw [List.length_append, la]; rfl, ?_, ?_, ?_⟩
        · rw [upd_same, List.map_append]; rfl
        · intro b o e
          rw [upd_ne (ne_of_none e hD)]
          exact s7 _ _ (sm b o e)
        · intro m t' x hm hxm
          by_cases hmj : m < as.length
          · rw [List.getElem?_append_left hmj] at hm
            have h9 := hx m t' x hm hxm
            have nd9 : t' ≠ D := fun e => by rw [e, hd] at h9; cases h9
            rw [upd_ne nd9]
            exact s7 _ _ h9
          · rw [List.getElem?_append_right (by omega)] at hm
            have hm0 : m - as.length = 0 := by
              have := (List.getElem?_eq_some_iff.mp hm).1
              simp at this; omega
            rw [hm0] at hm
            have e1 : tp = t' := Option.some.inj hm
            have hmj2 : m = j := by omega
            subst e1 hmj2
            have e2 : (folkOf ts ld)[m]? = some (t, wt) := by
              unfold folkOf
              rw [List.getElem?_map, ht]
              show some (t, (lookF ld t).getD none) = _
              rw [hw]; rfl
            rw [e2] at hxm
            cases hxm
            rw [upd_ne nDt, upd_same]
      · rintro Hj ⟨as, la, hd, sm, hx⟩
        refine ⟨D, as.map V.ref, rfl, SqL.of hd, fun l o nl2 od => ?_⟩
        have s8 := same_upd (o := .frz o (.tup (as.map V.ref))) nl2
        refine q (folkOf ts ld) l o as _ fok (by unfold folkOf; rw [List.length_map]; omega) ⟨.inl (.inr ⟨o, upd_same⟩), ?_, fun m t x hm hxm => .inl (.inl (s8 _ _ (hx m t x hm hxm)))⟩ upd_same od ((I.pu.keep sm).keep s8) fun b o' nb e => s8 _ _ (sm _ _ (I.kp b o' nb e))
        rw [la, strV_len]
        unfold folkOf
        rw [List.length_map]
end
end Hee


set_option Elab.async false
set_option linter.all false
set_option maxRecDepth 100000
namespace Hee
open PySem PySem.Spec PyProof.Rows L2
/-! ### a dict of a folk -/
theorem merge_kvs : ∀ (F G : Folk), ((G ++ F).map Prod.fst).Nodup → mergeK (kvsOf G) (kvsOf F) = kvsOf (G ++ F)
  | [], G, _ => by rw [List.append_nil]; rfl
  | p :: r, G, nd => by
    have np : p.1 ∉ G.map Prod.fst := fun h => by
      rw [List.map_append, List.nodup_append] at nd
      exact nd.2.2 p.1 h p.1 (by simp) rfl
    show mergeK (putK (kvsOf G) (Sum.inr p.1) (optV p.2)) (kvsOf r) = _
    rw [put_new np p.2, merge_kvs r (G ++ [(p.1, p.2)]) (by rw [List.append_assoc]; exact nd), List.append_assoc]
    rfl
theorem paired_of {K : PySem.W.Frag} {H : Hp} : ∀ {ts : List Addr} {F : Folk}, ts.length = F.length →
    (∀ (i : Nat) (t : Addr) (p : Str × Option Str), ts[i]? = some t → F[i]? = some p → SqT K H t [.str p.1, optV p.2]) →
    Paired (fun p (kv : Key × V) => SqT K H p [kV kv.1, kv.2]) ts (kvsOf F)
  | [], [], _, _ => .nil
  | [], _ :: _, h, _ => by cases h
  | _ :: _, [], h, _ => by cases h
  | t :: ts, p :: F, h, q => .cons (q 0 t p rfl rfl) (paired_of (by simpa using h) fun i t' p' h1 h2 => q (i + 1) t' p' (by simpa using h1) (by simpa using h2))
/-- a tuple of persons, kept by its object -/
structure FolkAt (K : PySem.W.Frag) (H : Hp) (a : Addr) (o : Obj) (ts : List Addr) (F : Folk) : Prop where
  ob : H a = some (.frz o (.tup (ts.map V.ref)))
  od : o.dict = none
  ps : PersAt K H a ts F
  ok : FolkOk F
theorem FolkAt.same {K : PySem.W.Frag} {H H' : Hp} {a : Addr} {o : Obj} {ts : List Addr} {F : Folk} (f : FolkAt K H a o ts F) (e : Same H H') : FolkAt K H' a o ts F :=
  ⟨e _ _ f.ob, f.od, Same.pers e f.ps, f.ok⟩
end Hee


set_option Elab.async false
set_option linter.all false
set_option maxRecDepth 100000
namespace Hee
open PySem PySem.Spec PyProof.Rows L2
/-! ### what is shown -/
def tupD (l : List Str) : PyData := .tuple (l.map .str)
def twoD (l : List Str) : PyData := .list [tupD l, tupD l]
theorem dp_strs {K : PySem.W.Frag} {H : Hp} : ∀ l : List Str, DpAll K H (strV l) (l.map .str)
  | [] => .nil
  | z :: r => .cons (.str z) (dp_strs r)
theorem dp_tup {K : PySem.W.Frag} {H : Hp} {p : Addr} {l : List Str} (h : SqT K H p (strV l)) : Dp K H (.ref p) (tupD l) := .tup h (dp_strs l)
theorem let_small : ∀ c ∈ letS.cps.toList, c < 16 ^ 8 := by decide +kernel
theorem name_codes {z : Str} (h : nameB z = true) : ∀ c ∈ z.cps.toList, c ∈ letS.cps.toList := by
  unfold nameB at h
  rw [Bool.and_eq_true, List.all_eq_true] at h
  exact fun c hc => of_decide_eq_true (h.2 c hc)
theorem short_all : ∀ {l : List Str}, (∀ z ∈ l, nameB z = true) → PyData.leavesShortAll 13 (l.map .str) = true
  | [], _ => rfl
  | z :: r, h => by
    have h1 : (z.cps.toList.all fun c => decide (c < 16 ^ 8)) = true := by
      rw [List.all_eq_true]
      exact fun c hc => decide_eq_true (let_small c (name_codes (h z List.mem_cons_self) c hc))
    show (PyData.leavesShort 13 (.str z) && PyData.leavesShortAll 13 (r.map .str)) = true
    rw [short_all fun y hy => h y (List.mem_cons_of_mem _ hy), Bool.and_true]
    exact h1
theorem weight_strs : ∀ {l : List Str}, (∀ z ∈ l, nameB z = true) → PyData.weightAll (l.map .str) ≤ 7 * l.length
  | [], _ => Nat.le_refl _
  | z :: r, h => by
    have h1 := weight_strs fun y hy => h y (List.mem_cons_of_mem _ hy)
    have h2 := name_len (h z List.mem_cons_self)
    show z.cps.size + 1 + PyData.weightAll (r.map .str) ≤ 7 * (r.length + 1)
    have : z.cps.size = z.length := rfl
    omega
theorem nodict_strs : ∀ l : List Str, PyData.hasDictAll (l.map .str) = false
  | [] => rfl
  | z :: r => by
    show (PyData.hasDict (.str z) || PyData.hasDictAll (r.map .str)) = false
    rw [nodict_strs r]; rfl
theorem depth_strs : ∀ l : List Str, PyData.depthAll (l.map .str) ≤ 1
  | [] => by decide
  | z :: r => by
    have h := depth_strs r
    simp only [List.map_cons, PyData.depthAll, PyData.depth]
    omega
theorem two_shown {l : List Str} (h : ∀ z ∈ l, nameB z = true) (hl : l.length ≤ 100) : (twoD l).showable = true ∧ (twoD l).hasDict = false ∧ (twoD l).depth ≤ 60 ∧ (twoD l).shown.length ≤ sizeLine := by
  have hs := PyData.showableAll_strs l
  have hw := weight_strs h
  have hsh := short_all h
  refine ⟨?_, ?_, ?_, PyData.shown_fits (B := 13) (by decide) (by decide) ?_ ?_⟩
  · simp [twoD, tupD, PyData.showable, PyData.showableAll, hs]
  · simp [twoD, tupD, PyData.hasDict, PyData.hasDictAll, nodict_strs l]
  · have := depth_strs l
    simp only [twoD, tupD, PyData.depth, PyData.depthAll]
    omega
  · simp [twoD, tupD, PyData.leavesShort, PyData.leavesShortAll, hsh]
  · simp only [twoD, tupD, PyData.weight, PyData.weightAll]
    omega
theorem dp_two {K : PySem.W.Frag} {H : Hp} {q p1 p2 : Addr} {l : List Str} (hq : SqL K H q [.ref p1, .ref p2]) (h1 : SqT K H p1 (strV l)) (h2 : SqT K H p2 (strV l)) : Dp K H (.ref q) (twoD l) :=
  .lst hq (.cons (dp_tup h1) (.cons (dp_tup h2) .nil))
end Hee


set_option Elab.async false
set_option linter.all false
set_option maxRecDepth 100000
namespace Hee
open PySem PySem.Spec PyProof.Rows L2
abbrev sLen : Stmt := inClass (top 20) 2
abbrev sWhom : Stmt := inClass (top 20) 9
section
variable {P : Program} {w : World} {K : PySem.W.Frag}
  {mg : Str → Option Value} {base : Heap}
/-! ### whom -/
def spWhom (K : PySem.W.Frag) (C : Addr) : Sp := fun vs H Q _ => ∃ (x a d : Addr) (ts : List Addr) (F : Folk) (y : Str) (wy : Option Str), vs = [.ref x, .str y] ∧
  WebAt K C H x a d ts F ∧ lookF F y = some wy ∧ ∀ H', Same H H' → Q (optV wy) H'
theorem scWh : FnScope ["self", "name"] ["self", "name"] (defScope sWhom) :=
  ⟨rfl, rfl, rfl, by decide +kernel, rfl, by decide +kernel, by decide +kernel⟩
theorem ok_whom {f fCN C : Addr} {fd fdCN : FuncData} (F : Fun K "whom" "Web.whom" sWhom f fd) (W : Tw K mg C)
    (bCN : Binds K fdCN ["self", "name"] []) (mCN : Meth K C "check_name" fCN) (GCN : FnOk P w K mg base CX0 3 fCN fdCN ["self", "name"] (spChkName K C)) :
    FnOk P w K mg base CX0 4 f fd ["self", "name"] (spWhom K C) := by
  refine F.ok scWh (fun vs H Q E h => ?_) (fun cdv A outer s H vs Q E hr h => ?_)
  · obtain ⟨x, a, d, ts, F0, y, wy, rfl, _⟩ := h
    rfl
  · obtain ⟨x, a, d, ts, F0, y, wy, rfl, web, hy, q⟩ := h
    have hu := hu_of hr
    refine ⟨_, pss_cons (ps_expr (pe_meth (pv 0) W.cl mCN GCN hr bCN .nil pass0 (pa_cons (pv 1) pa_nil)))
      (pss_one (ps_ret (pe_dget hu (pe_fld (pv 0) rfl) (pv 1) (fun _ _ => rfl)))), ?_⟩
    obtain ⟨dx, ho⟩ := web.ob
    refine ⟨.ref x, rfl, x, dx, _, rfl, ho, cn_no a d, .str y, rfl, x, a, d, ts, F0, y, wy, rfl, web, hy, fun H1 s1 => ?_⟩
    have w1 := web.same s1
    obtain ⟨dx1, ho1⟩ := w1.ob
    exact ⟨.ref x, rfl, x, C, dx1, _, _, rfl, ho1, W.cl, W.nW, flds_w a d, .str y, rfl, d, optV wy, rfl, w1.get hy, q H1 s1⟩
/-! ### len, repr -/
def spLen (K : PySem.W.Frag) (C : Addr) : Sp := fun vs H Q _ => ∃ (x a d : Addr) (ts : List Addr) (F : Folk), vs = [.ref x] ∧ WebAt K C H x a d ts F ∧ Q (.int F.length) H
theorem scLe : FnScope ["self"] ["self"] (defScope sLen) :=
  ⟨rfl, rfl, rfl, by decide +kernel, rfl, by decide +kernel, by decide +kernel⟩
theorem ok_len {f C : Addr} {fd : FuncData} (F : Fun K "__len__" "Web.__len__" sLen f fd) (T : Tx mg) (W : Tw K mg C) :
    FnOk P w K mg base CX0 1 f fd ["self"] (spLen K C) := by
  refine F.ok scLe (fun vs H Q E h => ?_) (fun cdv A outer s H vs Q E hr h => ?_)
  · obtain ⟨x, a, d, ts, F0, rfl, _⟩ := h
    rfl
  · obtain ⟨x, a, d, ts, F0, rfl, web, q⟩ := h
    refine ⟨_, pss_one (ps_ret (pe_callB call_len_seq (by rfl) T.len PySem.boot_len (pa_cons (pe_fld (pv 0) rfl) pa_nil))), ?_⟩
    obtain ⟨dx, ho⟩ := web.ob
    obtain ⟨hS, hl, hi⟩ := web.ps
    refine ⟨.ref x, rfl, x, C, dx, _, _, rfl, ho, W.cl, W.nP, flds_p a d, a, _, rfl, .inr hS, ?_⟩
    rw [List.length_map, hl]
    exact q
end
end Hee


set_option Elab.async false
set_option linter.all false
set_option maxRecDepth 100000
namespace Hee
open PySem PySem.Spec PyProof.Rows L2
/-! ### nested data that can be shown -/
structure Nice (k n : Nat) (d : PyData) : Prop where
  sh : d.showable = true
  nd : d.hasDict = false
  sl : d.leavesShort 13 = true
  wt : d.weight ≤ n
  dp : d.depth ≤ k
structure NiceAll (k n : Nat) (ds : List PyData) : Prop where
  sh : PyData.showableAll ds = true
  nd : PyData.hasDictAll ds = false
  sl : PyData.leavesShortAll 13 ds = true
  wt : PyData.weightAll ds ≤ n
  dp : PyData.depthAll ds ≤ k
theorem NiceAll.nil : NiceAll 0 0 [] := ⟨rfl, rfl, rfl, Nat.le_refl _, Nat.le_refl _⟩
theorem NiceAll.cons {k n k' m : Nat} {d : PyData} {ds : List PyData} (h : Nice k n d) (r : NiceAll k' m ds) : NiceAll (max k k') (n + 1 + m) (d :: ds) := by
  refine ⟨?_, ?_, ?_, ?_, ?_⟩
  · simp only [PyData.showableAll, h.sh, r.sh, Bool.and_true]
  · simp only [PyData.hasDictAll, h.nd, r.nd, Bool.or_false]
  · simp only [PyData.leavesShortAll, h.sl, r.sl, Bool.and_true]
  · have := h.wt; have := r.wt; simp only [PyData.weightAll]; omega
  · have := h.dp; have := r.dp; simp only [PyData.depthAll]; omega
theorem NiceAll.mono {k n k' m : Nat} {ds : List PyData} (h : NiceAll k n ds) (hk : k ≤ k') (hn : n ≤ m) : NiceAll k' m ds := ⟨h.sh, h.nd, h.sl, Nat.le_trans h.wt hn, Nat.le_trans h.dp hk⟩
theorem Nice.mono {k n k' m : Nat} {d : PyData} (h : Nice k n d) (hk : k ≤ k') (hn : n ≤ m) : Nice k' m d := ⟨h.sh, h.nd, h.sl, Nat.le_trans h.wt hn, Nat.le_trans h.dp hk⟩
theorem Nice.list {k n : Nat} {ds : List PyData} (h : NiceAll k n ds) : Nice (k + 1) n (.list ds) := by
  refine ⟨?_, ?_, ?_, ?_, ?_⟩
  · simp only [PyData.showable, h.sh]
  · simp only [PyData.hasDict, h.nd]
  · simp only [PyData.leavesShort, h.sl]
  · have := h.wt; simp only [PyData.weight]; omega
  · have := h.dp; simp only [PyData.depth]; omega
theorem Nice.tuple {k n : Nat} {ds : List PyData} (h : NiceAll k n ds) : Nice (k + 1) n (.tuple ds) := by
  refine ⟨?_, ?_, ?_, ?_, ?_⟩
  · simp only [PyData.showable, h.sh]
  · simp only [PyData.hasDict, h.nd]
  · simp only [PyData.leavesShort, h.sl]
  · have := h.wt; simp only [PyData.weight]; omega
  · have := h.dp; simp only [PyData.depth]; omega
theorem Nice.none : Nice 0 0 .none := ⟨rfl, rfl, rfl, Nat.le_refl _, Nat.le_refl _⟩
theorem Nice.name {z : Str} (h : nameB z = true) : Nice 0 6 (.str z) := by
  refine ⟨rfl, rfl, ?_, ?_, Nat.le_refl _⟩
  · show (z.cps.toList.all fun c => decide (c < 16 ^ 8)) = true
    rw [List.all_eq_true]
    exact fun c hc => decide_eq_true (let_small c (name_codes h c hc))
  · exact (name_len h).2
theorem Nice.int12 : ∀ n : Nat, n < 13 → Nice 0 10 (.int (n : Int)) := fun n h => ⟨(by revert n; decide +kernel), rfl, (by revert n; decide +kernel), (by revert n; decide +kernel), Nat.le_refl _⟩
theorem NiceAll.map {α : Type} {f : α → PyData} {k n : Nat} : ∀ {l : List α}, (∀ x ∈ l, Nice k n (f x)) → NiceAll k ((n + 1) * l.length) (l.map f)
  | [], _ => NiceAll.nil.mono (Nat.zero_le _) (Nat.zero_le _)
  | x :: r, h => by
    refine (NiceAll.cons (h x List.mem_cons_self) (NiceAll.map fun y hy => h y (List.mem_cons_of_mem _ hy))).mono (by omega) ?_
    rw [List.length_cons, Nat.mul_succ]; omega
theorem Nice.shown {k n : Nat} {d : PyData} (h : Nice k n d) (hk : k ≤ 60) (hn : n ≤ 2 ^ 20) : d.showable = true ∧ d.hasDict = false ∧ d.depth ≤ 60 ∧ d.shown.length ≤ sizeLine :=
  ⟨h.sh, h.nd, Nat.le_trans h.dp hk, PyData.shown_fits (B := 13) (by decide) (by decide) h.sl (Nat.le_trans h.wt hn)⟩
/-! ### a folk's data -/
def optD : Option Str → PyData
  | none => .none
  | some z => .str z
theorem dp_opt {K : PySem.W.Frag} {H : Hp} : ∀ w : Option Str, Dp K H (optV w) (optD w)
  | none => .non
  | some z => .str z
def perD (p : Str × Option Str) : PyData := .tuple [.str p.1, optD p.2]
def folkD (F : Folk) : PyData := .tuple (F.map perD)
theorem dp_folks {K : PySem.W.Frag} {H : Hp} : ∀ {ts : List Addr} {F : Folk}, ts.length = F.length →
    (∀ (i : Nat) (t : Addr) (p : Str × Option Str), ts[i]? = some t → F[i]? = some p → SqT K H t [.str p.1, optV p.2]) → DpAll K H (ts.map V.ref) (F.map perD)
  | [], [], _, _ => .nil
  | [], _ :: _, h, _ => by cases h
  | _ :: _, [], h, _ => by cases h
  | t :: ts, p :: F, h, q => .cons (.tup (q 0 t p rfl rfl) (.cons (.str _) (.cons (dp_opt _) .nil))) (dp_folks (by simpa using h) fun i t' p' h1 h2 => q (i + 1) t' p' (by simpa using h1) (by simpa using h2))
theorem dp_folk {K : PySem.W.Frag} {H : Hp} {a : Addr} {ts : List Addr} {F : Folk} (h : PersAt K H a ts F) : Dp K H (.ref a) (folkD F) := .tup h.1 (dp_folks h.2.1 h.2.2)
theorem Nice.opt {w : Option Str} (h : optOk w) : Nice 0 6 (optD w) := by
  cases w with
  | none => exact Nice.none.mono (Nat.le_refl _) (by decide)
  | some z => exact Nice.name (h z rfl)
theorem Nice.names {l : List Str} (h : ∀ z ∈ l, nameB z = true) (hl : l.length ≤ 12) : Nice 1 84 (tupD l) :=
  (Nice.tuple (NiceAll.map (k := 0) (n := 6) fun z hz => Nice.name (h z hz))).mono (by decide) (by omega)
theorem Nice.folk {F : Folk} (ok : FolkOk F) : Nice 2 180 (folkD F) := by
  have hm := ok.most
  refine (Nice.tuple (NiceAll.map (k := 1) (n := 14) fun p hp => ?_)).mono (by decide) (by omega)
  obtain ⟨h1, h2⟩ := ok.nm p hp
  exact (Nice.tuple (NiceAll.cons (Nice.name h1) (NiceAll.cons (Nice.opt h2) NiceAll.nil))).mono (by decide) (by decide)
/-! ### who leads, who follows -/
def namesF (F : Folk) : List Str := F.map Prod.fst
theorem nm_str (F : Folk) : nmV F = strV (namesF F) := by unfold nmV strV namesF; rw [List.map_map]; rfl
theorem filt_nm {F : Folk} (ok : FolkOk F) (q : Str × Option Str → Bool) : (∀ z ∈ (F.filter q).map Prod.fst, nameB z = true) ∧ ((F.filter q).map Prod.fst).length ≤ 12 := by
  refine ⟨fun z hz => ?_, ?_⟩
  · obtain ⟨p, hp, rfl⟩ := List.mem_map.mp hz
    exact (ok.nm p (List.mem_filter.mp hp).1).1
  · rw [List.length_map]
    exact Nat.le_trans (List.length_filter_le _ _) ok.most
theorem names_nm {F : Folk} (ok : FolkOk F) : (∀ z ∈ namesF F, nameB z = true) ∧ (namesF F).length ≤ 12 := by
  refine ⟨fun z hz => ?_, ?_⟩
  · obtain ⟨p, hp, rfl⟩ := List.mem_map.mp hz
    exact (ok.nm p hp).1
  · unfold namesF
    rw [List.length_map]
    exact ok.most
theorem nd_one : ∀ {F : Folk}, (F.map Prod.fst).Nodup → ∀ {p q : Str × Option Str}, p ∈ F → q ∈ F → p.1 = q.1 → p = q
  | [], _, _, _, h, _, _ => by cases h
  | r :: F, nd, p, q, hp, hq, e => by
    rw [List.map_cons, List.nodup_cons] at nd
    rcases List.mem_cons.mp hp with rfl | hp
    · rcases List.mem_cons.mp hq with rfl | hq
      · rfl
      · exact absurd (List.mem_map.mpr ⟨q, hq, e.symm⟩) nd.1
    · rcases List.mem_cons.mp hq with rfl | hq
      · exact absurd (List.mem_map.mpr ⟨p, (show p ∈ F from by assumption), e⟩) nd.1
      · exact nd_one nd.2 hp hq e
end Hee


set_option Elab.async false
set_option linter.all false
set_option maxRecDepth 100000
namespace Hee
open PySem PySem.Spec PyProof.Rows L2
/-! ### rows: the mathematics -/
def othL (l : List Str) (y : Str) : List Str := l.filter fun z => !decide (V.str z = V.str y)
theorem oth_mem {l : List Str} {y z : Str} : z ∈ othL l y ↔ z ∈ l ∧ z ≠ y := by
  unfold othL
  rw [List.mem_filter]
  simp
theorem oth_erase {l : List Str} (nd : l.Nodup) (y : Str) : othL l y = l.erase y := by
  rw [nd.erase_eq_filter]
  refine List.filter_congr fun z _ => ?_
  by_cases h : z = y
  · subst h; simp
  · have : ¬ (V.str z = V.str y) := fun e => h (V.str.inj e)
    simp [h]
theorem oth_perm {l : List Str} (nd : l.Nodup) {y : Str} (h : y ∈ l) : (y :: othL l y).Perm l := by
  rw [oth_erase nd]
  exact (List.perm_cons_erase h).symm
def spotL (l : List Str) (m : Str) : Nat := l.idxOf m + 1
def putL (o : List Str) (y m : Str) : List Str := o.take (spotL o m) ++ y :: o.drop (spotL o m)
def stepL (l : List Str) (y m : Str) : List Str := putL (othL l y) y m
theorem put_perm (o : List Str) (y m : Str) : (putL o y m).Perm (y :: o) := by
  unfold putL
  have := List.perm_middle (a := y) (l₁ := o.take (spotL o m)) (l₂ := o.drop (spotL o m))
  rwa [List.take_append_drop] at this
theorem step_perm {l : List Str} (nd : l.Nodup) {y : Str} (h : y ∈ l) (m : Str) : (stepL l y m).Perm l :=
  (put_perm _ y m).trans (oth_perm nd h)
theorem oth_put {o : List Str} {y : Str} (h : y ∉ o) (m : Str) : othL (putL o y m) y = o := by
  have keep : ∀ s : List Str, (∀ z ∈ s, z ∈ o) → othL s y = s := fun s hs => by
    unfold othL
    rw [List.filter_eq_self]
    intro z hz
    have : z ≠ y := fun e => h (e ▸ hs z hz)
    simp [this]
  unfold putL othL
  rw [List.filter_append, List.filter_cons]
  have e1 := keep (o.take (spotL o m)) fun z hz => List.mem_of_mem_take hz
  have e2 := keep (o.drop (spotL o m)) fun z hz => List.mem_of_mem_drop hz
  unfold othL at e1 e2
  rw [e1, e2]
  simp
theorem step_again {l : List Str} {y m : Str} : stepL (stepL l y m) y m = stepL l y m := by
  unfold stepL
  rw [oth_put (fun h => (oth_mem.mp h).2 rfl)]
/-- a name's first place -/
structure PlaceAt (l : List Str) (z : Str) (j : Nat) : Prop where
  here : l[j]? = some z
  none : ∀ m, m < j → l[m]? ≠ some z
theorem place_of {l : List Str} {z : Str} (h : z ∈ l) : PlaceAt l z (l.idxOf z) := by
  have lt := List.idxOf_lt_length_iff.mpr h
  refine ⟨by rw [List.getElem?_eq_getElem lt, List.getElem_idxOf lt], fun m hm e => ?_⟩
  have := List.not_of_lt_findIdx (p := fun x => x == z) hm
  obtain ⟨lm, em⟩ := List.getElem?_eq_some_iff.mp e
  rw [em] at this
  simp at this
theorem put_places {o : List Str} {y m : Str} (hm : m ∈ o) (hy : y ∉ o) :
    PlaceAt (putL o y m) m (o.idxOf m) ∧ PlaceAt (putL o y m) y (o.idxOf m + 1) := by
  have lt := List.idxOf_lt_length_iff.mpr hm
  have P := place_of hm
  have len : (o.take (spotL o m)).length = o.idxOf m + 1 := by rw [List.length_take]; unfold spotL; omega
  have left : ∀ k, k < o.idxOf m + 1 → (putL o y m)[k]? = o[k]? := fun k hk => by
    unfold putL
    rw [List.getElem?_append_left (by omega), List.getElem?_take, if_pos (by unfold spotL; omega)]
  refine ⟨⟨by rw [left _ (by omega)]; exact P.here, fun k hk => by rw [left k (by omega)]; exact P.none k hk⟩, ⟨?_, fun k hk e => ?_⟩⟩
  · unfold putL
    rw [List.getElem?_append_right (by omega), len, Nat.sub_self]
    rfl
  · rw [left k hk] at e
    exact hy (List.mem_of_getElem? e)
/-! ### rows of a folk -/
def RowOk (F : Folk) (l : List Str) : Prop := l.Perm (namesF F)
theorem FolkOk.nodup {F : Folk} (ok : FolkOk F) : (namesF F).Nodup := rises_nodup ok.rise
theorem look_name {F : Folk} {x : Str} {w : Option Str} (h : lookF F x = some w) : x ∈ namesF F :=
  List.mem_map.mpr ⟨(x, w), look_mem h, rfl⟩
theorem name_look {F : Folk} {x : Str} (h : x ∈ namesF F) : ∃ w, lookF F x = some w := by
  obtain ⟨p, hp, rfl⟩ := List.mem_map.mp h
  exact lookF_mem hp
theorem self_lost {F : Folk} {y : Str} (h : lookF F y = some (some y)) : ∀ n, comesN F n y = false
  | 0 => rfl
  | n + 1 => by rw [comesN_succ, h]; exact self_lost h n
theorem ne_mate {F : Folk} (ok : FolkOk F) {y m : Str} (h : lookF F y = some (some m)) : m ≠ y := by
  rintro rfl
  have a := ok.lead _ (look_mem h)
  rw [self_lost h] at a
  cases a
theorem RowOk.nodup {F : Folk} (ok : FolkOk F) {l : List Str} (r : RowOk F l) : l.Nodup := r.nodup_iff.mpr ok.nodup
theorem RowOk.mem {F : Folk} {l : List Str} (r : RowOk F l) {x : Str} {w : Option Str} (h : lookF F x = some w) : x ∈ l := r.mem_iff.mpr (look_name h)
theorem RowOk.len {F : Folk} {l : List Str} (r : RowOk F l) : l.length = F.length := by
  have := r.length_eq
  unfold namesF at this
  rwa [List.length_map] at this
theorem RowOk.look {F : Folk} {l : List Str} (r : RowOk F l) {x : Str} (h : x ∈ l) : ∃ w, lookF F x = some w := name_look (r.mem_iff.mp h)
theorem RowOk.step {F : Folk} (ok : FolkOk F) {l : List Str} (r : RowOk F l) {y m : Str} (h : lookF F y = some (some m)) : RowOk F (stepL l y m) :=
  (step_perm (r.nodup ok) (r.mem h) m).trans r
theorem mate_in {F : Folk} (ok : FolkOk F) {l : List Str} (r : RowOk F l) {y m : Str} (h : lookF F y = some (some m)) : m ∈ othL l y := by
  obtain ⟨w, hw⟩ := ok.there _ _ h
  exact oth_mem.mpr ⟨r.mem hw, ne_mate ok h⟩
theorem RowOk.nm {F : Folk} (ok : FolkOk F) {l : List Str} (r : RowOk F l) : (∀ z ∈ l, nameB z = true) ∧ l.length ≤ 12 :=
  ⟨fun z hz => (names_nm ok).1 z (r.mem_iff.mp hz), by rw [r.len]; exact ok.most⟩
/-- whom one follows -/
def mateF (F : Folk) (y : Str) : Str := ((lookF F y).getD none).getD ""
theorem mate_eq {F : Folk} {y m : Str} (h : lookF F y = some (some m)) : mateF F y = m := by unfold mateF; rw [h]; rfl
/-- calls: names of who follow -/
def CallsOk (F : Folk) (cs : List Str) : Prop := ∀ c ∈ cs, ∃ m, lookF F c = some (some m)
def walkL (F : Folk) (l : List Str) (cs : List Str) : List Str := cs.foldl (fun r c => stepL r c (mateF F c)) l
theorem RowOk.walk {F : Folk} (ok : FolkOk F) : ∀ {cs l : List Str}, RowOk F l → CallsOk F cs → RowOk F (walkL F l cs)
  | [], _, r, _ => r
  | c :: cs, l, r, h => by
    obtain ⟨m, hm⟩ := h c List.mem_cons_self
    have e := mate_eq hm
    have r2 := r.step ok hm
    rw [← e] at r2
    exact RowOk.walk ok (cs := cs) (l := stepL l c (mateF F c)) r2 fun d hd => h d (List.mem_cons_of_mem _ hd)
theorem walk_app (F : Folk) (l cs ds : List Str) : walkL F l (cs ++ ds) = walkL F (walkL F l cs) ds := List.foldl_append ..
/-! ### rows as data -/
theorem let_ok : ∀ c ∈ letS.cps.toList, decide (c < 0x110000) = true := by decide +kernel
theorem name_ok {z : Str} (h : nameB z = true) : PyData.canLay0 (.str z) = true := by
  show (z.cps.all fun c => decide (c < 0x110000)) = true
  rw [← Array.all_toList, List.all_eq_true]
  exact fun c hc => let_ok c (name_codes h c hc)
theorem lay_strs : ∀ {l : List Str}, (∀ z ∈ l, nameB z = true) → PyData.canLayAll0 (l.map .str) = true
  | [], _ => rfl
  | z :: r, h => by
    show (PyData.canLay0 (.str z) && PyData.canLayAll0 (r.map .str)) = true
    rw [lay_strs fun y hy => h y (List.mem_cons_of_mem _ hy), name_ok (h z List.mem_cons_self)]; rfl
theorem shaped_tup {l : List Str} (hn : ∀ z ∈ l, nameB z = true) : SeqAt.shaped (tupD l) = true := by
  unfold SeqAt.shaped
  have h := depth_strs l
  have e : (tupD l).canLay0 = true := lay_strs hn
  rw [e, decide_eq_true (by simp only [tupD, PyData.depth]; omega)]
  rfl
theorem eqv_tup {l : List Str} (hn : ∀ z ∈ l, nameB z = true) : PyData.eqv (tupD l) (tupD l) = true := SeqAt.eqv_refl _ (lay_strs hn)
/-! ### slices of rows -/
theorem strV_inv {l : List Str} {i : Nat} {v : V} (h : (strV l)[i]? = some v) : ∃ z, l[i]? = some z ∧ v = .str z := by
  unfold strV at h
  rw [List.getElem?_map, Option.map_eq_some_iff] at h
  obtain ⟨z, e, rfl⟩ := h
  exact ⟨z, e, rfl⟩
theorem cut_head (l : List Str) {i : Nat} (hi : i ≤ l.length) : cutV (strV l) none (some (i : Int)) = strV (l.take i) := by
  unfold cutV
  rw [HT.sIx_none, HT.sIx_nat, strV_len, Nat.min_eq_left hi, Nat.sub_zero]
  unfold strV
  rw [List.drop_zero, ← List.map_take]
theorem cut_tail (l : List Str) {i : Nat} (hi : i ≤ l.length) : cutV (strV l) (some (i : Int)) none = strV (l.drop i) := by
  unfold cutV
  rw [HT.sIx_none, HT.sIx_nat, strV_len, Nat.min_eq_left hi]
  unfold strV
  rw [← List.map_drop, List.take_of_length_le (by rw [List.length_map, List.length_drop]; omega)]
end Hee


set_option Elab.async false
set_option linter.all false
set_option maxRecDepth 100000
namespace Hee
open PySem PySem.Spec PyProof.Rows L2
abbrev sChkWeb : Stmt := top 22
abbrev sFirst : Stmt := top 23
abbrev sChkRow : Stmt := top 24
abbrev sFollows : Stmt := top 25
abbrev sChkCalls : Stmt := top 26
abbrev sStepped : Stmt := top 27
abbrev sDone : Stmt := top 28
/-- of which class a web is told to be; the bound of calls -/
structure Tr (K : PySem.W.Frag) (mg : Str → Option Value) (C : Addr) : Prop where
  is : ∀ {H : Hp} {a dx : Addr} {fs : List (Str × V)}, H a = some (.ins C dx fs) → TyOf K H (.ref a) (.ref C)
  mc : ∃ t, mg "MOST_CALLS" = some (.int 400 t)
section
variable {P : Program} {w : World} {K : PySem.W.Frag}
  {mg : Str → Option Value} {base : Heap}
/-! ### check_web -/
def spChkWeb (K : PySem.W.Frag) (C : Addr) : Sp := fun vs H Q _ => ∃ (x a d : Addr) (ts : List Addr) (F : Folk), vs = [.ref x] ∧ WebAt K C H x a d ts F ∧ Q .non H
theorem scWb : FnScope ["web"] ["web"] (defScope sChkWeb) :=
  ⟨rfl, rfl, rfl, by decide +kernel, rfl, by decide +kernel, by decide +kernel⟩
theorem ok_chkWeb {f C : Addr} {fd : FuncData} (F : Fun K "check_web" "check_web" sChkWeb f fd) (T : Tx mg) (W : Tw K mg C) (R : Tr K mg C) :
    FnOk P w K mg base CX0 1 f fd ["web"] (spChkWeb K C) := by
  refine F.ok scWb (fun vs H Q E h => ?_) (fun cdv A outer s H vs Q E hr h => ?_)
  · obtain ⟨x, a, d, ts, F0, rfl, _⟩ := h
    rfl
  · obtain ⟨x, a, d, ts, F0, rfl, web, q⟩ := h
    refine ⟨_, pss_one (ps_if (pt_not (pt_val (pe_callB call_isi (by rfl) T.isi boot_isinstance (pa_cons (pv 0) (pa_cons (pe_glob (v := .ref C) (by rfl) W.mgC rfl) pa_nil)))))
      (pss_one ps_never) pss_nil), ?_⟩
    obtain ⟨dx, ho⟩ := web.ob
    exact ⟨.ref x, rfl, .ref x, .ref C, .ref C, .ref C, true, rfl, .own C, .base (R.is ho), by simp [PySem.W.kitOne], true, rfl, iteF q⟩
/-! ### first_wrong, of rows that are right -/
def spFirst (K : PySem.W.Frag) (C : Addr) : Sp := fun vs H Q _ => ∃ (x a d : Addr) (ts : List Addr) (F : Folk) (r : Addr) (l : List Str), vs = [.ref x, .ref r] ∧
  WebAt K C H x a d ts F ∧ SqT K H r (strV l) ∧ l.Nodup ∧ (∀ z ∈ l, ∃ w, lookF F z = some w) ∧ ∀ H', Same H H' → Q .non H'
theorem scFw : FnScope ["web", "things", "place", "thing"] ["web", "things"] (defScope sFirst) :=
  ⟨rfl, rfl, rfl, by decide +kernel, rfl, by decide +kernel, by decide +kernel⟩
theorem ok_first {f fH C : Addr} {fd fdH : FuncData} (F : Fun K "first_wrong" "first_wrong" sFirst f fd) (T : Tx mg) (W : Tw K mg C)
    (bH : Binds K fdH ["self", "thing"] []) (mH : Meth K C "has" fH) (GH : FnOk P w K mg base CX0 2 fH fdH ["self", "thing"] (spHas K C)) :
    FnOk P w K mg base CX0 3 f fd ["web", "things"] (spFirst K C) := by
  refine F.ok scFw (fun vs H Q E h => ?_) (fun cdv A outer s H vs Q E hr h => ?_)
  · obtain ⟨x, a, d, ts, F0, r, l, rfl, _⟩ := h
    rfl
  · obtain ⟨x, a, d, ts, F0, r, l, rfl, web, hS, nd, all, q⟩ := h
    refine ⟨_, pss_cons (ps_for PassesOwn.never rfl (pi_enumT (by rfl) T.enu (pa_cons (pv 1) pa_nil))
        (pg_tup (by rfl) (pgs_cons (pg_name (i := 2) scFw.nd rfl (Or.inl rfl)) (pgs_cons (pg_name (i := 3) scFw.nd rfl (Or.inl rfl)) pgs_nil)))
        (pss_one (ps_if (PW.pt (pw_or (pt_not (pt_val (pe_meth (pv 0) W.cl mH GH hr bH .nil pass0 (pa_cons (pv 3) pa_nil))))
          (pw_or1 (pt_cmpR op_in_seq (pv 3) (pe_slice sl_tup (pv 1) po_none (po_some (pv 2))) (by rfl)))))
          (pss_one (ps_ret (pv 2))) pss_nil)))
      (pss_one (ps_ret pe_non)), ?_⟩
    refine ⟨.ref r, rfl, r, _, rfl, hS, for_it walk_enumT (fun i σ H1 => ∃ y z, σ = [some (.ref x), some (.ref r), y, z] ∧ Same H H1) ⟨none, none, rfl, Same.refl H⟩ (fun i σ H1 _ ⟨_, _, _, sm⟩ => Same.tup sm hS) ?_ ?_⟩
    · rintro i v σ H1 H2 lt ⟨y, z, rfl, sm⟩ ⟨Tp, v1, v2, rfl, nT, rfl, e1, e2⟩
      cases e1
      obtain ⟨t, ht, rfl⟩ := strV_inv e2
      obtain ⟨wt, hw⟩ := all t (List.mem_of_getElem? ht)
      have s2 := sm.trans (same_upd (o := .tup [.int (i : Nat), .str t]) nT)
      have w2 := web.same s2
      obtain ⟨dx, ho⟩ := w2.ob
      refine ⟨Tp, [.int (i : Nat), .str t], rfl, .inl (.inl upd_same), rfl, .int (i : Nat), [.str t], rfl, .str t, [], rfl, rfl, ?_⟩
      refine ⟨.ref x, rfl, x, dx, _, rfl, ho, has_no a d, .str t, rfl, x, a, d, ts, F0, t, wt, rfl, w2, hw, fun H3 s3 => ⟨true, rfl, iteF ?_⟩⟩
      have s4 := s2.trans s3
      have li : i < l.length := (List.getElem?_eq_some_iff.mp ht).1
      refine ⟨.str t, rfl, .ref r, rfl, .int (i : Nat), rfl, (i : Nat), rfl, r, strV l, rfl, Same.tup s4 hS, ?_, fun p np => ?_⟩
      · rw [HT.sIx_nat, strV_len]; omega
      rw [cut_head l (by omega)]
      refine ⟨p, strV (l.take i), rfl, .inr (.inl (.inl upd_same)), rfl, flat_str _, false, ?_, iteF ?_⟩
      · show V.bl (inV (.str t) (strV (l.take i))) = V.bl false
        rw [inV_str, decide_eq_false]
        intro hm
        obtain ⟨j, hj, e⟩ := List.mem_take_iff_getElem.mp hm
        obtain ⟨_, e'⟩ := List.getElem?_eq_some_iff.mp ht
        exact List.pairwise_iff_getElem.mp nd j i (by omega) li (by omega) (e.trans e'.symm)
      · exact ⟨_, _, rfl, s4.trans (same_upd np)⟩
    · rintro σ H1 ⟨y, z, rfl, sm⟩
      exact q H1 sm
/-! ### check_row -/
def spChkRow (K : PySem.W.Frag) (C : Addr) : Sp := fun vs H Q _ => ∃ (x a d : Addr) (ts : List Addr) (F : Folk) (r : Addr) (l : List Str), vs = [.ref x, .ref r] ∧
  WebAt K C H x a d ts F ∧ SqT K H r (strV l) ∧ RowOk F l ∧ ∀ H', Same H H' → Q .non H'
theorem scCR : FnScope ["web", "row", "place"] ["web", "row"] (defScope sChkRow) :=
  ⟨rfl, rfl, rfl, by decide +kernel, rfl, by decide +kernel, by decide +kernel⟩
/-- len(web) by the class's own method -/
structure OwnLen (P : Program) (w : World) (K : PySem.W.Frag) (mg : Str → Option Value) (base : Heap) (C fL : Addr) (fdL : FuncData) : Prop where
  ok : FnOk P w K mg base CX0 1 fL fdL ["self"] (spLen K C)
  bn : Binds K fdL ["self"] []
  fi : PySem.W.findIn K (.ref C) "__len__" = some (some (.ref fL))
  fn : PySem.W.isFn K (.ref fL) = true
theorem ok_chkRow {f fF fL C : Addr} {fd fdF fdL : FuncData} (F : Fun K "check_row" "check_row" sChkRow f fd) (T : Tx mg) (L : OwnLen P w K mg base C fL fdL)
    (FF : Fun K "first_wrong" "first_wrong" sFirst fF fdF) (bF : Binds K fdF ["web", "things"] []) (gF : mg "first_wrong" = some (.ref fF)) (GF : FnOk P w K mg base CX0 3 fF fdF ["web", "things"] (spFirst K C)) :
    FnOk P w K mg base CX0 4 f fd ["web", "row"] (spChkRow K C) := by
  refine F.ok scCR (fun vs H Q E h => ?_) (fun cdv A outer s H vs Q E hr h => ?_)
  · obtain ⟨x, a, d, ts, F0, r, l, rfl, _⟩ := h
    rfl
  · obtain ⟨x, a, d, ts, F0, r, l, rfl, web, hS, ro, q⟩ := h
    refine ⟨_, pss_cons (ps_if (pt_not (pt_val (pe_callB call_isi (by rfl) T.isi boot_isinstance (pa_cons (pv 1) (pa_cons (pe_bltn (v := .ty "tuple") (by rfl) T.tup PyProof.Rows.boot_tuple rfl) pa_nil))))) (pss_one ps_never) pss_nil)
      (pss_cons (ps_set (i := 2) scCR.nd rfl (Or.inl rfl) (pe_call GF hr (by rfl) gF FF.kp bF .nil pass0 (pa_cons (pv 0) (pa_cons (pv 1) pa_nil))))
      (pss_one (ps_if (PW.pt (pw_or (pt_cmpR op_notN (pv 2) pe_non (nomark _)) (pw_or1 (pt_cmpR op_lt (pe_callB call_len_seq (by rfl) T.len PySem.boot_len (pa_cons (pv 1) pa_nil))
        (pe_callB (call_lenOwn L.ok (hr.mono (by decide)) L.bn L.fi L.fn) (by rfl) T.len PySem.boot_len (pa_cons (pv 0) pa_nil)) (nomark _))))) (pss_one ps_never) pss_nil))), ?_⟩
    refine ⟨.ref r, rfl, .ref r, .ty "tuple", .type "tuple", .type "tuple", true, rfl, .ty "tuple", tyx_tup hS, kit_ty (by decide +kernel), true, rfl, iteF ?_⟩
    refine ⟨.ref x, rfl, .ref r, rfl, x, a, d, ts, F0, r, l, rfl, web, hS, ro.nodup web.ok, fun z hz => ro.look hz, fun H1 s1 => ?_⟩
    have w1 := web.same s1
    obtain ⟨dx, ho⟩ := w1.ob
    have hm := web.ok.most
    refine ⟨.non, rfl, rfl, false, rfl, iteF ?_⟩
    refine ⟨.ref r, rfl, r, _, rfl, .inr (Same.tup s1 hS), .ref x, rfl, x, dx, _, rfl, ho, x, a, d, ts, F0, rfl, w1, _, rfl, by omega, by omega, _, _, rfl, rfl, false, ?_, iteF ?_⟩
    · exact blF (by rw [strV_len, ro.len]; omega)
    · exact q H1 s1
/-! ### follows -/
def spFollows (K : PySem.W.Frag) (C : Addr) : Sp := fun vs H Q _ => ∃ (x a d : Addr) (ts : List Addr) (F : Folk) (y : Str) (wy : Option Str), vs = [.ref x, .str y] ∧
  WebAt K C H x a d ts F ∧ lookF F y = some wy ∧ ∀ H', Same H H' → Q (.bl (!decide (optV wy = V.non))) H'
theorem scFs : FnScope ["web", "thing"] ["web", "thing"] (defScope sFollows) :=
  ⟨rfl, rfl, rfl, by decide +kernel, rfl, by decide +kernel, by decide +kernel⟩
theorem wh_no (a d : Addr) : (flds a d).lookup ("whom" : Str) = none := flds_no a d (by decide +kernel) (by decide +kernel)
theorem ok_follows {f fH fW C : Addr} {fd fdH fdW : FuncData} (F : Fun K "follows" "follows" sFollows f fd) (W : Tw K mg C)
    (bH : Binds K fdH ["self", "thing"] []) (mH : Meth K C "has" fH) (GH : FnOk P w K mg base CX0 2 fH fdH ["self", "thing"] (spHas K C))
    (bW : Binds K fdW ["self", "name"] []) (mW : Meth K C "whom" fW) (GW : FnOk P w K mg base CX0 4 fW fdW ["self", "name"] (spWhom K C)) :
    FnOk P w K mg base CX0 5 f fd ["web", "thing"] (spFollows K C) := by
  refine F.ok scFs (fun vs H Q E h => ?_) (fun cdv A outer s H vs Q E hr h => ?_)
  · obtain ⟨x, a, d, ts, F0, y, wy, rfl, _⟩ := h
    rfl
  · obtain ⟨x, a, d, ts, F0, y, wy, rfl, web, hy, q⟩ := h
    refine ⟨_, pss_one (ps_ret (pe_and (pe_meth (pv 0) W.cl mH GH (hr.mono (by decide)) bH .nil pass0 (pa_cons (pv 1) pa_nil))
      (pe_one (pe_cmpR op_notN (pe_meth (pv 0) W.cl mW GW hr bW .nil pass0 (pa_cons (pv 1) pa_nil)) pe_non (nomark _))))), ?_⟩
    obtain ⟨dx, ho⟩ := web.ob
    refine ⟨.ref x, rfl, x, dx, _, rfl, ho, has_no a d, .str y, rfl, x, a, d, ts, F0, y, wy, rfl, web, hy, fun H1 s1 => ⟨true, rfl, iteT ?_⟩⟩
    have w1 := web.same s1
    obtain ⟨dx1, ho1⟩ := w1.ob
    exact ⟨.ref x, rfl, x, dx1, _, rfl, ho1, wh_no a d, .str y, rfl, x, a, d, ts, F0, y, wy, rfl, w1, hy, fun H2 s2 => ⟨rfl, q H2 (s1.trans s2)⟩⟩
/-! ### check_calls -/
def spChkCalls (K : PySem.W.Frag) (C : Addr) : Sp := fun vs H Q _ => ∃ (x a d : Addr) (ts : List Addr) (F : Folk) (c : Addr) (cs : List Str), vs = [.ref x, .ref c] ∧
  WebAt K C H x a d ts F ∧ SqT K H c (strV cs) ∧ cs.length ≤ 400 ∧ CallsOk F cs ∧ ∀ H', Same H H' → Q .non H'
theorem scCC : FnScope ["web", "calls", "place", "name"] ["web", "calls"] (defScope sChkCalls) :=
  ⟨rfl, rfl, rfl, by decide +kernel, rfl, by decide +kernel, by decide +kernel⟩
theorem ok_chkCalls {f fF C : Addr} {fd fdF : FuncData} (F : Fun K "check_calls" "check_calls" sChkCalls f fd) (T : Tx mg) (R : Tr K mg C)
    (FF : Fun K "follows" "follows" sFollows fF fdF) (bF : Binds K fdF ["web", "thing"] []) (gF : mg "follows" = some (.ref fF)) (GF : FnOk P w K mg base CX0 5 fF fdF ["web", "thing"] (spFollows K C)) :
    FnOk P w K mg base CX0 6 f fd ["web", "calls"] (spChkCalls K C) := by
  refine F.ok scCC (fun vs H Q E h => ?_) (fun cdv A outer s H vs Q E hr h => ?_)
  · obtain ⟨x, a, d, ts, F0, c, cs, rfl, _⟩ := h
    rfl
  · obtain ⟨x, a, d, ts, F0, c, cs, rfl, web, hS, h4, ca, q⟩ := h
    obtain ⟨tc, mc⟩ := R.mc
    refine ⟨_, pss_cons (ps_if (PW.pt (pw_or (pt_not (pt_val (pe_callB call_isi (by rfl) T.isi boot_isinstance (pa_cons (pv 1) (pa_cons (pe_bltn (v := .ty "tuple") (by rfl) T.tup PyProof.Rows.boot_tuple rfl) pa_nil)))))
        (pw_or1 (pt_cmpR op_gt (pe_callB call_len_seq (by rfl) T.len PySem.boot_len (pa_cons (pv 1) pa_nil)) (pe_glob (v := .int 400) (by rfl) mc ⟨_, rfl⟩) (nomark _))))) (pss_one ps_never) pss_nil)
      (pss_one (ps_for PassesOwn.never rfl (pi_enumT (by rfl) T.enu (pa_cons (pv 1) pa_nil))
        (pg_tup (by rfl) (pgs_cons (pg_name (i := 2) scCC.nd rfl (Or.inl rfl)) (pgs_cons (pg_name (i := 3) scCC.nd rfl (Or.inl rfl)) pgs_nil)))
        (pss_one (ps_if (pt_not (pt_val (pe_call GF hr (by rfl) gF FF.kp bF .nil pass0 (pa_cons (pv 0) (pa_cons (pv 3) pa_nil))))) (pss_one ps_never) pss_nil)))), ?_⟩
    refine ⟨.ref c, rfl, .ref c, .ty "tuple", .type "tuple", .type "tuple", true, rfl, .ty "tuple", tyx_tup hS, kit_ty (by decide +kernel), true, rfl, iteF ?_⟩
    refine ⟨.ref c, rfl, c, _, rfl, .inr hS, _, 400, rfl, rfl, false, blF (by rw [strV_len]; omega), iteF ?_⟩
    refine ⟨.ref c, rfl, c, _, rfl, hS, for_it walk_enumT (fun i σ H1 => ∃ y z, σ = [some (.ref x), some (.ref c), y, z] ∧ Same H H1) ⟨none, none, rfl, Same.refl H⟩ (fun i σ H1 _ ⟨_, _, _, sm⟩ => Same.tup sm hS) ?_ ?_⟩
    · rintro i v σ H1 H2 lt ⟨y, z, rfl, sm⟩ ⟨Tp, v1, v2, rfl, nT, rfl, e1, e2⟩
      cases e1
      obtain ⟨t, ht, rfl⟩ := strV_inv e2
      obtain ⟨m, hw⟩ := ca t (List.mem_of_getElem? ht)
      have s2 := sm.trans (same_upd (o := .tup [.int (i : Nat), .str t]) nT)
      refine ⟨Tp, [.int (i : Nat), .str t], rfl, .inl (.inl upd_same), rfl, .int (i : Nat), [.str t], rfl, .str t, [], rfl, rfl, ?_⟩
      refine ⟨.ref x, rfl, .str t, rfl, x, a, d, ts, F0, t, some m, rfl, web.same s2, hw, fun H3 s3 => ⟨true, rfl, iteF ?_⟩⟩
      exact ⟨_, _, rfl, s2.trans s3⟩
    · rintro σ H1 ⟨y, z, rfl, sm⟩
      exact q H1 sm
end
end Hee


set_option Elab.async false
set_option linter.all false
set_option maxRecDepth 100000
namespace Hee
open PySem PySem.Spec PyProof.Rows L2
section
variable {P : Program} {w : World} {K : PySem.W.Frag}
  {mg : Str → Option Value} {base : Heap}
theorem othL_step {l : List Str} {y : Str} {i : Nat} {z : Str} (h : l[i]? = some z) : strV (othL (l.take (i + 1)) y) = strV (othL (l.take i) y) ++ (if (!decide (V.str z = V.str y)) = true then [V.str z] else []) := by
  unfold othL strV
  rw [List.take_add_one, h, List.filter_append, List.map_append]
  congr 1
  show List.map V.str (List.filter _ [z]) = _
  rw [List.filter_cons, List.filter_nil]
  split <;> rfl
theorem othL_len (l : List Str) (y : Str) : (othL l y).length ≤ l.length := List.length_filter_le _ _
/-! ### stepped -/
def spStepped (K : PySem.W.Frag) (C : Addr) : Sp := fun vs H Q _ => ∃ (x a d : Addr) (ts : List Addr) (F : Folk) (r : Addr) (l : List Str) (y m : Str), vs = [.ref x, .ref r, .str y] ∧
  WebAt K C H x a d ts F ∧ SqT K H r (strV l) ∧ RowOk F l ∧ lookF F y = some (some m) ∧ ∀ p H', Same H H' → H' p = some (.tup (strV (stepL l y m))) → Q (.ref p) H'
abbrev NSt : List Str := ["web", "row", "name", "others", "other", "at"]
theorem scSt : FnScope NSt ["web", "row", "name"] (defScope sStepped) :=
  ⟨rfl, rfl, rfl, by decide +kernel, rfl, by decide +kernel, by decide +kernel⟩
theorem put_V {o : List Str} {y m : Str} (hm : m ∈ o) : cutV (strV o) none (some ((o.idxOf m : Nat) + 1 : Int)) ++ V.str y :: cutV (strV o) (some ((o.idxOf m : Nat) + 1 : Int)) none = strV (putL o y m) := by
  have lt := List.idxOf_lt_length_iff.mpr hm
  have e : ((o.idxOf m : Nat) + 1 : Int) = ((spotL o m : Nat) : Int) := by unfold spotL; omega
  rw [e, cut_head o (by unfold spotL; omega), cut_tail o (by unfold spotL; omega)]
  unfold putL strV
  rw [List.map_append]
  rfl
theorem str_eqV {z y : Str} : eqV (.str z) (.str y) = (z == y) := rfl
theorem ok_stepped {f fW C : Addr} {fd fdW : FuncData} (F : Fun K "stepped" "stepped" sStepped f fd) (T : Tx mg) (W : Tw K mg C)
    (bW : Binds K fdW ["self", "name"] []) (mW : Meth K C "whom" fW) (GW : FnOk P w K mg base CX0 4 fW fdW ["self", "name"] (spWhom K C)) :
    FnOk P w K mg base CX0 5 f fd ["web", "row", "name"] (spStepped K C) := by
  refine F.ok scSt (fun vs H Q E h => ?_) (fun cdv A outer s H vs Q E hr h => ?_)
  · obtain ⟨x, a, d, ts, F0, r, l, y, m, rfl, _⟩ := h
    rfl
  · obtain ⟨x, a, d, ts, F0, r, l, y, m, rfl, web, hS, ro, hy, q⟩ := h
    refine ⟨_, pss_cons (ps_setLc (i := 3) (own := [("other", 4)]) (g := gName 4) (by rfl) scSt.nd rfl rfl (sw_true rfl rfl rfl (by decide +kernel)) (pi_tup (pv 1))
        (blkOk_by (N := NSt) (sc := defScope sStepped) (by decide +kernel)) (fun _ _ _ _ _ => pg_name (i := 4) scSt.nd rfl (Or.inl rfl))
        (fun _ _ _ _ _ => pts_one (pt_cmpR op_ne (pv 4) (pv 2) (nomark _))) (fun _ _ _ _ _ => pv 4))
      (pss_cons (ps_set (i := 5) scSt.nd rfl (Or.inl rfl) (pe_op op_add (pe_bm PySem.F.plainAttrs_list PySem.F.slot_list_index PySem.F.type_list_index mt_index (pv 3)
        (pa_cons (pe_meth (pv 0) W.cl mW GW hr bW .nil pass0 (pa_cons (pv 2) pa_nil)) pa_nil)) pe_int))
      (pss_one (ps_ret (pe_tup (StX.pa_star (pe_slice sl_list (pv 3) po_none (po_some (pv 5))) (pa_cons (pv 2) (StX.pa_star (pe_slice sl_list (pv 3) (po_some (pv 5)) po_none) pa_nil))))))), ?_⟩
    have ok := web.ok
    have hl := (ro.nm ok).2
    refine ⟨.ref r, rfl, r, rfl, ⟨_, hS⟩, fun D hD => ?_⟩
    refine lc_tup (K := K) (a := r) (xs := strV l) (fun i H2 => H2 D = some (.lst (strV (othL (l.take i) y))) ∧ Same H H2) ⟨upd_same, same_upd hD⟩ (fun i H2 _ h => Same.tup h.2 hS) ?_ ?_
    · rintro i v H2 hv ⟨hd2, sm⟩
      obtain ⟨z, hz, rfl⟩ := strV_inv hv
      rw [othL_step hz]
      refine ⟨rfl, .str z, rfl, .str y, rfl, rfl, _, rfl, ?_⟩
      have ln := othL_len (l.take i) y
      rw [List.length_take] at ln
      by_cases hb : (!decide (V.str z = V.str y)) = true
      · rw [hb]
        refine iteT ⟨.str z, rfl, _, hd2, by rw [strV_len]; exact small_lt (by omega), by rw [upd_same, if_pos rfl], fun b o e => ?_⟩
        rw [upd_ne (ne_of_none e hD)]
        exact sm b o e
      · rw [eq_false_of_ne_true hb]
        refine iteF ?_
        rw [if_neg Bool.false_ne_true, List.append_nil]
        exact ⟨hd2, sm⟩
    · rintro H2 ⟨hd2, sm⟩
      rw [strV_len, List.take_length] at hd2
      have w2 := web.same sm
      obtain ⟨dx, ho⟩ := w2.ob
      have hm := mate_in ok ro hy
      have Pl := place_of hm
      refine ⟨.ref D, rfl, .inl ⟨rfl, _, SqL.of hd2⟩, .ref x, rfl, x, dx, _, rfl, ho, wh_no a d, .str y, rfl, x, a, d, ts, F0, y, some m, rfl, w2, hy, fun H3 s3 => ?_⟩
      have hd3 := s3 _ _ hd2
      refine ⟨D, strV (othL l y), .str m, (othL l y).idxOf m, .str m, rfl, rfl, SqL.of hd3, rfl, flat_str _, strV_get Pl.here, by rw [str_eqV]; exact beq_self_eq_true m, fun k z' hk e => ?_, _, 1, rfl, rfl, ?_⟩
      · obtain ⟨z, hz, rfl⟩ := strV_inv e
        rw [str_eqV]
        exact beq_eq_false_iff_ne.mpr fun e2 => Pl.none k hk (e2 ▸ hz)
      refine ⟨.ref D, rfl, .int _, rfl, _, rfl, D, _, rfl, SqL.of hd3, fun p1 n1 => ?_⟩
      have s4 := same_upd (o := .lst (cutV (strV (othL l y)) none (some (((othL l y).idxOf m : Nat) + 1 : Int)))) n1
      refine ⟨p1, _, rfl, .inr (SqL.of upd_same), .str y, rfl, .ref D, rfl, .int _, rfl, _, rfl, D, _, rfl, SqL.of (s4 _ _ hd3), fun p2 n2 => ?_⟩
      have s5 := same_upd (o := .lst (cutV (strV (othL l y)) (some (((othL l y).idxOf m : Nat) + 1 : Int)) none)) n2
      refine ⟨p2, _, rfl, .inr (SqL.of upd_same), ?_⟩
      have e : cutV (strV (othL l y)) none (some (((othL l y).idxOf m : Nat) + 1 : Int)) ++ V.str y :: (cutV (strV (othL l y)) (some (((othL l y).idxOf m : Nat) + 1 : Int)) none ++ []) = strV (putL (othL l y) y m) := by
        rw [List.append_nil, put_V hm]
      show (cutV (strV (othL l y)) none (some (((othL l y).idxOf m : Nat) + 1 : Int)) ++ V.str y :: (cutV (strV (othL l y)) (some (((othL l y).idxOf m : Nat) + 1 : Int)) none ++ [])).length ≤ sizeLine ∧ ∀ p, _ →
        Q (.ref p) (upd _ p (.tup (cutV (strV (othL l y)) none (some (((othL l y).idxOf m : Nat) + 1 : Int)) ++ V.str y :: (cutV (strV (othL l y)) (some (((othL l y).idxOf m : Nat) + 1 : Int)) none ++ []))))
      rw [e]
      have l12 : (putL (othL l y) y m).length ≤ 13 := by
        rw [(put_perm (othL l y) y m).length_eq, List.length_cons]
        have := othL_len l y
        omega
      refine ⟨by rw [strV_len]; exact small_le (by omega), fun p np => ?_⟩
      exact q p _ ((((sm.trans s3).trans s4).trans s5).trans (same_upd np)) upd_same
/-! ### done -/
def spDone (K : PySem.W.Frag) (C : Addr) : Sp := fun vs H Q _ => ∃ (x a d : Addr) (ts : List Addr) (F : Folk) (r : Addr) (l : List Str) (c : Addr) (cs : List Str), vs = [.ref x, .ref r, .ref c] ∧
  WebAt K C H x a d ts F ∧ SqT K H r (strV l) ∧ RowOk F l ∧ SqT K H c (strV cs) ∧ cs.length ≤ 400 ∧ CallsOk F cs ∧ ∀ p H', Same H H' → SqT K H' p (strV (walkL F l cs)) → Q (.ref p) H'
theorem scDo : FnScope ["web", "row", "calls", "name"] ["web", "row", "calls"] (defScope sDone) :=
  ⟨rfl, rfl, rfl, by decide +kernel, rfl, by decide +kernel, by decide +kernel⟩
theorem CallsOk.take {F : Folk} {cs : List Str} (h : CallsOk F cs) (i : Nat) : CallsOk F (cs.take i) := fun c hc => h c (List.mem_of_mem_take hc)
theorem CallsOk.drop {F : Folk} {cs : List Str} (h : CallsOk F cs) (i : Nat) : CallsOk F (cs.drop i) := fun c hc => h c (List.mem_of_mem_drop hc)
theorem walk_next {F : Folk} {l cs : List Str} {i : Nat} {c m : Str} (h : cs[i]? = some c) (hm : lookF F c = some (some m)) : walkL F l (cs.take (i + 1)) = stepL (walkL F l (cs.take i)) c m := by
  rw [List.take_add_one, h, walk_app]
  show stepL _ c (mateF F c) = _
  rw [mate_eq hm]
theorem ok_done {f fB fR fD fS C : Addr} {fd fdB fdR fdD fdS : FuncData} (F : Fun K "done" "done" sDone f fd)
    (FB : Fun K "check_web" "check_web" sChkWeb fB fdB) (bB : Binds K fdB ["web"] []) (gB : mg "check_web" = some (.ref fB)) (GB : FnOk P w K mg base CX0 1 fB fdB ["web"] (spChkWeb K C))
    (FR : Fun K "check_row" "check_row" sChkRow fR fdR) (bR : Binds K fdR ["web", "row"] []) (gR : mg "check_row" = some (.ref fR)) (GR : FnOk P w K mg base CX0 4 fR fdR ["web", "row"] (spChkRow K C))
    (FD : Fun K "check_calls" "check_calls" sChkCalls fD fdD) (bD : Binds K fdD ["web", "calls"] []) (gD : mg "check_calls" = some (.ref fD)) (GD : FnOk P w K mg base CX0 6 fD fdD ["web", "calls"] (spChkCalls K C))
    (FS : Fun K "stepped" "stepped" sStepped fS fdS) (bS : Binds K fdS ["web", "row", "name"] []) (gS : mg "stepped" = some (.ref fS)) (GS : FnOk P w K mg base CX0 5 fS fdS ["web", "row", "name"] (spStepped K C)) :
    FnOk P w K mg base CX0 7 f fd ["web", "row", "calls"] (spDone K C) := by
  refine F.ok scDo (fun vs H Q E h => ?_) (fun cdv A outer s H vs Q E hr h => ?_)
  · obtain ⟨x, a, d, ts, F0, r, l, c, cs, rfl, _⟩ := h
    rfl
  · obtain ⟨x, a, d, ts, F0, r, l, c, cs, rfl, web, hS, ro, hC, h4, ca, q⟩ := h
    refine ⟨_, pss_cons (ps_expr (pe_call GB (hr.mono (by decide)) (by rfl) gB FB.kp bB .nil pass0 (pa_cons (pv 0) pa_nil)))
      (pss_cons (ps_expr (pe_call GR (hr.mono (by decide)) (by rfl) gR FR.kp bR .nil pass0 (pa_cons (pv 0) (pa_cons (pv 1) pa_nil))))
      (pss_cons (ps_expr (pe_call GD hr (by rfl) gD FD.kp bD .nil pass0 (pa_cons (pv 0) (pa_cons (pv 2) pa_nil))))
      (pss_cons (ps_for PassesOwn.never rfl (pi_tup (pv 2)) (pg_name (i := 3) scDo.nd rfl (Or.inl rfl))
        (pss_one (ps_set (i := 1) scDo.nd rfl (Or.inl rfl) (pe_call GS (hr.mono (by decide)) (by rfl) gS FS.kp bS .nil pass0 (pa_cons (pv 0) (pa_cons (pv 1) (pa_cons (pv 3) pa_nil)))))))
      (pss_one (ps_ret (pv 1)))))), ?_⟩
    refine ⟨.ref x, rfl, x, a, d, ts, F0, rfl, web, ?_⟩
    refine ⟨.ref x, rfl, .ref r, rfl, x, a, d, ts, F0, r, l, rfl, web, hS, ro, fun H1 s1 => ?_⟩
    refine ⟨.ref x, rfl, .ref c, rfl, x, a, d, ts, F0, c, cs, rfl, web.same s1, Same.tup s1 hC, h4, ca, fun H2 s2 => ?_⟩
    have s12 := s1.trans s2
    refine ⟨.ref c, rfl, c, rfl, ⟨_, Same.tup s12 hC⟩, for_tup (K := K) (a := c) (xs := strV cs) (fun i σ Hi => ∃ (rr : Addr) (z : Option V), σ = [some (.ref x), some (.ref rr), some (.ref c), z] ∧ Same H Hi ∧ SqT K Hi rr (strV (walkL F0 l (cs.take i))))
      ⟨r, none, rfl, s12, Same.tup s12 hS⟩ (fun i σ Hi _ ⟨_, _, _, sm, _⟩ => Same.tup sm hC) ?_ ?_⟩
    · rintro i v σ Hi hv ⟨rr, z, rfl, sm, hR⟩
      obtain ⟨t, ht, rfl⟩ := strV_inv hv
      obtain ⟨m, hm⟩ := ca t (List.mem_of_getElem? ht)
      refine ⟨.ref x, rfl, .ref rr, rfl, .str t, rfl, x, a, d, ts, F0, rr, _, t, m, rfl, web.same sm, hR, RowOk.walk web.ok ro (ca.take i), hm, fun p H3 s3 hp => ?_⟩
      refine ⟨p, _, rfl, sm.trans s3, ?_⟩
      rw [walk_next ht hm]
      exact .inl (.inl hp)
    · rintro σ Hi ⟨rr, z, rfl, sm, hR⟩
      rw [strV_len, List.take_length] at hR
      exact ⟨.ref rr, rfl, q rr Hi sm hR⟩
end
end Hee


set_option Elab.async false
set_option linter.all false
set_option maxRecDepth 100000
namespace Hee
open PySem PySem.Spec PyProof.Rows L2
abbrev sSome : Stmt := top 44
abbrev sStep : Stmt := top 45
abbrev sWalked : Stmt := top 46
section
variable {P : Program} {w : World} {K : PySem.W.Frag}
  {mg : Str → Option Value} {base : Heap}
/-! ### step, walked -/
def spStep (K : PySem.W.Frag) : Sp := fun vs H Q _ => ∃ (a : Addr) (o : Obj) (ts : List Addr) (F : Folk) (r : Addr) (l : List Str) (y m : Str), vs = [.ref a, .ref r, .str y] ∧
  FolkAt K H a o ts F ∧ SqT K H r (strV l) ∧ RowOk F l ∧ lookF F y = some (some m) ∧ ∀ p (ob : Obj) H', Same H H' → H' p = some (.frz ob (.tup (strV (stepL l y m)))) → ob.dict = none → Q (.ref p) H'
abbrev NSp : List Str := ["_law_folk_here", "_law_queue", "_law_one", "_law_rest", "_law_mate", "_law_spot"]
theorem scSp : FnScope NSp ["_law_folk_here", "_law_queue", "_law_one"] (defScope sStep) :=
  ⟨rfl, rfl, rfl, by decide +kernel, rfl, by decide +kernel, by decide +kernel⟩
theorem put_V2 {o : List Str} {y m : Str} (hm : m ∈ o) : (cutV (strV o) none (some ((o.idxOf m : Nat) + 1 : Int)) ++ [V.str y]) ++ cutV (strV o) (some ((o.idxOf m : Nat) + 1 : Int)) none = strV (putL o y m) := by
  rw [List.append_assoc]
  exact put_V hm
theorem ok_step {f : Addr} {fd : FuncData} (F : Fun K "_law_step" "_law_step" sStep f fd) (T : Tx mg) (Y : Ty mg) :
    FnOk P w K mg base CX0 1 f fd ["_law_folk_here", "_law_queue", "_law_one"] (spStep K) := by
  refine F.ok scSp (fun vs H Q E h => ?_) (fun cdv A outer s H vs Q E hr h => ?_)
  · obtain ⟨a, o, ts, F0, r, l, y, m, rfl, _⟩ := h
    rfl
  · obtain ⟨a, o, ts, F0, r, l, y, m, rfl, fo, hS, ro, hy, q⟩ := h
    have hu := hu_of hr
    refine ⟨_, pss_cons (ps_setLc (i := 3) (own := [("_law_mate", 4)]) (g := gName 4) (by rfl) scSp.nd rfl rfl (sw_true rfl rfl rfl (by decide +kernel)) (pi_tup (pv 1))
        (blkOk_by (N := NSp) (sc := defScope sStep) (by decide +kernel)) (fun _ _ _ _ _ => pg_name (i := 4) scSp.nd rfl (Or.inl rfl))
        (fun _ _ _ _ _ => pts_one (pt_cmpR op_ne (pv 4) (pv 2) (nomark _))) (fun _ _ _ _ _ => pv 4))
      (pss_cons (ps_set (i := 5) scSp.nd rfl (Or.inl rfl) (pe_op op_add (pe_bm PySem.F.plainAttrs_list PySem.F.slot_list_index PySem.F.type_list_index mt_index (pv 3)
        (pa_cons (pe_dget hu (pe_callTy (call_dictT rfl) (by rfl) Y.dict (by decide +kernel) (pa_cons (pv 0) pa_nil)) (pv 2) (fun _ _ => rfl)) pa_nil)) pe_int))
      (pss_one (ps_ret (pe_callTy call_tupleF (by rfl) T.tup PyProof.Rows.boot_tuple (pa_cons (pe_op op_cat (pe_op op_cat (pe_slice sl_list (pv 3) po_none (po_some (pv 5))) (pe_lst (pa_cons (pv 2) pa_nil)))
        (pe_slice sl_list (pv 3) (po_some (pv 5)) po_none)) pa_nil))))), ?_⟩
    have ok := fo.ok
    have hl := (ro.nm ok).2
    refine ⟨.ref r, rfl, r, rfl, ⟨_, hS⟩, fun D hD => ?_⟩
    refine lc_tup (K := K) (a := r) (xs := strV l) (fun i H2 => H2 D = some (.lst (strV (othL (l.take i) y))) ∧ Same H H2) ⟨upd_same, same_upd hD⟩ (fun i H2 _ h => Same.tup h.2 hS) ?_ ?_
    · rintro i v H2 hv ⟨hd2, sm⟩
      obtain ⟨z, hz, rfl⟩ := strV_inv hv
      rw [othL_step hz]
      refine ⟨rfl, .str z, rfl, .str y, rfl, rfl, _, rfl, ?_⟩
      have ln := othL_len (l.take i) y
      rw [List.length_take] at ln
      by_cases hb : (!decide (V.str z = V.str y)) = true
      · rw [hb]
        refine iteT ⟨.str z, rfl, _, hd2, by rw [strV_len]; exact small_lt (by omega), by rw [upd_same, if_pos rfl], fun b o e => ?_⟩
        rw [upd_ne (ne_of_none e hD)]
        exact sm b o e
      · rw [eq_false_of_ne_true hb]
        refine iteF ?_
        rw [if_neg Bool.false_ne_true, List.append_nil]
        exact ⟨hd2, sm⟩
    · rintro H2 ⟨hd2, sm⟩
      rw [strV_len, List.take_length] at hd2
      have f2 := fo.same sm
      have nd := rises_nodup ok.rise
      have hm := mate_in ok ro hy
      have Pl := place_of hm
      have lo := othL_len l y
      refine ⟨.ref D, rfl, .inl ⟨rfl, _, SqL.of hd2⟩, .ref a, rfl, a, o, ts, kvsOf F0, rfl, f2.ob, f2.od, paired_of f2.ps.2.1 f2.ps.2.2, fun dd ndd => ?_⟩
      rw [show mergeK [] (kvsOf F0) = kvsOf F0 from merge_kvs F0 [] nd]
      have s3 := same_upd (o := .dK (kvsOf F0)) ndd
      have hg : DGet (upd H2 dd (.dK (kvsOf F0))) dd (.str y) (some (.str m)) := by
        have := DGet.k (k := Sum.inr y) (upd_same (H := H2) (a := dd) (o := .dK (kvsOf F0)))
        rw [val_kvs, hy] at this
        exact this
      have hd3 := s3 _ _ hd2
      refine ⟨.str y, rfl, dd, .str m, rfl, hg, ?_⟩
      refine ⟨D, strV (othL l y), .str m, (othL l y).idxOf m, .str m, rfl, rfl, SqL.of hd3, rfl, flat_str _, strV_get Pl.here, by rw [str_eqV]; exact beq_self_eq_true m, fun k z' hk e => ?_, _, 1, rfl, rfl, ?_⟩
      · obtain ⟨z, hz, rfl⟩ := strV_inv e
        rw [str_eqV]
        exact beq_eq_false_iff_ne.mpr fun e2 => Pl.none k hk (e2 ▸ hz)
      have c1 := cutV_length (strV (othL l y)) none (some (((othL l y).idxOf m : Nat) + 1 : Int))
      have c2 := cutV_length (strV (othL l y)) (some (((othL l y).idxOf m : Nat) + 1 : Int)) none
      rw [strV_len] at c1 c2
      refine ⟨.ref D, rfl, .int _, rfl, _, rfl, D, _, rfl, SqL.of hd3, fun p1 n1 => ?_⟩
      have s4 := same_upd (o := .lst (cutV (strV (othL l y)) none (some (((othL l y).idxOf m : Nat) + 1 : Int)))) n1
      refine ⟨.str y, rfl, (by show 1 ≤ sizeLine; decide), fun p2 n2 => ?_⟩
      have s5 := same_upd (o := .lst [.str y]) n2
      refine ⟨p1, p2, _, _, rfl, rfl, s5 _ _ upd_same, upd_same, small_le (by simp only [List.length_singleton]; omega), fun p3 n3 => ?_⟩
      have s6 := same_upd (o := .lst (cutV (strV (othL l y)) none (some (((othL l y).idxOf m : Nat) + 1 : Int)) ++ [.str y])) n3
      refine ⟨.ref D, rfl, .int _, rfl, _, rfl, D, _, rfl, SqL.of (s6 _ _ (s5 _ _ (s4 _ _ hd3))), fun p4 n4 => ?_⟩
      have s7 := same_upd (o := .lst (cutV (strV (othL l y)) (some (((othL l y).idxOf m : Nat) + 1 : Int)) none)) n4
      refine ⟨p3, p4, _, _, rfl, rfl, s7 _ _ upd_same, upd_same, small_le (by simp only [List.length_append, List.length_singleton]; omega), fun p5 n5 => ?_⟩
      have s8 := same_upd (o := .lst ((cutV (strV (othL l y)) none (some (((othL l y).idxOf m : Nat) + 1 : Int)) ++ [.str y]) ++ cutV (strV (othL l y)) (some (((othL l y).idxOf m : Nat) + 1 : Int)) none)) n5
      refine ⟨p5, _, rfl, SqL.of upd_same, fun p ob np od => ?_⟩
      refine q p ob _ (((((((sm.trans s3).trans s4).trans s5).trans s6).trans s7).trans s8).trans (same_upd np)) ?_ od
      rw [upd_same, put_V2 hm]
      rfl
def spWalked (K : PySem.W.Frag) : Sp := fun vs H Q _ => ∃ (a : Addr) (o : Obj) (ts : List Addr) (F : Folk) (r : Addr) (l : List Str) (c : Addr) (cs : List Str), vs = [.ref a, .ref r, .ref c] ∧
  FolkAt K H a o ts F ∧ SqT K H r (strV l) ∧ RowOk F l ∧ SqT K H c (strV cs) ∧ CallsOk F cs ∧ ∀ p H', Same H H' → SqT K H' p (strV (walkL F l cs)) → Q (.ref p) H'
theorem scWk : FnScope ["_law_folk_here", "_law_queue", "_law_some_here", "_law_one"] ["_law_folk_here", "_law_queue", "_law_some_here"] (defScope sWalked) :=
  ⟨rfl, rfl, rfl, by decide +kernel, rfl, by decide +kernel, by decide +kernel⟩
theorem ok_walked {f fS : Addr} {fd fdS : FuncData} (F : Fun K "_law_walked" "_law_walked" sWalked f fd)
    (FS : Fun K "_law_step" "_law_step" sStep fS fdS) (bS : Binds K fdS ["_law_folk_here", "_law_queue", "_law_one"] []) (gS : mg "_law_step" = some (.ref fS)) (GS : FnOk P w K mg base CX0 1 fS fdS ["_law_folk_here", "_law_queue", "_law_one"] (spStep K)) :
    FnOk P w K mg base CX0 2 f fd ["_law_folk_here", "_law_queue", "_law_some_here"] (spWalked K) := by
  refine F.ok scWk (fun vs H Q E h => ?_) (fun cdv A outer s H vs Q E hr h => ?_)
  · obtain ⟨a, o, ts, F0, r, l, c, cs, rfl, _⟩ := h
    rfl
  · obtain ⟨a, o, ts, F0, r, l, c, cs, rfl, fo, hS, ro, hC, ca, q⟩ := h
    refine ⟨_, pss_cons (ps_for PassesOwn.never rfl (pi_tup (pv 2)) (pg_name (i := 3) scWk.nd rfl (Or.inl rfl))
        (pss_one (ps_set (i := 1) scWk.nd rfl (Or.inl rfl) (pe_call GS hr (by rfl) gS FS.kp bS .nil pass0 (pa_cons (pv 0) (pa_cons (pv 1) (pa_cons (pv 3) pa_nil)))))))
      (pss_one (ps_ret (pv 1))), ?_⟩
    refine ⟨.ref c, rfl, c, rfl, ⟨_, hC⟩, for_tup (K := K) (a := c) (xs := strV cs) (fun i σ Hi => ∃ (rr : Addr) (z : Option V), σ = [some (.ref a), some (.ref rr), some (.ref c), z] ∧ Same H Hi ∧ SqT K Hi rr (strV (walkL F0 l (cs.take i))))
      ⟨r, none, rfl, Same.refl H, hS⟩ (fun i σ Hi _ ⟨_, _, _, sm, _⟩ => Same.tup sm hC) ?_ ?_⟩
    · rintro i v σ Hi hv ⟨rr, z, rfl, sm, hR⟩
      obtain ⟨t, ht, rfl⟩ := strV_inv hv
      obtain ⟨m, hm⟩ := ca t (List.mem_of_getElem? ht)
      refine ⟨.ref a, rfl, .ref rr, rfl, .str t, rfl, a, o, ts, F0, rr, _, t, m, rfl, fo.same sm, hR, RowOk.walk fo.ok ro (ca.take i), hm, fun p ob H3 s3 hp _ => ?_⟩
      refine ⟨p, _, rfl, sm.trans s3, ?_⟩
      rw [walk_next ht hm]
      exact .inl (.inr ⟨ob, hp⟩)
    · rintro σ Hi ⟨rr, z, rfl, sm, hR⟩
      rw [strV_len, List.take_length] at hR
      exact ⟨.ref rr, rfl, q rr Hi sm hR⟩
end
end Hee


set_option Elab.async false
set_option linter.all false
set_option maxRecDepth 100000
namespace Hee
open PySem PySem.Spec PyProof.Rows L2
/-! ### all but the purse stays -/
def Kp (p : Addr) (H H' : Hp) : Prop := ∀ b o, b ≠ p → H b = some o → H' b = some o
theorem Kp.of {p : Addr} {H H' : Hp} (e : Same H H') : Kp p H H' := fun b o _ h => e b o h
theorem Kp.trans {p : Addr} {H H' H2 : Hp} (a : Kp p H H') (b : Kp p H' H2) : Kp p H H2 := fun c o n h => b c o n (a c o n h)
theorem Kp.at {p a : Addr} {H H' : Hp} {o : HO} (pu : Purse H p) (k : Kp p H H') (n : ∀ xs, o ≠ .lst xs) (h : H a = some o) : H' a = some o := by
  refine k a o ?_ h
  rintro rfl
  obtain ⟨s, d, c, e, _⟩ := pu
  rw [e] at h
  exact n _ (Option.some.inj h).symm
theorem Kp.tup {K : PySem.W.Frag} {p a : Addr} {H H' : Hp} {xs : List V} (pu : Purse H p) (k : Kp p H H') (h : SqT K H a xs) : SqT K H' a xs :=
  Or.imp (Or.imp (Kp.at pu k fun _ e => nomatch e) fun ⟨o, q⟩ => ⟨o, Kp.at pu k (fun _ e => nomatch e) q⟩) id h
theorem Kp.pers {K : PySem.W.Frag} {p a : Addr} {H H' : Hp} {ts : List Addr} {F : Folk} (pu : Purse H p) (k : Kp p H H') (h : PersAt K H a ts F) : PersAt K H' a ts F :=
  ⟨Kp.tup pu k h.1, h.2.1, fun i t q h1 h2 => Kp.tup pu k (h.2.2 i t q h1 h2)⟩
theorem Kp.folk {K : PySem.W.Frag} {p a : Addr} {o : Obj} {H H' : Hp} {ts : List Addr} {F : Folk} (pu : Purse H p) (k : Kp p H H') (f : FolkAt K H a o ts F) : FolkAt K H' a o ts F :=
  ⟨Kp.at pu k (fun _ e => nomatch e) f.ob, f.od, Kp.pers pu k f.ps, f.ok⟩
theorem Kp.web {K : PySem.W.Frag} {C p x a d : Addr} {H H' : Hp} {ts : List Addr} {F : Folk} (pu : Purse H p) (k : Kp p H H') (w : WebAt K C H x a d ts F) : WebAt K C H' x a d ts F :=
  ⟨let ⟨dx, h⟩ := w.ob; ⟨dx, Kp.at pu k (fun _ e => nomatch e) h⟩, Kp.at pu k (fun _ e => nomatch e) w.dc, Kp.pers pu k w.ps, w.ok⟩
/-! ### those who follow -/
def callF (F : Folk) : List Str := (F.filter fun p => !decide (optV p.2 = V.non)).map Prod.fst
theorem callF_step {F : Folk} {i : Nat} {p : Str × Option Str} (h : F[i]? = some p) : strV (callF (F.take (i + 1))) = strV (callF (F.take i)) ++ (if (!decide (optV p.2 = V.non)) = true then [V.str p.1] else []) := by
  unfold callF strV
  rw [List.take_add_one, h, List.filter_append, List.map_append, List.map_append]
  congr 1
  show List.map V.str (List.map Prod.fst (List.filter _ [p])) = _
  rw [List.filter_cons, List.filter_nil]
  split <;> rfl
theorem callF_len (F : Folk) : (callF F).length ≤ F.length := by
  unfold callF
  rw [List.length_map]
  exact List.length_filter_le _ _
theorem callF_ok {F : Folk} (ok : FolkOk F) {c : Str} (h : c ∈ callF F) : ∃ m, lookF F c = some (some m) := by
  unfold callF at h
  obtain ⟨p, hp, rfl⟩ := List.mem_map.mp h
  obtain ⟨h1, h2⟩ := List.mem_filter.mp hp
  rw [look_some (rises_nodup ok.rise) h1]
  cases e : p.2 with
  | none => rw [e] at h2; simp [optV] at h2
  | some m => exact ⟨m, rfl⟩
def lisD (l : List Str) : PyData := .list (l.map .str)
theorem shaped_lis {l : List Str} (hn : ∀ z ∈ l, nameB z = true) : SeqAt.shaped (lisD l) = true := by
  unfold SeqAt.shaped
  have h := depth_strs l
  have e : (lisD l).canLay0 = true := lay_strs hn
  rw [e, decide_eq_true (by simp only [lisD, PyData.depth]; omega)]
  rfl
theorem eqv_nil (l : List Str) : PyData.eqv (lisD l) (lisD []) = l.isEmpty := by
  cases l with
  | nil => decide
  | cons z r => simp [lisD, PyData.eqv, PyData.eqvAll]
theorem dp_lis {K : PySem.W.Frag} {H : Hp} {p : Addr} {l : List Str} (h : SqL K H p (strV l)) : Dp K H (.ref p) (lisD l) := .lst h (dp_strs l)
section
variable {P : Program} {w : World} {K : PySem.W.Frag}
  {mg : Str → Option Value} {base : Heap}
/-! ### some -/
def spSome (K : PySem.W.Frag) : Sp := fun vs H Q _ => ∃ (p a : Addr) (ts : List Addr) (F : Folk) (wd : Int), vs = [.ref p, .ref a, .int wd] ∧ Purse H p ∧ PersAt K H a ts F ∧ FolkOk F ∧ 0 ≤ wd ∧ wd ≤ 400 ∧
  ∀ (cs : List Str) q H', CallsOk F cs → cs.length ≤ 400 → Purse H' p → Kp p H H' → H' q = some (.tup (strV cs)) → Q (.ref q) H'
abbrev NSo : List Str := ["_law_purse_here", "_law_folk_here", "_law_wide", "_law_able", "_law_title", "_law_mate", "_law_many_here", "_law_k"]
theorem scSo : FnScope NSo ["_law_purse_here", "_law_folk_here", "_law_wide"] (defScope sSome) :=
  ⟨rfl, rfl, rfl, by decide +kernel, rfl, by decide +kernel, by decide +kernel⟩
set_option maxHeartbeats 2000000 in
theorem ok_some {f fT : Addr} {fd fdT : FuncData} (F : Fun K "_law_some" "_law_some" sSome f fd) (T : Tx mg) (Y : Ty mg)
    (FT : Fun K "_law_take" "_law_take" sTake fT fdT) (bT : Binds K fdT ["_law_purse_here", "_law_wide"] []) (gT : mg "_law_take" = some (.ref fT)) :
    FnOk P w K mg base CX0 2 f fd ["_law_purse_here", "_law_folk_here", "_law_wide"] (spSome K) := by
  have GT : FnOk P w K mg base CX0 1 fT fdT ["_law_purse_here", "_law_wide"] spTake := ok_take FT Y
  refine F.ok scSo (fun vs H Q E h => ?_) (fun cdv A outer s H vs Q E hr h => ?_)
  · obtain ⟨p, a, ts, F0, wd, rfl, _⟩ := h
    rfl
  · obtain ⟨p, a, ts, F0, wd, rfl, pu, hP, ok, w0, w4, q⟩ := h
    refine ⟨_, pss_cons (ps_set (i := 3) scSo.nd rfl (Or.inr rfl) (pe_lc (own := [("_law_title", 4), ("_law_mate", 5)]) (g := gTup K 2 (gCons (gName 4) (gCons (gName 5) gNil))) rfl scSo.nd (pi_tup (pv 1))
        (blkOk_by (N := NSo) (sc := defScope sSome) (by decide +kernel))
        (fun _ _ _ _ _ => pg_tup (by rfl) (pgs_cons (pg_name (i := 4) scSo.nd rfl (Or.inl rfl)) (pgs_cons (pg_name (i := 5) scSo.nd rfl (Or.inl rfl)) pgs_nil)))
        (fun _ _ _ _ _ => pts_one (pt_cmpR op_notN (pv 5) pe_non (nomark _))) (fun _ _ _ _ _ => pv 4)))
      (pss_cons (ps_set (i := 6) scSo.nd rfl (Or.inl rfl) (pe_op op_mul (pe_call GT hr (by rfl) gT FT.kp bT .nil pass0 (pa_cons (pv 0) (pa_cons (pe_op op_add (pv 2) pe_int) pa_nil)))
        (pe_callTy call_int1 (by rfl) Y.int (by decide +kernel) (pa_cons (pe_cmpR (op_neD hr.units) (pv 3) (pe_lst pa_nil) (nomark _)) pa_nil))))
      (pss_one (ps_ret (pe_callTy call_tuple_of (by rfl) T.tup PyProof.Rows.boot_tuple (pa_cons
        (pe_lc (own := [("_law_k", 7)]) (g := gName 7) (tt := tYes) (te := tOp (rIxL K) (tVar 3) (tCall spTake [] E0 (tCons (tVar 0) (tCons (tCB (fun xs H Q => ∃ p ys, xs = [.ref p] ∧ (SqL K H p ys ∨ SqT K H p ys) ∧ Q (.int ys.length) H) (tCons (tVar 3) tNil)) tNil)))) rfl scSo.nd (pi_range1 (by rfl) T.rng (pa_cons (pv 6) pa_nil))
          (blkOk_by (N := NSo) (sc := defScope sSome) (by decide +kernel)) (fun _ _ _ _ _ => pg_name (i := 7) scSo.nd rfl (Or.inl rfl)) (fun _ _ _ _ _ => pts_nil)
          (fun _ _ _ _ _ => pe_ix ix_list (pv 3) (pe_call GT hr (by rfl) gT FT.kp bT .nil pass0 (pa_cons (pv 0) (pa_cons (pe_callB call_len_seq (by rfl) T.len PySem.boot_len (pa_cons (pv 3) pa_nil)) pa_nil))) (fun _ _ => rfl))) pa_nil))))), ?_⟩
    obtain ⟨hS, hl, hi⟩ := id hP
    have hm := ok.most
    refine ⟨.ref a, rfl, a, rfl, ⟨_, hS⟩, fun D hD => ?_⟩
    have npD : p ≠ D := by obtain ⟨_, _, _, e, _⟩ := pu; exact ne_of_none e hD
    refine lc_tup (K := K) (a := a) (xs := ts.map V.ref) (fun i H2 => H2 D = some (.lst (strV (callF (F0.take i)))) ∧ Same H H2) ⟨upd_same, same_upd hD⟩ (fun i H2 _ h => Same.tup h.2 hS) ?_ ?_
    · rintro i v H2 hv ⟨hd2, sm⟩
      obtain ⟨t, ht, rfl⟩ := map_ref hv
      have lt : i < F0.length := by have := (List.getElem?_eq_some_iff.mp ht).1; omega
      obtain ⟨p0, hp0⟩ : ∃ p0, F0[i]? = some p0 := ⟨F0[i], List.getElem?_eq_getElem lt⟩
      have hln := callF_len (F0.take i)
      rw [List.length_take] at hln
      rw [callF_step hp0]
      refine ⟨t, [.str p0.1, optV p0.2], rfl, Same.tup sm (hi i t p0 ht hp0), rfl, .str p0.1, [optV p0.2], rfl, optV p0.2, [], rfl, rfl, rfl, ?_⟩
      refine ⟨optV p0.2, rfl, rfl, _, rfl, ?_⟩
      by_cases hb : (!decide (optV p0.2 = V.non)) = true
      · rw [hb]
        refine iteT ⟨.str p0.1, rfl, _, hd2, by rw [strV_len]; exact small_lt (by omega), by rw [upd_same, if_pos rfl], fun b o e => ?_⟩
        rw [upd_ne (ne_of_none e hD)]
        exact sm b o e
      · rw [eq_false_of_ne_true hb]
        refine iteF ?_
        rw [if_neg Bool.false_ne_true, List.append_nil]
        exact ⟨hd2, sm⟩
    · rintro H2 ⟨hd2, sm⟩
      rw [List.length_map, hl, List.take_length] at hd2
      have pu2 := pu.keep sm
      refine ⟨.ref p, rfl, .int wd, rfl, wd, 1, rfl, rfl, p, wd + 1, rfl, pu2, by omega, by omega, fun r H3 r0 r1 pu3 kp3 => ?_⟩
      have hd3 := kp3 _ _ npD.symm hd2
      have k3 : Kp p H H3 := Kp.trans (Kp.of sm) kp3
      refine ⟨.ref D, rfl, Nat.zero_le _, fun e0 ne0 => ?_⟩
      have s4 := same_upd (o := .lst []) ne0
      have hd4 := s4 _ _ hd3
      have hn : ∀ z ∈ callF F0, nameB z = true := fun z hz => by obtain ⟨m, hm⟩ := callF_ok ok hz; exact ok.named hm
      refine ⟨lisD (callF F0), lisD [], dp_lis (SqL.of hd4), dp_lis (l := []) (SqL.of upd_same), shaped_lis hn, by decide, .inr ⟨_, rfl, r, _, rfl, rfl, .inl ⟨by omega, by omega⟩, ?_⟩⟩
      rw [eqv_nil]
      have pu4 := pu3.keep s4
      have k4 : Kp p H (upd H3 e0 (.lst [])) := Kp.trans k3 (Kp.of s4)
      generalize upd H3 e0 (HO.lst []) = H4 at hd4 pu4 k4 ⊢
      obtain ⟨M, eM, M4, Mp⟩ : ∃ M : Nat, r * (if (!(callF F0).isEmpty) = true then 1 else 0) = (M : Int) ∧ M ≤ 400 ∧ (0 < M → 0 < (callF F0).length) := by
        cases e : callF F0 with
        | nil => exact ⟨0, by simp, by omega, by omega⟩
        | cons z rr => exact ⟨r.toNat, by simp; omega, by omega, fun _ => by simp⟩
      have eV : ((fun i j => V.int (i * j)) r (if (!(callF F0).isEmpty) = true then 1 else 0) : V) = V.int (M : Int) := congrArg V.int eM
      rw [eV]
      refine ⟨.int M, rfl, M, rfl, by omega, by omega, fun D2 hD2 => ?_⟩
      have npD2 : p ≠ D2 := by obtain ⟨_, _, _, e, _⟩ := pu4; exact ne_of_none e hD2
      have nDD : D ≠ D2 := ne_of_none hd4 hD2
      have nD20 : H D2 = none := free_of pu4 k4 hD2
      have en : ((M : Int)).toNat = M := by omega
      refine lc_range (lo := 0) (n := ((M : Int)).toNat) (fun i Hi => ∃ cs : List Str, cs.length = i ∧ (∀ c ∈ cs, c ∈ callF F0) ∧ Hi D2 = some (.lst (strV cs)) ∧ Hi D = some (.lst (strV (callF F0))) ∧ Purse Hi p ∧ Kp p H Hi)
        ⟨[], rfl, (fun _ h => nomatch h), upd_same, by rw [upd_ne nDD]; exact hd4, pu4.keep (same_upd hD2), Kp.trans k4 (Kp.of (same_upd hD2))⟩ ?_ ?_
      · rintro i Hi lt ⟨cs, lc, all, h2, h1, pui, ki⟩
        rw [en] at lt
        have pos := Mp (by omega)
        have c12 := callF_len F0
        refine ⟨rfl, .ref D, rfl, .ref p, rfl, .ref D, rfl, D, _, rfl, .inl (SqL.of h1), p, _, rfl, pui, by rw [strV_len]; omega, by rw [strV_len]; omega, fun r5 H5 h50 h51 pu5 kp5 => ?_⟩
        rw [strV_len] at h51
        obtain ⟨j, rfl⟩ : ∃ j : Nat, r5 = j := ⟨r5.toNat, by omega⟩
        obtain ⟨c, hc⟩ : ∃ c, (callF F0)[j]? = some c := ⟨_, List.getElem?_eq_getElem (by omega)⟩
        have h15 := kp5 _ _ npD.symm h1
        have h25 := kp5 _ _ npD2.symm h2
        refine ⟨D, _, j, .str c, rfl, rfl, SqL.of h15, atI_nat (strV_get hc), _, h25, by rw [strV_len]; exact small_lt (by omega), cs ++ [c], by rw [List.length_append, lc]; rfl, fun z hz => ?_, ?_, ?_, ?_, ?_⟩
        · rcases List.mem_append.mp hz with y | y
          · exact all z y
          · cases List.mem_singleton.mp y; exact List.mem_of_getElem? hc
        · rw [upd_same, strV_app]
        · rw [upd_ne nDD]; exact h15
        · obtain ⟨x1, x2, x3, e, rr⟩ := pu5
          exact ⟨x1, x2, x3, by rw [upd_ne npD2]; exact e, rr⟩
        · intro b o nb e
          rw [upd_ne (ne_of_none e nD20)]
          exact kp5 b o nb (ki b o nb e)
      · rintro Hi ⟨cs, lc, all, h2, h1, pui, ki⟩
        rw [en] at lc
        refine ⟨D2, strV cs, rfl, .inl ⟨SqL.of h2, fun t nt => ?_⟩⟩
        exact q cs t _ (fun c hc => callF_ok ok (all c hc)) (by omega) (pui.keep (same_upd nt)) (Kp.trans ki (Kp.of (same_upd nt))) upd_same
end
end Hee


set_option Elab.async false
set_option linter.all false
set_option maxRecDepth 100000
namespace Hee
open PySem PySem.Spec PyProof.Rows L2
/-! ### comprehensions turn by turn -/
theorem by_turns {J : It} {n : Nat} {Pv : Nat → Hp → Prop} {Qd : Hp → Prop} {B : Nat → Hp → (Hp → Prop) → Prop} {H0 : Hp} (h0 : Pv 0 H0)
    (go : ∀ i H, i < n → Pv i H → J.go i H ∧ B i H (Pv (i + 1))) (stop : ∀ H, Pv n H → J.stop n H ∧ Qd H) :
    ∃ W : Nat → Nat → Hp → Prop, (∃ m, W 0 m H0) ∧ ∀ i m H, W i m H →
      (J.stop i H ∧ Qd H) ∨ (J.go i H ∧ ∃ Nx : Hp → Prop, (∀ H', Nx H' → ∃ m', m' < m ∧ W (i + 1) m' H') ∧ B i H Nx) := by
  refine ⟨fun i m H => i + m = n ∧ Pv i H, ⟨n, Nat.zero_add n, h0⟩, fun i m H ⟨e, p⟩ => ?_⟩
  cases m with
  | zero =>
    obtain rfl : i = n := e
    exact .inl (stop H p)
  | succ m =>
    obtain ⟨g, b⟩ := go i H (by omega) p
    exact .inr ⟨g, _, fun H' p' => ⟨m, Nat.lt_succ_self m, by omega, p'⟩, b⟩
/-! ### piles: the mathematics -/
def upP (f : Str → List Str) (y m : Str) : Str → List Str := fun z => if z = y then [] else if z = m then f m ++ f y else f z
def homeP : Str → List Str := fun z => [z]
def pilF (F : Folk) (cs : List Str) : Str → List Str := cs.foldr (fun c f => upP f c (mateF F c)) homeP
def pilG (F : Folk) (rs : List Str) : Str → List Str := rs.foldl (fun f c => upP f c (mateF F c)) homeP
theorem pil_rev (F : Folk) (cs : List Str) : pilG F cs.reverse = pilF F cs := by
  unfold pilG pilF
  rw [List.foldl_reverse]
theorem lay_oth {g : Str → List Str} {y : Str} (h : g y = []) : ∀ l : List Str, l.flatMap g = (othL l y).flatMap g
  | [] => rfl
  | x :: r => by
    have ih := lay_oth h r
    unfold othL at ih ⊢
    rw [List.flatMap_cons, List.filter_cons]
    by_cases e : x = y
    · subst e
      rw [h, List.nil_append, ih]
      simp
    · have : (!decide (V.str x = V.str y)) = true := by
        rw [decide_eq_false fun q => e (V.str.inj q)]; rfl
      rw [if_pos this, List.flatMap_cons, ih]
theorem lay_other {f : Str → List Str} {y m : Str} : ∀ r : List Str, y ∉ r → m ∉ r → r.flatMap (upP f y m) = r.flatMap f
  | [], _, _ => rfl
  | x :: r, hy, hm => by
    rw [List.flatMap_cons, List.flatMap_cons, lay_other r (fun h => hy (List.mem_cons_of_mem _ h)) (fun h => hm (List.mem_cons_of_mem _ h))]
    have n1 : x ≠ y := fun e => hy (e ▸ List.mem_cons_self)
    have n2 : x ≠ m := fun e => hm (e ▸ List.mem_cons_self)
    unfold upP
    rw [if_neg n1, if_neg n2]
theorem lay_put {f : Str → List Str} {y m : Str} : ∀ o : List Str, o.Nodup → y ∉ o → m ∈ o → o.flatMap (upP f y m) = (putL o y m).flatMap f
  | [], _, _, h => by cases h
  | x :: r, nd, hy, hm => by
    rw [List.nodup_cons] at nd
    have n1 : x ≠ y := fun e => hy (e ▸ List.mem_cons_self)
    have hyr : y ∉ r := fun h => hy (List.mem_cons_of_mem _ h)
    rw [List.flatMap_cons]
    by_cases e : x = m
    · subst e
      have e1 : putL (x :: r) y x = x :: y :: r := by unfold putL spotL; simp
      rw [e1, List.flatMap_cons, List.flatMap_cons, lay_other r hyr nd.1]
      unfold upP
      rw [if_neg n1, if_pos rfl, List.append_assoc]
    · have hmr : m ∈ r := by
        rcases List.mem_cons.mp hm with z | z
        · exact absurd z.symm e
        · exact z
      have e1 : putL (x :: r) y m = x :: putL r y m := by
        unfold putL spotL
        rw [List.idxOf_cons, beq_eq_false_iff_ne.mpr e]
        simp
      rw [e1, List.flatMap_cons, lay_put r nd.2 hyr hmr]
      congr 1
      unfold upP
      rw [if_neg n1, if_neg e]
theorem lay_step {F : Folk} (ok : FolkOk F) {l : List Str} (ro : RowOk F l) {y m : Str} (h : lookF F y = some (some m)) (f : Str → List Str) : l.flatMap (upP f y m) = (stepL l y m).flatMap f := by
  have z : upP f y m y = [] := by unfold upP; rw [if_pos rfl]
  rw [lay_oth z]
  refine lay_put (othL l y) ?_ (fun q => (oth_mem.mp q).2 rfl) (mate_in ok ro h)
  unfold othL
  exact (ro.nodup ok).filter _
theorem lay_walk {F : Folk} (ok : FolkOk F) : ∀ {cs l : List Str}, RowOk F l → CallsOk F cs → l.flatMap (pilF F cs) = walkL F l cs
  | [], l, _, _ => by
    show l.flatMap (fun z => [z]) = l
    exact List.flatMap_singleton' l
  | c :: cs, l, ro, ca => by
    obtain ⟨m, hm⟩ := ca c List.mem_cons_self
    show l.flatMap (upP (pilF F cs) c (mateF F c)) = walkL F (stepL l c (mateF F c)) cs
    rw [mate_eq hm, lay_step ok ro hm]
    exact lay_walk ok (ro.step ok hm) fun d hd => ca d (List.mem_cons_of_mem _ hd)
/-- all piles together have each name once -/
def PilOk (F : Folk) (f : Str → List Str) : Prop := ((namesF F).flatMap f).Perm (namesF F)
theorem RowOk.names (F : Folk) : RowOk F (namesF F) := List.Perm.refl _
theorem pil_ok {F : Folk} (ok : FolkOk F) {cs : List Str} (ca : CallsOk F cs) : PilOk F (pilF F cs) := by
  unfold PilOk
  rw [lay_walk ok (RowOk.names F) ca]
  exact RowOk.walk ok (RowOk.names F) ca
theorem pilG_ok {F : Folk} (ok : FolkOk F) {rs : List Str} (ca : CallsOk F rs) : PilOk F (pilG F rs) := by
  have h := pil_rev F rs.reverse
  rw [List.reverse_reverse] at h
  rw [h]
  exact pil_ok ok fun c hc => ca c (List.mem_reverse.mp hc)
theorem mem_len {f : Str → List Str} : ∀ {l : List Str} {z : Str}, z ∈ l → (f z).length ≤ (l.flatMap f).length
  | [], _, h => by cases h
  | x :: r, z, h => by
    rw [List.flatMap_cons, List.length_append]
    rcases List.mem_cons.mp h with rfl | h
    · omega
    · have := mem_len (f := f) h
      omega
theorem PilOk.len {F : Folk} (ok : FolkOk F) {f : Str → List Str} (p : PilOk F f) {z : Str} (h : z ∈ namesF F) : (f z).length ≤ 12 := by
  have h1 := mem_len (f := f) h
  have h2 := p.length_eq
  have h3 := (names_nm ok).2
  omega
theorem PilOk.mem {F : Folk} {f : Str → List Str} (p : PilOk F f) {z y : Str} (h : z ∈ namesF F) (hy : y ∈ f z) : y ∈ namesF F :=
  p.mem_iff.mp (List.mem_flatMap.mpr ⟨z, h, hy⟩)
theorem PilOk.row {F : Folk} {f : Str → List Str} (p : PilOk F f) {l : List Str} (ro : RowOk F l) : RowOk F (l.flatMap f) :=
  (ro.flatMap_right f).trans p
/-! ### piles in dicts and tuples -/
def kvA (l : List Str) (ad : Str → Addr) : List (Key × V) := l.map fun y => (Sum.inr y, V.ref (ad y))
theorem val_kvA {ad : Str → Addr} {y : Str} : ∀ {l : List Str}, y ∈ l → valV (kvA l ad) (Sum.inr y) = some (.ref (ad y))
  | [], h => by cases h
  | x :: r, h => by
    unfold valV kvA
    rw [List.map_cons, List.find?_cons]
    by_cases e : x = y
    · subst e; simp
    · have ne : ¬ (Sum.inr x : Key) = Sum.inr y := fun q => e (Sum.inr.inj q)
      rw [decide_eq_false ne]
      rcases List.mem_cons.mp h with z | z
      · exact absurd z.symm e
      · exact val_kvA (l := r) z
def adU (ad : Str → Addr) (y : Str) (p : Addr) : Str → Addr := fun z => if z = y then p else ad z
theorem put_kvA {ad : Str → Addr} {y : Str} {p : Addr} {l : List Str} (h : y ∈ l) : putK (kvA l ad) (Sum.inr y : Key) (.ref p) = kvA l (adU ad y p) := by
  have any : ((kvA l ad).any fun kv => decide (kv.1 = (Sum.inr y : Key))) = true := by
    rw [List.any_eq_true]
    exact ⟨_, List.mem_map.mpr ⟨y, h, rfl⟩, decide_eq_true rfl⟩
  unfold putK
  rw [if_pos any]
  unfold kvA
  rw [List.map_map]
  refine List.map_congr_left fun z _ => ?_
  show (if (Sum.inr z : Key) = Sum.inr y then ((Sum.inr z : Key), V.ref p) else (Sum.inr z, V.ref (ad z))) = (Sum.inr z, V.ref (adU ad y p z))
  unfold adU
  by_cases e : z = y
  · subst e; simp
  · rw [if_neg fun q => e (Sum.inr.inj q), if_neg e]
theorem put_kvN {ad : Str → Addr} {y : Str} {l : List Str} (h : y ∉ l) : putK (kvA l ad) (Sum.inr y : Key) (.ref (ad y)) = kvA (l ++ [y]) ad := by
  have none : valV (kvA l ad) (Sum.inr y : Key) = none := by
    unfold valV
    rw [List.find?_eq_none.mpr]
    · rfl
    · intro kv hkv
      obtain ⟨z, hz, rfl⟩ := List.mem_map.mp hkv
      have : ¬ (Sum.inr z : Key) = Sum.inr y := fun q => h (Sum.inr.inj q ▸ hz)
      simp [this]
  rw [putK_new _ none]
  unfold kvA
  rw [List.map_append]
  rfl
theorem ad_of : ∀ {l : List Str}, l.Nodup → ∀ {as : List Addr}, as.length = l.length → ∃ ad : Str → Addr, as = l.map ad
  | [], _, [], _ => ⟨fun _ => 0, rfl⟩
  | x :: r, nd, a :: as, h => by
    rw [List.nodup_cons] at nd
    obtain ⟨ad, rfl⟩ := ad_of nd.2 (as := as) (by simpa using h)
    refine ⟨adU ad x a, ?_⟩
    rw [List.map_cons]
    congr 1
    · unfold adU; rw [if_pos rfl]
    · refine List.map_congr_left fun z hz => ?_
      unfold adU
      rw [if_neg]
      rintro rfl
      exact nd.1 hz
/-- the piles f stand at the addresses ad -/
def PilesAt (K : PySem.W.Frag) (H : Hp) (F : Folk) (f : Str → List Str) (ad : Str → Addr) : Prop := ∀ y ∈ namesF F, SqT K H (ad y) (strV (f y))
theorem PilesAt.same {K : PySem.W.Frag} {H H' : Hp} {F : Folk} {f : Str → List Str} {ad : Str → Addr} (p : PilesAt K H F f ad) (e : Same H H') : PilesAt K H' F f ad := fun y hy => Same.tup e (p y hy)
/-- a tuple of piles -/
structure TPil (K : PySem.W.Frag) (H : Hp) (q : Addr) (F : Folk) (f : Str → List Str) (ad : Str → Addr) : Prop where
  tp : SqT K H q ((namesF F).map fun y => V.ref (ad y))
  ps : PilesAt K H F f ad
theorem TPil.same {K : PySem.W.Frag} {H H' : Hp} {q : Addr} {F : Folk} {f : Str → List Str} {ad : Str → Addr} (p : TPil K H q F f ad) (e : Same H H') : TPil K H' q F f ad := ⟨Same.tup e p.tp, p.ps.same e⟩
/-- a dict of piles -/
structure DPil (K : PySem.W.Frag) (H : Hp) (d : Addr) (F : Folk) (f : Str → List Str) (ad : Str → Addr) : Prop where
  dc : H d = some (.dK (kvA (namesF F) ad))
  ps : PilesAt K H F f ad
theorem DPil.get {K : PySem.W.Frag} {H : Hp} {d : Addr} {F : Folk} {f : Str → List Str} {ad : Str → Addr} (p : DPil K H d F f ad) {y : Str} (h : y ∈ namesF F) : DGet H d (.str y) (some (.ref (ad y))) := by
  have := DGet.k (k := Sum.inr y) p.dc
  rw [val_kvA h] at this
  exact this
end Hee


set_option Elab.async false
set_option linter.all false
set_option maxRecDepth 100000
namespace Hee
open PySem PySem.Spec PyProof.Rows L2
abbrev sFwp : Stmt := top 30
abbrev sChkPil : Stmt := top 31
abbrev sHome : Stmt := top 32
abbrev sPileAt : Stmt := top 33
abbrev sRepl : Stmt := top 34
abbrev sPiled : Stmt := top 35
abbrev sLaid : Stmt := top 36
abbrev sPiles : Stmt := top 37
structure Tz (mg : Str → Option Value) : Prop where
  zip : mg "zip" = none
  sum : mg "sum" = none
/-- the sum of two tuples, whichever object it is -/
theorem cat_any {K : PySem.W.Frag} {H : Hp} {a b : Addr} {l1 l2 : List Str} {Q : VK} (h1 : SqT K H a (strV l1)) (h2 : SqT K H b (strV l2)) (few : l1.length + l2.length ≤ 1000)
    (q : ∀ p H', Same H H' → SqT K H' p (strV (l1 ++ l2)) → Q (.ref p) H') : rCatA K (.ref a) (.ref b) H Q := by
  have app : strV l1 ++ strV l2 = strV (l1 ++ l2) := by unfold strV; rw [List.map_append]
  refine ⟨a, b, strV l1, strV l2, rfl, rfl, h1, h2, by rw [strV_len, strV_len]; exact small_le (by omega), fun e => ?_, fun _ e => ?_, fun _ _ p np => ?_⟩
  · have : l1 = [] := by simpa [strV] using e
    subst this
    exact q b H (Same.refl H) h2
  · have : l2 = [] := by simpa [strV] using e
    subst this
    refine q a H (Same.refl H) ?_
    rw [List.append_nil]
    exact h1
  · rw [app]
    exact q p _ (same_upd np) (.inl (.inl upd_same))
section
variable {P : Program} {w : World} {K : PySem.W.Frag}
  {mg : Str → Option Value} {base : Heap}
/-! ### home_piles -/
def spHome (K : PySem.W.Frag) (C : Addr) : Sp := fun vs H Q _ => ∃ (x a d : Addr) (ts : List Addr) (F : Folk), vs = [.ref x] ∧ WebAt K C H x a d ts F ∧
  ∀ q ad H', Same H H' → TPil K H' q F homeP ad → Q (.ref q) H'
theorem scHm : FnScope ["web", "name"] ["web"] (defScope sHome) :=
  ⟨rfl, rfl, rfl, by decide +kernel, rfl, by decide +kernel, by decide +kernel⟩
theorem ok_home {f fN C : Addr} {fd fdN : FuncData} (F : Fun K "home_piles" "home_piles" sHome f fd) (T : Tx mg) (W : Tw K mg C)
    (bN : Binds K fdN ["self"] []) (mN : Meth K C "names" fN) (GN : FnOk P w K mg base CX0 1 fN fdN ["self"] (spNames K C)) :
    FnOk P w K mg base CX0 2 f fd ["web"] (spHome K C) := by
  refine F.ok scHm (fun vs H Q E h => ?_) (fun cdv A outer s H vs Q E hr h => ?_)
  · obtain ⟨x, a, d, ts, F0, rfl, _⟩ := h
    rfl
  · obtain ⟨x, a, d, ts, F0, rfl, web, q⟩ := h
    refine ⟨_, pss_one (ps_ret (pe_callTy call_tuple_of (by rfl) T.tup PyProof.Rows.boot_tuple (pa_cons
      (pe_lc (own := [("name", 1)]) (g := gName 1) (tt := tYes) rfl scHm.nd (pi_tup (pe_meth0 (pv 0) W.cl mN GN hr bN .nil pass0))
        (blkOk_by (N := ["web", "name"]) (sc := defScope sHome) (by decide +kernel)) (fun _ _ _ _ _ => pg_name (i := 1) scHm.nd rfl (Or.inl rfl)) (fun _ _ _ _ _ => pts_nil)
        (fun _ _ _ _ _ => pe_tup (pa_cons (pv 1) pa_nil))) pa_nil))), ?_⟩
    obtain ⟨dx, ho⟩ := web.ob
    obtain ⟨nmF, l12⟩ := names_nm web.ok
    refine ⟨.ref x, rfl, x, dx, _, rfl, ho, nm_no a d, x, a, d, ts, F0, rfl, web, fun p H2 s2 hp => ?_⟩
    rw [nm_str] at hp
    refine ⟨p, rfl, ⟨_, .inl (.inl hp)⟩, fun D hD => ?_⟩
    refine lc_tup (K := K) (a := p) (xs := strV (namesF F0)) (fun i H3 => ∃ as : List Addr, as.length = i ∧ H3 D = some (.lst (as.map V.ref)) ∧ Same H2 H3 ∧ ∀ (k : Nat) (t : Addr) (y : Str), as[k]? = some t → (namesF F0)[k]? = some y → H3 t = some (.tup [.str y]))
      ⟨[], rfl, upd_same, same_upd hD, fun k t y h => by simp at h⟩ (fun i H3 _ ⟨_, _, _, sm, _⟩ => .inl (.inl (sm _ _ hp))) ?_ ?_
    · rintro i v H3 hv ⟨as, la, hd, sm, hx⟩
      obtain ⟨z, hz, rfl⟩ := strV_inv hv
      have li : i < (namesF F0).length := (List.getElem?_eq_some_iff.mp hz).1
      refine ⟨rfl, .str z, rfl, (by show 1 ≤ sizeLine; decide), fun tp ntp => ?_⟩
      have s7 := same_upd (o := .tup [.str z]) ntp
      have nDt : tp ≠ D := fun e => by rw [e, hd] at ntp; cases ntp
      refine ⟨_, s7 _ _ hd, by rw [List.length_map, la]; exact small_lt (by omega), as ++ [tp], by rw [List.length_append, la]; rfl, by rw [upd_same, List.map_append]; rfl, fun b o e => ?_, fun k t y hk hy => ?_⟩
      · rw [upd_ne (ne_of_none e hD)]
        exact s7 _ _ (sm b o e)
      · by_cases hka : k < as.length
        · rw [List.getElem?_append_left hka] at hk
          have h9 := hx k t y hk hy
          rw [upd_ne (fun e => by rw [e, hd] at h9; cases h9)]
          exact s7 _ _ h9
        · rw [List.getElem?_append_right (by omega)] at hk
          have k0 : k - as.length = 0 := by
            have := (List.getElem?_eq_some_iff.mp hk).1
            simp at this; omega
          rw [k0] at hk
          obtain rfl : tp = t := Option.some.inj hk
          obtain rfl : k = i := by omega
          cases hz.symm.trans hy
          rw [upd_ne nDt, upd_same]
    · rintro H3 ⟨as, la, hd, sm, hx⟩
      rw [strV_len] at la
      obtain ⟨ad, rfl⟩ := ad_of web.ok.nodup la
      refine ⟨D, _, rfl, .inl ⟨SqL.of hd, fun t nt => ?_⟩⟩
      have s8 := same_upd (o := .tup (((namesF F0).map ad).map V.ref)) nt
      refine q t ad _ ((s2.trans sm).trans s8) ⟨?_, fun y hy => ?_⟩
      · have e : ((namesF F0).map fun y => V.ref (ad y)) = ((namesF F0).map ad).map V.ref := by rw [List.map_map]; rfl
        rw [e]
        exact .inl (.inl upd_same)
      · obtain ⟨k, hk, ek⟩ := List.getElem_of_mem hy
        have h1 : (namesF F0)[k]? = some y := by rw [List.getElem?_eq_getElem hk, ek]
        exact .inl (.inl (s8 _ _ (hx k (ad y) y (by rw [List.getElem?_map, h1]; rfl) h1)))
/-! ### pile_at -/
def spPileAt (K : PySem.W.Frag) (C : Addr) : Sp := fun vs H Q _ => ∃ (x a d : Addr) (ts : List Addr) (F : Folk) (q : Addr) (f : Str → List Str) (ad : Str → Addr), vs = [.ref x, .ref q] ∧
  WebAt K C H x a d ts F ∧ TPil K H q F f ad ∧ ∀ D H', H D = none → Same H H' → DPil K H' D F f ad → Q (.ref D) H'
abbrev NPA : List Str := ["web", "piles", "name", "pile"]
theorem scPA : FnScope NPA ["web", "piles"] (defScope sPileAt) :=
  ⟨rfl, rfl, rfl, by decide +kernel, rfl, by decide +kernel, by decide +kernel⟩
theorem ok_pileAt {f fN C : Addr} {fd fdN : FuncData} (F : Fun K "pile_at" "pile_at" sPileAt f fd) (W : Tw K mg C) (Z : Tz mg)
    (bN : Binds K fdN ["self"] []) (mN : Meth K C "names" fN) (GN : FnOk P w K mg base CX0 1 fN fdN ["self"] (spNames K C)) :
    FnOk P w K mg base CX0 2 f fd ["web", "piles"] (spPileAt K C) := by
  refine F.ok scPA (fun vs H Q E h => ?_) (fun cdv A outer s H vs Q E hr h => ?_)
  · obtain ⟨x, a, d, ts, F0, q, g, ad, rfl, _⟩ := h
    rfl
  · obtain ⟨x, a, d, ts, F0, qa, g, ad, rfl, web, tp, q⟩ := h
    refine ⟨_, pss_one (ps_ret (pe_dc (own := [("name", 2), ("pile", 3)]) (g := gTup K 2 (gCons (gName 2) (gCons (gName 3) gNil))) (tt := tYes) rfl scPA.nd
      (RZ.pi_zipA (by rfl) Z.zip (pa_cons (pe_meth0 (pv 0) W.cl mN GN hr bN .nil pass0) (pa_cons (pv 1) pa_nil)))
      (blkOk_by (N := NPA) (sc := defScope sPileAt) (by decide +kernel))
      (fun _ _ _ _ _ => pg_tup (by rfl) (pgs_cons (pg_name (i := 2) scPA.nd rfl (Or.inl rfl)) (pgs_cons (pg_name (i := 3) scPA.nd rfl (Or.inl rfl)) pgs_nil)))
      (fun _ _ _ _ _ => pts_nil) (fun _ _ _ _ _ => pv 2) (fun _ _ _ _ _ => pv 3))), ?_⟩
    obtain ⟨dx, ho⟩ := web.ob
    obtain ⟨nmF, l12⟩ := names_nm web.ok
    have nd := web.ok.nodup
    refine ⟨.ref x, rfl, x, dx, _, rfl, ho, nm_no a d, x, a, d, ts, F0, rfl, web, fun p H2 s2 hp => ?_⟩
    rw [nm_str] at hp
    have t2 := tp.same s2
    refine ⟨.ref qa, rfl, p, qa, strV (namesF F0), _, rfl, .inr ⟨.inl (.inl hp), t2.tp, fun D hD => ?_⟩⟩
    refine by_turns (n := (namesF F0).length) (Pv := fun i H3 => Same H2 H3 ∧ H3 D = some (.dK (kvA ((namesF F0).take i) ad))) ⟨same_upd hD, upd_same⟩ (fun i H3 li ⟨sm, hd⟩ => ?_) fun H3 ⟨sm, hd⟩ => ?_
    · have h1 : (strV (namesF F0))[i]? = some (.str (namesF F0)[i]) := strV_get (List.getElem?_eq_getElem li)
      have h2 : ((namesF F0).map fun y => V.ref (ad y))[i]? = some (.ref (ad (namesF F0)[i])) := by rw [List.getElem?_map, List.getElem?_eq_getElem li]; rfl
      refine ⟨⟨_, _, _, _, .inl (.inl (sm _ _ hp)), Same.tup sm t2.tp, h1, h2⟩, ?_⟩
      rintro _ _ ⟨Tq, x1, x2, rfl, nT, rfl, e1, e2⟩
      cases h1.symm.trans (e1 _ (.inl (.inl (sm _ _ hp))))
      cases h2.symm.trans (e2 _ (Same.tup sm t2.tp))
      have s4 := same_upd (o := .tup [.str (namesF F0)[i], .ref (ad (namesF F0)[i])]) nT
      refine ⟨Tq, _, rfl, .inl (.inl upd_same), rfl, _, _, rfl, _, _, rfl, rfl, rfl, ?_⟩
      refine ⟨_, rfl, _, rfl, kvA ((namesF F0).take i) ad, Sum.inr (namesF F0)[i], rfl, s4 _ _ hd, by unfold kvA; rw [List.length_map, List.length_take]; exact small_lt (by omega), fun b o e => ?_, ?_⟩
      · rw [upd_ne (ne_of_none e hD)]
        exact s4 _ _ (sm b o e)
      · rw [upd_same, put_kvN, List.take_succ_eq_append_getElem li]
        intro hm
        obtain ⟨j, hj, e⟩ := List.mem_take_iff_getElem.mp hm
        exact List.pairwise_iff_getElem.mp nd j i (by omega) li (by omega) e
    · rw [List.take_length] at hd
      refine ⟨⟨_, _, .inl (.inl (sm _ _ hp)), Same.tup sm t2.tp, .inl (by rw [strV_len]; exact Nat.le_refl _)⟩, ?_⟩
      exact q D H3 (s2.free hD) (s2.trans sm) ⟨hd, t2.ps.same sm⟩
/-! ### replaced -/
def spRepl (K : PySem.W.Frag) : Sp := fun vs H Q _ => ∃ (r D : Addr) (F : Folk) (l : List Str) (f : Str → List Str) (ad : Str → Addr), vs = [.ref r, .ref D] ∧ SqT K H r (strV l) ∧ DPil K H D F f ad ∧
  (∀ z ∈ l, z ∈ namesF F) ∧ (l.flatMap f).length ≤ 1000 ∧ ∀ p H', Same H H' → H' p = some (.tup (strV (l.flatMap f))) → Q (.ref p) H'
abbrev NRe : List Str := ["names", "by", "name", "one"]
theorem scRe : FnScope NRe ["names", "by"] (defScope sRepl) :=
  ⟨rfl, rfl, rfl, by decide +kernel, rfl, by decide +kernel, by decide +kernel⟩
theorem flat_next {f : Str → List Str} {l : List Str} {i : Nat} (h : i < l.length) : (l.take (i + 1)).flatMap f = (l.take i).flatMap f ++ f l[i] := by
  rw [List.take_succ_eq_append_getElem h, List.flatMap_append]
  simp
theorem ok_repl {f : Addr} {fd : FuncData} (F : Fun K "replaced" "replaced" sRepl f fd) (T : Tx mg) :
    FnOk P w K mg base CX0 1 f fd ["names", "by"] (spRepl K) := by
  refine F.ok scRe (fun vs H Q E h => ?_) (fun cdv A outer s H vs Q E hr h => ?_)
  · obtain ⟨r, D, F0, l, g, ad, rfl, _⟩ := h
    rfl
  · obtain ⟨r, D0, F0, l, g, ad, rfl, hS, dp, inn, few, q⟩ := h
    have hu := hu_of hr
    refine ⟨_, pss_one (ps_ret (pe_callTy call_tuple_of (by rfl) T.tup PyProof.Rows.boot_tuple (pa_cons
      (pe_lc2 (own := [("name", 2), ("one", 3)]) (vs1 := [3]) (g := gName 2) (g1 := gName 3) (tt := tYes) (tt1 := tYes) (wi1 := iTup K (tDGet (tVar 1) (tVar 2))) (te := tVar 3) rfl scRe.nd (pi_tup (pv 0))
        (blkOk_by (N := NRe) (sc := defScope sRepl) (by decide +kernel)) (by decide) (fun _ _ _ _ _ => pg_name (i := 2) scRe.nd rfl (Or.inl rfl)) (fun _ _ _ _ _ => pts_nil)
        (fun _ _ _ _ _ => pi_tup (pe_dget hu (pv 1) (pv 2) (fun _ _ => rfl))) (fun _ _ _ _ _ => pg_name (i := 3) scRe.nd rfl (Or.inl rfl)) (fun _ _ _ _ _ => pts_nil)
        (fun _ _ _ _ _ => pv 3)) pa_nil))), ?_⟩
    refine ⟨.ref r, rfl, r, rfl, ⟨_, hS⟩, fun D hD => ?_⟩
    refine by_turns (n := l.length) (Pv := fun i H2 => Same H H2 ∧ H2 D = some (.lst (strV ((l.take i).flatMap g)))) ⟨same_upd hD, upd_same⟩ (fun i H2 li ⟨sm, hd⟩ => ?_) fun H2 ⟨sm, hd⟩ => ?_
    · have h1 : (strV l)[i]? = some (.str l[i]) := strV_get (List.getElem?_eq_getElem li)
      have mem := inn l[i] (List.getElem_mem li)
      refine ⟨⟨_, _, Same.tup sm hS, h1⟩, ?_⟩
      rintro _ Hv ⟨eH, e1⟩
      have eH := eH.symm
      subst eH
      cases h1.symm.trans (e1 _ (Same.tup sm hS))
      refine ⟨rfl, ?_⟩
      have d2 : DPil K H2 D0 F0 g ad := ⟨sm _ _ dp.dc, dp.ps.same sm⟩
      have tpi := dp.ps _ mem
      refine ⟨.ref D0, rfl, .str l[i], rfl, D0, .ref (ad l[i]), rfl, d2.get mem, ad l[i], rfl, ⟨_, Same.tup sm tpi⟩, ?_⟩
      have bound : ((l.take i).flatMap g).length + (g l[i]).length ≤ 1000 := by
        have e : ((l.take (i + 1)).flatMap g).length ≤ (l.flatMap g).length := by
          conv => rhs; rw [← List.take_append_drop (i + 1) l]
          rw [List.flatMap_append, List.length_append]; omega
        rw [flat_next li, List.length_append] at e
        omega
      refine by_turns (n := (g l[i]).length) (Pv := fun j H3 => Same H H3 ∧ H3 D = some (.lst (strV ((l.take i).flatMap g ++ (g l[i]).take j)))) ⟨sm, by rw [List.take_zero, List.append_nil]; exact hd⟩ (fun j H3 lj ⟨s3, h3⟩ => ?_) fun H3 ⟨s3, h3⟩ => ?_
      · have h4 : (strV (g l[i]))[j]? = some (.str (g l[i])[j]) := strV_get (List.getElem?_eq_getElem lj)
        refine ⟨⟨_, _, Same.tup s3 tpi, h4⟩, ?_⟩
        rintro _ Hv ⟨eH, e4⟩
        have eH := eH.symm
        subst eH
        cases h4.symm.trans (e4 _ (Same.tup s3 tpi))
        refine ⟨rfl, ?_⟩
        refine ⟨_, rfl, _, h3, by rw [strV_len, List.length_append, List.length_take]; exact small_lt (by omega), fun b o e => ?_, ?_⟩
        · rw [upd_ne (ne_of_none e hD)]
          exact s3 b o e
        · rw [upd_same, strV_app, List.append_assoc, ← List.take_succ_eq_append_getElem lj]
      · refine ⟨⟨_, Same.tup s3 tpi, by rw [strV_len]; exact Nat.le_refl _⟩, s3, ?_⟩
        rw [List.take_length, ← flat_next li] at h3
        exact h3
    · rw [List.take_length] at hd
      refine ⟨⟨_, Same.tup sm hS, by rw [strV_len]; exact Nat.le_refl _⟩, ?_⟩
      refine ⟨D, _, rfl, .inl ⟨SqL.of hd, fun t nt => ?_⟩⟩
      exact q t _ (sm.trans (same_upd nt)) upd_same
end
end Hee


set_option Elab.async false
set_option linter.all false
set_option maxRecDepth 100000
namespace Hee
open PySem PySem.Spec PyProof.Rows L2
/-- a dict written, all tuples stay -/
theorem tup_dput {K : PySem.W.Frag} {H : Hp} {D a : Addr} {kvs kvs' : List (Key × V)} {xs : List V} (hD : H D = some (.dK kvs)) (h : SqT K H a xs) : SqT K (upd H D (.dK kvs')) a xs := by
  have off : ∀ o : HO, (∀ ks, o ≠ .dK ks) → H a = some o → upd H D (.dK kvs') a = some o := fun o n e => by
    rw [upd_ne fun z => by rw [z, hD] at e; exact n _ (Option.some.inj e).symm]
    exact e
  exact Or.imp (Or.imp (off _ fun _ e => nomatch e) fun ⟨o, q⟩ => ⟨o, off _ (fun _ e => nomatch e) q⟩) id h
theorem DPil.put {K : PySem.W.Frag} {H : Hp} {D : Addr} {F : Folk} {f g : Str → List Str} {ad : Str → Addr} (d : DPil K H D F f ad) {y : Str} (hy : y ∈ namesF F) {p : Addr} (hp : SqT K H p (strV (g y)))
    (same : ∀ z, z ≠ y → g z = f z) : DPil K (upd H D (.dK (putK (kvA (namesF F) ad) (Sum.inr y : Key) (.ref p)))) D F g (adU ad y p) := by
  refine ⟨by rw [upd_same, put_kvA hy], fun z hz => tup_dput d.dc ?_⟩
  unfold adU
  by_cases e : z = y
  · subst e
    rw [if_pos rfl]
    exact hp
  · rw [if_neg e, same z e]
    exact d.ps z hz
def upQ (f : Str → List Str) (y m : Str) : Str → List Str := fun z => if z = m then f m ++ f y else f z
theorem up_up {f : Str → List Str} {y m : Str} (ne : m ≠ y) : ∀ z, z ≠ y → upP f y m z = upQ f y m z := fun z hz => by
  unfold upP upQ
  rw [if_neg hz]
section
variable {P : Program} {w : World} {K : PySem.W.Frag}
  {mg : Str → Option Value} {base : Heap}
/-! ### piled -/
def spPiled (K : PySem.W.Frag) (C : Addr) : Sp := fun vs H Q _ => ∃ (x a d : Addr) (ts : List Addr) (F : Folk) (c : Addr) (cs : List Str), vs = [.ref x, .ref c] ∧ WebAt K C H x a d ts F ∧
  SqT K H c (strV cs) ∧ CallsOk F cs ∧ ∀ q ad H', Same H H' → TPil K H' q F (pilF F cs) ad → Q (.ref q) H'
abbrev NPd : List Str := ["web", "calls", "at", "name", "whom"]
theorem scPd : FnScope NPd ["web", "calls"] (defScope sPiled) :=
  ⟨rfl, rfl, rfl, by decide +kernel, rfl, by decide +kernel, by decide +kernel⟩
theorem pilG_next {F : Folk} {rs : List Str} {i : Nat} (h : i < rs.length) {m : Str} (hm : lookF F rs[i] = some (some m)) : pilG F (rs.take (i + 1)) = upP (pilG F (rs.take i)) rs[i] m := by
  unfold pilG
  rw [List.take_succ_eq_append_getElem h, List.foldl_append]
  show upP _ rs[i] (mateF F rs[i]) = _
  rw [mate_eq hm]
set_option maxHeartbeats 2000000 in
theorem ok_piled {f fN fW fA fM C : Addr} {fd fdN fdW fdA fdM : FuncData} (F : Fun K "piled" "piled" sPiled f fd) (T : Tx mg) (W : Tw K mg C)
    (bN : Binds K fdN ["self"] []) (mN : Meth K C "names" fN) (GN : FnOk P w K mg base CX0 1 fN fdN ["self"] (spNames K C))
    (bW : Binds K fdW ["self", "name"] []) (mW : Meth K C "whom" fW) (GW : FnOk P w K mg base CX0 4 fW fdW ["self", "name"] (spWhom K C))
    (FA : Fun K "pile_at" "pile_at" sPileAt fA fdA) (bA : Binds K fdA ["web", "piles"] []) (gA : mg "pile_at" = some (.ref fA)) (GA : FnOk P w K mg base CX0 2 fA fdA ["web", "piles"] (spPileAt K C))
    (FM : Fun K "home_piles" "home_piles" sHome fM fdM) (bM : Binds K fdM ["web"] []) (gM : mg "home_piles" = some (.ref fM)) (GM : FnOk P w K mg base CX0 2 fM fdM ["web"] (spHome K C)) :
    FnOk P w K mg base CX0 5 f fd ["web", "calls"] (spPiled K C) := by
  refine F.ok scPd (fun vs H Q E h => ?_) (fun cdv A outer s H vs Q E hr h => ?_)
  · obtain ⟨x, a, d, ts, F0, c, cs, rfl, _⟩ := h
    rfl
  · obtain ⟨x, a, d, ts, F0, c, cs, rfl, web, hC, ca, q⟩ := h
    have hu := hu_of hr
    have hr1 := hr.mono (show 1 ≤ 4 by decide)
    have hr2 := hr.mono (show 2 ≤ 4 by decide)
    refine ⟨_, pss_cons (ps_set (i := 2) scPd.nd rfl (Or.inr rfl) (pe_call GA hr2 (by rfl) gA FA.kp bA .nil pass0 (pa_cons (pv 0) (pa_cons (pe_call GM hr2 (by rfl) gM FM.kp bM .nil pass0 (pa_cons (pv 0) pa_nil)) pa_nil))))
      (pss_cons (ps_for PassesOwn.never rfl (pi_tup (pe_revT (pv 1))) (pg_name (i := 3) scPd.nd rfl (Or.inl rfl))
        (pss_cons (ps_set (i := 4) scPd.nd rfl (Or.inl rfl) (pe_meth (pv 0) W.cl mW GW hr bW .nil pass0 (pa_cons (pv 3) pa_nil)))
        (pss_cons (ps_dput hu (pv 2) (pv 4) (pe_op op_catA (pe_dget hu (pv 2) (pv 4) (fun _ _ => rfl)) (pe_dget hu (pv 2) (pv 3) (fun _ _ => rfl))) rfl)
        (pss_one (ps_dput hu (pv 2) (pv 3) (pe_tup pa_nil) rfl)))))
      (pss_one (ps_ret (pe_callTy call_tuple_of (by rfl) T.tup PyProof.Rows.boot_tuple (pa_cons
        (pe_lc (own := [("name", 3)]) (g := gName 3) (tt := tYes) (te := tDGet (tVar 2) (tVar 3)) rfl scPd.nd (pi_tup (pe_meth0 (pv 0) W.cl mN GN hr1 bN .nil pass0))
          (blkOk_by (N := NPd) (sc := defScope sPiled) (by decide +kernel)) (fun _ _ _ _ _ => pg_name (i := 3) scPd.nd rfl (Or.inl rfl)) (fun _ _ _ _ _ => pts_nil)
          (fun _ _ _ _ _ => pe_dget hu (pv 2) (pv 3) (fun _ _ => rfl))) pa_nil))))), ?_⟩
    have ok := web.ok
    obtain ⟨nmF, l12⟩ := names_nm ok
    refine ⟨.ref x, rfl, .ref x, rfl, x, a, d, ts, F0, rfl, web, fun q0 ad0 H1 s1 t1 => ?_⟩
    refine ⟨x, a, d, ts, F0, q0, homeP, ad0, rfl, web.same s1, t1, fun D H2 nD s2 d2 => ?_⟩
    have nD0 : H D = none := s1.free nD
    have S2 := s1.trans s2
    have hC2 := Same.tup S2 hC
    refine ⟨.ref c, rfl, c, strV cs, rfl, hC2, fun rc nrc => ?_⟩
    have erev : (strV cs).reverse = strV cs.reverse := by unfold strV; rw [List.map_reverse]
    rw [erev]
    have s3 := same_upd (o := .tup (strV cs.reverse)) nrc
    have hrc : upd H2 rc (.tup (strV cs.reverse)) rc = some (.tup (strV cs.reverse)) := upd_same
    have d3 : DPil K (upd H2 rc (.tup (strV cs.reverse))) D F0 homeP ad0 := ⟨s3 _ _ d2.dc, d2.ps.same s3⟩
    have S3 := S2.trans s3
    have nDr : D ≠ rc := ne_of_none d2.dc nrc
    generalize upd H2 rc (HO.tup (strV cs.reverse)) = H3 at hrc d3 S3 ⊢
    have car : CallsOk F0 cs.reverse := fun z hz => ca z (List.mem_reverse.mp hz)
    refine ⟨rc, rfl, ⟨_, .inl (.inl hrc)⟩, for_tup (K := K) (a := rc) (xs := strV cs.reverse) (fun i σ Hi => ∃ (ad : Str → Addr) (y3 y4 : Option V), σ = [some (.ref x), some (.ref c), some (.ref D), y3, y4] ∧ Same H Hi ∧ Hi rc = some (.tup (strV cs.reverse)) ∧ DPil K Hi D F0 (pilG F0 (cs.reverse.take i)) ad)
      ⟨ad0, _, _, rfl, S3, hrc, d3⟩ (fun i σ Hi _ ⟨_, _, _, _, _, h, _⟩ => .inl (.inl h)) ?_ ?_⟩
    · rintro i v σ Hi hv ⟨ad, y3, y4, rfl, sm, hri, di⟩
      obtain ⟨y, hy, rfl⟩ := strV_inv hv
      obtain ⟨li, ey⟩ := List.getElem?_eq_some_iff.mp hy
      obtain ⟨m, hm⟩ := car y (List.mem_of_getElem? hy)
      have ny := look_name hm
      obtain ⟨wm, hwm⟩ := ok.there _ _ hm
      have nm := look_name hwm
      have ne := ne_mate ok hm
      have wi := web.same sm
      obtain ⟨dxi, hoi⟩ := wi.ob
      refine ⟨.ref x, rfl, x, dxi, _, rfl, hoi, wh_no a d, .str y, rfl, x, a, d, ts, F0, y, some m, rfl, wi, hm, fun H4 s4 => ?_⟩
      have d4 : DPil K H4 D F0 (pilG F0 (cs.reverse.take i)) ad := ⟨s4 _ _ di.dc, di.ps.same s4⟩
      have hr4 := s4 _ _ hri
      have S4 := sm.trans s4
      have pok := pilG_ok ok (car.take i)
      have e1 := pok.len ok nm
      have e2 := pok.len ok ny
      generalize hg : pilG F0 (cs.reverse.take i) = g at d4 e1 e2
      refine ⟨.ref D, rfl, .str m, rfl, D, .ref (ad m), rfl, d4.get nm, .ref D, rfl, .str y, rfl, D, .ref (ad y), rfl, d4.get ny, ?_⟩
      refine cat_any (d4.ps m nm) (d4.ps y ny) (by omega) fun p5 H5 s5 h5 => ?_
      have d5 : DPil K H5 D F0 g ad := ⟨s5 _ _ d4.dc, d4.ps.same s5⟩
      have hz : (kvA (namesF F0) ad).length < sizeLine := by unfold kvA; rw [List.length_map]; exact small_lt (by omega)
      refine ⟨.ref D, rfl, .str m, rfl, D, _, rfl, DPut.k (k := Sum.inr m) d5.dc hz, ?_⟩
      have d6 := d5.put (g := upQ g y m) nm (p := p5) (by unfold upQ; rw [if_pos rfl]; exact h5) (fun z hz => by unfold upQ; rw [if_neg hz])
      have k6 : ∀ b o, b ≠ D → H5 b = some o → upd H5 D (.dK (putK (kvA (namesF F0) ad) (Sum.inr m : Key) (.ref p5))) b = some o := fun b o nb e => by rw [upd_ne nb]; exact e
      generalize upd H5 D (HO.dK (putK (kvA (namesF F0) ad) (Sum.inr m : Key) (V.ref p5))) = H6 at d6 k6 ⊢
      refine ⟨Nat.zero_le _, fun p7 n7 => ?_⟩
      have s7 := same_upd (o := .tup []) n7
      have d7 : DPil K (upd H6 p7 (.tup [])) D F0 (upQ g y m) (adU ad m p5) := ⟨s7 _ _ d6.dc, d6.ps.same s7⟩
      have hz2 : (kvA (namesF F0) (adU ad m p5)).length < sizeLine := by unfold kvA; rw [List.length_map]; exact small_lt (by omega)
      refine ⟨.ref D, rfl, .str y, rfl, D, _, rfl, DPut.k (k := Sum.inr y) d7.dc hz2, ?_⟩
      have d8 := d7.put (g := upP g y m) ny (p := p7) (by unfold upP; rw [if_pos rfl]; exact .inl (.inl upd_same)) (up_up ne)
      have k8 : ∀ b o, b ≠ D → H5 b = some o → upd (upd H6 p7 (.tup [])) D (.dK (putK (kvA (namesF F0) (adU ad m p5)) (Sum.inr y : Key) (.ref p7))) b = some o := fun b o nb e => by
        rw [upd_ne nb]; exact s7 _ _ (k6 b o nb e)
      refine ⟨adU (adU ad m p5) y p7, _, _, rfl, fun b o e => k8 b o (ne_of_none e nD0) (s5 _ _ (S4 b o e)), k8 rc _ nDr.symm (s5 _ _ hr4), ?_⟩
      have en : pilG F0 (cs.reverse.take (i + 1)) = upP g y m := by
        subst ey
        rw [pilG_next li hm, hg]
      rw [en]
      exact d8
    · rintro σ Hi ⟨ad, y3, y4, rfl, sm, hri, di⟩
      rw [strV_len, List.take_length, pil_rev] at di
      have wi := web.same sm
      obtain ⟨dxi, hoi⟩ := wi.ob
      refine ⟨.ref x, rfl, x, dxi, _, rfl, hoi, nm_no a d, x, a, d, ts, F0, rfl, wi, fun p4 H4 s4 h4 => ?_⟩
      rw [nm_str] at h4
      have d4 : DPil K H4 D F0 (pilF F0 cs) ad := ⟨s4 _ _ di.dc, di.ps.same s4⟩
      refine ⟨p4, rfl, ⟨_, .inl (.inl h4)⟩, fun L hL => ?_⟩
      refine lc_tup (K := K) (a := p4) (xs := strV (namesF F0)) (fun i H5 => Same H4 H5 ∧ H5 L = some (.lst (((namesF F0).take i).map fun y => V.ref (ad y)))) ⟨same_upd hL, upd_same⟩ (fun i H5 _ h => .inl (.inl (h.1 _ _ h4))) ?_ ?_
      · rintro i v H5 hv ⟨s5, h5⟩
        obtain ⟨z, hz, rfl⟩ := strV_inv hv
        obtain ⟨li, ez⟩ := List.getElem?_eq_some_iff.mp hz
        have d5 : DPil K H5 D F0 (pilF F0 cs) ad := ⟨s5 _ _ d4.dc, d4.ps.same s5⟩
        refine ⟨rfl, .ref D, rfl, .str z, rfl, D, .ref (ad z), rfl, d5.get (List.mem_of_getElem? hz), _, h5, by rw [List.length_map, List.length_take]; exact small_lt (by omega), fun b o e => ?_, ?_⟩
        · rw [upd_ne (ne_of_none e hL)]
          exact s5 b o e
        · rw [upd_same, List.take_succ_eq_append_getElem li, List.map_append, ez]
          rfl
      · rintro H5 ⟨s5, h5⟩
        rw [strV_len, List.take_length] at h5
        refine ⟨L, _, rfl, .inl ⟨SqL.of h5, fun t nt => ?_⟩⟩
        have s6 := same_upd (o := .tup ((namesF F0).map fun y => V.ref (ad y))) nt
        exact q t ad _ (((sm.trans s4).trans s5).trans s6) ⟨.inl (.inl upd_same), d4.ps.same (s5.trans s6)⟩
end
end Hee


set_option Elab.async false
set_option linter.all false
set_option maxRecDepth 100000
namespace Hee
open PySem PySem.Spec PyProof.Rows L2
/-- who comes next in the piles does not stand ahead -/
theorem pile_new {f : Str → List Str} {l : List Str} (nd : (l.flatMap f).Nodup) {i j : Nat} (hi : i < l.length) (hj : j < (f l[i]).length) : (f l[i])[j] ∉ (l.take i).flatMap f ++ (f l[i]).take j := by
  have e : l.flatMap f = ((l.take i).flatMap f ++ (f l[i]).take j) ++ ((f l[i])[j] :: (f l[i]).drop (j + 1) ++ (l.drop (i + 1)).flatMap f) := by
    have e1 : l.flatMap f = (l.take (i + 1)).flatMap f ++ (l.drop (i + 1)).flatMap f := by
      rw [← List.flatMap_append, List.take_append_drop]
    have e2 : f l[i] = (f l[i]).take j ++ (f l[i])[j] :: (f l[i]).drop (j + 1) := by
      conv => lhs; rw [← List.take_append_drop j (f l[i])]
      rw [List.drop_eq_getElem_cons hj]
    rw [e1, flat_next hi]
    conv => lhs; rw [e2]
    simp only [List.append_assoc]
  rw [e] at nd
  intro h
  exact (List.nodup_append.mp nd).2.2 _ h _ (List.mem_cons_self) rfl
theorem pile_len {f : Str → List Str} : ∀ l : List Str, ((l.map fun y => ((f y).length : Int))).sum = ((l.flatMap f).length : Int)
  | [] => rfl
  | y :: r => by
    rw [List.map_cons, List.sum_cons, pile_len r, List.flatMap_cons, List.length_append]
    omega
section
variable {P : Program} {w : World} {K : PySem.W.Frag}
  {mg : Str → Option Value} {base : Heap}
/-! ### first_wrong_pile, of piles that are right -/
def spPilOk (K : PySem.W.Frag) (C : Addr) : Sp := fun vs H Q _ => ∃ (x a d : Addr) (ts : List Addr) (F : Folk) (q : Addr) (f : Str → List Str) (ad : Str → Addr), vs = [.ref x, .ref q] ∧
  WebAt K C H x a d ts F ∧ TPil K H q F f ad ∧ PilOk F f ∧ ∀ H', Same H H' → Q .non H'
abbrev NFp : List Str := ["web", "piles", "ahead", "place", "pile", "name"]
theorem scFp : FnScope NFp ["web", "piles"] (defScope sFwp) :=
  ⟨rfl, rfl, rfl, by decide +kernel, rfl, by decide +kernel, by decide +kernel⟩
theorem ok_fwp {f fH C : Addr} {fd fdH : FuncData} (F : Fun K "first_wrong_pile" "first_wrong_pile" sFwp f fd) (T : Tx mg) (W : Tw K mg C)
    (bH : Binds K fdH ["self", "thing"] []) (mH : Meth K C "has" fH) (GH : FnOk P w K mg base CX0 2 fH fdH ["self", "thing"] (spHas K C)) :
    FnOk P w K mg base CX0 3 f fd ["web", "piles"] (spPilOk K C) := by
  refine F.ok scFp (fun vs H Q E h => ?_) (fun cdv A outer s H vs Q E hr h => ?_)
  · obtain ⟨x, a, d, ts, F0, q, g, ad, rfl, _⟩ := h
    rfl
  · obtain ⟨x, a, d, ts, F0, qa, g, ad, rfl, web, tp, po, q⟩ := h
    refine ⟨_, pss_cons (ps_set (i := 2) scFp.nd rfl (Or.inl rfl) (pe_lst pa_nil))
      (pss_cons (ps_for PassesOwn.never rfl (pi_enumT (by rfl) T.enu (pa_cons (pv 1) pa_nil))
        (pg_tup (by rfl) (pgs_cons (pg_name (i := 3) scFp.nd rfl (Or.inl rfl)) (pgs_cons (pg_name (i := 4) scFp.nd rfl (Or.inl rfl)) pgs_nil)))
        (pss_cons (ps_if (pt_not (pt_val (pe_callB call_isi (by rfl) T.isi boot_isinstance (pa_cons (pv 4) (pa_cons (pe_bltn (v := .ty "tuple") (by rfl) T.tup PyProof.Rows.boot_tuple rfl) pa_nil))))) (pss_one (ps_ret (pv 3))) pss_nil)
        (pss_one (ps_for PassesOwn.never rfl (pi_tup (pv 4)) (pg_name (i := 5) scFp.nd rfl (Or.inl rfl))
          (pss_cons (ps_if (PW.pt (pw_or (pt_not (pt_val (pe_meth (pv 0) W.cl mH GH hr bH .nil pass0 (pa_cons (pv 5) pa_nil))))
            (pw_or1 (pt_cmpR op_in_seq (pv 5) (pv 2) (by rfl))))) (pss_one (ps_ret (pv 3))) pss_nil)
          (pss_one (ps_expr (pe_bm PySem.F.plainAttrs_list PySem.F.slot_list_append PySem.F.type_list_append mt_append (pv 2) (pa_cons (pv 5) pa_nil)))))))))
      (pss_one (ps_ret pe_non))), ?_⟩
    have ok := web.ok
    obtain ⟨nmF, l12⟩ := names_nm ok
    have ndT : ((namesF F0).flatMap g).Nodup := po.nodup_iff.mpr ok.nodup
    refine ⟨Nat.zero_le _, fun L nL => ?_⟩
    have s0 := same_upd (o := .lst []) nL
    have h0 : upd H L (.lst []) L = some (.lst (strV (((namesF F0).take 0).flatMap g))) := upd_same
    generalize upd H L (HO.lst []) = H0 at s0 h0 ⊢
    refine ⟨.ref qa, rfl, qa, _, rfl, (tp.same s0).tp, for_it walk_enumT (fun i σ H1 => ∃ y3 y4 y5, σ = [some (.ref x), some (.ref qa), some (.ref L), y3, y4, y5] ∧ Same H H1 ∧ H1 L = some (.lst (strV (((namesF F0).take i).flatMap g))))
      ⟨none, none, none, rfl, s0, h0⟩ (fun i σ H1 _ ⟨_, _, _, _, sm, _⟩ => (tp.same sm).tp) ?_ ?_⟩
    · rintro i v σ H1 H2 lt ⟨y3, y4, y5, rfl, sm, hL⟩ ⟨Tp, v1, v2, rfl, nT, rfl, e1, e2⟩
      cases e1
      have li : i < (namesF F0).length := by rwa [List.length_map] at lt
      have ev : ((namesF F0).map fun y => V.ref (ad y))[i]? = some (.ref (ad (namesF F0)[i])) := by rw [List.getElem?_map, List.getElem?_eq_getElem li]; rfl
      cases ev.symm.trans e2
      have mem : (namesF F0)[i] ∈ namesF F0 := List.getElem_mem li
      have st := same_upd (o := .tup [.int (i : Nat), .ref (ad (namesF F0)[i])]) nT
      have s2 := sm.trans st
      have hL2 := st _ _ hL
      refine ⟨Tp, [.int (i : Nat), .ref (ad (namesF F0)[i])], rfl, .inl (.inl upd_same), rfl, .int (i : Nat), [.ref (ad (namesF F0)[i])], rfl, .ref (ad (namesF F0)[i]), [], rfl, rfl, ?_⟩
      generalize upd H1 Tp (HO.tup [.int (i : Nat), .ref (ad (namesF F0)[i])]) = H2 at s2 hL2 ⊢
      have tpi := tp.ps _ mem
      refine ⟨.ref (ad (namesF F0)[i]), rfl, .ref (ad (namesF F0)[i]), .ty "tuple", .type "tuple", .type "tuple", true, rfl, .ty "tuple", tyx_tup (Same.tup s2 tpi), kit_ty (by decide +kernel), true, rfl, iteF ?_⟩
      refine ⟨.ref (ad (namesF F0)[i]), rfl, ad (namesF F0)[i], rfl, ⟨_, Same.tup s2 tpi⟩, for_tup (K := K) (a := ad (namesF F0)[i]) (xs := strV (g (namesF F0)[i]))
        (fun j σ Hj => ∃ y5, σ = [some (.ref x), some (.ref qa), some (.ref L), some (.int (i : Nat)), some (.ref (ad (namesF F0)[i])), y5] ∧ Same H Hj ∧ Hj L = some (.lst (strV (((namesF F0).take i).flatMap g ++ (g (namesF F0)[i]).take j))))
        ⟨_, rfl, s2, by rw [List.take_zero, List.append_nil]; exact hL2⟩ (fun j σ Hj _ ⟨_, _, sj, _⟩ => Same.tup sj tpi) ?_ ?_⟩
      · rintro j v σ Hj hv ⟨y5', rfl, sj, hj⟩
        obtain ⟨z, hz, rfl⟩ := strV_inv hv
        obtain ⟨lj, ez⟩ := List.getElem?_eq_some_iff.mp hz
        obtain ⟨wz, hwz⟩ := name_look (po.mem mem (List.mem_of_getElem? hz))
        have wj := web.same sj
        obtain ⟨dx, ho⟩ := wj.ob
        refine ⟨.ref x, rfl, x, dx, _, rfl, ho, has_no a d, .str z, rfl, x, a, d, ts, F0, z, wz, rfl, wj, hwz, fun H3 s3 => ⟨true, rfl, iteF ?_⟩⟩
        have h3 := s3 _ _ hj
        have new := pile_new ndT li lj
        rw [ez] at new
        have b1 := po.len ok mem
        have b2 : (((namesF F0).take i).flatMap g).length ≤ 12 := by
          have e : (((namesF F0).take i).flatMap g).length ≤ ((namesF F0).flatMap g).length := by
            conv => rhs; rw [← List.take_append_drop i (namesF F0)]
            rw [List.flatMap_append, List.length_append]; omega
          have := po.length_eq
          omega
        refine ⟨.str z, rfl, .ref L, rfl, L, _, rfl, .inl (SqL.of h3), rfl, flat_str _, false, ?_, iteF ?_⟩
        · show V.bl (inV (.str z) (strV _)) = V.bl false
          rw [inV_str, decide_eq_false new]
        · refine ⟨.ref L, rfl, .inl ⟨rfl, _, SqL.of h3⟩, .str z, rfl, L, _, _, rfl, rfl, h3, by rw [strV_len, List.length_append, List.length_take]; exact small_lt (by omega), _, rfl, fun b o e => ?_, ?_⟩
          · rw [upd_ne (ne_of_none e nL)]
            exact s3 _ _ (sj b o e)
          · rw [upd_same, strV_app, List.append_assoc, List.take_succ_eq_append_getElem lj, ez]
      · rintro σ Hj ⟨y5', rfl, sj, hj⟩
        rw [strV_len, List.take_length, ← flat_next li] at hj
        exact ⟨_, _, _, rfl, sj, hj⟩
    · rintro σ H1 ⟨y3, y4, y5, rfl, sm, _⟩
      exact q H1 sm
/-! ### check_piles -/
abbrev NCp : List Str := ["web", "piles", "place", "pile"]
theorem scCp : FnScope NCp ["web", "piles"] (defScope sChkPil) :=
  ⟨rfl, rfl, rfl, by decide +kernel, rfl, by decide +kernel, by decide +kernel⟩
theorem ok_chkPil {f fF fL C : Addr} {fd fdF fdL : FuncData} (F : Fun K "check_piles" "check_piles" sChkPil f fd) (T : Tx mg) (Z : Tz mg) (L : OwnLen P w K mg base C fL fdL)
    (FF : Fun K "first_wrong_pile" "first_wrong_pile" sFwp fF fdF) (bF : Binds K fdF ["web", "piles"] []) (gF : mg "first_wrong_pile" = some (.ref fF)) (GF : FnOk P w K mg base CX0 3 fF fdF ["web", "piles"] (spPilOk K C)) :
    FnOk P w K mg base CX0 4 f fd ["web", "piles"] (spPilOk K C) := by
  refine F.ok scCp (fun vs H Q E h => ?_) (fun cdv A outer s H vs Q E hr h => ?_)
  · obtain ⟨x, a, d, ts, F0, q, g, ad, rfl, _⟩ := h
    rfl
  · obtain ⟨x, a, d, ts, F0, qa, g, ad, rfl, web, tp, po, q⟩ := h
    have hr1 := hr.mono (show 2 ≤ 3 by decide)
    refine ⟨_, pss_cons (ps_if (PW.pt (pw_or (pt_not (pt_val (pe_callB call_isi (by rfl) T.isi boot_isinstance (pa_cons (pv 1) (pa_cons (pe_bltn (v := .ty "tuple") (by rfl) T.tup PyProof.Rows.boot_tuple rfl) pa_nil)))))
        (pw_or1 (pt_cmpR op_ne (pe_callB call_len_seq (by rfl) T.len PySem.boot_len (pa_cons (pv 1) pa_nil)) (pe_callB (call_lenOwn L.ok hr1 L.bn L.fi L.fn) (by rfl) T.len PySem.boot_len (pa_cons (pv 0) pa_nil)) (nomark _))))) (pss_one ps_never) pss_nil)
      (pss_cons (ps_set (i := 2) scCp.nd rfl (Or.inl rfl) (pe_call GF hr (by rfl) gF FF.kp bF .nil pass0 (pa_cons (pv 0) (pa_cons (pv 1) pa_nil))))
      (pss_one (ps_if (PW.pt (pw_or (pt_cmpR op_notN (pv 2) pe_non (nomark _)) (pw_or1 (pt_cmpR op_lt (pe_callB (cr_sum rfl) (by rfl) Z.sum PyProof.Rows.boot_sum (pa_cons
          (pe_lc (own := [("pile", 3)]) (g := gName 3) (tt := tYes) (te := tCB (fun xs H Q => ∃ p ys, xs = [.ref p] ∧ (SqL K H p ys ∨ SqT K H p ys) ∧ Q (.int ys.length) H) (tCons (tVar 3) tNil)) rfl scCp.nd (pi_tup (pv 1))
            (blkOk_by (N := NCp) (sc := defScope sChkPil) (by decide +kernel)) (fun _ _ _ _ _ => pg_name (i := 3) scCp.nd rfl (Or.inl rfl)) (fun _ _ _ _ _ => pts_nil)
            (fun _ _ _ _ _ => pe_callB call_len_seq (by rfl) T.len PySem.boot_len (pa_cons (pv 3) pa_nil))) pa_nil))
        (pe_callB (call_lenOwn L.ok hr1 L.bn L.fi L.fn) (by rfl) T.len PySem.boot_len (pa_cons (pv 0) pa_nil)) (nomark _))))) (pss_one ps_never) pss_nil))), ?_⟩
    have ok := web.ok
    have hm := ok.most
    obtain ⟨nmF, l12⟩ := names_nm ok
    have lnF : (namesF F0).length = F0.length := by unfold namesF; rw [List.length_map]
    obtain ⟨dx, ho⟩ := web.ob
    refine ⟨.ref qa, rfl, .ref qa, .ty "tuple", .type "tuple", .type "tuple", true, rfl, .ty "tuple", tyx_tup tp.tp, kit_ty (by decide +kernel), true, rfl, iteF ?_⟩
    refine ⟨.ref qa, rfl, qa, _, rfl, .inr tp.tp, .ref x, rfl, x, dx, _, rfl, ho, x, a, d, ts, F0, rfl, web, _, rfl, by omega, by omega, rfl, false, ?_, iteF ?_⟩
    · rw [List.length_map, lnF, decide_eq_true rfl]
      rfl
    refine ⟨.ref x, rfl, .ref qa, rfl, x, a, d, ts, F0, qa, g, ad, rfl, web, tp, po, fun H1 s1 => ?_⟩
    have t1 := tp.same s1
    refine ⟨.non, rfl, rfl, false, rfl, iteF ?_⟩
    refine ⟨.ref qa, rfl, qa, rfl, ⟨_, t1.tp⟩, fun D hD => ?_⟩
    refine lc_tup (K := K) (a := qa) (xs := (namesF F0).map fun y => V.ref (ad y)) (fun i H2 => Same H1 H2 ∧ H2 D = some (.lst ((((namesF F0).take i).map fun y => ((g y).length : Int)).map V.int))) ⟨same_upd hD, upd_same⟩ (fun i H2 _ h => Same.tup h.1 t1.tp) ?_ ?_
    · rintro i v H2 hv ⟨s2, h2⟩
      have li : i < (namesF F0).length := by have := (List.getElem?_eq_some_iff.mp hv).1; rwa [List.length_map] at this
      have ev : ((namesF F0).map fun y => V.ref (ad y))[i]? = some (.ref (ad (namesF F0)[i])) := by rw [List.getElem?_map, List.getElem?_eq_getElem li]; rfl
      cases ev.symm.trans hv
      refine ⟨rfl, .ref (ad (namesF F0)[i]), rfl, ad (namesF F0)[i], _, rfl, .inr (Same.tup s2 (t1.ps _ (List.getElem_mem li))), _, h2, by rw [List.length_map, List.length_map, List.length_take]; exact small_lt (by omega), fun b o e => ?_, ?_⟩
      · rw [upd_ne (ne_of_none e hD)]
        exact s2 b o e
      · rw [upd_same, List.take_succ_eq_append_getElem li, List.map_append, List.map_append, strV_len]
        rfl
    · rintro H2 ⟨s2, h2⟩
      rw [List.length_map, List.take_length] at h2
      have S2 := s1.trans s2
      have w2 := web.same S2
      obtain ⟨dx2, ho2⟩ := w2.ob
      refine ⟨D, _, rfl, SqL.of h2, .ref x, rfl, x, dx2, _, rfl, ho2, x, a, d, ts, F0, rfl, w2, _, rfl, by omega, by omega, _, _, rfl, rfl, false, ?_, iteF ?_⟩
      · exact blF (by rw [pile_len, po.length_eq, lnF]; omega)
      · exact q H2 S2
end
end Hee


set_option Elab.async false
set_option linter.all false
set_option maxRecDepth 100000
namespace Hee
open PySem PySem.Spec PyProof.Rows L2
abbrev sRowsOf : Stmt := top 47
section
variable {P : Program} {w : World} {K : PySem.W.Frag}
  {mg : Str → Option Value} {base : Heap}
/-! ### laid, piles -/
def spLaid (K : PySem.W.Frag) (C : Addr) : Sp := fun vs H Q _ => ∃ (x a d : Addr) (ts : List Addr) (F : Folk) (r : Addr) (l : List Str) (q : Addr) (f : Str → List Str) (ad : Str → Addr), vs = [.ref x, .ref r, .ref q] ∧
  WebAt K C H x a d ts F ∧ SqT K H r (strV l) ∧ RowOk F l ∧ TPil K H q F f ad ∧ PilOk F f ∧ ∀ p H', Same H H' → H' p = some (.tup (strV (l.flatMap f))) → Q (.ref p) H'
theorem scLa : FnScope ["web", "row", "piles"] ["web", "row", "piles"] (defScope sLaid) :=
  ⟨rfl, rfl, rfl, by decide +kernel, rfl, by decide +kernel, by decide +kernel⟩
theorem ok_laid {f fB fR fD fS fA C : Addr} {fd fdB fdR fdD fdS fdA : FuncData} (F : Fun K "laid" "laid" sLaid f fd)
    (FB : Fun K "check_web" "check_web" sChkWeb fB fdB) (bB : Binds K fdB ["web"] []) (gB : mg "check_web" = some (.ref fB)) (GB : FnOk P w K mg base CX0 1 fB fdB ["web"] (spChkWeb K C))
    (FR : Fun K "check_row" "check_row" sChkRow fR fdR) (bR : Binds K fdR ["web", "row"] []) (gR : mg "check_row" = some (.ref fR)) (GR : FnOk P w K mg base CX0 4 fR fdR ["web", "row"] (spChkRow K C))
    (FD : Fun K "check_piles" "check_piles" sChkPil fD fdD) (bD : Binds K fdD ["web", "piles"] []) (gD : mg "check_piles" = some (.ref fD)) (GD : FnOk P w K mg base CX0 4 fD fdD ["web", "piles"] (spPilOk K C))
    (FS : Fun K "replaced" "replaced" sRepl fS fdS) (bS : Binds K fdS ["names", "by"] []) (gS : mg "replaced" = some (.ref fS)) (GS : FnOk P w K mg base CX0 1 fS fdS ["names", "by"] (spRepl K))
    (FA : Fun K "pile_at" "pile_at" sPileAt fA fdA) (bA : Binds K fdA ["web", "piles"] []) (gA : mg "pile_at" = some (.ref fA)) (GA : FnOk P w K mg base CX0 2 fA fdA ["web", "piles"] (spPileAt K C)) :
    FnOk P w K mg base CX0 5 f fd ["web", "row", "piles"] (spLaid K C) := by
  refine F.ok scLa (fun vs H Q E h => ?_) (fun cdv A outer s H vs Q E hr h => ?_)
  · obtain ⟨x, a, d, ts, F0, r, l, q, g, ad, rfl, _⟩ := h
    rfl
  · obtain ⟨x, a, d, ts, F0, r, l, qa, g, ad, rfl, web, hS, ro, tp, po, q⟩ := h
    refine ⟨_, pss_cons (ps_expr (pe_call GB (hr.mono (by decide)) (by rfl) gB FB.kp bB .nil pass0 (pa_cons (pv 0) pa_nil)))
      (pss_cons (ps_expr (pe_call GR (hr.mono (by decide)) (by rfl) gR FR.kp bR .nil pass0 (pa_cons (pv 0) (pa_cons (pv 1) pa_nil))))
      (pss_cons (ps_expr (pe_call GD (hr.mono (by decide)) (by rfl) gD FD.kp bD .nil pass0 (pa_cons (pv 0) (pa_cons (pv 2) pa_nil))))
      (pss_one (ps_ret (pe_call GS (hr.mono (by decide)) (by rfl) gS FS.kp bS .nil pass0 (pa_cons (pv 1) (pa_cons (pe_call GA (hr.mono (by decide)) (by rfl) gA FA.kp bA .nil pass0 (pa_cons (pv 0) (pa_cons (pv 2) pa_nil))) pa_nil))))))), ?_⟩
    refine ⟨.ref x, rfl, x, a, d, ts, F0, rfl, web, ?_⟩
    refine ⟨.ref x, rfl, .ref r, rfl, x, a, d, ts, F0, r, l, rfl, web, hS, ro, fun H1 s1 => ?_⟩
    refine ⟨.ref x, rfl, .ref qa, rfl, x, a, d, ts, F0, qa, g, ad, rfl, web.same s1, tp.same s1, po, fun H2 s2 => ?_⟩
    have S2 := s1.trans s2
    refine ⟨.ref r, rfl, .ref x, rfl, .ref qa, rfl, x, a, d, ts, F0, qa, g, ad, rfl, web.same S2, tp.same S2, fun D H3 _ s3 d3 => ?_⟩
    have S3 := S2.trans s3
    have bd := (po.row ro).length_eq
    have l12 := (names_nm web.ok).2
    exact ⟨r, D, F0, l, g, ad, rfl, Same.tup S3 hS, d3, fun z hz => ro.mem_iff.mp hz, by omega, fun p H4 s4 h4 => q p H4 (S3.trans s4) h4⟩
def spPiles (K : PySem.W.Frag) (C : Addr) : Sp := fun vs H Q _ => ∃ (x a d : Addr) (ts : List Addr) (F : Folk) (c : Addr) (cs : List Str), vs = [.ref x, .ref c] ∧ WebAt K C H x a d ts F ∧
  SqT K H c (strV cs) ∧ cs.length ≤ 400 ∧ CallsOk F cs ∧ ∀ q ad H', Same H H' → TPil K H' q F (pilF F cs) ad → Q (.ref q) H'
theorem scPi : FnScope ["web", "calls"] ["web", "calls"] (defScope sPiles) :=
  ⟨rfl, rfl, rfl, by decide +kernel, rfl, by decide +kernel, by decide +kernel⟩
theorem ok_piles {f fB fD fS C : Addr} {fd fdB fdD fdS : FuncData} (F : Fun K "piles" "piles" sPiles f fd)
    (FB : Fun K "check_web" "check_web" sChkWeb fB fdB) (bB : Binds K fdB ["web"] []) (gB : mg "check_web" = some (.ref fB)) (GB : FnOk P w K mg base CX0 1 fB fdB ["web"] (spChkWeb K C))
    (FD : Fun K "check_calls" "check_calls" sChkCalls fD fdD) (bD : Binds K fdD ["web", "calls"] []) (gD : mg "check_calls" = some (.ref fD)) (GD : FnOk P w K mg base CX0 6 fD fdD ["web", "calls"] (spChkCalls K C))
    (FS : Fun K "piled" "piled" sPiled fS fdS) (bS : Binds K fdS ["web", "calls"] []) (gS : mg "piled" = some (.ref fS)) (GS : FnOk P w K mg base CX0 5 fS fdS ["web", "calls"] (spPiled K C)) :
    FnOk P w K mg base CX0 7 f fd ["web", "calls"] (spPiles K C) := by
  refine F.ok scPi (fun vs H Q E h => ?_) (fun cdv A outer s H vs Q E hr h => ?_)
  · obtain ⟨x, a, d, ts, F0, c, cs, rfl, _⟩ := h
    rfl
  · obtain ⟨x, a, d, ts, F0, c, cs, rfl, web, hC, h4, ca, q⟩ := h
    refine ⟨_, pss_cons (ps_expr (pe_call GB (hr.mono (by decide)) (by rfl) gB FB.kp bB .nil pass0 (pa_cons (pv 0) pa_nil)))
      (pss_cons (ps_expr (pe_call GD hr (by rfl) gD FD.kp bD .nil pass0 (pa_cons (pv 0) (pa_cons (pv 1) pa_nil))))
      (pss_one (ps_ret (pe_call GS (hr.mono (by decide)) (by rfl) gS FS.kp bS .nil pass0 (pa_cons (pv 0) (pa_cons (pv 1) pa_nil)))))), ?_⟩
    refine ⟨.ref x, rfl, x, a, d, ts, F0, rfl, web, ?_⟩
    refine ⟨.ref x, rfl, .ref c, rfl, x, a, d, ts, F0, c, cs, rfl, web, hC, h4, ca, fun H1 s1 => ?_⟩
    exact ⟨.ref x, rfl, .ref c, rfl, x, a, d, ts, F0, c, cs, rfl, web.same s1, Same.tup s1 hC, ca, fun q0 ad H2 s2 t2 => q q0 ad H2 (s1.trans s2) t2⟩
/-! ### all rows -/
/-- a slice of a tuple: the tuple itself, or a new one -/
theorem slice_any {K : PySem.W.Frag} {H : Hp} {c : Addr} {cs ds : List Str} {lo hi : Option Int} {Q : VK} (h : SqT K H c (strV cs)) (e : cutV (strV cs) lo hi = strV ds)
    (q : ∀ p H', Same H H' → SqT K H' p (strV ds) → Q (.ref p) H') : rSlA K (.ref c) lo hi H Q := by
  refine ⟨c, strV cs, rfl, h, fun whole => ?_, fun _ p np => ?_⟩
  · have same : cutV (strV cs) lo hi = strV cs := by
      unfold cutV
      rw [whole.1, whole.2, List.drop_zero, Nat.sub_zero, List.take_length]
    rw [same] at e
    rw [e] at h
    exact q c H (Same.refl H) h
  · rw [e]
    exact q p _ (same_upd np) (.inl (.inl upd_same))
/-- a list written, all tuples stay -/
theorem tup_lput {K : PySem.W.Frag} {H : Hp} {D a : Addr} {ys zs : List V} {xs : List V} (hD : H D = some (.lst ys)) (h : SqT K H a xs) : SqT K (upd H D (.lst zs)) a xs := by
  have off : ∀ o : HO, (∀ ks, o ≠ .lst ks) → H a = some o → upd H D (.lst zs) a = some o := fun o n e => by
    rw [upd_ne fun z => by rw [z, hD] at e; exact n _ (Option.some.inj e).symm]
    exact e
  exact Or.imp (Or.imp (off _ fun _ e => nomatch e) fun ⟨o, q⟩ => ⟨o, off _ (fun _ e => nomatch e) q⟩) id h
def RowsAt (K : PySem.W.Frag) (H : Hp) (as : List Addr) (ts : List Str) : Prop := ∀ t ∈ as, ∃ l : List Str, SqT K H t (strV l) ∧ l.Perm ts
theorem RowsAt.same {K : PySem.W.Frag} {H H' : Hp} {as : List Addr} {ts : List Str} (h : RowsAt K H as ts) (e : Same H H') : RowsAt K H' as ts := fun t ht => let ⟨l, a, b⟩ := h t ht; ⟨l, Same.tup e a, b⟩
theorem RowsAt.put {K : PySem.W.Frag} {H : Hp} {D : Addr} {ys zs : List V} {as : List Addr} {ts : List Str} (hD : H D = some (.lst ys)) (h : RowsAt K H as ts) : RowsAt K (upd H D (.lst zs)) as ts := fun t ht => let ⟨l, a, b⟩ := h t ht; ⟨l, tup_lput hD a, b⟩
theorem RowsAt.app {K : PySem.W.Frag} {H : Hp} {as bs : List Addr} {ts : List Str} (h : RowsAt K H as ts) (g : RowsAt K H bs ts) : RowsAt K H (as ++ bs) ts := fun t ht => (List.mem_append.mp ht).elim (h t) (g t)
def fac : Nat → Nat
  | 0 => 1
  | n + 1 => fac n * (n + 1)
theorem fac_le : ∀ n, n ≤ 5 → fac n ≤ 120 := by decide
def spRowsOf (K : PySem.W.Frag) : Sp := fun vs H Q _ => ∃ (a : Addr) (ts : List Str), vs = [.ref a] ∧ SqL K H a (strV ts) ∧ ts.length ≤ 5 ∧
  ∀ p (as : List Addr) H', Same H H' → H' p = some (.lst (as.map V.ref)) → RowsAt K H' as ts → Q (.ref p) H'
abbrev NRo : List Str := ["_law_titles_here", "_law_found", "_law_title", "_law_longer", "_law_part", "_law_spot"]
theorem scRo : FnScope NRo ["_law_titles_here"] (defScope sRowsOf) :=
  ⟨rfl, rfl, rfl, by decide +kernel, rfl, by decide +kernel, by decide +kernel⟩
set_option maxHeartbeats 2000000 in
theorem ok_rowsOf {f : Addr} {fd : FuncData} (F : Fun K "_law_rows_of" "_law_rows_of" sRowsOf f fd) (T : Tx mg) :
    FnOk P w K mg base CX0 1 f fd ["_law_titles_here"] (spRowsOf K) := by
  refine F.ok scRo (fun vs H Q E h => ?_) (fun cdv A outer s H vs Q E hr h => ?_)
  · obtain ⟨a, ts, rfl, _⟩ := h
    rfl
  · obtain ⟨a, ts, rfl, hA, l5, q⟩ := h
    refine ⟨_, pss_cons (ps_set (i := 1) scRo.nd rfl (Or.inl rfl) (pe_lst (pa_cons (pe_tup pa_nil) pa_nil)))
      (pss_cons (ps_for PassesOwn.never rfl (pi_list (pv 0)) (pg_name (i := 2) scRo.nd rfl (Or.inr rfl))
        (pss_cons (ps_set (i := 3) scRo.nd rfl (Or.inl rfl) (pe_lst pa_nil))
        (pss_cons (ps_for PassesOwn.never rfl (pi_list (pv 1)) (pg_name (i := 4) scRo.nd rfl (Or.inr rfl))
          (pss_one (ps_expr (pe_bm PySem.F.plainAttrs_list PySem.F.slot_list_extend PySem.F.type_list_extend mt_extend (pv 3) (pa_cons
            (pe_lc (own := [("_law_spot", 5)]) (g := gName 5) (tt := tYes) (te := tOp (rCatA K) (tOp (rCatA K) (tSl (rSlA K) (tVar 4) tNoPart (tPart (tVar 5))) (tTup (tCons (tVar 2) tNil))) (tSl (rSlA K) (tVar 4) (tPart (tVar 5)) tNoPart)) rfl scRo.nd (pi_range1 (by rfl) T.rng (pa_cons (pe_op op_add (pe_callB call_len_seq (by rfl) T.len PySem.boot_len (pa_cons (pv 4) pa_nil)) pe_int) pa_nil))
              (blkOk_by (N := NRo) (sc := defScope sRowsOf) (by decide +kernel)) (fun _ _ _ _ _ => pg_name (i := 5) scRo.nd rfl (Or.inl rfl)) (fun _ _ _ _ _ => pts_nil)
              (fun _ _ _ _ _ => pe_op op_catA (pe_op op_catA (pe_slice sl_tupA (pv 4) po_none (po_some (pv 5))) (pe_tup (pa_cons (pv 2) pa_nil))) (pe_slice sl_tupA (pv 4) (po_some (pv 5)) po_none))) pa_nil)))))
        (pss_one (ps_set (i := 1) scRo.nd rfl (Or.inl rfl) (pv 3))))))
      (pss_one (ps_ret (pv 1)))), ?_⟩
    refine ⟨Nat.zero_le _, fun e0 ne0 => ⟨(by show 1 ≤ sizeLine; decide), fun L0 nL0 => ?_⟩⟩
    have u1 := same_upd (o := .tup []) ne0
    have u2 := same_upd (o := .lst [.ref e0]) nL0
    have s0 := u1.trans u2
    have hL0 : upd (upd H e0 (.tup [])) L0 (.lst [.ref e0]) L0 = some (.lst ([e0].map V.ref)) := upd_same
    have he0 : upd (upd H e0 (.tup [])) L0 (.lst [.ref e0]) e0 = some (.tup []) := u2 _ _ upd_same
    generalize upd (upd H e0 (HO.tup [])) L0 (HO.lst [V.ref e0]) = H0 at s0 hL0 he0 ⊢
    refine ⟨.ref a, rfl, a, rfl, ⟨_, s0.seq hA⟩, for_list (K := K) (a := a) (xs := strV ts) (fun i σ Hi => ∃ (fo : Addr) (as : List Addr) (y2 y3 y4 y5 : Option V), σ = [some (.ref a), some (.ref fo), y2, y3, y4, y5] ∧ Same H Hi ∧
        as.length = fac i ∧ Hi fo = some (.lst (as.map V.ref)) ∧ RowsAt K Hi as (ts.take i))
      ⟨L0, [e0], none, none, none, none, rfl, s0, rfl, hL0, fun t ht => ⟨[], by cases List.mem_singleton.mp ht; exact .inl (.inl he0), List.Perm.nil⟩⟩ (fun i σ Hi _ ⟨_, _, _, _, _, _, _, sm, _⟩ => sm.seq hA) ?_ ?_⟩
    · rintro i v σ Hi hv ⟨fo, as, y2, y3, y4, y5, rfl, sm, la, hfo, rows⟩
      obtain ⟨z, hz, rfl⟩ := strV_inv hv
      obtain ⟨li, ez⟩ := List.getElem?_eq_some_iff.mp hz
      have f5 := fac_le i (by omega)
      refine ⟨Nat.zero_le _, fun lo nlo => ?_⟩
      have u3 := same_upd (o := .lst []) nlo
      have nlo0 : H lo = none := sm.free nlo
      have nlf : fo ≠ lo := ne_of_none hfo nlo
      have s1 := sm.trans u3
      have hfo1 := u3 _ _ hfo
      have rows1 := rows.same u3
      have hlo1 : upd Hi lo (.lst []) lo = some (.lst (([] : List Addr).map V.ref)) := upd_same
      generalize upd Hi lo (HO.lst []) = H1 at s1 hfo1 rows1 hlo1 ⊢
      refine ⟨.ref fo, rfl, fo, rfl, ⟨_, SqL.of hfo1⟩, for_list (K := K) (a := fo) (xs := as.map V.ref) (fun k σ Hk => ∃ (bs : List Addr) (y4 y5 : Option V), σ = [some (.ref a), some (.ref fo), some (.str z), some (.ref lo), y4, y5] ∧ Same H Hk ∧
          Hk fo = some (.lst (as.map V.ref)) ∧ RowsAt K Hk as (ts.take i) ∧ bs.length = k * (i + 1) ∧ Hk lo = some (.lst (bs.map V.ref)) ∧ RowsAt K Hk bs (ts.take (i + 1)))
        ⟨[], _, _, rfl, s1, hfo1, rows1, by simp, hlo1, fun _ h => nomatch h⟩ (fun k σ Hk _ ⟨_, _, _, _, _, h, _⟩ => SqL.of h) ?_ ?_⟩
      · rintro k v σ Hk hv ⟨bs, y4, y5, rfl, sk, hfk, rk, lb, hlk, rb⟩
        obtain ⟨t, ht, rfl⟩ := map_ref hv
        have lk : k < as.length := (List.getElem?_eq_some_iff.mp ht).1
        obtain ⟨l, hl, pl⟩ := rk t (List.mem_of_getElem? ht)
        have ll : l.length = i := by rw [pl.length_eq, List.length_take]; omega
        have room : bs.length + (i + 1) ≤ 1000 := by
          have e1 : (k + 1) * (i + 1) ≤ 120 * 6 := Nat.mul_le_mul (by omega) (by omega)
          rw [Nat.succ_mul] at e1
          omega
        refine ⟨.ref lo, rfl, .inl ⟨rfl, _, SqL.of hlk⟩, .ref t, rfl, t, _, rfl, .inr hl, _, 1, rfl, rfl, _, rfl, ?_, ?_, fun D hD => ?_⟩
        · omega
        · rw [strV_len]; omega
        rw [strV_len, ll]
        have en : (((i : Nat) : Int) + 1 - 0).toNat = i + 1 := by omega
        have nlD : lo ≠ D := ne_of_none hlk hD
        refine lc_range (lo := 0) (n := (((i : Nat) : Int) + 1).toNat) (fun m Hm => ∃ cs : List Addr, cs.length = m ∧ Same Hk Hm ∧ Hm D = some (.lst (cs.map V.ref)) ∧ RowsAt K Hm cs (ts.take (i + 1)))
          ⟨[], rfl, same_upd hD, upd_same, fun _ h => nomatch h⟩ ?_ ?_
        · rintro m Hm ltm ⟨cs, lc, sm2, hDm, rc⟩
          have lm : m ≤ i := by omega
          have hlm := Same.tup sm2 hl
          refine ⟨rfl, .ref t, rfl, .int (0 + m), rfl, m, by rw [Int.zero_add], slice_any hlm (cut_head l (by omega)) fun p1 H2 s2 h2 => ?_⟩
          refine ⟨.str z, rfl, (by show 1 ≤ sizeLine; decide), fun p3 n3 => ?_⟩
          have s3 := same_upd (o := .tup [.str z]) n3
          refine cat_any (l1 := l.take m) (l2 := [z]) (Same.tup s3 h2) (.inl (.inl upd_same)) (by rw [List.length_take]; simp; omega) fun p4 H4 s4 h4 => ?_
          have S4 := (s2.trans s3).trans s4
          refine ⟨.ref t, rfl, .int (0 + m), rfl, m, by rw [Int.zero_add], ?_⟩
          unfold tNoPart
          refine slice_any (Same.tup S4 hlm) (cut_tail l (by omega)) fun p5 H5 s5 h5 => ?_
          refine cat_any (Same.tup s5 h4) h5 (by simp; omega) fun p6 H6 s6 h6 => ?_
          have S6 := (S4.trans s5).trans s6
          have hD6 := S6 _ _ hDm
          refine ⟨_, hD6, by rw [List.length_map]; exact small_lt (by omega), cs ++ [p6], by rw [List.length_append, lc]; rfl, fun b o e => ?_, by rw [upd_same, List.map_append]; rfl, ?_⟩
          · rw [upd_ne (ne_of_none e hD)]
            exact S6 _ _ (sm2 b o e)
          · refine RowsAt.put hD6 ((rc.same S6).app fun t' ht' => ?_)
            cases List.mem_singleton.mp ht'
            refine ⟨_, h6, ?_⟩
            rw [List.take_succ_eq_append_getElem li, ez]
            have p1 : (l.take m ++ [z] ++ l.drop m).Perm (z :: l) := by
              rw [List.append_assoc]
              have := List.perm_middle (a := z) (l₁ := l.take m) (l₂ := l.drop m)
              rwa [List.take_append_drop] at this
            refine p1.trans ((List.Perm.cons z pl).trans ?_)
            exact (List.perm_append_singleton z (ts.take i)).symm
        · rintro Hm ⟨cs, lc, sm2, hDm, rc⟩
          have hlm := sm2 _ _ hlk
          refine ⟨lo, D, _, _, rfl, rfl, hlm, hDm, by rw [List.length_map, List.length_map]; exact small_le (by omega), ?_⟩
          refine ⟨bs ++ cs, _, _, rfl, fun b o e => ?_, ?_, RowsAt.put hlm (rk.same sm2), ?_, by rw [upd_same, List.map_append], RowsAt.put hlm ((rb.same sm2).app rc)⟩
          · rw [upd_ne (ne_of_none e nlo0)]
            exact sm2 _ _ (sk b o e)
          · rw [upd_ne nlf]
            exact sm2 _ _ hfk
          · rw [List.length_append, Nat.succ_mul]
            omega
      · rintro σ Hk ⟨bs, y4, y5, rfl, sk, hfk, rk, lb, hlk, rb⟩
        rw [List.length_map, la] at lb
        exact ⟨.ref lo, rfl, lo, bs, _, _, _, _, rfl, sk, lb, hlk, rb⟩
    · rintro σ Hi ⟨fo, as, y2, y3, y4, y5, rfl, sm, la, hfo, rows⟩
      rw [strV_len, List.take_length] at rows
      exact ⟨.ref fo, rfl, q fo as Hi sm hfo rows⟩
end
end Hee


set_option Elab.async false
set_option linter.all false
set_option maxRecDepth 100000
namespace Hee
open PySem PySem.Spec PyProof.Rows L2
abbrev sRight : Stmt := top 48
abbrev sLaw : Stmt := top 49
theorem Kp.til {K : PySem.W.Frag} {p q : Addr} {H H' : Hp} {F : Folk} {f : Str → List Str} {ad : Str → Addr} (pu : Purse H p) (k : Kp p H H') (t : TPil K H q F f ad) : TPil K H' q F f ad :=
  ⟨Kp.tup pu k t.tp, fun y hy => Kp.tup pu k (t.ps y hy)⟩
theorem names_next {F : Folk} {i : Nat} {p : Str × Option Str} (h : F[i]? = some p) : strV (namesF (F.take (i + 1))) = strV (namesF (F.take i)) ++ [.str p.1] := by
  unfold namesF strV
  rw [List.take_add_one, h, List.map_append, List.map_append]
  rfl
/-- the first and the last of a row -/
theorem row_ends {l : List Str} (h : 0 < l.length) : ∃ z y : Str, atI (strV l) 0 = some (.str z) ∧ atI (strV l) (-1) = some (.str y) := by
  have ne : l ≠ [] := fun e => by rw [e] at h; cases h
  refine ⟨l[0], l.getLast ne, ?_, ?_⟩
  · exact atI_nat (j := 0) (strV_get (List.getElem?_eq_getElem h))
  · have e := List.dropLast_concat_getLast ne
    conv => lhs; rw [← e]
    rw [← strV_app]
    exact atI_last _ _
section
variable {P : Program} {w : World} {K : PySem.W.Frag}
  {mg : Str → Option Value} {base : Heap}
def spRight : Sp := fun vs H Q _ => ∃ p : Addr, vs = [.ref p] ∧ Purse H p ∧ ∀ H', Purse H' p → Kp p H H' → Q (.bl true) H'
abbrev NRt : List Str := ["_law_purse_here", "_law_folk_here", "_law_net", "_law_some_here", "_law_heaps", "_law_cut", "_law_ahead", "_law_later", "_law_queue", "_law_goal", "_law_title", "_law_mate"]
theorem scRt : FnScope NRt ["_law_purse_here"] (defScope sRight) :=
  ⟨rfl, rfl, rfl, by decide +kernel, rfl, by decide +kernel, by decide +kernel⟩
set_option maxHeartbeats 4000000 in
theorem ok_right {f fT fF fI fO fP fR fL fD fW C : Addr} {fd fdT fdF fdI fdO fdP fdR fdL fdD fdW : FuncData} (F : Fun K "_law_right" "_law_right" sRight f fd) (T : Tx mg) (Y : Ty mg) (W : Tw K mg C) (MK : Mk K C fI)
    (FT : Fun K "_law_take" "_law_take" sTake fT fdT) (bT : Binds K fdT ["_law_purse_here", "_law_wide"] []) (gT : mg "_law_take" = some (.ref fT))
    (FF : Fun K "_law_folk" "_law_folk" sFolk fF fdF) (bF : Binds K fdF ["_law_purse_here", "_law_size"] []) (gF : mg "_law_folk" = some (.ref fF)) (GF : FnOk P w K mg base CX0 3 fF fdF ["_law_purse_here", "_law_size"] (spFolk K))
    (bI : Binds K fdI ["self", "persons"] []) (GI : FnOk P w K mg base CX0 4 fI fdI ["self", "persons"] (spInit K C))
    (FO : Fun K "_law_some" "_law_some" sSome fO fdO) (bO : Binds K fdO ["_law_purse_here", "_law_folk_here", "_law_wide"] []) (gO : mg "_law_some" = some (.ref fO)) (GO : FnOk P w K mg base CX0 2 fO fdO ["_law_purse_here", "_law_folk_here", "_law_wide"] (spSome K))
    (FP : Fun K "piles" "piles" sPiles fP fdP) (bP : Binds K fdP ["web", "calls"] []) (gP : mg "piles" = some (.ref fP)) (GP : FnOk P w K mg base CX0 7 fP fdP ["web", "calls"] (spPiles K C))
    (FR : Fun K "_law_rows_of" "_law_rows_of" sRowsOf fR fdR) (bR : Binds K fdR ["_law_titles_here"] []) (gR : mg "_law_rows_of" = some (.ref fR)) (GR : FnOk P w K mg base CX0 1 fR fdR ["_law_titles_here"] (spRowsOf K))
    (FL : Fun K "laid" "laid" sLaid fL fdL) (bL : Binds K fdL ["web", "row", "piles"] []) (gL : mg "laid" = some (.ref fL)) (GL : FnOk P w K mg base CX0 5 fL fdL ["web", "row", "piles"] (spLaid K C))
    (FD : Fun K "done" "done" sDone fD fdD) (bD : Binds K fdD ["web", "row", "calls"] []) (gD : mg "done" = some (.ref fD)) (GD : FnOk P w K mg base CX0 7 fD fdD ["web", "row", "calls"] (spDone K C))
    (FW : Fun K "_law_walked" "_law_walked" sWalked fW fdW) (bW : Binds K fdW ["_law_folk_here", "_law_queue", "_law_some_here"] []) (gW : mg "_law_walked" = some (.ref fW)) (GW : FnOk P w K mg base CX0 2 fW fdW ["_law_folk_here", "_law_queue", "_law_some_here"] (spWalked K)) :
    FnOk P w K mg base CX0 8 f fd ["_law_purse_here"] spRight := by
  have GT : FnOk P w K mg base CX0 1 fT fdT ["_law_purse_here", "_law_wide"] spTake := ok_take FT Y
  refine F.ok scRt (fun vs H Q E h => ?_) (fun cdv A outer s H vs Q E hr h => ?_)
  · obtain ⟨p, rfl, _⟩ := h
    rfl
  · obtain ⟨p, rfl, pu, q⟩ := h
    have hr1 := hr.mono (show 1 ≤ 7 by decide)
    have hr2 := hr.mono (show 2 ≤ 7 by decide)
    have hr3 := hr.mono (show 3 ≤ 7 by decide)
    have hr5 := hr.mono (show 5 ≤ 7 by decide)
    refine ⟨_, pss_cons (ps_set (i := 1) scRt.nd rfl (Or.inl rfl) (pe_call GF hr3 (by rfl) gF FF.kp bF .nil pass0 (pa_cons (pv 0) (pa_cons (pe_op op_add pe_int (pe_call GT hr1 (by rfl) gT FT.kp bT .nil pass0 (pa_cons (pv 0) (pa_cons pe_int pa_nil)))) pa_nil))))
      (pss_cons (ps_par (i := 2) (j := 3) (by rfl) scRt.nd rfl rfl (by decide) rfl rfl (pa_cons (pe_make MK GI hr5 (by rfl) W.mgC bI .nil pass0 (pa_cons (pv 1) pa_nil))
          (pa_cons (pe_call GO hr2 (by rfl) gO FO.kp bO .nil pass0 (pa_cons (pv 0) (pa_cons (pv 1) (pa_cons
            (pe_ix ix_list (pe_lst (pa_cons pe_int (pa_cons pe_int pa_nil))) (pe_callTy call_int1 (by rfl) Y.int (by decide +kernel) (pa_cons
              (pe_cmpR op_eq (pe_call GT hr1 (by rfl) gT FT.kp bT .nil pass0 (pa_cons (pv 0) (pa_cons pe_int pa_nil))) pe_int (nomark _)) pa_nil)) (fun _ _ => rfl)) pa_nil)))) pa_nil)) (by rfl))
      (pss_cons (ps_par (i := 4) (j := 5) (by rfl) scRt.nd rfl rfl (by decide) rfl rfl (pa_cons (pe_call GP hr (by rfl) gP FP.kp bP .nil pass0 (pa_cons (pv 2) (pa_cons (pv 3) pa_nil)))
          (pa_cons (pe_call GT hr1 (by rfl) gT FT.kp bT .nil pass0 (pa_cons (pv 0) (pa_cons (pe_op op_add (pe_callB call_len_seq (by rfl) T.len PySem.boot_len (pa_cons (pv 3) pa_nil)) pe_int) pa_nil))) pa_nil)) (by rfl))
      (pss_cons (ps_par (i := 6) (j := 7) (by rfl) scRt.nd rfl rfl (by decide) rfl rfl (pa_cons (pe_call GP hr (by rfl) gP FP.kp bP .nil pass0 (pa_cons (pv 2) (pa_cons (pe_slice sl_tupA (pv 3) po_none (po_some (pv 5))) pa_nil)))
          (pa_cons (pe_call GP hr (by rfl) gP FP.kp bP .nil pass0 (pa_cons (pv 2) (pa_cons (pe_slice sl_tupA (pv 3) (po_some (pv 5)) po_none) pa_nil))) pa_nil)) (by rfl))
      (pss_cons (ps_for PassesOwn.never rfl (pi_list (pe_call GR hr1 (by rfl) gR FR.kp bR .nil pass0 (pa_cons
            (pe_lc (own := [("_law_title", 10), ("_law_mate", 11)]) (g := gTup K 2 (gCons (gName 10) (gCons (gName 11) gNil))) (tt := tYes) rfl scRt.nd (pi_tup (pv 1))
              (blkOk_by (N := NRt) (sc := defScope sRight) (by decide +kernel))
              (fun _ _ _ _ _ => pg_tup (by rfl) (pgs_cons (pg_name (i := 10) scRt.nd rfl (Or.inl rfl)) (pgs_cons (pg_name (i := 11) scRt.nd rfl (Or.inl rfl)) pgs_nil)))
              (fun _ _ _ _ _ => pts_nil) (fun _ _ _ _ _ => pv 10)) pa_nil))) (pg_name (i := 8) scRt.nd rfl (Or.inl rfl))
        (pss_cons (ps_set (i := 9) scRt.nd rfl (Or.inl rfl) (pe_call GL hr5 (by rfl) gL FL.kp bL .nil pass0 (pa_cons (pv 2) (pa_cons (pv 8) (pa_cons (pv 4) pa_nil)))))
        (pss_cons (ps_if (PW.pt (pw_or (pt_cmpR (op_neD hr.units) (pe_call GD hr (by rfl) gD FD.kp bD .nil pass0 (pa_cons (pv 2) (pa_cons (pv 8) (pa_cons (pv 3) pa_nil)))) (pv 9) (nomark _))
            (pw_or1 (pt_cmpR (op_neD hr.units) (pe_call GL hr5 (by rfl) gL FL.kp bL .nil pass0 (pa_cons (pv 2) (pa_cons (pe_call GL hr5 (by rfl) gL FL.kp bL .nil pass0 (pa_cons (pv 2) (pa_cons (pv 8) (pa_cons (pv 6) pa_nil)))) (pa_cons (pv 7) pa_nil)))) (pv 9) (nomark _)))))
          (pss_one (ps_ret pe_bl)) pss_nil)
        (pss_one (ps_if (PW.pt (pw_and (pt_cmpR op_lt_str (pe_ix ix_tup (pv 8) pe_int (fun _ _ => rfl)) (pe_ix ix_tup (pv 8) (pe_un un_neg pe_int) (fun _ _ => rfl)) (nomark _))
            (pw_and1 (pt_cmpR (op_neD hr.units) (pe_call GW hr2 (by rfl) gW FW.kp bW .nil pass0 (pa_cons (pv 1) (pa_cons (pv 8) (pa_cons (pv 3) pa_nil)))) (pv 9) (nomark _)))))
          (pss_one (ps_ret pe_bl)) pss_nil)))))
      (pss_one (ps_ret pe_bl)))))), ?_⟩
    -- a web
    refine ⟨.ref p, rfl, .ref p, rfl, p, 5, rfl, pu, by decide, by decide, fun r H1 r0 r1 pu1 k1 => ?_⟩
    obtain ⟨n, rfl⟩ : ∃ n : Nat, r = n := ⟨r.toNat, by omega⟩
    refine ⟨1, (n : Int), rfl, rfl, p, 1 + n, by show [V.ref p, V.int ((1 : Int) + (n : Int))] = _; rw [show ((1 : Int) + (n : Int)) = ((1 + n : Nat) : Int) by omega], pu1, by omega, by omega, fun F0 af of tsf Hf okf lnf psf obf odf puf kf => ?_⟩
    have kF : Kp p H Hf := Kp.trans k1 kf
    have fo : FolkAt K Hf af of tsf F0 := ⟨obf, odf, psf, okf⟩
    refine ⟨.ref af, rfl, fun x dx nx ndx nex => ?_⟩
    have sx : Same Hf (upd (upd Hf dx (.own x)) x (.ins C dx [])) := fun b o' e => by
      rw [upd_ne (ne_of_none e nx), upd_ne (ne_of_none e ndx)]; exact e
    refine ⟨x, dx, af, tsf, F0, rfl, upd_same, Same.pers sx psf, okf, fun d H2 nd web kp => ⟨rfl, ?_⟩⟩
    have s2 : Same Hf H2 := fun b o' e => kp b o' (ne_of_none e nx) (sx b o' e)
    have pu2 := puf.keep s2
    have fo2 := fo.same s2
    have k2 : Kp p H H2 := Kp.trans kF (Kp.of s2)
    -- calls
    refine ⟨.ref p, rfl, .ref af, rfl, (by show 2 ≤ sizeLine; decide), fun lw nlw => ?_⟩
    have s3 := same_upd (o := .lst [.int 20, .int 90]) nlw
    have npl : p ≠ lw := by obtain ⟨_, _, _, e, _⟩ := pu2; exact ne_of_none e nlw
    refine ⟨.ref p, rfl, p, 8, rfl, pu2.keep s3, by decide, by decide, fun r2 H3 _ _ pu3 kp3 => ⟨rfl, .inr ⟨_, rfl, ?_⟩⟩⟩
    have hl3 := kp3 lw _ npl.symm upd_same
    have k23 : Kp p H2 H3 := Kp.trans (Kp.of s3) kp3
    obtain ⟨wd, hx, wd0, wd4⟩ : ∃ wd : Int, atI [V.int 20, .int 90] (if decide (V.int r2 = V.int 3) = true then 1 else 0) = some (.int wd) ∧ 0 ≤ wd ∧ wd ≤ 400 := by
      by_cases e : V.int r2 = V.int 3
      · rw [decide_eq_true e]; exact ⟨90, rfl, by decide, by decide⟩
      · rw [decide_eq_false e]; exact ⟨20, rfl, by decide, by decide⟩
    refine ⟨lw, _, _, .int wd, rfl, rfl, SqL.of hl3, hx, p, af, tsf, F0, wd, rfl, pu3, Kp.pers pu2 k23 fo2.ps, okf, wd0, wd4, fun cs c H4 ca c4 pu4 k34 hc => ⟨_, _, rfl, ?_⟩⟩
    have k24 : Kp p H2 H4 := Kp.trans k23 k34
    have k4 : Kp p H H4 := Kp.trans k2 k24
    have web4 := Kp.web pu2 k24 web
    have fo4 := Kp.folk pu2 k24 fo2
    have hC4 : SqT K H4 c (strV cs) := .inl (.inl hc)
    -- piles of all, and where to cut
    refine ⟨.ref x, rfl, .ref c, rfl, x, af, d, tsf, F0, c, cs, rfl, web4, hC4, c4, ca, fun qh adh H5 s5 th => ?_⟩
    have pu5 := pu4.keep s5
    have hC5 := Same.tup s5 hC4
    refine ⟨.ref p, rfl, .ref c, rfl, c, _, rfl, .inr hC5, _, 1, rfl, rfl, p, _, rfl, pu5, by rw [strV_len]; omega, by rw [strV_len]; omega, fun ct H6 ct0 ct1 pu6 kp6 => ⟨_, _, rfl, ?_⟩⟩
    rw [strV_len] at ct1
    obtain ⟨k, rfl⟩ : ∃ k : Nat, ct = k := ⟨ct.toNat, by omega⟩
    have kc : k ≤ cs.length := by omega
    have k46 : Kp p H4 H6 := Kp.trans (Kp.of s5) kp6
    have k6 : Kp p H H6 := Kp.trans k4 k46
    have web6 := Kp.web pu4 k46 web4
    have fo6 := Kp.folk pu4 k46 fo4
    have hC6 := Kp.tup pu4 k46 hC4
    have th6 := Kp.til pu5 kp6 th
    -- piles of the two parts
    refine ⟨.ref x, rfl, .ref c, rfl, .int k, rfl, k, rfl, slice_any hC6 (cut_head cs kc) fun c1 H7 s7 hc1 => ?_⟩
    refine ⟨x, af, d, tsf, F0, c1, cs.take k, rfl, web6.same s7, hc1, by rw [List.length_take]; omega, ca.take k, fun qa ada H8 s8 ta => ?_⟩
    have S8 := s7.trans s8
    refine ⟨.ref x, rfl, .ref c, rfl, .int k, rfl, k, rfl, ?_⟩
    unfold tNoPart
    refine slice_any (Same.tup S8 hC6) (cut_tail cs kc) fun c2 H9 s9 hc2 => ?_
    refine ⟨x, af, d, tsf, F0, c2, cs.drop k, rfl, (web6.same S8).same s9, hc2, by rw [List.length_drop]; omega, ca.drop k, fun ql adl HA sA tl => ⟨_, _, rfl, ?_⟩⟩
    have s8A := s9.trans sA
    have SA := S8.trans s8A
    have webA := web6.same SA
    have foA := fo6.same SA
    have hCA := Same.tup SA hC6
    have thA := th6.same SA
    have taA := ta.same s8A
    obtain ⟨hS, hl, hi⟩ := foA.ps
    have hm := okf.most
    -- all rows
    refine ⟨.ref af, rfl, af, rfl, ⟨_, hS⟩, fun D hD => ?_⟩
    refine lc_tup (K := K) (a := af) (xs := tsf.map V.ref) (fun i Hi => Hi D = some (.lst (strV (namesF (F0.take i)))) ∧ Same HA Hi) ⟨upd_same, same_upd hD⟩ (fun i Hi _ h => Same.tup h.2 hS) ?_ ?_
    · rintro i v Hi hv ⟨hd2, sm⟩
      obtain ⟨t, ht, rfl⟩ := map_ref hv
      have lt : i < F0.length := by have := (List.getElem?_eq_some_iff.mp ht).1; omega
      obtain ⟨p0, hp0⟩ : ∃ p0, F0[i]? = some p0 := ⟨F0[i], List.getElem?_eq_getElem lt⟩
      rw [names_next hp0]
      refine ⟨t, [.str p0.1, optV p0.2], rfl, Same.tup sm (hi i t p0 ht hp0), rfl, .str p0.1, [optV p0.2], rfl, optV p0.2, [], rfl, rfl, rfl, ?_⟩
      refine ⟨.str p0.1, rfl, _, hd2, by rw [strV_len]; unfold namesF; rw [List.length_map, List.length_take]; exact small_lt (by omega), upd_same, fun b o e => ?_⟩
      rw [upd_ne (ne_of_none e hD)]
      exact sm b o e
    · rintro HB ⟨hd2, sB⟩
      rw [List.length_map, hl, List.take_length] at hd2
      refine ⟨D, namesF F0, rfl, SqL.of hd2, by unfold namesF; rw [List.length_map]; omega, fun pr as HC sC hpr rows => ?_⟩
      have sAC := sB.trans sC
      refine ⟨pr, rfl, ⟨_, SqL.of hpr⟩, for_list (K := K) (a := pr) (xs := as.map V.ref) (fun i σ Hi => ∃ y8 y9 y10 y11, σ = [some (.ref p), some (.ref af), some (.ref x), some (.ref c), some (.ref qh), some (.int k), some (.ref qa), some (.ref ql), y8, y9, y10, y11] ∧ Same HC Hi)
        ⟨_, _, _, _, rfl, Same.refl HC⟩ (fun i σ Hi _ ⟨_, _, _, _, _, sm⟩ => SqL.of (sm _ _ hpr)) ?_ ?_⟩
      · rintro i v σ Hi hv ⟨y8, y9, y10, y11, rfl, sm⟩
        obtain ⟨t, ht, rfl⟩ := map_ref hv
        obtain ⟨l, hlt, ro⟩ := rows t (List.mem_of_getElem? ht)
        have ro : RowOk F0 l := ro
        have Si := sAC.trans sm
        have hti := Same.tup sm hlt
        have rw_ := RowOk.walk okf ro ca
        obtain ⟨nmW, _⟩ := rw_.nm okf
        refine ⟨.ref x, rfl, .ref t, rfl, .ref qh, rfl, x, af, d, tsf, F0, t, l, qh, _, adh, rfl, webA.same Si, hti, ro, thA.same Si, pil_ok okf ca, fun g0 HD sD hg => ?_⟩
        rw [lay_walk okf ro ca] at hg
        have SD := Si.trans sD
        have htD := Same.tup sD hti
        refine ⟨.ref x, rfl, .ref t, rfl, .ref c, rfl, x, af, d, tsf, F0, t, l, c, cs, rfl, webA.same SD, htD, ro, Same.tup SD hCA, c4, ca, fun p1 HE sE h1 => ?_⟩
        have hgE := sE _ _ hg
        refine ⟨.ref g0, rfl, _, _, dp_tup h1, dp_tup (.inl (.inl hgE)), shaped_tup nmW, shaped_tup nmW, false, by rw [eqv_tup nmW]; rfl, iteF ?_⟩
        have SE := SD.trans sE
        refine ⟨.ref x, rfl, .ref x, rfl, .ref t, rfl, .ref qa, rfl, x, af, d, tsf, F0, t, l, qa, _, ada, rfl, webA.same SE, Same.tup sE htD, ro, taA.same SE, pil_ok okf (ca.take k), fun p2 HF sF h2 => ?_⟩
        rw [lay_walk okf ro (ca.take k)] at h2
        have SF := SE.trans sF
        have ro2 := RowOk.walk okf ro (ca.take k)
        refine ⟨.ref ql, rfl, x, af, d, tsf, F0, p2, _, ql, _, adl, rfl, webA.same SF, .inl (.inl h2), ro2, tl.same SF, pil_ok okf (ca.drop k), fun p3 HG sG h3 => ?_⟩
        rw [lay_walk okf ro2 (ca.drop k), ← walk_app, List.take_append_drop] at h3
        have hgG := sG _ _ (sF _ _ hgE)
        refine ⟨.ref g0, rfl, _, _, dp_tup (.inl (.inl h3)), dp_tup (.inl (.inl hgG)), shaped_tup nmW, shaped_tup nmW, false, by rw [eqv_tup nmW]; rfl, iteF ?_⟩
        have SG := SF.trans sG
        have htG := Same.tup sG (Same.tup sF (Same.tup sE htD))
        obtain ⟨z0, z1, e0, e1⟩ := row_ends (l := l) (by rw [ro.len]; omega)
        refine ⟨.ref t, rfl, t, _, 0, .str z0, rfl, rfl, htG, e0, .ref t, rfl, 1, rfl, t, _, -1, .str z1, rfl, rfl, htG, e1, z0, z1, rfl, rfl, _, rfl, ?_⟩
        refine ite2 (fun _ => ?_) (fun _ => ⟨_, _, _, _, rfl, (((sm.trans sD).trans sE).trans sF).trans sG⟩)
        refine ⟨.ref af, rfl, .ref t, rfl, .ref c, rfl, af, of, tsf, F0, t, l, c, cs, rfl, foA.same SG, htG, ro, Same.tup SG hCA, ca, fun p4 HH sH h4 => ?_⟩
        refine ⟨.ref g0, rfl, _, _, dp_tup h4, dp_tup (.inl (.inl (sH _ _ hgG))), shaped_tup nmW, shaped_tup nmW, false, by rw [eqv_tup nmW]; rfl, iteF ?_⟩
        exact ⟨_, _, _, _, rfl, ((((sm.trans sD).trans sE).trans sF).trans sG).trans sH⟩
      · rintro σ Hi ⟨y8, y9, y10, y11, rfl, sm⟩
        have S := (SA.trans sAC).trans sm
        exact q Hi (pu6.keep S) (Kp.trans k6 (Kp.of S))
/-! ### law -/
def cnt (n : Nat) : Int := if (if (4 : Int) < n then 4 else (n : Int)) > 2 then (if (4 : Int) < n then 4 else (n : Int)) else 2
theorem cnt_ge (n : Nat) : 2 ≤ cnt n := by unfold cnt; split <;> omega
theorem cnt_le (n : Nat) : cnt n ≤ 4 := by unfold cnt; split <;> (try split) <;> omega
def spLaw (K : PySem.W.Frag) : Sp := fun vs H Q _ => ∃ (a : Addr) (ns : List Int), vs = [.ref a] ∧ SqL K H a (ns.map V.int) ∧ ns.length ≤ 63 ∧ ∀ H', Q (.bl true) H'
abbrev NL : List Str := ["_law_script", "_law_k", "_law_purse_here", "_law_turn"]
theorem scL : FnScope NL ["_law_script"] (defScope sLaw) :=
  ⟨rfl, rfl, rfl, by decide +kernel, rfl, by decide +kernel, by decide +kernel⟩
set_option maxHeartbeats 2000000 in
theorem ok_law {f fP fE fG : Addr} {fd fdP fdE fdG : FuncData} (F : Fun K "law" "law" sLaw f fd) (T : Tx mg) (Y : Ty mg)
    (FP : Fun K "_law_purse" "_law_purse" sPurse fP fdP) (bP : Binds K fdP ["_law_cell_here"] []) (gP : mg "_law_purse" = some (.ref fP)) (GP : FnOk P w K mg base CX0 1 fP fdP ["_law_cell_here"] spPurse)
    (FE : Fun K "_law_cell" "_law_cell" sCell fE fdE) (bE : Binds K fdE ["_law_script", "_law_k"] []) (gE : mg "_law_cell" = some (.ref fE)) (GE : FnOk P w K mg base CX0 1 fE fdE ["_law_script", "_law_k"] (spCell K))
    (FG : Fun K "_law_right" "_law_right" sRight fG fdG) (bG : Binds K fdG ["_law_purse_here"] []) (gG : mg "_law_right" = some (.ref fG)) (GG : FnOk P w K mg base CX0 8 fG fdG ["_law_purse_here"] spRight) :
    FnG P w K mg base CX0 9 f fd ["_law_script"] (spLaw K) := by
  refine okG F scL (fun vs H Q E h => ?_) (fun cdv A outer s H vs Q E hg hr h => ?_)
  · obtain ⟨a, ns, rfl, _⟩ := h
    rfl
  · obtain ⟨a, ns, rfl, hS, hlen, q⟩ := h
    have hr1 := hr.mono (show 1 ≤ 8 by decide)
    refine ⟨_, pss_cons (ps_for PassesOwn.never rfl (pi_range1 (by rfl) T.rng (pa_cons (pe_callB (call_max2 rfl) (by rfl) Y.max boot_max (pa_cons pe_int (pa_cons (pe_callB (call_min2 rfl) (by rfl) Y.min boot_min (pa_cons (pe_callB call_len_seq (by rfl) T.len PySem.boot_len (pa_cons (pv 0) pa_nil)) (pa_cons pe_int pa_nil))) pa_nil))) pa_nil))
          (pg_name (i := 1) scL.nd rfl (Or.inl rfl))
        (pss_cons (ps_set (i := 2) scL.nd rfl (Or.inr rfl) (pe_call GP hr1 (by rfl) gP FP.kp bP .nil pass0 (pa_cons (pe_call GE hr1 (by rfl) gE FE.kp bE .nil pass0 (pa_cons (pv 0) (pa_cons (pv 1) pa_nil))) pa_nil)))
        (pss_one (ps_if (pt_not (pt_val (pe_callB (cr_all rfl) (by rfl) T.all PyProof.Rows.boot_all (pa_cons
            (pe_lc (own := [("_law_turn", 3)]) (g := gName 3) (tt := tYes) (te := tCall spRight [] E0 (tCons (tVar 2) tNil)) rfl scL.nd (pi_range1 (by rfl) T.rng (pa_cons pe_int pa_nil)) (blkOk_by (N := NL) (sc := defScope sLaw) (by decide +kernel))
              (fun _ _ _ _ _ => pg_name (i := 3) scL.nd rfl (Or.inl rfl)) (fun _ _ _ _ _ => pts_nil)
              (fun _ _ _ _ _ => pe_call GG hr (by rfl) gG FG.kp bG .nil pass0 (pa_cons (pv 2) pa_nil))) pa_nil))))
          (pss_one (ps_ret pe_bl)) pss_nil))))
      (pss_one (ps_ret pe_bl)), ?_⟩
    refine ⟨.ref a, rfl, a, _, rfl, .inl hS, _, 4, rfl, 2, _, rfl, _, rfl, ?_, ?_, ?_⟩
    · have := cnt_ge (ns.map V.int).length; show -(2 ^ 62) ≤ cnt (ns.map V.int).length; omega
    · have := cnt_le (ns.map V.int).length; show cnt (ns.map V.int).length < 2 ^ 62; omega
    have hc8 := cnt_le (ns.map V.int).length
    refine for_range (lo := 0) (n := (cnt (ns.map V.int).length).toNat) (fun i σ Hi => ∃ y1 y2 y3, σ = [some (.ref a), y1, y2, y3] ∧ Same H Hi) ⟨_, _, _, rfl, Same.refl H⟩ ?_ ?_
    · rintro i σ Ha lt ⟨y1, y2, y3, rfl, sa⟩
      refine ⟨.ref a, rfl, .int (0 + i), rfl, a, ns, 0 + i, rfl, sa.seq hS, by omega, by omega, fun n Hb sb => ⟨n, rfl, fun p Hc np sc pu => ?_⟩⟩
      have s0c := (sa.trans sb).trans sc
      have np0 : H p = none := (sa.trans sb).free np
      refine ⟨2, rfl, by decide, by decide, fun D hD => ?_⟩
      have npD : p ≠ D := by obtain ⟨_, _, _, e, _⟩ := pu; exact ne_of_none e hD
      have nD0 : H D = none := s0c.free hD
      refine lc_range (lo := 0) (n := (2 : Int).toNat) (fun m Hm => Purse Hm p ∧ Same H Hm ∧ Hm D = some (.lst ((List.replicate m true).map V.bl))) ⟨pu.keep (same_upd hD), s0c.trans (same_upd hD), upd_same⟩ ?_ ?_
      · rintro m Hm ltm ⟨pum, sm, hDm⟩
        have lm : m < 2 := ltm
        refine ⟨rfl, .ref p, rfl, p, rfl, pum, fun Hn pun kn => ?_⟩
        have hDn := kn D _ npD.symm hDm
        refine ⟨_, hDn, by rw [List.length_map, List.length_replicate]; exact small_lt (by omega), ?_, fun b o e => ?_, ?_⟩
        · obtain ⟨x1, x2, x3, e, rr⟩ := pun
          exact ⟨x1, x2, x3, by rw [upd_ne npD]; exact e, rr⟩
        · rw [upd_ne (ne_of_none e nD0)]
          exact kn b o (ne_of_none e np0) (sm b o e)
        · rw [upd_same, List.replicate_succ', List.map_append]; rfl
      · rintro Hm ⟨pum, sm, hDm⟩
        exact ⟨D, List.replicate 2 true, rfl, SqL.of hDm, true, rfl, iteF ⟨_, _, _, rfl, sm⟩⟩
    · rintro σ Ha ⟨y1, y2, y3, rfl, sa⟩
      exact q Ha
end
end Hee


set_option Elab.async false
set_option linter.all false
set_option maxRecDepth 100000
namespace Hee
open PySem PySem.Spec PyProof.Rows L2

set_option maxHeartbeats 0 in
theorem all_mk {l : PySem.W.OpenLaw} {w : World} {K : PySem.W.Frag} {h : Heap} {mg : Str → Option Value} {fa C fN fR fS fU fV fI fHa fCn fWh fLn fWb fFw fCr fFs fCc fSt fNm fFp fCp fHm fPa fRe fPd fLa fPi fDn fE fP fT fTi fFo fSo fSp fWk fRo fRt fL : Addr} (X : K.In h) (G : h.Ns mainGlobals mg) (hfa : mg "law" = some (.ref fa))
    {odN anN odR anR odS anS odU anU odV anV odI anI odHa anHa odCn anCn odWh anWh odLn anLn odWb anWb odFw anFw odCr anCr odFs anFs odCc anCc odSt anSt odNm anNm odFp anFp odCp anCp odHm anHm odPa anPa odRe anRe odPd anPd odLa anLa odPi anPi odDn anDn odE anE odP anP odT anT odTi anTi odFo anFo odSo anSo odSp anSp odWk anWk odRo anRo odRt anRt odL anL : Option Addr} {slN slR slS slU slV slI slHa slCn slWh slLn slWb slFw slCr slFs slCc slSt slNm slFp slCp slHm slPa slRe slPd slLa slPi slDn slE slP slT slTi slFo slSo slSp slWk slRo slRt slL : Array (Option Value)}
    {ocN kVN dcN pmN cdN ctN ocR kVR dcR pmR cdR ctR ocS kVS dcS pmS cdS ctS ocU kVU dcU pmU cdU ctU ocV kVV dcV pmV cdV ctV ocI kVI dcI pmI cdI ctI ocHa kVHa dcHa pmHa cdHa ctHa ocCn kVCn dcCn pmCn cdCn ctCn ocWh kVWh dcWh pmWh cdWh ctWh ocLn kVLn dcLn pmLn cdLn ctLn ocWb kVWb dcWb pmWb cdWb ctWb ocFw kVFw dcFw pmFw cdFw ctFw ocCr kVCr dcCr pmCr cdCr ctCr ocFs kVFs dcFs pmFs cdFs ctFs ocCc kVCc dcCc pmCc cdCc ctCc ocSt kVSt dcSt pmSt cdSt ctSt ocNm kVNm dcNm pmNm cdNm ctNm ocFp kVFp dcFp pmFp cdFp ctFp ocCp kVCp dcCp pmCp cdCp ctCp ocHm kVHm dcHm pmHm cdHm ctHm ocPa kVPa dcPa pmPa cdPa ctPa ocRe kVRe dcRe pmRe cdRe ctRe ocPd kVPd dcPd pmPd cdPd ctPd ocLa kVLa dcLa pmLa cdLa ctLa ocPi kVPi dcPi pmPi cdPi ctPi ocDn kVDn dcDn pmDn cdDn ctDn ocE kVE dcE pmE cdE ctE ocP kVP dcP pmP cdP ctP ocT kVT dcT pmT cdT ctT ocTi kVTi dcTi pmTi cdTi ctTi ocFo kVFo dcFo pmFo cdFo ctFo ocSo kVSo dcSo pmSo cdSo ctSo ocSp kVSp dcSp pmSp cdSp ctSp ocWk kVWk dcWk pmWk cdWk ctWk ocRo kVRo dcRo pmRo cdRo ctRo ocRt kVRt dcRt pmRt cdRt ctRt ocL kVL dcL pmL cdL ctL : Value}
    {t1 t2 t3 t4 : Tok}
    (aX : PySem.W.nsIn K mainGlobals "Web" = some (some (.ref C)))
    (aN : PySem.W.nsIn K mainGlobals "is_name" = some (some (.ref fN)))
    (lN : K.lookup fN = some ⟨ocN, odN, .func (PySem.W.fnOf "is_name" "is_name" (defArgs sIsName) (defBody sIsName) (defScope sIsName) .none kVN dcN pmN anN cdN ctN), slN⟩)
    (cN : PySem.W.codeIn K cdN "is_name" = true) (kN : PySem.W.keepIn K (.ref fN) = true)
    (aR : PySem.W.nsIn K mainGlobals "is_person" = some (some (.ref fR)))
    (lR : K.lookup fR = some ⟨ocR, odR, .func (PySem.W.fnOf "is_person" "is_person" (defArgs sIsPerson) (defBody sIsPerson) (defScope sIsPerson) .none kVR dcR pmR anR cdR ctR), slR⟩)
    (cR : PySem.W.codeIn K cdR "is_person" = true) (kR : PySem.W.keepIn K (.ref fR) = true)
    (aS : PySem.W.nsIn K mainGlobals "check_persons" = some (some (.ref fS)))
    (lS : K.lookup fS = some ⟨ocS, odS, .func (PySem.W.fnOf "check_persons" "check_persons" (defArgs sChkPers) (defBody sChkPers) (defScope sChkPers) .none kVS dcS pmS anS cdS ctS), slS⟩)
    (cS : PySem.W.codeIn K cdS "check_persons" = true) (kS : PySem.W.keepIn K (.ref fS) = true)
    (aU : PySem.W.nsIn K mainGlobals "check_whoms" = some (some (.ref fU)))
    (lU : K.lookup fU = some ⟨ocU, odU, .func (PySem.W.fnOf "check_whoms" "check_whoms" (defArgs sChkWhoms) (defBody sChkWhoms) (defScope sChkWhoms) .none kVU dcU pmU anU cdU ctU), slU⟩)
    (cU : PySem.W.codeIn K cdU "check_whoms" = true) (kU : PySem.W.keepIn K (.ref fU) = true)
    (aV : PySem.W.nsIn K mainGlobals "comes_to_leader" = some (some (.ref fV)))
    (lV : K.lookup fV = some ⟨ocV, odV, .func (PySem.W.fnOf "comes_to_leader" "comes_to_leader" (defArgs sComes) (defBody sComes) (defScope sComes) .none kVV dcV pmV anV cdV ctV), slV⟩)
    (cV : PySem.W.codeIn K cdV "comes_to_leader" = true) (kV : PySem.W.keepIn K (.ref fV) = true)
    (aI : PySem.W.findIn K (.ref C) "__init__" = some (some (.ref fI))) (iI : PySem.W.isFn K (.ref fI) = true)
    (lI : K.lookup fI = some ⟨ocI, odI, .func (PySem.W.fnOf "__init__" "Web.__init__" (defArgs sInit) (defBody sInit) (defScope sInit) .none kVI dcI pmI anI cdI ctI), slI⟩)
    (cI : PySem.W.codeIn K cdI "Web.__init__" = true) (kI : PySem.W.keepIn K (.ref fI) = true)
    (aHa : PySem.W.findIn K (.ref C) "has" = some (some (.ref fHa))) (iHa : PySem.W.isFn K (.ref fHa) = true)
    (lHa : K.lookup fHa = some ⟨ocHa, odHa, .func (PySem.W.fnOf "has" "Web.has" (defArgs sHas) (defBody sHas) (defScope sHas) .none kVHa dcHa pmHa anHa cdHa ctHa), slHa⟩)
    (cHa : PySem.W.codeIn K cdHa "Web.has" = true) (kHa : PySem.W.keepIn K (.ref fHa) = true)
    (aCn : PySem.W.findIn K (.ref C) "check_name" = some (some (.ref fCn))) (iCn : PySem.W.isFn K (.ref fCn) = true)
    (lCn : K.lookup fCn = some ⟨ocCn, odCn, .func (PySem.W.fnOf "check_name" "Web.check_name" (defArgs sChkName) (defBody sChkName) (defScope sChkName) .none kVCn dcCn pmCn anCn cdCn ctCn), slCn⟩)
    (cCn : PySem.W.codeIn K cdCn "Web.check_name" = true) (kCn : PySem.W.keepIn K (.ref fCn) = true)
    (aWh : PySem.W.findIn K (.ref C) "whom" = some (some (.ref fWh))) (iWh : PySem.W.isFn K (.ref fWh) = true)
    (lWh : K.lookup fWh = some ⟨ocWh, odWh, .func (PySem.W.fnOf "whom" "Web.whom" (defArgs sWhom) (defBody sWhom) (defScope sWhom) .none kVWh dcWh pmWh anWh cdWh ctWh), slWh⟩)
    (cWh : PySem.W.codeIn K cdWh "Web.whom" = true) (kWh : PySem.W.keepIn K (.ref fWh) = true)
    (aLn : PySem.W.findIn K (.ref C) "__len__" = some (some (.ref fLn))) (iLn : PySem.W.isFn K (.ref fLn) = true)
    (lLn : K.lookup fLn = some ⟨ocLn, odLn, .func (PySem.W.fnOf "__len__" "Web.__len__" (defArgs sLen) (defBody sLen) (defScope sLen) .none kVLn dcLn pmLn anLn cdLn ctLn), slLn⟩)
    (cLn : PySem.W.codeIn K cdLn "Web.__len__" = true) (kLn : PySem.W.keepIn K (.ref fLn) = true)
    (aWb : PySem.W.nsIn K mainGlobals "check_web" = some (some (.ref fWb)))
    (lWb : K.lookup fWb = some ⟨ocWb, odWb, .func (PySem.W.fnOf "check_web" "check_web" (defArgs sChkWeb) (defBody sChkWeb) (defScope sChkWeb) .none kVWb dcWb pmWb anWb cdWb ctWb), slWb⟩)
    (cWb : PySem.W.codeIn K cdWb "check_web" = true) (kWb : PySem.W.keepIn K (.ref fWb) = true)
    (aFw : PySem.W.nsIn K mainGlobals "first_wrong" = some (some (.ref fFw)))
    (lFw : K.lookup fFw = some ⟨ocFw, odFw, .func (PySem.W.fnOf "first_wrong" "first_wrong" (defArgs sFirst) (defBody sFirst) (defScope sFirst) .none kVFw dcFw pmFw anFw cdFw ctFw), slFw⟩)
    (cFw : PySem.W.codeIn K cdFw "first_wrong" = true) (kFw : PySem.W.keepIn K (.ref fFw) = true)
    (aCr : PySem.W.nsIn K mainGlobals "check_row" = some (some (.ref fCr)))
    (lCr : K.lookup fCr = some ⟨ocCr, odCr, .func (PySem.W.fnOf "check_row" "check_row" (defArgs sChkRow) (defBody sChkRow) (defScope sChkRow) .none kVCr dcCr pmCr anCr cdCr ctCr), slCr⟩)
    (cCr : PySem.W.codeIn K cdCr "check_row" = true) (kCr : PySem.W.keepIn K (.ref fCr) = true)
    (aFs : PySem.W.nsIn K mainGlobals "follows" = some (some (.ref fFs)))
    (lFs : K.lookup fFs = some ⟨ocFs, odFs, .func (PySem.W.fnOf "follows" "follows" (defArgs sFollows) (defBody sFollows) (defScope sFollows) .none kVFs dcFs pmFs anFs cdFs ctFs), slFs⟩)
    (cFs : PySem.W.codeIn K cdFs "follows" = true) (kFs : PySem.W.keepIn K (.ref fFs) = true)
    (aCc : PySem.W.nsIn K mainGlobals "check_calls" = some (some (.ref fCc)))
    (lCc : K.lookup fCc = some ⟨ocCc, odCc, .func (PySem.W.fnOf "check_calls" "check_calls" (defArgs sChkCalls) (defBody sChkCalls) (defScope sChkCalls) .none kVCc dcCc pmCc anCc cdCc ctCc), slCc⟩)
    (cCc : PySem.W.codeIn K cdCc "check_calls" = true) (kCc : PySem.W.keepIn K (.ref fCc) = true)
    (aSt : PySem.W.nsIn K mainGlobals "stepped" = some (some (.ref fSt)))
    (lSt : K.lookup fSt = some ⟨ocSt, odSt, .func (PySem.W.fnOf "stepped" "stepped" (defArgs sStepped) (defBody sStepped) (defScope sStepped) .none kVSt dcSt pmSt anSt cdSt ctSt), slSt⟩)
    (cSt : PySem.W.codeIn K cdSt "stepped" = true) (kSt : PySem.W.keepIn K (.ref fSt) = true)
    (aNm : PySem.W.findIn K (.ref C) "names" = some (some (.ref fNm))) (iNm : PySem.W.isFn K (.ref fNm) = true)
    (lNm : K.lookup fNm = some ⟨ocNm, odNm, .func (PySem.W.fnOf "names" "Web.names" (defArgs sNames) (defBody sNames) (defScope sNames) .none kVNm dcNm pmNm anNm cdNm ctNm), slNm⟩)
    (cNm : PySem.W.codeIn K cdNm "Web.names" = true) (kNm : PySem.W.keepIn K (.ref fNm) = true)
    (aFp : PySem.W.nsIn K mainGlobals "first_wrong_pile" = some (some (.ref fFp)))
    (lFp : K.lookup fFp = some ⟨ocFp, odFp, .func (PySem.W.fnOf "first_wrong_pile" "first_wrong_pile" (defArgs sFwp) (defBody sFwp) (defScope sFwp) .none kVFp dcFp pmFp anFp cdFp ctFp), slFp⟩)
    (cFp : PySem.W.codeIn K cdFp "first_wrong_pile" = true) (kFp : PySem.W.keepIn K (.ref fFp) = true)
    (aCp : PySem.W.nsIn K mainGlobals "check_piles" = some (some (.ref fCp)))
    (lCp : K.lookup fCp = some ⟨ocCp, odCp, .func (PySem.W.fnOf "check_piles" "check_piles" (defArgs sChkPil) (defBody sChkPil) (defScope sChkPil) .none kVCp dcCp pmCp anCp cdCp ctCp), slCp⟩)
    (cCp : PySem.W.codeIn K cdCp "check_piles" = true) (kCp : PySem.W.keepIn K (.ref fCp) = true)
    (aHm : PySem.W.nsIn K mainGlobals "home_piles" = some (some (.ref fHm)))
    (lHm : K.lookup fHm = some ⟨ocHm, odHm, .func (PySem.W.fnOf "home_piles" "home_piles" (defArgs sHome) (defBody sHome) (defScope sHome) .none kVHm dcHm pmHm anHm cdHm ctHm), slHm⟩)
    (cHm : PySem.W.codeIn K cdHm "home_piles" = true) (kHm : PySem.W.keepIn K (.ref fHm) = true)
    (aPa : PySem.W.nsIn K mainGlobals "pile_at" = some (some (.ref fPa)))
    (lPa : K.lookup fPa = some ⟨ocPa, odPa, .func (PySem.W.fnOf "pile_at" "pile_at" (defArgs sPileAt) (defBody sPileAt) (defScope sPileAt) .none kVPa dcPa pmPa anPa cdPa ctPa), slPa⟩)
    (cPa : PySem.W.codeIn K cdPa "pile_at" = true) (kPa : PySem.W.keepIn K (.ref fPa) = true)
    (aRe : PySem.W.nsIn K mainGlobals "replaced" = some (some (.ref fRe)))
    (lRe : K.lookup fRe = some ⟨ocRe, odRe, .func (PySem.W.fnOf "replaced" "replaced" (defArgs sRepl) (defBody sRepl) (defScope sRepl) .none kVRe dcRe pmRe anRe cdRe ctRe), slRe⟩)
    (cRe : PySem.W.codeIn K cdRe "replaced" = true) (kRe : PySem.W.keepIn K (.ref fRe) = true)
    (aPd : PySem.W.nsIn K mainGlobals "piled" = some (some (.ref fPd)))
    (lPd : K.lookup fPd = some ⟨ocPd, odPd, .func (PySem.W.fnOf "piled" "piled" (defArgs sPiled) (defBody sPiled) (defScope sPiled) .none kVPd dcPd pmPd anPd cdPd ctPd), slPd⟩)
    (cPd : PySem.W.codeIn K cdPd "piled" = true) (kPd : PySem.W.keepIn K (.ref fPd) = true)
    (aLa : PySem.W.nsIn K mainGlobals "laid" = some (some (.ref fLa)))
    (lLa : K.lookup fLa = some ⟨ocLa, odLa, .func (PySem.W.fnOf "laid" "laid" (defArgs sLaid) (defBody sLaid) (defScope sLaid) .none kVLa dcLa pmLa anLa cdLa ctLa), slLa⟩)
    (cLa : PySem.W.codeIn K cdLa "laid" = true) (kLa : PySem.W.keepIn K (.ref fLa) = true)
    (aPi : PySem.W.nsIn K mainGlobals "piles" = some (some (.ref fPi)))
    (lPi : K.lookup fPi = some ⟨ocPi, odPi, .func (PySem.W.fnOf "piles" "piles" (defArgs sPiles) (defBody sPiles) (defScope sPiles) .none kVPi dcPi pmPi anPi cdPi ctPi), slPi⟩)
    (cPi : PySem.W.codeIn K cdPi "piles" = true) (kPi : PySem.W.keepIn K (.ref fPi) = true)
    (aDn : PySem.W.nsIn K mainGlobals "done" = some (some (.ref fDn)))
    (lDn : K.lookup fDn = some ⟨ocDn, odDn, .func (PySem.W.fnOf "done" "done" (defArgs sDone) (defBody sDone) (defScope sDone) .none kVDn dcDn pmDn anDn cdDn ctDn), slDn⟩)
    (cDn : PySem.W.codeIn K cdDn "done" = true) (kDn : PySem.W.keepIn K (.ref fDn) = true)
    (aE : PySem.W.nsIn K mainGlobals "_law_cell" = some (some (.ref fE)))
    (lE : K.lookup fE = some ⟨ocE, odE, .func (PySem.W.fnOf "_law_cell" "_law_cell" (defArgs sCell) (defBody sCell) (defScope sCell) .none kVE dcE pmE anE cdE ctE), slE⟩)
    (cE : PySem.W.codeIn K cdE "_law_cell" = true) (kE : PySem.W.keepIn K (.ref fE) = true)
    (aP : PySem.W.nsIn K mainGlobals "_law_purse" = some (some (.ref fP)))
    (lP : K.lookup fP = some ⟨ocP, odP, .func (PySem.W.fnOf "_law_purse" "_law_purse" (defArgs sPurse) (defBody sPurse) (defScope sPurse) .none kVP dcP pmP anP cdP ctP), slP⟩)
    (cP : PySem.W.codeIn K cdP "_law_purse" = true) (kP : PySem.W.keepIn K (.ref fP) = true)
    (aT : PySem.W.nsIn K mainGlobals "_law_take" = some (some (.ref fT)))
    (lT : K.lookup fT = some ⟨ocT, odT, .func (PySem.W.fnOf "_law_take" "_law_take" (defArgs sTake) (defBody sTake) (defScope sTake) .none kVT dcT pmT anT cdT ctT), slT⟩)
    (cT : PySem.W.codeIn K cdT "_law_take" = true) (kT : PySem.W.keepIn K (.ref fT) = true)
    (aTi : PySem.W.nsIn K mainGlobals "_law_titles" = some (some (.ref fTi)))
    (lTi : K.lookup fTi = some ⟨ocTi, odTi, .func (PySem.W.fnOf "_law_titles" "_law_titles" (defArgs sTitles) (defBody sTitles) (defScope sTitles) .none kVTi dcTi pmTi anTi cdTi ctTi), slTi⟩)
    (cTi : PySem.W.codeIn K cdTi "_law_titles" = true) (kTi : PySem.W.keepIn K (.ref fTi) = true)
    (aFo : PySem.W.nsIn K mainGlobals "_law_folk" = some (some (.ref fFo)))
    (lFo : K.lookup fFo = some ⟨ocFo, odFo, .func (PySem.W.fnOf "_law_folk" "_law_folk" (defArgs sFolk) (defBody sFolk) (defScope sFolk) .none kVFo dcFo pmFo anFo cdFo ctFo), slFo⟩)
    (cFo : PySem.W.codeIn K cdFo "_law_folk" = true) (kFo : PySem.W.keepIn K (.ref fFo) = true)
    (aSo : PySem.W.nsIn K mainGlobals "_law_some" = some (some (.ref fSo)))
    (lSo : K.lookup fSo = some ⟨ocSo, odSo, .func (PySem.W.fnOf "_law_some" "_law_some" (defArgs sSome) (defBody sSome) (defScope sSome) .none kVSo dcSo pmSo anSo cdSo ctSo), slSo⟩)
    (cSo : PySem.W.codeIn K cdSo "_law_some" = true) (kSo : PySem.W.keepIn K (.ref fSo) = true)
    (aSp : PySem.W.nsIn K mainGlobals "_law_step" = some (some (.ref fSp)))
    (lSp : K.lookup fSp = some ⟨ocSp, odSp, .func (PySem.W.fnOf "_law_step" "_law_step" (defArgs sStep) (defBody sStep) (defScope sStep) .none kVSp dcSp pmSp anSp cdSp ctSp), slSp⟩)
    (cSp : PySem.W.codeIn K cdSp "_law_step" = true) (kSp : PySem.W.keepIn K (.ref fSp) = true)
    (aWk : PySem.W.nsIn K mainGlobals "_law_walked" = some (some (.ref fWk)))
    (lWk : K.lookup fWk = some ⟨ocWk, odWk, .func (PySem.W.fnOf "_law_walked" "_law_walked" (defArgs sWalked) (defBody sWalked) (defScope sWalked) .none kVWk dcWk pmWk anWk cdWk ctWk), slWk⟩)
    (cWk : PySem.W.codeIn K cdWk "_law_walked" = true) (kWk : PySem.W.keepIn K (.ref fWk) = true)
    (aRo : PySem.W.nsIn K mainGlobals "_law_rows_of" = some (some (.ref fRo)))
    (lRo : K.lookup fRo = some ⟨ocRo, odRo, .func (PySem.W.fnOf "_law_rows_of" "_law_rows_of" (defArgs sRowsOf) (defBody sRowsOf) (defScope sRowsOf) .none kVRo dcRo pmRo anRo cdRo ctRo), slRo⟩)
    (cRo : PySem.W.codeIn K cdRo "_law_rows_of" = true) (kRo : PySem.W.keepIn K (.ref fRo) = true)
    (aRt : PySem.W.nsIn K mainGlobals "_law_right" = some (some (.ref fRt)))
    (lRt : K.lookup fRt = some ⟨ocRt, odRt, .func (PySem.W.fnOf "_law_right" "_law_right" (defArgs sRight) (defBody sRight) (defScope sRight) .none kVRt dcRt pmRt anRt cdRt ctRt), slRt⟩)
    (cRt : PySem.W.codeIn K cdRt "_law_right" = true) (kRt : PySem.W.keepIn K (.ref fRt) = true)
    (aL : PySem.W.nsIn K mainGlobals "law" = some (some (.ref fL)))
    (lL : K.lookup fL = some ⟨ocL, odL, .func (PySem.W.fnOf "law" "law" (defArgs sLaw) (defBody sLaw) (defScope sLaw) .none kVL dcL pmL anL cdL ctL), slL⟩)
    (cL : PySem.W.codeIn K cdL "law" = true) (kL : PySem.W.keepIn K (.ref fL) = true)
    (pg : PySem.W.plainGet K C Str.empty = true)
    (hd : PySem.W.hasDictIn K C = true)
    (po : PySem.W.plainOver K C = true)
    (sa : PySem.W.findIn K (.ref C) "__setattr__" = some (some (.builtin "object.__setattr__")))
    (mk : PySem.W.makesIn K C = true)
    (kc : PySem.W.keepIn K (.ref C) = true)
    (nP : PySem.W.findIn K (.ref C) "persons" = some none)
    (nW : PySem.W.findIn K (.ref C) "whoms" = some none)
    (m1 : PySem.W.nsIn K mainGlobals "MOST_LETTERS" = some (some (.int 6 t1)))
    (m2 : PySem.W.nsIn K mainGlobals "MOST_PERSONS" = some (some (.int 12 t2)))
    (m3 : PySem.W.nsIn K mainGlobals "LETTERS" = some (some (.str letS t3)))
    (m4 : PySem.W.nsIn K mainGlobals "MOST_CALLS" = some (some (.int 400 t4)))
    (ha : PySem.W.findIn K (.ref C) "__class__" = some (some (.builtin "object.__class__")))
    (hn : PySem.W.specialIn K (.builtin "object.__class__") "__get__" = some (some (.builtin "getset_descriptor.__get__")))
    (ht : PySem.W.takesIn K (.builtin "object.__class__") = some true)
    (hm : PySem.W.mroIn K C (.type "object") = some true)
    (z0 : PySem.W.nsIn K mainGlobals "len" = some none)
    (z1 : PySem.W.nsIn K mainGlobals "isinstance" = some none)
    (z2 : PySem.W.nsIn K mainGlobals "str" = some none)
    (z3 : PySem.W.nsIn K mainGlobals "tuple" = some none)
    (z4 : PySem.W.nsIn K mainGlobals "all" = some none)
    (z5 : PySem.W.nsIn K mainGlobals "enumerate" = some none)
    (z6 : PySem.W.nsIn K mainGlobals "range" = some none)
    (z7 : PySem.W.nsIn K mainGlobals "repr" = some none)
    (z8 : PySem.W.nsIn K mainGlobals "abs" = some none)
    (z9 : PySem.W.nsIn K mainGlobals "divmod" = some none)
    (z10 : PySem.W.nsIn K mainGlobals "max" = some none)
    (z11 : PySem.W.nsIn K mainGlobals "min" = some none)
    (z12 : PySem.W.nsIn K mainGlobals "sorted" = some none)
    (z13 : PySem.W.nsIn K mainGlobals "list" = some none)
    (z14 : PySem.W.nsIn K mainGlobals "dict" = some none)
    (z15 : PySem.W.nsIn K mainGlobals "int" = some none)
    (z16 : PySem.W.nsIn K mainGlobals "zip" = some none)
    (z17 : PySem.W.nsIn K mainGlobals "sum" = some none)
    : ∃ fd : FuncData, (∀ (s : Shared) (v : Value), BindsTo s fd ⟨[v], []⟩ [("_law_script", v)]) ∧ ∀ base : Heap, K.In base → base.Ns mainGlobals mg → FnG l.prog w K mg base CX0 9 fa fd ["_law_script"] (spLaw K) := by
  have e := hfa.symm.trans (PySem.W.mg_of X G aL)
  cases e
  have FN := fun_mk (st := sIsName) lN cN kN
  have bN := FN.binds (ps := ["thing"]) fun _ _ _ _ _ _ us hl => match us, hl with | [_], _ => rfl
  have gN := PySem.W.mg_of X G aN
  have FR := fun_mk (st := sIsPerson) lR cR kR
  have bR := FR.binds (ps := ["thing"]) fun _ _ _ _ _ _ us hl => match us, hl with | [_], _ => rfl
  have gR := PySem.W.mg_of X G aR
  have FS := fun_mk (st := sChkPers) lS cS kS
  have bS := FS.binds (ps := ["persons"]) fun _ _ _ _ _ _ us hl => match us, hl with | [_], _ => rfl
  have gS := PySem.W.mg_of X G aS
  have FU := fun_mk (st := sChkWhoms) lU cU kU
  have bU := FU.binds (ps := ["whoms"]) fun _ _ _ _ _ _ us hl => match us, hl with | [_], _ => rfl
  have gU := PySem.W.mg_of X G aU
  have FV := fun_mk (st := sComes) lV cV kV
  have bV := FV.binds (ps := ["whoms", "name"]) fun _ _ _ _ _ _ us hl => match us, hl with | [_, _], _ => rfl
  have gV := PySem.W.mg_of X G aV
  have FI := fun_mk (st := sInit) lI cI kI
  have bI := FI.binds (ps := ["self", "persons"]) fun _ _ _ _ _ _ us hl => match us, hl with | [_, _], _ => rfl
  have mI : Meth K C "__init__" fI := ⟨aI, iI, kI⟩
  have FHa := fun_mk (st := sHas) lHa cHa kHa
  have bHa := FHa.binds (ps := ["self", "thing"]) fun _ _ _ _ _ _ us hl => match us, hl with | [_, _], _ => rfl
  have mHa : Meth K C "has" fHa := ⟨aHa, iHa, kHa⟩
  have FCn := fun_mk (st := sChkName) lCn cCn kCn
  have bCn := FCn.binds (ps := ["self", "name"]) fun _ _ _ _ _ _ us hl => match us, hl with | [_, _], _ => rfl
  have mCn : Meth K C "check_name" fCn := ⟨aCn, iCn, kCn⟩
  have FWh := fun_mk (st := sWhom) lWh cWh kWh
  have bWh := FWh.binds (ps := ["self", "name"]) fun _ _ _ _ _ _ us hl => match us, hl with | [_, _], _ => rfl
  have mWh : Meth K C "whom" fWh := ⟨aWh, iWh, kWh⟩
  have FLn := fun_mk (st := sLen) lLn cLn kLn
  have bLn := FLn.binds (ps := ["self"]) fun _ _ _ _ _ _ us hl => match us, hl with | [_], _ => rfl
  have mLn : Meth K C "__len__" fLn := ⟨aLn, iLn, kLn⟩
  have FWb := fun_mk (st := sChkWeb) lWb cWb kWb
  have bWb := FWb.binds (ps := ["web"]) fun _ _ _ _ _ _ us hl => match us, hl with | [_], _ => rfl
  have gWb := PySem.W.mg_of X G aWb
  have FFw := fun_mk (st := sFirst) lFw cFw kFw
  have bFw := FFw.binds (ps := ["web", "things"]) fun _ _ _ _ _ _ us hl => match us, hl with | [_, _], _ => rfl
  have gFw := PySem.W.mg_of X G aFw
  have FCr := fun_mk (st := sChkRow) lCr cCr kCr
  have bCr := FCr.binds (ps := ["web", "row"]) fun _ _ _ _ _ _ us hl => match us, hl with | [_, _], _ => rfl
  have gCr := PySem.W.mg_of X G aCr
  have FFs := fun_mk (st := sFollows) lFs cFs kFs
  have bFs := FFs.binds (ps := ["web", "thing"]) fun _ _ _ _ _ _ us hl => match us, hl with | [_, _], _ => rfl
  have gFs := PySem.W.mg_of X G aFs
  have FCc := fun_mk (st := sChkCalls) lCc cCc kCc
  have bCc := FCc.binds (ps := ["web", "calls"]) fun _ _ _ _ _ _ us hl => match us, hl with | [_, _], _ => rfl
  have gCc := PySem.W.mg_of X G aCc
  have FSt := fun_mk (st := sStepped) lSt cSt kSt
  have bSt := FSt.binds (ps := ["web", "row", "name"]) fun _ _ _ _ _ _ us hl => match us, hl with | [_, _, _], _ => rfl
  have gSt := PySem.W.mg_of X G aSt
  have FNm := fun_mk (st := sNames) lNm cNm kNm
  have bNm := FNm.binds (ps := ["self"]) fun _ _ _ _ _ _ us hl => match us, hl with | [_], _ => rfl
  have mNm : Meth K C "names" fNm := ⟨aNm, iNm, kNm⟩
  have FFp := fun_mk (st := sFwp) lFp cFp kFp
  have bFp := FFp.binds (ps := ["web", "piles"]) fun _ _ _ _ _ _ us hl => match us, hl with | [_, _], _ => rfl
  have gFp := PySem.W.mg_of X G aFp
  have FCp := fun_mk (st := sChkPil) lCp cCp kCp
  have bCp := FCp.binds (ps := ["web", "piles"]) fun _ _ _ _ _ _ us hl => match us, hl with | [_, _], _ => rfl
  have gCp := PySem.W.mg_of X G aCp
  have FHm := fun_mk (st := sHome) lHm cHm kHm
  have bHm := FHm.binds (ps := ["web"]) fun _ _ _ _ _ _ us hl => match us, hl with | [_], _ => rfl
  have gHm := PySem.W.mg_of X G aHm
  have FPa := fun_mk (st := sPileAt) lPa cPa kPa
  have bPa := FPa.binds (ps := ["web", "piles"]) fun _ _ _ _ _ _ us hl => match us, hl with | [_, _], _ => rfl
  have gPa := PySem.W.mg_of X G aPa
  have FRe := fun_mk (st := sRepl) lRe cRe kRe
  have bRe := FRe.binds (ps := ["names", "by"]) fun _ _ _ _ _ _ us hl => match us, hl with | [_, _], _ => rfl
  have gRe := PySem.W.mg_of X G aRe
  have FPd := fun_mk (st := sPiled) lPd cPd kPd
  have bPd := FPd.binds (ps := ["web", "calls"]) fun _ _ _ _ _ _ us hl => match us, hl with | [_, _], _ => rfl
  have gPd := PySem.W.mg_of X G aPd
  have FLa := fun_mk (st := sLaid) lLa cLa kLa
  have bLa := FLa.binds (ps := ["web", "row", "piles"]) fun _ _ _ _ _ _ us hl => match us, hl with | [_, _, _], _ => rfl
  have gLa := PySem.W.mg_of X G aLa
  have FPi := fun_mk (st := sPiles) lPi cPi kPi
  have bPi := FPi.binds (ps := ["web", "calls"]) fun _ _ _ _ _ _ us hl => match us, hl with | [_, _], _ => rfl
  have gPi := PySem.W.mg_of X G aPi
  have FDn := fun_mk (st := sDone) lDn cDn kDn
  have bDn := FDn.binds (ps := ["web", "row", "calls"]) fun _ _ _ _ _ _ us hl => match us, hl with | [_, _, _], _ => rfl
  have gDn := PySem.W.mg_of X G aDn
  have FE := fun_mk (st := sCell) lE cE kE
  have bE := FE.binds (ps := ["_law_script", "_law_k"]) fun _ _ _ _ _ _ us hl => match us, hl with | [_, _], _ => rfl
  have gE := PySem.W.mg_of X G aE
  have FP := fun_mk (st := sPurse) lP cP kP
  have bP := FP.binds (ps := ["_law_cell_here"]) fun _ _ _ _ _ _ us hl => match us, hl with | [_], _ => rfl
  have gP := PySem.W.mg_of X G aP
  have FT := fun_mk (st := sTake) lT cT kT
  have bT := FT.binds (ps := ["_law_purse_here", "_law_wide"]) fun _ _ _ _ _ _ us hl => match us, hl with | [_, _], _ => rfl
  have gT := PySem.W.mg_of X G aT
  have FTi := fun_mk (st := sTitles) lTi cTi kTi
  have bTi := FTi.binds (ps := ["_law_purse_here", "_law_many"]) fun _ _ _ _ _ _ us hl => match us, hl with | [_, _], _ => rfl
  have gTi := PySem.W.mg_of X G aTi
  have FFo := fun_mk (st := sFolk) lFo cFo kFo
  have bFo := FFo.binds (ps := ["_law_purse_here", "_law_size"]) fun _ _ _ _ _ _ us hl => match us, hl with | [_, _], _ => rfl
  have gFo := PySem.W.mg_of X G aFo
  have FSo := fun_mk (st := sSome) lSo cSo kSo
  have bSo := FSo.binds (ps := ["_law_purse_here", "_law_folk_here", "_law_wide"]) fun _ _ _ _ _ _ us hl => match us, hl with | [_, _, _], _ => rfl
  have gSo := PySem.W.mg_of X G aSo
  have FSp := fun_mk (st := sStep) lSp cSp kSp
  have bSp := FSp.binds (ps := ["_law_folk_here", "_law_queue", "_law_one"]) fun _ _ _ _ _ _ us hl => match us, hl with | [_, _, _], _ => rfl
  have gSp := PySem.W.mg_of X G aSp
  have FWk := fun_mk (st := sWalked) lWk cWk kWk
  have bWk := FWk.binds (ps := ["_law_folk_here", "_law_queue", "_law_some_here"]) fun _ _ _ _ _ _ us hl => match us, hl with | [_, _, _], _ => rfl
  have gWk := PySem.W.mg_of X G aWk
  have FRo := fun_mk (st := sRowsOf) lRo cRo kRo
  have bRo := FRo.binds (ps := ["_law_titles_here"]) fun _ _ _ _ _ _ us hl => match us, hl with | [_], _ => rfl
  have gRo := PySem.W.mg_of X G aRo
  have FRt := fun_mk (st := sRight) lRt cRt kRt
  have bRt := FRt.binds (ps := ["_law_purse_here"]) fun _ _ _ _ _ _ us hl => match us, hl with | [_], _ => rfl
  have gRt := PySem.W.mg_of X G aRt
  have FL := fun_mk (st := sLaw) lL cL kL
  have bL := FL.binds (ps := ["_law_script"]) fun _ _ _ _ _ _ us hl => match us, hl with | [_], _ => rfl
  have gL := PySem.W.mg_of X G aL
  have T : Tx mg := ⟨PySem.W.mg_none_of X G z0, PySem.W.mg_none_of X G z1, PySem.W.mg_none_of X G z2, PySem.W.mg_none_of X G z3, PySem.W.mg_none_of X G z4, PySem.W.mg_none_of X G z5, PySem.W.mg_none_of X G z6, ⟨_, PySem.W.mg_of X G m1⟩, ⟨_, PySem.W.mg_of X G m2⟩, ⟨_, PySem.W.mg_of X G m3⟩⟩
  have Y : Ty mg := ⟨PySem.W.mg_none_of X G z7, PySem.W.mg_none_of X G z8, PySem.W.mg_none_of X G z9, PySem.W.mg_none_of X G z10, PySem.W.mg_none_of X G z11, PySem.W.mg_none_of X G z12, PySem.W.mg_none_of X G z13, PySem.W.mg_none_of X G z14, PySem.W.mg_none_of X G z15⟩
  have Z : Tz mg := ⟨PySem.W.mg_none_of X G z16, PySem.W.mg_none_of X G z17⟩
  have W : Tw K mg C := ⟨⟨pg, hd, po, sa⟩, nP, nW, PySem.W.mg_of X G aX⟩
  refine ⟨PySem.W.fnOf "law" "law" (defArgs sLaw) (defBody sLaw) (defScope sLaw) .none kVL dcL pmL anL cdL ctL, fun s v => .of_eq rfl, fun base _ _ => ?_⟩
  have GCP := ok_chkPers (P := l.prog) (w := w) (base := base) FS T FN bN gN FR bR gR
  have GCW := ok_chkWhoms (P := l.prog) (w := w) (base := base) FU T FV bV gV
  have GI := ok_init (P := l.prog) (w := w) (base := base) FI T W FS bS gS FU bU gU GCP GCW
  have R : Tr K mg C := ⟨fun e => .ins e ⟨pg, hd, po, sa⟩ ha hn ht hm, ⟨_, PySem.W.mg_of X G m4⟩⟩
  have GHa := ok_has (P := l.prog) (w := w) (base := base) FHa T W FN bN gN
  have GCn := ok_chkName (P := l.prog) (w := w) (base := base) FCn W bHa mHa GHa
  have GWh := ok_whom (P := l.prog) (w := w) (base := base) FWh W bCn mCn GCn
  have OL : OwnLen l.prog w K mg base C fLn _ := ⟨ok_len FLn T W, bLn, aLn, iLn⟩
  have MKI : Mk K C fI := ⟨mk, aI, iI, kc⟩
  have GWb := ok_chkWeb (P := l.prog) (w := w) (base := base) FWb T W R
  have GFw := ok_first (P := l.prog) (w := w) (base := base) FFw T W bHa mHa GHa
  have GCr := ok_chkRow (P := l.prog) (w := w) (base := base) FCr T OL FFw bFw gFw GFw
  have GFs := ok_follows (P := l.prog) (w := w) (base := base) FFs W bHa mHa GHa bWh mWh GWh
  have GCc := ok_chkCalls (P := l.prog) (w := w) (base := base) FCc T R FFs bFs gFs GFs
  have GSt := ok_stepped (P := l.prog) (w := w) (base := base) FSt T W bWh mWh GWh
  have GDn := ok_done (P := l.prog) (w := w) (base := base) FDn FWb bWb gWb GWb FCr bCr gCr GCr FCc bCc gCc GCc FSt bSt gSt GSt
  have GSp := ok_step (P := l.prog) (w := w) (base := base) (mg := mg) FSp T Y
  have GWk := ok_walked (P := l.prog) (w := w) (base := base) FWk FSp bSp gSp GSp
  have GSo := ok_some (P := l.prog) (w := w) (base := base) FSo T Y FT bT gT
  have GNm := ok_names (P := l.prog) (w := w) (base := base) FNm T W
  have GFp := ok_fwp (P := l.prog) (w := w) (base := base) FFp T W bHa mHa GHa
  have GCp := ok_chkPil (P := l.prog) (w := w) (base := base) FCp T Z OL FFp bFp gFp GFp
  have GHm := ok_home (P := l.prog) (w := w) (base := base) FHm T W bNm mNm GNm
  have GPa := ok_pileAt (P := l.prog) (w := w) (base := base) FPa W Z bNm mNm GNm
  have GRe := ok_repl (P := l.prog) (w := w) (base := base) (mg := mg) FRe T
  have GPd := ok_piled (P := l.prog) (w := w) (base := base) FPd T W bNm mNm GNm bWh mWh GWh FPa bPa gPa GPa FHm bHm gHm GHm
  have GLa := ok_laid (P := l.prog) (w := w) (base := base) FLa FWb bWb gWb GWb FCr bCr gCr GCr FCp bCp gCp GCp FRe bRe gRe GRe FPa bPa gPa GPa
  have GPi := ok_piles (P := l.prog) (w := w) (base := base) FPi FWb bWb gWb GWb FCc bCc gCc GCc FPd bPd gPd GPd
  have GRo := ok_rowsOf (P := l.prog) (w := w) (base := base) (mg := mg) FRo T
  have GRt := ok_right (P := l.prog) (w := w) (base := base) FRt T Y W MKI FT bT gT FFo bFo gFo (ok_folk FFo T Y FT bT gT FTi bTi gTi) bI GI FSo bSo gSo GSo FPi bPi gPi GPi FRo bRo gRo GRo FLa bLa gLa GLa FDn bDn gDn GDn FWk bWk gWk GWk
  exact ok_law FL T Y FP bP gP (ok_purse FP Y) FE bE gE (ok_cell FE T) FRt bRt gRt GRt
end Hee


set_option Elab.async false
open PySem PySem.W PyProof.Rows
set_option maxRecDepth 100000 in
set_option maxHeartbeats 0 in
theorem PySem.Challenge.cw_heelrow_k64_whole_laid_from_every_row_holds : PySem.Challenge.rw_heelrow_k64_whole_laid_from_every_row.Holds := by
  w_on; o_law; k_head; (case hw => w_witness2)
  k_fill
  refine Hee.walk_ofG (l := PySem.Challenge.rw_heelrow_k64_whole_laid_from_every_row) (n := 63) (k := 9) (x := "_law_script") (sp := Hee.spLaw) rfl (by decide) rfl ⟨rfl, by decide, by decide⟩ (fun w h Y => PySem.W.kIn_of Y) ?F (fun _ _ a ns hl hS => ⟨a, ns, rfl, hS, hl, fun _ => rfl⟩)
  case F =>
    intro w mg fa h KX G hmg
    refine' Hee.all_mk KX G hmg ?aX ?aN ?lN ?cN ?kN ?aR ?lR ?cR ?kR ?aS ?lS ?cS ?kS ?aU ?lU ?cU ?kU ?aV ?lV ?cV ?kV ?aI ?iI ?lI ?cI ?kI ?aHa ?iHa ?lHa ?cHa ?kHa ?aCn ?iCn ?lCn ?cCn ?kCn ?aWh ?iWh ?lWh ?cWh ?kWh ?aLn ?iLn ?lLn ?cLn ?kLn ?aWb ?lWb ?cWb ?kWb ?aFw ?lFw ?cFw ?kFw ?aCr ?lCr ?cCr ?kCr ?aFs ?lFs ?cFs ?kFs ?aCc ?lCc ?cCc ?kCc ?aSt ?lSt ?cSt ?kSt ?aNm ?iNm ?lNm ?cNm ?kNm ?aFp ?lFp ?cFp ?kFp ?aCp ?lCp ?cCp ?kCp ?aHm ?lHm ?cHm ?kHm ?aPa ?lPa ?cPa ?kPa ?aRe ?lRe ?cRe ?kRe ?aPd ?lPd ?cPd ?kPd ?aLa ?lLa ?cLa ?kLa ?aPi ?lPi ?cPi ?kPi ?aDn ?lDn ?cDn ?kDn ?aE ?lE ?cE ?kE ?aP ?lP ?cP ?kP ?aT ?lT ?cT ?kT ?aTi ?lTi ?cTi ?kTi ?aFo ?lFo ?cFo ?kFo ?aSo ?lSo ?cSo ?kSo ?aSp ?lSp ?cSp ?kSp ?aWk ?lWk ?cWk ?kWk ?aRo ?lRo ?cRo ?kRo ?aRt ?lRt ?cRt ?kRt ?aL ?lL ?cL ?kL ?pg ?hd ?po ?sa ?mk ?kc ?nP ?nW ?m1 ?m2 ?m3 ?m4 ?ha ?hn ?ht ?hm ?z0 ?z1 ?z2 ?z3 ?z4 ?z5 ?z6 ?z7 ?z8 ?z9 ?z10 ?z11 ?z12 ?z13 ?z14 ?z15 ?z16 ?z17
    (case aX => k_is)
    (case aN => k_is)
    (case lN => k_is)
    (case cN => k_is)
    (case kN => k_is)
    (case aR => k_is)
    (case lR => k_is)
    (case cR => k_is)
    (case kR => k_is)
    (case aS => k_is)
    (case lS => k_is)
    (case cS => k_is)
    (case kS => k_is)
    (case aU => k_is)
    (case lU => k_is)
    (case cU => k_is)
    (case kU => k_is)
    (case aV => k_is)
    (case lV => k_is)
    (case cV => k_is)
    (case kV => k_is)
    (case aI => k_is)
    (case iI => k_is)
    (case lI => k_is)
    (case cI => k_is)
    (case kI => k_is)
    (case aHa => k_is)
    (case iHa => k_is)
    (case lHa => k_is)
    (case cHa => k_is)
    (case kHa => k_is)
    (case aCn => k_is)
    (case iCn => k_is)
    (case lCn => k_is)
    (case cCn => k_is)
    (case kCn => k_is)
    (case aWh => k_is)
    (case iWh => k_is)
    (case lWh => k_is)
    (case cWh => k_is)
    (case kWh => k_is)
    (case aLn => k_is)
    (case iLn => k_is)
    (case lLn => k_is)
    (case cLn => k_is)
    (case kLn => k_is)
    (case aWb => k_is)
    (case lWb => k_is)
    (case cWb => k_is)
    (case kWb => k_is)
    (case aFw => k_is)
    (case lFw => k_is)
    (case cFw => k_is)
    (case kFw => k_is)
    (case aCr => k_is)
    (case lCr => k_is)
    (case cCr => k_is)
    (case kCr => k_is)
    (case aFs => k_is)
    (case lFs => k_is)
    (case cFs => k_is)
    (case kFs => k_is)
    (case aCc => k_is)
    (case lCc => k_is)
    (case cCc => k_is)
    (case kCc => k_is)
    (case aSt => k_is)
    (case lSt => k_is)
    (case cSt => k_is)
    (case kSt => k_is)
    (case aNm => k_is)
    (case iNm => k_is)
    (case lNm => k_is)
    (case cNm => k_is)
    (case kNm => k_is)
    (case aFp => k_is)
    (case lFp => k_is)
    (case cFp => k_is)
    (case kFp => k_is)
    (case aCp => k_is)
    (case lCp => k_is)
    (case cCp => k_is)
    (case kCp => k_is)
    (case aHm => k_is)
    (case lHm => k_is)
    (case cHm => k_is)
    (case kHm => k_is)
    (case aPa => k_is)
    (case lPa => k_is)
    (case cPa => k_is)
    (case kPa => k_is)
    (case aRe => k_is)
    (case lRe => k_is)
    (case cRe => k_is)
    (case kRe => k_is)
    (case aPd => k_is)
    (case lPd => k_is)
    (case cPd => k_is)
    (case kPd => k_is)
    (case aLa => k_is)
    (case lLa => k_is)
    (case cLa => k_is)
    (case kLa => k_is)
    (case aPi => k_is)
    (case lPi => k_is)
    (case cPi => k_is)
    (case kPi => k_is)
    (case aDn => k_is)
    (case lDn => k_is)
    (case cDn => k_is)
    (case kDn => k_is)
    (case aE => k_is)
    (case lE => k_is)
    (case cE => k_is)
    (case kE => k_is)
    (case aP => k_is)
    (case lP => k_is)
    (case cP => k_is)
    (case kP => k_is)
    (case aT => k_is)
    (case lT => k_is)
    (case cT => k_is)
    (case kT => k_is)
    (case aTi => k_is)
    (case lTi => k_is)
    (case cTi => k_is)
    (case kTi => k_is)
    (case aFo => k_is)
    (case lFo => k_is)
    (case cFo => k_is)
    (case kFo => k_is)
    (case aSo => k_is)
    (case lSo => k_is)
    (case cSo => k_is)
    (case kSo => k_is)
    (case aSp => k_is)
    (case lSp => k_is)
    (case cSp => k_is)
    (case kSp => k_is)
    (case aWk => k_is)
    (case lWk => k_is)
    (case cWk => k_is)
    (case kWk => k_is)
    (case aRo => k_is)
    (case lRo => k_is)
    (case cRo => k_is)
    (case kRo => k_is)
    (case aRt => k_is)
    (case lRt => k_is)
    (case cRt => k_is)
    (case kRt => k_is)
    (case aL => k_is)
    (case lL => k_is)
    (case cL => k_is)
    (case kL => k_is)
    (case pg => k_is)
    (case hd => k_is)
    (case po => k_is)
    (case sa => k_is)
    (case mk => k_is)
    (case kc => k_is)
    (case nP => k_is)
    (case nW => k_is)
    (case m1 => k_is)
    (case m2 => k_is)
    (case m3 => k_is)
    (case m4 => k_is)
    (case ha => k_is)
    (case hn => k_is)
    (case ht => k_is)
    (case hm => k_is)
    (case z0 => k_is)
    (case z1 => k_is)
    (case z2 => k_is)
    (case z3 => k_is)
    (case z4 => k_is)
    (case z5 => k_is)
    (case z6 => k_is)
    (case z7 => k_is)
    (case z8 => k_is)
    (case z9 => k_is)
    (case z10 => k_is)
    (case z11 => k_is)
    (case z12 => k_is)
    (case z13 => k_is)
    (case z14 => k_is)
    (case z15 => k_is)
    (case z16 => k_is)
    (case z17 => k_is)

