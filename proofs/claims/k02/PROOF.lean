import PyProof.Rows.All
import Wide.All
import OpenK.AllK
import Wide.FinOn
import HandS.Base
import HandS.Call
import HandS.List
import HandS.Ends
import HandS.Words
import PyProof.ReprRoads
import HandS.Comp
import HandS.AnyAll
import HandS.GenOver
import HandS.Lambda
import PyProof.TupleOfGen
import PyProof.GenCompD
import HandS.GenBody
import PyProof.MinMaxWalk
import PyProof.Rows.MinMaxGenD
import HandS.EndTab
import HandS.TupSets
import KE.KeyNested
import KE.KDictKeyed
import KE.SortData
import HandS.Dict
import HandS.ForMost
import HandS.Walk
import HandS.Zip
import HandS.Iter
import KE.GoesEnum
import KE.GoesNew
import HandS.Style
import HandS.TupAny
import HandS.TupLe
import HandS.IsInst
import HandS.Wide
import HandS.TupMul
import HandS.TryOnly
import HandS.Deep
import KE.LtData
import KE.SortCalls
import PyProof.P3Eq
import KE.DataEq
import HandS.DictTup
import HandS.RaiseMore
import PyProof.SumAny
import PyProof.Rows.SumGenD
import HandS.DictComp
import KE.KDictWalk
import KE.KIndexOf
import PyProof.DictMoreH
import HandS.Conv
import KE.DataFind
import HandS.More
import HandS.SortInts
import PyProof.SliceList
import PyProof.Rows.RegFStrParts
import PyProof.FitsInt
import PySem.Challenge.RW_strangersay_k02_simples_in_order

set_option Elab.async false
set_option linter.all false
set_option maxRecDepth 100000
/-! Sa.G: defs that are promised where no repr is running (guards known to be none), and repr of data -/
namespace Sa
open PySem PySem.Spec PyProof.Rows L2

/-- nothing is being shown around -/
abbrev Free (A : Around) : Prop := A.guards = some []

/-- as FnOk, asked only where nothing is being shown around -/
structure FnG (P : Program) (w : World) (K : PySem.W.Frag) (mg : Str → Option Value) (base : Heap) (k : Nat) (f : Addr) (fd : FuncData) (ps : List Str) (sp : Sp) : Prop where
  many : ∀ vs H Q E, sp vs H Q E → vs.length = ps.length
  runs : ∀ (A : Around) (outer : List Env) (s : Shared) (H : Hp) (args : Args) (us : List Value) (vs : List V) (Q : VK) (E : XK), Room k A → Free A →
    Env0 P w K mg base A outer s H → BindsTo s fd args (ps.zip us) → Vals vs us → sp vs H Q E →
    codeAny (model P w) A (.call (.ref f) args) (CR CX0 outer P w H s Q E) s

theorem FnG.of {P : Program} {w : World} {K : PySem.W.Frag} {mg : Str → Option Value} {base : Heap} {k : Nat} {f : Addr} {fd : FuncData} {ps : List Str} {sp : Sp}
    (F : FnOk P w K mg base CX0 k f fd ps sp) : FnG P w K mg base k f fd ps sp :=
  ⟨F.len, fun A outer s H args us vs Q E hr _ => F.run A outer s H args us vs Q E hr⟩

section
variable {P : Program} {w : World} {K : PySem.W.Frag} {mg : Str → Option Value} {base : Heap}
/-- a def's body as a term of rules: the context's Around is free, too -/
theorem okG {x qual : Str} {st : Stmt} {f : Addr} {fd : FuncData} {N ps : List Str} {k : Nat} {sp : Sp} (F : Fun K x qual st f fd) (S : FnScope N ps (defScope st))
    (many : ∀ vs H Q E, sp vs H Q E → vs.length = ps.length)
    (walk : ∀ (cdv : Value) (A : Around) (outer : List Env) (s : Shared) (H : Hp) (vs : List V) (Q : VK) (E : XK), fd.code = cdv → Room k (A.deeper (envOfC qual (defScope st) s.heap.objs.size f cdv)) → Free A →
      sp vs H Q E → ∃ t, PSs (cxOf CX0 P w K mg base N qual (defScope st) f cdv A outer s H E).nox (defBody st) t ∧ t ⟨fun _ H' => Q .non H', Q, fun _ _ => False, fun _ _ => False⟩ (start N vs) H) :
    FnG P w K mg base (k + 1) f fd ps sp := by
  obtain ⟨oc, od, kV, doc, pm, an, cdv, ct, osl, rfl, lk, hcd⟩ := F.ex
  refine ⟨many, fun A outer s H args us vs Q E hr hfree e0 hb rel hsp => ?_⟩
  have keepB : ∀ b o, base.get? b = some o → s.heap.get? b = some o := fun b o e => (e0.bs b o e).1
  have inH : K.In s.heap := e0.mod.kin.keeps keepB
  have noLim : s.heap.NoLimit := e0.mod.nolimit.keeps keepB
  refine codeAny_call_function hr.depth (inH _ _ lk) rfl S.co S.gen rfl (PySem.W.codeRec_of inH hcd) (hb _ _ _ _ ?_)
  refine wpAny_newFunctionEnv_cells S.kind (fun y hy => ?_) fun env he s1 call => ?_
  · obtain ⟨n, v⟩ := y
    rcases S.par n (List.of_mem_zip hy).1 with isLocal | isCell
    · exact .inl isLocal
    · exact .inr ⟨isCell, PySem.W.cellsFrom_some _ _ _ (.inl isCell)⟩
  subst he
  refine ⟨noLim.keeps call.toInCall.keep, codeAny_func ?_⟩
  obtain ⟨t, body, reading⟩ := walk cdv A outer s H vs Q E rfl (hr.deeper _) hfree hsp
  have J0 : Inv (cxOf CX0 P w K mg base N qual (defScope st) f cdv A outer s H E) [] (start N vs) H s1 := inv_start S hr.hd e0 (many _ _ _ _ hsp) rel call
  refine wpAny_mono (body.nox.run [] s1 (start N vs) H _ J0 reading) (fun flow s' out => ?_) fun _ _ bad => bad
  cases flow with
  | ret u =>
    obtain ⟨v, _, H', J, rv, q⟩ := out
    exact ⟨v, H', J.os, J.bare, J.base, J.hok, rv, q⟩
  | next =>
    obtain ⟨_, H', J, q⟩ := out
    exact ⟨V.non, H', J.os, J.bare, J.base, J.hok, (rfl : Value.none = Value.none), q⟩
  | brk =>
    obtain ⟨_, _, _, q⟩ := out
    exact q.elim
  | cont =>
    obtain ⟨_, _, _, q⟩ := out
    exact q.elim
end

section
variable {X : Cx} {k : Nat} {f : Addr} {fd : FuncData} {ps : List Str} {sp : Sp} {x : Str} {p pos : Pos} {e : Expr} {es : List Expr} {t : TA}
/-- a call of such a def -/
theorem pe_callG (F : FnG X.prog X.w X.K X.mg X.base k f fd ps sp) (hr : Room k X.A) (hf : Free X.A) (hg : Gl X x) (hm : X.mg x = some (.ref f)) (kp : PySem.W.keepIn X.K (.ref f) = true)
    (hb : Binds X.K fd ps []) (args : PA X (e :: es) t) (nd : (x == ("__debug__" : Str)) = false := by decide)
    (he : starEach (e :: es) X.env = (false, eval e X.env) :: starEach es X.env := by rfl) (np : (backTo pos (starEach es X.env)).any (·.1) = false := by rfl) :
    PE X (.Call (.Name x p) (e :: es) [] pos) (tCall sp [] E0 t) := by
  refine ⟨fun pins s σ H Q I h => wpAny_Call_Name_kw (ld_glob I hg hm ?_ nd)⟩
  refine PySem.W.callWith_K (h₀ := X.base) I.ok.mod.kin kp (thn (args.run pos pins s σ H _ I h) fun us s1 ⟨vs, H1, I1, rel, q⟩ => ⟨I1.kIn, ?_⟩) he np
  have rel2 : Vals (vs ++ []) (us ++ []) := rel.append .nil
  have many : (us ++ []).length = ps.length := rel2.length.symm.trans (F.many _ _ _ _ q)
  refine wpAny_call (codeAny_mono (F.runs X.A X.stack s1 H1 ⟨us, []⟩ (us ++ []) (vs ++ []) Q E0 hr hf I1.env0 (hb s1 us I1.kIn many) rel2 q) fun res s' out => ?_)
  cases res with
  | error _ => exact out.elim
  | ok flow =>
    cases flow with
    | ret _ => exact I1.after out
    | next => exact out.elim
    | brk => exact out.elim
    | cont => exact out.elim

/-- repr(x) of data: its text -/
def rShown (K : PySem.W.Frag) : List V → Hp → VK → Prop := fun xs H Q => ∃ (a : Addr) (d : PyData), xs = [.ref a] ∧ Dp K H (.ref a) d ∧ d.showable = true ∧ d.hasDict = false ∧ d.depth ≤ 60 ∧ d.shown.length ≤ sizeLine ∧ Q (.str d.shown) H
theorem call_shown (hf : Free X.A) (hu : X.A.units + 64 < cLine) : CallR X (.builtin "repr") (rShown X.K) := by
  intro pins s σ H xs us Q I rel h
  obtain ⟨a, d, rfl, hd, shows, plain, deep, small, q⟩ := h
  cases rel with
  | cons r1 rest =>
    cases rest
    cases r1
    obtain ⟨as, reads⟩ := Dp.reads I d _ _ hd (rfl : RelV (.ref a) (.ref a))
    exact repr_of_reads' reads shows (PyData.noDict_hsm plain) hf (by omega) (fun _ _ z => z) (fun h' u tk kept => ⟨.str d.shown, H, I.kept kept, ⟨_, rfl⟩, q⟩) small
end
end Sa

/-! Sa.Tb: the table of a def's code objects -/
namespace Sa
open PySem PySem.Spec PyProof.Rows L2
/-- the table at P has its form -/
abbrev Tb (H : Hp) (P : Addr) : Prop := GxR.TabG H P
/-- H' is H but for the table at P -/
abbrev TbTo (P : Addr) (H H' : Hp) : Prop := GxR.Tabbed P H H'
end Sa

set_option Elab.async false
set_option linter.all false
set_option maxRecDepth 100000
set_option maxHeartbeats 3200000
/-! Gn1: a generator expression's frame as a context. It is got out of the library's block_start: where no name of the scope is a cell, a generator's frame differs from a comprehension's block in its kinds of names, in its frame and in the namespace. -/
namespace Gn
open PySem PySem.Spec PyProof.Rows L2 Sa

/-- the context of the generator's frame: begun at s, its iterator's objects at fp, woken in A' -/
abbrev gx (X : Cx) (s : Shared) (H : Hp) (ev : Env) (fp : List Addr) (A' : Around) : Cx :=
  { X with s_0 := s, H_0 := H, env := ev, A := A', outer := X.stack, stack := ev :: X.stack, ex := fp, fn := fun _ => false, pn := [], xe := fun _ _ => False }

/-! a scope without cells -/
theorem cells_none : ∀ (l : List (Str × NameKind)) (n : Nat) (acc : List (Str × Addr)), (∀ y ∈ l, y.2 ≠ .cell) → cellsFrom n l acc = acc
  | [], _, _, _ => rfl
  | (x, k) :: l, n, acc, h => by
    have hk : (k == NameKind.cell) = false := by simpa using h _ List.mem_cons_self
    simp only [cellsFrom, hk, Bool.false_eq_true, if_false]
    exact cells_none l n acc fun y hy => h y (List.mem_cons_of_mem _ hy)
theorem push_none : ∀ (l : List (Str × NameKind)) (h : Heap), (∀ y ∈ l, y.2 ≠ .cell) → pushCells h l = h
  | [], _, _ => rfl
  | (x, k) :: l, h, no => by
    have hk : (k == NameKind.cell) = false := by simpa using no _ List.mem_cons_self
    simp only [pushCells, hk, Bool.false_eq_true, if_false]
    exact push_none l h fun y hy => no y (List.mem_cons_of_mem _ hy)
/-- the kind of a name in a block that is a block's of env -/
def kindIn (env : Env) (x : Str) (k : NameKind) : NameKind := if k == .free && env.scope.kind == .function && env.kindOf x == some .cell then .cell else k
theorem lookup_kinds (f : Str → NameKind → NameKind) (x : Str) : ∀ l : List (Str × NameKind), (l.map fun p => (p.1, f p.1 p.2)).lookup x = (l.lookup x).map (f x)
  | [] => rfl
  | (n, k) :: l => by
    simp only [List.map_cons, List.lookup_cons]
    cases e : x == n with
    | true => rw [eq_of_beq e]; rfl
    | false => exact lookup_kinds f x l
theorem kind_relabel (scope : Scope) (env : Env) (x : Str) : (relabel scope env).names.lookup x = (scope.names.lookup x).map (kindIn env x) := by
  rw [← lookup_kinds]
  show (scope.names.map _).lookup x = _
  congr 2
  funext p
  unfold kindIn
  dsimp only
  split <;> rfl
theorem kindIn_out {env : Env} {x : Str} {k : NameKind} : (kindIn env x k = .local ↔ k = .local) ∧ (kindIn env x k = .cell ∨ kindIn env x k = .free ↔ k = .cell ∨ k = .free) := by
  unfold kindIn
  split
  · rename_i h
    simp only [Bool.and_eq_true, beq_iff_eq] at h
    simp [h.1.1]
  · simp

section
variable {X : Cx} {σ : L2.St} {H : Hp} {s : Shared} {pins : List (Addr × Obj)}
theorem gen_start {scope : Scope} {own : List (Str × Nat)} {fp : List Addr} {code : Value} {A' : Around} {h' : Heap} {mm : Str → Option Value} {g' : Array GenState} {tk : Nat}
    (I : Inv X pins σ H s) (ok : BlkOk X.N X.env.scope scope own) (hN : X.N.Nodup) (hcell : ∀ y ∈ scope.names, y.2 ≠ .cell) (hfp : ∀ b ∈ fp, FpOk X pins H b ∧ b < s.heap.objs.size)
    (hA1 : A'.handled = none) (hA2 : A'.frames = some (genEnv scope (cloFrom X.env.cells scope.names []) s.heap.objs.size code builtinsNs X.env :: X.stack))
    (ns : h'.Ns s.heap.objs.size mm) (same : Heap.SameBut s.heap.objs.size (s.heap.push { cls := .type "frame", data := .dict #[] }) h') (hg : AllBare g') :
    Inv (gx X s H (genEnv scope (cloFrom X.env.cells scope.names []) s.heap.objs.size code builtinsNs X.env) fp A') [] (wipe σ (own.map (·.2))) H { s with heap := h', gens := g', toks := tk } := by
  have B := block_start I ok hN hfp
  rw [cells_none _ _ _ hcell, push_none _ _ hcell] at B
  have old : ∀ b o, s.heap.get? b = some o → h'.get? b = some o := fun b o e => by
    rw [same.2 b (Nat.ne_of_lt (Heap.lt_size e))]
    exact Heap.get?_push_of_some _ e
  -- a cell of the block stands ahead of it
  have cellOld : ∀ c v, (s.heap.push { cls := .type "dict", data := .dict #[] }).IsCell c v → h'.IsCell c v := fun c v ⟨o, at', isC⟩ => by
    rcases Heap.get?_push_cases at' with ⟨_, z⟩ | z
    · rw [z] at isC
      cases isC
    · exact ⟨o, old c o z, isC⟩
  have kinds := fun x => kind_relabel scope X.env x
  refine
    { ok :=
        { mod := B.ok.mod, kind := ok.kind, glob := I.ok.glob, blt := rfl, above := Nat.le_refl _, inj := B.ok.inj, has := fun x hx => ?_, cab := fun _ _ no => (nomatch no), hd := fun _ => hA1, frames := hA2, stk := .inr ⟨rfl, rfl⟩,
          exf := B.ok.exf, bs := B.ok.bs, bsz := B.ok.bsz, noex := B.ok.noex, exfs := B.ok.exfs, funs := B.ok.funs, frf := B.ok.frf }
      os := rfl, bare := hg, base := Un.kept old, loc := ?_, cell := fun x c e => (B.cell x c e).imp (cellOld c), free := B.free, freeC := B.freeC, pin := fun p no => (nomatch no), hok := I.hok.kept old, len := B.len }
  · have hx : scope.names.lookup x = some .cell ∨ scope.names.lookup x = some .free := hx
    refine B.ok.has x ?_
    show (relabel scope X.env).names.lookup x = _ ∨ (relabel scope X.env).names.lookup x = _
    rw [kinds]
    rcases hx with hx | hx <;> rw [hx]
    · simpa using (kindIn_out (env := X.env) (x := x) (k := .cell)).2.mpr (.inl rfl)
    · simpa using (kindIn_out (env := X.env) (x := x) (k := .free)).2.mpr (.inr rfl)
  · obtain ⟨m, nsB, look⟩ := B.loc
    refine ⟨mm, ns, fun i x v hi hv vis => ?_⟩
    have none' : m x = none := nsB.agree (Heap.Ns.new s.heap _) x
    have visB : Vis (relabel scope X.env) x := by
      unfold Vis
      rw [kinds]
      have vis : Vis scope x := vis
      rcases vis with e | e | e <;> rw [e]
      · exact .inl (congrArg some (kindIn_out.1.mpr rfl))
      · exact .inr (by simpa using (kindIn_out (env := X.env) (x := x) (k := .cell)).2.mpr (.inl rfl))
      · exact .inr (by simpa using (kindIn_out (env := X.env) (x := x) (k := .free)).2.mpr (.inr rfl))
    obtain ⟨u, rel, ⟨_, inM⟩ | ⟨kind, c, hc, isC⟩⟩ := look i x v hi hv visB
    · rw [none'] at inM
      cases inM
    · refine ⟨u, rel, .inr ⟨?_, c, hc, cellOld c _ isC⟩⟩
      show scope.names.lookup x = _ ∨ scope.names.lookup x = _
      have kind : (relabel scope X.env).names.lookup x = some .cell ∨ (relabel scope X.env).names.lookup x = some .free := kind
      rw [kinds] at kind
      cases e : scope.names.lookup x with
      | none => rw [e] at kind; simp at kind
      | some k =>
        rw [e] at kind
        simpa using (kindIn_out (env := X.env) (x := x) (k := k)).2.mp (by simpa using kind)
end
end Gn

set_option Elab.async false
set_option linter.all false
set_option maxRecDepth 100000
set_option maxHeartbeats 3200000
/-! Gn2: the generator's turns -/
namespace Gn
open PySem PySem.Spec PyProof.Rows L2 Sa

abbrev gexp (elt tg iter : Expr) (ifs : List Expr) (scope : Scope) (pos : Pos) : Expr := .GeneratorExp elt [⟨tg, iter, ifs, 0⟩] scope pos
/-- the around of the generator's frame, woken in A -/
abbrev ovr (A : Around) (elt tg iter : Expr) (ifs : List Expr) (scope : Scope) (pos : Pos) (it : Addr) (cenv : Env) : Around := A.over (.compLoop (gexp elt tg iter ifs scope pos) 0 (.ref it) .none cenv) []
section
variable {A : Around} {elt tg iter : Expr} {ifs : List Expr} {scope : Scope} {pos : Pos} {it : Addr} {cenv : Env}
theorem ovr_hd : (ovr A elt tg iter ifs scope pos it cenv).handled = A.handled := rfl
theorem ovr_dp : (ovr A elt tg iter ifs scope pos it cenv).depth = A.depth + 1 := rfl
theorem ovr_un : (ovr A elt tg iter ifs scope pos it cenv).units = A.units + 3 := rfl
theorem ovr_fr {l : List Env} (h : A.frames = some l) : (ovr A elt tg iter ifs scope pos it cenv).frames = some (cenv :: l) := by
  obtain ⟨hdd, d, fr, gd0, u⟩ := A
  cases h
  simp [Around.over, marksOver, frameCount, unitsOf, envsOf, guardsOf, pushEnvs, pushGuards, Code.envs, Code.env?, Code.isFrame]
theorem ovr_gd {l : List Code} (h : A.guards = some l) : (ovr A elt tg iter ifs scope pos it cenv).guards = some l := by
  obtain ⟨hdd, d, fr, gd0, u⟩ := A
  cases h
  simp [Around.over, marksOver, frameCount, unitsOf, envsOf, guardsOf, pushEnvs, pushGuards, Code.guards, Code.isGuard]
end
abbrev Pins := List (Addr × Obj)
/-- the generator sleeps (or is about to run): i of the walked things are gone; gp its own object, ps the consumer's -/
structure GG (Xg : Cx) (σw : L2.St) (fp : List Addr) (tn : Nat → Heap → Prop) (gp : Addr × Obj) (ps : Pins) (i : Nat) (H : Hp) (s : Shared) : Prop where
  inv : Inv Xg (gp :: ps) σw H s
  tn : tn i s.heap
  nf : ∀ b ∈ fp, H b = none
  ap : ∀ p ∈ gp :: ps, p.1 ∉ fp
abbrev GP := Pins → Nat → Hp → Shared → Prop
abbrev NX := List V → Hp → Prop
def GYx (G : GP) (Pn : Pins → List V → Prop) (Yv : NX → List V → V → Hp → Prop) : Protocol := fun n s0 v s kap =>
  ∃ (ps : Pins) (ys : List V) (i : Nat) (y : V) (H : Hp) (Nx : NX), n + 1 + ys.length = sizeLine + 1 ∧ ys.length < sizeLine ∧ RelV y v ∧ (∀ p ∈ ps, s0.heap.get? p.1 = some p.2) ∧ Pn ps ys ∧ G ps i H s ∧ Yv Nx ys y H ∧
    ∀ ps' s', Pn ps' (ys ++ [y]) → G ps' i H s' → Nx (ys ++ [y]) H → kap (.send .none) s'
def GPx (Xg : Cx) (σw : L2.St) (gp : Addr × Obj) (Pn : Pins → List V → Prop) (Qe : NX) : Nat → Shared → Shared → Prop := fun _ s0 s => ∃ (ps : Pins) (ys : List V) (H : Hp), (∀ p ∈ ps, s0.heap.get? p.1 = some p.2) ∧ Pn ps ys ∧ Inv Xg (gp :: ps) σw H s ∧ Qe ys H
abbrev GRx (Xg : Cx) (σw : L2.St) (gp : Addr × Obj) (Pn : Pins → List V → Prop) (Qe : NX) : GenEnd := fun n s0 r s => r = .ok .next ∧ GPx Xg σw gp Pn Qe n s0 s
/-- what is asked of a turn -/
def Turns (J : It) (g : TG) (tt : TT) (te : TE) (vs : List Nat) (σw : L2.St) (Yv : NX → List V → V → Hp → Prop) (Qe : NX) (W : Nat → Nat → List V → Hp → Prop) : Prop := ∀ i m ys H, W i m ys H →
  (J.stop i H ∧ Qe ys H) ∨ (J.go i H ∧ ∃ Nx : NX, (∀ ys' H', Nx ys' H' → ∃ m', m' < m ∧ W (i + 1) m' ys' H') ∧ ∀ x H', J.yld i H x H' → g x σw H' fun σ2 H2 => wipe σ2 vs = σw ∧ tt σ2 H2 fun b H3 =>
    if b = true then te σ2 H3 fun y H4 => ys.length < sizeLine ∧ Yv Nx ys y H4 else Nx ys H3)
section
variable {Xg : Cx} {A : Around} {elt tg iter : Expr} {ifs : List Expr} {scope : Scope} {pos : Pos} {it : Addr} {J : It} {fp : List Addr} {tn : Nat → Heap → Prop} {g : TG} {tt : TT} {te : TE} {vs : List Nat} {σw : L2.St} {gp : Addr × Obj} {Pn : Pins → List V → Prop} {Yv : NX → List V → V → Hp → Prop} {Qe : NX} {W : Nat → Nat → List V → Hp → Prop}
theorem segG (hA : ovr A elt tg iter ifs scope pos it Xg.env = Xg.A) (T : Turn Xg.prog Xg.w Xg.K tg J fp it tn) (pg : PG Xg tg g) (pt : PTs Xg ifs tt) (pe : PE Xg elt te) (hx : Xg.xe = fun _ _ => False) (calm : Xg.calm = true) (ex : Xg.ex = fp) (pn : Xg.pn = [])
    (hco : Xg.env.scope.isCoroutine = false) (hw : ∃ σ0, σw = wipe σ0 vs)
    (turn : Turns J g tt te vs σw Yv Qe W) :
    ∀ (m n i : Nat) (ys : List V) (ps : Pins) (s0 s : Shared) (H : Hp), n + ys.length = sizeLine + 1 → W i m ys H → (∀ p ∈ ps, s0.heap.get? p.1 = some p.2) → Pn ps ys → GG Xg σw fp tn gp ps i H s →
      Seg (model Xg.prog Xg.w) A (GRx Xg σw gp Pn Qe) (GYx (GG Xg σw fp tn gp) Pn Yv) n s0 (.compLoop (gexp elt tg iter ifs scope pos) 0 (.ref it) .none Xg.env)
        ((model Xg.prog Xg.w).den (.compLoop (gexp elt tg iter ifs scope pos) 0 (.ref it) .none Xg.env)) [] s := by
  obtain ⟨σ0, hσ0⟩ := hw
  intro m
  induction m using Nat.strongRecOn with
  | ind m ih =>
    intro n i ys ps s0 s H hn w hs0 hPn G
    have stat : ∀ {σ' : L2.St} {H' : Hp} {s' : Shared}, Inv Xg (gp :: ps) σ' H' s' → (∀ b ∈ fp, H' b = none) → ∀ b ∈ fp, FpOk Xg (gp :: ps) H' b := fun {σ' H' s'} I' hn b hb =>
      ⟨hn b hb, (I'.ok.exf b (by rw [ex]; exact hb)).1, I'.ok.exfs b (by rw [ex]; exact hb), .inl (by rw [ex]; exact hb), fun x c eb => (I'.ok.exf b (by rw [ex]; exact hb)).2 x c eb, fun p hp z => by
        rw [pn, List.nil_append] at hp
        exact G.ap p hp (by rw [z]; exact hb)⟩
    show Seg _ A _ _ _ s0 _ ((compTurn (gexp elt tg iter ifs scope pos) 0 (.ref it) .none Xg.env).onRaise (leaving Xg.env)) [] s
    rw [compTurn_gen, Sem.onRaise_eq_wrap]
    refine seg_bind_wrap (wpAny_standAt (seg_bind_wrap ?_))
    show wpAny _ (ovr A elt tg iter ifs scope pos it Xg.env) _ _ _ _
    rw [hA]
    rcases turn i m ys H w with ⟨stop, qq⟩ | ⟨go, Nx, hNx, step⟩
    · refine thnF (T.done Xg rfl rfl rfl calm i _ s _ H (fun _ _ => False) G.inv (stat G.inv G.nf) G.tn stop) fun r s6 ⟨hr, I6⟩ => ?_
      subst hr
      exact seg_end (.ok .next) ⟨rfl, ps, ys, H, hs0, hPn, I6, qq⟩
    · refine thnF (T.item Xg rfl rfl rfl calm i _ s _ H (fun _ _ => False) G.inv (stat G.inv G.nf) G.tn go) fun r s6 ⟨u, hr, h6a⟩ => ?_
      subst hr
      refine seg_bind_wrap ?_
      show wpAny _ (ovr A elt tg iter ifs scope pos it Xg.env) _ _ _ _
      rw [hA]
      refine thnF h6a fun _ s7a ⟨x, H7, I7a, r7a, y7a, st7a, n7a⟩ => ?_
      have P7 := I7a.pinned (stat I7a n7a) (T.obj _ _ st7a)
      refine seg_bind_wrap ?_
      show wpAny _ (ovr A elt tg iter ifs scope pos it Xg.env) _ _ _ _
      rw [hA]
      have pgr := pg.run _ s7a _ H7 x u _ P7 r7a (step x H7 y7a)
      rw [hx] at pgr
      refine thnF pgr fun _ s8 ⟨σ8, H8, I8, hw8, q8⟩ => ?_
      have fin : ∀ {s' : Shared} {H' : Hp}, Inv Xg ((gp :: ps) ++ pinsAt fp s7a.heap) σ8 H' s' → GG Xg σw fp tn gp ps (i + 1) H' s' := fun {s' H'} I' => by
        have pinF : ∀ b ∈ fp, ∀ o, s7a.heap.get? b = some o → s'.heap.get? b = some o ∧ H' b = none := fun b hb o eb =>
          let z := I'.pin (b, o) (List.mem_append_right _ (List.mem_append_right _ (mem_pinsAt hb eb)))
          ⟨z.1, z.2.1⟩
        have hl : σw.length = σ8.length := by rw [← hw8, wipe_length]
        refine ⟨(I'.unpinned (pins := gp :: ps)).weak hl (fun j v eb => ?_), T.keep _ _ _ st7a fun b hb o eb => (pinF b hb o eb).1, fun b hb => ?_, G.ap⟩
        · rw [← hw8] at eb
          exact (wipe_some eb).1
        · obtain ⟨o, eb, _⟩ := T.obj _ _ st7a b hb
          exact (pinF b hb o eb).2
      refine seg_bind_wrap ?_
      show wpAny _ (ovr A elt tg iter ifs scope pos it Xg.env) _ _ _ _
      rw [hA]
      have ptr := pt.run _ s8 σ8 H8 _ I8 q8
      rw [hx] at ptr
      refine thnF ptr fun b s9 ⟨H9, I9, q9⟩ => ?_
      cases b with
      | false =>
        simp only [Bool.false_eq_true, if_false] at q9 ⊢
        obtain ⟨m', lt, w'⟩ := hNx ys H9 q9
        exact seg_again rfl (ih m' lt n (i + 1) ys ps s0 s9 H9 hn w' hs0 hPn (fin I9))
      | true =>
        simp only [if_true] at q9 ⊢
        have hy : ∀ u, yieldOut Xg.env u = yieldValue u := fun u => by simp only [yieldOut, hco, Bool.false_eq_true, if_false]
        simp only [hy]
        rw [Sem.bind_eq_wrap', Sem.bind_eq_wrap', Sem.wrap_wrap, Sem.wrap_wrap]
        refine seg_wrap ?_
        show wpAny _ (ovr A elt tg iter ifs scope pos it Xg.env) _ _ _ _
        rw [hA]
        have per := pe.run _ s9 σ8 H9 _ I9 q9
        rw [hx] at per
        refine thnF per fun z s10 ⟨yv, H10, I10, r10, small, q10⟩ => ?_
        obtain ⟨n', rfl⟩ : ∃ n', n = n' + 1 := ⟨n - 1, by omega⟩
        refine seg_at (seg_yield rfl rfl rfl ⟨ps, ys, i + 1, yv, H10, Nx, hn, small, r10, hs0, hPn, fin I10, q10, fun ps' s' pn' G' nx => ?_⟩)
        obtain ⟨m', lt, w'⟩ := hNx _ H10 nx
        exact seg_again rfl (ih m' lt n' (i + 1) (ys ++ [yv]) ps' s' s' H10 (by rw [List.length_append]; simp; omega) w' (fun p hp => (G'.inv.pin p (List.mem_append_right _ (List.mem_cons_of_mem _ hp))).1) pn' G')
end
end Gn

set_option Elab.async false
set_option linter.all false
set_option maxRecDepth 100000
set_option maxHeartbeats 3200000
/-! Gn3: the generator woken, made -/
namespace Gn
open PySem PySem.Spec PyProof.Rows L2 Sa
theorem bare_set {g : Array GenState} {x : GenState} (i : Nat) (h : AllBare g) (hx : x.bare = true) : AllBare (g.setIfInBounds i x) := fun y hy => by
  rcases Array.mem_or_eq_of_mem_setIfInBounds hy with z | z
  · exact h y z
  · rw [z]; exact hx
section
variable {X : Cx} {pins : Pins} {σ : L2.St} {H : Hp} {s : Shared}
theorem inv_gens {g' : Array GenState} (I : Inv X pins σ H s) (h : AllBare g') : Inv X pins σ H { s with gens := g' } :=
  ⟨I.ok, I.os, h, I.base, I.loc, I.cell, I.free, I.freeC, I.pin, I.hok, I.len⟩
theorem inv_heap {h' : Heap} {t : Nat} (I : Inv X pins σ H s) (k : ∀ b u, s.heap.get? b = some u → h'.get? b = some u) : Inv X pins σ H { s with heap := h', toks := t } := I.kept k
end
section
variable {Xg : Cx} {A : Around} {elt tg iter : Expr} {ifs : List Expr} {scope : Scope} {pos : Pos} {it : Addr} {J : It} {fp : List Addr} {tn : Nat → Heap → Prop} {g : TG} {tt : TT} {te : TE} {vs : List Nat} {σw : L2.St} {gp : Addr × Obj} {Pn : Pins → List V → Prop} {Yv : NX → List V → V → Hp → Prop} {Qe : NX} {W : Nat → Nat → List V → Hp → Prop}
theorem GG.gens {ps : Pins} {i : Nat} {H : Hp} {s : Shared} {g' : Array GenState} (G : GG Xg σw fp tn gp ps i H s) (h : AllBare g') : GG Xg σw fp tn gp ps i H { s with gens := g' } :=
  ⟨inv_gens G.inv h, G.tn, G.nf, G.ap⟩
theorem GG.setGen {ps : Pins} {i : Nat} {H : Hp} {s : Shared} {x : GenState} (k : Nat) (G : GG Xg σw fp tn gp ps i H s) (h : x.bare = true) : GG Xg σw fp tn gp ps i H (s.setGen k x) := G.gens (bare_set k G.inv.bare h)
/-- the first turn -/
theorem segG0 (hA : ovr A elt tg iter ifs scope pos it Xg.env = Xg.A) (T : Turn Xg.prog Xg.w Xg.K tg J fp it tn) (pg : PG Xg tg g) (pt : PTs Xg ifs tt) (pe : PE Xg elt te) (hx : Xg.xe = fun _ _ => False) (calm : Xg.calm = true) (ex : Xg.ex = fp) (pn : Xg.pn = [])
    (hco : Xg.env.scope.isCoroutine = false) (hw : ∃ σ0, σw = wipe σ0 vs)
    (turn : Turns J g tt te vs σw Yv Qe W) (m n : Nat) (ps : Pins) (s0 s : Shared) (H : Hp) (hn : n = sizeLine + 1) (w : W 0 m [] H) (hs0 : ∀ p ∈ ps, s0.heap.get? p.1 = some p.2) (hP : Pn ps []) (G : GG Xg σw fp tn gp ps 0 H s) :
      Seg (model Xg.prog Xg.w) A (GRx Xg σw gp Pn Qe) (GYx (GG Xg σw fp tn gp) Pn Yv) n s0 (.compStart (gexp elt tg iter ifs scope pos) 0 (.ref it) .none Xg.env)
        ((model Xg.prog Xg.w).den (.compStart (gexp elt tg iter ifs scope pos) 0 (.ref it) .none Xg.env)) [] s := by
  have go := segG (Pn := Pn) (gp := gp) hA T pg pt pe hx calm ex pn hco hw turn m n 0 [] ps s0 s H hn w hs0 hP G
  show Seg _ A _ _ _ s0 _ ((compStart (gexp elt tg iter ifs scope pos) 0 (.ref it) .none Xg.env).onRaise (leaving Xg.env)) [] s
  unfold compStart
  rw [Sem.onRaise_eq_wrap]
  show Seg _ A _ _ _ s0 _ ((ask >>= _).wrap _ _ _ _) [] s
  refine seg_bind_wrap (wpAny_askSetting ?_)
  split
  · exact seg_again rfl go
  · refine seg_bind_wrap (wpAny_rule ?_)
    show Seg _ A _ _ _ s0 _ ((standAt iter.pos >>= _).wrap _ _ _ _) [] s
    exact seg_bind_wrap (wpAny_standAt (seg_bind_wrap (T.self _ 0 s _ _ G.tn (seg_again rfl go))))
/-- ready to go on: the generator of number gi, n more at most -/
def GT (Xg : Cx) (σw : L2.St) (fp : List Addr) (tn : Nat → Heap → Prop) (gp : Addr × Obj) (Pn : Pins → List V → Prop) (Yv : NX → List V → V → Hp → Prop) (Qe : NX) (A : Around) (gi n : Nat) (ps : Pins) (ys : List V) (s : Shared) : Prop :=
  n + ys.length = sizeLine + 1 ∧ ys.length ≤ sizeLine ∧ Pn ps ys ∧ ∃ (i : Nat) (H : Hp) (gs : GenState), GG Xg σw fp tn gp ps i H s ∧ s.gens[gi]? = some gs ∧
    ∀ ps' s', Pn ps' ys → GG Xg σw fp tn gp ps' i H s' → gs.Goes (model Xg.prog Xg.w) A.in1 (GRx Xg σw gp Pn Qe) (GYx (GG Xg σw fp tn gp) Pn Yv) n (.send .none) s'
theorem next_GT {gi n : Nat} {ps : Pins} {ys : List V} {s : Shared} {Q : Option Value → Shared → Prop} {E : Value → Shared → Prop} (hh : A.handled = none) (room : A.depth < recursionLimit) (isg : ∀ h : Heap, h.get? gp.1 = some gp.2 → h.IsGen gp.1 gi)
    (st : GT Xg σw fp tn gp Pn Yv Qe A gi n ps ys s)
    (item : ∀ m ps ys y v H i Nx s', n = m + 1 → ys.length < sizeLine → RelV y v → (∀ p ∈ ps, s.heap.get? p.1 = some p.2) → Pn ps ys → GG Xg σw fp tn gp ps i H s' → Yv Nx ys y H →
      (Nx (ys ++ [y]) H → ∀ ps' s'', Pn ps' (ys ++ [y]) → GG Xg σw fp tn gp ps' i H s'' → s''.gens = s'.gens → GT Xg σw fp tn gp Pn Yv Qe A gi m ps' (ys ++ [y]) s'') → Q (some v) s')
    (done : ∀ ps ys H s', (∀ p ∈ ps, s.heap.get? p.1 = some p.2) → Pn ps ys → Inv Xg (gp :: ps) σw H s' → Qe ys H → Q none s') :
    wpAny (model Xg.prog Xg.w) A (pyNext (.ref gp.1)) Q E s := by
  obtain ⟨hn, hl, hP, i, H, gs, G, hgs, go⟩ := st
  have lt : gi + 1 ≤ s.gens.size := (Array.getElem?_eq_some_iff.mp hgs).1
  have at0 : s.heap.get? gp.1 = some gp.2 := (G.inv.pin gp (List.mem_append_right _ List.mem_cons_self)).1
  refine GenW.wpAny_gsz lt ?_
  refine wpAny_pyNext_genexpQ (P := GPx Xg σw gp Pn Qe) hh G.inv.nolimit room (isg _ at0) hgs (go ps _ hP (G.setGen gi rfl)) (fun v s1 gs' bare hv => ?_) (fun s1 hp h' k => ?_)
  · intro size
    obtain ⟨ps1, ys1, i1, y, H1, Nx, hn1, sm1, rv, hs1, hP1, G1, yv, kap⟩ := hv
    cases n with
    | zero => omega
    | succ m =>
      simp only [Nat.add_sub_cancel] at hn1
      have sz1 : gi < s1.gens.size := by
        have : gi + 1 ≤ (s1.setGen gi gs').gens.size := size
        rw [GenW.setGen_size] at this
        exact this
      refine item m ps1 ys1 y v H1 i1 Nx _ rfl sm1 rv hs1 hP1 (G1.setGen gi bare) yv fun nx ps' s'' pn' G'' eg => ?_
      refine ⟨by rw [List.length_append]; simp; omega, by rw [List.length_append]; simp; omega, pn', i1, H1, gs', G'', ?_, fun ps2 s2 p2 G2 => kap ps2 s2 p2 G2 nx⟩
      rw [eg]
      exact setGen_self (gs := s1.gens[gi]) (Array.getElem?_eq_getElem sz1)
  · intro size
    obtain ⟨ps1, ys1, H1, hs1, hP1, I1, q⟩ := hp
    refine done ps1 ys1 H1 _ hs1 hP1 ?_ q
    have I2 := inv_gens I1 (bare_set gi I1.bare (x := .finished) rfl)
    exact inv_heap (t := s1.toks) I2 k
end
end Gn

set_option Elab.async false
set_option linter.all false
set_option maxRecDepth 100000
set_option maxHeartbeats 3200000
/-! Gn4: the generator made; the consumer's own object -/
namespace Gn
open PySem PySem.Spec PyProof.Rows L2 Sa
section
variable {Xg : Cx} {fp : List Addr} {tn : Nat → Heap → Prop} {σw : L2.St} {gp : Addr × Obj} {ps : Pins} {i : Nat} {H : Hp} {s : Shared}
/-- the consumer lays an object of its own -/
theorem GG.lay {S : Addr} {obj : Obj} {h' : Heap} {t : Nat} (keep : ∀ i h h', tn i h → (∀ b ∈ fp, ∀ o, h.get? b = some o → h'.get? b = some o) → tn i h') (lo : ∀ b ∈ fp, b < s.heap.objs.size) (G : GG Xg σw fp tn gp ps i H s)
    (k : ∀ b u, s.heap.get? b = some u → h'.get? b = some u) (hS : h'.get? S = some obj) (new : s.heap.objs.size ≤ S) (nc : ∀ v, obj.data ≠ .cell v) : GG Xg σw fp tn gp ((S, obj) :: ps) i H { s with heap := h', toks := t } := by
  have I1 : Inv Xg (gp :: ps) σw H { s with heap := h', toks := t } := G.inv.kept k
  refine ⟨I1.pins_of fun p hpp => ?_, keep _ _ _ G.tn fun b _ o e => k b o e, G.nf, fun p hpp => ?_⟩
  · rcases List.mem_cons.mp hpp with zq | hpp
    · rw [zq]; exact I1.pin gp (List.mem_append_right _ List.mem_cons_self)
    · rcases List.mem_cons.mp hpp with zq | hpp
      · rw [zq]
        exact ⟨hS, G.inv.hok.fresh new, Nat.ne_of_gt (Nat.lt_of_lt_of_le G.inv.lt new), G.inv.nofs new, nc⟩
      · exact I1.pin p (List.mem_append_right _ (List.mem_cons_of_mem _ hpp))
  · rcases List.mem_cons.mp hpp with zq | hpp
    · rw [zq]; exact G.ap gp List.mem_cons_self
    · rcases List.mem_cons.mp hpp with zq | hpp
      · rw [zq]; exact fun q => Nat.lt_irrefl _ (Nat.lt_of_lt_of_le (lo S q) new)
      · exact G.ap p (List.mem_cons_of_mem _ hpp)
/-- the consumer writes its object -/
theorem GG.write {S : Addr} {obj ob' : Obj} {h' : Heap} {t : Nat} (keep : ∀ i h h', tn i h → (∀ b ∈ fp, ∀ o, h.get? b = some o → h'.get? b = some o) → tn i h') (G : GG Xg σw fp tn gp ((S, obj) :: ps) i H s) (hpn : Xg.pn = []) (hg : gp.1 ≠ S) (hps : ∀ p ∈ ps, p.1 ≠ S) (old : Xg.s_0.heap.objs.size ≤ S)
    (k : ∀ b u, b ≠ S → s.heap.get? b = some u → h'.get? b = some u) (hS : h'.get? S = some ob') (nc : ∀ v, ob'.data ≠ .cell v) : GG Xg σw fp tn gp ((S, ob') :: ps) i H { s with heap := h', toks := t } := by
  obtain ⟨z1, z2, z3, z4, z5⟩ := G.inv.pin (S, obj) (List.mem_append_right _ (List.mem_cons_of_mem _ List.mem_cons_self))
  have nt : ∀ b u, H b = some u → b ≠ S := fun b u q hbb => by rw [hbb, z2] at q; cases q
  have I0 : Inv Xg (gp :: ps) σw H s := G.inv.pins_of fun p hpp => G.inv.pin p (List.mem_append_right _ (by
    rcases List.mem_cons.mp hpp with zq | zq
    · rw [zq]; exact List.mem_cons_self
    · exact List.mem_cons_of_mem _ (List.mem_cons_of_mem _ zq)))
  have nS : ∀ b, b ∉ [S] → b ≠ S := fun b hbb e => hbb (by rw [e]; exact List.mem_singleton.mpr rfl)
  have J : Inv Xg (gp :: ps) σw H { s with heap := h', toks := t } := by
    refine I0.step (g' := s.gens) (t' := t) (d' := s.drawn) (ch := [S]) (fun b hbb => ?_)
      (fun b obj _ _ hc q _ => k b obj (nS b hc) q) (fun b obj _ _ hc q _ => ⟨obj.slots, k b obj (nS b hc) q⟩) (fun _ _ _ _ n => n) (fun b obj hc q => ⟨obj, k b obj (nS b hc) q⟩)
      (fun _ _ q => q) (fun _ _ _ q => q) (fun b ps q => ⟨#[], by rw [q]; simp⟩) (fun m hmm => ?_) (fun b u q => ?_) G.inv.bare
    · rw [List.mem_singleton.mp hbb]
      refine ⟨.inr old, z3, fun x c e y => ?_, fun p hpp => ?_⟩
      · obtain ⟨v, o, ho, hd⟩ := I0.cell x c e
        rw [y, z1] at ho
        cases ho
        exact z5 _ hd
      · rw [hpn, List.nil_append] at hpp
        rcases List.mem_cons.mp hpp with zq | zq
        · rw [zq]; exact hg
        · exact hps p zq
    · obtain ⟨obj, es, ep, ho, r⟩ := hmm
      exact ⟨obj, es, ep, k _ obj (Ne.symm z3) ho, r⟩
    · refine (I0.hok b u q).stay (fun c v hc y => k c v ?_ y) (fun _ y => y) fun _ _ y => y
      rcases hc with y | y
      · rw [y]; exact nt b u q
      · exact nt c _ y
  have SF : S ∉ fp := G.ap (S, obj) (List.mem_cons_of_mem _ List.mem_cons_self)
  refine ⟨J.pins_of fun p hpp => ?_, keep _ _ _ G.tn fun b hbb o e => k b o (fun zq => SF (by rw [← zq]; exact hbb)) e, G.nf, fun p hpp => ?_⟩
  · rcases List.mem_cons.mp hpp with zq | hpp
    · rw [zq]; exact J.pin gp (List.mem_append_right _ List.mem_cons_self)
    · rcases List.mem_cons.mp hpp with zq | hpp
      · rw [zq]; exact ⟨hS, z2, z3, z4, nc⟩
      · exact J.pin p (List.mem_append_right _ (List.mem_cons_of_mem _ hpp))
  · rcases List.mem_cons.mp hpp with zq | hpp
    · rw [zq]; exact G.ap gp List.mem_cons_self
    · rcases List.mem_cons.mp hpp with zq | hpp
      · rw [zq]; exact SF
      · exact G.ap p (List.mem_cons_of_mem _ (List.mem_cons_of_mem _ hpp))
/-- nothing but new things -/
theorem GG.more {h' : Heap} {t : Nat} (keep : ∀ i h h', tn i h → (∀ b ∈ fp, ∀ o, h.get? b = some o → h'.get? b = some o) → tn i h') (G : GG Xg σw fp tn gp ps i H s) (k : ∀ b u, s.heap.get? b = some u → h'.get? b = some u) : GG Xg σw fp tn gp ps i H { s with heap := h', toks := t } :=
  ⟨G.inv.kept k, keep _ _ _ G.tn fun b _ o e => k b o e, G.nf, G.ap⟩
theorem GG.at {S : Addr} {obj : Obj} (G : GG Xg σw fp tn gp ((S, obj) :: ps) i H s) : s.heap.get? S = some obj := (G.inv.pin (S, obj) (List.mem_append_right _ (List.mem_cons_of_mem _ List.mem_cons_self))).1
end
/-- a generator just made: what its consumer has of it -/
structure Src (X : Cx) (pins : Pins) (σ : L2.St) (J : It) (g : TG) (tt : TT) (te : TE) (vs : List Nat) (H4 : Hp) (a : Addr) (s5 : Shared) (Xg : Cx) (fp : List Addr) (tn : Nat → Heap → Prop) (gob : Obj) (gi : Nat) : Prop where
  prog : Xg.prog = X.prog
  w : Xg.w = X.w
  pn : Xg.pn = []
  G0 : GG Xg (wipe σ vs) fp tn (a, gob) [] 0 H4 s5
  isg : ∀ h : Heap, h.get? a = some gob → h.IsGen a gi
  keep : ∀ i h h', tn i h → (∀ b ∈ fp, ∀ o, h.get? b = some o → h'.get? b = some o) → tn i h'
  lo : ∀ b ∈ fp, b < Xg.s_0.heap.objs.size
  sz : Xg.s_0.heap.objs.size ≤ s5.heap.objs.size
  alt : a < s5.heap.objs.size
  back : ∀ ps H s', Inv Xg ((a, gob) :: ps) (wipe σ vs) H s' → Inv X pins σ H s'
  start : ∀ (Pn : Pins → List V → Prop) (Yv : NX → List V → V → Hp → Prop) (Qe : NX) (W : Nat → Nat → List V → Hp → Prop), Turns J g tt te vs (wipe σ vs) Yv Qe W → (∃ m, W 0 m [] H4) → ∀ ps s', Pn ps [] → GG Xg (wipe σ vs) fp tn (a, gob) ps 0 H4 s' → s'.gens = s5.gens →
    GT Xg (wipe σ vs) fp tn (a, gob) Pn Yv Qe X.A.in4 gi (sizeLine + 1) ps [] s'
/-- what a generator's scope asks -/
structure GSc (scope : Scope) : Prop where
  co : scope.isCoroutine = false
  cell : ∀ y ∈ scope.names, y.2 ≠ .cell
  dot : scope.names.lookup (".0" : Str) = some NameKind.local
section
variable {X : Cx} {pins : Pins} {σ : L2.St} {H : Hp} {s : Shared}
theorem gen_make {c P : Addr} {elt tg iter : Expr} {ifs : List Expr} {gpos : Pos} {scope : Scope} {own : List (Str × Nat)} {wi : TI} {g : TG} {tt : TT} {te : TE} {k : Nat} {Q' : Value → Shared → Prop} {R : It → Hp → Prop}
    (hr : Room (k + 1) X.A) (hf : Free X.A) (hc : X.calm = true) (hN : X.N.Nodup) (TB : LamX.TabB X.base X.mg c P) (hcode : X.env.code = .ref c) (S : GSc scope) (ok : BlkOk X.N X.env.scope scope own) (hi : PI X tg iter wi)
    (hg : ∀ (s : Shared) (H : Hp) (C : Addr) (cl : List (Str × Addr)) (code : Value) (fp : List Addr) (A' : Around), Room k A' → Free A' → PG (gx X s H (genEnv scope cl C code builtinsNs X.env) fp A') tg g)
    (ht : ∀ (s : Shared) (H : Hp) (C : Addr) (cl : List (Str × Addr)) (code : Value) (fp : List Addr) (A' : Around), Room k A' → Free A' → PTs (gx X s H (genEnv scope cl C code builtinsNs X.env) fp A') ifs tt)
    (he : ∀ (s : Shared) (H : Hp) (C : Addr) (cl : List (Str × Addr)) (code : Value) (fp : List Addr) (A' : Around), Room k A' → Free A' → PE (gx X s H (genEnv scope cl C code builtinsNs X.env) fp A') elt te)
    (hs : ∀ v, genFold iter X.env v = pure v) (I : Inv X pins σ H s)
    (h : wi σ H fun J H1 => Tb H1 P ∧ ∀ H2, TbTo P H1 H2 → R J H2)
    (hQ : ∀ J H4 a s5 Xg fp tn gob gi, R J H4 → Src X pins σ J g tt te (own.map (·.2)) H4 a s5 Xg fp tn gob gi → Q' (.ref a) s5) :
    wpAny (model X.prog X.w) X.A (eval (gexp elt tg iter ifs scope gpos) X.env) Q' X.xe s := by
  have capt : ∀ y ∈ scope.names, y.2 = .free → ∃ c, X.env.cells.lookup y.1 = some c := fun y hy e => by
    rcases ok.free y hy e with k | k
    · exact I.ok.has _ (.inl k)
    · exact I.ok.has _ (.inr k)
  refine wpAny_GeneratorExp_make S.co (closure_ok capt) S.cell S.dot ok.kind hr.depth ?_ hs
  refine thn (hi.run pins s σ H _ I h) fun xv s1 hx => thn hx fun itv s2 h2 => ?_
  obtain ⟨it, fp, tn, J, H2, e, I2, T, st2, f2, ⟨pt0, hP, triples⟩, q⟩ := h2
  subst e
  have atP : s2.heap.get? P = some { cls := .none, data := .fields pt0 } := I2.hok P _ hP
  have codeAt : PySem.W.CodeHd s2.heap c P := TB.code.keeps fun d u e => I2.bk d u e
  refine ⟨I2.nolimit, ?_⟩
  -- what stands behind the code object's making
  have onward : ∀ (code : Value) (h3 : Heap) (tk : Nat) (ps' : Array Value), Heap.ExtBut P s2.heap h3 → s2.heap.objs.size ≤ h3.objs.size →
      h3.get? P = some { cls := .none, data := .fields ps' } → (∃ more, ps' = pt0 ++ more) → TriplesOk ps'.toList →
      wpAny (model X.prog X.w) X.A (builtinsFor X.env.globals X.env.builtins) (fun bi s4 =>
        ∀ h', h'.Ns s4.heap.objs.size (fun y => if y = ".0" then some (.ref it) else none) → Heap.SameBut s4.heap.objs.size (s4.heap.push { cls := .type "frame", data := .dict #[] }) h' →
          Q' (.ref h'.objs.size) { s4 with
            gens := s4.gens.push (.fresh (.compStart (gexp elt tg iter ifs scope gpos) 0 (.ref it) .none (genEnv scope (cloFrom X.env.cells scope.names []) s4.heap.objs.size code bi X.env))),
            toks := s4.toks + 1 + 1 + 1,
            heap := h'.push { cls := .type "generator", data := .fields #[.int s4.gens.size 0, .str "<genexpr>" (s4.toks + 1), .str (X.env.qual ++ "<genexpr>") (s4.toks + 1 + 1)] } }) X.xe { s2 with heap := h3, toks := tk } := by
    intro code h3 tk ps' grown sizes atP3 ⟨more, em⟩ triples3
    obtain ⟨bm, obj, g1, g2, g3, g4, g5, g6, g7, g8⟩ := TB.bm
    have I4 : Inv X pins σ (upd H2 P (.tbl (pt0 ++ more))) { s2 with heap := h3, toks := tk } :=
      GxR.inv_tab (g' := s2.gens) (d' := s2.drawn) I2 hP (fun b o hbb e => grown b o hbb e) (by rw [← em]; exact atP3) I2.bare
    have ne : ∀ b ∈ fp, b ≠ P := fun b hbb zq => by
      have := (f2 b hbb).1
      rw [zq, hP] at this
      cases this
    refine wpAny_builtinsFor (m := X.mg) (by rw [I2.ok.glob]; exact (I2.mod.glob.keeps I2.bk).extBut grown TB.gP) g1 g2 (grown _ _ g4 (I2.bk _ _ g5)) g6 g7 g8 ?_
    intro h' ns same
    have goal := q (upd H2 P (.tbl (pt0 ++ more))) ⟨⟨pt0 ++ more, upd_same, by rw [← em]; exact triples3⟩, fun d hd => upd_ne hd⟩
    generalize hs4 : ({ s2 with heap := h3, toks := tk } : Shared) = s4 at I4 ns same ⊢
    generalize hH4 : upd H2 P (.tbl (pt0 ++ more)) = H4 at I4 goal
    have g4 : s4.gens = s2.gens := by rw [← hs4]
    have st4 : tn 0 s4.heap := T.keep _ _ _ st2 fun b hbb o e => by rw [← hs4]; exact grown b o (ne b hbb) e
    have f4 : ∀ b ∈ fp, FpOk X pins H4 b ∧ b < s4.heap.objs.size := fun b hbb => by
      obtain ⟨o, e, _⟩ := T.obj _ _ st4 b hbb
      refine ⟨⟨?_, (f2 b hbb).2⟩, Heap.lt_size e⟩
      rw [← hH4, upd_ne (ne b hbb)]
      exact (f2 b hbb).1
    generalize hcenv : genEnv scope (cloFrom X.env.cells scope.names []) s4.heap.objs.size code builtinsNs X.env = cenv
    have fr : (ovr X.A.in4.in1 elt tg iter ifs scope gpos it cenv).frames = some (cenv :: X.stack) := ovr_fr (A := X.A.in4.in1) I4.ok.frames
    have I5 := gen_start (g' := s4.gens.push (.fresh (.compStart (gexp elt tg iter ifs scope gpos) 0 (.ref it) .none cenv))) (tk := s4.toks + 1 + 1 + 1) (A' := ovr X.A.in4.in1 elt tg iter ifs scope gpos it cenv) (code := code)
      I4 ok hN S.cell f4 hr.hd (by rw [hcenv]; exact fr) ns same (I4.bare.push rfl)
    rw [hcenv] at I5
    have room : Room k (ovr X.A.in4.in1 elt tg iter ifs scope gpos it cenv) := ⟨hr.hd, by
      have := hr.dp
      show X.A.depth + 1 + 3 * k + 5 < _
      omega, by
      have := hr.un
      show X.A.units + 1 + 1 + 1 + 1 + 1 + 3 + 16 * k + 200 < _
      omega⟩
    have free : Free (ovr X.A.in4.in1 elt tg iter ifs scope gpos it cenv) := ovr_gd (A := X.A.in4.in1) hf
    have pg := hg s4 H4 s4.heap.objs.size (cloFrom X.env.cells scope.names []) code fp _ room free
    have pt := ht s4 H4 s4.heap.objs.size (cloFrom X.env.cells scope.names []) code fp _ room free
    have pe := he s4 H4 s4.heap.objs.size (cloFrom X.env.cells scope.names []) code fp _ room free
    rw [hcenv] at pg pt pe
    have cS : cenv.scope.isCoroutine = false := by rw [← hcenv]; exact S.co
    have szh : h'.objs.size = s4.heap.objs.size + 1 := by rw [same.1, Heap.size_push]
    generalize hgob : ({ cls := .type "generator", data := .fields #[.int s4.gens.size 0, .str "<genexpr>" (s4.toks + 1), .str (X.env.qual ++ "<genexpr>") (s4.toks + 1 + 1)] } : Obj) = gob
    have hnc : ∀ v, gob.data ≠ .cell v := fun v zq => by rw [← hgob] at zq; cases zq
    have nfr : gob.isFreed = false := by rw [← hgob]; rfl
    have I6 : Inv (gx X s4 H4 cenv fp (ovr X.A.in4.in1 elt tg iter ifs scope gpos it cenv)) [(h'.objs.size, gob)] (wipe σ (own.map (·.2))) H4
        { s4 with gens := s4.gens.push (.fresh (.compStart (gexp elt tg iter ifs scope gpos) 0 (.ref it) .none cenv)), toks := s4.toks + 1 + 1 + 1, heap := h'.push gob } := by
      have J := inv_heap (t := s4.toks + 1 + 1 + 1) I5 (h' := h'.push gob) fun b o e => Heap.get?_push_of_some _ e
      refine J.pins_of fun p hpp => ?_
      rw [List.mem_singleton.mp hpp]
      have new : ({ s4 with heap := h', gens := s4.gens.push (.fresh (.compStart (gexp elt tg iter ifs scope gpos) 0 (.ref it) .none cenv)), toks := s4.toks + 1 + 1 + 1 } : Shared).heap.objs.size ≤ h'.objs.size := Nat.le_refl _
      exact ⟨Heap.get?_push_size _ nfr, I5.hok.fresh new, Nat.ne_of_gt (Nat.lt_of_lt_of_le I5.lt new), I5.nofs new, hnc⟩
    refine hQ J H4 h'.objs.size _ (gx X s4 H4 cenv fp (ovr X.A.in4.in1 elt tg iter ifs scope gpos it cenv)) fp tn gob s4.gens.size goal ⟨rfl, rfl, rfl, ⟨I6, ?_, fun b hbb => (f4 b hbb).1.1, fun p hpp => ?_⟩, fun hh e => ?_, T.keep, fun b hbb => (f4 b hbb).2, ?_, ?_, fun ps H' s' I' => ?_, fun Pn Yv Qe W turns hmm ps s' hPn G eg => ?_⟩
    · exact T.keep _ _ _ st4 fun b _ o e => Heap.get?_push_of_some _ (same.extBut b o (Nat.ne_of_lt (Heap.lt_size e)) (Heap.get?_push_of_some _ e))
    · rw [List.mem_singleton.mp hpp]
      intro zq
      have := (f4 _ zq).2
      have e9 : h'.objs.size < s4.heap.objs.size := this
      omega
    · rw [← hgob] at e
      exact ⟨_, _, _, e, rfl, rfl, rfl⟩
    · show s4.heap.objs.size ≤ (h'.push gob).objs.size
      rw [Heap.size_push, szh]
      omega
    · show h'.objs.size < (h'.push gob).objs.size
      rw [Heap.size_push]
      exact Nat.lt_succ_self _
    · exact I4.call' (ch := fp) I'.os I'.base I'.hok I'.bare fun b hbb => ⟨(f4 b hbb).1.2.2.2.1, (f4 b hbb).1.2.1, (f4 b hbb).1.2.2.2.2.1, (f4 b hbb).1.2.2.2.2.2⟩
    · obtain ⟨m, w⟩ := hmm
      refine ⟨by simp, by simp, hPn, 0, H4, .fresh (.compStart (gexp elt tg iter ifs scope gpos) 0 (.ref it) .none cenv), G, by rw [eg]; exact Array.getElem?_push_size .., fun ps2 s2 p2 G2 => ⟨rfl, ?_⟩⟩
      exact segG0 (Xg := gx X s4 H4 cenv fp (ovr X.A.in4.in1 elt tg iter ifs scope gpos it cenv)) (A := X.A.in4.in1) rfl T pg pt pe rfl hc rfl rfl cS ⟨σ, rfl⟩ turns m _ ps2 s2 s2 H4 rfl w (fun p hp => (G2.inv.pin p (List.mem_append_right _ (List.mem_cons_of_mem _ hp))).1) p2 G2
  cases found : codeAmong gpos pt0.toList with
  | none =>
    refine wpAny_genexprCodeX hcode (codeAt.code atP triples) (codeAt.tab atP) found fun c' h' tk grown ge lt isCode _ tab _ => ?_
    obtain ⟨o1, vs, f1, tf, fl, tg, inF, tx, tt, op, _, _, _, _, _, _, _, _, _, htr, _⟩ := isCode
    exact onward _ h' tk _ grown (Nat.le_trans ge (Nat.le_of_lt lt)) tab.2 ⟨_, rfl⟩ htr
  | some cv =>
    refine wpAny_genexprCode_hit hcode (codeAt.code atP triples) found ?_
    exact onward cv s2.heap s2.toks pt0 (Heap.ExtBut.refl _ _) (Nat.le_refl _) atP ⟨#[], by simp⟩ triples
end
end Gn

set_option Elab.async false
set_option linter.all false
set_option maxRecDepth 100000
set_option maxHeartbeats 3200000
/-! Gn5: all, any, tuple of a generator -/
namespace Gn
open PySem PySem.Spec PyProof.Rows L2 Sa
section
variable {X Xg : Cx} {pins : Pins} {σ : L2.St} {J : It} {g : TG} {tt : TT} {te : TE} {vs : List Nat} {H4 : Hp} {a : Addr} {s5 : Shared} {fp : List Addr} {tn : Nat → Heap → Prop} {gob : Obj} {gi : Nat}
/-- a wake in A -/
def Wakes (Xg : Cx) (σw : L2.St) (fp : List Addr) (tn : Nat → Heap → Prop) (gp : Addr × Obj) (gi : Nat) (A0 A : Around) : Prop :=
  ∀ (Pn : Pins → List V → Prop) (Yv : NX → List V → V → Hp → Prop) (Qe : NX) (n : Nat) (ps : Pins) (ys : List V) (s : Shared) (Q : Option Value → Shared → Prop) (E : Value → Shared → Prop), GT Xg σw fp tn gp Pn Yv Qe A0 gi n ps ys s →
    (∀ m ps ys y v H i Nx s', n = m + 1 → ys.length < sizeLine → RelV y v → (∀ p ∈ ps, s.heap.get? p.1 = some p.2) → Pn ps ys → GG Xg σw fp tn gp ps i H s' → Yv Nx ys y H →
      (Nx (ys ++ [y]) H → ∀ ps' s'', Pn ps' (ys ++ [y]) → GG Xg σw fp tn gp ps' i H s'' → s''.gens = s'.gens → GT Xg σw fp tn gp Pn Yv Qe A0 gi m ps' (ys ++ [y]) s'') → Q (some v) s') →
    (∀ ps ys H s', (∀ p ∈ ps, s.heap.get? p.1 = some p.2) → Pn ps ys → Inv Xg (gp :: ps) σw H s' → Qe ys H → Q none s') → wpAny (model Xg.prog Xg.w) A (pyNext (.ref gp.1)) Q E s
theorem Wakes.up {σw : L2.St} {gp : Addr × Obj} {A0 A : Around} (w : Wakes Xg σw fp tn gp gi A0 A.in1) : Wakes Xg σw fp tn gp gi A0 A :=
  fun Pn Yv Qe n ps ys s Q E st i d => wpAny_of_in1 (w Pn Yv Qe n ps ys s Q E st i d)
theorem Src.wakes (D : Src X pins σ J g tt te vs H4 a s5 Xg fp tn gob gi) (hh : X.A.handled = none) (room : X.A.depth < recursionLimit) : Wakes Xg (wipe σ vs) fp tn (a, gob) gi X.A.in4 X.A.in4 :=
  fun Pn Yv Qe n ps ys s Q E st i d => next_GT (A := X.A.in4) hh room D.isg st i d
/-! all, any -/
def yAll (b0 : Bool) (Qs : Hp → Prop) : NX → List V → V → Hp → Prop := fun Nx ys y H => ∃ b, y = .bl b ∧ if b = b0 then Nx (ys ++ [y]) H else Qs H
theorem all_loop {σw : L2.St} {gp : Addr × Obj} {A0 A : Around} {R : Result → Shared → Prop} {Qs : Hp → Prop} {Qe : NX} (W : Wakes Xg σw fp tn gp gi A0 A.in1)
    (yes : ∀ ys H s', Inv Xg [gp] σw H s' → Qe ys H → R (.ok (.ret (.bool true))) s') (no : ∀ H s', Inv Xg [gp] σw H s' → Qs H → R (.ok (.ret (.bool false))) s') :
    ∀ (n : Nat) (ps : Pins) (ys : List V) (s : Shared), GT Xg σw fp tn gp (fun ps _ => ps = []) (yAll true Qs) Qe A0 gi n ps ys s → codeAny (model Xg.prog Xg.w) A (.builtin "all.loop" ⟨[.ref gp.1], []⟩) R s := by
  intro n
  induction n with
  | zero =>
    intro ps ys s st
    have := st.1; have := st.2.1
    omega
  | succ n ih =>
    intro ps ys s st
    refine codeAny_builtin F.entry_all_loop ?_; rw [Around.under_plainId F.plain_all_loop _]
    show wpAny _ A.in1 (pyNext (.ref gp.1) >>= _) _ _ s
    refine wpAny_bind (W _ _ _ _ _ _ _ _ _ st (fun m ps ys y v H i Nx s' em sm rv hse hp G yv kap => ?_) fun ps ys H s' hse hp I q => ?_)
    · cases em; subst hp
      obtain ⟨b, rfl, yv⟩ := yv
      cases (show v = Value.bool b from rv)
      refine wpAny_bind (wpAny_holding (wpAny_truthy_bool ?_)); refine wpAny_bind (wpAny_letGo ?_)
      cases b with
      | true =>
        rw [if_pos rfl] at yv ⊢
        exact wpAny_pure ⟨plainId_quiet F.plain_all_loop _, ih [] (ys ++ [.bl true]) s' (kap yv [] s' rfl G rfl)⟩
      | false =>
        rw [if_neg (by decide)] at yv ⊢
        exact wpAny_bind (wpAny_rule (wpAny_pure (no H s' G.inv yv)))
    · subst hp
      exact wpAny_bind (wpAny_rule (wpAny_pure (yes ys H s' I q)))
theorem any_loop {σw : L2.St} {gp : Addr × Obj} {A0 A : Around} {R : Result → Shared → Prop} {Qs : Hp → Prop} {Qe : NX} (W : Wakes Xg σw fp tn gp gi A0 A.in1)
    (no : ∀ ys H s', Inv Xg [gp] σw H s' → Qe ys H → R (.ok (.ret (.bool false))) s') (yes : ∀ H s', Inv Xg [gp] σw H s' → Qs H → R (.ok (.ret (.bool true))) s') :
    ∀ (n : Nat) (ps : Pins) (ys : List V) (s : Shared), GT Xg σw fp tn gp (fun ps _ => ps = []) (yAll false Qs) Qe A0 gi n ps ys s → codeAny (model Xg.prog Xg.w) A (.builtin "any.loop" ⟨[.ref gp.1], []⟩) R s := by
  intro n
  induction n with
  | zero =>
    intro ps ys s st
    have := st.1; have := st.2.1
    omega
  | succ n ih =>
    intro ps ys s st
    refine codeAny_builtin F.entry_any_loop ?_; rw [Around.under_plainId F.plain_any_loop _]
    show wpAny _ A.in1 (pyNext (.ref gp.1) >>= _) _ _ s
    refine wpAny_bind (W _ _ _ _ _ _ _ _ _ st (fun m ps ys y v H i Nx s' em sm rv hse hp G yv kap => ?_) fun ps ys H s' hse hp I q => ?_)
    · cases em; subst hp
      obtain ⟨b, rfl, yv⟩ := yv
      cases (show v = Value.bool b from rv)
      refine wpAny_bind (wpAny_holding (wpAny_truthy_bool ?_)); refine wpAny_bind (wpAny_letGo ?_)
      cases b with
      | false =>
        rw [if_pos rfl] at yv; rw [if_neg (by decide)]
        exact wpAny_pure ⟨plainId_quiet F.plain_any_loop _, ih [] (ys ++ [.bl false]) s' (kap yv [] s' rfl G rfl)⟩
      | true =>
        rw [if_neg (by decide)] at yv; rw [if_pos rfl]
        exact wpAny_bind (wpAny_rule (wpAny_pure (yes H s' G.inv yv)))
    · subst hp
      exact wpAny_bind (wpAny_rule (wpAny_pure (no ys H s' I q)))
end
end Gn

set_option Elab.async false
set_option linter.all false
set_option maxRecDepth 100000
set_option maxHeartbeats 3200000
/-! Gn6: the list that a generator fills; tuple(..) -/
namespace Gn
open PySem PySem.Spec PyProof.Rows L2 Sa
section
variable {X Xg : Cx} {pins : Pins} {σ : L2.St} {J : It} {g : TG} {tt : TT} {te : TE} {vs : List Nat} {H4 : Hp} {a : Addr} {s5 : Shared} {fp : List Addr} {tn : Nat → Heap → Prop} {gob : Obj} {gi : Nat}
/-- the consumer's list holds what came -/
def pLst (S : Addr) : Pins → List V → Prop := fun ps ys => ∃ acc c, ps = [(S, lstObj acc c)] ∧ Vals ys acc.toList
def yMore : NX → List V → V → Hp → Prop := fun Nx ys y H => Nx (ys ++ [y]) H
theorem fill_loop {σw : L2.St} {gp : Addr × Obj} {A0 A : Around} {R : Result → Shared → Prop} {Qe : NX} {S : Addr} {res : Value} (W : Wakes Xg σw fp tn gp gi A0 A.in1) (keep : ∀ i h h', tn i h → (∀ b ∈ fp, ∀ o, h.get? b = some o → h'.get? b = some o) → tn i h')
    (hpn : Xg.pn = []) (hg : gp.1 ≠ S) (old : Xg.s_0.heap.objs.size ≤ S)
    (fin : ∀ acc c ys H s', Inv Xg (gp :: [(S, lstObj acc c)]) σw H s' → Vals ys acc.toList → Qe ys H → R (.ok (.ret res)) s') :
    ∀ (n : Nat) (ps : Pins) (ys : List V) (s : Shared), GT Xg σw fp tn gp (pLst S) yMore Qe A0 gi n ps ys s → codeAny (model Xg.prog Xg.w) A (.builtin "list.extend.loop" ⟨[.ref S, .ref gp.1, res], []⟩) R s := by
  intro n
  induction n with
  | zero =>
    intro ps ys s st
    have := st.1; have := st.2.1
    omega
  | succ n ih =>
    intro ps ys s st
    refine codeAny_builtin F.entry_extend_loop ?_; rw [Around.under_plainId F.plain_extend_loop _]
    show wpAny _ A.in1 (pyNext (.ref gp.1) >>= _) _ _ s
    refine wpAny_bind (W _ _ _ _ _ _ _ _ _ st (fun m ps ys y v H i Nx s' em sm rv hse hp G yv kap => ?_) fun ps ys H s' hse hp I q => ?_)
    · cases em
      obtain ⟨acc, c, rfl, rel⟩ := hp
      have at1 : s'.heap.get? S = some (lstObj acc c) := G.at
      have len : ys.length = acc.size := by rw [rel.length, Array.length_toList]
      show wpAny _ A.in1 (updateSeq S (·.push v) >>= _) _ _ _
      refine wpAny_bind (wpAny_updateSeq at1 rfl (wpAny_pure ⟨plainId_quiet F.plain_extend_loop _, ?_⟩) (by omega) (by show (acc.push v).size ≤ sizeLine + 1; rw [Array.size_push]; omega))
      have at2 := Heap.get?_update_self (Obj.mapSeq (·.push v)) at1 rfl
      obtain ⟨c2, e2⟩ : ∃ c2, (Obj.mapSeq (·.push v) (lstObj acc c)) = lstObj (acc.push v) c2 := ⟨_, rfl⟩
      have G2 : GG Xg σw fp tn gp [(S, lstObj (acc.push v) c2)] i H { s' with heap := s'.heap.update S (Obj.mapSeq (·.push v)) } :=
        GG.write (t := s'.toks) keep G hpn hg (fun p hp => nomatch hp) old (fun b u hb e => (Heap.get?_update_other _ _ (Ne.symm hb)).trans e) (by rw [← e2]; exact at2) (fun v z => by cases z)
      exact ih _ (ys ++ [y]) _ (kap yv _ _ ⟨acc.push v, c2, rfl, by rw [Array.toList_push]; exact rel.append (.cons rv .nil)⟩ G2 rfl)
    · obtain ⟨acc, c, rfl, rel⟩ := hp
      exact wpAny_pure (fin acc c ys H s' I rel q)
/-- collect: all that the generator gives, as a list of values -/
theorem collectG {A : Around} {Qe : NX} {E : Value → Shared → Prop} {Q : List Value → Shared → Prop} {W : Nat → Nat → List V → Hp → Prop} (D : Src X pins σ J g tt te vs H4 a s5 Xg fp tn gob gi) (K : Wakes Xg (wipe σ vs) fp tn (a, gob) gi X.A.in4 A.in1)
    (turns : Turns J g tt te vs (wipe σ vs) yMore Qe W) (hm : ∃ m, W 0 m [] H4)
    (q : ∀ ys us H s', Inv X pins σ H s' → Vals ys us → Qe ys H → Q us s') : wpAny (model Xg.prog Xg.w) A (collect (.ref a)) Q E s5 := by
  have isG : s5.heap.IsGen a gi := D.isg _ (D.G0.inv.pin (a, gob) (List.mem_append_right _ List.mem_cons_self)).1
  have ty : ∀ {h : Heap} {t : Nat}, (∀ b u, s5.heap.get? b = some u → h.get? b = some u) → Shared.TypeIs { s5 with heap := h, toks := t } (.ref a) "generator" := fun k => (isG.keeps k).typeIs
  have nS : s5.heap.objs.size ≠ a := Nat.ne_of_gt D.alt
  unfold collect
  refine wpAny_bind (wpAny_runValue (codeAny_builtin F.entry_proto_collect ?_)); rw [Around.under_plainId F.plain_proto_collect _]
  show wpAny _ A.in1 (newList [] >>= fun l => again (.builtin "list.__iadd__" ⟨[l, .ref a], []⟩)) _ _ s5
  refine wpAny_bind (wpAny_newObj_type (wpAny_pure ⟨plainId_quiet F.plain_list_iadd _, codeAny_builtin F.entry_list_iadd ?_⟩)); rw [Around.under_plainId F.plain_list_iadd _]
  let h1 := s5.heap.push { cls := .type "list", data := .seq ([] : List Value).toArray }
  have k1 : ∀ b u, s5.heap.get? b = some u → h1.get? b = some u := fun b u e => Heap.get?_push_of_some _ e
  have ty1 := ty (h := h1) (t := s5.toks) k1
  show wpAny _ A.in1 (Builtin.List.listExtendWith (.ref s5.heap.objs.size) (.ref a) (.ref s5.heap.objs.size)) _ _ _
  unfold Builtin.List.listExtendWith
  refine wpAny_bind (wpAny_typeOf ty1 ?_)
  have n1 : Builtin.List.listSameRef (.ref s5.heap.objs.size) (.ref a) = false := by simp [Builtin.List.listSameRef, nS]
  simp only [n1, (by decide : (Value.type "generator" == Value.type "list") = false), (by decide : (Value.type "generator" == Value.type "tuple") = false), Bool.or_false, Bool.false_eq_true, if_false]
  refine wpAny_bind (wpAny_pyIter_gen (isG.keeps k1) (wpAny_bind (wpAny_holding ?_)))
  unfold Builtin.List.listLengthHint
  refine wpAny_bind (wpAny_specialOf ty1 F.gen_no_len ?_)
  show wpAny _ A.in1 (specialOf (Value.ref a) (Str.ofString "__length_hint__") >>= _) _ _ _
  refine wpAny_bind (wpAny_specialOf ty1 F.gen_no_hint (wpAny_pure ?_))
  show wpAny _ A.in1 (rule "list.extend.makes-room" >>= fun _ => Builtin.List.listTouch (.ref s5.heap.objs.size) >>= fun _ =>
    again (.builtin "list.extend.loop" ⟨[.ref s5.heap.objs.size, .ref a, .ref s5.heap.objs.size], []⟩)) _ _ _
  refine wpAny_bind (wpAny_rule (wpAny_bind ?_))
  have a1 : h1.get? s5.heap.objs.size = some { cls := .type "list", data := .seq ([] : List Value).toArray } := Heap.get?_push_size _ rfl
  show wpAny _ A.in1 (updateSeq s5.heap.objs.size (·.push .none) >>= fun _ => updateSeq s5.heap.objs.size (·.pop)) _ _ _
  refine wpAny_bind (wpAny_updateSeq a1 rfl ?_)
  have a2 := Heap.get?_update_self (Obj.mapSeq (·.push Value.none)) a1 rfl
  refine wpAny_updateSeq a2 rfl ?_
  have a3 := Heap.get?_update_self (Obj.mapSeq (·.pop)) a2 rfl
  have kk : ∀ b u, s5.heap.get? b = some u → ((h1.update s5.heap.objs.size (Obj.mapSeq (·.push Value.none))).update s5.heap.objs.size (Obj.mapSeq (·.pop))).get? b = some u := fun b u e => by
    have nb : s5.heap.objs.size ≠ b := Nat.ne_of_gt (Heap.lt_size e)
    exact (Heap.get?_update_other _ _ nb).trans ((Heap.get?_update_other _ _ nb).trans (k1 b u e))
  obtain ⟨c3, e3⟩ : ∃ c3, Obj.mapSeq (·.pop) (Obj.mapSeq (·.push Value.none) ({ cls := .type "list", data := .seq ([] : List Value).toArray } : Obj)) = lstObj #[] c3 := ⟨_, rfl⟩
  have G3 := D.G0.lay (obj := lstObj #[] c3) (t := s5.toks) D.keep (fun b hb => Nat.lt_of_lt_of_le (D.lo b hb) D.sz) kk (by rw [← e3]; exact a3) (Nat.le_refl _) (fun v z => by cases z)
  refine wpAny_pure ⟨plainId_quiet F.plain_extend_loop _, ?_⟩
  refine fill_loop (S := s5.heap.objs.size) (Qe := Qe) K D.keep D.pn nS.symm D.sz (fun acc c ys H s' I rel qe => ?_) _ _ _ _ (D.start (pLst s5.heap.objs.size) yMore Qe W turns hm _ _ ⟨#[], c3, rfl, .nil⟩ G3 rfl)
  show wpAny _ A (load s5.heap.objs.size >>= _) _ _ s'
  refine wpAny_bind (wpAny_load (I.pin (s5.heap.objs.size, lstObj acc c) (List.mem_append_right _ (List.mem_cons_of_mem _ List.mem_cons_self))).1 ?_)
  exact wpAny_pure (q ys acc.toList H s' (D.back _ H s' I) rel qe)
/-- tuple(generator) -/
theorem tupleG {A : Around} {Qe : NX} {E : Value → Shared → Prop} {Q : Value → Shared → Prop} {W : Nat → Nat → List V → Hp → Prop} (D : Src X pins σ J g tt te vs H4 a s5 Xg fp tn gob gi) (K : Wakes Xg (wipe σ vs) fp tn (a, gob) gi X.A.in4 A.in1.in1.in1)
    (turns : Turns J g tt te vs (wipe σ vs) yMore Qe W) (hm : ∃ m, W 0 m [] H4) (few : ∀ ys H, Qe ys H → ys.length ≤ sizeLine)
    (q : ∀ ys us H s', Inv X pins σ H s' → Vals ys us → Qe ys H → Q (.ref s'.heap.objs.size) { s' with heap := s'.heap.push { cls := .type "tuple", data := .seq us.toArray } }) : wpAny (model Xg.prog Xg.w) A (call (.type "tuple") [.ref a]) Q E s5 := by
  have isG : s5.heap.IsGen a gi := D.isg _ (D.G0.inv.pin (a, gob) (List.mem_append_right _ List.mem_cons_self)).1
  refine callType_codes (Q₁ := fun obj s1 => s1.TypeIs obj "tuple" ∧ Q obj s1) F.called_tuple (F.typeCall_tuple_1 _) F.entry_object_init ?_ fun obj s1 z => ?_
  · refine codeAny_of_tree ?_
    show wpAny _ A.in1.in1 (do checkBuiltinCall "tuple.__new__" ⟨[.type "tuple", .ref a], []⟩; again (.builtin "tuple.__new__" ⟨[.type "tuple", .ref a], []⟩)) _ _ s5
    refine wpAny_bind (wpAny_of_eq (F.newCall_tuple_1 _) (wpAny_pure ⟨plainId_quiet F.plain_tuple_new _, codeAny_builtin F.entry_tuple_new ?_⟩)); rw [Around.under_plainId F.plain_tuple_new _]
    have z1 := sub_tuple_self; have z2 := init_tuple_lookup; have z3 := madeHere_tuple
    have z4 := isG.typeIs
    wp_walk using wpAny_typeOf z4, collectG D K turns hm
    intro ys us H s' I rel qe
    show wpAny _ _ (Builtin.Tuple.tupleExact us.toArray >>= fun v => ret v) _ _ _
    unfold Builtin.Tuple.tupleExact
    refine wpAny_bind (wpAny_newObj_type (wpAny_pure ?_) (by show us.toArray.size ≤ sizeLine; rw [List.size_toArray, ← rel.length]; exact few ys H qe))
    exact ⟨⟨_, Heap.get?_push_size _ rfl, rfl⟩, q ys us H s' I rel qe⟩
  · exact ⟨z.1, F.args_object_init_2 obj _, object_init_meets F.called_tuple.init.lookup F.called_tuple.made (by decide) _ _ A.in1 _ s1 ⟨z.1, rfl, z.2⟩⟩
end
end Gn

set_option Elab.async false
set_option linter.all false
set_option maxRecDepth 100000
set_option maxHeartbeats 3200000
/-! Gn7: the rules of all, any, tuple of a generator expression -/
namespace Gn
open PySem PySem.Spec PyProof.Rows L2 Sa
/-- what the consumer wants of the generator: U by the iterator, the slots, the heap -/
def tGx (P : Addr) (wi : TI) (U : It → L2.St → Hp → VK → Prop) : TE := fun σ H Q => wi σ H fun J H1 => Tb H1 P ∧ ∀ H2, TbTo P H1 H2 → U J σ H2 Q
def uAll (b0 : Bool) (g : TG) (tt : TT) (te : TE) (vs : List Nat) : It → L2.St → Hp → VK → Prop := fun J σ H Q => ∃ W, Turns J g tt te vs (wipe σ vs) (yAll b0 (Q (.bl (!b0)))) (fun _ H => Q (.bl b0) H) W ∧ ∃ m, W 0 m [] H
def uTup (g : TG) (tt : TT) (te : TE) (vs : List Nat) : It → L2.St → Hp → VK → Prop := fun J σ H Q => ∃ W, Turns J g tt te vs (wipe σ vs) yMore (fun ys H => ys.length ≤ sizeLine ∧ ∀ T, H T = none → Q (.ref T) (upd H T (.tup ys))) W ∧ ∃ m, W 0 m [] H
section
variable {X : Cx} {c P : Addr} {elt tg iter : Expr} {ifs : List Expr} {gpos p pos : Pos} {scope : Scope} {own : List (Str × Nat)} {wi : TI} {g : TG} {tt : TT} {te : TE} {k : Nat}
/-- the frame's parts, whatever frame -/
abbrev InG (X : Cx) (scope : Scope) (k : Nat) (J : Cx → Prop) : Prop :=
  ∀ (s : Shared) (H : Hp) (C : Addr) (cl : List (Str × Addr)) (code : Value) (fp : List Addr) (A' : Around), Room k A' → Free A' → J (gx X s H (genEnv scope cl C code builtinsNs X.env) fp A')
theorem pe_allX {nm : Str} {b0 : Bool} (hb : nm = "all" ∧ b0 = true ∨ nm = "any" ∧ b0 = false) (hr : Room (k + 1) X.A) (hf : Free X.A) (hc : X.calm = true) (hN : X.N.Nodup) (hgl : Gl X nm) (hm : X.mg nm = none) (TB : LamX.TabB X.base X.mg c P) (hcode : X.env.code = .ref c) (S : GSc scope) (ok : BlkOk X.N X.env.scope scope own) (hi : PI X tg iter wi)
    (hg : InG X scope k fun Y => PG Y tg g) (ht : InG X scope k fun Y => PTs Y ifs tt) (he : InG X scope k fun Y => PE Y elt te) (hs : ∀ v, genFold iter X.env v = pure v)
    (hz : starEach [gexp elt tg iter ifs scope gpos] X.env = (false, eval (gexp elt tg iter ifs scope gpos) X.env) :: starEach [] X.env := by rfl) :
    PE X (.Call (.Name nm p) [gexp elt tg iter ifs scope gpos] [] pos) (tGx P wi (uAll b0 g tt te (own.map (·.2)))) := by
  refine ⟨fun pins s σ H Q I h => ?_⟩
  rcases hb with ⟨rfl, rfl⟩ | ⟨rfl, rfl⟩
  · refine wpAny_Call_Name_kw (ld_blt (u := .builtin "all") I hgl hm (by decide +kernel) ?_)
    refine PyProof.Rows.callWith_builtin1 ?_ hz (by rfl); rw [hz]
    show wpAny _ _ (spliced ((false, eval (gexp elt tg iter ifs scope gpos) X.env) :: backTo pos (starEach [] X.env))) _ _ s
    refine Calls.spliced_cons (gen_make (R := fun J H2 => uAll true g tt te (own.map fun q : Str × Nat => q.2) J σ H2 Q) hr hf hc hN TB hcode S ok hi hg ht he hs I h fun J H4 a s5 Xg fp tn gob gi ⟨W, turns, hm⟩ D => Calls.spliced_nil ?_)
    have isG : s5.heap.IsGen a gi := D.isg _ (D.G0.inv.pin (a, gob) (List.mem_append_right _ List.mem_cons_self)).1
    refine call_function_tree F.kind_all F.plain_all F.entry_all (F.args_all1 _) ?_
    unfold Builtin.«all»
    refine wpAny_bind (m := oneArg "all" _) (wpAny_pure (wpAny_bind (wpAny_pyIter_gen isG (wpAny_pure ⟨plainId_quiet F.plain_all_loop _, ?_⟩))))
    have go := all_loop (A := X.A) (R := fun r s' => match r with | .ok (.ret u) => EP X pins σ Q u s' | _ => False) (Qs := Q (.bl false)) (Qe := fun _ H => Q (.bl true) H) ((((D.wakes hr.hd hr.depth).up).up).up)
      (fun ys H s' I' q => ⟨.bl true, H, D.back [] H s' I', rfl, q⟩) (fun H s' I' q => ⟨.bl false, H, D.back [] H s' I', rfl, q⟩) _ _ _ _ (D.start _ _ _ W turns hm [] s5 rfl D.G0 rfl)
    rw [D.prog, D.w] at go
    refine codeAny_mono go fun r s' q => ?_
    cases r with
    | error _ => exact q.elim
    | ok fl => cases fl with
      | ret u => exact q
      | next => exact q.elim
      | brk => exact q.elim
      | cont => exact q.elim
  · refine wpAny_Call_Name_kw (ld_blt (u := .builtin "any") I hgl hm (by decide +kernel) ?_)
    refine PyProof.Rows.callWith_builtin1 ?_ hz (by rfl); rw [hz]
    show wpAny _ _ (spliced ((false, eval (gexp elt tg iter ifs scope gpos) X.env) :: backTo pos (starEach [] X.env))) _ _ s
    refine Calls.spliced_cons (gen_make (R := fun J H2 => uAll false g tt te (own.map fun q : Str × Nat => q.2) J σ H2 Q) hr hf hc hN TB hcode S ok hi hg ht he hs I h fun J H4 a s5 Xg fp tn gob gi ⟨W, turns, hm⟩ D => Calls.spliced_nil ?_)
    have isG : s5.heap.IsGen a gi := D.isg _ (D.G0.inv.pin (a, gob) (List.mem_append_right _ List.mem_cons_self)).1
    refine call_function_tree F.kind_any F.plain_any F.entry_any (F.args_any1 _) ?_
    unfold Builtin.«any»
    refine wpAny_bind (m := oneArg "any" _) (wpAny_pure (wpAny_bind (wpAny_pyIter_gen isG (wpAny_pure ⟨plainId_quiet F.plain_any_loop _, ?_⟩))))
    have go := any_loop (A := X.A) (R := fun r s' => match r with | .ok (.ret u) => EP X pins σ Q u s' | _ => False) (Qs := Q (.bl true)) (Qe := fun _ H => Q (.bl false) H) ((((D.wakes hr.hd hr.depth).up).up).up)
      (fun ys H s' I' q => ⟨.bl false, H, D.back [] H s' I', rfl, q⟩) (fun H s' I' q => ⟨.bl true, H, D.back [] H s' I', rfl, q⟩) _ _ _ _ (D.start _ _ _ W turns hm [] s5 rfl D.G0 rfl)
    rw [D.prog, D.w] at go
    refine codeAny_mono go fun r s' q => ?_
    cases r with
    | error _ => exact q.elim
    | ok fl => cases fl with
      | ret u => exact q
      | next => exact q.elim
      | brk => exact q.elim
      | cont => exact q.elim
theorem pe_tupX (hr : Room (k + 1) X.A) (hf : Free X.A) (hc : X.calm = true) (hN : X.N.Nodup) (hgl : Gl X "tuple") (hm : X.mg "tuple" = none) (TB : LamX.TabB X.base X.mg c P) (hcode : X.env.code = .ref c) (S : GSc scope) (ok : BlkOk X.N X.env.scope scope own) (hi : PI X tg iter wi)
    (hg : InG X scope k fun Y => PG Y tg g) (ht : InG X scope k fun Y => PTs Y ifs tt) (he : InG X scope k fun Y => PE Y elt te) (hs : ∀ v, genFold iter X.env v = pure v)
    (hz : starEach [gexp elt tg iter ifs scope gpos] X.env = (false, eval (gexp elt tg iter ifs scope gpos) X.env) :: starEach [] X.env := by rfl) :
    PE X (.Call (.Name "tuple" p) [gexp elt tg iter ifs scope gpos] [] pos) (tGx P wi (uTup g tt te (own.map (·.2)))) := by
  refine ⟨fun pins s σ H Q I h => ?_⟩
  refine wpAny_Call_Name_kw (ld_blt I hgl hm PyProof.Rows.boot_tuple ?_)
  refine PyProof.Rows.callWith_type1 ?_ hz (by rfl); rw [hz]
  show wpAny _ _ (spliced ((false, eval (gexp elt tg iter ifs scope gpos) X.env) :: backTo pos (starEach [] X.env))) _ _ s
  refine Calls.spliced_cons (gen_make (R := fun J H2 => uTup g tt te (own.map fun q : Str × Nat => q.2) J σ H2 Q) hr hf hc hN TB hcode S ok hi hg ht he hs I h fun J H4 a s5 Xg fp tn gob gi ⟨W, turns, hm⟩ D => Calls.spliced_nil ?_)
  have go := tupleG (A := X.A) (E := X.xe) (Q := EP X pins σ Q) D ((D.wakes hr.hd hr.depth).up) turns hm (fun ys H q => q.1) fun ys us H s' J' rel q => ?_
  · rw [D.prog, D.w] at go
    exact go
  · have fresh : H s'.heap.objs.size = none := J'.hok.fresh (Nat.le_refl _)
    refine ⟨.ref s'.heap.objs.size, upd H s'.heap.objs.size (.tup ys), J'.laid (t' := s'.toks) (fun d u e => Heap.get?_push_of_some _ e) (Nat.le_refl _) ?_, rfl, q.2 _ fresh⟩
    exact ⟨q.1, us, rel, ⟨_, Heap.get?_push_size _ rfl, rfl, _, rfl⟩⟩
end
end Gn

set_option Elab.async false
set_option linter.all false
set_option maxRecDepth 100000
set_option maxHeartbeats 3200000
/-! Gn11: max of a generator that gives ints -/
namespace Gn
open PySem PySem.Spec PyProof.Rows L2 Sa
/-- what max's list holds behind ys: nothing, or the greatest of them, twice -/
def Best (ys : List V) (arr : Array Value) : Prop := (ys = [] ∧ arr = #[]) ∨ ∃ (is : List Int) (m : Int) (t : Tok), ys = is.map V.int ∧ arr = #[.int m t, .int m t] ∧ m ∈ is ∧ ∀ i ∈ is, i ≤ m
def pMax (S : Addr) : Pins → List V → Prop := fun ps ys => ∃ arr c, ps = [(S, lstObj arr c)] ∧ Best ys arr
def yMax : NX → List V → V → Hp → Prop := fun Nx ys y H => (∃ i, y = .int i) ∧ Nx (ys ++ [y]) H
theorem Best.first (i : Int) (t : Tok) : Best [.int i] #[.int i t, .int i t] := .inr ⟨[i], i, t, rfl, rfl, List.mem_singleton.mpr rfl, fun j hj => by rw [List.mem_singleton.mp hj]; exact Int.le_refl _⟩
theorem Best.greater {is : List Int} {m i : Int} (t : Tok) (top : ∀ j ∈ is, j ≤ m) (gt : m < i) : Best (is.map V.int ++ [.int i]) #[.int i t, .int i t] :=
  .inr ⟨is ++ [i], i, t, by simp, rfl, by simp, fun j hj => by
    rcases List.mem_append.mp hj with h | h
    · have := top j h; omega
    · rw [List.mem_singleton.mp h]; exact Int.le_refl _⟩
theorem Best.kept {is : List Int} {m i : Int} {t : Tok} (mem : m ∈ is) (top : ∀ j ∈ is, j ≤ m) (le : i ≤ m) : Best (is.map V.int ++ [.int i]) #[.int m t, .int m t] :=
  .inr ⟨is ++ [i], m, t, by simp, rfl, List.mem_append_left _ mem, fun j hj => by
    rcases List.mem_append.mp hj with h | h
    · exact top j h
    · rw [List.mem_singleton.mp h]; exact le⟩
section
variable {Xg : Cx} {fp : List Addr} {tn : Nat → Heap → Prop} {gi : Nat}
theorem max_loop {σw : L2.St} {gp : Addr × Obj} {A0 A : Around} {R : Result → Shared → Prop} {Qe : NX} {S : Addr} (W : Wakes Xg σw fp tn gp gi A0 A.in1) (keep : ∀ i h h', tn i h → (∀ b ∈ fp, ∀ o, h.get? b = some o → h'.get? b = some o) → tn i h')
    (hpn : Xg.pn = []) (hg : gp.1 ≠ S) (old : Xg.s_0.heap.objs.size ≤ S) (some' : ∀ H, ¬ Qe [] H)
    (fin : ∀ (is : List Int) (m : Int) (t : Tok) (c : Nat) (ys : List V) (H : Hp) (s' : Shared), Inv Xg (gp :: [(S, lstObj #[] c)]) σw H s' → ys = is.map V.int → m ∈ is → (∀ j ∈ is, j ≤ m) → Qe ys H → R (.ok (.ret (.int m t))) s') :
    ∀ (n : Nat) (ps : Pins) (ys : List V) (s : Shared), GT Xg σw fp tn gp (pMax S) yMax Qe A0 gi n ps ys s → codeAny (model Xg.prog Xg.w) A (.builtin "max.loop" ⟨[.ref gp.1, .none, .ref S], []⟩) R s := by
  intro n
  induction n with
  | zero =>
    intro ps ys s st
    have := st.1
    have := st.2.1
    omega
  | succ n ih =>
    intro ps ys s st
    obtain ⟨arr0, c0, e0, best0⟩ := st.2.2.1
    have at0 : s.heap.get? S = some (lstObj arr0 c0) := by
      obtain ⟨_, _, _, i, H, gs, G, _⟩ := st
      rw [e0] at G
      exact G.at
    refine codeAny_builtin F.entry_max_loop ?_
    rw [Around.under_plainId F.plain_max_loop _]
    show wpAny _ A.in1 (seqItems? (.ref S) >>= _) _ _ s
    refine wpAny_bind (wpAny_seqItems at0 rfl ?_)
    refine wpAny_bind (wpAny_tryCatch (W _ _ _ _ _ _ _ _ _ st (fun m ps ys y v H i Nx s' em sm rv hse hp G yv kap => ?_) fun ps ys H s' hse hp I q => ?_))
    · cases em
      obtain ⟨arr, c, rfl, best⟩ := hp
      obtain ⟨⟨k, rfl⟩, nx⟩ := yv
      obtain ⟨t, rfl⟩ := rv
      cases Option.some.inj ((hse _ List.mem_cons_self).symm.trans at0)
      have few : arr0.size ≤ sizeLine := by
        rcases best with ⟨_, rfl⟩ | ⟨_, _, _, _, rfl, _⟩
        · exact Nat.zero_le _
        · exact (by decide : 2 ≤ sizeLine)
      -- on, the list holding what it should
      have again' : ∀ (s2 : Shared) (arr2 : Array Value) (c2 : Nat), Best (ys ++ [.int k]) arr2 → GG Xg σw fp tn gp [(S, lstObj arr2 c2)] i H s2 → s2.gens = s'.gens →
          codeAny (model Xg.prog Xg.w) A (.builtin "max.loop" ⟨[.ref gp.1, .none, .ref S], []⟩) R s2 := fun s2 arr2 c2 best2 G2 eg => ih _ (ys ++ [.int k]) s2 (kap nx _ s2 ⟨arr2, c2, rfl, best2⟩ G2 eg)
      have put : ∀ (f : Array Value → Array Value), f = (fun _ => #[Value.int k t, Value.int k t]) → Best (ys ++ [.int k]) #[.int k t, .int k t] → ∀ Q : Unit → Shared → Prop, (∀ s2, codeAny (model Xg.prog Xg.w) A (.builtin "max.loop" ⟨[.ref gp.1, .none, .ref S], []⟩) R s2 → Q () s2) →
          wpAny (model Xg.prog Xg.w) A.in1 (updateSeq S f) Q (fun e s' => R (.error e) s') s' := by
        rintro _ rfl best2 Q hQ
        refine wpAny_updateSeq G.at rfl (hQ _ ?_) few
        exact again' _ _ _ best2 (GG.write (t := s'.toks) keep G hpn hg (fun p no => (nomatch no)) old (fun b u hb e => (Heap.get?_update_other _ _ (Ne.symm hb)).trans e) (Heap.get?_update_self (Obj.mapSeq fun _ => #[Value.int k t, Value.int k t]) G.at rfl) (fun v z => by cases z)) rfl
      rcases best with ⟨rfl, rfl⟩ | ⟨is, m, u, rfl, rfl, mem, top⟩
      · exact wpAny_bind (wpAny_pure (wpAny_bind (put _ rfl (.first k t) _ fun s2 go => wpAny_pure ⟨plainId_quiet F.plain_max_loop _, go⟩)))
      · refine wpAny_bind (wpAny_pure (wpAny_bind (wpAny_tryCatch (wpAny_holding (wpAny_bind ?_)))))
        refine CmpOf.ints_gt (fun n : Nat => if n = 0 then k else m) (P := fun n v => (n = 0 ∧ v = .int k t) ∨ (n = 1 ∧ v = .int m u)) (fun n v hv => ?_) 0 1 _ _ _ _ _ (.inl ⟨rfl, rfl⟩) (.inr ⟨rfl, rfl⟩) ?_
        · rcases hv with ⟨rfl, rfl⟩ | ⟨rfl, rfl⟩
          · exact ⟨t, rfl⟩
          · exact ⟨u, rfl⟩
        refine wpAny_bind (wpAny_holding (wpAny_truthy_bool (wpAny_bind (wpAny_letGo (wpAny_pure ?_)))))
        by_cases gt : m < k
        · rw [if_pos (by simpa using gt)]
          exact wpAny_bind (put _ rfl (.greater t top gt) _ fun s2 go => wpAny_bind (wpAny_letGo (wpAny_pure ⟨plainId_quiet F.plain_max_loop _, go⟩)))
        · rw [if_neg (by simpa using gt)]
          exact wpAny_bind (wpAny_letGo (wpAny_pure ⟨plainId_quiet F.plain_max_loop _, again' _ _ _ (.kept mem top (by omega)) G rfl⟩))
    · obtain ⟨arr, c, rfl, best⟩ := hp
      cases Option.some.inj ((hse _ List.mem_cons_self).symm.trans at0)
      rcases best with ⟨rfl, rfl⟩ | ⟨is, m, u, rfl, rfl, mem, top⟩
      · exact absurd q (some' H)
      · have G : GG Xg σw [] (fun _ _ => True) gp [(S, lstObj #[.int m u, .int m u] c0)] 0 H s' := ⟨I, trivial, fun b no => (nomatch no), fun p _ no => (nomatch no)⟩
        have G2 := GG.write (t := s'.toks) (fun _ _ _ _ _ => trivial) G hpn hg (fun p no => (nomatch no)) old (h' := s'.heap.update S (Obj.mapSeq fun _ => #[])) (fun b x hb e => (Heap.get?_update_other _ _ (Ne.symm hb)).trans e) (Heap.get?_update_self (Obj.mapSeq fun _ => #[]) G.at rfl) (fun v z => by cases z)
        exact wpAny_bind (wpAny_updateSeq G.at rfl (wpAny_bind (wpAny_letGo (wpAny_pure (fin is m u _ _ H _ G2.inv rfl mem top q)))))
end
def uMax (g : TG) (tt : TT) (te : TE) (vs : List Nat) : It → L2.St → Hp → VK → Prop := fun J σ H Q => ∃ W, Turns J g tt te vs (wipe σ vs) yMax (fun ys H => ys ≠ [] ∧ ∀ (is : List Int) (m : Int), ys = is.map V.int → m ∈ is → (∀ j ∈ is, j ≤ m) → Q (.int m) H) W ∧ ∃ m, W 0 m [] H
section
variable {X : Cx} {c P : Addr} {elt tg iter : Expr} {ifs : List Expr} {gpos p pos : Pos} {scope : Scope} {own : List (Str × Nat)} {wi : TI} {g : TG} {tt : TT} {te : TE} {k : Nat}
theorem pe_maxX (hr : Room (k + 1) X.A) (hf : Free X.A) (hc : X.calm = true) (hN : X.N.Nodup) (hgl : Gl X "max") (hm : X.mg "max" = none) (TB : LamX.TabB X.base X.mg c P) (hcode : X.env.code = .ref c) (S : GSc scope) (ok : BlkOk X.N X.env.scope scope own) (hi : PI X tg iter wi)
    (hg : InG X scope k fun Y => PG Y tg g) (ht : InG X scope k fun Y => PTs Y ifs tt) (he : InG X scope k fun Y => PE Y elt te) (hs : ∀ v, genFold iter X.env v = pure v)
    (hz : starEach [gexp elt tg iter ifs scope gpos] X.env = (false, eval (gexp elt tg iter ifs scope gpos) X.env) :: starEach [] X.env := by rfl) :
    PE X (.Call (.Name "max" p) [gexp elt tg iter ifs scope gpos] [] pos) (tGx P wi (uMax g tt te (own.map (·.2)))) := by
  refine ⟨fun pins s σ H Q I h => ?_⟩
  refine wpAny_Call_Name_kw (ld_blt (u := .builtin "max") I hgl hm (by decide +kernel) (PyProof.Rows.callWith_builtin1 ?_ hz (by rfl)))
  rw [hz]
  refine Calls.spliced_cons (gen_make (R := fun J H2 => uMax g tt te (own.map fun q : Str × Nat => q.2) J σ H2 Q) hr hf hc hN TB hcode S ok hi hg ht he hs I h fun J H4 a s5 Xg fp tn gob gi ⟨W, turns, hm⟩ D => Calls.spliced_nil ?_)
  have isG : s5.heap.IsGen a gi := D.isg _ (D.G0.inv.pin (a, gob) (List.mem_append_right _ List.mem_cons_self)).1
  refine call_function_tree F.kind_max F.plain_max F.entry_max (F.args_max1 _) ?_
  refine wpAny_bind (wpAny_of_eq (show Builtin.Builtins.bindParams "max" ["key", "default"] 0 { } = pure [none, none] from rfl) (wpAny_bind (wpAny_pure (wpAny_bind (wpAny_pyIter_gen isG (wpAny_bind (wpAny_newList ?_)))))))
  have G1 := D.G0.lay (obj := lstObj #[] 0) (t := s5.toks) D.keep (fun b hb => Nat.lt_of_lt_of_le (D.lo b hb) D.sz) (fun _ _ e => Heap.get?_push_of_some _ e) (Heap.get?_push_size _ rfl) (Nat.le_refl _) (fun v z => by cases z)
  have go := max_loop (A := X.A) (R := fun r s' => match r with | .ok (.ret u) => EP X pins σ Q u s' | _ => False) (S := s5.heap.objs.size) ((((D.wakes hr.hd hr.depth).up).up).up) D.keep D.pn (Nat.ne_of_lt D.alt) D.sz (fun _ q => q.1 rfl)
    (fun is m t c ys H s' I' ey mem top q => ⟨.int m, H, D.back _ H s' I', ⟨t, rfl⟩, q.2 is m ey mem top⟩) (sizeLine + 1) _ _ _ (D.start (pMax s5.heap.objs.size) yMax _ W turns hm _ _ ⟨#[], 0, rfl, .inl ⟨rfl, rfl⟩⟩ G1 rfl)
  rw [D.prog, D.w] at go
  refine wpAny_pure ⟨plainId_quiet F.plain_max_loop _, codeAny_mono go fun r s' q => ?_⟩
  match r, q with
  | .ok (.ret u), q => exact q
end
end Gn

set_option Elab.async false
set_option linter.all false
set_option maxRecDepth 100000
set_option maxHeartbeats 3200000
/-! Gn9: sum of a generator -/
namespace Gn
open PySem PySem.Spec PyProof.Rows L2 Sa
/-- the worth of an int or a truth -/
def iOf : V → Option Int
  | .int i => some i
  | .bl b => some (b2i b)
  | _ => none
/-- the sum of such -/
def sumV : List V → Option Int
  | [] => some 0
  | v :: vs => (iOf v).bind fun i => (sumV vs).map (i + ·)
theorem sumV_snoc : ∀ {ys : List V} {y : V} {t i : Int}, sumV ys = some t → iOf y = some i → sumV (ys ++ [y]) = some (t + i)
  | [], y, t, i, h, e => by
    cases h
    show (iOf y).bind _ = _
    rw [e]
    simp [sumV]
  | v :: vs, y, t, i, h, e => by
    simp only [sumV, Option.bind_eq_some_iff, Option.map_eq_some_iff] at h
    obtain ⟨k, e1, u, e2, e3⟩ := h
    have ih := sumV_snoc e2 e
    show (iOf v).bind _ = _
    rw [e1]
    show (sumV (vs ++ [y])).map _ = _
    rw [ih, ← e3]
    simp [Int.add_assoc]
def ySum : NX → List V → V → Hp → Prop := fun Nx ys y H => (∃ i, iOf y = some i) ∧ Nx (ys ++ [y]) H
def pSum (S : Addr) : Pins → List V → Prop := fun ps ys => ∃ t tk c, ps = [(S, lstObj #[.int t tk] c)] ∧ sumV ys = some t
section
variable {X Xg : Cx} {pins : Pins} {σ : L2.St} {J : It} {g : TG} {tt : TT} {te : TE} {vs : List Nat} {H4 : Hp} {a : Addr} {s5 : Shared} {fp : List Addr} {tn : Nat → Heap → Prop} {gob : Obj} {gi : Nat}
theorem plain_add {A : Around} {i : Int} {t : Tok} {y : V} {v : Value} {b : Int} {Q : Value → Shared → Prop} {E : Value → Shared → Prop} {s : Shared} (r : RelV y v) (e : iOf y = some b) (q : ∀ u k, Q (.int (i + b) u) { s with toks := k }) : wpAny (model Xg.prog Xg.w) A (binaryOp .Add (.int i t) v) Q E s := by
  cases y with
  | int j =>
    obtain ⟨u, rfl⟩ := r
    cases e
    exact add_int (q _ _)
  | bl c =>
    cases r
    cases e
    exact add_int_bool (q _ _)
  | _ => cases e
theorem sum_loop {σw : L2.St} {gp : Addr × Obj} {A0 A : Around} {R : Result → Shared → Prop} {Qe : NX} {S : Addr} (W : Wakes Xg σw fp tn gp gi A0 A.in1) (keep : ∀ i h h', tn i h → (∀ b ∈ fp, ∀ o, h.get? b = some o → h'.get? b = some o) → tn i h')
    (hpn : Xg.pn = []) (hg : gp.1 ≠ S) (old : Xg.s_0.heap.objs.size ≤ S)
    (fin : ∀ t tk c ys H s', Inv Xg (gp :: [(S, lstObj #[.int t tk] c)]) σw H s' → sumV ys = some t → Qe ys H → R (.ok (.ret (.int t tk))) s') :
    ∀ (n : Nat) (stage : Int) (ps : Pins) (ys : List V) (s : Shared), stage = 0 ∨ stage = 2 → GT Xg σw fp tn gp (pSum S) ySum Qe A0 gi n ps ys s → codeAny (model Xg.prog Xg.w) A (.builtin "sum.loop" ⟨[.ref gp.1, .ref S, rawInt stage, rawInt 0], []⟩) R s := by
  intro n
  induction n with
  | zero =>
    intro stage ps ys s _ st
    have := st.1; have := st.2.1
    omega
  | succ n ih =>
    intro stage ps ys s hst st
    refine codeAny_builtin F.entry_sum_loop ?_; rw [Around.under_plainId F.plain_sum_loop _]
    obtain ⟨t0, tk0, c0, e0, _⟩ := st.2.2.1
    have at0 : s.heap.get? S = some (lstObj #[.int t0 tk0] c0) := by
      obtain ⟨_, _, _, i, H, gs, G, _⟩ := st
      rw [e0] at G
      exact G.at
    show wpAny _ A.in1 (seqItems? (.ref S) >>= _) _ _ s
    refine wpAny_bind (wpAny_seqItems at0 rfl ?_)
    show wpAny _ A.in1 (tryCatch (pyNext (.ref gp.1)) _ >>= _) _ _ s
    refine wpAny_bind (wpAny_tryCatch (W _ _ _ _ _ _ _ _ _ st (fun m ps ys y v H i Nx s' em sm rv hse hp G yv kap => ?_) fun ps ys H s' hse hp I q => ?_))
    · cases em
      obtain ⟨t, tk, c, rfl, et⟩ := hp
      have same : (lstObj #[.int t tk] c) = lstObj #[.int t0 tk0] c0 := by
        have := hse (S, lstObj #[.int t tk] c) List.mem_cons_self
        rw [at0] at this
        exact (Option.some.inj this).symm
      cases same
      obtain ⟨⟨b, eb⟩, nx⟩ := yv
      have at1 : s'.heap.get? S = some (lstObj #[.int t0 tk0] c0) := G.at
      -- on with the new sum
      have next : ∀ (stage' : Int) (tk' : Tok) (k : Nat) (c1 : Nat) (h1 : Heap), stage' = 0 ∨ stage' = 2 → h1.get? S = some (lstObj #[.int (t0 + b) tk'] c1) → (∀ b u, b ≠ S → s'.heap.get? b = some u → h1.get? b = some u) →
          codeAny (model Xg.prog Xg.w) A (.builtin "sum.loop" ⟨[.ref gp.1, .ref S, rawInt stage', rawInt 0], []⟩) R { s' with heap := h1, toks := k } := fun stage' tk' k c1 h1 hst' atS kk => by
        have G2 := GG.write (t := k) keep G hpn hg (fun p hp => nomatch hp) old kk atS (fun v z => by cases z)
        exact ih stage' _ (ys ++ [y]) _ hst' (kap nx _ _ ⟨t0 + b, tk', c1, rfl, sumV_snoc et eb⟩ G2 rfl)
      -- the small step
      have small : ∀ (k : Nat), wpAny (model Xg.prog Xg.w) A.in1 (do updateSeq S fun _ => #[Value.int (t0 + b) k]; again (.builtin "sum.loop" ⟨[.ref gp.1, .ref S, rawInt 0, rawInt 0], []⟩)) (fun f s'' => match f with | .done fl => R (.ok fl) s'' | .again c' => c'.quiet = true ∧ codeAny (model Xg.prog Xg.w) A c' R s'') (fun e s'' => R (.error e) s'') { s' with toks := k + 1 } := fun k => by
        refine wpAny_bind (wpAny_updateSeq (s := { s' with toks := k + 1 }) at1 rfl (wpAny_pure ⟨plainId_quiet F.plain_sum_loop _, ?_⟩))
        exact next 0 k (k + 1) _ _ (.inl rfl) (Heap.get?_update_self _ at1 rfl) fun b u hb e => (Heap.get?_update_other _ _ (Ne.symm hb)).trans e
      have plain : ∀ (err : Value → Sem PySem.Fin), wpAny (model Xg.prog Xg.w) A.in1 (do
          match ← (holding [v] (binaryOp .Add (.int t0 tk0) v)).attempt with
          | .ok r => do updateSeq S fun _ => #[r]; letGo [.int t0 tk0, v]; updateSeq S fun _ => #[r]; again (.builtin "sum.loop" ⟨[.ref gp.1, .ref S, rawInt 2, rawInt 0], []⟩)
          | .error e => err e) (fun f s'' => match f with | .done fl => R (.ok fl) s'' | .again c' => c'.quiet = true ∧ codeAny (model Xg.prog Xg.w) A c' R s'') (fun e s'' => R (.error e) s'') s' := fun err => by
        refine wpAny_bind (wpAny_attempt (wpAny_holding (plain_add (Xg := Xg) rv eb fun u k => ?_)))
        show wpAny _ A.in1 (updateSeq S (fun _ => #[.int (t0 + b) u]) >>= _) _ _ _
        refine wpAny_bind (wpAny_updateSeq (s := { s' with toks := k }) at1 rfl ?_)
        have at2 := Heap.get?_update_self (Obj.mapSeq fun _ => #[Value.int (t0 + b) u]) at1 rfl
        refine wpAny_bind (wpAny_letGo ?_)
        show wpAny _ A.in1 (updateSeq S (fun _ => #[.int (t0 + b) u]) >>= _) _ _ _
        refine wpAny_bind (wpAny_updateSeq at2 rfl (wpAny_pure ⟨plainId_quiet F.plain_sum_loop _, ?_⟩))
        exact next 2 u k _ _ (.inr rfl) (Heap.get?_update_self _ at2 rfl) fun b u hb e => (Heap.get?_update_other _ _ (Ne.symm hb)).trans ((Heap.get?_update_other _ _ (Ne.symm hb)).trans e)
      rcases hst with rfl | rfl
      · cases y with
        | int j =>
          obtain ⟨u, rfl⟩ := rv
          cases eb
          show wpAny _ A.in1 (if (_ : Bool) = true then (mkInt (t0 + b) >>= _) else _) _ _ _
          split
          · exact wpAny_bind (wpAny_mkInt (small s'.toks))
          · exact wpAny_bind (wpAny_rule (plain _))
        | bl c =>
          cases rv
          have eb' : (if c = true then (1 : Int) else 0) = b := Option.some.inj eb
          show wpAny _ A.in1 (if (_ : Bool) = true then (mkInt (t0 + (if c = true then (1 : Int) else 0)) >>= _) else _) _ _ _
          rw [eb']
          split
          · exact wpAny_bind (wpAny_mkInt (small s'.toks))
          · exact wpAny_bind (wpAny_rule (plain _))
        | _ => cases eb
      · cases y with
        | int j =>
          obtain ⟨u, rfl⟩ := rv
          exact plain _
        | bl c =>
          cases rv
          exact plain _
        | _ => cases eb
    · obtain ⟨t, tk, c, rfl, et⟩ := hp
      have same : (lstObj #[.int t tk] c) = lstObj #[.int t0 tk0] c0 := by
        have := hse (S, lstObj #[.int t tk] c) List.mem_cons_self
        rw [at0] at this
        exact (Option.some.inj this).symm
      cases same
      exact wpAny_pure (fin t0 tk0 c0 ys H s' I et q)
end
end Gn

set_option Elab.async false
set_option linter.all false
set_option maxRecDepth 100000
/-! Sa.Def: a def of the text by its name: where it stands, and what it promises -/
namespace Sa
open PySem PySem.Spec PyProof.Rows L2
/-- the def x of the text, as the top has left it -/
structure Stands (K : PySem.W.Frag) (mg : Str → Option Value) (x : Str) (st : Stmt) (ps : List Str) : Prop where
  ex : ∃ f fd, Fun K x x st f fd ∧ mg x = some (.ref f) ∧ Binds K fd ps []
/-- the def x keeps the promise sp, by at most k calls within one another -/
structure Df (P : Program) (w : World) (K : PySem.W.Frag) (mg : Str → Option Value) (base : Heap) (k : Nat) (x : Str) (ps : List Str) (sp : Sp) : Prop where
  ex : ∃ f fd, FnG P w K mg base k f fd ps sp ∧ mg x = some (.ref f) ∧ PySem.W.keepIn K (.ref f) = true ∧ Binds K fd ps []
section
variable {P : Program} {w : World} {K : PySem.W.Frag} {mg : Str → Option Value} {base : Heap} {k : Nat} {x : Str} {st : Stmt} {N ps : List Str} {sp : Sp}
theorem Df.mk' (S : Stands K mg x st ps) (h : ∀ f fd, Fun K x x st f fd → FnG P w K mg base k f fd ps sp) : Df P w K mg base k x ps sp := by
  obtain ⟨f, fd, F, m, b⟩ := S.ex
  exact ⟨f, fd, h f fd F, m, F.kp, b⟩
theorem Df.weak {sp' : Sp} (D : Df P w K mg base k x ps sp) (h : ∀ vs H Q E, sp' vs H Q E → sp vs H Q E) : Df P w K mg base k x ps sp' := by
  obtain ⟨f, fd, G, m, kp, b⟩ := D.ex
  exact ⟨f, fd, ⟨fun vs H Q E q => G.many vs H Q E (h _ _ _ _ q), fun A outer s H args us vs Q E r1 r2 r3 r4 r5 r6 => G.runs A outer s H args us vs Q E r1 r2 r3 r4 r5 (h _ _ _ _ r6)⟩, m, kp, b⟩
/-- the body of a def -/
theorem Df.of (S : Stands K mg x st ps) (sc : FnScope N ps (defScope st)) (many : ∀ vs H Q E, sp vs H Q E → vs.length = ps.length)
    (walk : ∀ (f : Addr) (cdv : Value) (A : Around) (outer : List Env) (s : Shared) (H : Hp) (vs : List V) (Q : VK) (E : XK), Room k (A.deeper (envOfC x (defScope st) s.heap.objs.size f cdv)) → Free A →
      sp vs H Q E → ∃ t, PSs (cxOf CX0 P w K mg base N x (defScope st) f cdv A outer s H E).nox (defBody st) t ∧ t ⟨fun _ H' => Q .non H', Q, fun _ _ => False, fun _ _ => False⟩ (start N vs) H) :
    Df P w K mg base (k + 1) x ps sp :=
  Df.mk' S fun f fd F => okG F sc many fun cdv A outer s H vs Q E _ hr hf h => walk f cdv A outer s H vs Q E hr hf h
/-- the same, the def's code object known -/
theorem Df.ofC {f0 c : Addr} {fd0 : FuncData} (F : Fun K x x st f0 fd0) (m : mg x = some (.ref f0)) (b : Binds K fd0 ps []) (hc : fd0.code = .ref c) (sc : FnScope N ps (defScope st)) (many : ∀ vs H Q E, sp vs H Q E → vs.length = ps.length)
    (walk : ∀ (A : Around) (outer : List Env) (s : Shared) (H : Hp) (vs : List V) (Q : VK) (E : XK), Room k (A.deeper (envOfC x (defScope st) s.heap.objs.size f0 (.ref c))) → Free A →
      sp vs H Q E → ∃ t, PSs (cxOf CX0 P w K mg base N x (defScope st) f0 (.ref c) A outer s H E).nox (defBody st) t ∧ t ⟨fun _ H' => Q .non H', Q, fun _ _ => False, fun _ _ => False⟩ (start N vs) H) :
    Df P w K mg base (k + 1) x ps sp :=
  ⟨f0, fd0, okG F sc many fun cdv A outer s H vs Q E e hr hf h => by
    rw [hc] at e
    subst e
    exact walk A outer s H vs Q E hr hf h, m, F.kp, b⟩
end
section
variable {X : Cx} {k : Nat} {ps : List Str} {sp : Sp} {x : Str} {p pos : Pos} {e : Expr} {es : List Expr} {t : TA}
theorem pe_df (D : Df X.prog X.w X.K X.mg X.base k x ps sp) (hr : Room k X.A) (hf : Free X.A) (hg : Gl X x) (args : PA X (e :: es) t) (nd : (x == ("__debug__" : Str)) = false := by decide)
    (he : starEach (e :: es) X.env = (false, eval e X.env) :: starEach es X.env := by rfl) (np : (backTo pos (starEach es X.env)).any (·.1) = false := by rfl) :
    PE X (.Call (.Name x p) (e :: es) [] pos) (tCall sp [] E0 t) := by
  obtain ⟨f, fd, G, m, kp, b⟩ := D.ex
  exact pe_callG G hr hf hg m kp b args nd he np
end
end Sa

set_option Elab.async false
set_option linter.all false
set_option maxRecDepth 100000
set_option maxHeartbeats 2000000
/-! Sa.End: the end of a law's row: the law's def is asked where nothing is shown; the tables of all defs are handed on -/
namespace Sa
open PySem PySem.Spec PyProof.Rows L2

/-- the script is to be read at a, whatever is done -/
def Scr (K : PySem.W.Frag) (H : Hp) (a : Addr) (xs : List V) : Prop := (∃ o, H a = some (.frz o (.lst xs))) ∨ ∀ H' : Hp, SqL K H' a xs
theorem Scr.sq {K : PySem.W.Frag} {H : Hp} {a : Addr} {xs : List V} (h : Scr K H a xs) : SqL K H a xs := by
  rcases h with ⟨o, e⟩ | h
  · exact .inl (.inr ⟨o, e⟩)
  · exact h H
theorem Scr.keep {K : PySem.W.Frag} {H H' : Hp} {a : Addr} {xs : List V} (h : Scr K H a xs) (e : ∀ o, H a = some (.frz o (.lst xs)) → H' a = some (.frz o (.lst xs))) : Scr K H' a xs := by
  rcases h with ⟨o, q⟩ | h
  · exact .inl ⟨o, e o q⟩
  · exact .inr h
abbrev noTab : Obj := { cls := .none, data := .fields #[] }
abbrev scriptO (vs : List Value) : Obj := { cls := .type "list", data := .seq vs.toArray }

section
variable {P : Program} {w : World} {K : PySem.W.Frag} {mg mb : Str → Option Value} {k : Nat} {fa a : Addr} {cs : List (Addr × Addr)} {fd : FuncData} {x : Str} {sp : Sp} {s1 : Shared} {vs : List Value} {ns : List Int}
open Classical in
/-- what is tracked as the law begins: the tables, and the script if the top didn't write it -/
noncomputable def begun (K : PySem.W.Frag) (cs : List (Addr × Addr)) (a : Addr) (vs : List Value) (ns : List Int) : Hp := fun b =>
  if b ∈ cs.map (·.2) then some (.tbl #[]) else if b = a ∧ K.lookup a = none then some (.frz (scriptO vs) (.lst (ns.map V.int))) else none

theorem law_run (inH : K.In s1.heap) (names : s1.heap.Ns mainGlobals mg) (blt : s1.heap.Ns builtinsNs mb) (isBoot : ∀ x : Str, x ≠ "__name__" → mb x = bootBuiltins x) (noLim : s1.heap.NoLimit) (noGen : s1.gens = #[])
    (hT : ∀ p ∈ cs, s1.heap.get? p.2 = some noTab) (nT : ∀ p ∈ cs, K.lookup p.2 = none) (code : ∀ p ∈ cs, PySem.W.CodeHd s1.heap p.1 p.2)
    (hbm : ∃ (bm : Addr) (ob : Obj), mg "__builtins__" = some (.ref bm) ∧ bm ≠ builtinsNs ∧ s1.heap.get? bm = some ob ∧ ob.cls = .type "module" ∧ ob.dict = some builtinsNs ∧ ob.data = .plain)
    (ha : s1.heap.get? a = some (scriptO vs)) (isInts : IntsAre vs ns) (short : ns.length ≤ sizeLine) (hr : Room k callerA)
    (F : ∀ base : Heap, K.In base → base.Ns mainGlobals mg → (∀ p ∈ cs, LamX.TabB base mg p.1 p.2) → FnG P w K mg base k fa fd [x] sp) (bind : ∀ (s : Shared) (u : Value), BindsTo s fd ⟨[u], []⟩ [(x, u)])
    (hsp : ∀ H : Hp, (∀ p ∈ cs, H p.2 = some (.tbl #[])) → Scr K H a (ns.map V.int) → sp [.ref a] H (fun v _ => v = .bl true) fun _ _ _ => False) :
    codeAny (model P w) callerA (.call (.ref fa) ⟨[.ref a], []⟩) (fun r s' => r = .ok (.ret (.bool true)) ∧ OldK s1.heap s'.heap ∧ s'.os = s1.os ∧ AllBare s'.gens) s1 := by
  have rel := vals_ints isInts
  have tabAt : ∀ b ∈ cs.map (·.2), s1.heap.get? b = some noTab := fun b hb => by
    obtain ⟨p, hp, e⟩ := List.mem_map.mp hb
    rw [← e]
    exact hT p hp
  have scriptNoTab : a ∉ cs.map (·.2) := fun z => by
    have q := tabAt a z
    rw [ha] at q
    have d := congrArg Obj.data (Option.some.inj q)
    cases d
  obtain ⟨H, hH⟩ : ∃ H, H = begun K cs a vs ns := ⟨_, rfl⟩
  have onTab : ∀ b ∈ cs.map (·.2), H b = some (.tbl #[]) := fun b hb => by rw [hH]; exact if_pos hb
  have onScript : K.lookup a = none → H a = some (.frz (scriptO vs) (.lst (ns.map V.int))) := fun z => by
    rw [hH]
    exact (if_neg scriptNoTab).trans (if_pos ⟨rfl, z⟩)
  have offAll : ∀ b, b ∉ cs.map (·.2) → ¬ (b = a ∧ K.lookup a = none) → H b = none := fun b h1 h2 => by
    rw [hH]
    exact (if_neg h1).trans (if_neg h2)
  have isOne : ∀ b, H b = none ∨ b ∈ cs.map (·.2) ∨ (b = a ∧ K.lookup a = none) := fun b => by
    by_cases h1 : b ∈ cs.map (·.2)
    · exact .inr (.inl h1)
    · by_cases h2 : b = a ∧ K.lookup a = none
      · exact .inr (.inr h2)
      · exact .inl (offAll b h1 h2)
  -- an object of another form is not tracked
  have other : ∀ {b : Addr} {o : Obj}, s1.heap.get? b = some o → (∀ us n, o.data ≠ .seq us n) → o.data ≠ .fields #[] → H b = none := fun {b o} e n1 n2 => by
    rcases isOne b with z | z | ⟨z, _⟩
    · exact z
    · rw [tabAt b z] at e
      cases e
      exact (n2 rfl).elim
    · rw [z, ha] at e
      cases e
      exact (n1 _ _ rfl).elim
  have dictFree : ∀ {b : Addr} {o : Obj} {es : Array DictEntry} {ep : Nat}, s1.heap.get? b = some o → o.data = .dict es ep → H b = none := fun {b o es ep} e d => by
    refine other e (fun us n z => ?_) fun z => ?_ <;> (rw [d] at z; cases z)
  have nsBase : ∀ {b : Addr} {m : Str → Option Value}, s1.heap.Ns b m → (hidT s1.heap H).Ns b m := fun {b m} ⟨o, es, ep, e, d, r⟩ => ⟨o, es, ep, hidT_get e (dictFree e d), d, r⟩
  have keepK : K.In (hidT s1.heap H) := fun b o e => hidT_get (inH b o e) (by
    rcases isOne b with z | z | ⟨z, z2⟩
    · exact z
    · obtain ⟨p, hp, ep⟩ := List.mem_map.mp z
      rw [← ep, nT p hp] at e
      cases e
    · rw [z, z2] at e
      cases e)
  have modOk : L2.Mod K mg (hidT s1.heap H) := ⟨keepK, nsBase names, ⟨mb, nsBase blt, isBoot⟩, let ⟨mc, h1, h2⟩ := noLim; ⟨mc, nsBase h1, h2⟩⟩
  have tabs : ∀ p ∈ cs, LamX.TabB (hidT s1.heap H) mg p.1 p.2 := fun p hp => by
    have hTp := hT p hp
    refine ⟨?_, ?_, fun z => ?_⟩
    · obtain ⟨o, us, file, tf, flags, tg, inF, text, tt, e1, r1, r2, r3, r4, r5, r6, r7, r8, hne⟩ := code p hp
      refine ⟨o, us, file, tf, flags, tg, inF, text, tt, hidT_get e1 (other e1 (fun us' n z => ?_) fun z => ?_), r1, r2, r3, r4, r5, r6, r7, r8, hne⟩
      · rw [r2] at z; cases z
      · rw [r2] at z
        cases z
        simp at r3
    · obtain ⟨bm, ob, b1, b2, b3, b4, b5, b6⟩ := hbm
      refine ⟨bm, ob, b1, b2, fun q => ?_, fun q => ?_, hidT_get b3 (other b3 (fun us n z => ?_) fun z => ?_), b4, b5, b6⟩
      · obtain ⟨o, es, ep, e, d, _⟩ := names
        rw [q, e] at b3
        cases b3
        rw [d] at b6
        cases b6
      · rw [q, hTp] at b3
        cases b3
        cases b6
      · rw [b6] at z; cases z
      · rw [b6] at z; cases z
    · obtain ⟨o, es, ep, e, d, _⟩ := names
      rw [z, hTp] at e
      cases e
      cases d
  have hok : HOk P w H s1.heap := fun b u e => by
    rcases isOne b with z | z | ⟨z, z2⟩
    · rw [z] at e; cases e
    · rw [onTab b z] at e
      cases e
      exact tabAt b z
    · rw [z, onScript z2] at e
      cases e
      rw [z]
      exact ⟨ha, by rw [List.length_map]; exact short, vs, _, rel, ha⟩
  have seen : Scr K H a (ns.map V.int) := by
    cases q : K.lookup a with
    | none => exact .inl ⟨_, onScript q⟩
    | some o =>
      have e := inH a o q
      rw [ha] at e
      cases e
      exact .inr fun H' => .inr ⟨_, vs.toArray, _, q, rfl, rfl, rfl, by rw [List.size_toArray, isInts.length]; exact short, by simpa using rel⟩
  have env : Env0 P w K mg (hidT s1.heap H) callerA [] s1 H :=
    ⟨rfl, modOk, fun b o e => of_hidT e, Nat.le_of_eq (hidT_size _ _), trivial, fun b hb => absurd (show b ∈ ([] : List Addr) from hb) (by simp), hok, .of_eq noGen⟩
  have ready := hsp H (fun p hp => onTab _ (List.mem_map.mpr ⟨p, hp, rfl⟩)) seen
  refine codeAny_mono ((F _ keepK (nsBase names) tabs).runs callerA [] s1 H ⟨[.ref a], []⟩ [.ref a] [.ref a] _ _ hr rfl env (bind s1 (.ref a)) (.cons rfl .nil) ready) fun r s' out => ?_
  cases r with
  | error e => exact out.elim
  | ok fl =>
    cases fl with
    | next => exact out.elim
    | brk => exact out.elim
    | cont => exact out.elim
    | ret u =>
      obtain ⟨v, H', os, bare, un, hok', rv, q⟩ := out
      cases (show v = .bl true from q)
      cases (show u = Value.bool true from rv)
      have same : ∀ b o, b ∉ cs.map (·.2) → s1.heap.get? b = some o → s'.heap.get? b = some o := fun b o nb e => by
        rcases isOne b with z | z | ⟨z, z2⟩
        · exact un.keep b o e z (fun y => absurd (show b ∈ ([] : List Addr) from y) (by simp)) (by simp)
        · exact absurd z nb
        · rw [z] at e ⊢
          have q2 := un.frzs a _ _ (onScript z2)
          obtain ⟨e2, _⟩ := hok' a _ q2
          rw [ha] at e
          cases e
          exact e2
      have grown : ∀ p ∈ cs, ∃ more : Array Value, s'.heap.get? p.2 = some { cls := .none, data := .fields more } := fun p hp => by
        obtain ⟨more, z⟩ := un.tbls p.2 #[] (onTab _ (List.mem_map.mpr ⟨p, hp, rfl⟩))
        exact ⟨_, hok' p.2 _ z⟩
      refine ⟨rfl, ⟨fun b o e => ?_, fun b o e => ?_⟩, os, bare⟩
      · by_cases hb : b ∈ cs.map (·.2)
        · obtain ⟨p, hp, rfl⟩ := List.mem_map.mp hb
          obtain ⟨more, hm⟩ := grown p hp
          rw [hT p hp] at e
          cases e
          exact .inr (.inl ⟨((code p hp).tab (hT p hp)).isCodeTable, rfl, #[], more, rfl, by rw [Array.empty_append]; exact hm⟩)
        · exact .inl (same b o hb e)
      · by_cases hb : b ∈ cs.map (·.2)
        · obtain ⟨p, hp, rfl⟩ := List.mem_map.mp hb
          obtain ⟨more, hm⟩ := grown p hp
          exact ⟨_, hm⟩
        · exact ⟨o, same b o hb e⟩
end

/-- the tables of the top's defs -/
def TabsOf (q : Program) (mg : Str → Option Value) (h : Heap) : Prop := ∀ e ∈ recsOf q, ∃ a o fd c T, mg e.name = some (.ref a) ∧ h.get? a = some o ∧ o.data = .func fd ∧ fd.code = .ref c ∧ h.IsCode c T #[] ∧ h.TableAt c T #[]
/-- what is to be known of the law at the head's heap -/
def LawSa (l : PySem.W.OpenLaw) (w : World) (K : PySem.W.Frag) (k n : Nat) (x : Str) (mg : Str → Option Value) (fa : Addr) (h : Heap) : Prop :=
  ∃ (fd : FuncData) (cs : List (Addr × Addr)) (sp : Sp), (∀ p ∈ cs, h.get? p.2 = some noTab) ∧ (∀ p ∈ cs, K.lookup p.2 = none) ∧ (∀ p ∈ cs, PySem.W.CodeHd h p.1 p.2) ∧ (∀ (s : Shared) (u : Value), BindsTo s fd ⟨[u], []⟩ [(x, u)]) ∧
    (∀ (H : Hp) (a : Addr) (ns : List Int), ns.length ≤ n → (∀ z ∈ ns, Builtin.Int.intBits z ≤ 1048576) → (∀ p ∈ cs, H p.2 = some (.tbl #[])) → Scr K H a (ns.map V.int) → sp [.ref a] H (fun v _ => v = .bl true) fun _ _ _ => False) ∧
    ∀ base : Heap, K.In base → base.Ns mainGlobals mg → (∀ p ∈ cs, LamX.TabB base mg p.1 p.2) → FnG l.prog w K mg base k fa fd [x] sp
theorem walk_sa {l : PySem.W.OpenLaw} {n k : Nat} {q : Program} {loose : List Str} {XP : (Str → Option Value) → Heap → Prop} {YP : World → Heap → Prop} {d : DefRec} {K : Params → PySem.W.Frag} {x : Str}
    (hn : l.most = some n) (hn2 : n ≤ sizeLine) (hdf : d.params.defaults = []) (hr : Room k callerA) (hY : ∀ (w : World) (h : Heap), YP w h → (K w.params).In h)
    (F : ∀ (w : World) (mg : Str → Option Value) (fa : Addr) (h : Heap), YP w h → (K w.params).In h → h.Ns mainGlobals mg → mg d.name = some (.ref fa) → TabsOf q mg h → LawSa l w (K w.params) k n x mg fa h) :
    PySem.W.WalkO q loose XP YP l.row.toRowW d [] (fun f vs => PySem.call f vs) := by
  refine Att.attach_callB hn hdf fun w s0 s1 mg mb fa o pm cd doc a vs ns G Y ho hd hcd hmg hobj hints hlen hbits hg => ?_
  have inH := hY w _ Y
  obtain ⟨fd, cs, sp, hT, nT, code, bind, hsp, hF⟩ := F w mg fa _ Y inH G.T.g hmg G.T.tab
  exact law_run inH G.T.g G.T.b G.T.builtins G.T.nolimit hg hT nT code G.T.bmain hobj hints (Nat.le_trans hlen hn2) hr hF bind fun H hH hS => hsp H a ns hlen hbits hH hS
end Sa

set_option Elab.async false
set_option linter.all false
set_option maxRecDepth 100000
set_option maxHeartbeats 1600000
/-! Kz1: nested tuples as keys: small questions that change nothing -/
namespace Sa
open PySem PySem.Spec PyProof.Rows L2
/-- the tuple at a is this key, not too deep -/
abbrev KeyAt (h : Heap) (k : NestedKey) (a : Addr) : Prop := NestedIs h k (.ref a) ∧ k.depth ≤ 8
/-- asked in s, m answers b and leaves all as it is -/
def Says (P : Program) (w : World) (A : Around) (s : Shared) (m : Sem Bool) (b : Bool) : Prop := ∀ (Q : Bool → Shared → Prop) (E : Value → Shared → Prop), Q b s → wpAny (model P w) A m Q E s
theorem each_key {h : Heap} : ∀ (ks : List NestedKey) (vs : List Value), NestedAll h ks vs → ∀ u ∈ vs, ∃ k, NestedIs h k u ∧ k.depth ≤ NestedKey.depthAll ks
  | [], _, all, u, hu => by cases all; cases hu
  | k :: ks, _, all, u, hu => by
    cases all with
    | cons one more =>
      unfold NestedKey.depthAll
      rcases List.mem_cons.mp hu with e | hu
      · exact ⟨k, by rw [e]; exact one, by omega⟩
      · obtain ⟨k', is', le⟩ := each_key ks _ more u hu
        exact ⟨k', is', by omega⟩
section
variable {P : Program} {w : World} {A : Around} {s : Shared}
/-- a loop whose turns leave all as it is -/
theorem turns_idle {α β : Type} {f : α → β → Sem (ForInStep β)} {b : β} {Q : β → Shared → Prop} {E : Value → Shared → Prop} :
    ∀ (l : List α), (∀ x ∈ l, ∀ R : ForInStep β → Shared → Prop, R (.yield b) s → wpAny (model P w) A (f x b) R E s) → Q b s → wpAny (model P w) A (forIn l b f) Q E s
  | [], _, q => by rw [List.forIn_nil]; exact wpAny_pure q
  | x :: l, turn, q => by
    rw [List.forIn_cons]
    exact wpAny_bind (turn x List.mem_cons_self _ (turns_idle l (fun y hy => turn y (List.mem_cons_of_mem _ hy)) q))
/-- no key is of a class that the text makes -/
theorem no_class : ∀ (n : Nat) (k : NestedKey) (v : Value), NestedIs s.heap k v → k.depth ≤ n → Says P w A s (ofAClassStatement n v) false := by
  intro n
  induction n with
  | zero =>
    intro k v is' le Q E q
    cases is' with
    | tup => unfold NestedKey.depth at le; omega
    | _ => exact wpAny_pure q
  | succ n ih =>
    intro k v is' le Q E q
    cases is' with
    | @tup a o vs m ks at' cl dt all =>
      have le' : NestedKey.depthAll ks ≤ n := by unfold NestedKey.depth at le; omega
      rw [ofAClassStatement]
      refine wpAny_bind (wpAny_typeOf ⟨o, at', cl⟩ ?_)
      dsimp only
      rw [if_pos (by decide)]
      refine wpAny_bind (wpAny_pure ?_)
      rw [if_neg (by decide)]
      refine wpAny_bind (wpAny_seqItems at' dt ?_)
      dsimp only
      refine wpAny_bind ?_
      show wpAny _ _ (forIn vs _ _) _ _ s
      rw [← Array.forIn_toList]
      refine turns_idle _ (fun u hu R r => ?_) (wpAny_pure q)
      obtain ⟨k', is', le''⟩ := each_key ks _ all u hu
      exact wpAny_bind (ih k' u is' (by omega) _ _ (wpAny_pure r))
    | _ => exact wpAny_pure q
/-- looking for a key among keys shows nothing -/
theorem unseen {x : Addr} {k : NestedKey} {ys : List Value} (hx : KeyAt s.heap k x) (all : ∀ y ∈ ys, ∃ c k', y = Value.ref c ∧ KeyAt s.heap k' c) : Says P w A s (searchCouldBeSeen (.ref x) ys) false := by
  intro Q E q
  unfold searchCouldBeSeen
  refine wpAny_bind (turns_idle _ (fun y hy R r => ?_) (wpAny_pure q))
  obtain ⟨c, k', rfl, hc⟩ := all y hy
  dsimp only
  split
  · exact wpAny_pure r
  · refine wpAny_bind (quiet_key k _ 8 s hx.1 hx.2 _ _ _ ?_)
    refine wpAny_bind (quiet_key k' _ 8 s hc.1 hc.2 _ _ _ ?_)
    refine wpAny_bind (no_class 8 k _ hx.1 hx.2 _ _ ?_)
    exact wpAny_bind (no_class 8 k' _ hc.1 hc.2 _ _ (wpAny_pure r))
end
end Sa

set_option Elab.async false
set_option linter.all false
set_option maxRecDepth 100000
set_option maxHeartbeats 1600000
/-! Kz2: a set of keys, and looking for a key in it -/
namespace Sa
open PySem PySem.Spec PyProof.Rows L2
abbrev Keys := List (Addr × NestedKey)
/-- an entry of a set -/
abbrev entOf (w : World) (p : Addr × NestedKey) : Int × Value := (p.2.hash w, .ref p.1)
/-- the set at a has just L in its table t, in the table's order -/
structure Bears (w : World) (h : Heap) (a : Addr) (L : Keys) (ep : Nat) (t : SetTable) : Prop where
  obj : ∃ o, h.get? a = some o ∧ o.ExactSet ∧ o.data = .set (L.map (entOf w)).toArray ep t
  tab : TabOk t (L.map fun p => p.2.hash w)
  led : w.params.followText "set-order" = true ∨ t.led = true
  wide : L.length * 5 < t.mask * 3
/-- the c-th stand of the way of a hash -/
abbrev standAt' (t : SetTable) (g : Int) (c : Nat) : SetTable.Probe := nth t.mask (runAt t.mask (SetTable.bits g % (t.mask + 1)) (SetTable.bits g)) c
/-- what stands in the c-th slot of the way of g -/
def Met (t : SetTable) (L : Keys) (g : Int) (c : Nat) (p : Addr × NestedKey) : Prop := ∃ i : Nat, t.place.toList[i]? = some (way t.mask g c) ∧ L[i]? = some p
theorem Met.one {t : SetTable} {L : Keys} {g : Int} {c i : Nat} {p q : Addr × NestedKey} (r : Ris t.place.toList) (m : Met t L g c p) (e1 : t.place.toList[i]? = some (way t.mask g c)) (e2 : L[i]? = some q) : p = q := by
  obtain ⟨j, f1, f2⟩ := m
  have a1 := slot_live r f1
  rw [slot_live r e1] at a1
  cases a1
  exact Option.some.inj (f2.symm.trans e2)
/-- no dummy is on the way -/
theorem way_clean (m : Nat) (p : SetTable.Probe) (h : p.dummy = none) (c : Nat) : (nth m p c).dummy = none := by
  induction c with
  | zero => exact h
  | succ c ih =>
    rw [nth_succ]
    unfold adv
    split <;> exact ih
section
variable {w : World} {h : Heap} {a : Addr} {L : Keys} {ep : Nat} {t : SetTable}
theorem Bears.many (B : Bears w h a L ep t) : t.place.size = L.length := by simpa using B.tab.sz
theorem Bears.fits (B : Bears w h a L ep t) : t.fits (L.map (entOf w)).toArray.size = true := by
  have := B.many
  have := B.wide
  simp [SetTable.fits, SetTable.fill, B.tab.dm]
  omega
theorem Bears.odd (B : Bears w h a L ep t) : t.gaveWay = false := by simp [SetTable.gaveWay, mask_odd B.tab.mok]
theorem ent_at {i : Nat} {p : Addr × NestedKey} (e : L[i]? = some p) : (L.map (entOf w)).toArray[i]? = some (entOf w p) := by simp [e]
/-- one look along the way: the next thing with this hash, or the free slot -/
theorem next_of (B : Bears w h a L ep t) (g : Int) {K c : Nat} (le : c ≤ K) (fuel : K < 10 * SetTable.turns t.mask) (free : way t.mask g K ∉ t.place.toList) (full : ∀ c, c < K → way t.mask g c ∈ t.place.toList) :
    (∃ (d i : Nat) (p : Addr × NestedKey), c ≤ d ∧ d < K ∧ t.place.toList[i]? = some (way t.mask g d) ∧ L[i]? = some p ∧ (∀ c' p', c ≤ c' → c' < d → Met t L g c' p' → p'.2.hash w ≠ g) ∧
      t.probe (fun i => ((L.map (entOf w)).toArray[i]?.map (·.1)).getD 0) g (standAt' t g c) = some (.candidate (way t.mask g d) i (standAt' t g (d + 1)))) ∨
    ((∀ c' p', c ≤ c' → c' < K → Met t L g c' p' → p'.2.hash w ≠ g) ∧ t.probe (fun i => ((L.map (entOf w)).toArray[i]?.map (·.1)).getD 0) g (standAt' t g c) = some (.empty (way t.mask g K) none)) := by
  have shift : ∀ n, nth t.mask (standAt' t g c) n = standAt' t g (c + n) := fun n => (nth_add t.mask c _ n).symm
  have shiftJ : ∀ n, (nth t.mask (standAt' t g c) n).j = way t.mask g (c + n) := fun n => by rw [shift]
  have passed : ∀ (N : Nat), (∀ n i : Nat, n < N → t.place.toList[i]? = some (nth t.mask (standAt' t g c) n).j → ((L.map (entOf w)).toArray[i]?.map (·.1)).getD 0 ≠ g) → ∀ c' p', c ≤ c' → c' < c + N → Met t L g c' p' → p'.2.hash w ≠ g := by
    intro N no c' p' l1 l2 ⟨i, e1, e2⟩
    have z := no (c' - c) i (by omega) (by rw [shiftJ, Nat.add_sub_cancel' l1]; exact e1)
    rw [ent_at e2] at z
    exact z
  have ans := go_spec t B.tab.ris B.tab.dm (fun i => ((L.map (entOf w)).toArray[i]?.map (·.1)).getD 0) g (10 * SetTable.turns t.mask) (K - c) (standAt' t g c) (way_clean _ _ rfl _) (by omega)
    (fun n hn => by rw [shiftJ]; exact full _ (by omega)) (by rw [shiftJ, Nat.add_sub_cancel' le]; exact free)
  rcases ans with ⟨n, i, lt, slot, _, before, probe⟩ | ⟨before, probe⟩
  · rw [shiftJ] at slot probe
    rw [shift] at probe
    have il : i < L.length := by
      have := (List.getElem?_eq_some_iff.mp slot).1
      rw [Array.length_toList, B.many] at this
      exact this
    exact .inl ⟨c + n, i, L[i], by omega, by omega, slot, List.getElem?_eq_getElem il, passed n before, probe⟩
  · rw [shiftJ, Nat.add_sub_cancel' le] at probe
    refine .inr ⟨fun c' p' l1 l2 => passed (K - c) before c' p' l1 (by omega), probe⟩
end
section
variable {P : Program} {w : World} {A : Around} {E : Value → Shared → Prop} {s : Shared} {a x : Addr} {L : Keys} {ep : Nat} {t : SetTable} {k : NestedKey} {Q : SetFound → Shared → Prop}
/-- the search from the c-th slot of the way on, where nothing ahead of it is the key -/
theorem search_on (B : Bears w s.heap a L ep t) (keys : ∀ p ∈ L, KeyAt s.heap p.2 p.1) (hx : KeyAt s.heap k x) (room : A.units + 8 < cLine) {K : Nat} (fuel : K < 10 * SetTable.turns t.mask) (free : way t.mask (k.hash w) K ∉ t.place.toList)
    (full : ∀ c, c < K → way t.mask (k.hash w) c ∈ t.place.toList) (isIn : k ∈ L.map (·.2) → Q (.there none) s) (isOut : (∀ c p, c < K → Met t L (k.hash w) c p → p.2 ≠ k) → Q (.free (way t.mask (k.hash w) K) false) s) :
    ∀ (n c f : Nat) (stand : Option SetTable.Probe), c + n = K → n < f → stand.getD (t.probeStart (k.hash w)) = standAt' t (k.hash w) c → (∀ c' p, c' < c → Met t L (k.hash w) c' p → p.2 ≠ k) →
      wpAny (model P w) A (setSearchFrom a (.ref x) (k.hash w) true f stand) Q E s := by
  intro n
  induction n using Nat.strongRecOn with
  | ind n ih =>
    intro c f stand sum lt here past
    obtain ⟨o, at', _, dt⟩ := B.obj
    cases f with
    | zero => omega
    | succ f =>
      rw [setSearchFrom_succ]
      refine wpAny_bind (wpAny_setState_of at' dt B.fits ?_)
      simp only [B.odd, here, Bool.false_eq_true, if_false]
      rcases next_of B (k.hash w) (c := c) (by omega) fuel free full with ⟨d, i, p, l1, l2, slot, ei, between, probe⟩ | ⟨between, probe⟩
      · rw [probe]
        simp only
        have goOn : wpAny (model P w) A (searchRest a (.ref x) (k.hash w) true f (L.map (entOf w)).toArray t (way t.mask (k.hash w) d) i (standAt' t (k.hash w) (d + 1))) Q E s := by
          unfold searchRest
          rw [ent_at ei]
          refine wpAny_bind (wpAny_holding ((nestedKind P w).eqBool (x := p.2) (y := k) room (keys p (List.mem_of_getElem? ei)) hx ?_))
          refine wpAny_bind (wpAny_setState_of at' dt B.fits ?_)
          by_cases same : p.2 = k
          · simp only [same, decide_true, Bool.and_self, if_true]
            exact wpAny_pure (isIn (List.mem_map.mpr ⟨p, List.mem_of_getElem? ei, same⟩))
          · simp only [same, decide_false, Bool.and_false, Bool.false_eq_true, if_false, sameMem, if_true, slot_live B.tab.ris slot, ent_at ei]
            refine wpAny_bind (wpAny_isSame_ref_self (wpAny_bind (wpAny_pure ?_)))
            simp only [if_true]
            refine ih (K - (d + 1)) (by omega) (d + 1) f _ (by omega) (by omega) rfl fun c' q lt' met => ?_
            by_cases old : c' < c
            · exact past c' q old met
            · by_cases mid : c' < d
              · exact fun e => between c' q (by omega) mid met (by rw [e])
              · have : c' = d := by omega
                subst this
                rw [met.one B.tab.ris slot ei]
                exact same
        cases led : t.led with
        | true =>
          simp only [Bool.not_true, Bool.false_eq_true, if_false]
          exact goOn
        | false =>
          simp only [Bool.not_false, if_true]
          refine wpAny_bind (unseen hx (fun y hy => ?_) _ _ ?_)
          · simp only [List.mem_map, Array.mem_toList_iff, Array.mem_filter, List.mem_toArray] at hy
            obtain ⟨e, ⟨⟨q, hq, rfl⟩, _⟩, rfl⟩ := hy
            exact ⟨q.1, q.2, rfl, keys q hq⟩
          · simp only [Bool.false_eq_true, if_false]
            exact goOn
      · rw [probe]
        refine wpAny_pure (isOut fun c' q lt' met => ?_)
        by_cases old : c' < c
        · exact past c' q old met
        · exact fun e => between c' q (by omega) lt' met (by rw [e])
/-- the whole search, as adding asks for it -/
theorem search (B : Bears w s.heap a L ep t) (keys : ∀ p ∈ L, KeyAt s.heap p.2 p.1) (hx : KeyAt s.heap k x) (room : A.units + 8 < cLine) (isIn : k ∈ L.map (·.2) → Q (.there none) s)
    (isOut : ∀ K, k ∉ L.map (·.2) → way t.mask (k.hash w) K ∉ t.place.toList → (∀ c, c < K → way t.mask (k.hash w) c ∈ t.place.toList) → Q (.free (way t.mask (k.hash w) K) false) s) :
    wpAny (model P w) A (setSearch a (.ref x) (k.hash w) true) Q E s := by
  have wide := B.wide
  obtain ⟨K, fuel, free, full⟩ := B.tab.first (by rw [List.length_map]; omega) (k.hash w)
  have short : K < 100000 := by
    refine Nat.lt_of_lt_of_le fuel ?_
    rcases B.tab.mok with e | e | e <;> rw [e] <;> decide
  refine search_on B keys hx room fuel free full isIn (fun none' => isOut K (fun mem => ?_) free full) K 0 100000 none (Nat.zero_add _) short rfl fun _ _ no => absurd no (Nat.not_lt_zero _)
  obtain ⟨p, hp, e⟩ := List.mem_map.mp mem
  obtain ⟨i, il, ei⟩ := List.getElem_of_mem hp
  have at' : L[i]? = some p := by rw [List.getElem?_eq_getElem il, ei]
  have il' : i < t.place.toList.length := by rw [Array.length_toList, B.many]; exact il
  obtain ⟨c, lt, ec⟩ := B.tab.before free (i := i) (j := t.place.toList[i]) (by rw [List.getElem?_map, at', ← e]; rfl) (List.getElem?_eq_getElem il')
  exact none' c p lt ⟨i, by rw [ec]; exact List.getElem?_eq_getElem il', at'⟩ e
end
end Sa

set_option Elab.async false
set_option linter.all false
set_option maxRecDepth 100000
set_option maxHeartbeats 2000000
/-! Sa.Key: data of None, truths, ints, texts, tuples as keys -/
namespace Sa
open PySem PySem.Spec PyProof.Rows L2

mutual
/-- the key that such data is -/
def nk : PyData → NestedKey
  | .bool b => .num (if b = true then 1 else 0)
  | .int i => .num i
  | .str x => .text x
  | .tuple ds => .tup (nks ds)
  | _ => .none
def nks : List PyData → List NestedKey
  | [] => []
  | d :: ds => nk d :: nks ds
end
mutual
/-- no list, no dict in it -/
def flat : PyData → Bool
  | .none => true
  | .bool _ => true
  | .int _ => true
  | .str _ => true
  | .tuple ds => flats ds
  | _ => false
def flats : List PyData → Bool
  | [] => true
  | d :: ds => flat d && flats ds
end
mutual
theorem nk_is {h : Heap} : ∀ (d : PyData) (v : Value) (as : List Addr), Reads h v d as → flat d = true → NestedIs h (nk d) v
  | .none, _, _, r, _ => by cases r; exact .none
  | .bool b, _, _, r, _ => by cases r; exact .bool rfl
  | .int i, _, _, r, _ => by cases r; exact .int i _
  | .str x, _, _, r, _ => by cases r; exact .text x _
  | .tuple ds, _, _, r, f => by
    cases r with
    | tuple ho hc hd hr => exact .tup ho hc hd (nks_are ds _ _ hr f)
  | .list ds, _, _, _, f => by cases f
  | .dict ds, _, _, _, f => by cases f
theorem nks_are {h : Heap} : ∀ (ds : List PyData) (vs : List Value) (as : List Addr), ReadsAll h vs ds as → flats ds = true → NestedAll h (nks ds) vs
  | [], _, _, r, _ => by cases r; exact .nil
  | d :: ds, _, _, r, f => by
    have f' : (flat d && flats ds) = true := f
    rw [Bool.and_eq_true] at f'
    cases r with
    | cons r1 r2 => exact .cons (nk_is d _ _ r1 f'.1) (nks_are ds _ _ r2 f'.2)
end

section
variable {P : Program} {w : World} {E : Value → Shared → Prop}
mutual
/-- whether a hash goes by value: some answer, nothing changed -/
theorem hashBy_key : ∀ (k : NestedKey) (v : Value) (n : Nat) (A : Around) (s : Shared) (Q : Bool → Shared → Prop), NestedIs s.heap k v → (∀ b, Q b s) → wpAny (model P w) A (hashByValue n v) Q E s
  | .none, _, n, A, s, Q, x, h => by
    cases x
    rw [show hashByValue n Value.none = pure true by cases n <;> rfl]
    exact wpAny_pure (h true)
  | .num i, _, n, A, s, Q, x, h => by
    cases x with
    | bool _ =>
      rw [show ∀ b, hashByValue n (Value.bool b) = pure true by intro b; cases n <;> rfl]
      exact wpAny_pure (h true)
    | int _ t =>
      rw [show hashByValue n (Value.int i t) = pure true by cases n <;> rfl]
      exact wpAny_pure (h true)
  | .text y, _, n, A, s, Q, x, h => by
    cases x with
    | text _ t =>
      rw [show hashByValue n (Value.str y t) = pure false by cases n <;> rfl]
      exact wpAny_pure (h false)
  | .tup ks, v, 0, A, s, Q, x, h => by
    cases x with
    | @tup a o vs m _ ho hc hd hall =>
      rw [show hashByValue 0 (Value.ref a) = pure false from rfl]
      exact wpAny_pure (h false)
  | .tup ks, v, n + 1, A, s, Q, x, h => by
    cases x with
    | @tup a o vs m _ ho hc hd hall =>
      unfold hashByValue
      refine wpAny_bind (wpAny_specialOf (T := "tuple") ⟨o, ho, hc⟩ F.slot_tuple_hash.lookup ?_)
      show wpAny _ _ (seqItems? (.ref a) >>= _) _ _ s
      refine wpAny_bind (wpAny_seqItems ho hd ?_)
      refine wpAny_bind ?_
      show wpAny _ _ (forIn vs _ _) _ _ s
      rw [← Array.forIn_toList]
      refine wpAny_forIn_list _ (fun rest r s' => s' = s ∧ ∀ u ∈ rest, ∀ Q' : Bool → Shared → Prop, (∀ b, Q' b s) → wpAny (model P w) A (hashByValue n u) Q' E s) _ ?_ ?_ _ _ ⟨rfl, hashBy_keys ks _ n A s hall⟩
      · rintro u rest r s' ⟨rfl, each⟩
        refine wpAny_bind (each u List.mem_cons_self _ fun b => ?_)
        cases b with
        | true =>
          simp only [Bool.not_true, Bool.false_eq_true, if_false]
          exact wpAny_pure ⟨rfl, fun y hy => each y (List.mem_cons_of_mem _ hy)⟩
        | false =>
          simp only [Bool.not_false, if_true]
          exact wpAny_pure (wpAny_pure (h false))
      · rintro ⟨r1, r2⟩ s' hr
        obtain ⟨rfl, _⟩ := hr
        cases r1 with
        | none => exact wpAny_pure (h _)
        | some b => exact wpAny_pure (h _)
theorem hashBy_keys : ∀ (ks : List NestedKey) (vs : List Value) (n : Nat) (A : Around) (s : Shared), NestedAll s.heap ks vs → ∀ u ∈ vs, ∀ Q : Bool → Shared → Prop, (∀ b, Q b s) → wpAny (model P w) A (hashByValue n u) Q E s
  | [], _, n, A, s, x, u, hu => by cases x; cases hu
  | k :: ks, _, n, A, s, x, u, hu => by
    cases x with
    | cons x1 x2 =>
      intro Q h
      rcases List.mem_cons.mp hu with z | z
      · rw [z]; exact hashBy_key k _ n A s Q x1 h
      · exact hashBy_keys ks _ n A s x2 u z Q h
end
end
end Sa

set_option Elab.async false
set_option linter.all false
set_option maxRecDepth 100000
set_option maxHeartbeats 1600000
/-! Kz3: a key put into a set, its table laid anew where it is full -/
namespace Sa
open PySem PySem.Spec PyProof.Rows L2
theorem all_places {α : Type} : ∀ l : List α, (List.range l.length).filterMap (l[·]?) = l
  | [] => rfl
  | x :: l => by
    rw [List.length_cons, List.range_succ_eq_map, List.filterMap_cons]
    show x :: _ = _
    rw [List.filterMap_map]
    exact congrArg _ (all_places l)
theorem at_places {α β : Type} (l : List α) (f : α → β) (d : β) : ∀ is : List Nat, (∀ i ∈ is, i < l.length) → (is.filterMap (l[·]?)).map f = is.map fun i => ((l.map f).toArray).getD i d
  | [], _ => rfl
  | i :: is, h => by
    have lt := h i List.mem_cons_self
    rw [List.filterMap_cons, List.getElem?_eq_getElem lt, List.map_cons, List.map_cons, at_places l f d is fun j hj => h j (List.mem_cons_of_mem _ hj)]
    congr 1
    simp [lt]
section
variable {P : Program} {w : World} {A : Around} {E : Value → Shared → Prop} {s : Shared} {a x : Addr} {L : Keys} {ep : Nat} {t : SetTable} {k : NestedKey}
/-- the table laid anew -/
theorem laid_anew {o : Obj} {wanted M : Nat} {Q : Unit → Shared → Prop} (at' : s.heap.get? a = some o) (ex : o.ExactSet) (dt : o.data = .set (L.map (entOf w)).toArray ep t) (tab : TabOk t (L.map fun p => p.2.hash w)) (led : w.params.followText "set-order" = true ∨ t.led = true)
    (le : L.length ≤ t.mask) (size : SetTable.sizeAbove wanted = M + 1) (hM : MaskOk M) (wide : L.length * 5 < M * 3) (few : L.length < 64)
    (hQ : ∀ (h' : Heap) (L' : Keys) (ep' : Nat) (t' : SetTable), Heap.SameBut a s.heap h' → Bears w h' a L' ep' t' → L'.Perm L → Q () { s with heap := h' }) :
    wpAny (model P w) A (setRelay a wanted) Q E s := by
  have count : t.place.size = L.length := by simpa using tab.sz
  have fits : t.fits (L.map (entOf w)).toArray.size = true := by
    simp [SetTable.fits, SetTable.fill, tab.dm]
    omega
  have hs : (L.map (entOf w)).toArray.map (·.1) = (L.map fun p => p.2.hash w).toArray := by simp
  obtain ⟨t', order, eq, perm, tab', mask', led', _, _⟩ := relaid_ok t (hs := (L.map (entOf w)).toArray.map (·.1)) (wanted := wanted) (M := M) (by omega) hM (by simp; omega)
  have n : ((L.map (entOf w)).toArray.map (·.1)).size = L.length := by simp
  rw [n] at perm
  rw [hs] at tab'
  have es : (order.filterMap ((L.map (entOf w)).toArray[·]?)) = ((order.toList.filterMap (L[·]?)).map (entOf w)).toArray := by
    apply Array.ext'
    rw [Array.toList_filterMap, List.map_filterMap]
    congr 1
    funext i
    simp
  have permL : (order.toList.filterMap (L[·]?)).Perm L := by
    have z := perm.filterMap (L[·]?)
    rwa [all_places] at z
  have len := permL.length_eq
  have line : SetTable.sizeAbove wanted ≤ sizeLine := by
    rw [size]
    rcases hM with e | e | e <;> rw [e] <;> decide
  rw [setRelay_eq]
  refine wpAny_bind (wpAny_setState_of at' dt fits ?_)
  simp only [Nat.not_lt.mpr line, gt_iff_lt, if_false, eq, es]
  have same : ((((order.toList.filterMap (L[·]?)).map (entOf w)).toArray.size != (L.map (entOf w)).toArray.size)) = false := by simp [len]
  simp only [same, Bool.false_eq_true, if_false]
  refine wpAny_bind (wpAny_pure ?_)
  refine wpAny_storeSet_of at' dt (hQ _ (order.toList.filterMap (L[·]?)) (ep + 1) t' (Heap.SameBut.update ..) ⟨⟨_, store_at at' dt, ⟨ex.1, ex.2.1, ex.2.2⟩, rfl⟩, ?_, by rw [led']; exact led, by rw [len, mask']; exact wide⟩ permL) ?_
  · rw [at_places L (fun p => p.2.hash w) 0 _ fun i hi => List.mem_range.mp (perm.mem_iff.mp hi)]
    exact tab'
  · rw [List.size_toArray, List.length_map, len]
    exact Nat.le_trans (Nat.le_of_lt few) (by decide)
/-- a key put in: it is there, or it comes to the others -/
theorem put_key {Q : Bool → Shared → Prop} (B : Bears w s.heap a L ep t) (keys : ∀ p ∈ L, KeyAt s.heap p.2 p.1) (hx : KeyAt s.heap k x) (room : A.units + 8 < cLine) (few : L.length + 1 < 64)
    (old : k ∈ L.map (·.2) → Q false s)
    (new : k ∉ L.map (·.2) → ∀ (h' : Heap) (L' : Keys) (ep' : Nat) (t' : SetTable), Heap.SameBut a s.heap h' → Bears w h' a L' ep' t' → L'.Perm ((x, k) :: L) → Q true { s with heap := h' }) :
    wpAny (model P w) A (setAddHashed a (.ref x) (k.hash w)) Q E s := by
  obtain ⟨o, at', ex, dt⟩ := B.obj
  have wide := B.wide
  unfold setAddHashed
  refine wpAny_holding ?_
  rw [show (100000 : Nat) = 99999 + 1 from rfl, setAddHashedIn_succ]
  refine wpAny_bind (wpAny_setState_of at' dt B.fits ?_)
  have noScan : byScan (.ref x) (L.map (entOf w)).toArray = false := rfl
  simp only [noScan, Bool.false_eq_true, if_false]
  refine wpAny_bind (search B keys hx room (fun mem => wpAny_pure (old mem)) fun K out free full => ?_)
  simp only
  refine wpAny_bind (wpAny_setState_of at' dt B.fits ?_)
  obtain ⟨place, le, tab1, mask1, led1, _, _, _, fill1⟩ := B.tab.put free full
  have new := new out
  rw [List.length_map] at le fill1
  generalize SetTable.below t.place (way t.mask (k.hash w) K) = n at place le tab1
  generalize t.put (way t.mask (k.hash w) K) = tp at place tab1 mask1 led1 fill1
  obtain ⟨t1, n1⟩ := tp
  simp only at place tab1 mask1 led1 fill1 ⊢
  subst place
  -- the keys behind it, in the table's order
  have order : (L.map fun p => p.2.hash w).take n1 ++ k.hash w :: (L.map fun p => p.2.hash w).drop n1 = (L.take n1 ++ (x, k) :: L.drop n1).map fun p => p.2.hash w := by simp
  have entries : SetTable.insertAt (L.map (entOf w)).toArray n1 (k.hash w, Value.ref x) = ((L.take n1 ++ (x, k) :: L.drop n1).map (entOf w)).toArray := by
    apply Array.ext'
    rw [SetTable.toList_insertAt]
    simp
  have perm : (L.take n1 ++ (x, k) :: L.drop n1).Perm ((x, k) :: L) := by
    refine List.perm_middle.trans ?_
    rw [List.take_append_drop]
  have len := perm.length_eq
  rw [order] at tab1
  generalize L.take n1 ++ (x, k) :: L.drop n1 = L1 at *
  rw [List.length_cons] at len
  -- what is left to do, whether the hash goes by value or not
  have rest : ∀ t2 : SetTable, t2.mask = t1.mask → t2.led = t1.led → t2.fill = t1.fill → TabOk t2 (L1.map fun p => p.2.hash w) → wpAny (model P w) A (do
      storeSet a (SetTable.insertAt (L.map (entOf w)).toArray n1 (k.hash w, Value.ref x)) t2
      if (!false && t2.tooFull) = true then setRelay a (SetTable.grown ((L.map (entOf w)).toArray.size + 1))
      return true) Q E s := by
    intro t2 m2 l2 f2 tab2
    rw [entries]
    refine wpAny_bind (wpAny_storeSet_of at' dt ?_ (by rw [List.size_toArray, List.length_map, len]; exact Nat.le_trans (Nat.le_of_lt few) (by decide)))
    have at2 := store_at (es' := (L1.map (entOf w)).toArray) (t' := t2) at' dt
    have but : Heap.SameBut a s.heap (s.heap.update a (Obj.putSet (L1.map (entOf w)).toArray t2)) := Heap.SameBut.update ..
    generalize s.heap.update a (Obj.putSet (L1.map (entOf w)).toArray t2) = h2 at at2 but
    have led2 : w.params.followText "set-order" = true ∨ t2.led = true := by rw [l2, led1]; exact B.led
    cases full2 : t2.tooFull with
    | false =>
      simp only [Bool.and_false, Bool.false_eq_true, if_false]
      refine wpAny_pure (new h2 L1 (ep + 1) t2 but ⟨⟨_, at2, ⟨ex.1, ex.2.1, ex.2.2⟩, rfl⟩, tab2, led2, ?_⟩ perm)
      unfold SetTable.tooFull at full2
      rw [decide_eq_false_iff_not, f2, fill1] at full2
      rw [len]
      omega
    | true =>
      simp only [Bool.not_false, Bool.and_self, if_true]
      unfold SetTable.tooFull at full2
      rw [decide_eq_true_eq, f2, fill1, m2, mask1] at full2
      have size : ∃ M, SetTable.sizeAbove (SetTable.grown ((L.map (entOf w)).toArray.size + 1)) = M + 1 ∧ MaskOk M ∧ (L.length + 1) * 5 < M * 3 := by
        rw [List.size_toArray, List.length_map]
        rcases B.tab.mok with e | e | e <;> rw [e] at full2 wide
        · have : L.length = 4 := by omega
          rw [this]
          exact ⟨31, size_20, .inr (.inl rfl), by decide⟩
        · have : L.length = 18 := by omega
          rw [this]
          exact ⟨127, size_76, .inr (.inr rfl), by decide⟩
        · omega
      obtain ⟨M, z1, z2, z3⟩ := size
      refine wpAny_bind (laid_anew (s := { s with heap := h2 }) (o := { o with data := .set (L1.map (entOf w)).toArray (ep + 1) t2 }) at2 ⟨ex.1, ex.2.1, ex.2.2⟩ rfl tab2 led2 (by rw [len, m2, mask1]; omega) z1 z2 (by rw [len]; exact z3) (by omega) fun h3 L3 ep3 t3 but3 B3 perm3 => ?_)
      exact wpAny_pure (new h3 L3 ep3 t3 (but.trans but3) B3 (perm3.trans perm))
  have both : ∀ b : Bool, wpAny (model P w) A (do
      let t2 := if b = true then t1 else { t1 with plain := false }
      storeSet a (SetTable.insertAt (L.map (entOf w)).toArray n1 (k.hash w, Value.ref x)) t2
      if (!false && t2.tooFull) = true then setRelay a (SetTable.grown ((L.map (entOf w)).toArray.size + 1))
      return true) Q E s := fun b => by
    cases b with
    | true => exact rest t1 rfl rfl rfl tab1
    | false => exact rest { t1 with plain := false } rfl rfl rfl ⟨tab1.ris, tab1.dm, tab1.sz, tab1.mok, tab1.bd, tab1.reach⟩
  split
  · exact wpAny_bind (hashBy_key k _ 8 A s _ hx.1 both)
  · exact wpAny_bind (wpAny_pure (both true))
end
end Sa

set_option Elab.async false
set_option linter.all false
set_option maxRecDepth 100000
set_option maxHeartbeats 3200000
/-! Kz4: set(xs), xs a list of keys -/
namespace Sa
open PySem PySem.Spec PyProof.Rows L2
/-- few unlike keys -/
def FewKeys (ks : Keys) : Prop := ∀ M : List NestedKey, M.Nodup → (∀ k ∈ M, k ∈ ks.map (·.2)) → M.length + 1 < 64
/-- L has what the first i of ks are, each key once -/
structure Once (ks : Keys) (i : Nat) (L : Keys) : Prop where
  some' : ∀ p ∈ L, ∃ j, j < i ∧ ks[j]? = some p
  all : ∀ j p, j < i → ks[j]? = some p → p.2 ∈ L.map (·.2)
  dif : (L.map (·.2)).Nodup
theorem Once.zero (ks : Keys) : Once ks 0 [] := ⟨fun _ h => (nomatch h), fun _ _ h => absurd h (Nat.not_lt_zero _), List.nodup_nil⟩
theorem Once.same {ks L : Keys} {i : Nat} {p : Addr × NestedKey} (o : Once ks i L) (e : ks[i]? = some p) (old : p.2 ∈ L.map (·.2)) : Once ks (i + 1) L where
  some' := fun q hq => let ⟨j, lt, ej⟩ := o.some' q hq; ⟨j, Nat.lt_succ_of_lt lt, ej⟩
  all := fun j q lt ej => by
    rcases Nat.lt_succ_iff_lt_or_eq.mp lt with lt | rfl
    · exact o.all j q lt ej
    · cases e.symm.trans ej
      exact old
  dif := o.dif
theorem Once.more {ks L L' : Keys} {i : Nat} {p : Addr × NestedKey} (o : Once ks i L) (e : ks[i]? = some p) (new : p.2 ∉ L.map (·.2)) (pm : L'.Perm (p :: L)) : Once ks (i + 1) L' where
  some' := fun q hq => by
    rcases List.mem_cons.mp (pm.mem_iff.mp hq) with rfl | hq
    · exact ⟨i, Nat.lt_succ_self _, e⟩
    · obtain ⟨j, lt, ej⟩ := o.some' q hq
      exact ⟨j, Nat.lt_succ_of_lt lt, ej⟩
  all := fun j q lt ej => by
    refine (pm.map (·.2)).mem_iff.mpr ?_
    rcases Nat.lt_succ_iff_lt_or_eq.mp lt with lt | rfl
    · exact List.mem_cons_of_mem _ (o.all j q lt ej)
    · cases e.symm.trans ej
      exact List.mem_cons_self
  dif := (pm.map (·.2)).nodup_iff.mpr (List.nodup_cons.mpr ⟨new, o.dif⟩)
theorem Once.few {ks L : Keys} {i : Nat} (o : Once ks i L) (few : FewKeys ks) : L.length + 1 < 64 := by
  have z := few (L.map (·.2)) o.dif fun k hk => by
    obtain ⟨q, hq, rfl⟩ := List.mem_map.mp hk
    obtain ⟨j, _, ej⟩ := o.some' q hq
    exact List.mem_map.mpr ⟨q, List.mem_of_getElem? ej, rfl⟩
  simpa using z
/-- the new set -/
abbrev emptySet (w : World) : Obj := { cls := .type "set", dict := none, data := .set #[] 0 (.fresh 0 0 (!w.params.followText "set-order")) }
theorem bears_none {w : World} {h : Heap} {a : Addr} (at' : h.get? a = some (emptySet w)) : Bears w h a [] 0 (.fresh 0 0 (!w.params.followText "set-order")) where
  obj := ⟨_, at', ⟨rfl, rfl, rfl⟩, rfl⟩
  tab := ⟨.nil, rfl, rfl, .inl rfl, fun _ h => (nomatch h), fun i _ _ h => by simp at h⟩
  led := by
    cases e : w.params.followText "set-order" with
    | true => exact .inl rfl
    | false => exact .inr rfl
  wide := (by decide : 0 * 5 < 7 * 3)
section
variable {P : Program} {w : World} {A : Around} {s : Shared}
/-- set.update's loop by an invariant -/
theorem update_by {I S : Addr} {fp wr : List Addr} {G : Array GenState → Array GenState → Prop} {n : Nat} {Pv : Nat → Value → Prop} {St : Nat → Shared → Prop} {R : Result → Shared → Prop} {J : Nat → Shared → Prop} (W : WalksS P w A.in1 I fp wr G n Pv St)
    (keep : ∀ i s s', J i s → Moved wr G s s' → J i s') (step : ∀ i v s, i < n → Pv i v → J i s → St (i + 1) s → ∀ Q : Bool → Shared → Prop, (∀ b s', J (i + 1) s' → St (i + 1) s' → Q b s') → wpAny (model P w) A.in1 (setAdd S v) Q (fun e s' => R (.error e) s') s)
    (fin : ∀ s, J n s → R (.ok (.ret .none)) s) : ∀ (m i : Nat) (s : Shared), i + m = n → St i s → J i s → codeAny (model P w) A (.builtin "set.update.loop" ⟨[.ref S, .ref I], []⟩) R s := by
  intro m
  induction m with
  | zero =>
    intro i s e st j
    cases (show i = n from e)
    refine codeAny_builtin F.entry_set_update_loop ?_
    rw [Around.under_plainId F.plain_set_update_loop _]
    unfold Builtin.«set.update.loop»
    exact wpAny_bind (W.done s _ _ st fun s' mv => wpAny_pure (fin s' (keep _ s s' j mv)))
  | succ m ih =>
    intro i s e st j
    refine codeAny_builtin F.entry_set_update_loop ?_
    rw [Around.under_plainId F.plain_set_update_loop _]
    unfold Builtin.«set.update.loop»
    refine wpAny_bind (W.item i s _ _ (by omega) st fun v s1 hv st1 mv => ?_)
    exact wpAny_bind (wpAny_holding (step i v s1 (by omega) hv (keep i s s1 j mv) st1 _ fun b s2 j2 st2 => wpAny_pure ⟨plainId_quiet F.plain_set_update_loop _, ih (i + 1) s2 (by omega) st2 j2⟩))
/-- calling a type with one thing: what __new__ makes, __init__ fills -/
theorem type_call1 {T newId initId : String} {v : Value} {Q Q1 : Value → Shared → Prop} {E : Value → Shared → Prop} (ft : TypeCalled T newId initId) (args : checkTypeCall T ⟨[v], []⟩ = pure ())
    (new : codeAny (model P w) A.in1 (.call (.builtin newId) ⟨[.type T, v], []⟩) (wants Q1 E) s)
    (init : ∀ obj s1, Q1 obj s1 → s1.TypeIs obj T ∧ codeAny (model P w) A.in1 (.call (.builtin initId) ⟨[obj, v], []⟩) (wants (fun r s2 => r = .none ∧ Q obj s2) E) s1) :
    wpAny (model P w) A (call (.type T) [v]) Q E s := by
  obtain ⟨c, tl, mro⟩ := ft.mro
  have n1 := ft.notType
  have n2 := ft.canCreate
  have made := ft.made
  have sub := ft.sub
  refine wpAny_call (codeAny_of_tree (show wpAny _ _ (callAny (.type T) _) _ _ _ from ?_))
  refine wpAny_pure ⟨Code.quiet_builtin _ (by decide +kernel), codeAny_builtin F.entry_type_call ?_⟩
  rw [Around.under_plain (weight_type_call_type T [v] []) (units_type_call_type T [v] [])]
  unfold Builtin.«type.__call__»
  simp only [n1, n2, Bool.false_eq_true, if_false]
  refine wpAny_bind (wpAny_of_eq args (wpAny_bind (wpAny_of_eq mro ?_)))
  simp only [List.isEmpty_cons, Bool.false_eq_true, if_false]
  refine wpAny_bind (wpAny_of_eq made (wpAny_bind (wpAny_pure (wpAny_bind (wpAny_holding (wpAny_call (codeAny_mono new fun r s1 out => ?_)))))))
  match r, out with
  | .ok (.ret obj), out =>
    obtain ⟨isT, fill⟩ := init obj s1 out
    refine wpAny_bind (wpAny_isInstance isT sub ?_)
    simp only [Bool.not_true, Bool.false_eq_true, if_false]
    refine wpAny_bind (wpAny_holding (wpAny_callSpecial?_slot isT ft.init (wpAny_call (codeAny_mono fill fun r2 s2 out2 => ?_))))
    match r2, out2 with
    | .ok (.ret _), ⟨rfl, q⟩ => exact wpAny_pure q
    | .error e, out2 => exact out2
    | .ok .next, out2 => exact out2.elim
    | .ok .brk, out2 => exact out2.elim
    | .ok .cont, out2 => exact out2.elim
  | .error e, out => exact out
  | .ok .next, out => exact out.elim
  | .ok .brk, out => exact out.elim
  | .ok .cont, out => exact out.elim
/-- some name for a type of the builtins -/
theorem named {T : String} {v : Value} {n : Nat} {Q : String → Shared → Prop} {E : Value → Shared → Prop} (isT : s.TypeIs v T) (other : (Value.type T == Value.type "builtin_function_or_method") = false) (q : ∀ x, Q x s) : wpAny (model P w) A (typeNameOfCut n v) Q E s := by
  unfold typeNameOfCut shownTypeOf
  refine wpAny_bind (wpAny_bind (wpAny_typeOf isT ?_))
  rw [other]
  exact wpAny_pure (wpAny_pure (q _))
/-- __init__ of a new set, from a list -/
theorem init_set {S l : Addr} {items : Array Value} {Q : Value → Shared → Prop} {E : Value → Shared → Prop} (at' : s.heap.get? S = some (emptySet w)) (isL : s.heap.IsList l items)
    (loop : codeAny (model P w) A.in1 (.builtin "set.update.loop" ⟨[.ref S, .ref s.heap.objs.size], []⟩) (wants (fun r s' => Q .none s') E) { s with heap := s.heap.push { cls := .type "list_iterator", data := .fields #[.ref l, .int 0 0] } }) :
    codeAny (model P w) A (.call (.builtin "set.__init__") ⟨[.ref S, .ref l], []⟩) (wants Q E) s := by
  have isS : s.TypeIs (.ref S) "set" := ⟨_, at', rfl⟩
  refine codeAny_call_builtin F.called_set.init.plain F.entry_set_init (check_set_init_1 isS ?_)
  unfold Builtin.«set.__init__» Builtin.Frozenset.updateFrom
  refine wpAny_bind (m := noKeywords _ _) (wpAny_pure (wpAny_bind (named isS (by decide) fun x => wpAny_bind (m := checkCount _ _ _ _) (wpAny_pure (wpAny_bind (m := Builtin.Frozenset.addrOf _) (wpAny_pure ?_))))))
  have isNew : (SetTable.fresh 0 0 (!w.params.followText "set-order")).fits (#[] : Array (Int × Value)).size = true := by cases w.params.followText "set-order" <;> decide +kernel
  refine wpAny_bind (wpAny_bind (m := setState _) (wpAny_setState_of at' rfl isNew (wpAny_pure ?_)))
  rw [if_neg (by simp [SetTable.fill, SetTable.fresh])]
  refine wpAny_bind (wpAny_bind (m := Builtin.Frozenset.isAnySet _) (wpAny_bind (wpAny_isInstance isL.typeIs F.sub_list_set ?_)))
  refine wpAny_isInstance isL.typeIs F.sub_list_frozenset ?_
  rw [if_neg (by decide)]
  refine wpAny_bind (wpAny_typeOf isL.typeIs ?_)
  rw [if_neg (by decide)]
  refine wpAny_bind (wpAny_pyIter_list isL (wpAny_bind (wpAny_runValue (codeAny_mono loop fun r s' out => ?_))))
  match r, out with
  | .ok (.ret _), out => exact wpAny_pure (wpAny_pure out)
  | .error e, out => exact out
  | .ok .next, out => exact out.elim
  | .ok .brk, out => exact out.elim
  | .ok .cont, out => exact out.elim
/-- set(xs), xs a list of keys: each once -/
theorem call_set_keys {E : Value → Shared → Prop} {l : Addr} {items : Array Value} {ks : Keys} {Q : Value → Shared → Prop} (calm : A.handled = none) (isL : s.heap.IsList l items) (isK : items.toList = ks.map fun p => Value.ref p.1) (keys : ∀ p ∈ ks, KeyAt s.heap p.2 p.1)
    (few : FewKeys ks) (room : A.units + 16 < cLine)
    (hQ : ∀ (h' : Heap) (tk : Nat) (L : Keys) (ep : Nat) (t : SetTable), Bears w h' s.heap.objs.size L ep t → Once ks ks.length L → (∀ b o, s.heap.get? b = some o → h'.get? b = some o) → Q (.ref s.heap.objs.size) { s with heap := h', toks := tk }) :
    wpAny (model P w) A (call (.type "set") [.ref l]) Q E s := by
  have many : items.size = ks.length := by simpa using congrArg List.length isK
  have lt : l < s.heap.objs.size := let ⟨_, at', _⟩ := isL; Heap.lt_size at'
  refine type_call1 F.called_set (F.typeCall_set_1 _) (code_set_led1 (.ref l) (Q₁ := fun obj s1 => obj = .ref s.heap.objs.size ∧ s1 = { s with heap := s.heap.push (emptySet w) }) ⟨rfl, rfl⟩) fun obj s1 made => ?_
  obtain ⟨rfl, rfl⟩ := made
  have atS : (s.heap.push (emptySet w)).get? s.heap.objs.size = some (emptySet w) := Heap.get?_push_size _ rfl
  have two : (s.heap.push (emptySet w)).objs.size = s.heap.objs.size + 1 := Heap.size_push ..
  refine ⟨⟨_, atS, rfl⟩, init_set (A := A.in1) (s := { s with heap := s.heap.push (emptySet w) }) atS (isL.push _) ?_⟩
  have W := (Walks.list (prog := P) (w := w) (A := A.in1.in1.in1) calm (s.heap.push (emptySet w)).objs.size l (by rw [two]; exact Nat.ne_of_lt (Nat.lt_succ_of_lt lt)) items).toS
  -- behind i things: what stood ahead of it stands, and the set has these
  refine update_by W (J := fun i s' => (∀ b o, s.heap.get? b = some o → s'.heap.get? b = some o) ∧ (∃ tk, s' = { s with heap := s'.heap, toks := tk }) ∧ ∃ L ep t, Bears w s'.heap s.heap.objs.size L ep t ∧ Once ks i L) ?_ ?_ ?_ items.size 0 _ (Nat.zero_add _) ⟨⟨_, Heap.get?_push_size _ rfl, rfl, rfl⟩, (isL.push _).push _⟩
    ⟨fun b o e => Heap.get?_push_of_some _ (Heap.get?_push_of_some _ e), ⟨s.toks, rfl⟩, [], 0, _, bears_none (Heap.get?_push_of_some _ atS), Once.zero ks⟩
  · rintro i s1 s2 ⟨old, ⟨tk, es⟩, L, ep, t, B, once⟩ mv
    have notI : ∀ b, b < s.heap.objs.size + 1 → b ∉ [(s.heap.push (emptySet w)).objs.size] := fun b hb z => by
      rw [List.mem_singleton.mp z, two] at hb
      exact Nat.lt_irrefl _ hb
    refine ⟨fun b o e => mv.heap b o (notI b (Nat.lt_succ_of_lt (Heap.lt_size e))) (old b o e), ⟨s2.toks, ?_⟩, L, ep, t, ?_, once⟩
    · have e1 : s2.gens = s1.gens := mv.gens
      have e2 := mv.drawn
      have e3 := mv.os
      rw [es] at e1 e2 e3
      cases s2
      cases e1; cases e2; cases e3
      rfl
    · obtain ⟨o, at', r⟩ := B.obj
      exact ⟨⟨o, mv.heap _ _ (notI _ (Nat.lt_succ_self _)) at', r⟩, B.tab, B.led, B.wide⟩
  · rintro i v s1 hi hv ⟨old, ⟨tk, es⟩, L, ep, t, B, once⟩ st1 R hR
    obtain ⟨p, ep', rfl⟩ : ∃ p, ks[i]? = some p ∧ v = .ref p.1 := by
      have z : items.toList[i]? = some v := by simpa using hv
      rw [isK, List.getElem?_map] at z
      obtain ⟨p, e1, e2⟩ := Option.map_eq_some_iff.mp z
      exact ⟨p, e1, e2.symm⟩
    have key : ∀ q ∈ ks, KeyAt s1.heap q.2 q.1 := fun q hq => ⟨NestedIs.at (fun b o _ _ e _ => old b o e) _ _ (keys q hq).1, (keys q hq).2⟩
    have hp := key p (List.mem_of_getElem? ep')
    have own : ∀ q ∈ L, KeyAt s1.heap q.2 q.1 := fun q hq => let ⟨_, _, e⟩ := once.some' q hq; key q (List.mem_of_getElem? e)
    unfold setAdd
    refine wpAny_holding (wpAny_bind (pyHash_key p.2 _ _ s1 _ hp.1 (by have := hp.2; show A.units + 1 + 1 + 1 + p.2.depth < cLine; omega) ?_))
    refine put_key (s := { s1 with toks := s1.toks + p.2.draws }) B own hp (by show A.units + 1 + 1 + 1 + 8 < cLine; omega) (once.few few) (fun mem => ?_) fun out h' L' ep2 t2 but B' pm => ?_
    · refine hR _ _ ⟨old, ⟨s1.toks + p.2.draws, by rw [es]⟩, L, ep, t, B, once.same ep' mem⟩ (W.frame _ s1 _ _ st1 (Nat.le_add_right _ _) fun _ _ _ e => e)
    · have ne : ∀ b o, s.heap.get? b = some o → b ≠ s.heap.objs.size := fun b o e => Nat.ne_of_lt (Heap.lt_size e)
      refine hR _ _ ⟨fun b o e => (but.2 b (ne b o e)).trans (old b o e), ⟨s1.toks + p.2.draws, by rw [es]⟩, L', ep2, t2, B', once.more ep' out pm⟩ (W.frame _ s1 _ _ st1 (Nat.le_add_right _ _) fun b hb o e => (but.2 b fun z => ?_).trans e)
      rw [z, two] at hb
      simp only [List.mem_cons, List.not_mem_nil, or_false] at hb
      rcases hb with z | z
      · exact Nat.ne_of_lt (Nat.lt_succ_self _) z
      · exact Nat.ne_of_gt lt z
  · rintro s1 ⟨old, ⟨tk, es⟩, L, ep, t, B, once⟩
    rw [many] at once
    rw [es]
    exact ⟨rfl, hQ s1.heap tk L ep t B once old⟩
end
end Sa

set_option Elab.async false
set_option linter.all false
set_option maxRecDepth 100000
set_option maxHeartbeats 1600000
/-! Kz5: set(xs) and sorted(set) of nested tuples, as rules of the hand layer -/
namespace Sa
open PySem PySem.Spec PyProof.Rows L2
/-- data as keys -/
abbrev keyOf (p : Addr × PyData) : Addr × NestedKey := (p.1, nk p.2)
/-- the set at a has L, in some table -/
def Held (w : World) (h : Heap) (a : Addr) (L : Keys) : Prop := ∃ ep t, Bears w h a L ep t
/-- such a set, as a tracked thing -/
def KsO (w : World) (a : Addr) (L : Keys) : HO := .ext fun h => Held w h a L
theorem Bears.few {w : World} {h : Heap} {a : Addr} {L : Keys} {ep : Nat} {t : SetTable} (B : Bears w h a L ep t) : L.length < 100 := by
  have := B.wide
  rcases B.tab.mok with e | e | e <;> rw [e] at this <;> omega
theorem Held.tracked {P : Program} {w : World} {H : Hp} {h : Heap} {a : Addr} {L : Keys} (x : Held w h a L) : ObjOk P w H h a (KsO w a L) := by
  refine ⟨x, ?_, fun h1 h2 ⟨ep, t, B⟩ kept => ?_⟩
  · obtain ⟨ep, t, B⟩ := x
    exact B.obj.imp fun o r => r.1
  · obtain ⟨o, at', r⟩ := B.obj
    exact ⟨ep, t, ⟨o, kept o at', r⟩, B.tab, B.led, B.wide⟩
/-- the refs of some pairs in another order: the pairs in another order -/
theorem reorder {α : Type} {f : α → Value} : ∀ {vs : List Value} {L : List α}, vs.Perm (L.map f) → ∃ L' : List α, L'.Perm L ∧ vs = L'.map f := by
  intro vs L pm
  generalize e : L.map f = us at pm
  induction pm generalizing L with
  | nil => exact ⟨[], by rw [List.map_eq_nil_iff.mp e], rfl⟩
  | cons x _ ih =>
    cases L with
    | nil => cases e
    | cons p L =>
      cases e
      obtain ⟨L', pm, rfl⟩ := ih rfl
      exact ⟨p :: L', pm.cons p, rfl⟩
  | swap x y l =>
    match L, e with
    | p :: q :: L, e =>
      cases e
      exact ⟨q :: p :: L, .swap p q L, rfl⟩
  | trans _ _ ih1 ih2 =>
    obtain ⟨L2, pm2, e2⟩ := ih2 e
    obtain ⟨L1, pm1, e1⟩ := ih1 e2.symm
    exact ⟨L1, pm1.trans pm2, e1⟩
theorem each_refs {α β : Type} {R : α → β → Prop} {f : β → α} : ∀ (L : List β), (∀ p ∈ L, R (f p) p) → PySem.W.EachIs R (L.map f) L
  | [], _ => .nil
  | p :: L, h => .cons (h p List.mem_cons_self) (each_refs L fun q hq => h q (List.mem_cons_of_mem _ hq))
theorem refs_each : ∀ {out : List Value} {L : List (Addr × PyData)}, PySem.W.EachIs (fun v b => v = Value.ref b.1) out L → out = L.map fun p => Value.ref p.1
  | [], [], _ => rfl
  | v :: out, p :: L, .cons e r => by
    rw [e, refs_each r]
    rfl
theorem refs_of : ∀ {L : List (Addr × PyData)} {us : List Value}, Vals (L.map fun p => V.ref p.1) us → us = L.map fun p => Value.ref p.1
  | [], us, r => by cases r; rfl
  | p :: L, us, r => by
    cases r with
    | cons r1 r2 =>
      cases r1
      rw [refs_of r2]
      rfl
theorem vals_of : ∀ (L : List (Addr × PyData)), Vals (L.map fun p => V.ref p.1) (L.map fun p => Value.ref p.1)
  | [] => .nil
  | _ :: L => .cons rfl (vals_of L)
section
variable {P : Program} {w : World} {A : Around} {E : Value → Shared → Prop} {s : Shared}
/-- sorted(set): the things of the set as data say -/
theorem sorted_held {a : Addr} {L : List (Addr × PyData)} {Q : Value → Shared → Prop} (calm : A.handled = none) (hK : Held w s.heap a (L.map keyOf)) (reads : ∀ p ∈ L, ∃ as, Reads s.heap (.ref p.1) p.2 as) (alike : PySem.W.AllAlike (L.map (·.2))) (tups : ∀ p ∈ L, ∃ y r, p.2 = .tuple (y :: r))
    (deep : ∀ p ∈ L, A.units + 2 + p.2.depth < cLine)
    (hQ : ∀ s' l (c : Nat) (L' : List (Addr × PyData)), (∀ b o, s.heap.get? b = some o → s'.heap.get? b = some o) → s'.gens = s.gens → s'.os = s.os → s.heap.objs.size ≤ l → L'.Perm L →
      s'.heap.get? l = some (seqObj "list" ((L'.mergeSort (PySem.W.dataLe false (·.2))).map fun q => Value.ref q.1).toArray c) → Q (.ref l) s') :
    wpAny (model P w) A (call (.builtin "sorted") [.ref a]) Q E s := by
  obtain ⟨ep, t, B⟩ := hK
  have few := B.few
  obtain ⟨o, at', ex, dt⟩ := B.obj
  rw [List.length_map] at few
  have vals : ((L.map keyOf).map (entOf w)).toArray.toList.map (·.2) = L.map fun p => Value.ref p.1 := by simp
  have line : ∀ n, n < 100 → n ≤ sizeLine := fun n h => Nat.le_trans (Nat.le_of_lt h) (by decide)
  refine Calls.call_function_entry kind_sorted plain_sorted entry_sorted (args_sorted1 _) ?_
  refine wpAny_bind (m := checkCount "sorted" 1 1 _) (wpAny_pure (wpAny_bind (collect_set (A := A.in1) calm ⟨o, at', ex.1, dt⟩ B.fits (by simp only [List.size_toArray, List.length_map]; unfold scanBound; omega) B.tab.ris B.led fun s1 vs kept grown gens os pm => ?_)))
  rw [vals] at pm
  obtain ⟨L1, pm1, rfl⟩ := reorder pm
  have len := pm1.length_eq
  refine wpAny_bind (wpAny_newList ?_ (by rw [List.length_map, len]; exact line _ few))
  have atL : (s1.heap.push (seqObj "list" (L1.map fun p => Value.ref p.1).toArray 0)).get? s1.heap.objs.size = some (seqObj "list" (L1.map fun p => Value.ref p.1).toArray 0) := Heap.get?_push_size _ rfl
  have old : ∀ b ob, s.heap.get? b = some ob → b < s1.heap.objs.size := fun b ob e => Heap.lt_size (kept b ob e)
  refine wpAny_bind (wpAny_holding (PySem.W.list_sort_data (R := fun v b => v = Value.ref b.1) (enc := fun b : Addr × PyData => b.2) (bs := L1) (s := { s1 with heap := s1.heap.push (seqObj "list" (L1.map fun p => Value.ref p.1).toArray 0) }) atL
    (each_refs L1 fun _ _ => rfl) (each_refs L1 fun p hp => ?_) (fun d1 h1 d2 h2 => alike d1 ((pm1.map (·.2)).mem_iff.mp h1) d2 ((pm1.map (·.2)).mem_iff.mp h2)) (.inl fun d hd => ?_) (by rw [len]; exact line _ few) (fun b hb => deep b (pm1.mem_iff.mp hb)) fun out _ each => ?_))
  · obtain ⟨as, r⟩ := reads p (pm1.mem_iff.mp hp)
    refine ⟨as, PyProof.Rows.Reads.keeps (fun b ob e => Heap.get?_push_of_some _ (kept b ob e)) r, fun z => ?_⟩
    obtain ⟨ob, e⟩ := PyProof.On.reads_mem_get r _ z
    exact Nat.lt_irrefl _ (old _ ob e)
  · obtain ⟨p, hp, rfl⟩ := List.mem_map.mp hd
    exact tups p (pm1.mem_iff.mp hp)
  · cases refs_each each
    obtain ⟨c, at2⟩ := sortedHeap_at (vs := L1.map fun p => Value.ref p.1) (out := ((L1.mergeSort (PySem.W.dataLe false (·.2))).map fun q => Value.ref q.1).toArray) atL
    refine wpAny_pure ⟨_, rfl, hQ _ s1.heap.objs.size c L1 (fun b ob e => ?_) gens os grown pm1 at2⟩
    refine (sortedHeap_old (Nat.ne_of_lt (old b ob e)) (by rw [size_push']; exact Nat.lt_succ_of_lt (old b ob e))).trans ?_
    exact Heap.get?_push_of_some _ (kept b ob e)
end
section
variable {X : Cx}
/-- what a key of a set has to be -/
def KeyOk (K : PySem.W.Frag) (H : Hp) (p : Addr × PyData) : Prop := Dp K H (.ref p.1) p.2 ∧ flat p.2 = true ∧ (nk p.2).depth ≤ 8
/-- set(xs), xs a list of nested tuples: its keys once each -/
def rSetK (K : PySem.W.Frag) (w : World) : List V → Hp → VK → Prop := fun vs H Q => ∃ (l : Addr) (ds : List (Addr × PyData)), vs = [.ref l] ∧ SqL K H l (ds.map fun p => V.ref p.1) ∧ (∀ p ∈ ds, KeyOk K H p) ∧ FewKeys (ds.map keyOf) ∧
  ∀ a (L : List (Addr × PyData)), H a = none → (∀ p ∈ L, p ∈ ds) → (∀ p ∈ ds, nk p.2 ∈ L.map fun q => nk q.2) → (L.map fun q => nk q.2).Nodup → Q (.ref a) (upd H a (KsO w a (L.map keyOf)))
theorem cr_setK (calm : X.calm = true) (hu : X.A.units + 64 < cLine) : CallR X (.type "set") (rSetK X.K X.w) := by
  intro pins s σ H vs us Q I rel ⟨l, ds, ev, hl, keys, few, q⟩
  subst ev
  rw [Vals.ref1 rel]
  obtain ⟨its, rv, isL, _⟩ := I.list hl
  cases refs_of rv
  refine call_set_keys (ks := ds.map keyOf) (I.ok.hd calm) isL.isList (by simp) (fun p hp => ?_) few (by omega) fun h' tk M ep t B once kept => ?_
  · obtain ⟨d, hd, rfl⟩ := List.mem_map.mp hp
    obtain ⟨dp, fl, deep⟩ := keys d hd
    obtain ⟨as, r⟩ := Dp.reads I d.2 _ _ dp (rfl : RelV (.ref d.1) (.ref d.1))
    exact ⟨nk_is d.2 _ _ r fl, deep⟩
  · have from' : ∀ p ∈ M, ∃ d ∈ ds, keyOf d = p := fun p hp => by
      obtain ⟨j, _, ej⟩ := once.some' p hp
      exact List.mem_map.mp (List.mem_of_getElem? ej)
    obtain ⟨L, rfl, sub⟩ : ∃ L : List (Addr × PyData), M = L.map keyOf ∧ ∀ p ∈ L, p ∈ ds := by
      clear B once kept q
      induction M with
      | nil => exact ⟨[], rfl, fun _ no => (nomatch no)⟩
      | cons m M ih =>
        obtain ⟨L, e, sub⟩ := ih fun p hp => from' p (List.mem_cons_of_mem _ hp)
        obtain ⟨d, hd, ed⟩ := from' m List.mem_cons_self
        exact ⟨d :: L, by rw [e, ← ed]; rfl, List.forall_mem_cons.mpr ⟨hd, sub⟩⟩
    refine ⟨.ref s.heap.objs.size, _, I.laid (t' := tk) kept (Nat.le_refl _) (Held.tracked ⟨ep, t, B⟩), rfl, q _ L (I.hok.fresh (Nat.le_refl _)) sub (fun p hp => ?_) ?_⟩
    rotate_left
    · have z := once.dif
      rwa [List.map_map] at z
    obtain ⟨j, jl, ej⟩ := List.getElem_of_mem hp
    have z := once.all j (keyOf p) (by simpa using jl) (by rw [List.getElem?_map, List.getElem?_eq_getElem jl, ej]; rfl)
    simpa using z
/-- sorted of it -/
def rSortK (K : PySem.W.Frag) (w : World) : List V → Hp → VK → Prop := fun vs H Q => ∃ (a : Addr) (L : List (Addr × PyData)), vs = [.ref a] ∧ H a = some (KsO w a (L.map keyOf)) ∧ (∀ p ∈ L, Dp K H (.ref p.1) p.2) ∧ PySem.W.AllAlike (L.map (·.2)) ∧ (∀ p ∈ L, ∃ y r, p.2 = .tuple (y :: r)) ∧ (∀ p ∈ L, p.2.depth ≤ 60) ∧ L.length < 64 ∧
  ∀ p (L' : List (Addr × PyData)), H p = none → L'.Perm L → Q (.ref p) (upd H p (.lst ((L'.mergeSort (PySem.W.dataLe false (·.2))).map fun q => V.ref q.1)))
theorem cr_sortK (calm : X.calm = true) (hu : X.A.units + 64 < cLine) : CallR X (.builtin "sorted") (rSortK X.K X.w) := by
  intro pins s σ H vs us Q I rel ⟨a, L, ev, ha, hd, alike, tups, deep, few, q⟩
  subst ev
  rw [Vals.ref1 rel]
  have held : Held X.w s.heap a (L.map keyOf) := (I.hok a _ ha).1
  refine sorted_held (I.ok.hd calm) held (fun p hp => Dp.reads I p.2 _ _ (hd p hp) (rfl : RelV (.ref p.1) (.ref p.1))) alike tups (fun p hp => by have := deep p hp; omega) fun s' l c L' kept gens os new pm at' => ?_
  have fresh : H l = none := I.hok.fresh new
  have small : ((L'.mergeSort (PySem.W.dataLe false (·.2))).map fun q => V.ref q.1).length ≤ sizeLine := by
    rw [List.length_map, List.length_mergeSort, pm.length_eq]
    exact Nat.le_trans (Nat.le_of_lt few) (by decide)
  obtain ⟨h2, g2, d2, t2, os2⟩ := s'
  cases (show os2 = s.os from os)
  exact ⟨.ref l, _, I.call (ch := []) (g' := g2) (d' := d2) (t' := t2) (Un.laid kept new fresh) (I.hok.laid (o := .lst ((L'.mergeSort (PySem.W.dataLe false (·.2))).map fun q => V.ref q.1)) kept new ⟨small, _, c, vals_of _, at'⟩) (by rw [show g2 = s.gens from gens]; exact I.bare) (fun _ no => (nomatch no)), rfl, q l L' fresh pm⟩
end
end Sa

set_option Elab.async false
set_option linter.all false
set_option maxRecDepth 100000
set_option maxHeartbeats 3200000
/-! Kd1: dicts whose keys are nested tuples, as tracked things -/
namespace Sa
open PySem PySem.Spec PyProof.Rows L2
/-- an entry: the key's place, the key, the value -/
abbrev KEnt := Addr × NestedKey × V
abbrev kdRel (p : KEnt) (q : NestedKey × Addr × Value) : Prop := q.1 = p.2.1 ∧ q.2.1 = p.1 ∧ RelV p.2.2 q.2.2
/-- the dict at a, its keys left out of sight -/
def Kd0 (w : World) (h : Heap) (a : Addr) (L : List KEnt) : Prop := (a == sysModules) = false ∧ L.length ≤ sizeLine ∧ ∃ xs : List (NestedKey × Addr × Value), Paired kdRel L xs ∧
  (∃ o es ep, h.get? a = some o ∧ o.ExactDict ∧ o.data = .dict es ep ∧ es.toList = xs.map fun x => (⟨x.1.hash w, .ref x.2.1, x.2.2⟩ : DictEntry)) ∧ (xs.map (·.1)).Nodup
/-- such a dict, as a tracked thing -/
def KdO (w : World) (a : Addr) (L : List KEnt) : HO := .ext fun h => Kd0 w h a L
/-- what is tracked at a says that such a dict is there -/
def KdAt (w : World) (H : Hp) (a : Addr) (L : List KEnt) : Prop := ∃ p, H a = some (.ext p) ∧ ∀ h, p h → Kd0 w h a L
theorem KdAt.of {w : World} {H : Hp} {a : Addr} {L : List KEnt} (e : H a = some (KdO w a L)) : KdAt w H a L := ⟨_, e, fun _ h => h⟩
theorem kdO_ok {P : Program} {w : World} {H : Hp} {h : Heap} {a : Addr} {L : List KEnt} (x : Kd0 w h a L) : ObjOk P w H h a (KdO w a L) := by
  obtain ⟨z, sm, xs, pr, ⟨o, es, ep, ho, r⟩, nd⟩ := id x
  exact ⟨x, ⟨o, ho⟩, fun h1 h2 q k => let ⟨z, sm, xs, pr, ⟨o, es, ep, ho, r⟩, nd⟩ := q; ⟨z, sm, xs, pr, ⟨o, es, ep, k o ho, r⟩, nd⟩⟩
theorem Kd0.full {P : Program} {w : World} {h : Heap} {a : Addr} {L : List KEnt} (x : Kd0 w h a L) (key : ∀ p ∈ L, KeyAt h p.2.1 p.1) : ∃ xs, Paired kdRel L xs ∧ h.DictOfH (nestedKind P w) a xs := by
  obtain ⟨_, sm, xs, pr, ⟨o, es, ep, ho, ex, hd, he⟩, nd⟩ := x
  refine ⟨xs, pr, o, es, ep, ho, ex, hd, he, ?_, nd⟩
  clear he nd sm
  induction pr with
  | nil => intro x hx; cases hx
  | @cons p q L xs r _ ih =>
    intro x hx
    rcases List.mem_cons.mp hx with z | z
    · rw [z]
      obtain ⟨e1, e2, _⟩ := r
      rw [e1, e2]
      exact key p List.mem_cons_self
    · exact ih (fun p hp => key p (List.mem_cons_of_mem _ hp)) x z
theorem Kd0.of {P : Program} {w : World} {h : Heap} {a : Addr} {L : List KEnt} {xs : List (NestedKey × Addr × Value)} (z : (a == sysModules) = false) (sm : L.length ≤ sizeLine) (pr : Paired kdRel L xs) (hm : h.DictOfH (nestedKind P w) a xs) : Kd0 w h a L := by
  obtain ⟨o, es, ep, ho, ex, hd, he, _, nd⟩ := hm
  exact ⟨z, sm, xs, pr, ⟨o, es, ep, ho, ex, hd, he⟩, nd⟩
/-- what stands at a key; a key stored -/
def kdGet (L : List KEnt) (k : NestedKey) : Option V := (L.find? fun p => decide (p.2.1 = k)).map (·.2.2)
def kdPut (L : List KEnt) (a : Addr) (k : NestedKey) (v : V) : List KEnt := if (kdGet L k).isSome then L.map fun p => if p.2.1 = k then (p.1, p.2.1, v) else p else L ++ [(a, k, v)]
theorem kd_find {k : NestedKey} : ∀ {L : List KEnt} {xs : List (NestedKey × Addr × Value)}, Paired kdRel L xs → (kdGet L k = none ∧ atKey xs k = none) ∨ ∃ v p, kdGet L k = some v ∧ atKey xs k = some p ∧ RelV v p.2
  | _, _, .nil => .inl ⟨rfl, rfl⟩
  | p :: L, q :: xs, .cons ⟨e1, e2, r⟩ t => by
    by_cases h : p.2.1 = k
    · have h' : q.1 = k := e1.trans h
      exact .inr ⟨p.2.2, q.2, by simp [kdGet, h], by simp [atKey, h'], r⟩
    · have h' : ¬ q.1 = k := fun z => h (e1.symm.trans z)
      rcases kd_find t (k := k) with ⟨a, b⟩ | ⟨v, p', a, b, c⟩
      · refine .inl ⟨?_, ?_⟩
        · simpa [kdGet, h] using a
        · simpa [atKey, h'] using b
      · refine .inr ⟨v, p', ?_, ?_, c⟩
        · simpa [kdGet, h] using a
        · simpa [atKey, h'] using b
theorem kd_maps {k : NestedKey} {v : V} {u : Value} (rv : RelV v u) : ∀ {L : List KEnt} {xs : List (NestedKey × Addr × Value)}, Paired kdRel L xs → Paired kdRel (L.map fun p => if p.2.1 = k then (p.1, p.2.1, v) else p) (xs.map (putAt k u))
  | _, _, .nil => .nil
  | p :: L, q :: xs, .cons ⟨e1, e2, r⟩ t => by
    refine .cons ?_ (kd_maps rv t)
    unfold putAt
    dsimp only
    by_cases h : p.2.1 = k
    · rw [if_pos h, if_pos (e1.trans h)]
      exact ⟨e1, e2, rv⟩
    · rw [if_neg h, if_neg (fun z => h (e1.symm.trans z))]
      exact ⟨e1, e2, r⟩
theorem kd_app {L L' : List KEnt} {xs xs' : List (NestedKey × Addr × Value)} (a : Paired kdRel L xs) (b : Paired kdRel L' xs') : Paired kdRel (L ++ L') (xs ++ xs') := by
  induction a with
  | nil => exact b
  | cons r _ ih => exact .cons r ih
theorem kd_stored {L : List KEnt} {xs : List (NestedKey × Addr × Value)} {k : NestedKey} {a : Addr} {v : V} {u : Value} (pr : Paired kdRel L xs) (rv : RelV v u) : Paired kdRel (kdPut L a k v) (storedH xs k a u) := by
  rcases kd_find pr (k := k) with ⟨h1, h2⟩ | ⟨v', p, h1, h2, _⟩
  · rw [storedH_new h2]
    unfold kdPut
    rw [h1, if_neg (by simp)]
    exact kd_app pr (.cons ⟨rfl, rfl, rv⟩ .nil)
  · rw [storedH_old h2]
    unfold kdPut
    rw [h1, if_pos (by rfl)]
    exact kd_maps rv pr
theorem kdPut_len (L : List KEnt) (a : Addr) (k : NestedKey) (v : V) : (kdPut L a k v).length ≤ L.length + 1 := by
  unfold kdPut
  split <;> simp
section
variable {X : Cx} {pins : List (Addr × Obj)} {σ : L2.St} {H : Hp} {s : Shared}
theorem kd_at {a : Addr} {L : List KEnt} (I : Inv X pins σ H s) (e : KdAt X.w H a L) : Kd0 X.w s.heap a L := let ⟨_, h, i⟩ := e; i _ (I.hok a _ h).1
/-- the keys stand -/
def KeysAt (K : PySem.W.Frag) (H : Hp) (L : List KEnt) : Prop := ∀ p ∈ L, ∃ d, Dp K H (.ref p.1) d ∧ flat d = true ∧ nk d = p.2.1 ∧ (nk d).depth ≤ 8
theorem key_is {a : Addr} {d : PyData} (I : Inv X pins σ H s) (hd : Dp X.K H (.ref a) d) (f : flat d = true) (dp : (nk d).depth ≤ 8) : KeyAt s.heap (nk d) a := by
  obtain ⟨as, r⟩ := Dp.reads I d _ _ hd (rfl : RelV (.ref a) (.ref a))
  exact ⟨nk_is d _ as r f, dp⟩
theorem KeysAt.all {L : List KEnt} (I : Inv X pins σ H s) (h : KeysAt X.K H L) : ∀ p ∈ L, KeyAt s.heap p.2.1 p.1 := fun p hp => by
  obtain ⟨d, h1, h2, h3, h4⟩ := h p hp
  rw [← h3]
  exact key_is I h1 h2 h4
theorem not_mods (I : Inv X pins σ H s) : (s.heap.objs.size == sysModules) = false := (dk_empty (P := X.prog) (w := X.w) (H := H) s.heap I.big).2.1
/-- {} -/
def tKdNew (w : World) : TE := fun _ H Q => ∀ p, H p = none → Q (.ref p) (upd H p (KdO w p []))
theorem pe_kdNew {pos : Pos} : PE X (.Dict [] [] pos) (tKdNew X.w) := ⟨fun pins s σ H Q I h => by
  refine wpAny_Dict_empty ⟨.ref s.heap.objs.size, _, I.laid (a := s.heap.objs.size) (o := KdO X.w s.heap.objs.size []) (t' := s.toks) (fun _ _ q => Heap.get?_push_of_some _ q) (Nat.le_refl _) ?_, rfl, h _ (I.hok.fresh (Nat.le_refl _))⟩
  exact kdO_ok (Kd0.of (P := X.prog) (not_mods I) (Nat.zero_le _) .nil (Heap.DictOfH.new _))⟩
theorem kd_type {a : Addr} {L : List KEnt} (I : Inv X pins σ H s) (e : KdAt X.w H a L) : s.TypeIs (.ref a) "dict" ∧ ∃ o, s.heap.get? a = some o ∧ o.dict = none := by
  obtain ⟨_, _, xs, _, ⟨o, es, ep, ho, ex, _⟩, _⟩ := kd_at I e
  exact ⟨⟨o, ho, ex.1⟩, o, ho, ex.2.1⟩
/-- d[k] -/
def rKdIx (K : PySem.W.Frag) (w : World) : R2 := fun x y H Q => ∃ a L b d v, x = .ref a ∧ y = .ref b ∧ KdAt w H a L ∧ KeysAt K H L ∧ Dp K H (.ref b) d ∧ flat d = true ∧ (nk d).depth ≤ 8 ∧ kdGet L (nk d) = some v ∧ Q v H
theorem ix_kd (hu : X.A.units + 64 < cLine) : IxR X (rKdIx X.K X.w) := by
  intro value slice pins s σ H x y v u Q I rx ry h hsub
  obtain ⟨a, L, b, d, r, rfl, rfl, ha, ks, hd, f, dp, hg, q⟩ := h
  cases rx
  cases ry
  obtain ⟨xs, pr, hm⟩ := (kd_at I ha).full (P := X.prog) (ks.all I)
  have key := key_is I hd f dp
  rcases kd_find pr (k := nk d) with ⟨z, _⟩ | ⟨v', p, z, hp, rp⟩
  · rw [hg] at z; cases z
  · rw [hg] at z
    cases z
    have room : (nestedKind X.prog X.w).room X.A.in1 := by show X.A.units + 1 + 8 < cLine; omega
    have go : wpAny (model X.prog X.w) X.A (getItem (.ref a) (.ref b)) (EP X pins σ Q) X.xe s := wpAny_getItem_heap room key hm hp ⟨r, H, I.tok _, rp, q⟩
    exact tail_any (ops := [.ref a, .ref b]) (T := "dict") (kd_type I ha).1 PySem.F.slot_dict_getitem.lookup go hsub
/-- d.get(k, x) -/
def rKdGet (K : PySem.W.Frag) (w : World) (a : Addr) (y z : V) : Hp → VK → Prop := fun H Q => ∃ L b d, y = .ref b ∧ KdAt w H a L ∧ KeysAt K H L ∧ Dp K H (.ref b) d ∧ flat d = true ∧ (nk d).depth ≤ 8 ∧ Q ((kdGet L (nk d)).getD z) H
def tKdGet2 (K : PySem.W.Frag) (w : World) (td ty tx : TE) : TE := fun σ H Q => td σ H fun x H1 => ∃ a, x = .ref a ∧ (∃ L, KdAt w H1 a L) ∧ ty σ H1 fun y H2 => tx σ H2 fun z H3 => rKdGet K w a y z H3 Q
theorem kd_getOr {A : Around} {E : Value → Shared → Prop} {a : Addr} {y z : V} {u r : Value} {Q : VK} (hu : A.units + 64 < cLine) (I : Inv X pins σ H s) (ry : RelV y u) (rz : RelV z r) (h : rKdGet X.K X.w a y z H Q) :
    wpAny (model X.prog X.w) A (call (.builtin "dict.get") [.ref a, u, r]) (EP X pins σ Q) E s := by
  obtain ⟨L, b, d, rfl, ha, ks, hd, f, dp, q⟩ := h
  cases ry
  have k0 := kd_at I ha
  obtain ⟨xs, pr, hm⟩ := k0.full (P := X.prog) (ks.all I)
  have key := key_is I hd f dp
  have room : (nestedKind X.prog X.w).room A.in1 := by show A.units + 1 + 8 < cLine; omega
  refine call_meetsIn F.slot_dict_get hm.typeIs F.entry_dict_get (F.args_dict_get_3 _ _ _) (meetsH_dict_get_default (nestedKind X.prog X.w) a b k0.1 r) ⟨room, nk d, xs, key, hm, ?_⟩
  rcases kd_find pr (k := nk d) with ⟨z1, z2⟩ | ⟨v', p, z1, z2, rp⟩
  · rw [z1] at q
    rw [z2]
    exact ⟨z, H, I.tok _, rz, q⟩
  · rw [z1] at q
    rw [z2]
    exact ⟨v', H, I.tok _, rp, q⟩
theorem pe_kdGet2 {o e f : Expr} {td ty tx : TE} {apos cpos : Pos} (hu : X.A.units + 64 < cLine) (ho : PE X o td) (he : PE X e ty) (hf : PE X f tx) (m : M2 X o "get" apos e f cpos) : PE X (.Call (.Attribute o "get" apos) [e, f] [] cpos) (tKdGet2 X.K X.w td ty tx) := by
  refine ⟨fun pins s σ H Q I h => ?_⟩
  refine wpAny_Call_method m.base m.few m.line PySem.F.plainAttrs_dict PySem.F.slot_dict_get PySem.F.type_dict_get (thn (ho.run pins s σ H _ I h) fun u s1 ⟨x, H1, I1, rx, a, ex, ⟨L, hL⟩, q1⟩ => ?_)
  subst ex
  cases rx
  obtain ⟨t1, o1, t2, t3⟩ := kd_type I1 hL
  refine ⟨t1, fun b e => by cases e; exact ⟨o1, t2, t3⟩, ?_⟩
  rw [m.trees]
  exact Calls.callWith_builtin rfl (Calls.evalArgs_plain (Calls.spliced_cons (thn (he.run pins s1 σ H1 _ I1 q1) fun iv s2 ⟨y, H2, I2, ry, q2⟩ =>
    Calls.spliced_cons (thn (hf.run pins s2 σ H2 _ I2 q2) fun fv s3 ⟨z, H3, I3, rz, q3⟩ => Calls.spliced_nil (kd_getOr hu I3 ry rz q3)))))
/-- d[k] = v -/
def rKdSet (K : PySem.W.Frag) (w : World) : TSet := fun o i v H Q => ∃ a L b d, o = .ref a ∧ i = .ref b ∧ KdAt w H a L ∧ KeysAt K H L ∧ Dp K H (.ref b) d ∧ flat d = true ∧ (nk d).depth ≤ 8 ∧ L.length < sizeLine ∧ Q (upd H a (KdO w a (kdPut L b (nk d) v)))
theorem kd_put {A : Around} {E : Value → Shared → Prop} {Q : Unit → Shared → Prop} {a b : Addr} {L : List KEnt} {d : PyData} {v : V} {u : Value} (hu : A.units + 64 < cLine) (I : Inv X pins σ H s) (ha : KdAt X.w H a L) (ks : KeysAt X.K H L) (hd : Dp X.K H (.ref b) d) (f : flat d = true) (dp : (nk d).depth ≤ 8) (sm : L.length < sizeLine) (rv : RelV v u)
    (q : ∀ s', Inv X pins σ (upd H a (KdO X.w a (kdPut L b (nk d) v))) s' → Q () s') : wpAny (model X.prog X.w) A (setItem (.ref a) (.ref b) u) Q E s := by
  have k0 := kd_at I ha
  obtain ⟨xs, pr, hm⟩ := k0.full (P := X.prog) (ks.all I)
  have key := key_is I hd f dp
  have room : (nestedKind X.prog X.w).room A.in1 := by show A.units + 1 + 8 < cLine; omega
  refine wpAny_setItem_heap (hsz := by rw [← Paired.length pr]; exact k0.2.1) room key hm fun h' hm' sb => q _ ?_
  have pl := kdPut_len L b (nk d) v
  refine I.write (by obtain ⟨_, z, _⟩ := ha; rw [z]; trivial) (.inl rfl) (fun c o hc e => (sb.2 c hc).trans e) ?_ (kdO_ok (Kd0.of (P := X.prog) k0.1 (by omega) (kd_stored pr rv) hm'))
  obtain ⟨o, _, _, e, _⟩ := hm'
  exact ⟨o, e⟩
theorem set_kd (hu : X.A.units + 64 < cLine) : PSet X (rKdSet X.K X.w) := by
  intro pins s σ H o i v ov iv u Q I ro ri rv h
  obtain ⟨a, L, b, d, rfl, rfl, ha, ks, hd, f, dp, sm, q⟩ := h
  cases ro
  cases ri
  exact kd_put hu I ha ks hd f dp sm rv fun s' I' => ⟨_, I', q⟩
theorem psetOr {t t' : TSet} (h : PSet X t) (h' : PSet X t') : PSet X (fun o i v H Q => t o i v H Q ∨ t' o i v H Q) := by
  intro pins s σ H o i v ov iv u Q I ro ri rv q
  rcases q with q | q
  · exact h pins s σ H o i v ov iv u Q I ro ri rv q
  · exact h' pins s σ H o i v ov iv u Q I ro ri rv q
end
end Sa

set_option Elab.async false
set_option linter.all false
set_option maxRecDepth 100000
set_option maxHeartbeats 1000000
/-! Va: readings by value: tuples are data, lists stand in a memory by numbers -/
namespace Va
open PySem PySem.Spec PyProof.Rows L2 Sa

/-- a value: data that never changes, a thing of the memory, the script, a tuple that holds such -/
inductive W where
  | d (x : PyData) | obj (i : Nat) | scr | pack (ws : List W)
/-- a thing of the memory: a list, a set of data, a dict of data by tuples, a dict of data by numbers and texts -/
inductive MO where
  | lst (ws : List W) | kset (ds : List PyData) | dic (es : List (PyData × PyData)) (stamp : Nat) | pot (es : List (Key × PyData))
abbrev Mem := List MO
abbrev Ev := List (Option W)
abbrev EvE := Ev → Mem → Option (W × Mem)
abbrev EvT := Ev → Mem → Option (Bool × Mem)
abbrev EvA := Ev → Mem → Option (List W × Mem)
inductive Out where
  | nx (ρ : Ev) (M : Mem) | rt (w : W) (M : Mem) | bk (ρ : Ev) (M : Mem) | ct (ρ : Ev) (M : Mem)
abbrev EvS := Ev → Mem → Option Out
abbrev EvG := W → Ev → Option Ev
abbrev EvI := Ev → Mem → Option ((List W × List (Nat × MO)) × Mem)
abbrev Fn := List W → Mem → Option (W × Mem)

/-- what is fixed through the law -/
structure Ck where
  K : PySem.W.Frag
  w : World
  T : List Addr
  sa : Addr
  ns : List Int

mutual
inductive Rp (K : PySem.W.Frag) (H : Hp) : V → PyData → Prop
  | non : Rp K H .non .none
  | bl (b : Bool) : Rp K H (.bl b) (.bool b)
  | int (i : Int) : Rp K H (.int i) (.int i)
  | str (x : Str) : Rp K H (.str x) (.str x)
  | tup {a : Addr} {vs : List V} {ds : List PyData} : SqT K H a vs → RpAll K H vs ds → Rp K H (.ref a) (.tuple ds)
inductive RpAll (K : PySem.W.Frag) (H : Hp) : List V → List PyData → Prop
  | nil : RpAll K H [] []
  | cons {v : V} {vs : List V} {d : PyData} {ds : List PyData} : Rp K H v d → RpAll K H vs ds → RpAll K H (v :: vs) (d :: ds)
end
/-- tuples stay -/
def Keep (K : PySem.W.Frag) (H H' : Hp) : Prop := ∀ a vs, SqT K H a vs → SqT K H' a vs
theorem Keep.refl {K : PySem.W.Frag} {H : Hp} : Keep K H H := fun _ _ h => h
theorem Keep.trans {K : PySem.W.Frag} {H H1 H2 : Hp} (a : Keep K H H1) (b : Keep K H1 H2) : Keep K H H2 := fun c vs h => b c vs (a c vs h)
mutual
theorem Rp.keep {K : PySem.W.Frag} {H H' : Hp} (k : Keep K H H') : ∀ {v : V} {d : PyData}, Rp K H v d → Rp K H' v d
  | _, _, .non => .non
  | _, _, .bl b => .bl b
  | _, _, .int i => .int i
  | _, _, .str x => .str x
  | _, _, .tup s r => .tup (k _ _ s) (RpAll.keep k r)
theorem RpAll.keep {K : PySem.W.Frag} {H H' : Hp} (k : Keep K H H') : ∀ {vs : List V} {ds : List PyData}, RpAll K H vs ds → RpAll K H' vs ds
  | _, _, .nil => .nil
  | _, _, .cons a r => .cons (Rp.keep k a) (RpAll.keep k r)
end
mutual
theorem Rp.dp {K : PySem.W.Frag} {H : Hp} : ∀ {v : V} {d : PyData}, Rp K H v d → Dp K H v d
  | _, _, .non => .non
  | _, _, .bl b => .bl b
  | _, _, .int i => .int i
  | _, _, .str x => .str x
  | _, _, .tup s r => .tup s (RpAll.dp r)
theorem RpAll.dp {K : PySem.W.Frag} {H : Hp} : ∀ {vs : List V} {ds : List PyData}, RpAll K H vs ds → DpAll K H vs ds
  | _, _, .nil => .nil
  | _, _, .cons a r => .cons (Rp.dp a) (RpAll.dp r)
end
theorem RpAll.length {K : PySem.W.Frag} {H : Hp} : ∀ {vs : List V} {ds : List PyData}, RpAll K H vs ds → vs.length = ds.length
  | _, _, .nil => rfl
  | _, _, .cons _ r => congrArg (· + 1) (RpAll.length r)
theorem RpAll.get {K : PySem.W.Frag} {H : Hp} : ∀ {vs : List V} {ds : List PyData}, RpAll K H vs ds → ∀ {i : Nat} {d : PyData}, ds[i]? = some d → ∃ v, vs[i]? = some v ∧ Rp K H v d
  | _, _, .nil, i, d, e => by simp at e
  | _, _, .cons a r, 0, d, e => by simp at e; subst e; exact ⟨_, rfl, a⟩
  | _, _, .cons a r, i + 1, d, e => by
    obtain ⟨v, h1, h2⟩ := RpAll.get r (i := i) (d := d) (by simpa using e)
    exact ⟨v, by simpa using h1, h2⟩

mutual
inductive Rw (C : Ck) (φ : Nat → Addr) (n : Nat) (H : Hp) : V → W → Prop
  | d {v : V} {x : PyData} : Rp C.K H v x → Rw C φ n H v (.d x)
  | obj {i : Nat} : i < n → Rw C φ n H (.ref (φ i)) (.obj i)
  | scr : Rw C φ n H (.ref C.sa) .scr
  | pack {a : Addr} {vs : List V} {ws : List W} : SqT C.K H a vs → RwAll C φ n H vs ws → Rw C φ n H (.ref a) (.pack ws)
inductive RwAll (C : Ck) (φ : Nat → Addr) (n : Nat) (H : Hp) : List V → List W → Prop
  | nil : RwAll C φ n H [] []
  | cons {v : V} {vs : List V} {w : W} {ws : List W} : Rw C φ n H v w → RwAll C φ n H vs ws → RwAll C φ n H (v :: vs) (w :: ws)
end
mutual
theorem Rw.move {C : Ck} {φ φ' : Nat → Addr} {n n' : Nat} {H H' : Hp} (k : Keep C.K H H') (e : ∀ i, i < n → φ' i = φ i) (l : n ≤ n') : ∀ {v : V} {w : W}, Rw C φ n H v w → Rw C φ' n' H' v w
  | _, _, .d r => .d (r.keep k)
  | _, _, .obj (i := i) h => by rw [← e i h]; exact .obj (Nat.lt_of_lt_of_le h l)
  | _, _, .scr => .scr
  | _, _, .pack s r => .pack (k _ _ s) (RwAll.move k e l r)
theorem RwAll.move {C : Ck} {φ φ' : Nat → Addr} {n n' : Nat} {H H' : Hp} (k : Keep C.K H H') (e : ∀ i, i < n → φ' i = φ i) (l : n ≤ n') : ∀ {vs : List V} {ws : List W}, RwAll C φ n H vs ws → RwAll C φ' n' H' vs ws
  | _, _, .nil => .nil
  | _, _, .cons a r => .cons (Rw.move k e l a) (RwAll.move k e l r)
end
theorem RwAll.length {C : Ck} {φ : Nat → Addr} {n : Nat} {H : Hp} : ∀ {vs : List V} {ws : List W}, RwAll C φ n H vs ws → vs.length = ws.length
  | _, _, .nil => rfl
  | _, _, .cons _ r => congrArg (· + 1) (RwAll.length r)
theorem RwAll.get {C : Ck} {φ : Nat → Addr} {n : Nat} {H : Hp} : ∀ {vs : List V} {ws : List W}, RwAll C φ n H vs ws → ∀ {i : Nat} {w : W}, ws[i]? = some w → ∃ v, vs[i]? = some v ∧ Rw C φ n H v w
  | _, _, .nil, i, d, e => by simp at e
  | _, _, .cons a r, 0, d, e => by simp at e; subst e; exact ⟨_, rfl, a⟩
  | _, _, .cons a r, i + 1, d, e => by
    obtain ⟨v, h1, h2⟩ := RwAll.get r (i := i) (w := d) (by simpa using e)
    exact ⟨v, by simpa using h1, h2⟩
theorem RwAll.get' {C : Ck} {φ : Nat → Addr} {n : Nat} {H : Hp} : ∀ {vs : List V} {ws : List W}, RwAll C φ n H vs ws → ∀ {i : Nat} {v : V}, vs[i]? = some v → ∃ w, ws[i]? = some w ∧ Rw C φ n H v w
  | _, _, .nil, i, d, e => by simp at e
  | _, _, .cons a r, 0, d, e => by simp at e; subst e; exact ⟨_, rfl, a⟩
  | _, _, .cons a r, i + 1, d, e => by
    obtain ⟨v, h1, h2⟩ := RwAll.get' r (i := i) (v := d) (by simpa using e)
    exact ⟨v, by simpa using h1, h2⟩
theorem RwAll.append {C : Ck} {φ : Nat → Addr} {n : Nat} {H : Hp} : ∀ {vs vs' : List V} {ws ws' : List W}, RwAll C φ n H vs ws → RwAll C φ n H vs' ws' → RwAll C φ n H (vs ++ vs') (ws ++ ws')
  | _, _, _, _, .nil, s => s
  | _, _, _, _, .cons a r, s => .cons a (RwAll.append r s)
theorem RwAll.set {C : Ck} {φ : Nat → Addr} {n : Nat} {H : Hp} {v : V} {w : W} (h : Rw C φ n H v w) : ∀ {vs : List V} {ws : List W} (i : Nat), RwAll C φ n H vs ws → RwAll C φ n H (vs.set i v) (ws.set i w)
  | _, _, _, .nil => .nil
  | _, _, 0, .cons _ r => .cons h r
  | _, _, i + 1, .cons a r => .cons a (RwAll.set h i r)
theorem RwAll.take {C : Ck} {φ : Nat → Addr} {n : Nat} {H : Hp} : ∀ {vs : List V} {ws : List W} (k : Nat), RwAll C φ n H vs ws → RwAll C φ n H (vs.take k) (ws.take k)
  | _, _, 0, _ => by simp; exact .nil
  | _, _, k + 1, .nil => .nil
  | _, _, k + 1, .cons a r => .cons a (RwAll.take k r)
theorem RwAll.drop {C : Ck} {φ : Nat → Addr} {n : Nat} {H : Hp} : ∀ {vs : List V} {ws : List W} (k : Nat), RwAll C φ n H vs ws → RwAll C φ n H (vs.drop k) (ws.drop k)
  | _, _, 0, r => r
  | _, _, k + 1, .nil => .nil
  | _, _, k + 1, .cons a r => RwAll.drop k r
theorem RwAll.reverse {C : Ck} {φ : Nat → Addr} {n : Nat} {H : Hp} : ∀ {vs : List V} {ws : List W}, RwAll C φ n H vs ws → RwAll C φ n H vs.reverse ws.reverse
  | _, _, .nil => .nil
  | _, _, .cons a r => by simp only [List.reverse_cons]; exact (RwAll.reverse r).append (.cons a .nil)
theorem RpAll.rw {C : Ck} {φ : Nat → Addr} {n : Nat} {H : Hp} : ∀ {vs : List V} {ds : List PyData}, RpAll C.K H vs ds → RwAll C φ n H vs (ds.map W.d)
  | _, _, .nil => .nil
  | _, _, .cons a r => .cons (.d a) (RpAll.rw r)

/-- the data of values, where all are data -/
def datas : List W → Option (List PyData)
  | [] => some []
  | .d x :: ws => (datas ws).map (x :: ·)
  | _ :: _ => none
theorem datas_map : ∀ (ds : List PyData), datas (ds.map W.d) = some ds
  | [] => rfl
  | d :: ds => by
    show (datas (ds.map W.d)).map (d :: ·) = _
    rw [datas_map ds]; rfl
theorem datas_eq : ∀ {ws : List W} {ds : List PyData}, datas ws = some ds → ws = ds.map W.d
  | [], ds, e => by cases e; rfl
  | .d x :: ws, ds, e => by
    simp only [datas, Option.map_eq_some_iff] at e
    obtain ⟨ds', h, rfl⟩ := e
    rw [datas_eq h]; rfl
  | .obj i :: ws, ds, e => by cases e
  | .scr :: ws, ds, e => by cases e
  | .pack _ :: ws, ds, e => by cases e
theorem RwAll.rp {C : Ck} {φ : Nat → Addr} {n : Nat} {H : Hp} : ∀ {vs : List V} {ds : List PyData}, RwAll C φ n H vs (ds.map W.d) → RpAll C.K H vs ds
  | [], [], _ => .nil
  | _ :: _, d :: ds, .cons (.d a) r => .cons a (RwAll.rp r)
/-- a tuple of values -/
def mkTup (ws : List W) : W := match datas ws with
  | some ds => .d (.tuple ds)
  | none => .pack ws
/-- the items of a tuple -/
def tupOf : W → Option (List W)
  | .d (.tuple ds) => some (ds.map W.d)
  | .pack ws => some ws
  | _ => none
@[simp] theorem tupOf_mk (ds : List PyData) : tupOf (.d (.tuple ds)) = some (ds.map W.d) := rfl
theorem Rw.tup {C : Ck} {φ : Nat → Addr} {n : Nat} {H : Hp} {a : Addr} {vs : List V} {ws : List W} (s : SqT C.K H a vs) (r : RwAll C φ n H vs ws) : Rw C φ n H (.ref a) (mkTup ws) := by
  unfold mkTup
  split
  · rename_i ds e
    rw [datas_eq e] at r
    exact .d (.tup s r.rp)
  · exact .pack s r
theorem Rw.un {C : Ck} {φ : Nat → Addr} {n : Nat} {H : Hp} {v : V} {w : W} {ws : List W} (r : Rw C φ n H v w) (e : tupOf w = some ws) : ∃ a vs, v = .ref a ∧ SqT C.K H a vs ∧ RwAll C φ n H vs ws := by
  cases r with
  | d r =>
    cases r with
    | tup s r => cases e; exact ⟨_, _, rfl, s, r.rw⟩
    | non => cases e
    | bl b => cases e
    | int i => cases e
    | str x => cases e
  | obj h => cases e
  | scr => cases e
  | pack s r => cases e; exact ⟨_, _, rfl, s, r⟩

/-- the entries of a dict stand for these -/
inductive DicR (K : PySem.W.Frag) (H : Hp) : List KEnt → List (PyData × PyData) → Prop
  | nil : DicR K H [] []
  | cons {a : Addr} {v : V} {L : List KEnt} {k d : PyData} {es : List (PyData × PyData)} : Rp K H (.ref a) k → flat k = true → (nk k).depth ≤ 8 → Rp K H v d → DicR K H L es → DicR K H ((a, nk k, v) :: L) ((k, d) :: es)
theorem DicR.keep {K : PySem.W.Frag} {H H' : Hp} (k : Keep K H H') {L : List KEnt} {es : List (PyData × PyData)} (h : DicR K H L es) : DicR K H' L es := by
  induction h with
  | nil => exact .nil
  | cons a f d v _ ih => exact .cons (a.keep k) f d (v.keep k) ih
/-- the same by numbers and texts -/
inductive PotR (K : PySem.W.Frag) (H : Hp) : List (Key × V) → List (Key × PyData) → Prop
  | nil : PotR K H [] []
  | cons {k : Key} {v : V} {L : List (Key × V)} {d : PyData} {es : List (Key × PyData)} : Rp K H v d → PotR K H L es → PotR K H ((k, v) :: L) ((k, d) :: es)
theorem PotR.keep {K : PySem.W.Frag} {H H' : Hp} (k : Keep K H H') {L : List (Key × V)} {es : List (Key × PyData)} (h : PotR K H L es) : PotR K H' L es := by
  induction h with
  | nil => exact .nil
  | cons a _ ih => exact .cons (a.keep k) ih
/-- the thing of the memory stands at a -/
def RO (C : Ck) (φ : Nat → Addr) (n : Nat) (H : Hp) (a : Addr) : MO → Prop
  | .lst ws => ∃ vs, H a = some (.lst vs) ∧ RwAll C φ n H vs ws
  | .kset ds => ∃ L : List (Addr × PyData), H a = some (KsO C.w a (L.map keyOf)) ∧ L.map (·.2) = ds ∧ ∀ p ∈ L, Rp C.K H (.ref p.1) p.2
  | .dic es _ => ∃ L : List KEnt, KdAt C.w H a L ∧ DicR C.K H L es
  | .pot es => ∃ L : List (Key × V), H a = some (.dK L) ∧ PotR C.K H L es
structure Sim (C : Ck) (φ : Nat → Addr) (M : Mem) (H : Hp) : Prop where
  ob : ∀ i mo, M[i]? = some mo → RO C φ M.length H (φ i) mo
  inj : ∀ i j, i < M.length → j < M.length → φ i = φ j → i = j
  tab : ∀ P ∈ C.T, Tb H P
  scr : Scr C.K H C.sa (C.ns.map V.int)
theorem RO.some {C : Ck} {φ : Nat → Addr} {n : Nat} {H : Hp} {a : Addr} {mo : MO} (h : RO C φ n H a mo) : ∃ o, H a = some o ∧ ((∃ vs, o = .lst vs) ∨ (∃ p, o = .ext p) ∨ ∃ L, o = .dK L) := by
  cases mo with
  | lst ws => obtain ⟨vs, h, _⟩ := h; exact ⟨_, h, .inl ⟨_, rfl⟩⟩
  | kset ds => obtain ⟨L, h, _⟩ := h; exact ⟨_, h, .inr (.inl ⟨_, rfl⟩)⟩
  | dic es n => obtain ⟨L, ⟨p, h, _⟩, _⟩ := h; exact ⟨_, h, .inr (.inl ⟨_, rfl⟩)⟩
  | pot es => obtain ⟨L, h, _⟩ := h; exact ⟨_, h, .inr (.inr ⟨_, rfl⟩)⟩
theorem RO.move {C : Ck} {φ φ' : Nat → Addr} {n n' : Nat} {H H' : Hp} {a : Addr} {mo : MO} (k : Keep C.K H H') (e : ∀ i, i < n → φ' i = φ i) (l : n ≤ n') (same : H' a = H a) (h : RO C φ n H a mo) : RO C φ' n' H' a mo := by
  cases mo with
  | lst ws => obtain ⟨vs, h, r⟩ := h; exact ⟨vs, by rw [same]; exact h, r.move k e l⟩
  | kset ds => obtain ⟨L, h, r, q⟩ := h; exact ⟨L, by rw [same]; exact h, r, fun p hp => (q p hp).keep k⟩
  | dic es n => obtain ⟨L, ⟨p, h, q⟩, r⟩ := h; exact ⟨L, ⟨p, by rw [same]; exact h, q⟩, r.keep k⟩
  | pot es => obtain ⟨L, h, r⟩ := h; exact ⟨L, by rw [same]; exact h, r.keep k⟩
/-- dicts stay dicts; where the stamp is the same, nothing happened to one -/
def DicsOn (φ : Nat → Addr) (M : Mem) (H : Hp) (M' : Mem) (H' : Hp) : Prop := ∀ i es n, M[i]? = some (.dic es n) → ∃ es' n', M'[i]? = some (.dic es' n') ∧ n ≤ n' ∧ (n' = n → es' = es ∧ H' (φ i) = H (φ i))
theorem DicsOn.same {φ : Nat → Addr} {M M' : Mem} {H H' : Hp} (hM : ∀ i es n, M[i]? = some (.dic es n) → M'[i]? = some (.dic es n) ∧ H' (φ i) = H (φ i)) : DicsOn φ M H M' H' := fun i es n e => ⟨es, n, (hM i es n e).1, Nat.le_refl _, fun _ => ⟨rfl, (hM i es n e).2⟩⟩
/-- from one state on to another -/
structure Step (C : Ck) (φ : Nat → Addr) (M : Mem) (H : Hp) (φ' : Nat → Addr) (M' : Mem) (H' : Hp) : Prop where
  ext : ∀ i, i < M.length → φ' i = φ i
  le : M.length ≤ M'.length
  keep : Keep C.K H H'
  sim : Sim C φ' M' H'
  dics : DicsOn φ M H M' H'
section
variable {C : Ck} {φ φ' φ2 : Nat → Addr} {M M' M2 : Mem} {H H' H2 : Hp}
theorem Step.refl (s : Sim C φ M H) : Step C φ M H φ M H := ⟨fun _ _ => rfl, Nat.le_refl _, .refl, s, .same fun _ _ _ e => ⟨e, rfl⟩⟩
theorem Step.trans (a : Step C φ M H φ' M' H') (b : Step C φ' M' H' φ2 M2 H2) : Step C φ M H φ2 M2 H2 :=
  ⟨fun i h => (b.ext i (Nat.lt_of_lt_of_le h a.le)).trans (a.ext i h), Nat.le_trans a.le b.le, a.keep.trans b.keep, b.sim, fun i es n e => by
    obtain ⟨es1, n1, e1, l1, s1⟩ := a.dics i es n e
    obtain ⟨es2, n2, e2, l2, s2⟩ := b.dics i es1 n1 e1
    refine ⟨es2, n2, e2, Nat.le_trans l1 l2, fun z => ?_⟩
    obtain ⟨p1, p2⟩ := s1 (by omega)
    obtain ⟨q1, q2⟩ := s2 (by omega)
    have hi : i < M.length := (List.getElem?_eq_some_iff.mp e).1
    rw [a.ext i hi] at q2
    exact ⟨q1.trans p1, q2.trans p2⟩⟩
theorem Rw.step {v : V} {w : W} (r : Rw C φ M.length H v w) (s : Step C φ M H φ' M' H') : Rw C φ' M'.length H' v w := r.move s.keep s.ext s.le
theorem RwAll.step {vs : List V} {ws : List W} (r : RwAll C φ M.length H vs ws) (s : Step C φ M H φ' M' H') : RwAll C φ' M'.length H' vs ws := r.move s.keep s.ext s.le
/-- a new place beside what is there -/
theorem keep_new {p : Addr} {o : HO} (np : H p = none) : Keep C.K H (upd H p o) := fun a vs h => by
  rcases h with (h | ⟨ob, h⟩) | h
  · exact .inl (.inl (by rw [upd_ne (ne_of_none h np)]; exact h))
  · exact .inl (.inr ⟨ob, by rw [upd_ne (ne_of_none h np)]; exact h⟩)
  · exact .inr h
theorem scr_new {a p : Addr} {o : HO} {xs : List V} (np : H p = none) (h : Scr C.K H a xs) : Scr C.K (upd H p o) a xs := h.keep fun ob e => by
  rw [upd_ne (ne_of_none e np)]; exact e
theorem tab_new {P p : Addr} {o : HO} (np : H p = none) (h : Tb H P) : Tb (upd H p o) P := by
  obtain ⟨ps, e, r⟩ := h
  exact ⟨ps, by rw [upd_ne (ne_of_none e np)]; exact e, r⟩
theorem Sim.at (S : Sim C φ M H) {i : Nat} {mo : MO} (e : M[i]? = some mo) : RO C φ M.length H (φ i) mo := S.ob i mo e
theorem Sim.tracked (S : Sim C φ M H) {i : Nat} (h : i < M.length) : ∃ o, H (φ i) = some o ∧ ((∃ vs, o = .lst vs) ∨ (∃ p, o = .ext p) ∨ ∃ L, o = .dK L) := (S.ob i _ (List.getElem?_eq_getElem h)).some
/-- the heap grows by something that isn't of the memory -/
theorem Step.tup (S : Sim C φ M H) {p : Addr} {o : HO} (np : H p = none) : Step C φ M H φ M (upd H p o) := by
  refine ⟨fun _ _ => rfl, Nat.le_refl _, keep_new np, ⟨fun i mo e => ?_, S.inj, fun P hP => tab_new np (S.tab P hP), scr_new np S.scr⟩, .same fun i es n e => ⟨e, upd_ne (let ⟨_, h, _⟩ := (S.ob i _ e).some; ne_of_none h np)⟩⟩
  have r := S.ob i mo e
  obtain ⟨o', h, _⟩ := r.some
  exact r.move (keep_new np) (fun _ _ => rfl) (Nat.le_refl _) (upd_ne (ne_of_none h np))
def phi (φ : Nat → Addr) (n : Nat) (p : Addr) : Nat → Addr := fun i => if i = n then p else φ i
theorem phi_at {n : Nat} {p : Addr} : phi φ n p n = p := if_pos rfl
theorem phi_lt {n : Nat} {p : Addr} {i : Nat} (h : i < n) : phi φ n p i = φ i := if_neg (Nat.ne_of_lt h)
/-- a new thing of the memory -/
theorem Step.new (S : Sim C φ M H) {p : Addr} {o : HO} {mo : MO} (np : H p = none) (hr : ∀ φ', (∀ i, i < M.length → φ' i = φ i) → RO C φ' (M.length + 1) (upd H p o) p mo) : Step C φ M H (phi φ M.length p) (M ++ [mo]) (upd H p o) := by
  refine ⟨fun i h => phi_lt h, by simp, keep_new np, ⟨fun i mo' e => ?_, fun i j hi hj e => ?_, fun P hP => tab_new np (S.tab P hP), scr_new np S.scr⟩, .same fun i es n e => ⟨by rw [List.getElem?_append_left (List.getElem?_eq_some_iff.mp e).1]; exact e, upd_ne (let ⟨_, h, _⟩ := (S.ob i _ e).some; ne_of_none h np)⟩⟩
  · have hl : (M ++ [mo]).length = M.length + 1 := by simp
    rw [hl]
    by_cases h : i < M.length
    · rw [List.getElem?_append_left h] at e
      have r := S.ob i mo' e
      obtain ⟨o', ho, _⟩ := r.some
      rw [phi_lt h]
      exact r.move (keep_new np) (fun k hk => phi_lt hk) (Nat.le_succ _) (upd_ne (ne_of_none ho np))
    · have hi : i = M.length := by
        have := (List.getElem?_eq_some_iff.mp e).1
        simp at this
        omega
      subst hi
      rw [List.getElem?_append_right (Nat.le_refl _)] at e
      simp at e
      subst e
      rw [phi_at]
      exact hr _ fun k hk => phi_lt hk
  · simp at hi hj
    by_cases h1 : i < M.length <;> by_cases h2 : j < M.length
    · rw [phi_lt h1, phi_lt h2] at e; exact S.inj i j h1 h2 e
    · have : j = M.length := by omega
      subst this
      rw [phi_lt h1, phi_at] at e
      obtain ⟨o', ho, _⟩ := S.tracked h1
      rw [e, np] at ho; cases ho
    · have : i = M.length := by omega
      subst this
      rw [phi_lt h2, phi_at] at e
      obtain ⟨o', ho, _⟩ := S.tracked h2
      rw [← e, np] at ho; cases ho
    · omega
theorem Step.list (S : Sim C φ M H) {p : Addr} {vs : List V} {ws : List W} (np : H p = none) (r : RwAll C φ M.length H vs ws) : Step C φ M H (phi φ M.length p) (M ++ [.lst ws]) (upd H p (.lst vs)) :=
  Step.new S np fun φ' e => ⟨vs, upd_same, r.move (keep_new np) e (Nat.le_succ _)⟩
theorem Rw.new {p : Addr} {mo : MO} : Rw C (phi φ M.length p) (M ++ [mo]).length H (.ref p) (.obj M.length) := by
  have h : Rw C (phi φ M.length p) (M ++ [mo]).length H (.ref (phi φ M.length p M.length)) (.obj M.length) := .obj (by simp)
  rw [phi_at] at h
  exact h
/-- a list of the memory is another one from now on -/
theorem Step.set (S : Sim C φ M H) {i : Nat} {ws ws' : List W} {vs' : List V} (e : M[i]? = some (.lst ws)) (r : RwAll C φ M.length H vs' ws') : Step C φ M H φ (M.set i (.lst ws')) (upd H (φ i) (.lst vs')) := by
  obtain ⟨vs, hv, _⟩ := S.ob i _ e
  have hi : i < M.length := (List.getElem?_eq_some_iff.mp e).1
  have kp : Keep C.K H (upd H (φ i) (.lst vs')) := fun a us h => by
    rcases h with (h | ⟨ob, h⟩) | h
    · exact .inl (.inl (by rw [upd_ne (ne_of h hv (by intro z; cases z))]; exact h))
    · exact .inl (.inr ⟨ob, by rw [upd_ne (ne_of h hv (by intro z; cases z))]; exact h⟩)
    · exact .inr h
  refine ⟨fun _ _ => rfl, by simp, kp, ⟨fun j mo ej => ?_, fun j k hj hk ejk => S.inj j k (by simpa using hj) (by simpa using hk) ejk, fun P hP => ?_, S.scr.keep fun ob e2 => ?_⟩, .same fun j es n ej => ?_⟩
  · rw [List.length_set]
    by_cases h : j = i
    · subst h
      rw [List.getElem?_set_self hi] at ej
      cases ej
      exact ⟨vs', upd_same, r.move kp (fun _ _ => rfl) (Nat.le_refl _)⟩
    · rw [List.getElem?_set_ne (Ne.symm h)] at ej
      have hj : j < M.length := (List.getElem?_eq_some_iff.mp ej).1
      exact (S.ob j mo ej).move kp (fun _ _ => rfl) (Nat.le_refl _) (upd_ne fun z => h (S.inj j i hj hi z))
  · obtain ⟨ps, h, q⟩ := S.tab P hP
    exact ⟨ps, by rw [upd_ne (ne_of h hv (by intro z; cases z))]; exact h, q⟩
  · rw [upd_ne (ne_of e2 hv (by intro z; cases z))]; exact e2
  · have ne : j ≠ i := fun z => by rw [z, e] at ej; cases ej
    have hj : j < M.length := (List.getElem?_eq_some_iff.mp ej).1
    exact ⟨by rw [List.getElem?_set_ne (Ne.symm ne)]; exact ej, upd_ne fun z => ne (S.inj j i hj hi z)⟩
/-- a table grew -/
theorem Step.tab (S : Sim C φ M H) {P : Addr} (hP : P ∈ C.T) (t : TbTo P H H') : Step C φ M H φ M H' := by
  obtain ⟨ps, hp, _⟩ := S.tab P hP
  have off : ∀ {b : Addr} {o : HO}, H b = some o → (∀ ps, o ≠ .tbl ps) → H' b = some o := fun {b o} h n => by
    by_cases z : b = P
    · rw [z, hp] at h
      exact absurd (Option.some.inj h).symm (n ps)
    · rw [t.2 b z]; exact h
  have kp : Keep C.K H H' := fun a us h => by
    rcases h with (h | ⟨ob, h⟩) | h
    · exact .inl (.inl (off h fun _ z => nomatch z))
    · exact .inl (.inr ⟨ob, off h fun _ z => nomatch z⟩)
    · exact .inr h
  have same : ∀ {j : Nat} {mo : MO}, RO C φ M.length H (φ j) mo → H' (φ j) = H (φ j) := fun {j mo} r => by
    obtain ⟨o, ho, hk⟩ := r.some
    rw [ho]
    refine off ho fun ps z => ?_
    rcases hk with ⟨vs, rfl⟩ | ⟨p, rfl⟩ | ⟨L, rfl⟩ <;> cases z
  refine ⟨fun _ _ => rfl, Nat.le_refl _, kp, ⟨fun j mo ej => ?_, S.inj, fun R hR => ?_, S.scr.keep fun ob e2 => off e2 fun _ z => nomatch z⟩, .same fun j es n ej => ⟨ej, same (S.ob j _ ej)⟩⟩
  · have r := S.ob j mo ej
    have e := same r
    exact r.move kp (fun _ _ => rfl) (Nat.le_refl _) e
  · by_cases z : R = P
    · rw [z]; exact t.1
    · obtain ⟨qs, h', r'⟩ := S.tab R hR
      exact ⟨qs, by rw [t.2 R z]; exact h', r'⟩
end
end Va

set_option Elab.async false
set_option linter.all false
set_option maxRecDepth 100000
/-! Sa.It: zip of two or three, enumerate, over lists and tuples in any mix -/
namespace Sa
open PySem PySem.Spec PyProof.Rows L2

/-- what a tuple-giving walk of the library is worth to a loop -/
structure Giver (X : Cx) (it : Addr) (fp : List Addr) (i : Nat) (h : Heap) (tn : Nat → Heap → Prop) (out : List V → Prop) : Prop where
  how : ∃ fp' wr n Pt St Mid, WalksT X.prog X.w X.A it fp' wr n Pt St Mid ∧ St i h ∧ i < n ∧ (∀ b ∈ wr, b ∈ fp) ∧ (∀ h', St (i + 1) h' → tn (i + 1) h') ∧
    ∀ vals : Array Value, Pt i vals → ∃ vs : List V, Vals vs vals.toList ∧ vs.length ≤ sizeLine ∧ out vs
structure Ender (X : Cx) (it : Addr) (fp : List Addr) (h : Heap) : Prop where
  how : ∃ fp' wr n Pt St Mid, WalksT X.prog X.w X.A it fp' wr n Pt St Mid ∧ St n h ∧ ∀ b ∈ wr, b ∈ fp

theorem turn_gives {P : Program} {w : World} {K : PySem.W.Frag} {elts : List Expr} {kk : Nat} {tpos : Pos} {J : It} {fp : List Addr} {it : Addr} {tn : Nat → Heap → Prop}
    (mem : it ∈ fp) (obj : ∀ i h, tn i h → ∀ b ∈ fp, ∃ o, h.get? b = some o ∧ ∀ v, o.data ≠ .cell v)
    (keep : ∀ i h h', tn i h → (∀ b ∈ fp, ∀ o, h.get? b = some o → h'.get? b = some o) → tn i h')
    (step : ∀ X : Cx, X.prog = P → X.w = w → X.K = K → X.calm = true → ∀ i pins s σ H, Inv X pins σ H s → tn i s.heap → J.go i H →
      Giver X it fp i s.heap tn fun vs => ∀ T, H T = none → J.yld i H (.ref T) (upd H T (.tup vs)))
    (last : ∀ X : Cx, X.prog = P → X.w = w → X.K = K → X.calm = true → ∀ i pins s σ H, Inv X pins σ H s → tn i s.heap → J.stop i H → Ender X it fp s.heap)
    (self : ∀ (A : Around) (i : Nat) (s : Shared) (Q : Value → Shared → Prop) (E : Value → Shared → Prop), tn i s.heap → Q (.ref it) s → wpAny (model P w) A (pyIter (.ref it)) Q E s) :
    Turn P w K (.Tuple elts kk tpos) J fp it tn where
  mem := mem
  obj := obj
  keep := keep
  self := self
  item := by
    intro X hP hw hK hc i pins s σ H E I hf st hg
    obtain ⟨fp', wr, n, Pt, St, Mid, W, hst, hlt, hsub, hnext, hout⟩ := (step X hP hw hK hc i pins s σ H I st hg).how
    subst hP hw hK
    refine W.item i s _ _ hlt hst fun T vals h' tk hP hT hTup hm hk => ⟨.ref T, rfl, ?_⟩
    refine W.go elts kk tpos i T { s with heap := h', toks := tk } _ _ hm fun h2 hst2 hk2 => ?_
    obtain ⟨vs, rel, small, hy⟩ := hout vals hP
    have hn : H T = none := I.hok.fresh hT
    have hTup2 : h2.IsTuple T vals := hTup.at fun o e => hk2 T o (W.apart i T h' hm) e
    have fpOld : ∀ b ∈ fp, b < s.heap.objs.size := fun b hb => by
      obtain ⟨o, e, _⟩ := obj i s.heap st b hb
      exact Heap.lt_size e
    have new : ObjOk X.prog X.w (upd H T (.tup vs)) h2 T (.tup vs) := ⟨small, vals.toList, rel, by rw [Array.toArray_toList]; exact hTup2⟩
    have J1 : Inv X pins σ (upd H T (.tup vs)) { s with heap := h2, toks := tk } :=
      I.turnedNew (t' := tk) (ch := fp) (fun b o hb e => hk2 b o (fun z => hb (hsub b z)) (hk b o (fun z => hb (hsub b z)) e)) hf hT new
    refine ⟨.ref T, _, J1, rfl, hy T hn, hnext h2 hst2, fun b hb => ?_⟩
    rw [upd_ne (Nat.ne_of_lt (Nat.lt_of_lt_of_le (fpOld b hb) hT))]
    exact (hf b hb).1
  done := by
    intro X hP hw hK hc i pins s σ H E I hf st hg
    obtain ⟨fp', wr, n, Pt, St, Mid, W, hst, hsub⟩ := (last X hP hw hK hc i pins s σ H I st hg).how
    subst hP hw hK
    exact W.done s _ _ hst fun h' tk hk => ⟨rfl, I.turnedL (t' := tk) (ch := fp) (fun b o hb e => hk b o (fun z => hb (hsub b z)) e) hf⟩

/-! ### a list or a tuple, by a mark -/
def SqB (K : PySem.W.Frag) (H : Hp) (b : Bool) (a : Addr) (xs : List V) : Prop := match b with
  | true => SqL K H a xs
  | false => SqT K H a xs
def ItrB (h : Heap) (b : Bool) (it a : Addr) (i : Nat) : Prop := match b with
  | true => h.IsListIter it a i
  | false => h.IsTupleIter it a i
def HasB (h : Heap) (b : Bool) (a : Addr) (items : Array Value) : Prop := match b with
  | true => h.IsList a items
  | false => h.IsTuple a items
def objB (b : Bool) (a : Addr) : Obj := match b with
  | true => { cls := .type "list_iterator", data := .fields #[.ref a, .int 0 0] }
  | false => { cls := .type "tuple_iterator", data := .fields #[.ref a, .int 0 0] }
theorem beginsB (b : Bool) (a : Addr) (items : Array Value) : Begins (.ref a) (objB b a) fun h => HasB h b a items := by
  cases b with
  | true => exact begins_list a items
  | false => exact begins_tuple a items
theorem itrB_new {h : Heap} {b : Bool} {it a : Addr} (e : h.get? it = some (objB b a)) : ItrB h b it a 0 := by
  cases b with
  | true => exact ⟨_, e, rfl, rfl⟩
  | false => exact ⟨_, e, rfl, rfl⟩
theorem ItrB.at {h h' : Heap} {b : Bool} {it a : Addr} {i : Nat} (x : ItrB h b it a i) (k : ∀ o, h.get? it = some o → h'.get? it = some o) : ItrB h' b it a i := by
  cases b with
  | true => exact Heap.IsListIter.at x k
  | false => exact Heap.IsTupleIter.at x k
theorem ItrB.obj {h : Heap} {b : Bool} {it a : Addr} {i : Nat} (x : ItrB h b it a i) : ∃ o, h.get? it = some o ∧ ∀ v, o.data ≠ .cell v := by
  cases b with
  | true =>
    obtain ⟨o, e, _, d⟩ := (show h.IsListIter it a i from x)
    exact ⟨o, e, fun v z => by rw [d] at z; cases z⟩
  | false =>
    obtain ⟨o, e, _, d⟩ := (show h.IsTupleIter it a i from x)
    exact ⟨o, e, fun v z => by rw [d] at z; cases z⟩
theorem drawsB {P : Program} {w : World} {A : Around} (hh : A.handled = none) (b : Bool) (it a : Addr) (ne : a ≠ it) (items : Array Value) :
    Draws P w A it [it, a] items.size (fun i v => items[i]? = some v) (fun i h => ItrB h b it a i ∧ HasB h b a items) := by
  cases b with
  | true => exact .list hh it a ne items
  | false => exact .tuple hh it a ne items
section
variable {X : Cx} {pins : List (Addr × Obj)} {σ : L2.St} {H : Hp} {s : Shared}
theorem seqB (I : Inv X pins σ H s) {b : Bool} {a : Addr} {xs : List V} (h : SqB X.K H b a xs) : ∃ its : List Value, Vals xs its ∧ HasB s.heap b a its.toArray ∧ xs.length ≤ sizeLine ∧ a < s.heap.objs.size := by
  cases b with
  | true =>
    obtain ⟨its, r, p, z⟩ := I.list h
    exact ⟨its, r, p.isList, z, p.lt⟩
  | false =>
    obtain ⟨its, r, p, z⟩ := I.tuple h
    obtain ⟨o, e, _⟩ := id p
    exact ⟨its, r, p, z, Heap.lt_size e⟩
theorem injB (I : Inv X pins σ H s) {b : Bool} {a : Addr} {xs ys : List V} (h : SqB X.K H b a xs) (h2 : SqB X.K H b a ys) : xs = ys := by
  cases b with
  | true => exact I.list_inj h h2
  | false => exact I.tuple_inj h h2
end

/-! ### zip of three -/
def It3 (K : PySem.W.Frag) (b1 b2 b3 : Bool) (a1 a2 a3 : Addr) : It :=
  ⟨fun i H => ∃ xs ys zs x y z, SqB K H b1 a1 xs ∧ SqB K H b2 a2 ys ∧ SqB K H b3 a3 zs ∧ xs[i]? = some x ∧ ys[i]? = some y ∧ zs[i]? = some z,
   fun i H v H' => ∃ T x y z, v = .ref T ∧ H T = none ∧ H' = upd H T (.tup [x, y, z]) ∧ (∀ xs, SqB K H b1 a1 xs → xs[i]? = some x) ∧ (∀ ys, SqB K H b2 a2 ys → ys[i]? = some y) ∧ (∀ zs, SqB K H b3 a3 zs → zs[i]? = some z),
   fun i H => ∃ xs ys zs, SqB K H b1 a1 xs ∧ SqB K H b2 a2 ys ∧ SqB K H b3 a3 zs ∧ i ≤ xs.length ∧ i ≤ ys.length ∧ i ≤ zs.length ∧ (i = xs.length ∨ i = ys.length ∨ i = zs.length)⟩
def tn3 (b1 b2 b3 : Bool) (a1 a2 a3 z TI TO i1 i2 i3 : Addr) (i : Nat) (h : Heap) : Prop :=
  IsZip h z TI TO .none ∧ IsTupOf3 h TI (.ref i1) (.ref i2) (.ref i3) ∧ (∃ x y u, IsTupOf3 h TO x y u) ∧ ItrB h b1 i1 a1 i ∧ ItrB h b2 i2 a2 i ∧ ItrB h b3 i3 a3 i
theorem turn_zip3 {P : Program} {w : World} {K : PySem.W.Frag} {elts : List Expr} {kk : Nat} {tpos : Pos} {b1 b2 b3 : Bool} {a1 a2 a3 z TI TO i1 i2 i3 : Addr} (S : ZipSep3 z TI TO i1 i2 i3 [i1, a1] [i2, a2] [i3, a3])
    (n1 : a1 ≠ i1) (n2 : a2 ≠ i2) (n3 : a3 ≠ i3) :
    Turn P w K (.Tuple elts kk tpos) (It3 K b1 b2 b3 a1 a2 a3) [z, TI, TO, i1, i2, i3] z (tn3 b1 b2 b3 a1 a2 a3 z TI TO i1 i2 i3) := by
  refine turn_gives (by simp) (fun i h st c hc => ?_) (fun i h h' st k => ?_) (fun X hP hw hK hc i pins s σ H I st hg => ?_) (fun X hP hw hK hc i pins s σ H I st hg => ?_) (fun A i s Q E st h => wpAny_pyIter_zip st.1 h)
  · obtain ⟨hz, hTI, ⟨x, y, u, hTO⟩, q1, q2, q3⟩ := st
    have e' : c = z ∨ c = TI ∨ c = TO ∨ c = i1 ∨ c = i2 ∨ c = i3 := by simpa using hc
    rcases e' with q | q | q | q | q | q
    · rw [q]; exact ⟨_, hz, fun v => nofun⟩
    · rw [q]; exact ⟨_, hTI, fun v => nofun⟩
    · rw [q]; exact ⟨_, hTO, fun v => nofun⟩
    · rw [q]; exact q1.obj
    · rw [q]; exact q2.obj
    · rw [q]; exact q3.obj
  · obtain ⟨hz, hTI, ⟨x, y, u, hTO⟩, q1, q2, q3⟩ := st
    exact ⟨k z (by simp) _ hz, k TI (by simp) _ hTI, ⟨x, y, u, k TO (by simp) _ hTO⟩, q1.at fun o e => k i1 (by simp) o e, q2.at fun o e => k i2 (by simp) o e, q3.at fun o e => k i3 (by simp) o e⟩
  · obtain ⟨xs, ys, zs, x, y, u, s1, s2, s3, e1, e2, e3⟩ := hg
    subst hK
    obtain ⟨its1, r1, p1, z1, _⟩ := seqB I s1
    obtain ⟨its2, r2, p2, z2, _⟩ := seqB I s2
    obtain ⟨its3, r3, p3, z3, _⟩ := seqB I s3
    obtain ⟨v1, g1, rv1⟩ := r1.get e1
    obtain ⟨v2, g2, rv2⟩ := r2.get e2
    obtain ⟨v3, g3, rv3⟩ := r3.get e3
    have hh : X.A.in1.handled = none := I.ok.hd hc
    obtain ⟨hz, hTI, hTO, q1, q2, q3⟩ := st
    refine ⟨_, _, _, _, _, _, WalksT.zipD3 S (drawsB hh b1 i1 a1 n1 its1.toArray) (drawsB hh b2 i2 a2 n2 its2.toArray) (drawsB hh b3 i3 a3 n3 its3.toArray), ⟨hz, hTI, hTO, ⟨q1, p1⟩, ⟨q2, p2⟩, ⟨q3, p3⟩⟩, ?_, fun c hcm => ?_, fun h' st' => ?_, fun vals hv => ?_⟩
    · have l1 := (List.getElem?_eq_some_iff.mp g1).1
      have l2 := (List.getElem?_eq_some_iff.mp g2).1
      have l3 := (List.getElem?_eq_some_iff.mp g3).1
      simp only [List.size_toArray]
      omega
    · have e' : c = z ∨ c = TO ∨ c = i1 ∨ c = i2 ∨ c = i3 := by simpa using hcm
      rcases e' with q | q | q | q | q <;> simp [q]
    · obtain ⟨a, b, c, d1, d2, d3⟩ := st'
      exact ⟨a, b, c, d1.1, d2.1, d3.1⟩
    · obtain ⟨w1, w2, w3, h1, h2, h3, rfl⟩ := hv
      have f1 : w1 = v1 := by simp only [List.getElem?_toArray, g1] at h1; exact (Option.some.inj h1).symm
      have f2 : w2 = v2 := by simp only [List.getElem?_toArray, g2] at h2; exact (Option.some.inj h2).symm
      have f3 : w3 = v3 := by simp only [List.getElem?_toArray, g3] at h3; exact (Option.some.inj h3).symm
      subst f1 f2 f3
      refine ⟨[x, y, u], .cons rv1 (.cons rv2 (.cons rv3 .nil)), by show 3 ≤ sizeLine; decide, fun T hT => ⟨T, x, y, u, rfl, hT, rfl, fun l hl => ?_, fun l hl => ?_, fun l hl => ?_⟩⟩
      · rw [injB I hl s1]; exact e1
      · rw [injB I hl s2]; exact e2
      · rw [injB I hl s3]; exact e3
  · obtain ⟨xs, ys, zs, s1, s2, s3, k1, k2, k3, hend⟩ := hg
    subst hK
    obtain ⟨its1, r1, p1, z1, _⟩ := seqB I s1
    obtain ⟨its2, r2, p2, z2, _⟩ := seqB I s2
    obtain ⟨its3, r3, p3, z3, _⟩ := seqB I s3
    have l1 := r1.length
    have l2 := r2.length
    have l3 := r3.length
    have hh : X.A.in1.handled = none := I.ok.hd hc
    obtain ⟨hz, hTI, hTO, q1, q2, q3⟩ := st
    have en : min (min its1.toArray.size its2.toArray.size) its3.toArray.size = i := by
      simp only [List.size_toArray]
      omega
    refine ⟨_, _, _, _, _, _, WalksT.zipD3 S (drawsB hh b1 i1 a1 n1 its1.toArray) (drawsB hh b2 i2 a2 n2 its2.toArray) (drawsB hh b3 i3 a3 n3 its3.toArray), ?_, fun c hcm => ?_⟩
    · rw [en]
      exact ⟨hz, hTI, hTO, ⟨q1, p1⟩, ⟨q2, p2⟩, ⟨q3, p3⟩⟩
    · have e' : c = z ∨ c = TO ∨ c = i1 ∨ c = i2 ∨ c = i3 := by simpa using hcm
      rcases e' with q | q | q | q | q <;> simp [q]

def iZip3 (K : PySem.W.Frag) (ta : TA) : TI := fun σ H R => ta σ H fun vs H1 => ∃ a1 a2 a3 b1 b2 b3 xs ys zs, vs = [.ref a1, .ref a2, .ref a3] ∧ SqB K H1 b1 a1 xs ∧ SqB K H1 b2 a2 ys ∧ SqB K H1 b3 a3 zs ∧ R (It3 K b1 b2 b3 a1 a2 a3) H1
theorem pi_zip3 {X : Cx} {e e2 e3 : Expr} {ta : TA} {p pos tpos : Pos} {elts : List Expr} {kk : Nat} (hg : Gl X "zip") (hm : X.mg "zip" = none) (ha : PA X [e, e2, e3] ta)
    (hs : starEach [e, e2, e3] X.env = (false, eval e X.env) :: starEach [e2, e3] X.env := by rfl) (hpl : (backTo pos (starEach [e2, e3] X.env)).any (·.1) = false := by rfl) :
    PI X (.Tuple elts kk tpos) (.Call (.Name "zip" p) [e, e2, e3] [] pos) (iZip3 X.K ta) := by
  refine ⟨fun pins s σ H R I h => ?_⟩
  refine Call_ (ld_blt I hg hm PyProof.Rows.boot_zip (PyProof.Rows.callWith_type1 (thn (ha.run pos pins s σ H _ I h) fun us s1 ⟨vs, H1, I1, rel, q⟩ => ?_) hs hpl))
  obtain ⟨a1, a2, a3, b1, b2, b3, xs, ys, zs, ex, q1, q2, q3, hR⟩ := q
  subst ex
  obtain ⟨its1, _, p1, _, lt1⟩ := seqB I1 q1
  obtain ⟨its2, _, p2, _, lt2⟩ := seqB I1 q2
  obtain ⟨its3, _, p3, _, lt3⟩ := seqB I1 q3
  cases rel with
  | cons r rel =>
    cases rel with
    | cons r' rel =>
      cases rel with
      | cons r'' rel =>
        cases rel
        cases r
        cases r'
        cases r''
        refine zip_begins3 (beginsB b1 a1 its1.toArray) (beginsB b2 a2 its2.toArray) (beginsB b3 a3 its3.toArray) p1 p2 p3 fun h' hz hTI hTO o1 o2 o3 hsz hk => wpAny_pyIter_zip hz ?_
        have I2 : Inv X pins σ H1 { s1 with heap := h' } := I1.kept (t' := s1.toks) hk
        refine ⟨s1.heap.objs.size + 5, [s1.heap.objs.size + 5, s1.heap.objs.size + 3, s1.heap.objs.size + 4, s1.heap.objs.size, s1.heap.objs.size + 1, s1.heap.objs.size + 2], _, _, H1, rfl, I2,
          turn_zip3 (b1 := b1) (b2 := b2) (b3 := b3) (zip_sep3 (N := s1.heap.objs.size) (fp1 := [a1]) (fp2 := [a2]) (fp3 := [a3]) (fun b hb => by rw [List.mem_singleton.mp hb]; exact lt1) (fun b hb => by rw [List.mem_singleton.mp hb]; exact lt2) (fun b hb => by rw [List.mem_singleton.mp hb]; exact lt3))
            (Nat.ne_of_lt lt1) (Nat.ne_of_lt (Nat.lt_succ_of_lt lt2)) (Nat.ne_of_lt (Nat.lt_succ_of_lt (Nat.lt_succ_of_lt lt3))),
          ⟨hz, hTI, ⟨_, _, _, hTO⟩, itrB_new o1, itrB_new o2, itrB_new o3⟩, fun c hcm => ?_, hR⟩
        have hle : s1.heap.objs.size ≤ c := by
          have e' : c = s1.heap.objs.size + 5 ∨ c = s1.heap.objs.size + 3 ∨ c = s1.heap.objs.size + 4 ∨ c = s1.heap.objs.size ∨ c = s1.heap.objs.size + 1 ∨ c = s1.heap.objs.size + 2 := by simpa using hcm
          rcases e' with q | q | q | q | q | q <;> rw [q] <;> first | exact Nat.le_refl _ | exact Nat.le_add_right _ _
        exact I1.fpOk hle (I1.hok.fresh hle)
end Sa

set_option Elab.async false
set_option linter.all false
set_option maxRecDepth 100000
/-! Sa.En: enumerate of a list or a tuple -/
namespace Sa
open PySem PySem.Spec PyProof.Rows L2

/-- enumerate(v), v any thing that can be walked: the walk's own object, and enumerate's -/
theorem enum_made {prog : Program} {w : World} {A : Around} {E : Value → Shared → Prop} {s : Shared} {v : Value} {o : Obj} {Hs : Heap → Prop} (B : Begins v o Hs) (there : Hs s.heap) {Q : PySem.Fin → Shared → Prop}
    (q : Q (.done (.ret (.ref (s.heap.objs.size + 1)))) { s with heap := (s.heap.push o).push { cls := .type "enumerate", data := .fields #[.none, .bool false, .ref s.heap.objs.size, rawInt 0, .none, .none] } }) :
    wpAny (model prog w) A (Builtin.«enumerate.__new__» ⟨[.type "enumerate", v], []⟩) Q E s := by
  have ofType : isType (.type "enumerate") = pure true := rfl
  have two : (s.heap.push o).objs.size = s.heap.objs.size + 1 := Heap.size_push ..
  -- whichever way the thing is bound
  have rest : wpAny (model prog w) A (do
      let it ← pyIter v
      ret (← Builtin.SmallTypes.newRecord (.type "enumerate") (Builtin.SmallTypes.ownedTupleFields ++ [it, rawInt 0, .none, .none]))) Q E s := by
    refine wpAny_bind (B.iter prog w _ _ s _ there (wpAny_bind (m := newObj _ (.fields #[.none, .bool false, .ref s.heap.objs.size, rawInt 0, .none, .none])) (wpAny_newObj_type (wpAny_pure ?_))))
    rw [two]
    exact q
  refine wpAny_bind (m := Builtin.SmallTypes.newClass "enumerate" _) (wpAny_bind (wpAny_of_eq ofType (wpAny_bind (wpAny_of_eq sub_enumerate (wpAny_pure ?_)))))
  refine wpAny_bind (m := Builtin.SmallTypes.calledThroughType _) (wpAny_bind (wpAny_stack_any fun st => wpAny_pure ?_))
  have go : ∀ (short : Bool) (f : Value × Option Value → Sem PySem.Fin) (m1 m2 : Sem (Value × Option Value)), m1 = pure (v, none) → m2 = pure (v, none) → (f (v, none) = do
      let it ← pyIter v
      ret (← Builtin.SmallTypes.newRecord (.type "enumerate") (Builtin.SmallTypes.ownedTupleFields ++ [it, rawInt 0, .none, .none]))) → wpAny (model prog w) A (if short = true then m1 >>= f else m2 >>= f) Q E s := by
    rintro short f m1 m2 rfl rfl e
    rw [← e] at rest
    split <;> exact wpAny_bind (wpAny_pure rest)
  exact go _ _ _ _ rfl rfl rfl
theorem enum1 {prog : Program} {w : World} {A : Around} {E : Value → Shared → Prop} {s : Shared} {v : Value} {o : Obj} {Hs : Heap → Prop} {Q : Value → Shared → Prop} (B : Begins v o Hs) (there : Hs s.heap)
    (h : ∀ h', IsEnum h' (s.heap.objs.size + 1) s.heap.objs.size 0 .none → h'.get? s.heap.objs.size = some o → (∀ b u, s.heap.get? b = some u → h'.get? b = some u) → Q (.ref (s.heap.objs.size + 1)) { s with heap := h' }) :
    wpAny (model prog w) A (call (.type "enumerate") [v]) Q E s := by
  have meets : Meets (Builtin.«enumerate.__new__» ⟨[.type "enumerate", v], []⟩) fun _ R s => Hs s.heap ∧
      R (.ok (.ret (.ref (s.heap.objs.size + 1)))) { s with heap := (s.heap.push o).push { cls := .type "enumerate", data := .fields #[.none, .bool false, .ref s.heap.objs.size, rawInt 0, .none, .none] } } :=
    .of_wp fun _ _ _ _ _ ⟨there, q⟩ => enum_made B there ⟨_, rfl, q⟩
  have at' := Heap.get?_push_size (s.heap.push o) (o := { cls := .type "enumerate", data := .fields #[.none, .bool false, .ref s.heap.objs.size, rawInt 0, .none, .none] }) rfl
  rw [Heap.size_push] at at'
  refine callType_new F.called_enumerate (by decide) (F.typeCall_enumerate_1 _) (F.newCall_enumerate_1 _) (fun _ => F.args_object_init_2 _ _) F.entry_enumerate_new meets ⟨there, ⟨_, at', rfl⟩, ?_⟩
  exact h _ at' (Heap.get?_push_of_some _ (Heap.get?_push_size _ B.free)) fun _ _ e => Heap.get?_push_of_some _ (Heap.get?_push_of_some _ e)

/-- the turns of enumerate -/
def ItE (K : PySem.W.Frag) (b : Bool) (a : Addr) : It :=
  ⟨fun i H => ∃ xs x, SqB K H b a xs ∧ xs[i]? = some x,
   fun i H v H' => ∃ T x, v = .ref T ∧ H T = none ∧ H' = upd H T (.tup [.int i, x]) ∧ ∀ xs, SqB K H b a xs → xs[i]? = some x,
   fun i H => ∃ xs, SqB K H b a xs ∧ i = xs.length⟩
theorem turn_enumB {P : Program} {w : World} {K : PySem.W.Frag} {elts : List Expr} {kk : Nat} {tpos : Pos} {b : Bool} {a e it : Addr} (n1 : e ≠ it) (n2 : a ≠ it) (n3 : e ≠ a) :
    Turn P w K (.Tuple elts kk tpos) (ItE K b a) [e, it] e (fun i h => (∃ old, IsEnum h e it (0 + (i : Int)) old) ∧ ItrB h b it a i) := by
  refine turn_gives (by simp) (fun i h st c hc => ?_) (fun i h h' st k => ?_) (fun X hP hw hK hc i pins s σ H I st hg => ?_) (fun X hP hw hK hc i pins s σ H I st hg => ?_) (fun A i s Q E st h => ?_)
  · obtain ⟨⟨old, he⟩, q⟩ := st
    have e' : c = e ∨ c = it := by simpa using hc
    rcases e' with z | z
    · rw [z]; exact ⟨_, he, fun v => nofun⟩
    · rw [z]; exact q.obj
  · obtain ⟨⟨old, he⟩, q⟩ := st
    exact ⟨⟨old, k e (by simp) _ he⟩, q.at fun o x => k it (by simp) o x⟩
  · obtain ⟨xs, x, sq, ex⟩ := hg
    subst hK
    obtain ⟨its, rel, has, _, _⟩ := seqB I sq
    obtain ⟨v, g, rv⟩ := rel.get ex
    have hh : X.A.in1.handled = none := I.ok.hd hc
    obtain ⟨he, q⟩ := st
    refine ⟨_, _, _, _, _, _, WalksT.enumFrom 0 (drawsB hh b it a n2 its.toArray) e n1 (by simp [n1, n3]) (by simp), ⟨he, q, has⟩, ?_, fun c hcm => hcm, fun h' st' => ⟨st'.1, st'.2.1⟩, fun vals hv => ?_⟩
    · have l := (List.getElem?_eq_some_iff.mp g).1
      simpa using l
    · obtain ⟨t, y, hy, rfl⟩ := hv
      have f : y = v := by simp only [List.getElem?_toArray, g] at hy; exact (Option.some.inj hy).symm
      subst f
      refine ⟨[.int i, x], .cons ⟨t, by rw [Int.zero_add]⟩ (.cons rv .nil), by show 2 ≤ sizeLine; decide, fun T hT => ⟨T, x, rfl, hT, rfl, fun l hl => ?_⟩⟩
      rw [injB I hl sq]; exact ex
  · obtain ⟨xs, sq, en⟩ := hg
    subst hK
    obtain ⟨its, rel, has, _, _⟩ := seqB I sq
    have hh : X.A.in1.handled = none := I.ok.hd hc
    have l := rel.length
    obtain ⟨he, q⟩ := st
    refine ⟨_, _, _, _, _, _, WalksT.enumFrom 0 (drawsB hh b it a n2 its.toArray) e n1 (by simp [n1, n3]) (by simp), ?_, fun c hcm => hcm⟩
    have en2 : its.toArray.size = i := by
      simp only [List.size_toArray]
      omega
    rw [en2]
    exact ⟨he, q, has⟩
  · obtain ⟨⟨old, he⟩, _⟩ := st
    exact wpAny_pyIter_enum he h
def iEnB (K : PySem.W.Frag) (ta : TA) : TI := fun σ H R => ta σ H fun vs H1 => ∃ a b xs, vs = [.ref a] ∧ SqB K H1 b a xs ∧ R (ItE K b a) H1
theorem pi_enumB {X : Cx} {e : Expr} {ta : TA} {p pos tpos : Pos} {elts : List Expr} {kk : Nat} (hg : Gl X "enumerate") (hm : X.mg "enumerate" = none) (ha : PA X [e] ta)
    (hb : bootBuiltins "enumerate" = some (.type "enumerate") := by decide +kernel)
    (hs : starEach [e] X.env = (false, eval e X.env) :: starEach [] X.env := by rfl) (hpl : (backTo pos (starEach [] X.env)).any (·.1) = false := by rfl) :
    PI X (.Tuple elts kk tpos) (.Call (.Name "enumerate" p) [e] [] pos) (iEnB X.K ta) := by
  refine ⟨fun pins s σ H R I h => ?_⟩
  refine Call_ (ld_blt I hg hm hb (PyProof.Rows.callWith_type1 (thn (ha.run pos pins s σ H _ I h) fun us s1 ⟨vs, H1, I1, rel, q⟩ => ?_) hs hpl))
  obtain ⟨a, b, xs, ex, sq, hR⟩ := q
  subst ex
  obtain ⟨its, _, has, _, lt⟩ := seqB I1 sq
  cases rel with
  | cons r rel =>
    cases rel
    cases r
    refine enum1 (beginsB b a its.toArray) has fun h' he o1 hk => wpAny_pyIter_enum he ?_
    have I2 : Inv X pins σ H1 { s1 with heap := h' } := I1.kept (t' := s1.toks) hk
    refine ⟨s1.heap.objs.size + 1, [s1.heap.objs.size + 1, s1.heap.objs.size], _, _, H1, rfl, I2, turn_enumB (b := b) (a := a) (Nat.succ_ne_self _) (Nat.ne_of_lt lt) (Nat.ne_of_gt (Nat.lt_succ_of_lt lt)), ⟨⟨_, he⟩, itrB_new o1⟩, fun c hcm => ?_, hR⟩
    have hle : s1.heap.objs.size ≤ c := by
      have e' : c = s1.heap.objs.size + 1 ∨ c = s1.heap.objs.size := by simpa using hcm
      rcases e' with q | q <;> rw [q] <;> first | exact Nat.le_refl _ | exact Nat.le_add_right _ _
    exact I1.fpOk hle (I1.hok.fresh hle)
end Sa

set_option Elab.async false
set_option linter.all false
set_option maxRecDepth 100000
/-! Sa.Walk: zip of three and enumerate as walks -/
namespace Sa
open PySem PySem.Spec PyProof.Rows L2
theorem walk_zip3 {K : PySem.W.Frag} {b1 b2 b3 : Bool} {a1 a2 a3 : Addr} {xs ys zs : List V} (e2 : xs.length = ys.length) (e3 : xs.length = zs.length) :
    Walk (It3 K b1 b2 b3 a1 a2 a3) xs.length (fun H => SqB K H b1 a1 xs ∧ SqB K H b2 a2 ys ∧ SqB K H b3 a3 zs)
      (fun i H v H' => ∃ T x y z, v = .ref T ∧ H T = none ∧ H' = upd H T (.tup [x, y, z]) ∧ xs[i]? = some x ∧ ys[i]? = some y ∧ zs[i]? = some z) where
  goes := fun i H hi ⟨q1, q2, q3⟩ => ⟨xs, ys, zs, _, _, _, q1, q2, q3, List.getElem?_eq_getElem hi, List.getElem?_eq_getElem (by omega), List.getElem?_eq_getElem (by omega)⟩
  stops := fun H ⟨q1, q2, q3⟩ => ⟨xs, ys, zs, q1, q2, q3, Nat.le_refl _, by omega, by omega, .inl rfl⟩
  yields := fun i H v H' hi ⟨q1, q2, q3⟩ ⟨T, x, y, z, ev, nT, eH, f1, f2, f3⟩ => ⟨T, x, y, z, ev, nT, eH, f1 xs q1, f2 ys q2, f3 zs q3⟩
theorem walk_enumB {K : PySem.W.Frag} {b : Bool} {a : Addr} {xs : List V} :
    Walk (ItE K b a) xs.length (fun H => SqB K H b a xs) (fun i H v H' => ∃ T x, v = .ref T ∧ H T = none ∧ H' = upd H T (.tup [.int i, x]) ∧ xs[i]? = some x) where
  goes := fun i H hi q => ⟨xs, _, q, List.getElem?_eq_getElem hi⟩
  stops := fun H q => ⟨xs, q, rfl⟩
  yields := fun i H v H' hi q ⟨T, x, ev, nT, eH, f⟩ => ⟨T, x, ev, nT, eH, f xs q⟩
end Sa

set_option Elab.async false
set_option linter.all false
set_option maxRecDepth 100000
set_option maxHeartbeats 1600000
/-! Sa.Sl: slices of tuples by steps other than one, and t[::-1] -/
namespace Sa
open PySem PySem.Spec PyProof.Rows L2 Builtin.Slice
/-- n things of xs from lo on, by steps of k -/
def picked {α : Type} (xs : List α) (lo k : Int) (n : Nat) : List α := (List.range n).filterMap fun (i : Nat) => xs[(lo + (i : Int) * k).toNat]?
/-- what a slice of xs has -/
def cutBy {α : Type} (xs : List α) (a b : Option Int) (k : Int) : List α := picked xs (sliceAdjust a b k xs.length).1 k (slicePlaces (sliceAdjust a b k xs.length).1 (sliceAdjust a b k xs.length).2 k)
theorem picked_back {α : Type} (xs : List α) : ∀ n : Nat, n ≤ xs.length → picked xs ((n : Int) - 1) (-1) n = (xs.take n).reverse
  | 0, _ => rfl
  | n + 1, le => by
    have more := picked_back xs n (by omega)
    unfold picked at more ⊢
    have at0 : (((n + 1 : Nat) : Int) - 1 + ((0 : Nat) : Int) * -1).toNat = n := by omega
    have on : ∀ i : Nat, ((n + 1 : Nat) : Int) - 1 + ((i + 1 : Nat) : Int) * -1 = (n : Int) - 1 + (i : Int) * -1 := fun i => by omega
    rw [List.range_succ_eq_map, List.filterMap_cons, List.filterMap_map, at0, List.getElem?_eq_getElem (by omega), List.take_succ_eq_append_getElem (by omega), List.reverse_append, ← more]
    show _ :: _ = _ :: _
    congr 2
    funext i
    show xs[(((n + 1 : Nat) : Int) - 1 + ((i + 1 : Nat) : Int) * -1).toNat]? = _
    rw [on]
theorem cut_back {α : Type} (xs : List α) : cutBy xs none none (-1) = xs.reverse := by
  have e : sliceAdjust none none (-1) (xs.length : Int) = ((xs.length : Int) - 1, -1) := by simp [sliceAdjust]
  have n : slicePlaces ((xs.length : Int) - 1) (-1) (-1) = xs.length := by
    unfold slicePlaces
    rw [if_neg (by decide), show -(-1 : Int) = 1 from rfl, Int.ediv_one]
    split <;> omega
  have z := picked_back xs xs.length (Nat.le_refl _)
  rw [List.take_length] at z
  unfold cutBy
  rw [e, n, z]
theorem picked_map {α β : Type} (f : α → β) (xs : List α) (lo k : Int) (n : Nat) : (picked xs lo k n).map f = picked (xs.map f) lo k n := by
  simp [picked, List.map_filterMap]
theorem picked_rel {R : V → Value → Prop} : ∀ {vs : List V} {us : List Value}, Vals vs us → ∀ (is : List Nat), Vals (is.filterMap (vs[·]?)) (is.filterMap (us[·]?))
  | _, _, _, [] => .nil
  | vs, us, r, i :: is => by
    have more := picked_rel (R := R) r is
    cases e : vs[i]? with
    | none =>
      have e' : us[i]? = none := by
        rw [List.getElem?_eq_none_iff] at e ⊢
        rw [← r.length]
        exact e
      simp only [List.filterMap_cons, e, e']
      exact more
    | some v =>
      obtain ⟨u, eu, rv⟩ := r.get e
      simp only [List.filterMap_cons, e, eu]
      exact .cons rv more
theorem cut_rel {vs : List V} {us : List Value} (r : Vals vs us) (a b : Option Int) (k : Int) : Vals (cutBy vs a b k) (cutBy us a b k) := by
  have as : ∀ {α : Type} (xs : List α) (lo : Int) (n : Nat), picked xs lo k n = ((List.range n).map fun (i : Nat) => (lo + (i : Int) * k).toNat).filterMap (xs[·]?) := fun xs lo n => by
    rw [List.filterMap_map]
    rfl
  unfold cutBy
  rw [as, as, r.length]
  exact picked_rel (R := RelV) r _
theorem cut_few {α : Type} (xs : List α) (k : Int) (n : Nat) (lo : Int) : (picked xs lo k n).length ≤ n := by
  refine Nat.le_trans (List.length_filterMap_le ..) ?_
  rw [List.length_range]
  exact Nat.le_refl _
section
variable {P : Program} {w : World} {A : Around} {E : Value → Shared → Prop} {s : Shared}
/-- the bounds that a slice comes to -/
theorem bounds_of {sl : Addr} {va vb vk : Value} {a b : Option Int} {k : Int} {n : Nat} {Q : Int × Int × Nat → Shared → Prop} (isS : s.heap.IsSliceOf sl va vb vk) (pa : IsPart va a) (pb : IsPart vb b) (pk : IsPart vk (some k)) (k0 : k ≠ 0)
    (q : Q ((sliceAdjust a b k n).1, k, slicePlaces (sliceAdjust a b k n).1 (sliceAdjust a b k n).2 k) s) : wpAny (model P w) A (sliceApplied (.ref sl) (pure (n : Int))) Q E s := by
  obtain ⟨o, at', _, dt⟩ := isS
  have part : ∀ (i : Nat) (v : Value), (#[va, vb, vk] : Array Value)[i]? = some v → ∀ R : Value → Shared → Prop, R v s → wpAny (model P w) A (field (.ref sl) i) R E s := fun i v e R r => wpAny_field at' dt e r
  unfold sliceApplied sliceFields
  refine wpAny_bind (wpAny_bind (part 0 va rfl _ (wpAny_bind (part 1 vb rfl _ (wpAny_bind (part 2 vk rfl _ (wpAny_pure ?_)))))))
  refine wpAny_bind (HT.slicePart_ pk ?_)
  simp only [Option.getD_some, beq_iff_eq, k0, if_false]
  exact wpAny_bind (HT.slicePart_ pa (wpAny_bind (HT.slicePart_ pb (wpAny_bind (wpAny_pure (wpAny_pure q))))))
/-- t[a:b:k] -/
theorem item_cut {t sl : Addr} {us : List Value} {va vb vk : Value} {a b : Option Int} {k : Int} {Q : Value → Shared → Prop} (isT : IsTup s.heap t us.toArray) (isS : s.heap.IsSliceOf sl va vb vk) (pa : IsPart va a) (pb : IsPart vb b) (pk : IsPart vk (some k)) (k0 : k ≠ 0) (k1 : k ≠ 1)
    (small : (cutBy us a b k).length ≤ sizeLine) (q : Q (.ref s.heap.objs.size) { s with heap := s.heap.push { cls := .type "tuple", data := .seq (cutBy us a b k).toArray } }) : wpAny (model P w) A (getItem (.ref t) (.ref sl)) Q E s := by
  have isS' : s.TypeIs (.ref sl) "slice" := let ⟨o, e, c, _⟩ := isS; ⟨o, e, c⟩
  unfold getItem
  refine wpAny_holding (wpAny_bind (wpAny_sequenceKey isT.typeIs (by decide) (wpAny_bind ?_)))
  refine wpAny_callSpecial?_slot isT.typeIs PyProof.Rows.slot_tuple_getitem (wpAny_call_entry PyProof.Rows.slot_tuple_getitem isT.typeIs entry_tuple_getitem ?_ (args_tuple_getitem _ _))
  refine wpAny_bind (m := Builtin.Tuple.tupleItemsOf _) (tupleItemsOf_ isT (wpAny_bind (wpAny_typeOf isS' ?_)))
  rw [if_pos (by decide), List.size_toArray]
  refine wpAny_bind (bounds_of isS pa pb pk k0 ?_)
  have no : ((k : Int) == 1) = false := by simpa using k1
  simp only [no, Bool.and_false, Bool.false_and, Bool.false_eq_true, if_false]
  have e : (List.range (slicePlaces (sliceAdjust a b k us.length).1 (sliceAdjust a b k us.length).2 k)).filterMap (fun (i : Nat) => us.toArray[((sliceAdjust a b k us.length).1 + (i : Int) * k).toNat]?) = cutBy us a b k := by
    unfold cutBy picked
    simp only [List.getElem?_toArray]
  rw [e]
  refine wpAny_bind (m := Builtin.Tuple.tupleExact _) (wpAny_newObj_type (wpAny_pure ⟨_, rfl, wpAny_pure q⟩) ?_)
  show (cutBy us a b k).toArray.size ≤ sizeLine
  rw [List.size_toArray]
  exact small
end
section
variable {X : Cx}
/-- e[a:b:k], e a tuple, k neither 0 nor 1 -/
def tCutK (K : PySem.W.Frag) (te : TE) (ta tb tk : TO) : TE := fun σ H Q => te σ H fun x H1 => ta σ H1 fun a H2 => tb σ H2 fun b H3 => tk σ H3 fun k' H4 => ∃ t xs k, x = .ref t ∧ SqT K H4 t xs ∧ k' = some k ∧ k ≠ 0 ∧ k ≠ 1 ∧ (xs.length ≤ sizeLine → (cutBy xs a b k).length ≤ sizeLine) ∧
  ∀ p, H4 p = none → Q (.ref p) (upd H4 p (.tup (cutBy xs a b k)))
theorem pe_cutK {e : Expr} {ea eb ek : Option Expr} {te : TE} {ta tb tk : TO} {p pos : Pos} (he : PE X e te) (ha : PO X ea ta) (hb : PO X eb tb) (hk : PO X ek tk)
    (hs : ∀ o i, subscripted (.Slice ea eb ek p) false o i = operate [o, i] (getItem o i) := by intro _ _; with_unfolding_all rfl) : PE X (.Subscript e (.Slice ea eb ek p) pos) (tCutK X.K te ta tb tk) := by
  refine ⟨fun pins s σ H Q I h => Subscript_ (thn (he.run pins s σ H _ I h) fun v s1 ⟨x, H1, I1, r1, q1⟩ => wpAny_Slice ?_)⟩
  refine thn (ha.run pins s1 σ H1 _ I1 q1) fun va s2 ⟨a, H2, I2, pa, q2⟩ => thn (hb.run pins s2 σ H2 _ I2 q2) fun vb s3 ⟨b, H3, I3, pb, q3⟩ => thn (hk.run pins s3 σ H3 _ I3 q3) fun vk s4 ⟨k', H4, I4, pk, t, xs, k, ex, sq, ek', k0, k1, small, q⟩ => ?_
  subst ex ek'
  cases r1
  have I5 : Inv X pins σ H4 { s4 with heap := s4.heap.push { cls := .type "slice", data := .fields #[va, vb, vk] } } := I4.kept (t' := s4.toks) fun _ _ => Heap.get?_push_of_some _
  obtain ⟨us, rel, isT, most⟩ := I5.tuple sq
  have small := small most
  have rel' := cut_rel rel a b k
  refine tail_any (ops := [.ref t, .ref s4.heap.objs.size]) isT.typeIs PyProof.Rows.slot_tuple_getitem.lookup ?_ (hs _ _)
  refine item_cut isT (.new _ va vb vk) pa pb pk k0 k1 (by rw [← rel'.length]; exact small) ?_
  have fresh := I5.hok.fresh (Nat.le_refl _)
  exact ⟨.ref _, _, I5.laid (t' := s4.toks) (o := .tup (cutBy xs a b k)) (fun _ _ => Heap.get?_push_of_some _) (Nat.le_refl _) ⟨small, _, rel', .new _ _⟩, rfl, q _ fresh⟩
/-- e[::-1], e a tuple -/
def tRevT (K : PySem.W.Frag) (te : TE) : TE := fun σ H Q => te σ H fun x H1 => ∃ a xs, x = .ref a ∧ SqT K H1 a xs ∧ ∀ p, H1 p = none → Q (.ref p) (upd H1 p (.tup xs.reverse))
theorem pe_revT {e : Expr} {te : TE} {k : Nat} {p1 p2 p3 pos : Pos} (he : PE X e te) : PE X (.Subscript e (.Slice none none (some (.UnaryOp .USub (.Constant (.int 1) k p1) p2)) p3) pos) (tRevT X.K te) := by
  have all : PE X e (fun σ H R => ∃ R0, te σ H R0 ∧ ∀ x H1, R0 x H1 → R x H1) := ⟨fun pins s σ H R I ⟨R0, h, sub⟩ => thn (he.run pins s σ H R0 I h) fun _ _ ⟨x, H1, I1, r, q⟩ => ⟨x, H1, I1, r, sub x H1 q⟩⟩
  refine ⟨fun pins s σ H Q I h => (pe_cutK all po_none po_none (po_some (pe_un un_neg pe_int))).run pins s σ H Q I ⟨_, h, fun x H1 ⟨t, xs, ex, sq, q⟩ => ?_⟩⟩
  refine ⟨1, rfl, -1, rfl, t, xs, -1, ex, sq, rfl, by decide, by decide, fun small => ?_, fun p np => ?_⟩
  · rw [cut_back, List.length_reverse]
    exact small
  · rw [cut_back]
    exact q p np
end
end Sa

set_option Elab.async false
set_option linter.all false
set_option maxRecDepth 100000
set_option maxHeartbeats 1000000
/-! Va2: the readings of expressions by value -/
namespace Va
open PySem PySem.Spec PyProof.Rows L2 Sa

def EnvR (C : Ck) (φ : Nat → Addr) (n : Nat) (H : Hp) (σ : L2.St) (ρ : Ev) : Prop :=
  σ.length = ρ.length ∧ ∀ (i : Nat) (w : W), ρ[i]? = some (some w) → ∃ v, σ[i]? = some (some v) ∧ Rw C φ n H v w
section
variable {C : Ck} {φ φ' : Nat → Addr} {M M' : Mem} {H H' : Hp} {σ : L2.St} {ρ : Ev}
theorem EnvR.step (e : EnvR C φ M.length H σ ρ) (s : Step C φ M H φ' M' H') : EnvR C φ' M'.length H' σ ρ :=
  ⟨e.1, fun i w h => let ⟨v, h1, h2⟩ := e.2 i w h; ⟨v, h1, h2.step s⟩⟩
theorem EnvR.set (e : EnvR C φ M.length H σ ρ) {v : V} {w : W} (r : Rw C φ M.length H v w) (i : Nat) : EnvR C φ M.length H (σ.set i (some v)) (ρ.set i (some w)) := by
  refine ⟨by simp [e.1], fun j w' h => ?_⟩
  by_cases z : i = j
  · subst z
    by_cases hl : i < ρ.length
    · rw [List.getElem?_set_self hl] at h
      cases h
      exact ⟨v, by rw [List.getElem?_set_self (by rw [e.1]; exact hl)], r⟩
    · have : ρ.length ≤ i := Nat.le_of_not_lt hl
      rw [List.getElem?_eq_none (by simpa using this)] at h
      cases h
  · rw [List.getElem?_set_ne z] at h
    obtain ⟨v', h1, h2⟩ := e.2 j w' h
    exact ⟨v', by rw [List.getElem?_set_ne z]; exact h1, h2⟩
end

/-! canonical readings -/
def tOf (C : Ck) (f : EvE) : TE := fun σ H Q => ∃ ρ φ M w M', EnvR C φ M.length H σ ρ ∧ Sim C φ M H ∧ f ρ M = some (w, M') ∧
  ∀ v φ' H', Step C φ M H φ' M' H' → Rw C φ' M'.length H' v w → Q v H'
def ttOf (C : Ck) (f : EvT) : TT := fun σ H Q => ∃ ρ φ M b M', EnvR C φ M.length H σ ρ ∧ Sim C φ M H ∧ f ρ M = some (b, M') ∧
  ∀ φ' H', Step C φ M H φ' M' H' → Q b H'
def taOf (C : Ck) (f : EvA) : TA := fun σ H Q => ∃ ρ φ M ws M', EnvR C φ M.length H σ ρ ∧ Sim C φ M H ∧ f ρ M = some (ws, M') ∧
  ∀ vs φ' H', Step C φ M H φ' M' H' → RwAll C φ' M'.length H' vs ws → Q vs H'

theorem _root_.L2.PE.weak {X : Cx} {e : Expr} {t t' : TE} (h : PE X e t) (w : ∀ σ H Q, t' σ H Q → t σ H Q) : PE X e t' := ⟨fun pins s σ H Q I q => h.run pins s σ H Q I (w _ _ _ q)⟩
theorem _root_.L2.PT.weak {X : Cx} {e : Expr} {t t' : TT} (h : PT X e t) (w : ∀ σ H Q, t' σ H Q → t σ H Q) : PT X e t' := ⟨fun pins s σ H Q I q => h.run pins s σ H Q I (w _ _ _ q)⟩
theorem _root_.L2.PA.weak {X : Cx} {e : List Expr} {t t' : TA} (h : PA X e t) (w : ∀ σ H Q, t' σ H Q → t σ H Q) : PA X e t' := ⟨fun pos pins s σ H Q I q => h.run pos pins s σ H Q I (w _ _ _ q)⟩
theorem _root_.L2.PW.weak {X : Cx} {e : Expr} {t t' : TT} (h : PW X e t) (w : ∀ σ H Q, t' σ H Q → t σ H Q) : PW X e t' := ⟨fun wh pins s σ H Q I q => h.run wh pins s σ H Q I (w _ _ _ q)⟩

theorem bsome {α β : Type} {o : Option α} {f : α → Option β} {r : β} (h : o.bind f = some r) : ∃ x, o = some x ∧ f x = some r := by
  cases o with
  | none => cases h
  | some x => exact ⟨x, rfl, h⟩

/-! values -/
abbrev O2 := W → W → Mem → Option (W × Mem)
abbrev O1 := W → Mem → Option (W × Mem)
def VO2 (C : Ck) (r : R2) (f : O2) : Prop := ∀ φ M H x y a b w M' (Q : VK), Sim C φ M H → Rw C φ M.length H x a → Rw C φ M.length H y b → f a b M = some (w, M') →
  (∀ v φ' H', Step C φ M H φ' M' H' → Rw C φ' M'.length H' v w → Q v H') → r x y H Q
def VO1 (C : Ck) (r : V → Hp → VK → Prop) (f : O1) : Prop := ∀ φ M H x a w M' (Q : VK), Sim C φ M H → Rw C φ M.length H x a → f a M = some (w, M') →
  (∀ v φ' H', Step C φ M H φ' M' H' → Rw C φ' M'.length H' v w → Q v H') → r x H Q
def VC (C : Ck) (r : List V → Hp → VK → Prop) (f : Fn) : Prop := ∀ φ M H xs as w M' (Q : VK), Sim C φ M H → RwAll C φ M.length H xs as → f as M = some (w, M') →
  (∀ v φ' H', Step C φ M H φ' M' H' → Rw C φ' M'.length H' v w → Q v H') → r xs H Q

/-! the functions -/
def eVar (i : Nat) : EvE := fun ρ M => match ρ[i]? with
  | some (some w) => some (w, M)
  | _ => none
def eC (x : PyData) : EvE := fun _ M => some (.d x, M)
def eOp (f : O2) (a b : EvE) : EvE := fun ρ M => (a ρ M).bind fun p => (b ρ p.2).bind fun q => f p.1 q.1 q.2
def eUn (f : O1) (a : EvE) : EvE := fun ρ M => (a ρ M).bind fun p => f p.1 p.2
def aNil : EvA := fun _ M => some ([], M)
def aCons (a : EvE) (as : EvA) : EvA := fun ρ M => (a ρ M).bind fun p => (as ρ p.2).bind fun q => some (p.1 :: q.1, q.2)
def eCall (f : Fn) (a : EvA) : EvE := fun ρ M => (a ρ M).bind fun p => f p.1 p.2
def asB : W → Option Bool
  | .d (.bool b) => some b
  | _ => none
def asI : W → Option Int
  | .d (.int i) => some i
  | _ => none
def tVal (a : EvE) : EvT := fun ρ M => (a ρ M).bind fun p => (asB p.1).map (·, p.2)
def tNotE (a : EvT) : EvT := fun ρ M => (a ρ M).bind fun p => some (!p.1, p.2)
def tAndE (a b : EvT) : EvT := fun ρ M => (a ρ M).bind fun p => if p.1 = true then b ρ p.2 else some (false, p.2)
def tOrE (a b : EvT) : EvT := fun ρ M => (a ρ M).bind fun p => if p.1 = true then some (true, p.2) else b ρ p.2
def eAnd (a b : EvE) : EvE := fun ρ M => (a ρ M).bind fun p => (asB p.1).bind fun c => if c = true then b ρ p.2 else some (.d (.bool false), p.2)
def eOr (a b : EvE) : EvE := fun ρ M => (a ρ M).bind fun p => (asB p.1).bind fun c => if c = true then some (.d (.bool true), p.2) else b ρ p.2
def eNot (a : EvE) : EvE := fun ρ M => (a ρ M).bind fun p => (asB p.1).bind fun c => some (.d (.bool (!c)), p.2)
def eIf (c : EvT) (a b : EvE) : EvE := fun ρ M => (c ρ M).bind fun p => if p.1 = true then a ρ p.2 else b ρ p.2
def eTup (a : EvA) : EvE := fun ρ M => (a ρ M).bind fun p => if p.1.length ≤ sizeLine then some (mkTup p.1, p.2) else none
def eLst (a : EvA) : EvE := fun ρ M => (a ρ M).bind fun p => if p.1.length ≤ sizeLine then some (.obj p.2.length, p.2 ++ [.lst p.1]) else none

theorem asB_eq {w : W} {b : Bool} (h : asB w = some b) : w = .d (.bool b) := by
  cases w with
  | d x => cases x <;> simp [asB] at h; rw [h]
  | obj i => cases h
  | scr => cases h
  | pack ws => cases h
theorem asI_eq {w : W} {b : Int} (h : asI w = some b) : w = .d (.int b) := by
  cases w with
  | d x => cases x <;> simp [asI] at h; rw [h]
  | obj i => cases h
  | scr => cases h
  | pack ws => cases h
theorem Rw.isB {C : Ck} {φ : Nat → Addr} {n : Nat} {H : Hp} {v : V} {b : Bool} (r : Rw C φ n H v (.d (.bool b))) : v = .bl b := by
  cases r with | d r => cases r; rfl
theorem isB_of {C : Ck} {φ : Nat → Addr} {n : Nat} {H : Hp} {v : V} {w : W} {b : Bool} (h : asB w = some b) (r : Rw C φ n H v w) : v = .bl b := by
  rw [asB_eq h] at r
  exact r.isB
theorem Rw.isI {C : Ck} {φ : Nat → Addr} {n : Nat} {H : Hp} {v : V} {b : Int} (r : Rw C φ n H v (.d (.int b))) : v = .int b := by
  cases r with | d r => cases r; rfl
theorem Rw.isS {C : Ck} {φ : Nat → Addr} {n : Nat} {H : Hp} {v : V} {b : Str} (r : Rw C φ n H v (.d (.str b))) : v = .str b := by
  cases r with | d r => cases r; rfl
theorem Rw.isN {C : Ck} {φ : Nat → Addr} {n : Nat} {H : Hp} {v : V} (r : Rw C φ n H v (.d .none)) : v = .non := by
  cases r with | d r => cases r; rfl
theorem Rw.isO {C : Ck} {φ : Nat → Addr} {n : Nat} {H : Hp} {v : V} {i : Nat} (r : Rw C φ n H v (.obj i)) : v = .ref (φ i) ∧ i < n := by
  cases r with | obj h => exact ⟨rfl, h⟩

section
variable {C : Ck} {X : Cx} {a b c e : Expr} {es : List Expr} {fa fb : EvE} {fc fd : EvT} {fs : EvA} {pos : Pos}
theorem q_var (i : Nat) {x : Str} (h : PE X (.Name x pos) (tVar i)) : PE X (.Name x pos) (tOf C (eVar i)) :=
  h.weak fun σ H Q ⟨ρ, φ, M, w, M', env, sim, e, q⟩ => by
    unfold eVar at e
    split at e
    · rename_i w' hw
      cases e
      obtain ⟨v, h1, h2⟩ := env.2 i w hw
      exact ⟨v, h1, q v φ H (.refl sim) h2⟩
    · cases e
theorem qv (i : Nat) {x : Str} {pos : Pos} (hN : X.N[i]? = some x := by rfl) (hv : Vis X.env.scope x := by first | exact Or.inl rfl | exact Or.inr (Or.inl rfl) | exact Or.inr (Or.inr rfl)) (hd : (x == ("__debug__" : Str)) = false := by decide)
    (hcd : (x == ("__classdict__" : Str)) = false := by decide) : PE X (.Name x pos) (tOf C (eVar i)) := q_var i (pe_var hN hv hd hcd)
theorem q_c {v : V} {x : PyData} (h : PE X e (tC v)) (r : ∀ H, Rp C.K H v x) : PE X e (tOf C (eC x)) :=
  h.weak fun σ H Q ⟨ρ, φ, M, w, M', env, sim, e, q⟩ => by
    cases e
    exact q v φ H (.refl sim) (.d (r H))
theorem q_int {i : Int} {j : Nat} : PE X (.Constant (.int i) j pos) (tOf C (eC (.int i))) := q_c pe_int fun _ => .int i
theorem q_bl {b : Bool} {j : Nat} : PE X (.Constant (.bool b) j pos) (tOf C (eC (.bool b))) := q_c pe_bl fun _ => .bl b
theorem q_non {j : Nat} : PE X (.Constant .none j pos) (tOf C (eC .none)) := q_c pe_non fun _ => .non
theorem q_str {x : Str} {j : Nat} : PE X (.Constant (.str x) j pos) (tOf C (eC (.str x))) := q_c pe_str fun _ => .str x
theorem two_of {f : O2} {r : R2} (hv : VO2 C r f) {σ : L2.St} {H : Hp} {Q : VK} (h : tOf C (eOp f fa fb) σ H Q) : tOp r (tOf C fa) (tOf C fb) σ H Q := by
  obtain ⟨ρ, φ, M, w, M', env, sim, e, q⟩ := h
  obtain ⟨⟨x, M1⟩, e1, e⟩ := bsome e
  obtain ⟨⟨y, M2⟩, e2, e⟩ := bsome e
  refine ⟨ρ, φ, M, x, M1, env, sim, e1, fun v1 φ1 H1 s1 r1 => ⟨ρ, φ1, M1, y, M2, env.step s1, s1.sim, e2, fun v2 φ2 H2 s2 r2 => ?_⟩⟩
  exact hv φ2 M2 H2 v1 v2 x y w M' Q s2.sim (r1.step s2) r2 e fun v3 φ3 H3 s3 r3 => q v3 φ3 H3 (s1.trans (s2.trans s3)) r3
theorem q_op {op : Operator} {r : R2} {f : O2} (ho : OpR X (binaryOp op) r) (hv : VO2 C r f) (ha : PE X a (tOf C fa)) (hb : PE X b (tOf C fb)) : PE X (.BinOp a op b pos) (tOf C (eOp f fa fb)) :=
  (pe_op ho ha hb).weak fun σ H Q h => two_of hv h
theorem q_cmp {op : CmpOp} {r : R2} {f : O2} (ho : OpR X (compareOp op) r) (hv : VO2 C r f) (ha : PE X a (tOf C fa)) (hb : PE X b (tOf C fb)) (hm : behindInMarks op b = false) : PE X (.Compare a [op] [b] pos) (tOf C (eOp f fa fb)) :=
  (pe_cmpR ho ha hb hm).weak fun σ H Q h => two_of hv h
theorem qt_cmp {op : CmpOp} {r : R2} {f : O2} (ho : OpR X (compareOp op) r) (hv : VO2 C r f) (ha : PE X a (tOf C fa)) (hb : PE X b (tOf C fb)) (hm : behindInMarks op b = false) : PT X (.Compare a [op] [b] pos) (ttOf C (tVal (eOp f fa fb))) :=
  (pt_cmpR ho ha hb hm).weak fun σ H Q ⟨ρ, φ, M, k, M', env, sim, e, q⟩ => by
    obtain ⟨⟨w, M1⟩, e1, e⟩ := bsome e
    simp only [Option.map_eq_some_iff] at e
    obtain ⟨k', hk, e⟩ := e
    cases e
    refine two_of hv ⟨ρ, φ, M, w, M', env, sim, e1, fun v φ' H' s r => ⟨k, ?_, q φ' H' s⟩⟩
    rw [asB_eq hk] at r
    exact r.isB
theorem qt_val (h : PE X e (tOf C fa)) (he : ∀ whole, isTrue e X.env whole = (do let v ← whole; standAt e.pos; holding [v] (truthy v)) := by intro _; rfl) : PT X e (ttOf C (tVal fa)) :=
  (pt_val h he).weak fun σ H Q ⟨ρ, φ, M, k, M', env, sim, e, q⟩ => by
    obtain ⟨⟨w, M1⟩, e1, e⟩ := bsome e
    simp only [Option.map_eq_some_iff] at e
    obtain ⟨k', hk, e⟩ := e
    cases e
    refine ⟨ρ, φ, M, w, M', env, sim, e1, fun v φ' H' s r => ⟨k, ?_, q φ' H' s⟩⟩
    rw [asB_eq hk] at r
    exact r.isB
theorem qt_not (h : PT X a (ttOf C fc)) : PT X (.UnaryOp .Not a pos) (ttOf C (tNotE fc)) :=
  (pt_not h).weak fun σ H Q ⟨ρ, φ, M, k, M', env, sim, e, q⟩ => by
    obtain ⟨⟨k1, M1⟩, e1, e⟩ := bsome e
    cases e
    exact ⟨ρ, φ, M, k1, _, env, sim, e1, q⟩
theorem tAnd_of {σ : L2.St} {H : Hp} {Q : Bool → Hp → Prop} (h : ttOf C (tAndE fc fd) σ H Q) : tAnd (ttOf C fc) (ttOf C fd) σ H Q := by
  obtain ⟨ρ, φ, M, k, M', env, sim, e, q⟩ := h
  obtain ⟨⟨k1, M1⟩, e1, e⟩ := bsome e
  refine ⟨ρ, φ, M, k1, M1, env, sim, e1, fun φ1 H1 s1 => ?_⟩
  cases k1 with
  | true => exact ⟨ρ, φ1, M1, k, M', env.step s1, s1.sim, e, fun φ2 H2 s2 => q φ2 H2 (s1.trans s2)⟩
  | false => cases e; exact q φ1 H1 s1
theorem tOr_of {σ : L2.St} {H : Hp} {Q : Bool → Hp → Prop} (h : ttOf C (tOrE fc fd) σ H Q) : tOr (ttOf C fc) (ttOf C fd) σ H Q := by
  obtain ⟨ρ, φ, M, k, M', env, sim, e, q⟩ := h
  obtain ⟨⟨k1, M1⟩, e1, e⟩ := bsome e
  refine ⟨ρ, φ, M, k1, M1, env, sim, e1, fun φ1 H1 s1 => ?_⟩
  cases k1 with
  | false => exact ⟨ρ, φ1, M1, k, M', env.step s1, s1.sim, e, fun φ2 H2 s2 => q φ2 H2 (s1.trans s2)⟩
  | true => cases e; exact q φ1 H1 s1
theorem qw_and1 (ha : PT X a (ttOf C fc)) : PW X (.BoolOp .And [a] pos) (ttOf C fc) := pw_and1 ha
theorem qw_or1 (ha : PT X a (ttOf C fc)) : PW X (.BoolOp .Or [a] pos) (ttOf C fc) := pw_or1 ha
theorem qw_and {rest : List Expr} (ha : PT X a (ttOf C fc)) (hb : PW X (.BoolOp .And (b :: rest) pos) (ttOf C fd)) : PW X (.BoolOp .And (a :: b :: rest) pos) (ttOf C (tAndE fc fd)) := (pw_and ha hb).weak fun _ _ _ h => tAnd_of h
theorem qw_or {rest : List Expr} (ha : PT X a (ttOf C fc)) (hb : PW X (.BoolOp .Or (b :: rest) pos) (ttOf C fd)) : PW X (.BoolOp .Or (a :: b :: rest) pos) (ttOf C (tOrE fc fd)) := (pw_or ha hb).weak fun _ _ _ h => tOr_of h
theorem q_one {op : BoolOp} (h : PE X a (tOf C fa)) : PE X (.BoolOp op [a] pos) (tOf C fa) := pe_one h
theorem q_and {rest : List Expr} (ha : PE X a (tOf C fa)) (hb : PE X (.BoolOp .And (b :: rest) pos) (tOf C fb)) : PE X (.BoolOp .And (a :: b :: rest) pos) (tOf C (eAnd fa fb)) :=
  (pe_and ha hb).weak fun σ H Q ⟨ρ, φ, M, w, M', env, sim, e, q⟩ => by
    obtain ⟨⟨x, M1⟩, e1, e⟩ := bsome e
    obtain ⟨k, hk, e⟩ := bsome e
    refine ⟨ρ, φ, M, x, M1, env, sim, e1, fun v φ1 H1 s1 r1 => ⟨k, (isB_of hk r1), ?_⟩⟩
    cases k with
    | true => exact ⟨ρ, φ1, M1, w, M', env.step s1, s1.sim, e, fun v φ2 H2 s2 r => q v φ2 H2 (s1.trans s2) r⟩
    | false => cases e; exact q _ φ1 H1 s1 (.d (.bl _))
theorem q_or {rest : List Expr} (ha : PE X a (tOf C fa)) (hb : PE X (.BoolOp .Or (b :: rest) pos) (tOf C fb)) : PE X (.BoolOp .Or (a :: b :: rest) pos) (tOf C (eOr fa fb)) :=
  (pe_or ha hb).weak fun σ H Q ⟨ρ, φ, M, w, M', env, sim, e, q⟩ => by
    obtain ⟨⟨x, M1⟩, e1, e⟩ := bsome e
    obtain ⟨k, hk, e⟩ := bsome e
    refine ⟨ρ, φ, M, x, M1, env, sim, e1, fun v φ1 H1 s1 r1 => ⟨k, (isB_of hk r1), ?_⟩⟩
    cases k with
    | false => exact ⟨ρ, φ1, M1, w, M', env.step s1, s1.sim, e, fun v φ2 H2 s2 r => q v φ2 H2 (s1.trans s2) r⟩
    | true => cases e; exact q _ φ1 H1 s1 (.d (.bl _))
theorem q_not (ha : PE X a (tOf C fa)) : PE X (.UnaryOp .Not a pos) (tOf C (eNot fa)) :=
  (pe_not ha).weak fun σ H Q ⟨ρ, φ, M, w, M', env, sim, e, q⟩ => by
    obtain ⟨⟨x, M1⟩, e1, e⟩ := bsome e
    obtain ⟨k, hk, e⟩ := bsome e
    cases e
    refine ⟨ρ, φ, M, x, _, env, sim, e1, fun v φ1 H1 s1 r1 => ⟨k, (isB_of hk r1), ?_⟩⟩
    exact q _ φ1 H1 s1 (.d (.bl _))
theorem q_ifE (hc : PT X c (ttOf C fc)) (ha : PE X a (tOf C fa)) (hb : PE X b (tOf C fb)) : PE X (.IfExp c a b pos) (tOf C (eIf fc fa fb)) :=
  (pe_ifExp hc ha hb).weak fun σ H Q ⟨ρ, φ, M, w, M', env, sim, e, q⟩ => by
    obtain ⟨⟨k, M1⟩, e1, e⟩ := bsome e
    refine ⟨ρ, φ, M, k, M1, env, sim, e1, fun φ1 H1 s1 => ?_⟩
    cases k with
    | true => exact ⟨ρ, φ1, M1, w, M', env.step s1, s1.sim, e, fun v φ2 H2 s2 r => q v φ2 H2 (s1.trans s2) r⟩
    | false => exact ⟨ρ, φ1, M1, w, M', env.step s1, s1.sim, e, fun v φ2 H2 s2 r => q v φ2 H2 (s1.trans s2) r⟩
theorem q_un {op : UnaryOp} {r : V → Hp → VK → Prop} {f : O1} (ho : UnR X (unaryOp op) r) (hv : VO1 C r f) (ha : PE X a (tOf C fa)) : PE X (.UnaryOp op a pos) (tOf C (eUn f fa)) :=
  (pe_un ho ha).weak fun σ H Q ⟨ρ, φ, M, w, M', env, sim, e, q⟩ => by
    obtain ⟨⟨x, M1⟩, e1, e⟩ := bsome e
    exact ⟨ρ, φ, M, x, M1, env, sim, e1, fun v φ1 H1 s1 r1 => hv φ1 M1 H1 v x w M' Q s1.sim r1 e fun v2 φ2 H2 s2 r2 => q v2 φ2 H2 (s1.trans s2) r2⟩
theorem qa_nil : PA X [] (taOf C aNil) := pa_nil.weak fun σ H Q ⟨ρ, φ, M, w, M', env, sim, e, q⟩ => by
  cases e
  exact q [] φ H (.refl sim) .nil
theorem qa_cons (ha : PE X e (tOf C fa)) (hr : PA X es (taOf C fs)) (hs : starEach (e :: es) X.env = (false, eval e X.env) :: starEach es X.env := by rfl) : PA X (e :: es) (taOf C (aCons fa fs)) :=
  (pa_cons ha hr hs).weak fun σ H Q ⟨ρ, φ, M, w, M', env, sim, e, q⟩ => by
    obtain ⟨⟨x, M1⟩, e1, e⟩ := bsome e
    obtain ⟨⟨xs, M2⟩, e2, e⟩ := bsome e
    cases e
    refine ⟨ρ, φ, M, x, M1, env, sim, e1, fun v φ1 H1 s1 r1 => ⟨ρ, φ1, M1, xs, _, env.step s1, s1.sim, e2, fun vs φ2 H2 s2 r2 => ?_⟩⟩
    exact q _ φ2 H2 (s1.trans s2) (.cons (r1.step s2) r2)
theorem q_tup {x1 : Nat} (h : PA X es (taOf C fs)) : PE X (.Tuple es x1 pos) (tOf C (eTup fs)) :=
  (pe_tup h).weak fun σ H Q ⟨ρ, φ, M, w, M', env, sim, e, q⟩ => by
    obtain ⟨⟨xs, M1⟩, e1, e⟩ := bsome e
    split at e
    · rename_i z
      cases e
      refine ⟨ρ, φ, M, xs, _, env, sim, e1, fun vs φ1 H1 s1 r1 => ⟨by rw [r1.length]; exact z, fun p np => ?_⟩⟩
      have s2 := Step.tup (o := .tup vs) s1.sim np
      exact q _ φ1 _ (s1.trans s2) (.tup (SqT.of upd_same) (r1.step s2))
    · cases e
theorem q_lst (h : PA X es (taOf C fs)) : PE X (.List es pos) (tOf C (eLst fs)) :=
  (pe_lst h).weak fun σ H Q ⟨ρ, φ, M, w, M', env, sim, e, q⟩ => by
    obtain ⟨⟨xs, M1⟩, e1, e⟩ := bsome e
    split at e
    · rename_i z
      cases e
      refine ⟨ρ, φ, M, xs, _, env, sim, e1, fun vs φ1 H1 s1 r1 => ⟨by rw [r1.length]; exact z, fun p np => ?_⟩⟩
      exact q _ _ _ (s1.trans (.list s1.sim np r1)) .new
    · cases e
theorem call_of {r : List V → Hp → VK → Prop} {f : Fn} (hv : VC C r f) {σ : L2.St} {H : Hp} {Q : VK} (h : tOf C (eCall f fs) σ H Q) : tCB r (taOf C fs) σ H Q := by
  obtain ⟨ρ, φ, M, w, M', env, sim, e, q⟩ := h
  obtain ⟨⟨xs, M1⟩, e1, e⟩ := bsome e
  exact ⟨ρ, φ, M, xs, M1, env, sim, e1, fun v φ1 H1 s1 r1 => hv φ1 M1 H1 v xs w M' Q s1.sim r1 e fun v2 φ2 H2 s2 r2 => q v2 φ2 H2 (s1.trans s2) r2⟩
theorem q_callB {x : Str} {p : Pos} {id : String} {r : List V → Hp → VK → Prop} {f : Fn} (hc : CallR X (.builtin id) r) (hf : VC C r f) (hg : Gl X x) (hm : X.mg x = none) (hv : bootBuiltins x = some (.builtin id)) (ha : PA X (e :: es) (taOf C fs)) (hn : x ≠ "__name__" := by decide) (hdb : (x == ("__debug__" : Str)) = false := by decide)
    (he : starEach (e :: es) X.env = (false, eval e X.env) :: starEach es X.env := by rfl) (hpl : (backTo pos (starEach es X.env)).any (·.1) = false := by rfl) : PE X (.Call (.Name x p) (e :: es) [] pos) (tOf C (eCall f fs)) :=
  (pe_callB hc hg hm hv ha hn hdb he hpl).weak fun _ _ _ h => call_of hf h
theorem q_callTy {x : Str} {p : Pos} {T : String} {r : List V → Hp → VK → Prop} {f : Fn} (hc : CallR X (.type T) r) (hf : VC C r f) (hg : Gl X x) (hm : X.mg x = none) (hv : bootBuiltins x = some (.type T)) (ha : PA X (e :: es) (taOf C fs)) (hn : x ≠ "__name__" := by decide) (hdb : (x == ("__debug__" : Str)) = false := by decide)
    (he : starEach (e :: es) X.env = (false, eval e X.env) :: starEach es X.env := by rfl) (hpl : (backTo pos (starEach es X.env)).any (·.1) = false := by rfl) : PE X (.Call (.Name x p) (e :: es) [] pos) (tOf C (eCall f fs)) :=
  (pe_callTy hc hg hm hv ha hn hdb he hpl).weak fun _ _ _ h => call_of hf h

/-- a def's promise by its function -/
def spV (C : Ck) (n : Nat) (F : Fn) : Sp := fun vs H Q _ => ∃ φ M ws w M', RwAll C φ M.length H vs ws ∧ vs.length = n ∧ Sim C φ M H ∧ F ws M = some (w, M') ∧
  ∀ v φ' H', Step C φ M H φ' M' H' → Rw C φ' M'.length H' v w → Q v H'
def eDef (n : Nat) (F : Fn) (a : EvA) : EvE := fun ρ M => (a ρ M).bind fun p => if p.1.length = n then F p.1 p.2 else none
theorem q_df {k n : Nat} {ps : List Str} {F : Fn} {x : Str} {p : Pos} (D : Df X.prog X.w X.K X.mg X.base k x ps (spV C n F)) (hr : Room k X.A) (hf : Free X.A) (hg : Gl X x) (args : PA X (e :: es) (taOf C fs)) (nd : (x == ("__debug__" : Str)) = false := by decide)
    (he : starEach (e :: es) X.env = (false, eval e X.env) :: starEach es X.env := by rfl) (np : (backTo pos (starEach es X.env)).any (·.1) = false := by rfl) :
    PE X (.Call (.Name x p) (e :: es) [] pos) (tOf C (eDef n F fs)) :=
  (pe_df D hr hf hg args nd he np).weak fun σ H Q ⟨ρ, φ, M, w, M', env, sim, e, q⟩ => by
    obtain ⟨⟨xs, M1⟩, e1, e⟩ := bsome e
    split at e
    · rename_i z
      refine ⟨ρ, φ, M, xs, M1, env, sim, e1, fun vs φ1 H1 s1 r1 => ?_⟩
      show spV C n F (vs ++ []) H1 Q E0
      rw [List.append_nil]
      exact ⟨φ1, M1, xs, w, M', r1, by rw [r1.length]; exact z, s1.sim, e, fun v φ2 H2 s2 r2 => q v φ2 H2 (s1.trans s2) r2⟩
    · cases e
end
end Va

set_option Elab.async false
set_option linter.all false
set_option maxRecDepth 100000
set_option maxHeartbeats 1000000
/-! Va3: statements, targets, loops, comprehensions by value -/
namespace Va
open PySem PySem.Spec PyProof.Rows L2 Sa

/-! targets -/
def Only (is : List Nat) (σ σ' : L2.St) : Prop := σ'.length = σ.length ∧ ∀ i, i ∉ is → σ'[i]? = σ[i]?
theorem Only.refl {is : List Nat} {σ : L2.St} : Only is σ σ := ⟨rfl, fun _ _ => rfl⟩
theorem Only.trans {is js : List Nat} {σ σ1 σ2 : L2.St} (a : Only is σ σ1) (b : Only js σ1 σ2) : Only (is ++ js) σ σ2 :=
  ⟨b.1.trans a.1, fun i h => (b.2 i fun z => h (List.mem_append_right _ z)).trans (a.2 i fun z => h (List.mem_append_left _ z))⟩
def tgOf (C : Ck) (is : List Nat) (g : EvG) : TG := fun v σ H Q => ∃ ρ φ M w ρ', EnvR C φ M.length H σ ρ ∧ Sim C φ M H ∧ Rw C φ M.length H v w ∧ g w ρ = some ρ' ∧
  ∀ σ', EnvR C φ M.length H σ' ρ' → Only is σ σ' → Q σ' H
def tgsOf (C : Ck) (is : List Nat) (g : List W → Ev → Option Ev) : TGs := fun vs σ H Q => ∃ ρ φ M ws ρ', EnvR C φ M.length H σ ρ ∧ Sim C φ M H ∧ RwAll C φ M.length H vs ws ∧ g ws ρ = some ρ' ∧
  ∀ σ', EnvR C φ M.length H σ' ρ' → Only is σ σ' → Q σ' H
theorem _root_.L2.PG.weak {X : Cx} {e : Expr} {t t' : TG} (h : PG X e t) (w : ∀ v σ H Q, t' v σ H Q → t v σ H Q) : PG X e t' := ⟨fun pins s σ H v u Q I r q => h.run pins s σ H v u Q I r (w _ _ _ _ q)⟩
theorem _root_.L2.PGs.weak {X : Cx} {e : List Expr} {t t' : TGs} (h : PGs X e t) (w : ∀ v σ H Q, t' v σ H Q → t v σ H Q) : PGs X e t' := ⟨fun pins s σ H v u Q I r q => h.run pins s σ H v u Q I r (w _ _ _ _ q)⟩
def gN (i : Nat) : EvG := fun w ρ => some (ρ.set i (some w))
def gs0 : List W → Ev → Option Ev := fun ws ρ => match ws with
  | [] => some ρ
  | _ => none
def gsC (g : EvG) (gs : List W → Ev → Option Ev) : List W → Ev → Option Ev := fun ws ρ => match ws with
  | [] => none
  | w :: r => (g w ρ).bind fun ρ1 => gs r ρ1
def gT (n : Nat) (gs : List W → Ev → Option Ev) : EvG := fun w ρ => (tupOf w).bind fun ws => if ws.length = n then gs ws ρ else none
section
variable {C : Ck} {X : Cx} {pos : Pos} {is js : List Nat}
theorem qg_name {i : Nat} {x : Str} (hN : X.N.Nodup) (hi : X.N[i]? = some x) (hx : Loc X.env.scope x) (hf : X.fn x = true ∨ X.env.scope.names.lookup x = some .local := by first | exact .inl rfl | exact .inr rfl | assumption) :
    PG X (.Name x pos) (tgOf C [i] (gN i)) :=
  (pg_name hN hi hx hf).weak fun v σ H Q ⟨ρ, φ, M, w, ρ', env, sim, r, e, q⟩ => by
    cases e
    exact q _ (env.set r i) ⟨by simp, fun j h => List.getElem?_set_ne fun z => h (by rw [z]; exact List.mem_singleton.mpr rfl)⟩
theorem qgs_nil : PGs X [] (tgsOf C [] gs0) := pgs_nil.weak fun v σ H Q ⟨ρ, φ, M, w, ρ', env, sim, r, e, q⟩ => by
  cases w with
  | nil =>
    cases e
    cases r
    exact ⟨rfl, q σ env .refl⟩
  | cons => cases e
theorem qgs_cons {e : Expr} {es : List Expr} {g : EvG} {gs : List W → Ev → Option Ev} (h1 : PG X e (tgOf C is g)) (h2 : PGs X es (tgsOf C js gs)) (hs : (assignEach (e :: es) X.env).map (·.2) = assign e X.env :: (assignEach es X.env).map (·.2) := by rfl) : PGs X (e :: es) (tgsOf C (is ++ js) (gsC g gs)) :=
  (pgs_cons h1 h2 hs).weak fun v σ H Q ⟨ρ, φ, M, w, ρ', env, sim, r, e, q⟩ => by
    cases w with
    | nil => cases e
    | cons w ws =>
      obtain ⟨ρ1, e1, e⟩ := bsome e
      cases r with
      | cons r1 r2 => exact ⟨_, _, rfl, ρ, φ, M, w, ρ1, env, sim, r1, e1, fun σ1 env1 o1 => ⟨ρ1, φ, M, ws, ρ', env1, sim, r2, e, fun σ2 env2 o2 => q σ2 env2 (o1.trans o2)⟩⟩
theorem qg_tup {es : List Expr} {k n : Nat} {gs : List W → Ev → Option Ev} (hc : X.calm = true) (hK : X.K = C.K) (h : PGs X es (tgsOf C is gs))
    (hn : (assignEach es X.env).length = n := by rfl) (hst : (assignEach es X.env).findIdx? (·.1) = none := by rfl) : PG X (.Tuple es k pos) (tgOf C is (gT n gs)) :=
  (pg_tup hc h hn hst).weak fun v σ H Q ⟨ρ, φ, M, w, ρ', env, sim, r, e, q⟩ => by
    obtain ⟨ws, e1, e⟩ := bsome e
    split at e
    · rename_i hl
      have hl : ws.length = n := hl
      obtain ⟨a, vs, rfl, sq, r2⟩ := r.un e1
      exact ⟨a, vs, rfl, by rw [hK]; exact sq, by rw [r2.length]; exact hl, ρ, φ, M, ws, ρ', env, sim, r2, e, q⟩
    · cases e
end

/-! statements -/
def Fin' (C : Ck) (D : Ends) (φ : Nat → Addr) (M : Mem) (H : Hp) : Out → Prop
  | .nx ρ' M' => ∀ σ' φ' H', Step C φ M H φ' M' H' → EnvR C φ' M'.length H' σ' ρ' → D.nx σ' H'
  | .bk ρ' M' => ∀ σ' φ' H', Step C φ M H φ' M' H' → EnvR C φ' M'.length H' σ' ρ' → D.bk σ' H'
  | .ct ρ' M' => ∀ σ' φ' H', Step C φ M H φ' M' H' → EnvR C φ' M'.length H' σ' ρ' → D.ct σ' H'
  | .rt w M' => ∀ v φ' H', Step C φ M H φ' M' H' → Rw C φ' M'.length H' v w → D.rt v H'
theorem Fin'.step {C : Ck} {D : Ends} {φ φ' : Nat → Addr} {M M' : Mem} {H H' : Hp} {o : Out} (s : Step C φ M H φ' M' H') (h : Fin' C D φ M H o) : Fin' C D φ' M' H' o := by
  cases o with
  | nx ρ M1 => exact fun σ1 φ1 H1 s1 e => h σ1 φ1 H1 (s.trans s1) e
  | bk ρ M1 => exact fun σ1 φ1 H1 s1 e => h σ1 φ1 H1 (s.trans s1) e
  | ct ρ M1 => exact fun σ1 φ1 H1 s1 e => h σ1 φ1 H1 (s.trans s1) e
  | rt w M1 => exact fun v φ1 H1 s1 e => h v φ1 H1 (s.trans s1) e
def tsOf (C : Ck) (g : EvS) : TS := fun D σ H => ∃ ρ φ M o, EnvR C φ M.length H σ ρ ∧ Sim C φ M H ∧ g ρ M = some o ∧ Fin' C D φ M H o
theorem _root_.L2.PS.weak {X : Cx} {e : Stmt} {t t' : TS} (h : PS X e t) (w : ∀ D σ H, t' D σ H → t D σ H) : PS X e t' := ⟨fun pins s σ H D I q => h.run pins s σ H D I (w _ _ _ q)⟩
theorem _root_.L2.PSs.weak {X : Cx} {e : List Stmt} {t t' : TS} (h : PSs X e t) (w : ∀ D σ H, t' D σ H → t D σ H) : PSs X e t' := ⟨fun pins s σ H D I q => h.run pins s σ H D I (w _ _ _ q)⟩
def sNil : EvS := fun ρ M => some (.nx ρ M)
def sSeq (a b : EvS) : EvS := fun ρ M => (a ρ M).bind fun o => match o with
  | .nx ρ1 M1 => b ρ1 M1
  | o => some o
def sIf (c : EvT) (a b : EvS) : EvS := fun ρ M => (c ρ M).bind fun p => if p.1 = true then a ρ p.2 else b ρ p.2
def sRet (a : EvE) : EvS := fun ρ M => (a ρ M).bind fun p => some (.rt p.1 p.2)
def sSet (i : Nat) (a : EvE) : EvS := fun ρ M => (a ρ M).bind fun p => some (.nx (ρ.set i (some p.1)) p.2)
def sAsg (a : EvE) (g : EvG) : EvS := fun ρ M => (a ρ M).bind fun p => (g p.1 ρ).bind fun ρ1 => some (.nx ρ1 p.2)
def sPar (i j : Nat) (a : EvA) : EvS := fun ρ M => (a ρ M).bind fun p => match p.1 with
  | [x, y] => some (.nx ((ρ.set i (some x)).set j (some y)) p.2)
  | _ => none
def sExpr (a : EvE) : EvS := fun ρ M => (a ρ M).bind fun p => some (.nx ρ p.2)
def lstAt (M : Mem) : W → Option (Nat × List W)
  | .obj i => match M[i]? with
    | some (.lst ws) => some (i, ws)
    | _ => none
  | _ => none
theorem lstAt_eq {M : Mem} {w : W} {i : Nat} {ws : List W} (h : lstAt M w = some (i, ws)) : w = .obj i ∧ M[i]? = some (.lst ws) := by
  cases w with
  | obj j =>
    simp only [lstAt] at h
    split at h
    · rename_i ws' e; cases h; exact ⟨rfl, e⟩
    · cases h
  | d x => cases h
  | scr => cases h
  | pack ws => cases h
/-- o[i] = e -/
def sPut (e o i : EvE) : EvS := fun ρ M => (e ρ M).bind fun p => (o ρ p.2).bind fun q => (i ρ q.2).bind fun r => (asI r.1).bind fun k => (lstAt r.2 q.1).bind fun l =>
  (ixN l.2.length k).bind fun j => some (.nx ρ (r.2.set l.1 (.lst (l.2.set j p.1))))
/-- o.append(e) -/
def sApp (o e : EvE) : EvE := fun ρ M => (o ρ M).bind fun q => (lstAt q.2 q.1).bind fun _ => (e ρ q.2).bind fun p => (lstAt p.2 q.1).bind fun l => if l.2.length < sizeLine then some (.d .none, p.2.set l.1 (.lst (l.2 ++ [p.1]))) else none
section
variable {C : Ck} {X : Cx} {pos : Pos} {a b c e : Expr} {st : Stmt} {sts s2 : List Stmt} {fa fb : EvE} {fc : EvT} {ga gb : EvS} {fs : EvA} {is : List Nat}
theorem qs_nil : PSs X [] (tsOf C sNil) := pss_nil.weak fun D σ H ⟨ρ, φ, M, o, env, sim, e, q⟩ => by
  cases e
  exact q σ φ H (.refl sim) env
theorem seq_of {t u : TS} (h1 : ∀ D σ H, tsOf C ga D σ H → t D σ H) (h2 : ∀ D σ H, tsOf C gb D σ H → u D σ H) {D : Ends} {σ : L2.St} {H : Hp} (h : tsOf C (sSeq ga gb) D σ H) : tSeq t u D σ H := by
  obtain ⟨ρ, φ, M, o, env, sim, e, q⟩ := h
  obtain ⟨o1, e1, e⟩ := bsome e
  refine h1 _ _ _ ⟨ρ, φ, M, o1, env, sim, e1, ?_⟩
  cases o1 with
  | nx ρ1 M1 => exact fun σ1 φ1 H1 s1 env1 => h2 _ _ _ ⟨ρ1, φ1, M1, o, env1, s1.sim, e, q.step s1⟩
  | bk ρ1 M1 => cases e; exact q
  | ct ρ1 M1 => cases e; exact q
  | rt w M1 => cases e; exact q
theorem qs_cons (h1 : PS X st (tsOf C ga)) (h2 : PSs X sts (tsOf C gb)) : PSs X (st :: sts) (tsOf C (sSeq ga gb)) :=
  (pss_cons h1 h2).weak fun D σ H h => seq_of (fun _ _ _ z => z) (fun _ _ _ z => z) h
theorem qs_one (h1 : PS X st (tsOf C ga)) : PSs X [st] (tsOf C ga) := pss_one h1
theorem q_if (hc : PT X c (ttOf C fc)) (ha : PSs X sts (tsOf C ga)) (hb : PSs X s2 (tsOf C gb)) : PS X (.If c sts s2 pos) (tsOf C (sIf fc ga gb)) :=
  (ps_if hc ha hb).weak fun D σ H ⟨ρ, φ, M, o, env, sim, e, q⟩ => by
    obtain ⟨⟨k, M1⟩, e1, e⟩ := bsome e
    refine ⟨ρ, φ, M, k, M1, env, sim, e1, fun φ1 H1 s1 => ?_⟩
    cases k with
    | true => exact ⟨ρ, φ1, M1, o, env.step s1, s1.sim, e, q.step s1⟩
    | false => exact ⟨ρ, φ1, M1, o, env.step s1, s1.sim, e, q.step s1⟩
theorem q_ret (he : PE X e (tOf C fa)) : PS X (.Return (some e) pos) (tsOf C (sRet fa)) :=
  (ps_ret he).weak fun D σ H ⟨ρ, φ, M, o, env, sim, e, q⟩ => by
    obtain ⟨⟨x, M1⟩, e1, e⟩ := bsome e
    cases e
    exact ⟨ρ, φ, M, x, M1, env, sim, e1, q⟩
theorem set_of {i : Nat} {D : Ends} {σ : L2.St} {H : Hp} (h : tsOf C (sSet i fa) D σ H) : tAsg (tOf C fa) (gName i) D σ H := by
  obtain ⟨ρ, φ, M, o, env, sim, e, q⟩ := h
  obtain ⟨⟨x, M1⟩, e1, e⟩ := bsome e
  cases e
  exact ⟨ρ, φ, M, x, M1, env, sim, e1, fun v φ1 H1 s1 r1 => q _ φ1 H1 s1 ((env.step s1).set r1 i)⟩
theorem q_set {i : Nat} {x : Str} {pos' : Pos} (hN : X.N.Nodup) (hi : X.N[i]? = some x) (hx : Loc X.env.scope x) (he : PE X e (tOf C fa)) (hs : swapsWith e (some (.Name x pos')) pos.line X.env = pure false := by rfl) (hf : X.fn x = true ∨ X.env.scope.names.lookup x = some .local := by first | exact .inl rfl | exact .inr rfl | assumption) :
    PS X (.Assign [.Name x pos'] e pos) (tsOf C (sSet i fa)) := (ps_set hN hi hx he hs hf).weak fun _ _ _ h => set_of h
theorem q_asg {tg : Expr} {g : EvG} (he : PE X e (tOf C fa)) (hg : PG X tg (tgOf C is g)) (hs : swapsWithSole [tg] e pos.line X.env = pure false := by rfl) (hw : swappedStores [tg] e X.env = pure none := by rfl)
    (h1 : (assignEach [tg] X.env).map (·.2) = [assign tg X.env] := by rfl) : PS X (.Assign [tg] e pos) (tsOf C (sAsg fa g)) :=
  (ps_asg he hg hs hw h1).weak fun D σ H ⟨ρ, φ, M, o, env, sim, e, q⟩ => by
    obtain ⟨⟨x, M1⟩, e1, e⟩ := bsome e
    obtain ⟨ρ1, e2, e⟩ := bsome e
    cases e
    exact ⟨ρ, φ, M, x, M1, env, sim, e1, fun v φ1 H1 s1 r1 => ⟨ρ, φ1, M1, x, ρ1, env.step s1, s1.sim, r1, e2, fun σ1 env1 _ => q σ1 φ1 H1 s1 env1⟩⟩
theorem q_par {i j : Nat} {x y : Str} {px py pt : Pos} {kt k2 : Nat} {pt2 : Pos} (hc : X.calm = true) (hN : X.N.Nodup) (hi : X.N[i]? = some x) (hj : X.N[j]? = some y) (hij : i ≠ j)
    (hx : X.env.scope.names.lookup x = some .local) (hy : X.env.scope.names.lookup y = some .local) (ha : PA X [a, b] (taOf C fs))
    (hw : swappedStores [.Tuple [.Name x px, .Name y py] kt pt] (.Tuple [a, b] k2 pt2) X.env = pure (some [x, y]))
    (hs : swapsWithSole [.Tuple [.Name x px, .Name y py] kt pt] (.Tuple [a, b] k2 pt2) pos.line X.env = pure false := by rfl) :
    PS X (.Assign [.Tuple [.Name x px, .Name y py] kt pt] (.Tuple [a, b] k2 pt2) pos) (tsOf C (sPar i j fs)) :=
  (ps_par hc hN hi hj hij hx hy ha hw hs).weak fun D σ H ⟨ρ, φ, M, o, env, sim, e, q⟩ => by
    obtain ⟨⟨ws, M1⟩, e1, e⟩ := bsome e
    refine ⟨ρ, φ, M, ws, M1, env, sim, e1, fun vs φ1 H1 s1 r1 => ?_⟩
    simp only at e
    split at e
    · rename_i w1 w2
      cases e
      cases r1 with
      | cons r1 r => cases r with
        | cons r2 r => cases r; exact ⟨_, _, rfl, q _ φ1 H1 s1 (((env.step s1).set r1 i).set r2 j)⟩
    · cases e
theorem q_expr (he : PE X e (tOf C fa)) (hs : swapsWith e none pos.line X.env = pure false := by rfl) : PS X (.Expr e pos) (tsOf C (sExpr fa)) :=
  (ps_expr he hs).weak fun D σ H ⟨ρ, φ, M, o, env, sim, e, q⟩ => by
    obtain ⟨⟨x, M1⟩, e1, e⟩ := bsome e
    cases e
    exact ⟨ρ, φ, M, x, M1, env, sim, e1, fun v φ1 H1 s1 r1 => q _ φ1 H1 s1 (env.step s1)⟩
theorem q_put {fo fi fe : EvE} {o i : Expr} {po : Pos} (he : PE X e (tOf C fe)) (ho : PE X o (tOf C fo)) (hi : PE X i (tOf C fi)) (hg : PG X (.Subscript o i po) (gSub (tOf C fo) (tOf C fi) rSetL)) (hs : swapsWithSole [.Subscript o i po] e pos.line X.env = pure false := by rfl) (hw : swappedStores [.Subscript o i po] e X.env = pure none := by rfl)
    (h1 : (assignEach [.Subscript o i po] X.env).map (·.2) = [assign (.Subscript o i po) X.env] := by rfl) : PS X (.Assign [.Subscript o i po] e pos) (tsOf C (sPut fe fo fi)) :=
  (ps_asg he hg hs hw h1).weak fun D σ H ⟨ρ, φ, M, o, env, sim, e, q⟩ => by
    obtain ⟨⟨x, M1⟩, e1, e⟩ := bsome e
    obtain ⟨⟨y, M2⟩, e2, e⟩ := bsome e
    obtain ⟨⟨z, M3⟩, e3, e⟩ := bsome e
    obtain ⟨k, hk, e⟩ := bsome e
    obtain ⟨⟨l, ws⟩, hl, e⟩ := bsome e
    obtain ⟨j, hj, e⟩ := bsome e
    cases e
    obtain ⟨ey, el⟩ := lstAt_eq hl
    simp only at ey el hj
    have ez := asI_eq hk
    simp only at ez
    subst ey ez
    refine ⟨ρ, φ, M, x, M1, env, sim, e1, fun v φ1 H1 s1 r1 => ⟨ρ, φ1, M1, _, M2, env.step s1, s1.sim, e2, fun v2 φ2 H2 s2 r2 => ⟨ρ, φ2, M2, _, M3, (env.step s1).step s2, s2.sim, e3, fun v3 φ3 H3 s3 r3 => ?_⟩⟩⟩
    obtain ⟨rfl, _⟩ := (r2.step s3).isO
    obtain rfl := r3.isI
    obtain ⟨us, hu, ru⟩ := s3.sim.ob l _ el
    have rx := (r1.step s2).step s3
    refine ⟨φ3 l, us, k, j, rfl, rfl, hu, by rw [ru.length]; exact hj, ?_⟩
    have s4 := Step.set s3.sim el (RwAll.set rx j ru)
    have s5 := s1.trans (s2.trans (s3.trans s4))
    exact q _ φ3 _ s5 (env.step s5)
end
end Va

set_option Elab.async false
set_option linter.all false
set_option maxRecDepth 100000
set_option maxHeartbeats 1000000
/-! Va4: loops and comprehensions by value -/
namespace Va
open PySem PySem.Spec PyProof.Rows L2 Sa

def Deps (deps : List (Nat × MO)) (M : Mem) : Prop := ∀ p ∈ deps, M[p.1]? = some p.2
@[simp] theorem Deps.nil {M : Mem} : Deps [] M := fun p h => by simp at h
@[simp] theorem Deps.one {i : Nat} {mo : MO} {M : Mem} : Deps [(i, mo)] M ↔ M[i]? = some mo := by simp [Deps]
/-- the walk gives these -/
def ItOk (C : Ck) (J : It) (items : List W) (deps : List (Nat × MO)) (φ0 : Nat → Addr) (M0 : Mem) (H0 : Hp) : Prop :=
  ∀ φ M H, Step C φ0 M0 H0 φ M H → Deps deps M →
    (∀ (k : Nat) (w : W), items[k]? = some w → J.go k H ∧ ∀ x H', J.yld k H x H' → Step C φ M H φ M H' ∧ Rw C φ M.length H' x w) ∧ J.stop items.length H
def tiOf (C : Ck) (fi : EvI) : TI := fun σ H R => ∃ ρ φ M s M', EnvR C φ M.length H σ ρ ∧ Sim C φ M H ∧ fi ρ M = some (s, M') ∧
  ∀ J φ' H', Step C φ M H φ' M' H' → ItOk C J s.1 s.2 φ' M' H' → R J H'
theorem _root_.L2.PI.weak {X : Cx} {tg e : Expr} {t t' : TI} (h : PI X tg e t) (w : ∀ σ H R, t' σ H R → t σ H R) : PI X tg e t' := ⟨fun pins s σ H R I q => h.run pins s σ H R I (w _ _ _ q)⟩

open Classical in
noncomputable def forL (deps : List (Nat × MO)) (g : EvG) (body : EvS) : List W → Ev → Mem → Option Out
  | [], ρ, M => if Deps deps M then some (.nx ρ M) else none
  | w :: ws, ρ, M => if Deps deps M then (g w ρ).bind fun ρ1 => (body ρ1 M).bind fun o => match o with
    | .nx ρ2 M2 => forL deps g body ws ρ2 M2
    | .ct ρ2 M2 => forL deps g body ws ρ2 M2
    | .bk ρ2 M2 => some (.nx ρ2 M2)
    | .rt w M2 => some (.rt w M2)
    else none
noncomputable def sFor (fi : EvI) (g : EvG) (body : EvS) : EvS := fun ρ M => (fi ρ M).bind fun p => forL p.1.2 g body p.1.1 ρ p.2
section
variable {C : Ck} {X : Cx} {pos : Pos} {tg iter e : Expr} {body : List Stmt} {fi : EvI} {g : EvG} {gb : EvS} {is : List Nat}
theorem for_of {D : Ends} {σ : L2.St} {H : Hp} (h : tsOf C (sFor fi g gb) D σ H) : tFor (tiOf C fi) (tgOf C is g) (tsOf C gb) D σ H := by
  obtain ⟨ρ, φ, M, o, env, sim, e, q⟩ := h
  obtain ⟨⟨⟨items, deps⟩, M1⟩, e1, e⟩ := bsome e
  refine ⟨ρ, φ, M, _, M1, env, sim, e1, fun J φ1 H1 s1 ok => ?_⟩
  refine ⟨fun i m σ H => ∃ ρ φ M ws, m = ws.length ∧ items.drop i = ws ∧ i ≤ items.length ∧ EnvR C φ M.length H σ ρ ∧ Step C φ1 M1 H1 φ M H ∧ forL deps g gb ws ρ M = some o,
    ⟨items.length, ρ, φ1, M1, items, rfl, rfl, Nat.zero_le _, env.step s1, .refl s1.sim, e⟩, ?_⟩
  intro i m σ2 H2 hw
  obtain ⟨ρ2, φ2, M2, ws, hm, hd, hi, env2, s2, e2⟩ := hw
  cases ws with
  | nil =>
    have hn : i = items.length := by
      have := congrArg List.length hd
      simp at this
      omega
    simp only [forL] at e2
    split at e2
    · rename_i dp
      cases e2
      refine .inl ⟨?_, q σ2 φ2 H2 (s1.trans s2) env2⟩
      rw [hn]
      exact (ok φ2 M2 H2 s2 dp).2
    · cases e2
  | cons w ws =>
    simp only [forL] at e2
    split at e2
    · rename_i dp
      obtain ⟨ρ3, e3, e2⟩ := bsome e2
      obtain ⟨o1, e4, e2⟩ := bsome e2
      have hk : items[i]? = some w := by
        have : (items.drop i)[0]? = some w := by rw [hd]; rfl
        simpa using this
      have hlt : i < items.length := (List.getElem?_eq_some_iff.mp hk).1
      have hd' : items.drop (i + 1) = ws := by
        rw [← List.drop_drop, hd]; rfl
      obtain ⟨go, yl⟩ := (ok φ2 M2 H2 s2 dp).1 i w hk
      refine .inr ⟨go, fun σ' H' => ∃ ρ φ M, EnvR C φ M.length H' σ' ρ ∧ Step C φ1 M1 H1 φ M H' ∧ forL deps g gb ws ρ M = some o, fun σ' H' ⟨ρ, φ, M, h1, h2, h3⟩ => ⟨ws.length, ?_, ρ, φ, M, ws, rfl, hd', hlt, h1, h2, h3⟩, fun x H' hy => ?_⟩
      · rw [hm]; exact Nat.lt_succ_self _
      · obtain ⟨st, rx⟩ := yl x H' hy
        refine ⟨ρ2, φ2, M2, w, ρ3, env2.step st, st.sim, rx, e3, fun σ' env' _ => ⟨ρ3, φ2, M2, o1, env', st.sim, e4, ?_⟩⟩
        cases o1 with
        | nx ρ4 M4 => exact fun σ5 φ5 H5 s5 env5 => ⟨ρ4, φ5, M4, env5, s2.trans (st.trans s5), e2⟩
        | ct ρ4 M4 => exact fun σ5 φ5 H5 s5 env5 => ⟨ρ4, φ5, M4, env5, s2.trans (st.trans s5), e2⟩
        | bk ρ4 M4 => cases e2; exact fun σ5 φ5 H5 s5 env5 => q σ5 φ5 H5 (s1.trans (s2.trans (st.trans s5))) env5
        | rt w4 M4 => cases e2; exact fun σ5 φ5 H5 s5 env5 => q σ5 φ5 H5 (s1.trans (s2.trans (st.trans s5))) env5
    · cases e2
theorem q_for (hp : PassesOwn (model X.prog X.w) X.A X.env X.xe) (hc : X.calm = true) (hi : PI X tg iter (tiOf C fi)) (hg : PG X tg (tgOf C is g)) (hb : PSs X body (tsOf C gb))
    (hs : ∀ x, foldedSetIterable iter X.env x = pure x := by intro _; rfl) : PS X (.For tg iter body [] pos) (tsOf C (sFor fi g gb)) :=
  (ps_for hp hc hi hg hb hs).weak fun _ _ _ h => for_of h

def whN (c : EvT) (b : EvS) : Nat → Ev → Mem → Option Out
  | 0, _, _ => none
  | k + 1, ρ, M => (c ρ M).bind fun p => if p.1 = true then (b ρ p.2).bind fun o => match o with
    | .nx ρ2 M2 => whN c b k ρ2 M2
    | .ct ρ2 M2 => whN c b k ρ2 M2
    | .bk ρ2 M2 => some (.nx ρ2 M2)
    | .rt w M2 => some (.rt w M2)
    else some (.nx ρ p.2)
theorem q_while (n : Nat) {c : Expr} {fc : EvT} (hp : PassesOwn (model X.prog X.w) X.A X.env X.xe) (hc : PT X c (ttOf C fc)) (hb : PSs X body (tsOf C gb)) : PS X (.While c body [] pos) (tsOf C (whN fc gb n)) :=
  (ps_while hp hc hb).weak fun D σ H0 ⟨ρ, φ, M, o, env, sim, e, q⟩ => by
    refine ⟨fun m σ H => ∃ ρ φ' M', EnvR C φ' M'.length H σ ρ ∧ Step C φ M H0 φ' M' H ∧ whN fc gb m ρ M' = some o, ⟨n, ρ, φ, M, env, .refl sim, e⟩, ?_⟩
    intro m σ2 H2 ⟨ρ2, φ2, M2, env2, s2, e2⟩
    cases m with
    | zero => cases e2
    | succ m =>
      obtain ⟨⟨k, M3⟩, e3, e2⟩ := bsome e2
      refine ⟨ρ2, φ2, M2, k, M3, env2, s2.sim, e3, fun φ3 H3 s3 => ?_⟩
      cases k with
      | false => cases e2; exact q σ2 φ3 H3 (s2.trans s3) (env2.step s3)
      | true =>
        obtain ⟨o1, e4, e2⟩ := bsome e2
        refine ⟨fun σ' H' => ∃ ρ φ' M', EnvR C φ' M'.length H' σ' ρ ∧ Step C φ M H0 φ' M' H' ∧ whN fc gb m ρ M' = some o, fun σ' H' h => ⟨m, Nat.lt_succ_self _, h⟩, ρ2, φ3, M3, o1, env2.step s3, s3.sim, e4, ?_⟩
        cases o1 with
        | nx ρ4 M4 => exact fun σ5 φ5 H5 s5 env5 => ⟨ρ4, φ5, M4, env5, s2.trans (s3.trans s5), e2⟩
        | ct ρ4 M4 => exact fun σ5 φ5 H5 s5 env5 => ⟨ρ4, φ5, M4, env5, s2.trans (s3.trans s5), e2⟩
        | bk ρ4 M4 => cases e2; exact fun σ5 φ5 H5 s5 env5 => q σ5 φ5 H5 (s2.trans (s3.trans s5)) env5
        | rt w4 M4 => cases e2; exact fun σ5 φ5 H5 s5 env5 => q σ5 φ5 H5 (s2.trans (s3.trans s5)) env5

/-! list comprehensions -/
def wipeW (ρ : Ev) : List Nat → Ev
  | [] => ρ
  | v :: vs => (wipeW ρ vs).set v none
theorem EnvR.clear {φ : Nat → Addr} {n : Nat} {H : Hp} {σ : L2.St} {ρ : Ev} (h : EnvR C φ n H σ ρ) (i : Nat) : EnvR C φ n H (σ.set i none) (ρ.set i none) := by
  refine ⟨by simp [h.1], fun j w hj => ?_⟩
  by_cases z : i = j
  · subst z
    by_cases hl : i < ρ.length
    · rw [List.getElem?_set_self hl] at hj; cases hj
    · rw [List.getElem?_eq_none (by simpa using Nat.le_of_not_lt hl)] at hj; cases hj
  · rw [List.getElem?_set_ne z] at hj
    obtain ⟨v, h1, h2⟩ := h.2 j w hj
    exact ⟨v, by rw [List.getElem?_set_ne z]; exact h1, h2⟩
theorem EnvR.wipe {φ : Nat → Addr} {n : Nat} {H : Hp} {σ : L2.St} {ρ : Ev} (h : EnvR C φ n H σ ρ) : ∀ vs, EnvR C φ n H (wipe σ vs) (wipeW ρ vs)
  | [] => h
  | v :: vs => (EnvR.wipe h vs).clear v
theorem wipe_get (σ : L2.St) (i : Nat) : ∀ vs, (wipe σ vs)[i]? = if i ∈ vs then (if i < σ.length then some none else none) else σ[i]?
  | [] => by simp [wipe]
  | v :: vs => by
    have ih := wipe_get σ i vs
    have hl := wipe_length σ vs
    show ((wipe σ vs).set v none)[i]? = _
    by_cases z : v = i
    · subst z
      by_cases hl2 : v < σ.length
      · rw [List.getElem?_set_self (by rw [hl]; exact hl2)]
        simp [hl2]
      · rw [List.getElem?_eq_none (by simp [hl]; omega)]
        simp [hl2]
    · rw [List.getElem?_set_ne z, ih]
      have : (i ∈ v :: vs) ↔ i ∈ vs := by simp [Ne.symm z]
      simp only [this]
theorem wipe_only {vs : List Nat} {σ σ2 : L2.St} (hv : ∀ i ∈ is, i ∈ vs) (h : Only is (wipe σ vs) σ2) : wipe σ2 vs = wipe σ vs := by
  refine List.ext_getElem? fun i => ?_
  have l2 : σ2.length = σ.length := h.1.trans (wipe_length σ vs)
  rw [wipe_get, wipe_get, l2]
  by_cases z : i ∈ vs
  · simp [z]
  · have := h.2 i fun q => z (hv i q)
    rw [this, wipe_get]
    simp [z]
open Classical in
noncomputable def lcL (deps : List (Nat × MO)) (g : EvG) (t : EvT) (e : EvE) (ρ0 : Ev) (n : Nat) : List W → Mem → Option Mem
  | [], M => if Deps deps M then some M else none
  | w :: ws, M => if Deps deps M then (g w ρ0).bind fun ρ1 => (t ρ1 M).bind fun p => if p.1 = true then (e ρ1 p.2).bind fun y => (lstAt y.2 (.obj n)).bind fun l =>
      if l.2.length < sizeLine then lcL deps g t e ρ0 n ws (y.2.set n (.lst (l.2 ++ [y.1]))) else none
    else lcL deps g t e ρ0 n ws p.2 else none
noncomputable def eLc (fi : EvI) (g : EvG) (t : EvT) (e : EvE) (vs : List Nat) : EvE := fun ρ M => (fi ρ M).bind fun p =>
  (lcL p.1.2 g t e (wipeW ρ vs) p.2.length p.1.1 (p.2 ++ [.lst []])).bind fun M' => some (.obj p.2.length, M')
def tTrue : EvT := fun _ M => some (true, M)
theorem lc_of {ft : EvT} {fe : EvE} {vs : List Nat} (hv : ∀ i ∈ is, i ∈ vs) {σ : L2.St} {H : Hp} {Q : VK} (h : tOf C (eLc fi g ft fe vs) σ H Q) : tLc (tiOf C fi) (tgOf C is g) (ttOf C ft) (tOf C fe) vs σ H Q := by
  obtain ⟨ρ, φ, M, w, M', env, sim, e, q⟩ := h
  obtain ⟨⟨⟨items, deps⟩, M1⟩, e1, e⟩ := bsome e
  obtain ⟨Mz, e2, e⟩ := bsome e
  cases e
  refine ⟨ρ, φ, M, _, M1, env, sim, e1, fun J φ1 H1 s1 ok D nD => ?_⟩
  have s2 := Step.list (vs := []) (ws := []) s1.sim nD .nil
  generalize hφ : phi φ1 M1.length D = φ2 at s2
  have hD : φ2 M1.length = D := by rw [← hφ]; exact phi_at
  refine ⟨fun i m Hx => ∃ φ M ws, m = ws.length ∧ items.drop i = ws ∧ i ≤ items.length ∧ Step C φ2 (M1 ++ [.lst []]) (upd H1 D (.lst [])) φ M Hx ∧ lcL deps g ft fe (wipeW ρ vs) M1.length ws M = some M',
    ⟨items.length, φ2, _, items, rfl, rfl, Nat.zero_le _, .refl s2.sim, e2⟩, ?_⟩
  intro i m Hx ⟨φ3, M3, ws, hm, hd, hi, s3, e3⟩
  have s13 : Step C φ1 M1 H1 φ3 M3 Hx := s2.trans s3
  have s03 : Step C φ M H φ3 M3 Hx := s1.trans s13
  have lt3 : M1.length < M3.length := by have := s3.le; simp at this; omega
  have at3 : φ3 M1.length = D := by rw [s3.ext M1.length (by simp)]; exact hD
  cases ws with
  | nil =>
    have hn : i = items.length := by
      have := congrArg List.length hd
      simp at this
      omega
    simp only [lcL] at e3
    split at e3
    · rename_i dp
      cases e3
      refine .inl ⟨by rw [hn]; exact (ok φ3 M' Hx s13 dp).2, q _ φ3 Hx s03 ?_⟩
      rw [← at3]
      exact .obj lt3
    · cases e3
  | cons w ws =>
    simp only [lcL] at e3
    split at e3
    · rename_i dp
      obtain ⟨ρ4, e4, e3⟩ := bsome e3
      obtain ⟨⟨k, M5⟩, e5, e3⟩ := bsome e3
      have hk : items[i]? = some w := by
        have : (items.drop i)[0]? = some w := by rw [hd]; rfl
        simpa using this
      have hlt : i < items.length := (List.getElem?_eq_some_iff.mp hk).1
      have hd' : items.drop (i + 1) = ws := by
        rw [← List.drop_drop, hd]; rfl
      obtain ⟨go, yl⟩ := (ok φ3 M3 Hx s13 dp).1 i w hk
      refine .inr ⟨go, fun H' => ∃ φ M, Step C φ2 (M1 ++ [.lst []]) (upd H1 D (.lst [])) φ M H' ∧ lcL deps g ft fe (wipeW ρ vs) M1.length ws M = some M', fun H' ⟨φ, M, h1, h2⟩ => ⟨ws.length, by rw [hm]; exact Nat.lt_succ_self _, φ, M, ws, rfl, hd', hlt, h1, h2⟩, fun x H' hy => ?_⟩
      obtain ⟨st, rx⟩ := yl x H' hy
      have s0 : Step C φ M H φ3 M3 H' := s03.trans st
      refine ⟨wipeW ρ vs, φ3, M3, w, ρ4, (env.step s0).wipe vs, st.sim, rx, e4, fun σ4 env4 on4 => ⟨wipe_only hv on4, ρ4, φ3, M3, k, M5, env4, st.sim, e5, fun φ5 H5 s5 => ?_⟩⟩
      cases k with
      | false => exact ⟨φ5, M5, s3.trans (st.trans s5), e3⟩
      | true =>
        obtain ⟨⟨y, M6⟩, e6, e3⟩ := bsome e3
        obtain ⟨⟨l, acc⟩, hl, e3⟩ := bsome e3
        obtain ⟨el, hacc⟩ := lstAt_eq hl
        cases el
        split at e3
        · rename_i small
          refine ⟨ρ4, φ5, M5, y, M6, env4.step s5, s5.sim, e6, fun v φ6 H6 s6 r6 => ?_⟩
          have s26 := s3.trans (st.trans (s5.trans s6))
          obtain ⟨us, hu, ru⟩ := s6.sim.ob _ _ hacc
          have at6 : φ6 M1.length = D := by rw [s26.ext M1.length (by simp)]; exact hD
          rw [at6] at hu
          refine ⟨us, hu, by rw [ru.length]; exact small, φ6, _, s26.trans ?_, e3⟩
          have := Step.set s6.sim hacc (ru.append (.cons r6 .nil))
          rw [at6] at this
          exact this
        · cases e3
    · cases e3
theorem qts_nil : PTs X [] (ttOf C tTrue) := ⟨fun pins s σ H Q I ⟨ρ, φ, M, b, M', env, sim, e, q⟩ => by
  cases e
  exact pts_nil.run pins s σ H Q I (q φ H (.refl sim))⟩
theorem qts_one {c : Expr} {t : EvT} (h : PT X c (ttOf C t)) : PTs X [c] (ttOf C t) := pts_one h
section
variable {elt : Expr} {ifs : List Expr} {scope : Scope} {own : List (Str × Nat)} {ft : EvT} {fe : EvE}
theorem q_lc (hc : X.calm = true) (hN : X.N.Nodup) (hi : PI X tg iter (tiOf C fi)) (ok : BlkOk X.N X.env.scope scope own) (hv : ∀ i ∈ is, i ∈ own.map (·.2))
    (hg : ∀ (s : Shared) (H : Hp) (D : Addr) (cl : List (Str × Addr)) (fp : List Addr), PG (X.blk s H scope (compEnvC scope cl D X.env) fp) tg (tgOf C is g)) (ht : ∀ (s : Shared) (H : Hp) (D : Addr) (cl : List (Str × Addr)) (fp : List Addr), PTs (X.blk s H scope (compEnvC scope cl D X.env) fp) ifs (ttOf C ft))
    (he : ∀ (s : Shared) (H : Hp) (D : Addr) (cl : List (Str × Addr)) (fp : List Addr), PE (X.blk s H scope (compEnvC scope cl D X.env) fp) elt (tOf C fe)) (hs : ∀ x, foldedSetIterable iter X.env x = pure x := by intro _; rfl) :
    PE X (.ListComp elt [⟨tg, iter, ifs, 0⟩] scope pos) (tOf C (eLc fi g ft fe (own.map (·.2)))) :=
  (pe_lc hc hN hi ok hg ht he hs).weak fun _ _ _ h => lc_of hv h
theorem q_setLc {i : Nat} {y : Str} {py spos : Pos} (hc : X.calm = true) (hN : X.N.Nodup) (hy : X.N[i]? = some y) (hyl : X.env.scope.names.lookup y = some .local)
    (hsw : swapsWith (.ListComp elt [⟨tg, iter, ifs, 0⟩] scope pos) (some (.Name y py)) spos.line X.env = pure true) (hi : PI X tg iter (tiOf C fi)) (ok : BlkOk X.N X.env.scope scope own) (hv : ∀ i ∈ is, i ∈ own.map (·.2))
    (hg : ∀ (s : Shared) (H : Hp) (D : Addr) (cl : List (Str × Addr)) (fp : List Addr), PG (X.blk s H scope (compEnvC scope cl D X.env) fp) tg (tgOf C is g)) (ht : ∀ (s : Shared) (H : Hp) (D : Addr) (cl : List (Str × Addr)) (fp : List Addr), PTs (X.blk s H scope (compEnvC scope cl D X.env) fp) ifs (ttOf C ft))
    (he : ∀ (s : Shared) (H : Hp) (D : Addr) (cl : List (Str × Addr)) (fp : List Addr), PE (X.blk s H scope (compEnvC scope cl D X.env) fp) elt (tOf C fe)) (hs : ∀ x, foldedSetIterable iter X.env x = pure x := by intro _; rfl) :
    PS X (.Assign [.Name y py] (.ListComp elt [⟨tg, iter, ifs, 0⟩] scope pos) spos) (tsOf C (sSet i (eLc fi g ft fe (own.map (·.2))))) :=
  (ps_setLc hc hN hy hyl hsw hi ok hg ht he hs).weak fun D σ H ⟨ρ, φ, M, o, env, sim, e, q⟩ => by
    obtain ⟨⟨x, M1⟩, e1, e⟩ := bsome e
    cases e
    exact lc_of hv ⟨ρ, φ, M, x, M1, env, sim, e1, fun v φ1 H1 s1 r1 => q _ φ1 H1 s1 ((env.step s1).set r1 i)⟩
end
end
end Va

set_option Elab.async false
set_option linter.all false
set_option maxRecDepth 100000
set_option maxHeartbeats 1000000
/-! Va5: operations by value; the body of a def -/
namespace Va
open PySem PySem.Spec PyProof.Rows L2 Sa

/-! ints -/
def oI (g : Int → Int → PyData) : O2 := fun a b M => (asI a).bind fun i => (asI b).bind fun j => some (.d (g i j), M)
open Classical in
noncomputable def oIc (c : Int → Int → Prop) (g : Int → Int → PyData) : O2 := fun a b M => (asI a).bind fun i => (asI b).bind fun j => if c i j then some (.d (g i j), M) else none
def oU (g : Int → PyData) : O1 := fun a M => (asI a).bind fun i => some (.d (g i), M)
section
variable {C : Ck}
theorem vo_I {g : Int → Int → V} {g' : Int → Int → PyData} (h : ∀ K H i j, Rp K H (g i j) (g' i j)) : VO2 C (rI0 g) (oI g') := by
  intro φ M H x y a b w M' Q sim rx ry e q
  obtain ⟨i, ei, e⟩ := bsome e
  obtain ⟨j, ej, e⟩ := bsome e
  cases e
  rw [asI_eq ei] at rx
  rw [asI_eq ej] at ry
  obtain rfl := rx.isI
  obtain rfl := ry.isI
  exact ⟨i, j, rfl, rfl, q _ φ H (.refl sim) (.d (h _ _ _ _))⟩
theorem vo_Ic {c : Int → Int → Prop} {g : Int → Int → V} {g' : Int → Int → PyData} (h : ∀ K H i j, Rp K H (g i j) (g' i j)) : VO2 C (rI c g) (oIc c g') := by
  intro φ M H x y a b w M' Q sim rx ry e q
  obtain ⟨i, ei, e⟩ := bsome e
  obtain ⟨j, ej, e⟩ := bsome e
  split at e
  · rename_i hc
    cases e
    rw [asI_eq ei] at rx
    rw [asI_eq ej] at ry
    obtain rfl := rx.isI
    obtain rfl := ry.isI
    exact ⟨i, j, rfl, rfl, hc, q _ φ H (.refl sim) (.d (h _ _ _ _))⟩
  · cases e
abbrev oAdd : O2 := oI fun i j => .int (i + j)
abbrev oSub : O2 := oI fun i j => .int (i - j)
noncomputable abbrev oMul : O2 := oIc CMul fun i j => .int (i * j)
noncomputable abbrev oDiv : O2 := oIc CDivW fun i j => .int (i / j)
noncomputable abbrev oMod : O2 := oIc (fun _ j => 0 < j) fun i j => .int (i % j)
noncomputable abbrev oPow : O2 := oIc CPow fun i j => .int (i ^ j.toNat)
abbrev oLt : O2 := oI fun i j => .bool (decide (i < j))
abbrev oLe : O2 := oI fun i j => .bool (decide (i ≤ j))
abbrev oGt : O2 := oI fun i j => .bool (decide (j < i))
abbrev oGe : O2 := oI fun i j => .bool (decide (j ≤ i))
abbrev oNeg : O1 := oU fun i => .int (-i)
theorem vo_add : VO2 C (rI0 fun i j => .int (i + j)) oAdd := vo_I fun _ _ _ _ => .int _
theorem vo_sub : VO2 C (rI0 fun i j => .int (i - j)) oSub := vo_I fun _ _ _ _ => .int _
theorem vo_mul : VO2 C (rI CMul fun i j => .int (i * j)) oMul := vo_Ic fun _ _ _ _ => .int _
theorem vo_div : VO2 C (rI CDivW fun i j => .int (i / j)) oDiv := vo_Ic fun _ _ _ _ => .int _
theorem vo_mod : VO2 C (rI (fun _ j => 0 < j) fun i j => .int (i % j)) oMod := vo_Ic fun _ _ _ _ => .int _
theorem vo_pow : VO2 C (rI CPow fun i j => .int (i ^ j.toNat)) oPow := vo_Ic fun _ _ _ _ => .int _
theorem vo_lt : VO2 C (rI0 fun i j => .bl (decide (i < j))) oLt := vo_I fun _ _ _ _ => .bl _
theorem vo_le : VO2 C (rI0 fun i j => .bl (decide (i ≤ j))) oLe := vo_I fun _ _ _ _ => .bl _
theorem vo_gt : VO2 C (rI0 fun i j => .bl (decide (j < i))) oGt := vo_I fun _ _ _ _ => .bl _
theorem vo_ge : VO2 C (rI0 fun i j => .bl (decide (j ≤ i))) oGe := vo_I fun _ _ _ _ => .bl _
theorem vu_neg : VO1 C (rU fun i => .int (-i)) oNeg := by
  intro φ M H x a w M' Q sim rx e q
  obtain ⟨i, ei, e⟩ := bsome e
  cases e
  rw [asI_eq ei] at rx
  obtain rfl := rx.isI
  exact ⟨i, rfl, q _ φ H (.refl sim) (.d (.int _))⟩

/-! == -/
def eqD : PyData → PyData → Option Bool
  | .int i, .int j => some (decide (i = j))
  | .str x, .str y => some (decide (x = y))
  | .bool x, .bool y => some (decide (x = y))
  | .tuple xs, .tuple ys => if (SeqAt.shaped (.tuple xs) && SeqAt.shaped (.tuple ys)) = true then some (PyData.eqv (.tuple xs) (.tuple ys)) else none
  | _, _ => none
def oEq : O2 := fun a b M => match a, b with
  | .d x, .d y => (eqD x y).map fun k => (.d (.bool k), M)
  | _, _ => none
def oNe : O2 := fun a b M => match a, b with
  | .d x, .d y => (eqD x y).map fun k => (.d (.bool (!k)), M)
  | _, _ => none
theorem dInt (x y : Int) : decide (V.int x = V.int y) = decide (x = y) := by simp
theorem dStr (x y : Str) : decide (V.str x = V.str y) = decide (x = y) := by simp
theorem dBl (x y : Bool) : decide (V.bl x = V.bl y) = decide (x = y) := by simp
theorem eq_both {K : PySem.W.Frag} {H : Hp} {v u : V} {x y : PyData} {k : Bool} (rx : Rp K H v x) (ry : Rp K H u y) (e : eqD x y = some k) (Q : Bool → Prop) (q : Q k) :
    (scal v u = true ∧ Q (decide (v = u))) ∨ (∃ d e, Dp K H v d ∧ Dp K H u e ∧ SeqAt.shaped d = true ∧ SeqAt.shaped e = true ∧ Q (PyData.eqv d e)) := by
  cases rx with
  | non => cases ry <;> simp [eqD] at e
  | bl b => cases ry with
    | bl c => simp only [eqD, Option.some.injEq] at e; exact .inl ⟨rfl, by rw [dBl, e]; exact q⟩
    | _ => simp [eqD] at e
  | int b => cases ry with
    | int c => simp only [eqD, Option.some.injEq] at e; exact .inl ⟨rfl, by rw [dInt, e]; exact q⟩
    | _ => simp [eqD] at e
  | str b => cases ry with
    | str c => simp only [eqD, Option.some.injEq] at e; exact .inl ⟨rfl, by rw [dStr, e]; exact q⟩
    | _ => simp [eqD] at e
  | tup s r => cases ry with
    | tup s2 r2 =>
      simp only [eqD] at e
      split at e
      · rename_i hs
        cases e
        rw [Bool.and_eq_true] at hs
        exact .inr ⟨_, _, (Rp.tup s r).dp, (Rp.tup s2 r2).dp, hs.1, hs.2, q⟩
      · cases e
    | _ => simp [eqD] at e
theorem vo_eq : VO2 C (fun x y H Q => rEq x y H Q ∨ rEqD C.K x y H Q) oEq := by
  intro φ M H x y a b w M' Q sim rx ry e q
  cases rx with
  | d rx => cases ry with
    | d ry =>
      simp only [oEq, Option.map_eq_some_iff] at e
      obtain ⟨k, ek, e⟩ := e
      cases e
      exact eq_both rx ry ek (fun k => Q (.bl k) H) (q _ φ H (.refl sim) (.d (.bl _)))
    | _ => simp [oEq] at e
  | _ => simp [oEq] at e
theorem vo_ne : VO2 C (fun x y H Q => rNe x y H Q ∨ rNeD C.K x y H Q) oNe := by
  intro φ M H x y a b w M' Q sim rx ry e q
  cases rx with
  | d rx => cases ry with
    | d ry =>
      simp only [oNe, Option.map_eq_some_iff] at e
      obtain ⟨k, ek, e⟩ := e
      cases e
      exact eq_both rx ry ek (fun k => Q (.bl (!k)) H) (q _ φ H (.refl sim) (.d (.bl _)))
    | _ => simp [oNe] at e
  | _ => simp [oNe] at e
/-- is None -/
def oIsN : O2 := fun a b M => match a, b with
  | .d .none, .d .none => some (.d (.bool true), M)
  | _, .d .none => some (.d (.bool false), M)
  | _, _ => none
theorem vo_isN : VO2 C (fun x y H Q => y = .non ∧ Q (.bl (decide (x = .non))) H) oIsN := by
  intro φ M H x y a b w M' Q sim rx ry e q
  have hb : b = .d .none := by
    unfold oIsN at e
    split at e <;> first | rfl | cases e
  subst hb
  refine ⟨ry.isN, ?_⟩
  cases rx with
  | d rx => cases rx <;> (simp only [oIsN, Option.some.injEq] at e; cases e; exact q _ φ H (.refl sim) (.d (.bl _)))
  | obj h => simp only [oIsN, Option.some.injEq] at e; cases e; exact q _ φ H (.refl sim) (.d (.bl _))
  | scr => simp only [oIsN, Option.some.injEq] at e; cases e; exact q _ φ H (.refl sim) (.d (.bl _))
  | pack s r => simp only [oIsN, Option.some.injEq] at e; cases e; exact q _ φ H (.refl sim) (.d (.bl _))

/-! sequences -/
def seqOf (M : Mem) (w : W) : Option (List W) := match w with
  | .obj i => match M[i]? with
    | some (.lst ws) => some ws
    | _ => none
  | w => tupOf w
theorem seq_cases {φ : Nat → Addr} {M : Mem} {H : Hp} {v : V} {w : W} {ws : List W} (sim : Sim C φ M H) (r : Rw C φ M.length H v w) (e : seqOf M w = some ws) :
    ∃ a vs, v = .ref a ∧ (SqL C.K H a vs ∨ SqT C.K H a vs) ∧ RwAll C φ M.length H vs ws := by
  cases r with
  | obj h =>
    simp only [seqOf] at e
    split at e
    · rename_i ws' he
      cases e
      obtain ⟨vs, hv, r⟩ := sim.ob _ _ he
      exact ⟨_, vs, rfl, .inl (SqL.of hv), r⟩
    · cases e
  | d r =>
    obtain ⟨a, vs, rfl, s, r⟩ := (Rw.d (φ := φ) (n := M.length) r).un e
    exact ⟨a, vs, rfl, .inr s, r⟩
  | scr => cases e
  | pack s r => cases e; exact ⟨_, _, rfl, .inr s, r⟩
def oIx : O2 := fun a b M => (asI b).bind fun i => (seqOf M a).bind fun ws => (atI ws i).bind fun w => some (w, M)
theorem atI_rel {φ : Nat → Addr} {n : Nat} {H : Hp} {vs : List V} {ws : List W} (r : RwAll C φ n H vs ws) {i : Int} {w : W} (e : atI ws i = some w) : ∃ v, atI vs i = some v ∧ Rw C φ n H v w := by
  unfold atI at e ⊢
  obtain ⟨j, hj, e⟩ := bsome e
  obtain ⟨v, h1, h2⟩ := r.get e
  exact ⟨v, by rw [r.length, hj]; exact h1, h2⟩
theorem vo_ix : VO2 C (fun x y H Q => rIxL C.K x y H Q ∨ rIxT C.K x y H Q) oIx := by
  intro φ M H x y a b w M' Q sim rx ry e q
  obtain ⟨i, ei, e⟩ := bsome e
  obtain ⟨ws, es, e⟩ := bsome e
  obtain ⟨w2, ew, e⟩ := bsome e
  cases e
  rw [asI_eq ei] at ry
  obtain rfl := ry.isI
  obtain ⟨ad, vs, rfl, sq, r⟩ := seq_cases sim rx es
  obtain ⟨v, hv, rv⟩ := atI_rel r ew
  rcases sq with sq | sq
  · exact .inl ⟨ad, vs, i, v, rfl, rfl, sq, hv, q v φ H (.refl sim) rv⟩
  · exact .inr ⟨ad, vs, i, v, rfl, rfl, sq, hv, q v φ H (.refl sim) rv⟩
/-- the script's item -/
def oIxS (ns : List Int) : O2 := fun a b M => match a with
  | .scr => (asI b).bind fun i => (atI ns i).bind fun w => some (.d (.int w), M)
  | _ => none
theorem atI_map {α β : Type} (f : α → β) (xs : List α) (i : Int) : atI (xs.map f) i = (atI xs i).map f := by
  unfold atI
  rw [List.length_map]
  cases ixN xs.length i with
  | none => rfl
  | some j => simp
theorem vo_ixS : VO2 C (fun x y H Q => rIxL C.K x y H Q ∨ rIxT C.K x y H Q) (oIxS C.ns) := by
  intro φ M H x y a b w M' Q sim rx ry e q
  cases rx with
  | scr =>
    obtain ⟨i, ei, e⟩ := bsome e
    obtain ⟨n, en, e⟩ := bsome e
    cases e
    rw [asI_eq ei] at ry
    obtain rfl := ry.isI
    exact .inl ⟨_, _, i, .int n, rfl, rfl, sim.scr.sq, by rw [atI_map, en]; rfl, q _ φ H (.refl sim) (.d (.int _))⟩
  | _ => simp [oIxS] at e
/-! slices -/
def cutG {α : Type} (xs : List α) (lo hi : Option Int) : List α := (xs.drop (HT.sIx xs.length 0 lo)).take (HT.sIx xs.length xs.length hi - HT.sIx xs.length 0 lo)
theorem cut_rel {φ : Nat → Addr} {n : Nat} {H : Hp} {vs : List V} {ws : List W} (r : RwAll C φ n H vs ws) (lo hi : Option Int) : RwAll C φ n H (cutV vs lo hi) (cutG ws lo hi) := by
  unfold cutV cutG
  rw [r.length]
  exact (r.drop _).take _
end
/-- a part of a slice: a written number, or none -/
def poOf (C : Ck) (o : Option Int) : TO := fun σ H Q => Q o H
def eSlT (lo hi : Option Int) (a : EvE) : EvE := fun ρ M => (a ρ M).bind fun p => (tupOf p.1).bind fun ws => some (mkTup (cutG ws lo hi), p.2)
def eSlL (lo hi : Option Int) (a : EvE) : EvE := fun ρ M => (a ρ M).bind fun p => (lstAt p.2 p.1).bind fun l => some (.obj p.2.length, p.2 ++ [.lst (cutG l.2 lo hi)])
def eSlS (ns : List Int) (lo hi : Option Int) (a : EvE) : EvE := fun ρ M => (a ρ M).bind fun p => match p.1 with
  | .scr => some (.obj p.2.length, p.2 ++ [.lst ((cutG ns lo hi).map fun i => .d (.int i))])
  | _ => none
def eRev (a : EvE) : EvE := fun ρ M => (a ρ M).bind fun p => (tupOf p.1).bind fun ws => some (mkTup ws.reverse, p.2)
section
variable {C : Ck} {X : Cx} {a b e : Expr} {es : List Expr} {lo hi : Option Expr} {fa fb : EvE} {fs : EvA} {pos p2 : Pos} {l u : Option Int}
theorem q_ix (hK : X.K = C.K) (ha : PE X a (tOf C fa)) (hb : PE X b (tOf C fb)) (hs : PlainIx b) : PE X (.Subscript a b pos) (tOf C (eOp oIx fa fb)) :=
  (pe_ix (ix_list.or ix_tup) ha hb hs).weak fun σ H Q h => two_of (by rw [hK]; exact vo_ix) h
theorem q_ixS (hK : X.K = C.K) (ha : PE X a (tOf C fa)) (hb : PE X b (tOf C fb)) (hs : PlainIx b) : PE X (.Subscript a b pos) (tOf C (eOp (oIxS C.ns) fa fb)) :=
  (pe_ix (ix_list.or ix_tup) ha hb hs).weak fun σ H Q h => two_of (by rw [hK]; exact vo_ixS) h
theorem qo_none : PO X none (poOf C none) := ⟨fun pins s σ H Q I h => po_none.run pins s σ H Q I h⟩
theorem qo_int {i : Int} {j : Nat} {p : Pos} : PO X (some (.Constant (.int i) j p)) (poOf C (some i)) := ⟨fun pins s σ H Q I h => (po_some pe_int).run pins s σ H Q I ⟨i, rfl, h⟩⟩
theorem qo_neg {i : Int} {j : Nat} {p p' : Pos} : PO X (some (.UnaryOp .USub (.Constant (.int i) j p) p')) (poOf C (some (-i))) := ⟨fun pins s σ H Q I h => (po_some (pe_un un_neg pe_int)).run pins s σ H Q I ⟨i, rfl, -i, rfl, h⟩⟩
theorem q_slT (hK : X.K = C.K) (he : PE X e (tOf C fa)) (hl : PO X lo (poOf C l)) (hu : PO X hi (poOf C u)) : PE X (.Subscript e (.Slice lo hi none p2) pos) (tOf C (eSlT l u fa)) :=
  (pe_slice sl_tupA he hl hu).weak fun σ H Q ⟨ρ, φ, M, w, M', env, sim, e, q⟩ => by
    obtain ⟨⟨x, M1⟩, e1, e⟩ := bsome e
    obtain ⟨ws, ew, e⟩ := bsome e
    cases e
    refine ⟨ρ, φ, M, x, _, env, sim, e1, fun v φ1 H1 s1 r1 => ?_⟩
    obtain ⟨ad, vs, rfl, sq, r⟩ := r1.un ew
    refine ⟨ad, vs, rfl, by rw [hK]; exact sq, fun h => ?_, fun h p np => ?_⟩
    · have hc : cutG ws l u = ws := by
        unfold cutG
        rw [← r.length, h.1, h.2]
        simp [r.length]
      refine q _ φ1 H1 s1 ?_
      rw [hc]
      exact .tup sq r
    · have s2 := Step.tup (o := .tup (cutV vs l u)) s1.sim np
      exact q _ φ1 _ (s1.trans s2) (.tup (SqT.of upd_same) ((cut_rel r l u).step s2))
theorem q_slL (hK : X.K = C.K) (he : PE X e (tOf C fa)) (hl : PO X lo (poOf C l)) (hu : PO X hi (poOf C u)) : PE X (.Subscript e (.Slice lo hi none p2) pos) (tOf C (eSlL l u fa)) :=
  (pe_slice sl_list he hl hu).weak fun σ H Q ⟨ρ, φ, M, w, M', env, sim, e, q⟩ => by
    obtain ⟨⟨x, M1⟩, e1, e⟩ := bsome e
    obtain ⟨⟨i, ws⟩, ew, e⟩ := bsome e
    cases e
    refine ⟨ρ, φ, M, x, _, env, sim, e1, fun v φ1 H1 s1 r1 => ?_⟩
    obtain ⟨ex, el⟩ := lstAt_eq ew
    simp only at ex
    subst ex
    obtain ⟨rfl, _⟩ := r1.isO
    obtain ⟨vs, hv, r⟩ := s1.sim.ob _ _ el
    exact ⟨_, vs, rfl, SqL.of hv, fun p np => q _ _ _ (s1.trans (.list s1.sim np (cut_rel r l u))) .new⟩
theorem q_slS (hK : X.K = C.K) (he : PE X e (tOf C fa)) (hl : PO X lo (poOf C l)) (hu : PO X hi (poOf C u)) : PE X (.Subscript e (.Slice lo hi none p2) pos) (tOf C (eSlS C.ns l u fa)) :=
  (pe_slice sl_list he hl hu).weak fun σ H Q ⟨ρ, φ, M, w, M', env, sim, e, q⟩ => by
    obtain ⟨⟨x, M1⟩, e1, e⟩ := bsome e
    simp only at e
    split at e
    · cases e
      refine ⟨ρ, φ, M, _, _, env, sim, e1, fun v φ1 H1 s1 r1 => ?_⟩
      cases r1
      have rr : RwAll C φ1 M1.length H1 (cutV (C.ns.map V.int) l u) ((cutG C.ns l u).map fun i => .d (.int i)) := by
        have : RwAll C φ1 M1.length H1 (C.ns.map V.int) (C.ns.map fun i => W.d (.int i)) := by
          generalize C.ns = ns
          induction ns with
          | nil => exact .nil
          | cons n ns ih => exact .cons (.d (.int n)) ih
        have h2 := cut_rel this l u
        unfold cutG at h2 ⊢
        simpa [List.map_take, List.map_drop] using h2
      exact ⟨_, _, rfl, by rw [hK]; exact s1.sim.scr.sq, fun p np => q _ _ _ (s1.trans (.list s1.sim np rr)) .new⟩
    · cases e
theorem q_rev {k : Nat} {p1 p3 p4 : Pos} (hK : X.K = C.K) (he : PE X e (tOf C fa)) : PE X (.Subscript e (.Slice none none (some (.UnaryOp .USub (.Constant (.int 1) k p1) p4)) p3) pos) (tOf C (eRev fa)) :=
  (pe_revT he).weak fun σ H Q ⟨ρ, φ, M, w, M', env, sim, e, q⟩ => by
    obtain ⟨⟨x, M1⟩, e1, e⟩ := bsome e
    obtain ⟨ws, ew, e⟩ := bsome e
    cases e
    refine ⟨ρ, φ, M, x, _, env, sim, e1, fun v φ1 H1 s1 r1 => ?_⟩
    obtain ⟨ad, vs, rfl, sq, r⟩ := r1.un ew
    refine ⟨ad, vs, rfl, by rw [hK]; exact sq, fun p np => ?_⟩
    have s2 := Step.tup (o := .tup vs.reverse) s1.sim np
    exact q _ φ1 _ (s1.trans s2) (.tup (SqT.of upd_same) (r.reverse.step s2))
end
end Va

set_option Elab.async false
set_option linter.all false
set_option maxRecDepth 100000
set_option maxHeartbeats 1000000
/-! Va6: built-in calls, walks, methods, generator expressions by value; the body of a def -/
namespace Va
open PySem PySem.Spec PyProof.Rows L2 Sa
section
variable {C : Ck}
/-! built-in functions -/
def fLen : Fn := fun as M => match as with
  | [a] => (seqOf M a).bind fun ws => some (.d (.int ws.length), M)
  | _ => none
def fLenS (ns : List Int) : Fn := fun as M => match as with
  | [.scr] => some (.d (.int ns.length), M)
  | _ => none
def fAbs : Fn := fun as M => match as with
  | [.d (.int i)] => some (.d (.int (if i < 0 then -i else i)), M)
  | _ => none
def fMax2 : Fn := fun as M => match as with
  | [.d (.int i), .d (.int j)] => some (.d (.int (if j > i then j else i)), M)
  | _ => none
def fMin2 : Fn := fun as M => match as with
  | [.d (.int i), .d (.int j)] => some (.d (.int (if j < i then j else i)), M)
  | _ => none
def fInt : Fn := fun as M => match as with
  | [.d (.int i)] => some (.d (.int i), M)
  | [.d (.bool k)] => some (.d (.int (if k then 1 else 0)), M)
  | _ => none
def fTuple : Fn := fun as M => match as with
  | [.obj i] => (lstAt M (.obj i)).bind fun l => some (mkTup l.2, M)
  | [a] => (tupOf a).bind fun ws => some (mkTup ws, M)
  | _ => none
theorem two_args {φ : Nat → Addr} {n : Nat} {H : Hp} {xs : List V} {a b : W} (r : RwAll C φ n H xs [a, b]) : ∃ x y, xs = [x, y] ∧ Rw C φ n H x a ∧ Rw C φ n H y b := by
  cases r with | cons r1 r => cases r with | cons r2 r => cases r; exact ⟨_, _, rfl, r1, r2⟩
theorem one_arg {φ : Nat → Addr} {n : Nat} {H : Hp} {xs : List V} {a : W} (r : RwAll C φ n H xs [a]) : ∃ x, xs = [x] ∧ Rw C φ n H x a := by
  cases r with | cons r1 r => cases r; exact ⟨_, rfl, r1⟩
theorem vc_len : VC C (fun xs H Q => ∃ p ys, xs = [.ref p] ∧ (SqL C.K H p ys ∨ SqT C.K H p ys) ∧ Q (.int ys.length) H) fLen := by
  intro φ M H xs as w M' Q sim r e q
  unfold fLen at e
  split at e
  · obtain ⟨ws, es, e⟩ := bsome e
    cases e
    obtain ⟨x, rfl, r1⟩ := one_arg r
    obtain ⟨a, vs, rfl, sq, r2⟩ := seq_cases sim r1 es
    refine ⟨a, vs, rfl, sq, q _ φ H (.refl sim) ?_⟩
    rw [r2.length]
    exact .d (.int _)
  · cases e
theorem vc_lenS : VC C (fun xs H Q => ∃ p ys, xs = [.ref p] ∧ (SqL C.K H p ys ∨ SqT C.K H p ys) ∧ Q (.int ys.length) H) (fLenS C.ns) := by
  intro φ M H xs as w M' Q sim r e q
  unfold fLenS at e
  split at e
  · cases e
    obtain ⟨x, rfl, r1⟩ := one_arg r
    cases r1
    refine ⟨_, _, rfl, .inl sim.scr.sq, q _ φ H (.refl sim) ?_⟩
    rw [List.length_map]
    exact .d (.int _)
  · cases e
theorem vc_abs : VC C (fun xs H Q => ∃ i, xs = [.int i] ∧ Q (.int (if i < 0 then -i else i)) H) fAbs := by
  intro φ M H xs as w M' Q sim r e q
  unfold fAbs at e
  split at e
  · cases e
    obtain ⟨x, rfl, r1⟩ := one_arg r
    obtain rfl := r1.isI
    exact ⟨_, rfl, q _ φ H (.refl sim) (.d (.int _))⟩
  · cases e
theorem vc_max2 : VC C (fun xs H Q => ∃ i j, xs = [.int i, .int j] ∧ Q (.int (if j > i then j else i)) H) fMax2 := by
  intro φ M H xs as w M' Q sim r e q
  unfold fMax2 at e
  split at e
  · cases e
    obtain ⟨x, y, rfl, r1, r2⟩ := two_args r
    obtain rfl := r1.isI
    obtain rfl := r2.isI
    exact ⟨_, _, rfl, q _ φ H (.refl sim) (.d (.int _))⟩
  · cases e
theorem vc_min2 : VC C (fun xs H Q => ∃ i j, xs = [.int i, .int j] ∧ Q (.int (if j < i then j else i)) H) fMin2 := by
  intro φ M H xs as w M' Q sim r e q
  unfold fMin2 at e
  split at e
  · cases e
    obtain ⟨x, y, rfl, r1, r2⟩ := two_args r
    obtain rfl := r1.isI
    obtain rfl := r2.isI
    exact ⟨_, _, rfl, q _ φ H (.refl sim) (.d (.int _))⟩
  · cases e
theorem vc_int : VC C (fun xs H Q => (∃ i, xs = [.int i] ∧ Q (.int i) H) ∨ ∃ k, xs = [.bl k] ∧ Q (.int (if k then 1 else 0)) H) fInt := by
  intro φ M H xs as w M' Q sim r e q
  unfold fInt at e
  split at e
  · cases e
    obtain ⟨x, rfl, r1⟩ := one_arg r
    obtain rfl := r1.isI
    exact .inl ⟨_, rfl, q _ φ H (.refl sim) (.d (.int _))⟩
  · cases e
    obtain ⟨x, rfl, r1⟩ := one_arg r
    obtain rfl := r1.isB
    exact .inr ⟨_, rfl, q _ φ H (.refl sim) (.d (.int _))⟩
  · cases e
theorem vc_tuple : VC C (fun xs H Q => ∃ p ys, xs = [.ref p] ∧ ((SqL C.K H p ys ∧ ∀ l, H l = none → Q (.ref l) (upd H l (.tup ys))) ∨ (SqT C.K H p ys ∧ Q (.ref p) H))) fTuple := by
  intro φ M H xs as w M' Q sim r e q
  unfold fTuple at e
  split at e
  · obtain ⟨⟨i, ws⟩, es, e⟩ := bsome e
    cases e
    obtain ⟨x, rfl, r1⟩ := one_arg r
    obtain ⟨e1, e2⟩ := lstAt_eq es
    cases e1
    obtain ⟨rfl, _⟩ := r1.isO
    obtain ⟨vs, hv, r2⟩ := sim.ob _ _ e2
    refine ⟨_, vs, rfl, .inl ⟨SqL.of hv, fun l nl => ?_⟩⟩
    have s2 := Step.tup (o := .tup vs) sim nl
    exact q _ φ _ s2 (.tup (SqT.of upd_same) (r2.step s2))
  · obtain ⟨ws, es, e⟩ := bsome e
    cases e
    obtain ⟨x, rfl, r1⟩ := one_arg r
    obtain ⟨a, vs, rfl, sq, r2⟩ := r1.un es
    exact ⟨a, vs, rfl, .inr ⟨sq, q _ φ H (.refl sim) (.tup sq r2)⟩⟩
  · cases e
/-- ints, bools of values -/
def intsOf : List W → Option (List Int)
  | [] => some []
  | w :: ws => (asI w).bind fun i => (intsOf ws).bind fun is => some (i :: is)
def boolsOf : List W → Option (List Bool)
  | [] => some []
  | w :: ws => (asB w).bind fun i => (boolsOf ws).bind fun is => some (i :: is)
theorem intsOf_rel {φ : Nat → Addr} {n : Nat} {H : Hp} : ∀ {vs : List V} {ws : List W} {is : List Int}, RwAll C φ n H vs ws → intsOf ws = some is → vs = is.map V.int
  | _, _, _, .nil, e => by cases e; rfl
  | _, _, _, .cons a r, e => by
    obtain ⟨i, h1, e⟩ := bsome e
    obtain ⟨is, h2, e⟩ := bsome e
    cases e
    rw [asI_eq h1] at a
    rw [a.isI, intsOf_rel r h2]
    rfl
theorem boolsOf_rel {φ : Nat → Addr} {n : Nat} {H : Hp} : ∀ {vs : List V} {ws : List W} {is : List Bool}, RwAll C φ n H vs ws → boolsOf ws = some is → vs = is.map V.bl
  | _, _, _, .nil, e => by cases e; rfl
  | _, _, _, .cons a r, e => by
    obtain ⟨i, h1, e⟩ := bsome e
    obtain ⟨is, h2, e⟩ := bsome e
    cases e
    rw [asB_eq h1] at a
    rw [a.isB, boolsOf_rel r h2]
    rfl
def maxI : List Int → Int
  | [] => 0
  | [n] => n
  | n :: m :: r => if maxI (m :: r) > n then maxI (m :: r) else n
theorem maxI_top : ∀ (ns : List Int), ns ≠ [] → maxI ns ∈ ns ∧ ∀ y ∈ ns, y ≤ maxI ns
  | [], h => absurd rfl h
  | [n], _ => by simp [maxI]
  | n :: m :: r, _ => by
    obtain ⟨h1, h2⟩ := maxI_top (m :: r) (by simp)
    unfold maxI
    split
    · rename_i z
      refine ⟨List.mem_cons_of_mem _ h1, fun y hy => ?_⟩
      rcases List.mem_cons.mp hy with rfl | hy
      · omega
      · exact h2 y hy
    · rename_i z
      refine ⟨List.mem_cons_self, fun y hy => ?_⟩
      rcases List.mem_cons.mp hy with rfl | hy
      · omega
      · have := h2 y hy; omega
theorem maxI_one {ns : List Int} {m : Int} (hm : m ∈ ns) (top : ∀ y ∈ ns, y ≤ m) : maxI ns = m := by
  obtain ⟨h1, h2⟩ := maxI_top ns (List.ne_nil_of_mem hm)
  exact Int.le_antisymm (top _ h1) (h2 _ hm)
def fMaxL : Fn := fun as M => match as with
  | [a] => (lstAt M a).bind fun l => (intsOf l.2).bind fun is => if is = [] then none else some (.d (.int (maxI is)), M)
  | _ => none
theorem vc_maxL : VC C (rMax C.K) fMaxL := by
  intro φ M H xs as w M' Q sim r e q
  unfold fMaxL at e
  split at e
  · obtain ⟨⟨i, ws⟩, es, e⟩ := bsome e
    obtain ⟨is, ei, e⟩ := bsome e
    split at e
    · cases e
    · rename_i ne
      cases e
      obtain ⟨x, rfl, r1⟩ := one_arg r
      obtain ⟨e1, e2⟩ := lstAt_eq es
      subst e1
      obtain ⟨rfl, _⟩ := r1.isO
      obtain ⟨vs, hv, r2⟩ := sim.ob _ _ e2
      have := intsOf_rel r2 ei
      subst this
      refine ⟨_, is, rfl, SqL.of hv, List.length_pos_iff.mpr ne, fun m hm top => q _ φ H (.refl sim) ?_⟩
      rw [maxI_one hm top]
      exact .d (.int _)
  · cases e
def fAll : Fn := fun as M => match as with
  | [a] => (lstAt M a).bind fun l => (boolsOf l.2).bind fun is => some (.d (.bool (is.all id)), M)
  | _ => none
theorem vc_all : VC C (rAll C.K) fAll := by
  intro φ M H xs as w M' Q sim r e q
  unfold fAll at e
  split at e
  · obtain ⟨⟨i, ws⟩, es, e⟩ := bsome e
    obtain ⟨is, ei, e⟩ := bsome e
    cases e
    obtain ⟨x, rfl, r1⟩ := one_arg r
    obtain ⟨e1, e2⟩ := lstAt_eq es
    subst e1
    obtain ⟨rfl, _⟩ := r1.isO
    obtain ⟨vs, hv, r2⟩ := sim.ob _ _ e2
    have := boolsOf_rel r2 ei
    subst this
    exact ⟨_, is, rfl, SqL.of hv, q _ φ H (.refl sim) (.d (.bl _))⟩
  · cases e
def fSum : Fn := fun as M => match as with
  | [a] => (lstAt M a).bind fun l => (intsOf l.2).bind fun is => some (.d (.int is.sum), M)
  | _ => none
theorem vc_sum : VC C (rSum C.K) fSum := by
  intro φ M H xs as w M' Q sim r e q
  unfold fSum at e
  split at e
  · obtain ⟨⟨i, ws⟩, es, e⟩ := bsome e
    obtain ⟨is, ei, e⟩ := bsome e
    cases e
    obtain ⟨x, rfl, r1⟩ := one_arg r
    obtain ⟨e1, e2⟩ := lstAt_eq es
    subst e1
    obtain ⟨rfl, _⟩ := r1.isO
    obtain ⟨vs, hv, r2⟩ := sim.ob _ _ e2
    have := intsOf_rel r2 ei
    subst this
    exact ⟨_, is, rfl, SqL.of hv, q _ φ H (.refl sim) (.d (.int _))⟩
  · cases e
/-- list + list -/
def oCat : O2 := fun a b M => (lstAt M a).bind fun l => (lstAt M b).bind fun k => if l.2.length + k.2.length ≤ sizeLine then some (.obj M.length, M ++ [.lst (l.2 ++ k.2)]) else none
theorem vo_cat : VO2 C rCat oCat := by
  intro φ M H x y a b w M' Q sim rx ry e q
  obtain ⟨⟨i, ws⟩, e1, e⟩ := bsome e
  obtain ⟨⟨j, us⟩, e2, e⟩ := bsome e
  split at e
  · rename_i small
    cases e
    obtain ⟨h1, h2⟩ := lstAt_eq e1
    obtain ⟨h3, h4⟩ := lstAt_eq e2
    subst h1 h3
    obtain ⟨rfl, _⟩ := rx.isO
    obtain ⟨rfl, _⟩ := ry.isO
    obtain ⟨vs, hv, r1⟩ := sim.ob _ _ h2
    obtain ⟨vs2, hv2, r2⟩ := sim.ob _ _ h4
    exact ⟨_, _, vs, vs2, rfl, rfl, hv, hv2, by rw [r1.length, r2.length]; exact small, fun p np => q _ _ _ (.list sim np (r1.append r2)) .new⟩
  · cases e
open Classical in
/-- repr of a tuple of data -/
noncomputable def fRepr : Fn := fun as M => match as with
  | [.d (.tuple ds)] => if (PyData.tuple ds).showable = true ∧ (PyData.tuple ds).hasDict = false ∧ (PyData.tuple ds).depth ≤ 60 ∧ (PyData.tuple ds).shown.length ≤ sizeLine then some (.d (.str (PyData.tuple ds).shown), M) else none
  | _ => none
theorem vc_repr : VC C (rShown C.K) fRepr := by
  intro φ M H xs as w M' Q sim r e q
  unfold fRepr at e
  split at e
  · split at e
    · rename_i ok
      cases e
      obtain ⟨x, rfl, r1⟩ := one_arg r
      obtain ⟨a, vs, rfl, _, _⟩ := r1.un rfl
      cases r1 with
      | d r1 => exact ⟨a, _, rfl, r1.dp, ok.1, ok.2.1, ok.2.2.1, ok.2.2.2, q _ φ H (.refl sim) (.d (.str _))⟩
    · cases e
  · cases e
end

/-! walks -/
def iSeq (a : EvE) : EvI := fun ρ M => (a ρ M).bind fun p => match p.1 with
  | .obj i => (lstAt p.2 (.obj i)).bind fun l => some ((l.2, [(i, .lst l.2)]), p.2)
  | w => (tupOf w).bind fun ws => some ((ws, []), p.2)
def InR (j : Int) : Prop := -(2 ^ 62) ≤ j ∧ j < 2 ^ 62
theorem InR.of {j : Int} (h0 : -1000000000 ≤ j) (h1 : j ≤ 1000000000) : InR j := ⟨Int.le_trans (by decide) h0, Int.lt_of_le_of_lt h1 (by decide)⟩
open Classical in
noncomputable def iRange1 (a : EvA) : EvI := fun ρ M => (a ρ M).bind fun p => match p.1 with
  | [.d (.int j)] => if InR j then some (((List.range j.toNat).map fun (k : Nat) => .d (.int (0 + k)), []), p.2) else none
  | _ => none
open Classical in
noncomputable def iRange2 (a : EvA) : EvI := fun ρ M => (a ρ M).bind fun p => match p.1 with
  | [.d (.int i), .d (.int j)] => if InR i ∧ InR j then some (((List.range (j - i).toNat).map fun (k : Nat) => .d (.int (i + k)), []), p.2) else none
  | _ => none
/-- a sequence with what must stay -/
def srcOf (M : Mem) (w : W) : Option (List W × List (Nat × MO)) := match w with
  | .obj i => (lstAt M (.obj i)).bind fun l => some (l.2, [(i, .lst l.2)])
  | w => (tupOf w).bind fun ws => some (ws, [])
def zip3W : List W → List W → List W → List W
  | x :: xs, y :: ys, z :: zs => mkTup [x, y, z] :: zip3W xs ys zs
  | _, _, _ => []
def iZip3W (a : EvA) : EvI := fun ρ M => (a ρ M).bind fun p => match p.1 with
  | [x, y, z] => (srcOf p.2 x).bind fun s1 => (srcOf p.2 y).bind fun s2 => (srcOf p.2 z).bind fun s3 =>
    if s1.1.length = s2.1.length ∧ s1.1.length = s3.1.length then some ((zip3W s1.1 s2.1 s3.1, s1.2 ++ s2.2 ++ s3.2), p.2) else none
  | _ => none
def zip2W : List W → List W → List W
  | x :: xs, y :: ys => mkTup [x, y] :: zip2W xs ys
  | _, _ => []
def enumW : Nat → List W → List W
  | _, [] => []
  | k, x :: xs => mkTup [.d (.int k), x] :: enumW (k + 1) xs
def iEnumW (a : EvA) : EvI := fun ρ M => (a ρ M).bind fun p => match p.1 with
  | [x] => (srcOf p.2 x).bind fun s1 => some ((enumW 0 s1.1, s1.2), p.2)
  | _ => none
section
variable {C : Ck} {X : Cx} {tg e a : Expr} {fa : EvE} {fs : EvA} {pos p : Pos}
theorem _root_.L2.PI.or {t t' : TI} (h : PI X tg e t) (h' : PI X tg e t') : PI X tg e (fun σ H R => t σ H R ∨ t' σ H R) := ⟨fun pins s σ H R I q => by
  rcases q with q | q
  · exact h.run pins s σ H R I q
  · exact h'.run pins s σ H R I q⟩
theorem ItOk.walk {J : It} {n : Nat} {G : Hp → Prop} {Y : Nat → Hp → V → Hp → Prop} {items : List W} {deps : List (Nat × MO)} {φ0 : Nat → Addr} {M0 : Mem} {H0 : Hp} (w : Walk J n G Y) (hn : items.length = n)
    (hG : ∀ φ M H, Step C φ0 M0 H0 φ M H → Deps deps M → G H)
    (hY : ∀ φ M H, Step C φ0 M0 H0 φ M H → Deps deps M → ∀ (k : Nat) (w : W) (x : V) (H' : Hp), items[k]? = some w → Y k H x H' → Step C φ M H φ M H' ∧ Rw C φ M.length H' x w) : ItOk C J items deps φ0 M0 H0 := by
  intro φ M H s d
  refine ⟨fun k w' hk => ?_, by rw [hn]; exact w.stops H (hG φ M H s d)⟩
  have hl : k < n := by rw [← hn]; exact (List.getElem?_eq_some_iff.mp hk).1
  exact ⟨w.goes k H hl (hG φ M H s d), fun x H' y => hY φ M H s d k w' x H' hk (w.yields k H x H' hl (hG φ M H s d) y)⟩
theorem ItOk.list {φ0 : Nat → Addr} {M0 : Mem} {H0 : Hp} {i : Nat} {ws : List W} (sim : Sim C φ0 M0 H0) (e : M0[i]? = some (.lst ws)) : ∃ vs, H0 (φ0 i) = some (.lst vs) ∧ ItOk C (Itl C.K (φ0 i)) ws [(i, .lst ws)] φ0 M0 H0 := by
  obtain ⟨vs0, h0, r0⟩ := sim.ob _ _ e
  have hi : i < M0.length := (List.getElem?_eq_some_iff.mp e).1
  refine ⟨vs0, h0, fun φ M H s d => ?_⟩
  have em : M[i]? = some (.lst ws) := Deps.one.mp d
  obtain ⟨vs, hv, r⟩ := s.sim.ob _ _ em
  rw [s.ext i hi] at hv
  have w := walk_list (K := C.K) (a := φ0 i) (xs := vs)
  refine ⟨fun k w' hk => ?_, by rw [← r.length]; exact w.stops H (SqL.of hv)⟩
  have hl : k < vs.length := by rw [r.length]; exact (List.getElem?_eq_some_iff.mp hk).1
  refine ⟨w.goes k H hl (SqL.of hv), fun x H' y => ?_⟩
  obtain ⟨rfl, hx⟩ := w.yields k H x H' hl (SqL.of hv) y
  obtain ⟨w2, h2, r2⟩ := r.get' hx
  rw [hk] at h2
  cases h2
  exact ⟨.refl s.sim, r2⟩
theorem ItOk.tup {φ0 : Nat → Addr} {M0 : Mem} {H0 : Hp} {ad : Addr} {vs : List V} {ws : List W} (sq : SqT C.K H0 ad vs) (r : RwAll C φ0 M0.length H0 vs ws) : ItOk C (Itt C.K ad) ws [] φ0 M0 H0 :=
  ItOk.walk walk_tup r.length.symm (fun φ M H s _ => s.keep _ _ sq) fun φ M H s _ k w x H' hk ⟨eH, hx⟩ => by
    subst eH
    obtain ⟨w2, h2, r2⟩ := (r.step s).get' hx
    rw [hk] at h2
    cases h2
    exact ⟨.refl s.sim, r2⟩
theorem qi_seq (hK : X.K = C.K) (he : PE X e (tOf C fa)) : PI X tg e (tiOf C (iSeq fa)) :=
  ((pi_list he).or (pi_tup he)).weak fun σ H R ⟨ρ, φ, M, s, M', env, sim, e, q⟩ => by
    obtain ⟨⟨w, M1⟩, e1, e⟩ := bsome e
    simp only at e
    split at e
    · rename_i i
      obtain ⟨⟨i', ws⟩, el, e⟩ := bsome e
      cases e
      obtain ⟨e2, e3⟩ := lstAt_eq el
      cases e2
      refine .inl ⟨ρ, φ, M, _, _, env, sim, e1, fun v φ1 H1 s1 r1 => ?_⟩
      obtain ⟨rfl, _⟩ := r1.isO
      obtain ⟨vs, hv, ok⟩ := ItOk.list s1.sim e3
      exact ⟨_, rfl, ⟨vs, SqL.of hv⟩, by rw [hK]; exact q _ φ1 H1 s1 ok⟩
    · obtain ⟨ws, el, e⟩ := bsome e
      cases e
      refine .inr ⟨ρ, φ, M, _, _, env, sim, e1, fun v φ1 H1 s1 r1 => ?_⟩
      obtain ⟨ad, vs, rfl, sq, r⟩ := r1.un el
      exact ⟨ad, rfl, ⟨vs, by rw [hK]; exact sq⟩, by rw [hK]; exact q _ φ1 H1 s1 (.tup sq r)⟩
theorem ItOk.range {φ0 : Nat → Addr} {M0 : Mem} {H0 : Hp} {lo : Int} {n : Nat} : ItOk C (Itr lo n) ((List.range n).map fun (k : Nat) => .d (.int (lo + k))) [] φ0 M0 H0 :=
  ItOk.walk walk_range (by simp) (fun _ _ _ _ _ => trivial) fun φ M H s _ k w x H' hk ⟨eH, hx⟩ => by
    subst eH hx
    rw [List.getElem?_map] at hk
    obtain ⟨j, hj, rfl⟩ := Option.map_eq_some_iff.mp hk
    have := List.getElem?_eq_some_iff.mp hj
    obtain ⟨_, h2⟩ := this
    rw [List.getElem_range] at h2
    subst h2
    exact ⟨.refl s.sim, .d (.int _)⟩
theorem qi_range1 (hg : Gl X "range") (hm : X.mg "range" = none) (ha : PA X [a] (taOf C fs)) (hs : starEach [a] X.env = [(false, eval a X.env)] := by rfl) : PI X tg (.Call (.Name "range" p) [a] [] pos) (tiOf C (iRange1 fs)) :=
  (pi_range1 hg hm ha hs).weak fun σ H R ⟨ρ, φ, M, s, M', env, sim, e, q⟩ => by
    obtain ⟨⟨ws, M1⟩, e1, e⟩ := bsome e
    simp only at e
    split at e
    · rename_i j
      split at e
      · rename_i hj
        cases e
        refine ⟨ρ, φ, M, _, _, env, sim, e1, fun v φ1 H1 s1 r1 => ?_⟩
        obtain ⟨x, rfl, rx⟩ := one_arg r1
        obtain rfl := rx.isI
        exact ⟨j, rfl, hj.1, hj.2, q _ φ1 H1 s1 .range⟩
      · cases e
    · cases e
theorem qi_range2 {b : Expr} (hg : Gl X "range") (hm : X.mg "range" = none) (ha : PA X [a, b] (taOf C fs)) (hs : starEach [a, b] X.env = [(false, eval a X.env), (false, eval b X.env)] := by rfl) (hs2 : starEach [b] X.env = [(false, eval b X.env)] := by rfl) : PI X tg (.Call (.Name "range" p) [a, b] [] pos) (tiOf C (iRange2 fs)) :=
  (pi_range2 hg hm ha hs hs2).weak fun σ H R ⟨ρ, φ, M, s, M', env, sim, e, q⟩ => by
    obtain ⟨⟨ws, M1⟩, e1, e⟩ := bsome e
    simp only at e
    split at e
    · rename_i i j
      split at e
      · rename_i hj
        cases e
        refine ⟨ρ, φ, M, _, _, env, sim, e1, fun v φ1 H1 s1 r1 => ?_⟩
        obtain ⟨x, y, rfl, rx, ry⟩ := two_args r1
        obtain rfl := rx.isI
        obtain rfl := ry.isI
        exact ⟨i, j, rfl, ⟨hj.1.1, hj.1.2, hj.2.1, hj.2.2⟩, q _ φ1 H1 s1 .range⟩
      · cases e
    · cases e
/-- a source stands, and goes on standing -/
theorem src_rel {φ : Nat → Addr} {M : Mem} {H : Hp} {v : V} {w : W} {s : List W × List (Nat × MO)} (sim : Sim C φ M H) (r : Rw C φ M.length H v w) (e : srcOf M w = some s) :
    ∃ b ad vs, v = .ref ad ∧ SqB C.K H b ad vs ∧ RwAll C φ M.length H vs s.1 ∧ ∀ φ' M' H', Step C φ M H φ' M' H' → Deps s.2 M' → ∃ vs', SqB C.K H' b ad vs' ∧ RwAll C φ' M'.length H' vs' s.1 := by
  unfold srcOf at e
  split at e
  · rename_i i
    obtain ⟨⟨i', ws⟩, el, e⟩ := bsome e
    cases e
    obtain ⟨e2, e3⟩ := lstAt_eq el
    cases e2
    obtain ⟨rfl, hi⟩ := r.isO
    obtain ⟨vs, hv, r⟩ := sim.ob _ _ e3
    refine ⟨true, _, vs, rfl, SqL.of hv, r, fun φ' M' H' st d => ?_⟩
    obtain ⟨vs', hv', r'⟩ := st.sim.ob _ _ (Deps.one.mp d)
    rw [st.ext _ hi] at hv'
    exact ⟨vs', SqL.of hv', r'⟩
  · obtain ⟨ws, el, e⟩ := bsome e
    cases e
    obtain ⟨ad, vs, rfl, sq, r⟩ := r.un el
    exact ⟨false, ad, vs, rfl, sq, r, fun φ' M' H' st _ => ⟨vs, st.keep _ _ sq, r.step st⟩⟩
theorem zip3W_get : ∀ (xs ys zs : List W) (k : Nat) (w : W), (zip3W xs ys zs)[k]? = some w → ∃ x y z, xs[k]? = some x ∧ ys[k]? = some y ∧ zs[k]? = some z ∧ w = mkTup [x, y, z]
  | x :: xs, y :: ys, z :: zs, 0, w, e => by simp [zip3W] at e; subst e; exact ⟨x, y, z, rfl, rfl, rfl, rfl⟩
  | x :: xs, y :: ys, z :: zs, k + 1, w, e => by
    obtain ⟨a, b, c, h1, h2, h3, h4⟩ := zip3W_get xs ys zs k w (by simpa [zip3W] using e)
    exact ⟨a, b, c, by simpa using h1, by simpa using h2, by simpa using h3, h4⟩
  | [], _, _, _, _, e => by simp [zip3W] at e
  | _ :: _, [], _, _, _, e => by simp [zip3W] at e
  | _ :: _, _ :: _, [], _, _, e => by simp [zip3W] at e
theorem zip3W_length : ∀ (xs ys zs : List W), xs.length = ys.length → xs.length = zs.length → (zip3W xs ys zs).length = xs.length
  | [], [], [], _, _ => rfl
  | x :: xs, y :: ys, z :: zs, h1, h2 => by simp only [zip3W, List.length_cons]; rw [zip3W_length xs ys zs (by simpa using h1) (by simpa using h2)]
  | [], _ :: _, _, h, _ => by simp at h
  | _ :: _, [], _, h, _ => by simp at h
  | [], [], _ :: _, _, h => by simp at h
  | _ :: _, _ :: _, [], _, h => by simp at h
theorem enumW_get : ∀ (xs : List W) (j k : Nat) (w : W), (enumW j xs)[k]? = some w → ∃ x, xs[k]? = some x ∧ w = mkTup [.d (.int (j + k : Nat)), x]
  | x :: xs, j, 0, w, e => by simp [enumW] at e; subst e; exact ⟨x, rfl, rfl⟩
  | x :: xs, j, k + 1, w, e => by
    obtain ⟨a, h1, h4⟩ := enumW_get xs (j + 1) k w (by simpa [enumW] using e)
    exact ⟨a, by simpa using h1, by rw [h4]; congr 4; omega⟩
  | [], _, _, _, e => by simp [enumW] at e
theorem enumW_length : ∀ (xs : List W) (j : Nat), (enumW j xs).length = xs.length
  | [], _ => rfl
  | x :: xs, j => by simp only [enumW, List.length_cons]; rw [enumW_length xs]
theorem Deps.left {a b : List (Nat × MO)} {M : Mem} (h : Deps (a ++ b) M) : Deps a M := fun p hp => h p (List.mem_append_left _ hp)
theorem Deps.right {a b : List (Nat × MO)} {M : Mem} (h : Deps (a ++ b) M) : Deps b M := fun p hp => h p (List.mem_append_right _ hp)
theorem qi_zip3 {e1 e2 e3 : Expr} {elts : List Expr} {kk : Nat} {tpos : Pos} (hK : X.K = C.K) (h : PI X (.Tuple elts kk tpos) (.Call (.Name "zip" p) [e1, e2, e3] [] pos) (iZip3 X.K (taOf C fs))) : PI X (.Tuple elts kk tpos) (.Call (.Name "zip" p) [e1, e2, e3] [] pos) (tiOf C (iZip3W fs)) :=
  h.weak fun σ H R ⟨ρ, φ, M, s, M', env, sim, e, q⟩ => by
    obtain ⟨⟨ws, M1⟩, ea, e⟩ := bsome e
    simp only at e
    split at e
    · rename_i x y z
      obtain ⟨s1, f1, e⟩ := bsome e
      obtain ⟨s2, f2, e⟩ := bsome e
      obtain ⟨s3, f3, e⟩ := bsome e
      split at e
      · rename_i hl
        cases e
        refine ⟨ρ, φ, M, _, _, env, sim, ea, fun v φ1 H1 st r1 => ?_⟩
        cases r1 with | cons r1 r => cases r with | cons r2 r => cases r with | cons r3 r =>
        cases r
        obtain ⟨b1, a1, v1, rfl, q1, w1, k1⟩ := src_rel st.sim r1 f1
        obtain ⟨b2, a2, v2, rfl, q2, w2, k2⟩ := src_rel st.sim r2 f2
        obtain ⟨b3, a3, v3, rfl, q3, w3, k3⟩ := src_rel st.sim r3 f3
        refine ⟨a1, a2, a3, b1, b2, b3, v1, v2, v3, rfl, by rw [hK]; exact q1, by rw [hK]; exact q2, by rw [hK]; exact q3, q _ φ1 H1 st ?_⟩
        rw [hK]
        intro φ2 M2 H2 s2' d
        obtain ⟨u1, t1, g1⟩ := k1 φ2 M2 H2 s2' d.left.left
        obtain ⟨u2, t2, g2⟩ := k2 φ2 M2 H2 s2' d.left.right
        obtain ⟨u3, t3, g3⟩ := k3 φ2 M2 H2 s2' d.right
        have l2 : u1.length = u2.length := by rw [g1.length, g2.length]; exact hl.1
        have l3 : u1.length = u3.length := by rw [g1.length, g3.length]; exact hl.2
        have w := walk_zip3 (K := C.K) (b1 := b1) (b2 := b2) (b3 := b3) (a1 := a1) (a2 := a2) (a3 := a3) l2 l3
        have lz : (zip3W s1.1 s2.1 s3.1).length = u1.length := by rw [zip3W_length _ _ _ hl.1 hl.2, g1.length]
        refine ⟨fun k w' hk => ?_, by rw [lz]; exact w.stops H2 ⟨t1, t2, t3⟩⟩
        have hlt : k < u1.length := by rw [← lz]; exact (List.getElem?_eq_some_iff.mp hk).1
        refine ⟨w.goes k H2 hlt ⟨t1, t2, t3⟩, fun x H' y => ?_⟩
        obtain ⟨T, x1, x2, x3, rfl, nT, rfl, i1, i2, i3⟩ := w.yields k H2 x H' hlt ⟨t1, t2, t3⟩ y
        obtain ⟨z1, z2, z3, j1, j2, j3, rfl⟩ := zip3W_get _ _ _ _ _ hk
        have s3' := Step.tup (o := .tup [x1, x2, x3]) s2'.sim nT
        obtain ⟨m1, n1, o1⟩ := g1.get' i1
        obtain ⟨m2, n2, o2⟩ := g2.get' i2
        obtain ⟨m3, n3, o3⟩ := g3.get' i3
        rw [j1] at n1; cases n1
        rw [j2] at n2; cases n2
        rw [j3] at n3; cases n3
        exact ⟨s3', .tup (SqT.of upd_same) ((RwAll.cons o1 (.cons o2 (.cons o3 .nil))).step s3')⟩
      · cases e
    · cases e
theorem qi_enum {e1 : Expr} {elts : List Expr} {kk : Nat} {tpos : Pos} (hK : X.K = C.K) (h : PI X (.Tuple elts kk tpos) (.Call (.Name "enumerate" p) [e1] [] pos) (iEnB X.K (taOf C fs))) : PI X (.Tuple elts kk tpos) (.Call (.Name "enumerate" p) [e1] [] pos) (tiOf C (iEnumW fs)) :=
  h.weak fun σ H R ⟨ρ, φ, M, s, M', env, sim, e, q⟩ => by
    obtain ⟨⟨ws, M1⟩, ea, e⟩ := bsome e
    simp only at e
    split at e
    · rename_i x
      obtain ⟨s1, f1, e⟩ := bsome e
      cases e
      refine ⟨ρ, φ, M, _, _, env, sim, ea, fun v φ1 H1 st r1 => ?_⟩
      obtain ⟨v, rfl, rx⟩ := one_arg r1
      obtain ⟨b1, a1, v1, rfl, q1, w1, k1⟩ := src_rel st.sim rx f1
      refine ⟨a1, b1, v1, rfl, by rw [hK]; exact q1, q _ φ1 H1 st ?_⟩
      rw [hK]
      intro φ2 M2 H2 s2' d
      obtain ⟨u1, t1, g1⟩ := k1 φ2 M2 H2 s2' d
      have w := walk_enumB (K := C.K) (b := b1) (a := a1) (xs := u1)
      have lz : (enumW 0 s1.1).length = u1.length := by rw [enumW_length, g1.length]
      refine ⟨fun k w' hk => ?_, by rw [lz]; exact w.stops H2 t1⟩
      have hlt : k < u1.length := by rw [← lz]; exact (List.getElem?_eq_some_iff.mp hk).1
      refine ⟨w.goes k H2 hlt t1, fun x H' y => ?_⟩
      obtain ⟨T, x1, rfl, nT, rfl, i1⟩ := w.yields k H2 x H' hlt t1 y
      obtain ⟨z1, j1, rfl⟩ := enumW_get _ _ _ _ hk
      have s3' := Step.tup (o := .tup [.int k, x1]) s2'.sim nT
      obtain ⟨m1, n1, o1⟩ := g1.get' i1
      rw [j1] at n1; cases n1
      rw [Nat.zero_add]
      exact ⟨s3', .tup (SqT.of upd_same) ((RwAll.cons (.d (.int _)) (.cons o1 .nil)).step s3')⟩
    · cases e
end
end Va

set_option Elab.async false
set_option linter.all false
set_option maxRecDepth 100000
set_option maxHeartbeats 1000000
/-! Va7: methods, generator expressions, sets by value; the body of a def -/
namespace Va
open PySem PySem.Spec PyProof.Rows L2 Sa
/-- o.extend(e) -/
def sExt (o e : EvE) : EvE := fun ρ M => (o ρ M).bind fun q => (lstAt q.2 q.1).bind fun _ => (e ρ q.2).bind fun p => (lstAt p.2 q.1).bind fun l => (lstAt p.2 p.1).bind fun k => if l.2.length + k.2.length ≤ sizeLine then some (.d .none, p.2.set l.1 (.lst (l.2 ++ k.2))) else none
section
variable {C : Ck} {X : Cx} {o e iter : Expr} {fo fe fi : EvE} {pos apos cpos px p gpos : Pos} {scope : Scope} {x : Str} {c P : Addr} {k : Nat}
theorem q_app (hK : X.K = C.K) (h : PE X (.Call (.Attribute o "append" apos) [e] [] cpos) (tBM X.K "list" rAppend (tOf C fo) (tCons (tOf C fe) tNil))) :
    PE X (.Call (.Attribute o "append" apos) [e] [] cpos) (tOf C (sApp fo fe)) :=
  h.weak fun σ H Q ⟨ρ, φ, M, w, M', env, sim, e, q⟩ => by
    obtain ⟨⟨wo, M1⟩, e1, e⟩ := bsome e
    obtain ⟨⟨i1, ws1⟩, hl1, e⟩ := bsome e
    obtain ⟨⟨we, M2⟩, e2, e⟩ := bsome e
    obtain ⟨⟨i, ws⟩, el, e⟩ := bsome e
    split at e
    · rename_i small
      cases e
      obtain ⟨h1, h2⟩ := lstAt_eq el
      simp only at h1 h2 small
      subst h1
      obtain ⟨h3, h4⟩ := lstAt_eq hl1
      cases h3
      refine ⟨ρ, φ, M, _, M1, env, sim, e1, fun v φ1 H1 s1 r1 => ?_⟩
      obtain ⟨rfl, hi⟩ := r1.isO
      obtain ⟨vs1, hv1, _⟩ := s1.sim.ob _ _ h4
      refine ⟨.inl ⟨rfl, vs1, SqL.of hv1⟩, ρ, φ1, M1, we, M2, env.step s1, s1.sim, e2, fun v2 φ2 H2 s2 r2 => ?_⟩
      obtain ⟨vs, hv, r⟩ := s2.sim.ob _ _ h2
      rw [s2.ext _ hi] at hv
      refine ⟨_, vs, v2, rfl, rfl, hv, by rw [r.length]; exact small, ?_⟩
      have s3 := Step.set s2.sim h2 (r.append (.cons r2 .nil))
      rw [s2.ext _ hi] at s3
      exact q _ φ2 _ (s1.trans (s2.trans s3)) (.d .non)
    · cases e
theorem q_ext (hK : X.K = C.K) (h : PE X (.Call (.Attribute o "extend" apos) [e] [] cpos) (tBM X.K "list" rExtend (tOf C fo) (tCons (tOf C fe) tNil))) :
    PE X (.Call (.Attribute o "extend" apos) [e] [] cpos) (tOf C (sExt fo fe)) :=
  h.weak fun σ H Q ⟨ρ, φ, M, w, M', env, sim, e, q⟩ => by
    obtain ⟨⟨wo, M1⟩, e1, e⟩ := bsome e
    obtain ⟨⟨i1, ws1⟩, hl1, e⟩ := bsome e
    obtain ⟨⟨we, M2⟩, e2, e⟩ := bsome e
    obtain ⟨⟨i, ws⟩, el, e⟩ := bsome e
    obtain ⟨⟨j, us⟩, ek, e⟩ := bsome e
    split at e
    · rename_i small
      cases e
      obtain ⟨h1, h2⟩ := lstAt_eq el
      obtain ⟨h5, h6⟩ := lstAt_eq ek
      simp only at h1 h2 h5 h6 small
      subst h1 h5
      obtain ⟨h3, h4⟩ := lstAt_eq hl1
      cases h3
      refine ⟨ρ, φ, M, _, M1, env, sim, e1, fun v φ1 H1 s1 r1 => ?_⟩
      obtain ⟨rfl, hi⟩ := r1.isO
      obtain ⟨vs1, hv1, _⟩ := s1.sim.ob _ _ h4
      refine ⟨.inl ⟨rfl, vs1, SqL.of hv1⟩, ρ, φ1, M1, _, M2, env.step s1, s1.sim, e2, fun v2 φ2 H2 s2 r2 => ?_⟩
      obtain ⟨rfl, hj⟩ := r2.isO
      obtain ⟨vs, hv, r⟩ := s2.sim.ob _ _ h2
      obtain ⟨us', hu, ru⟩ := s2.sim.ob _ _ h6
      rw [s2.ext _ hi] at hv
      refine ⟨_, _, vs, us', rfl, rfl, hv, hu, by rw [r.length, ru.length]; exact small, ?_⟩
      have s3 := Step.set s2.sim h2 (r.append ru)
      rw [s2.ext _ hi] at s3
      exact q _ φ2 _ (s1.trans (s2.trans s3)) (.d .non)
    · cases e
/-- tuple(x[k] for x in e) -/
def itemsAt (k : Nat) : List W → Option (List W)
  | [] => some []
  | w :: ws => (tupOf w).bind fun us => (us[k]?).bind fun u => (itemsAt k ws).bind fun r => some (u :: r)
def eTupIx (k : Nat) (a : EvE) : EvE := fun ρ M => (a ρ M).bind fun p => (seqOf p.2 p.1).bind fun ws => (itemsAt k ws).bind fun us => if us.length ≤ sizeLine then some (mkTup us, p.2) else none
theorem seqB_cases {φ : Nat → Addr} {M : Mem} {H : Hp} {v : V} {w : W} {ws : List W} (sim : Sim C φ M H) (r : Rw C φ M.length H v w) (e : seqOf M w = some ws) :
    ∃ b a vs, v = .ref a ∧ SqB C.K H b a vs ∧ RwAll C φ M.length H vs ws := by
  obtain ⟨a, vs, rfl, sq | sq, r⟩ := seq_cases sim r e
  · exact ⟨true, a, vs, rfl, sq, r⟩
  · exact ⟨false, a, vs, rfl, sq, r⟩
/-- max(abs(x) for x in e) -/
def eMaxAbs (a : EvE) : EvE := fun ρ M => (a ρ M).bind fun p => (seqOf p.2 p.1).bind fun ws => (intsOf ws).bind fun is => if is = [] then none else if is.length ≤ sizeLine then some (.d (.int (maxI (is.map fun n => if n < 0 then -n else n))), p.2) else none
/-- all(x == (False, 0) for x in e) -/
def blanks : List W → Option (List Bool)
  | [] => some []
  | .d (.tuple [.bool b, .int n]) :: ws => (blanks ws).bind fun r => some (PyData.eqv (.tuple [.bool b, .int n]) (.tuple [.bool false, .int 0]) :: r)
  | _ => none
def eAllBlank (a : EvE) : EvE := fun ρ M => (a ρ M).bind fun p => (seqOf p.2 p.1).bind fun ws => (blanks ws).bind fun bs => if bs.length ≤ sizeLine then some (.d (.bool (bs.all id)), p.2) else none

/-! sorted(set(e)) -/
def sortU (ds : List PyData) : List PyData := ((ds.map nk).eraseDups.filterMap fun k => ds.find? fun d => decide (nk d = k)).mergeSort (PySem.W.dataLe false id)
end
end Va

set_option Elab.async false
set_option linter.all false
set_option maxRecDepth 100000
set_option maxHeartbeats 1000000
/-! Va8: sorted(set(..)) by value; the body of a def, and its promise made handy -/
namespace Va
open PySem PySem.Spec PyProof.Rows L2 Sa
def Sub (L ds : List PyData) : Prop := (∀ d ∈ L, d ∈ ds) ∧ (∀ d ∈ ds, nk d ∈ L.map nk) ∧ (L.map nk).Nodup
structure SortsTo (ds R : List PyData) : Prop where
  keys : ∀ d ∈ ds, flat d = true ∧ (nk d).depth ≤ 8 ∧ (∃ y r, d = .tuple (y :: r)) ∧ d.depth ≤ 60
  alike : PySem.W.AllAlike ds
  few : ∀ M : List NestedKey, M.Nodup → (∀ k ∈ M, k ∈ ds.map nk) → M.length + 1 < 64
  ex : ∃ L, Sub L ds
  one : ∀ L, Sub L ds → L.mergeSort (PySem.W.dataLe false id) = R
theorem SortsTo.uniq {ds R R' : List PyData} (a : SortsTo ds R) (b : SortsTo ds R') : R = R' := by
  obtain ⟨L, h⟩ := a.ex
  rw [← a.one L h, b.one L h]
open Classical in
noncomputable def fSortSet : Fn := fun as M => match as with
  | [a] => (lstAt M a).bind fun l => (datas l.2).bind fun ds => if h : ∃ R, SortsTo ds R then some (.obj M.length, M ++ [.lst (h.choose.map W.d)]) else none
  | _ => none
theorem fSortSet_eq {a : W} {M : Mem} {i : Nat} {ds R : List PyData} (ha : lstAt M a = some (i, ds.map W.d)) (h : SortsTo ds R) : fSortSet [a] M = some (.obj M.length, M ++ [.lst (R.map W.d)]) := by
  have hx : ∃ R, SortsTo ds R := ⟨R, h⟩
  simp only [fSortSet, ha, Option.bind_some, datas_map]
  rw [dif_pos hx, h.uniq hx.choose_spec]
section
variable {C : Ck} {X : Cx}
theorem pairs_of {φ : Nat → Addr} {n : Nat} {H : Hp} : ∀ {vs : List V} {ds : List PyData}, RwAll C φ n H vs (ds.map W.d) → (∀ d ∈ ds, ∃ y r, d = .tuple (y :: r)) → ∃ L : List (Addr × PyData), vs = L.map (fun p => V.ref p.1) ∧ L.map (·.2) = ds ∧ ∀ p ∈ L, Rp C.K H (.ref p.1) p.2
  | [], [], _, _ => ⟨[], rfl, rfl, fun _ h => by simp at h⟩
  | v :: vs, d :: ds, .cons (.d a) r, h => by
    obtain ⟨L, h1, h2, h3⟩ := pairs_of r fun x hx => h x (List.mem_cons_of_mem _ hx)
    obtain ⟨y, t, rfl⟩ := h d List.mem_cons_self
    cases a with
    | tup s rr =>
      refine ⟨(_, .tuple (y :: t)) :: L, by rw [h1]; rfl, by simp [h2], fun p hp => ?_⟩
      rcases List.mem_cons.mp hp with rfl | hp
      · exact .tup s rr
      · exact h3 p hp
theorem rw_pairs {φ : Nat → Addr} {n : Nat} {H : Hp} : ∀ (L : List (Addr × PyData)), (∀ p ∈ L, Rp C.K H (.ref p.1) p.2) → RwAll C φ n H (L.map fun p => V.ref p.1) ((L.map (·.2)).map W.d)
  | [], _ => .nil
  | p :: L, h => .cons (.d (h p List.mem_cons_self)) (rw_pairs L fun q hq => h q (List.mem_cons_of_mem _ hq))
variable {e : Expr} {fe : EvE} {p1 p2 pos pos2 : Pos}
theorem q_sortSet (hK : X.K = C.K) (hw : X.w = C.w) (calm : X.calm = true) (hu : X.A.units + 64 < cLine) (h : PE X (.Call (.Name "sorted" p1) [.Call (.Name "set" p2) [e] [] pos2] [] pos) (tCB (rSortK X.K X.w) (tCons (tCB (rSetK X.K X.w) (tCons (tOf C fe) tNil)) tNil))) :
    PE X (.Call (.Name "sorted" p1) [.Call (.Name "set" p2) [e] [] pos2] [] pos) (tOf C (eCall fSortSet (aCons fe aNil))) :=
  h.weak fun σ H Q ⟨ρ, φ, M, w, M', env, sim, e, q⟩ => by
    obtain ⟨⟨ws0, M0⟩, e0, e⟩ := bsome e
    obtain ⟨⟨w1, M1⟩, e1, e0⟩ := bsome e0
    cases e0
    simp only [fSortSet] at e
    obtain ⟨⟨i, ws⟩, el, e⟩ := bsome e
    obtain ⟨ds, ed, e⟩ := bsome e
    split at e
    · rename_i hx
      cases e
      have ok := hx.choose_spec
      generalize hx.choose = R at ok q
      obtain ⟨h1, h2⟩ := lstAt_eq el
      simp only at h1 h2 ed
      subst h1
      have ed := datas_eq ed
      subst ed
      refine ⟨ρ, φ, M, _, _, env, sim, e1, fun v φ1 H1 s1 r1 => ?_⟩
      obtain ⟨rfl, _⟩ := r1.isO
      obtain ⟨vs, hv, r⟩ := s1.sim.ob _ _ h2
      obtain ⟨L, rfl, hL, hp⟩ := pairs_of r fun d hd => (ok.keys d hd).2.2.1
      have inL : ∀ p ∈ L, p.2 ∈ ds := fun p hp' => by rw [← hL]; exact List.mem_map_of_mem hp'
      rw [hK, hw]
      refine ⟨_, L, rfl, SqL.of hv, fun p hp' => ⟨(hp p hp').dp, (ok.keys _ (inL p hp')).1, (ok.keys _ (inL p hp')).2.1⟩, fun ks nd sub => ok.few ks nd fun k hk => ?_, fun a L2 na sub2 cov nd2 => ?_⟩
      · have := sub k hk
        rw [List.map_map] at this
        rw [← hL, List.map_map]
        exact this
      have s2 := Step.tup (o := KsO C.w a (L2.map keyOf)) s1.sim na
      have hp2 : ∀ p ∈ L2, Rp C.K H1 (.ref p.1) p.2 := fun p hp' => hp p (sub2 p hp')
      have in2 : ∀ p ∈ L2, p.2 ∈ ds := fun p hp' => inL p (sub2 p hp')
      have subD : Sub (L2.map (·.2)) ds := by
        refine ⟨fun d hd => ?_, fun d hd => ?_, by rw [List.map_map]; exact nd2⟩
        · obtain ⟨p, hp', rfl⟩ := List.mem_map.mp hd
          exact in2 p hp'
        · rw [← hL] at hd
          obtain ⟨p, hp', rfl⟩ := List.mem_map.mp hd
          rw [List.map_map]
          exact cov p hp'
      refine ⟨a, L2, rfl, upd_same, fun p hp' => ((hp2 p hp').keep s2.keep).dp, fun d hd d' hd' => ok.alike d (subD.1 d hd) d' (subD.1 d' hd'), fun p hp' => (ok.keys _ (in2 p hp')).2.2.1, fun p hp' => (ok.keys _ (in2 p hp')).2.2.2, ?_, fun p3 L3 np perm => ?_⟩
      · have := ok.few (L2.map fun q => nk q.2) nd2 fun k hk => ?_
        · rw [List.length_map] at this
          omega
        · obtain ⟨p, hp', rfl⟩ := List.mem_map.mp hk
          exact List.mem_map_of_mem (in2 p hp')
      have sub3 : Sub (L3.map (·.2)) ds := by
        have pm : (L3.map (·.2)).Perm (L2.map (·.2)) := perm.map _
        refine ⟨fun d hd => subD.1 d (pm.mem_iff.mp hd), fun d hd => (pm.map nk).mem_iff.mpr (subD.2.1 d hd), (pm.map nk).nodup_iff.mpr subD.2.2⟩
      have key := ok.one _ sub3
      have mm : (L3.mergeSort (PySem.W.dataLe false (·.2))).map (·.2) = (L3.map (·.2)).mergeSort (PySem.W.dataLe false id) := List.map_mergeSort fun a _ b _ => rfl
      rw [key] at mm
      have hp3 : ∀ p ∈ L3.mergeSort (PySem.W.dataLe false (·.2)), Rp C.K (upd H1 a (KsO C.w a (L2.map keyOf))) (.ref p.1) p.2 := fun p hp' =>
        (hp2 p (perm.mem_iff.mp ((List.mergeSort_perm L3 _).mem_iff.mp hp'))).keep s2.keep
      have rr := rw_pairs (φ := φ1) (n := M1.length) _ hp3
      rw [mm] at rr
      have s3 := Step.list s2.sim np rr
      exact q _ _ _ (s1.trans (s2.trans s3)) .new
    · cases e
end

/-! a def -/
def fnV (n : Nat) (g : EvS) : Fn := fun ws M => (g (ws.map some ++ List.replicate (n - ws.length) none) M).bind fun o => match o with
  | .rt w M' => some (w, M')
  | .nx _ M' => some (.d .none, M')
  | _ => none
section
variable {P : Program} {w : World} {mg : Str → Option Value} {base : Heap} {C : Ck} {k n : Nat} {x : Str} {st : Stmt} {N ps : List Str} {g : EvS} {F F' : Fn}
theorem start_rel {φ : Nat → Addr} {M : Mem} {H : Hp} {vs : List V} {ws : List W} (r : RwAll C φ M.length H vs ws) : EnvR C φ M.length H (L2.start N vs) (ws.map some ++ List.replicate (N.length - ws.length) none) := by
  unfold L2.start
  refine ⟨by simp [r.length], fun i w' h => ?_⟩
  by_cases hl : i < ws.length
  · rw [List.getElem?_append_left (by simpa using hl), List.getElem?_map] at h
    obtain ⟨w2, h2, e⟩ := Option.map_eq_some_iff.mp h
    cases e
    obtain ⟨v, h3, h4⟩ := r.get h2
    exact ⟨v, by rw [List.getElem?_append_left (by simp [r.length, hl]), List.getElem?_map, h3]; rfl, h4⟩
  · rw [List.getElem?_append_right (by simpa using Nat.le_of_not_lt hl), List.getElem?_replicate] at h
    split at h <;> cases h
theorem run_body {H : Hp} {vs : List V} {Q : VK} {E : XK} (hn : n = N.length) (h : spV C ps.length (fnV n g) vs H Q E) : tsOf C g ⟨fun _ H' => Q .non H', Q, fun _ _ => False, fun _ _ => False⟩ (L2.start N vs) H := by
  obtain ⟨φ, M, ws, w', M', r, hl, sim, e, q⟩ := h
  obtain ⟨o, e1, e⟩ := bsome e
  subst hn
  refine ⟨_, φ, M, o, start_rel r, sim, e1, ?_⟩
  cases o with
  | rt w2 M2 => cases e; exact q
  | nx ρ2 M2 => cases e; exact fun σ' φ' H' s _ => q _ φ' H' s (.d .non)
  | bk ρ2 M2 => cases e
  | ct ρ2 M2 => cases e
/-- the body of a def by value -/
theorem Dv.of (S : Stands C.K mg x st ps) (sc : FnScope N ps (defScope st)) (hn : n = N.length)
    (walk : ∀ (f : Addr) (cdv : Value) (A : Around) (outer : List Env) (s : Shared) (H : Hp) (E : XK), Room k (A.deeper (envOfC x (defScope st) s.heap.objs.size f cdv)) → Free A →
      PSs (cxOf CX0 P w C.K mg base N x (defScope st) f cdv A outer s H E).nox (defBody st) (tsOf C g)) :
    Df P w C.K mg base (k + 1) x ps (spV C ps.length (fnV n g)) :=
  Df.of S sc (fun vs H Q E ⟨_, _, _, _, _, _, hl, _⟩ => hl) fun f cdv A outer s H vs Q E hr hf h => ⟨_, walk f cdv A outer s H E hr hf, run_body hn h⟩
theorem Dv.ofC {f0 c : Addr} {fd0 : FuncData} (F : Fun C.K x x st f0 fd0) (m : mg x = some (.ref f0)) (b : Binds C.K fd0 ps []) (hc : fd0.code = .ref c) (sc : FnScope N ps (defScope st)) (hn : n = N.length)
    (walk : ∀ (A : Around) (outer : List Env) (s : Shared) (H : Hp) (E : XK), Room k (A.deeper (envOfC x (defScope st) s.heap.objs.size f0 (.ref c))) → Free A →
      PSs (cxOf CX0 P w C.K mg base N x (defScope st) f0 (.ref c) A outer s H E).nox (defBody st) (tsOf C g)) :
    Df P w C.K mg base (k + 1) x ps (spV C ps.length (fnV n g)) :=
  Df.ofC F m b hc sc (fun vs H Q E ⟨_, _, _, _, _, _, hl, _⟩ => hl) fun A outer s H vs Q E hr hf h => ⟨_, walk A outer s H E hr hf, run_body hn h⟩
/-- a value without things of the memory -/
def isD : W → Bool
  | .d _ => true
  | .scr => true
  | _ => false
def isDO : MO → Bool
  | .lst ws => ws.all isD
  | .kset _ => true
  | .dic _ _ => true
  | .pot _ => true
/-- M1 is M but for lists of data -/
def Cut (M M1 : Mem) : Prop := M1.length = M.length ∧ ∀ (k : Nat) (mo : MO), M1[k]? = some mo → M[k]? = some mo ∨ isDO mo = true
theorem Cut.refl {M : Mem} : Cut M M := ⟨rfl, fun _ _ h => .inl h⟩
theorem Cut.set {M M1 : Mem} (h : Cut M M1) (i : Nat) {ws : List W} (d : ws.all isD = true) : Cut M (M1.set i (.lst ws)) := by
  refine ⟨by simp [h.1], fun k mo e => ?_⟩
  by_cases z : i = k
  · subst z
    by_cases hl : i < M1.length
    · rw [List.getElem?_set_self hl] at e; cases e; exact .inr d
    · rw [List.getElem?_eq_none (by simpa using Nat.le_of_not_lt hl)] at e; cases e
  · rw [List.getElem?_set_ne z] at e
    exact h.2 k mo e
theorem Rw.shrink {φ : Nat → Addr} {m n : Nat} {H : Hp} {v : V} {w : W} (r : Rw C φ m H v w) (d : isD w = true) : Rw C φ n H v w := by
  cases r with
  | d r => exact .d r
  | scr => exact .scr
  | obj h => cases d
  | pack s r => cases d
theorem RwAll.shrink {φ : Nat → Addr} {m n : Nat} {H : Hp} : ∀ {vs : List V} {ws : List W}, RwAll C φ m H vs ws → ws.all isD = true → RwAll C φ n H vs ws
  | _, _, .nil, _ => .nil
  | _, _, .cons a r, d => by
    rw [List.all_cons, Bool.and_eq_true] at d
    exact .cons (a.shrink d.1) (RwAll.shrink r d.2)
theorem RO.shrink {φ : Nat → Addr} {m n : Nat} {H : Hp} {a : Addr} {mo : MO} (r : RO C φ m H a mo) (d : isDO mo = true) : RO C φ n H a mo := by
  cases mo with
  | lst ws => obtain ⟨vs, h, r⟩ := r; exact ⟨vs, h, r.shrink d⟩
  | kset ds => exact r
  | dic es n => exact r
  | pot es => exact r
/-- what was made on the way is forgotten -/
theorem Step.cut {φ φ' : Nat → Addr} {M M1 J : Mem} {H H' : Hp} (S : Sim C φ M H) (s : Step C φ M H φ' (M1 ++ J) H') (c : Cut M M1) : Step C φ M H φ' M1 H' := by
  refine ⟨s.ext, by rw [c.1]; exact Nat.le_refl _, s.keep, ⟨fun i mo e => ?_, fun i j hi hj e => s.sim.inj i j (by simp; omega) (by simp; omega) e, s.sim.tab, s.sim.scr⟩, fun i es n e => ?_⟩
  rotate_left
  · obtain ⟨es', n', e', r⟩ := s.dics i es n e
    have hi : i < M1.length := by rw [c.1]; exact (List.getElem?_eq_some_iff.mp e).1
    exact ⟨es', n', by rw [List.getElem?_append_left hi] at e'; exact e', r⟩
  have hi : i < M1.length := (List.getElem?_eq_some_iff.mp e).1
  have now := s.sim.ob i mo (by rw [List.getElem?_append_left hi]; exact e)
  rcases c.2 i mo e with old | d
  · have was := S.ob i mo old
    rw [c.1]
    -- its items speak of things that were there
    cases mo with
    | lst ws =>
      obtain ⟨vs, h1, r1⟩ := was
      obtain ⟨vs2, h2, r2⟩ := now
      exact ⟨vs2, h2, by
        have key : ∀ {us us2 : List V} {ws : List W}, RwAll C φ M.length H us ws → RwAll C φ' (M1 ++ J).length H' us2 ws → RwAll C φ' M.length H' us2 ws := by
          have one : ∀ (w : W) {u u2 : V}, Rw C φ M.length H u w → Rw C φ' (M1 ++ J).length H' u2 w → Rw C φ' M.length H' u2 w := by
            intro w
            refine W.rec (motive_1 := fun w => ∀ {u u2 : V}, Rw C φ M.length H u w → Rw C φ' (M1 ++ J).length H' u2 w → Rw C φ' M.length H' u2 w)
              (motive_2 := fun ws => ∀ {us us2 : List V}, RwAll C φ M.length H us ws → RwAll C φ' (M1 ++ J).length H' us2 ws → RwAll C φ' M.length H' us2 ws) ?_ ?_ ?_ ?_ ?_ ?_ w
            · intro x u u2 a b; cases b with | d b => exact .d b
            · intro i u u2 a b; cases a with | obj h => cases b; exact .obj h
            · intro u u2 a b; cases b; exact .scr
            · intro ws ih u u2 a b; cases a with | pack s1 r1 => cases b with | pack s2 r2 => exact .pack s2 (ih r1 r2)
            · intro us us2 a b; cases b; exact .nil
            · intro w ws i1 i2 us us2 a b; cases a with | cons a1 a2 => cases b with | cons b1 b2 => exact .cons (i1 a1 b1) (i2 a2 b2)
          intro us us2 ws
          induction ws generalizing us us2 with
          | nil => intro a b; cases b; exact .nil
          | cons w ws ih => intro a b; cases a with | cons a1 a2 => cases b with | cons b1 b2 => exact .cons (one w a1 b1) (ih a2 b2)
        exact key r1 r2⟩
    | kset ds => exact now
    | dic es n => exact now
    | pot es => exact now
  · exact now.shrink d
/-- a def's promise, made handy: where F tells a value of data, what was made is forgotten -/
theorem spV_weak (h : ∀ ws M w M1, F' ws M = some (w, M1) → F ws M = some (w, M1) ∨ (isD w = true ∧ Cut M M1 ∧ ∃ J, F ws M = some (w, M1 ++ J))) : ∀ vs H Q E, spV C n F' vs H Q E → spV C n F vs H Q E := by
  intro vs H Q E ⟨φ, M, ws, w, M1, r, hl, sim, e, q⟩
  rcases h ws M w M1 e with e | ⟨d, c, J, e⟩
  · exact ⟨φ, M, ws, w, M1, r, hl, sim, e, q⟩
  · exact ⟨φ, M, ws, w, _, r, hl, sim, e, fun v φ' H' s rv => q v φ' H' (Step.cut sim s c) (rv.shrink d)⟩
theorem Dv.weak (D : Df P w C.K mg base k x ps (spV C n F)) (h : ∀ ws M w M1, F' ws M = some (w, M1) → F ws M = some (w, M1) ∨ (isD w = true ∧ Cut M M1 ∧ ∃ J, F ws M = some (w, M1 ++ J))) : Df P w C.K mg base k x ps (spV C n F') :=
  D.weak (spV_weak h)
/-- the same where a new thing of data is told: it stands first of what is made -/
theorem spV_new {φ : Nat → Addr} {M M0 J : Mem} {ws : List W} {mo : MO} {vs : List V} {H : Hp} {Q : VK} {E : XK} {j : Nat} (r : RwAll C φ M.length H vs ws) (hl : vs.length = n) (sim : Sim C φ M H) (e2 : F ws M = some (.obj (M.length + j), M0 ++ J)) (hj : J[j]? = some mo) (hd : isDO mo = true) (c : Cut M M0)
    (q : ∀ v φ' H', Step C φ M H φ' (M0 ++ [mo]) H' → Rw C φ' (M0 ++ [mo]).length H' v (.obj M.length) → Q v H') : spV C n F vs H Q E := by
  refine ⟨φ, M, ws, _, _, r, hl, sim, e2, fun v φ' H' s rv => ?_⟩
  have s0 := Step.cut sim s c
  have hjl : j < J.length := (List.getElem?_eq_some_iff.mp hj).1
  have atJ : (M0 ++ J)[M.length + j]? = some mo := by
    rw [List.getElem?_append_right (by rw [c.1]; omega), c.1, Nat.add_sub_cancel_left]; exact hj
  obtain ⟨rfl, hlt⟩ := rv.isO
  have r2 := s.sim.ob _ _ atJ
  -- the new numbering
  have hext : ∀ i, i < M.length → phi φ' M.length (φ' (M.length + j)) i = φ' i := fun i hi => phi_lt hi
  refine q _ (phi φ' M.length (φ' (M.length + j))) H' ⟨fun i hi => (hext i hi).trans (s.ext i hi), by simp [c.1], s.keep, ⟨fun i mo' ei => ?_, fun a b ha hb eab => ?_, s.sim.tab, s.sim.scr⟩, fun i es n ei => ?_⟩ ?_
  · by_cases hi : i < M0.length
    · rw [List.getElem?_append_left hi] at ei
      have := s0.sim.ob i mo' ei
      have hi' : i < M.length := by rw [← c.1]; exact hi
      rw [hext i hi']
      exact this.move .refl (fun k hk => hext k (by rw [← c.1]; exact hk)) (by simp) rfl
    · have hi2 : i = M0.length := by
        have := (List.getElem?_eq_some_iff.mp ei).1
        simp at this
        omega
      subst hi2
      rw [List.getElem?_append_right (Nat.le_refl _)] at ei
      simp at ei
      subst ei
      rw [c.1, phi_at]
      exact (r2.shrink (n := 0) hd).move .refl (fun k hk => absurd hk (Nat.not_lt_zero k)) (Nat.zero_le _) rfl
  · simp only [List.length_append, List.length_singleton, c.1] at ha hb
    have lt1 : ∀ {i}, i < M.length → i < (M0 ++ J).length := fun {i} hi => by simp [c.1]; omega
    by_cases h1 : a < M.length <;> by_cases h2 : b < M.length
    · rw [hext a h1, hext b h2] at eab
      exact s.sim.inj a b (lt1 h1) (lt1 h2) eab
    · have : b = M.length := by omega
      subst this
      rw [hext a h1, phi_at] at eab
      have := s.sim.inj a _ (lt1 h1) hlt eab
      omega
    · have : a = M.length := by omega
      subst this
      rw [hext b h2, phi_at] at eab
      have := s.sim.inj _ b hlt (lt1 h2) eab
      omega
    · omega
  · obtain ⟨es', n', e', r'⟩ := s0.dics i es n ei
    exact ⟨es', n', by rw [List.getElem?_append_left (List.getElem?_eq_some_iff.mp e').1]; exact e', r'⟩
  · have h : Rw C (phi φ' M.length (φ' (M.length + j))) (M0 ++ [mo]).length H' (.ref (phi φ' M.length (φ' (M.length + j)) M.length)) (.obj M.length) := .obj (by simp [c.1])
    rw [phi_at] at h
    exact h
end
end Va

set_option Elab.async false
set_option linter.all false
set_option maxRecDepth 100000
set_option maxHeartbeats 1000000
/-! Va9: calls cleaned of what they made; sums of ways -/
namespace Va
open PySem PySem.Spec PyProof.Rows L2 Sa
open Classical in
/-- what a call leaves: data, or a new thing of data, without what was made on the way -/
noncomputable def norm (M : Mem) (p : W × Mem) : W × Mem :=
  if isD p.1 = true ∧ M.length ≤ p.2.length ∧ Cut M (p.2.take M.length) then (p.1, p.2.take M.length)
  else match p.1 with
    | .obj i => match p.2[i]? with
      | some mo => if M.length ≤ i ∧ isDO mo = true ∧ Cut M (p.2.take M.length) then (.obj M.length, p.2.take M.length ++ [mo]) else p
      | none => p
    | _ => p
noncomputable def nf (F : Fn) : Fn := fun ws M => (F ws M).map (norm M)
theorem norm_d {M M1 J : Mem} {w : W} (d : isD w = true) (c : Cut M M1) : norm M (w, M1 ++ J) = (w, M1) := by
  have t : (M1 ++ J).take M.length = M1 := by rw [← c.1]; simp
  unfold norm
  rw [if_pos ⟨d, by simp [c.1], by rw [t]; exact c⟩]
  simp only [t]
theorem norm_o {M M1 J : Mem} {j : Nat} {mo : MO} (hj : J[j]? = some mo) (d : isDO mo = true) (c : Cut M M1) : norm M (.obj (M.length + j), M1 ++ J) = (.obj M.length, M1 ++ [mo]) := by
  have t : (M1 ++ J).take M.length = M1 := by rw [← c.1]; simp
  have g : (M1 ++ J)[M.length + j]? = some mo := by
    rw [List.getElem?_append_right (by rw [c.1]; omega), c.1, Nat.add_sub_cancel_left]; exact hj
  unfold norm
  rw [if_neg (fun z => by cases z.1)]
  simp only [g]
  rw [if_pos ⟨Nat.le_add_right _ _, d, by rw [t]; exact c⟩, t]
theorem norm_l {M M1 J : Mem} {j : Nat} {us : List W} (hj : J[j]? = some (.lst us)) (d : us.all isD = true) (c : Cut M M1) : norm M (.obj (M.length + j), M1 ++ J) = (.obj M.length, M1 ++ [.lst us]) := norm_o hj d c
section
variable {P : Program} {w : World} {mg : Str → Option Value} {base : Heap} {C : Ck} {k n : Nat} {x : Str} {st : Stmt} {N ps : List Str} {F : Fn}
theorem spV_nf {vs : List V} {H : Hp} {Q : VK} {E : XK} (h : spV C n (nf F) vs H Q E) : spV C n F vs H Q E := by
  obtain ⟨φ, M, ws, w1, M1, r, hl, sim, e, q⟩ := h
  obtain ⟨⟨w0, M0⟩, e0, e⟩ := Option.map_eq_some_iff.mp e
  unfold norm at e
  split at e
  · rename_i c
    obtain ⟨d, le, cut⟩ := c
    cases e
    have e1 : F ws M = some (w0, M0.take M.length ++ M0.drop M.length) := by rw [List.take_append_drop]; exact e0
    exact ⟨φ, M, ws, w0, _, r, hl, sim, e1, fun v φ' H' s rv => q v φ' H' (Step.cut sim s cut) (rv.shrink d)⟩
  · split at e
    · rename_i i hi
      simp only at hi
      subst hi
      split at e
      · rename_i us hu
        split at e
        · rename_i c
          obtain ⟨le, hd, cut⟩ := c
          cases e
          obtain ⟨j, rfl⟩ := Nat.le.dest le
          have e1 : F ws M = some (.obj (M.length + j), M0.take M.length ++ M0.drop M.length) := by rw [List.take_append_drop]; exact e0
          exact spV_new r hl sim e1 (by rw [List.getElem?_drop]; exact hu) hd cut q
        · cases e
          exact ⟨φ, M, ws, _, _, r, hl, sim, e0, q⟩
      · cases e
        exact ⟨φ, M, ws, _, _, r, hl, sim, e0, q⟩
    · cases e
      exact ⟨φ, M, ws, _, _, r, hl, sim, e0, q⟩
theorem Dv.nf (D : Df P w C.K mg base k x ps (spV C n F)) : Df P w C.K mg base k x ps (spV C n (nf F)) := D.weak fun vs H Q E h => spV_nf h
/-- the law's own def -/
theorem Dv.fn {f0 : Addr} {fd0 : FuncData} {g : EvS} (F : Fun C.K x x st f0 fd0) (sc : FnScope N ps (defScope st)) (hn : n = N.length)
    (walk : ∀ (f : Addr) (cdv : Value) (A : Around) (outer : List Env) (s : Shared) (H : Hp) (E : XK), Room k (A.deeper (envOfC x (defScope st) s.heap.objs.size f cdv)) → Free A →
      PSs (cxOf CX0 P w C.K mg base N x (defScope st) f cdv A outer s H E).nox (defBody st) (tsOf C g)) :
    FnG P w C.K mg base (k + 1) f0 fd0 ps (spV C ps.length (Va.nf (fnV n g))) :=
  okG F sc (fun vs H Q E ⟨_, _, _, _, _, _, hl, _⟩ => hl) fun cdv A outer s H vs Q E _ hr hf h => ⟨_, walk f0 cdv A outer s H E hr hf, run_body hn (spV_nf h)⟩
/-- a def that isn't asked -/
theorem Dv.never (S : Stands C.K mg x st ps) : Df P w C.K mg base k x ps (spV C n fun _ _ => none) := by
  refine Df.mk' S fun f fd F => ⟨fun vs H Q E h => ?_, fun A outer s H args us vs Q E _ _ _ _ _ h => ?_⟩
  · obtain ⟨_, _, _, _, _, _, _, _, e, _⟩ := h; cases e
  · obtain ⟨_, _, _, _, _, _, _, _, e, _⟩ := h; cases e
/-! one way or another -/
def orO (f g : O2) : O2 := fun a b M => match f a b M with
  | some r => some r
  | none => g a b M
theorem vo_or {r r' : R2} {f g : O2} (h : VO2 C r f) (h' : VO2 C r' g) : VO2 C (fun x y H Q => r x y H Q ∨ r' x y H Q) (orO f g) := by
  intro φ M H x y a b w M' Q sim rx ry e q
  unfold orO at e
  split at e
  · rename_i z e1
    cases e
    exact .inl (h φ M H x y a b w M' Q sim rx ry e1 q)
  · exact .inr (h' φ M H x y a b w M' Q sim rx ry e q)
def orF (f g : Fn) : Fn := fun as M => match f as M with
  | some r => some r
  | none => g as M
theorem vc_or {r r' : List V → Hp → VK → Prop} {f g : Fn} (h : VC C r f) (h' : VC C r' g) : VC C (fun xs H Q => r xs H Q ∨ r' xs H Q) (orF f g) := by
  intro φ M H xs as w M' Q sim r e q
  unfold orF at e
  split at e
  · rename_i z e1
    cases e
    exact .inl (h φ M H xs as w M' Q sim r e1 q)
  · exact .inr (h' φ M H xs as w M' Q sim r e q)
/-- [x] * n -/
def oRep : O2 := fun a b M => (lstAt M a).bind fun l => (asI b).bind fun k => if -(2 ^ 63) ≤ k ∧ k < 2 ^ 63 ∧ l.2.length * k.toNat ≤ sizeLine then some (.obj M.length, M ++ [.lst (List.replicate k.toNat l.2).flatten]) else none
theorem rep_rel {φ : Nat → Addr} {m : Nat} {H : Hp} {vs : List V} {ws : List W} (r : RwAll C φ m H vs ws) : ∀ k, RwAll C φ m H (List.replicate k vs).flatten (List.replicate k ws).flatten
  | 0 => .nil
  | k + 1 => by
    simp only [List.replicate_succ, List.flatten_cons]
    exact r.append (rep_rel r k)
theorem vo_rep : VO2 C rRep oRep := by
  intro φ M H x y a b w M' Q sim rx ry e q
  obtain ⟨⟨i, ws⟩, e1, e⟩ := bsome e
  obtain ⟨k, e2, e⟩ := bsome e
  split at e
  · rename_i ok
    cases e
    obtain ⟨h1, h2⟩ := lstAt_eq e1
    subst h1
    obtain ⟨rfl, _⟩ := rx.isO
    rw [asI_eq e2] at ry
    obtain rfl := ry.isI
    obtain ⟨vs, hv, r1⟩ := sim.ob _ _ h2
    exact ⟨_, _, vs, rfl, rfl, hv, ok.1, ok.2.1, by rw [r1.length]; exact ok.2.2, fun p np => q _ _ _ (.list sim np (rep_rel r1 _)) .new⟩
  · cases e
/-- tuple + tuple -/
def oCatT : O2 := fun a b M => (tupOf a).bind fun l => (tupOf b).bind fun k => if l.length + k.length ≤ sizeLine then some (mkTup (l ++ k), M) else none
end
end Va

set_option Elab.async false
set_option linter.all false
set_option maxRecDepth 100000
set_option maxHeartbeats 1000000
/-! Va10: isinstance, three targets, zip of two by value; the law's end -/
namespace Va
open PySem PySem.Spec PyProof.Rows L2 Sa
def kindW (M : Mem) : W → Option String
  | .d .none => some "NoneType"
  | .d (.bool _) => some "bool"
  | .d (.int _) => some "int"
  | .d (.str _) => some "str"
  | .d (.tuple _) => some "tuple"
  | .pack _ => some "tuple"
  | .obj i => match M[i]? with
    | some (.lst _) => some "list"
    | _ => none
  | _ => none
def isiB (T k : String) : Bool := k == T || (T == "int" && k == "bool")
theorem isiB_ok : ∀ T ∈ ["tuple", "str", "int", "bool"], ∀ k ∈ ["NoneType", "bool", "int", "str", "tuple", "list"], kitB k T = some (isiB T k) := by decide +kernel
def eIsi (T : String) (a : EvE) : EvE := fun ρ M => (a ρ M).bind fun p => (kindW p.2 p.1).bind fun k => some (.d (.bool (isiB T k)), p.2)
theorem kind_ty {C : Ck} {φ : Nat → Addr} {M : Mem} {H : Hp} {v : V} {w : W} {k : String} (sim : Sim C φ M H) (r : Rw C φ M.length H v w) (e : kindW M w = some k) : TyX C.K H v (.type k) ∧ k ∈ ["NoneType", "bool", "int", "str", "tuple", "list"] := by
  have tup : ∀ {a : Addr} {vs : List V}, SqT C.K H a vs → TyX C.K H (.ref a) (.type "tuple") := fun {a vs} s => by
    rcases s with (s | ⟨o, s⟩) | ⟨o, its, n, h1, h2, _⟩
    · exact .base (.tup s)
    · exact .fTuple s
    · exact .kTuple h1 h2
  cases r with
  | d r => cases r with
    | non => cases e; exact ⟨.base .non, by simp⟩
    | bl b => cases e; exact ⟨.base (.bl b), by simp⟩
    | int i => cases e; exact ⟨.base (.int i), by simp⟩
    | str x => cases e; exact ⟨.base (.str x), by simp⟩
    | tup s r => cases e; exact ⟨tup s, by simp⟩
  | obj h =>
    simp only [kindW] at e
    split at e
    · rename_i ws he
      cases e
      obtain ⟨vs, hv, _⟩ := sim.ob _ _ he
      exact ⟨.base (.lst hv), by simp⟩
    · cases e
  | scr => cases e
  | pack s r => cases e; exact ⟨tup s, by simp⟩
def sPar3 (i j l : Nat) (a : EvA) : EvS := fun ρ M => (a ρ M).bind fun p => match p.1 with
  | [x, y, z] => some (.nx (((ρ.set i (some x)).set j (some y)).set l (some z)) p.2)
  | _ => none
section
variable {C : Ck} {X : Cx} {a b c e : Expr} {fa : EvE} {fs : EvA} {pos p1 p2 : Pos}
theorem q_isi {T : String} (hT : T ∈ ["tuple", "str", "int", "bool"]) {y : Str} (hK : X.K = C.K) (h : PE X (.Call (.Name "isinstance" p1) [e, .Name y p2] [] pos) (tCB (rIsi X.K) (tCons (tOf C fa) (tCons (tC (.ty T)) tNil)))) :
    PE X (.Call (.Name "isinstance" p1) [e, .Name y p2] [] pos) (tOf C (eIsi T fa)) :=
  h.weak fun σ H Q ⟨ρ, φ, M, w, M', env, sim, e, q⟩ => by
    obtain ⟨⟨w1, M1⟩, e1, e⟩ := bsome e
    obtain ⟨k, ek, e⟩ := bsome e
    cases e
    refine ⟨ρ, φ, M, _, _, env, sim, e1, fun v φ1 H1 s1 r1 => ?_⟩
    obtain ⟨ty, hk⟩ := kind_ty s1.sim r1 ek
    exact ⟨v, .ty T, .type k, .type T, _, rfl, .ty T, by rw [hK]; exact ty, kit_ty (isiB_ok T hT k hk), q _ φ1 H1 s1 (.d (.bl _))⟩
theorem q_par3 {i j l : Nat} {x y z : Str} {px py pz pt : Pos} {kt k2 : Nat} {pt2 : Pos} (hc : X.calm = true) (hN : X.N.Nodup) (hi : X.N[i]? = some x) (hj : X.N[j]? = some y) (hl : X.N[l]? = some z) (hij : i ≠ j ∧ i ≠ l ∧ j ≠ l)
    (hx : X.env.scope.names.lookup x = some .local) (hy : X.env.scope.names.lookup y = some .local) (hz : X.env.scope.names.lookup z = some .local) (ha : PA X [a, b, c] (taOf C fs))
    (hw : swappedStores [.Tuple [.Name x px, .Name y py, .Name z pz] kt pt] (.Tuple [a, b, c] k2 pt2) X.env = pure (some [x, y, z]))
    (hs : swapsWithSole [.Tuple [.Name x px, .Name y py, .Name z pz] kt pt] (.Tuple [a, b, c] k2 pt2) pos.line X.env = pure false := by rfl) :
    PS X (.Assign [.Tuple [.Name x px, .Name y py, .Name z pz] kt pt] (.Tuple [a, b, c] k2 pt2) pos) (tsOf C (sPar3 i j l fs)) :=
  (ps_par3 hc hN hi hj hl hij.1 hij.2.1 hij.2.2 hx hy hz ha hw hs).weak fun D σ H ⟨ρ, φ, M, o, env, sim, e, q⟩ => by
    obtain ⟨⟨ws, M1⟩, e1, e⟩ := bsome e
    refine ⟨ρ, φ, M, ws, M1, env, sim, e1, fun vs φ1 H1 s1 r1 => ?_⟩
    simp only at e
    split at e
    · cases e
      cases r1 with
      | cons r1 r => cases r with
        | cons r2 r => cases r with
          | cons r3 r => cases r; exact ⟨_, _, _, rfl, q _ φ1 H1 s1 ((((env.step s1).set r1 i).set r2 j).set r3 l)⟩
    · cases e
end
/-! the law -/
/-- the promise of the law, whatever the script -/
def spLaw (K : PySem.W.Frag) (w : World) (T : List Addr) (F : List Int → Fn) : Sp := fun vs H Q E => ∃ a ns, spV ⟨K, w, T, a, ns⟩ 1 (F ns) vs H Q E
theorem law_fn {P : Program} {w : World} {K : PySem.W.Frag} {mg : Str → Option Value} {base : Heap} {T : List Addr} {k : Nat} {f : Addr} {fd : FuncData} {x : Str} {F : List Int → Fn} (h : ∀ a ns, FnG P w K mg base k f fd [x] (spV ⟨K, w, T, a, ns⟩ 1 (F ns))) : FnG P w K mg base k f fd [x] (spLaw K w T F) :=
  ⟨fun vs H Q E ⟨a, ns, z⟩ => (h a ns).many vs H Q E z, fun A outer s H args us vs Q E r1 r2 r3 r4 r5 ⟨a, ns, z⟩ => (h a ns).runs A outer s H args us vs Q E r1 r2 r3 r4 r5 z⟩
theorem law_start {K : PySem.W.Frag} {w : World} {T : List Addr} {F : List Int → Fn} {a : Addr} {ns : List Int} {H : Hp} {E : XK} {M' : Mem} (ht : ∀ P ∈ T, Tb H P) (hs : Scr K H a (ns.map V.int)) (e : F ns [.scr] [] = some (.d (.bool true), M')) :
    spLaw K w T F [.ref a] H (fun v _ => v = .bl true) E :=
  ⟨a, ns, fun _ => 0, [], [.scr], _, M', .cons .scr .nil, rfl, ⟨fun i mo e => by simp at e, fun i j hi => by simp at hi, ht, hs⟩, e, fun v φ' H' s r => r.isB⟩
end Va

set_option Elab.async false
set_option linter.all false
set_option maxRecDepth 100000
set_option maxHeartbeats 1000000
/-! Va11: a list taken apart into names, by value -/
namespace Va
open PySem PySem.Spec PyProof.Rows L2 Sa
/-- a, b = [..] -/
def sAsgL (n : Nat) (a : EvE) (gs : List W → Ev → Option Ev) : EvS := fun ρ M => (a ρ M).bind fun p => (lstAt p.2 p.1).bind fun l => if l.2.length = n then (gs l.2 ρ).bind fun ρ1 => some (.nx ρ1 p.2) else none
section
variable {C : Ck} {X : Cx} {e : Expr} {es : List Expr} {fa : EvE} {pos tpos : Pos} {is : List Nat} {k n : Nat} {gs : List W → Ev → Option Ev}
theorem q_asgL (hc : X.calm = true) (hK : X.K = C.K) (he : PE X e (tOf C fa)) (h : PGs X es (tgsOf C is gs)) (hn : (assignEach es X.env).length = n := by rfl) (hst : (assignEach es X.env).findIdx? (·.1) = none := by rfl)
    (hs : swapsWithSole [.Tuple es k tpos] e pos.line X.env = pure false := by rfl) (hw : swappedStores [.Tuple es k tpos] e X.env = pure none := by rfl) (h1 : (assignEach [.Tuple es k tpos] X.env).map (·.2) = [assign (.Tuple es k tpos) X.env] := by rfl) :
    PS X (.Assign [.Tuple es k tpos] e pos) (tsOf C (sAsgL n fa gs)) :=
  (ps_asg he (pg_lst hc h hn hst) hs hw h1).weak fun D σ H ⟨ρ, φ, M, o, env, sim, e, q⟩ => by
    obtain ⟨⟨x, M1⟩, e1, e⟩ := bsome e
    obtain ⟨⟨i, ws⟩, el, e⟩ := bsome e
    split at e
    · rename_i hl
      obtain ⟨ρ1, e2, e⟩ := bsome e
      cases e
      refine ⟨ρ, φ, M, x, M1, env, sim, e1, fun v φ1 H1 s1 r1 => ?_⟩
      obtain ⟨h2, h3⟩ := lstAt_eq el
      simp only at h2 h3 hl e2
      subst h2
      obtain ⟨rfl, _⟩ := r1.isO
      obtain ⟨vs, hv, r⟩ := s1.sim.ob _ _ h3
      exact ⟨_, vs, rfl, SqL.of hv, by rw [r.length]; exact hl, ρ, φ1, M1, ws, ρ1, env.step s1, s1.sim, r, e2, fun σ1 env1 _ => q σ1 φ1 H1 s1 env1⟩
    · cases e
end
end Va

set_option Elab.async false
set_option linter.all false
set_option maxRecDepth 100000
/-! Sa.Z2: zip of two, over lists and tuples in any mix -/
namespace Sa
open PySem PySem.Spec PyProof.Rows L2
def It2 (K : PySem.W.Frag) (b1 b2 : Bool) (a1 a2 : Addr) : It :=
  ⟨fun i H => ∃ xs ys x y, SqB K H b1 a1 xs ∧ SqB K H b2 a2 ys ∧ xs[i]? = some x ∧ ys[i]? = some y,
   fun i H v H' => ∃ T x y, v = .ref T ∧ H T = none ∧ H' = upd H T (.tup [x, y]) ∧ (∀ xs, SqB K H b1 a1 xs → xs[i]? = some x) ∧ (∀ ys, SqB K H b2 a2 ys → ys[i]? = some y),
   fun i H => ∃ xs ys, SqB K H b1 a1 xs ∧ SqB K H b2 a2 ys ∧ i ≤ xs.length ∧ i ≤ ys.length ∧ (i = xs.length ∨ i = ys.length)⟩
def tn2 (b1 b2 : Bool) (a1 a2 z TI TO i1 i2 : Addr) (i : Nat) (h : Heap) : Prop :=
  IsZip h z TI TO .none ∧ IsTupOf2 h TI (.ref i1) (.ref i2) ∧ (∃ x y, IsTupOf2 h TO x y) ∧ ItrB h b1 i1 a1 i ∧ ItrB h b2 i2 a2 i
theorem turn_zip2 {P : Program} {w : World} {K : PySem.W.Frag} {elts : List Expr} {kk : Nat} {tpos : Pos} {b1 b2 : Bool} {a1 a2 z TI TO i1 i2 : Addr} (S : ZipSep2 z TI TO i1 i2 [i1, a1] [i2, a2])
    (n1 : a1 ≠ i1) (n2 : a2 ≠ i2) :
    Turn P w K (.Tuple elts kk tpos) (It2 K b1 b2 a1 a2) [z, TI, TO, i1, i2] z (tn2 b1 b2 a1 a2 z TI TO i1 i2) := by
  refine turn_gives (by simp) (fun i h st c hc => ?_) (fun i h h' st k => ?_) (fun X hP hw hK hc i pins s σ H I st hg => ?_) (fun X hP hw hK hc i pins s σ H I st hg => ?_) (fun A i s Q E st h => wpAny_pyIter_zip st.1 h)
  · obtain ⟨hz, hTI, ⟨x, y, hTO⟩, q1, q2⟩ := st
    have e' : c = z ∨ c = TI ∨ c = TO ∨ c = i1 ∨ c = i2 := by simpa using hc
    rcases e' with q | q | q | q | q
    · rw [q]; exact ⟨_, hz, fun v => nofun⟩
    · rw [q]; exact ⟨_, hTI, fun v => nofun⟩
    · rw [q]; exact ⟨_, hTO, fun v => nofun⟩
    · rw [q]; exact q1.obj
    · rw [q]; exact q2.obj
  · obtain ⟨hz, hTI, ⟨x, y, hTO⟩, q1, q2⟩ := st
    exact ⟨k z (by simp) _ hz, k TI (by simp) _ hTI, ⟨x, y, k TO (by simp) _ hTO⟩, q1.at fun o e => k i1 (by simp) o e, q2.at fun o e => k i2 (by simp) o e⟩
  · obtain ⟨xs, ys, x, y, s1, s2, e1, e2⟩ := hg
    subst hK
    obtain ⟨its1, r1, p1, z1, _⟩ := seqB I s1
    obtain ⟨its2, r2, p2, z2, _⟩ := seqB I s2
    obtain ⟨v1, g1, rv1⟩ := r1.get e1
    obtain ⟨v2, g2, rv2⟩ := r2.get e2
    have hh : X.A.in1.handled = none := I.ok.hd hc
    obtain ⟨hz, hTI, hTO, q1, q2⟩ := st
    refine ⟨_, _, _, _, _, _, WalksT.zipD2 S (drawsB hh b1 i1 a1 n1 its1.toArray) (drawsB hh b2 i2 a2 n2 its2.toArray), ⟨hz, hTI, hTO, ⟨q1, p1⟩, ⟨q2, p2⟩⟩, ?_, fun c hcm => ?_, fun h' st' => ?_, fun vals hv => ?_⟩
    · have l1 := (List.getElem?_eq_some_iff.mp g1).1
      have l2 := (List.getElem?_eq_some_iff.mp g2).1
      simp only [List.size_toArray]
      omega
    · have e' : c = z ∨ c = TO ∨ c = i1 ∨ c = i2 := by simpa using hcm
      rcases e' with q | q | q | q <;> simp [q]
    · obtain ⟨a, b, c, d1, d2⟩ := st'
      exact ⟨a, b, c, d1.1, d2.1⟩
    · obtain ⟨w1, w2, h1, h2, rfl⟩ := hv
      have f1 : w1 = v1 := by simp only [List.getElem?_toArray, g1] at h1; exact (Option.some.inj h1).symm
      have f2 : w2 = v2 := by simp only [List.getElem?_toArray, g2] at h2; exact (Option.some.inj h2).symm
      subst f1 f2
      refine ⟨[x, y], .cons rv1 (.cons rv2 .nil), by show 2 ≤ sizeLine; decide, fun T hT => ⟨T, x, y, rfl, hT, rfl, fun l hl => ?_, fun l hl => ?_⟩⟩
      · rw [injB I hl s1]; exact e1
      · rw [injB I hl s2]; exact e2
  · obtain ⟨xs, ys, s1, s2, k1, k2, hend⟩ := hg
    subst hK
    obtain ⟨its1, r1, p1, z1, _⟩ := seqB I s1
    obtain ⟨its2, r2, p2, z2, _⟩ := seqB I s2
    have l1 := r1.length
    have l2 := r2.length
    have hh : X.A.in1.handled = none := I.ok.hd hc
    obtain ⟨hz, hTI, hTO, q1, q2⟩ := st
    have en : min its1.toArray.size its2.toArray.size = i := by
      simp only [List.size_toArray]
      omega
    refine ⟨_, _, _, _, _, _, WalksT.zipD2 S (drawsB hh b1 i1 a1 n1 its1.toArray) (drawsB hh b2 i2 a2 n2 its2.toArray), ?_, fun c hcm => ?_⟩
    · rw [en]
      exact ⟨hz, hTI, hTO, ⟨q1, p1⟩, ⟨q2, p2⟩⟩
    · have e' : c = z ∨ c = TO ∨ c = i1 ∨ c = i2 := by simpa using hcm
      rcases e' with q | q | q | q <;> simp [q]

def iZip2 (K : PySem.W.Frag) (ta : TA) : TI := fun σ H R => ta σ H fun vs H1 => ∃ a1 a2 b1 b2 xs ys, vs = [.ref a1, .ref a2] ∧ SqB K H1 b1 a1 xs ∧ SqB K H1 b2 a2 ys ∧ R (It2 K b1 b2 a1 a2) H1
theorem pi_zip2 {X : Cx} {e e2 : Expr} {ta : TA} {p pos tpos : Pos} {elts : List Expr} {kk : Nat} (hg : Gl X "zip") (hm : X.mg "zip" = none) (ha : PA X [e, e2] ta)
    (hs : starEach [e, e2] X.env = (false, eval e X.env) :: starEach [e2] X.env := by rfl) (hpl : (backTo pos (starEach [e2] X.env)).any (·.1) = false := by rfl) :
    PI X (.Tuple elts kk tpos) (.Call (.Name "zip" p) [e, e2] [] pos) (iZip2 X.K ta) := by
  refine ⟨fun pins s σ H R I h => ?_⟩
  refine Call_ (ld_blt I hg hm PyProof.Rows.boot_zip (PyProof.Rows.callWith_type1 (thn (ha.run pos pins s σ H _ I h) fun us s1 ⟨vs, H1, I1, rel, q⟩ => ?_) hs hpl))
  obtain ⟨a1, a2, b1, b2, xs, ys, ex, q1, q2, hR⟩ := q
  subst ex
  obtain ⟨its1, _, p1, _, lt1⟩ := seqB I1 q1
  obtain ⟨its2, _, p2, _, lt2⟩ := seqB I1 q2
  cases rel with
  | cons r rel =>
    cases rel with
    | cons r' rel =>
        cases rel
        cases r
        cases r'
        refine zip_begins2 (beginsB b1 a1 its1.toArray) (beginsB b2 a2 its2.toArray) p1 p2 fun h' hz hTI hTO o1 o2 hsz hk => wpAny_pyIter_zip hz ?_
        have I2 : Inv X pins σ H1 { s1 with heap := h' } := I1.kept (t' := s1.toks) hk
        refine ⟨s1.heap.objs.size + 4, [s1.heap.objs.size + 4, s1.heap.objs.size + 2, s1.heap.objs.size + 3, s1.heap.objs.size, s1.heap.objs.size + 1], _, _, H1, rfl, I2,
          turn_zip2 (b1 := b1) (b2 := b2) (zip_sep2 (N := s1.heap.objs.size) (fp1 := [a1]) (fp2 := [a2]) (fun b hb => by rw [List.mem_singleton.mp hb]; exact lt1) (fun b hb => by rw [List.mem_singleton.mp hb]; exact lt2))
            (Nat.ne_of_lt lt1) (Nat.ne_of_lt (Nat.lt_succ_of_lt lt2)),
          ⟨hz, hTI, ⟨_, _, hTO⟩, itrB_new o1, itrB_new o2⟩, fun c hcm => ?_, hR⟩
        have hle : s1.heap.objs.size ≤ c := by
          have e' : c = s1.heap.objs.size + 4 ∨ c = s1.heap.objs.size + 2 ∨ c = s1.heap.objs.size + 3 ∨ c = s1.heap.objs.size ∨ c = s1.heap.objs.size + 1 := by simpa using hcm
          rcases e' with q | q | q | q | q <;> rw [q] <;> first | exact Nat.le_refl _ | exact Nat.le_add_right _ _
        exact I1.fpOk hle (I1.hok.fresh hle)
end Sa

set_option Elab.async false
set_option linter.all false
set_option maxRecDepth 100000
set_option maxHeartbeats 3200000
/-! in, not in, sorted(list), zip of two, != of lists -/
namespace Va
open PySem PySem.Spec PyProof.Rows L2 Sa
section
variable {C : Ck}
/-! a thing of the memory, read whole -/
mutual
def deepD (M : Mem) : Nat → W → Option PyData
  | _, .d x => some x
  | n + 1, .obj i => match M[i]? with
    | some (.lst ws) => (deepAll M n ws).map PyData.list
    | _ => none
  | _, _ => none
def deepAll (M : Mem) : Nat → List W → Option (List PyData)
  | _, [] => some []
  | n, w :: ws => (deepD M n w).bind fun d => (deepAll M n ws).map fun ds => d :: ds
end
mutual
theorem deepD_rel {φ : Nat → Addr} {M : Mem} {H : Hp} (sim : Sim C φ M H) : ∀ (n : Nat) (w : W) (v : V) (d : PyData), Rw C φ M.length H v w → deepD M n w = some d → Dp C.K H v d
  | n, .d x, v, d, r, e => by
    cases n <;> (simp only [deepD, Option.some.injEq] at e; subst e; cases r with | d r => exact r.dp)
  | n + 1, .obj i, v, d, r, e => by
    simp only [deepD] at e
    obtain ⟨rfl, _⟩ := r.isO
    split at e
    · rename_i ws hws
      rw [Option.map_eq_some_iff] at e
      obtain ⟨ds, e, rfl⟩ := e
      obtain ⟨vs, hv, rr⟩ := sim.ob _ _ hws
      exact .lst (SqL.of hv) (deepAll_rel sim n ws vs ds rr e)
    · cases e
  | 0, .obj i, v, d, r, e => by simp [deepD] at e
  | 0, .scr, v, d, r, e => by simp [deepD] at e
  | 0, .pack _, v, d, r, e => by simp [deepD] at e
  | n + 1, .scr, v, d, r, e => by simp [deepD] at e
  | n + 1, .pack _, v, d, r, e => by simp [deepD] at e
theorem deepAll_rel {φ : Nat → Addr} {M : Mem} {H : Hp} (sim : Sim C φ M H) : ∀ (n : Nat) (ws : List W) (vs : List V) (ds : List PyData), RwAll C φ M.length H vs ws → deepAll M n ws = some ds → DpAll C.K H vs ds
  | n, [], vs, ds, r, e => by
    simp only [deepAll, Option.some.injEq] at e
    subst e
    cases r
    exact .nil
  | n, w :: ws, vs, ds, r, e => by
    simp only [deepAll] at e
    obtain ⟨d, e1, e3⟩ := bsome e
    rw [Option.map_eq_some_iff] at e3
    obtain ⟨ds, e2, rfl⟩ := e3
    cases r with
    | cons r1 r2 => exact .cons (deepD_rel sim n w _ d r1 e1) (deepAll_rel sim n ws _ ds r2 e2)
end
/-- == of lists of data -/
def eqL (M : Mem) (a b : W) : Option Bool := (deepD M 3 a).bind fun x => (deepD M 3 b).bind fun y => if (SeqAt.shaped x && SeqAt.shaped y) = true then some (PyData.eqv x y) else none
theorem eqL_of {φ : Nat → Addr} {M : Mem} {H : Hp} {x y : V} {a b : W} {k : Bool} (sim : Sim C φ M H) (rx : Rw C φ M.length H x a) (ry : Rw C φ M.length H y b) (e : eqL M a b = some k) :
    ∃ d e, Dp C.K H x d ∧ Dp C.K H y e ∧ SeqAt.shaped d = true ∧ SeqAt.shaped e = true ∧ PyData.eqv d e = k := by
  obtain ⟨d, e1, e⟩ := bsome e
  obtain ⟨d2, e2, e⟩ := bsome e
  split at e
  · rename_i hs
    rw [Bool.and_eq_true] at hs
    cases e
    exact ⟨d, d2, deepD_rel sim 3 a x d rx e1, deepD_rel sim 3 b y d2 ry e2, hs.1, hs.2, rfl⟩
  · cases e
def oEqL : O2 := fun a b M => (eqL M a b).map fun k => (.d (.bool k), M)
def oNeL : O2 := fun a b M => (eqL M a b).map fun k => (.d (.bool (!k)), M)
theorem vo_eqL : VO2 C (rEqD C.K) oEqL := by
  intro φ M H x y a b w M' Q sim rx ry e q
  simp only [oEqL, Option.map_eq_some_iff] at e
  obtain ⟨k, ek, e⟩ := e
  cases e
  obtain ⟨d, d2, h1, h2, h3, h4, rfl⟩ := eqL_of sim rx ry ek
  exact ⟨d, d2, h1, h2, h3, h4, q _ φ H (.refl sim) (.d (.bl _))⟩
theorem vo_neL : VO2 C (rNeD C.K) oNeL := by
  intro φ M H x y a b w M' Q sim rx ry e q
  simp only [oNeL, Option.map_eq_some_iff] at e
  obtain ⟨k, ek, e⟩ := e
  cases e
  obtain ⟨d, d2, h1, h2, h3, h4, rfl⟩ := eqL_of sim rx ry ek
  exact ⟨d, d2, h1, h2, h3, h4, q _ φ H (.refl sim) (.d (.bl _))⟩
/-- x in l, l a list of data -/
def inL (M : Mem) (a b : W) : Option Bool := match a with
  | .d x => (lstAt M b).bind fun l => (deepAll M 0 l.2).bind fun ds => if (SeqAt.shaped x && SeqAt.shaped (.list ds)) = true then some (ds.any fun z => PyData.eqv z x) else none
  | _ => none
theorem inL_of {φ : Nat → Addr} {M : Mem} {H : Hp} {x y : V} {a b : W} {k : Bool} (sim : Sim C φ M H) (rx : Rw C φ M.length H x a) (ry : Rw C φ M.length H y b) (e : inL M a b = some k) :
    ∃ d ds, Dp C.K H x d ∧ Dp C.K H y (.list ds) ∧ SeqAt.shaped d = true ∧ SeqAt.shaped (.list ds) = true ∧ (ds.any fun z => PyData.eqv z d) = k := by
  unfold inL at e
  split at e
  · rename_i d
    obtain ⟨⟨i, ws⟩, e1, e⟩ := bsome e
    obtain ⟨ds, e2, e⟩ := bsome e
    split at e
    · rename_i hs
      rw [Bool.and_eq_true] at hs
      cases e
      obtain ⟨h1, h2⟩ := lstAt_eq e1
      subst h1
      obtain ⟨rfl, _⟩ := ry.isO
      obtain ⟨vs, hv, rr⟩ := sim.ob _ _ h2
      cases rx with
      | d rx => exact ⟨d, ds, rx.dp, .lst (SqL.of hv) (deepAll_rel sim 0 _ vs ds rr e2), hs.1, hs.2, rfl⟩
    · cases e
  · cases e
def oInL : O2 := fun a b M => (inL M a b).map fun k => (.d (.bool k), M)
def oNotInL : O2 := fun a b M => (inL M a b).map fun k => (.d (.bool (!k)), M)
theorem vo_inL : VO2 C (rInD C.K) oInL := by
  intro φ M H x y a b w M' Q sim rx ry e q
  simp only [oInL, Option.map_eq_some_iff] at e
  obtain ⟨k, ek, e⟩ := e
  cases e
  obtain ⟨d, d2, h1, h2, h3, h4, rfl⟩ := inL_of sim rx ry ek
  exact ⟨d, d2, h1, h2, h3, h4, q _ φ H (.refl sim) (.d (.bl _))⟩
theorem vo_notInL : VO2 C (rNotInD C.K) oNotInL := by
  intro φ M H x y a b w M' Q sim rx ry e q
  simp only [oNotInL, Option.map_eq_some_iff] at e
  obtain ⟨k, ek, e⟩ := e
  cases e
  obtain ⟨d, d2, h1, h2, h3, h4, rfl⟩ := inL_of sim rx ry ek
  exact ⟨d, d2, h1, h2, h3, h4, q _ φ H (.refl sim) (.d (.bl _))⟩
/-- a text in a tuple of texts -/
def strsOf : List PyData → Option (List Str)
  | [] => some []
  | .str x :: r => (strsOf r).map fun xs => x :: xs
  | _ => none
theorem strs_rel {K : PySem.W.Frag} {H : Hp} : ∀ {vs : List V} {ds : List PyData} {xs : List Str}, RpAll K H vs ds → strsOf ds = some xs → vs = xs.map V.str
  | _, _, _, .nil, e => by simp only [strsOf, Option.some.injEq] at e; subst e; rfl
  | _, _, _, .cons (v := v) (d := d) a r, e => by
    cases a with
    | str x =>
      simp only [strsOf, Option.map_eq_some_iff] at e
      obtain ⟨ys, e, rfl⟩ := e
      rw [strs_rel r e]
      rfl
    | _ => simp [strsOf] at e
def oInT : O2 := fun a b M => match a, b with
  | .d (.str x), .d (.tuple ds) => (strsOf ds).map fun xs => (.d (.bool (decide (x ∈ xs))), M)
  | _, _ => none
theorem flat_strs : ∀ (xs : List Str), (xs.map V.str).all flatV = true
  | [] => rfl
  | x :: xs => by rw [List.map_cons, List.all_cons, flat_strs xs]; rfl
theorem in_strs (x : Str) : ∀ (xs : List Str), inV (.str x) (xs.map V.str) = decide (x ∈ xs)
  | [] => by simp [inV]
  | y :: xs => by
    have h := in_strs x xs
    simp only [inV] at h
    simp only [inV, List.map_cons, List.any_cons, h]
    have : eqV (V.str y) (V.str x) = decide (y = x) := by
      simp only [eqV]
      by_cases e : y = x
      · subst e; simp
      · rw [decide_eq_false e]; exact beq_eq_false_iff_ne.mpr e
    rw [this]
    by_cases e : y = x
    · subst e; simp
    · have e' : ¬ x = y := fun z => e z.symm
      simp [e, e']
theorem vo_inT : VO2 C (rIn C.K false) oInT := by
  intro φ M H x y a b w M' Q sim rx ry e q
  unfold oInT at e
  split at e
  · rename_i z ds
    rw [Option.map_eq_some_iff] at e
    obtain ⟨xs, e, e'⟩ := e
    cases e'
    cases rx with | d rx => cases ry with | d ry =>
    cases rx
    cases ry with
    | tup s r =>
      have := strs_rel r e
      subst this
      refine ⟨_, _, rfl, .inr s, rfl, flat_strs _, ?_⟩
      rw [if_neg (by simp), in_strs]
      exact q _ φ H (.refl sim) (.d (.bl _))
  · cases e
end
/-- sorted(l), l a list of unlike nested tuples -/
def rSortL (K : PySem.W.Frag) : List V → Hp → VK → Prop := fun vs H Q => ∃ (a : Addr) (L : List (Addr × PyData)), vs = [.ref a] ∧ SqL K H a (L.map fun p => V.ref p.1) ∧ (∀ p ∈ L, Dp K H (.ref p.1) p.2) ∧ PySem.W.AllAlike (L.map (·.2)) ∧ (∀ p ∈ L, ∃ y r, p.2 = .tuple (y :: r)) ∧ (∀ p ∈ L, p.2.depth ≤ 60) ∧
  ∀ p, H p = none → Q (.ref p) (upd H p (.lst ((L.mergeSort (PySem.W.dataLe false (·.2))).map fun q => V.ref q.1)))
section
variable {X : Cx} {C : Ck}
theorem cr_sortL (hu : X.A.units + 64 < cLine) : CallR X (.builtin "sorted") (rSortL X.K) := by
  intro pins s σ H vs us Q I rel h
  obtain ⟨a, L, rfl, hl, hd, al, tups, deep, q⟩ := h
  rw [Vals.ref1 rel]
  obtain ⟨its, rv, pl, hz⟩ := I.list hl
  have ei := refs_of rv
  subst ei
  rw [List.length_map] at hz
  refine PySem.W.sorted_data (R := fun v b => v = Value.ref b.1) (enc := fun b : Addr × PyData => b.2) (bs := L) pl.isList (each_refs L fun _ _ => rfl) (each_refs L fun p hp => Dp.reads I p.2 _ _ (hd p hp) (rfl : RelV (.ref p.1) (.ref p.1))) al (.inl fun d1 h1 => ?_) hz (fun b hb => by have z := deep b hb; omega) fun out len each => ?_
  · obtain ⟨p, hp, rfl⟩ := List.mem_map.mp h1
    exact tups p hp
  · have eo := refs_each each
    subst eo
    obtain ⟨ep, he'⟩ := PyProof.Rows.sortedAll_at s.heap (L.map fun p => Value.ref p.1) ((L.mergeSort (PySem.W.dataLe false (·.2))).map fun q => Value.ref q.1).toArray
    have hlen : ((L.mergeSort (PySem.W.dataLe false (·.2))).map fun q => V.ref q.1).length ≤ sizeLine := by rw [List.length_map, List.length_mergeSort]; exact hz
    exact ⟨.ref _, upd H (s.heap.objs.size + 1) (.lst ((L.mergeSort (PySem.W.dataLe false (·.2))).map fun q => V.ref q.1)), I.laid (t' := s.toks) (fun _ _ => PyProof.Rows.sortedAll_old) (Nat.le_succ _) ⟨hlen, _, ep, vals_of _, he'⟩, rfl, q _ (I.hok.fresh (Nat.le_succ _))⟩
open Classical in
/-- sorted(l) -/
noncomputable def fSortL : Fn := fun as M => match as with
  | [a] => (lstAt M a).bind fun l => (datas l.2).bind fun ds => if PySem.W.AllAlike ds ∧ (∀ d ∈ ds, ∃ y r, d = .tuple (y :: r)) ∧ (∀ d ∈ ds, d.depth ≤ 60) then some (.obj M.length, M ++ [.lst ((ds.mergeSort (PySem.W.dataLe false id)).map W.d)]) else none
  | _ => none
theorem vc_sortL : VC C (rSortL C.K) fSortL := by
  intro φ M H xs as w M' Q sim r e q
  unfold fSortL at e
  split at e
  · rename_i a
    obtain ⟨⟨i, ws⟩, e1, e⟩ := bsome e
    obtain ⟨ds, e2, e⟩ := bsome e
    split at e
    · rename_i ok
      cases e
      obtain ⟨x, rfl, r1⟩ := one_arg r
      obtain ⟨h1, h2⟩ := lstAt_eq e1
      subst h1
      simp only at h2 e2
      have := datas_eq e2
      subst this
      obtain ⟨rfl, _⟩ := r1.isO
      obtain ⟨vs, hv, rr⟩ := sim.ob _ _ h2
      obtain ⟨L, rfl, hL, hp⟩ := pairs_of rr ok.2.1
      have inL : ∀ p ∈ L, p.2 ∈ ds := fun p hp' => by rw [← hL]; exact List.mem_map_of_mem hp'
      refine ⟨_, L, rfl, SqL.of hv, fun p hp' => (hp p hp').dp, by rw [hL]; exact ok.1, fun p hp' => ok.2.1 _ (inL p hp'), fun p hp' => ok.2.2 _ (inL p hp'), fun p np => ?_⟩
      have mm : (L.mergeSort (PySem.W.dataLe false (·.2))).map (·.2) = (L.map (·.2)).mergeSort (PySem.W.dataLe false id) := List.map_mergeSort fun a _ b _ => rfl
      rw [hL] at mm
      have hp3 : ∀ p ∈ L.mergeSort (PySem.W.dataLe false (·.2)), Rp C.K H (.ref p.1) p.2 := fun p hp' => hp p ((List.mergeSort_perm L _).mem_iff.mp hp')
      have rr := rw_pairs (φ := φ) (n := M.length) _ hp3
      rw [mm] at rr
      exact q _ _ _ (.list sim np rr) .new
    · cases e
  · cases e
end
theorem _root_.L2.Room.units65 {k : Nat} {A : Around} (r : Room k A) : A.units + 65 < cLine := by have := r.un; omega
/-! zip of two -/
theorem zip2W_get : ∀ (xs ys : List W) (k : Nat) (w : W), (zip2W xs ys)[k]? = some w → ∃ x y, xs[k]? = some x ∧ ys[k]? = some y ∧ w = mkTup [x, y]
  | x :: xs, y :: ys, 0, w, e => ⟨x, y, rfl, rfl, by simp [zip2W] at e; exact e.symm⟩
  | x :: xs, y :: ys, k + 1, w, e => by
    obtain ⟨a, b, h1, h2, h4⟩ := zip2W_get xs ys k w (by simpa [zip2W] using e)
    exact ⟨a, b, by simpa using h1, by simpa using h2, h4⟩
  | [], _, _, _, e => by simp [zip2W] at e
  | _ :: _, [], _, _, e => by simp [zip2W] at e
theorem zip2W_length : ∀ (xs ys : List W), xs.length = ys.length → (zip2W xs ys).length = xs.length
  | [], _, _ => by simp [zip2W]
  | x :: xs, [], h => by simp at h
  | x :: xs, y :: ys, h => by simp only [zip2W, List.length_cons]; rw [zip2W_length xs ys (by simpa using h)]
def iZip2W (a : EvA) : EvI := fun ρ M => (a ρ M).bind fun p => match p.1 with
  | [x, y] => (srcOf p.2 x).bind fun s1 => (srcOf p.2 y).bind fun s2 =>
    if s1.1.length = s2.1.length then some ((zip2W s1.1 s2.1, s1.2 ++ s2.2), p.2) else none
  | _ => none
theorem walk_zip2 {K : PySem.W.Frag} {b1 b2 : Bool} {a1 a2 : Addr} {xs ys : List V} (e2 : xs.length = ys.length) :
    Walk (It2 K b1 b2 a1 a2) xs.length (fun H => SqB K H b1 a1 xs ∧ SqB K H b2 a2 ys)
      (fun i H v H' => ∃ T x y, v = .ref T ∧ H T = none ∧ H' = upd H T (.tup [x, y]) ∧ xs[i]? = some x ∧ ys[i]? = some y) where
  goes := fun i H hi ⟨q1, q2⟩ => ⟨xs, ys, _, _, q1, q2, List.getElem?_eq_getElem hi, List.getElem?_eq_getElem (by omega)⟩
  stops := fun H ⟨q1, q2⟩ => ⟨xs, ys, q1, q2, Nat.le_refl _, by omega, .inl rfl⟩
  yields := fun i H v H' hi ⟨q1, q2⟩ ⟨T, x, y, ev, nT, eH, f1, f2⟩ => ⟨T, x, y, ev, nT, eH, f1 xs q1, f2 ys q2⟩
section
variable {C : Ck} {X : Cx} {fs : EvA} {pos p : Pos}
theorem qi_zip2 {e1 e2 : Expr} {elts : List Expr} {kk : Nat} {tpos : Pos} (hK : X.K = C.K) (h : PI X (.Tuple elts kk tpos) (.Call (.Name "zip" p) [e1, e2] [] pos) (iZip2 X.K (taOf C fs))) : PI X (.Tuple elts kk tpos) (.Call (.Name "zip" p) [e1, e2] [] pos) (tiOf C (iZip2W fs)) :=
  h.weak fun σ H R ⟨ρ, φ, M, s, M', env, sim, e, q⟩ => by
    obtain ⟨⟨ws, M1⟩, ea, e⟩ := bsome e
    simp only at e
    split at e
    · rename_i x y
      obtain ⟨s1, f1, e⟩ := bsome e
      obtain ⟨s2, f2, e⟩ := bsome e
      split at e
      · rename_i hl
        cases e
        refine ⟨ρ, φ, M, _, _, env, sim, ea, fun v φ1 H1 st r1 => ?_⟩
        cases r1 with | cons r1 r => cases r with | cons r2 r =>
        cases r
        obtain ⟨b1, a1, v1, rfl, q1, w1, k1⟩ := src_rel st.sim r1 f1
        obtain ⟨b2, a2, v2, rfl, q2, w2, k2⟩ := src_rel st.sim r2 f2
        refine ⟨a1, a2, b1, b2, v1, v2, rfl, by rw [hK]; exact q1, by rw [hK]; exact q2, q _ φ1 H1 st ?_⟩
        rw [hK]
        intro φ2 M2 H2 s2' d
        obtain ⟨u1, t1, g1⟩ := k1 φ2 M2 H2 s2' d.left
        obtain ⟨u2, t2, g2⟩ := k2 φ2 M2 H2 s2' d.right
        have l2 : u1.length = u2.length := by rw [g1.length, g2.length]; exact hl
        have w := walk_zip2 (K := C.K) (b1 := b1) (b2 := b2) (a1 := a1) (a2 := a2) l2
        have lz : (zip2W s1.1 s2.1).length = u1.length := by rw [zip2W_length _ _ hl, g1.length]
        refine ⟨fun k w' hk => ?_, by rw [lz]; exact w.stops H2 ⟨t1, t2⟩⟩
        have hlt : k < u1.length := by rw [← lz]; exact (List.getElem?_eq_some_iff.mp hk).1
        refine ⟨w.goes k H2 hlt ⟨t1, t2⟩, fun x H' y => ?_⟩
        obtain ⟨T, x1, x2, rfl, nT, rfl, i1, i2⟩ := w.yields k H2 x H' hlt ⟨t1, t2⟩ y
        obtain ⟨z1, z2, j1, j2, rfl⟩ := zip2W_get _ _ _ _ hk
        have s3' := Step.tup (o := .tup [x1, x2]) s2'.sim nT
        obtain ⟨m1, n1, o1⟩ := g1.get' i1
        obtain ⟨m2, n2, o2⟩ := g2.get' i2
        rw [j1] at n1; cases n1
        rw [j2] at n2; cases n2
        exact ⟨s3', .tup (SqT.of upd_same) ((RwAll.cons o1 (.cons o2 .nil)).step s3')⟩
      · cases e
    · cases e
end
end Va

set_option Elab.async false
set_option linter.all false
set_option maxRecDepth 100000
set_option maxHeartbeats 1000000
/-! Va13: repr of a truth -/
namespace Va
open PySem PySem.Spec PyProof.Rows L2 Sa
/-- repr of a truth -/
def rShownB : List V → Hp → VK → Prop := fun xs H Q => ∃ b, xs = [.bl b] ∧ Q (.str (if b then "True" else "False")) H
theorem call_shownB {X : Cx} : CallR X (.builtin "repr") rShownB := by
  intro pins s σ H xs us Q I rel h
  obtain ⟨b, rfl, q⟩ := h
  obtain ⟨u, rfl, r1⟩ := rel.one
  cases (show u = .bool b from r1)
  exact PySem.P.repr_of_bool ⟨.str _, H, I.tok _, ⟨_, rfl⟩, q⟩
def fReprB : Fn := fun as M => match as with
  | [.d (.bool b)] => some (.d (.str (if b then "True" else "False")), M)
  | _ => none
theorem vc_reprB {C : Ck} : VC C rShownB fReprB := by
  intro φ M H xs as w M' Q sim r e q
  unfold fReprB at e
  split at e
  · rename_i b
    cases e
    obtain ⟨x, rfl, r1⟩ := one_arg r
    cases r1.isB
    exact ⟨b, rfl, q _ φ H (.refl sim) (.d (.str _))⟩
  · cases e
end Va

set_option Elab.async false
set_option linter.all false
set_option maxRecDepth 100000
set_option maxHeartbeats 1000000
/-! Gn8: generator expressions by value: tuple, all, any -/
namespace Va
open PySem PySem.Spec PyProof.Rows L2 Sa Gn
open Classical in
/-- what the generator gives, one by one: acc ahead -/
noncomputable def gxL (deps : List (Nat × MO)) (g : EvG) (t : EvT) (e : EvE) (ρ0 : Ev) : List W → List W → Mem → Option (List W × Mem)
  | [], acc, M => if Deps deps M then some (acc, M) else none
  | w :: ws, acc, M => if Deps deps M then (g w ρ0).bind fun ρ1 => (t ρ1 M).bind fun p => if p.1 = true then (e ρ1 p.2).bind fun y =>
      if acc.length < sizeLine then gxL deps g t e ρ0 ws (acc ++ [y.1]) y.2 else none
    else gxL deps g t e ρ0 ws acc p.2 else none
open Classical in
/-- all (b0 = true), any (b0 = false) of the generator -/
noncomputable def gaL (b0 : Bool) (deps : List (Nat × MO)) (g : EvG) (t : EvT) (e : EvE) (ρ0 : Ev) : Nat → List W → Mem → Option (Bool × Mem)
  | _, [], M => if Deps deps M then some (b0, M) else none
  | 0, _ :: _, _ => none
  | n + 1, w :: ws, M => if Deps deps M then (g w ρ0).bind fun ρ1 => (t ρ1 M).bind fun p => if p.1 = true then (e ρ1 p.2).bind fun y => (asB y.1).bind fun b =>
      if b = b0 then gaL b0 deps g t e ρ0 n ws y.2 else some (!b0, y.2)
    else gaL b0 deps g t e ρ0 (n + 1) ws p.2 else none
noncomputable def eTupX (fi : EvI) (g : EvG) (t : EvT) (e : EvE) (vs : List Nat) : EvE := fun ρ M => (fi ρ M).bind fun p =>
  (gxL p.1.2 g t e (wipeW ρ vs) p.1.1 [] p.2).bind fun q => if q.1.length ≤ sizeLine then some (mkTup q.1, q.2) else none
noncomputable def eAllX (b0 : Bool) (fi : EvI) (g : EvG) (t : EvT) (e : EvE) (vs : List Nat) : EvE := fun ρ M => (fi ρ M).bind fun p =>
  (gaL b0 p.1.2 g t e (wipeW ρ vs) sizeLine p.1.1 p.2).bind fun q => some (.d (.bool q.1), q.2)
section
variable {C : Ck} {P : Addr} {fi : EvI} {g : EvG} {ft : EvT} {fe : EvE} {vs is : List Nat}
theorem tupX_of (hP : P ∈ C.T) (hv : ∀ i ∈ is, i ∈ vs) {σ : L2.St} {H : Hp} {Q : VK} (h : tOf C (eTupX fi g ft fe vs) σ H Q) : tGx P (tiOf C fi) (uTup (tgOf C is g) (ttOf C ft) (tOf C fe) vs) σ H Q := by
  obtain ⟨ρ, φ, M, w, M', env, sim, e, q⟩ := h
  obtain ⟨⟨⟨items, deps⟩, M1⟩, e1, e⟩ := bsome e
  obtain ⟨⟨rs, Mz⟩, e2, e⟩ := bsome e
  split at e
  case isFalse => cases e
  rename_i small
  cases e
  refine ⟨ρ, φ, M, _, M1, env, sim, e1, fun J φ1 H1 s1 ok => ⟨s1.sim.tab P hP, fun H2 tb => ?_⟩⟩
  have s2 := Step.tab s1.sim hP tb
  refine ⟨fun i m ys Hx => ∃ φ M ws acc, m = ws.length ∧ items.drop i = ws ∧ i ≤ items.length ∧ Step C φ1 M1 H2 φ M Hx ∧ RwAll C φ M.length Hx ys acc ∧ gxL deps g ft fe (wipeW ρ vs) ws acc M = some (rs, Mz),
    ?_, items.length, φ1, M1, items, [], rfl, rfl, Nat.zero_le _, .refl s2.sim, .nil, e2⟩
  intro i m ys Hx ⟨φ3, M3, ws, acc, hm, hd, hi, s3, ra, e3⟩
  have s13 : Step C φ1 M1 H1 φ3 M3 Hx := s2.trans s3
  have s03 : Step C φ M H φ3 M3 Hx := s1.trans s13
  cases ws with
  | nil =>
    have hn : i = items.length := by
      have := congrArg List.length hd
      simp at this
      omega
    simp only [gxL] at e3
    split at e3
    case isFalse => cases e3
    rename_i dp
    cases e3
    refine .inl ⟨by rw [hn]; exact (ok φ3 _ Hx s13 dp).2, by rw [ra.length]; exact small, fun T nT => ?_⟩
    have s4 := Step.tup (o := .tup ys) s3.sim nT
    exact q _ φ3 _ (s03.trans s4) (.tup (SqT.of upd_same) (ra.step s4))
  | cons w ws =>
    simp only [gxL] at e3
    split at e3
    case isFalse => cases e3
    rename_i dp
    obtain ⟨ρ4, e4, e3⟩ := bsome e3
    obtain ⟨⟨k, M5⟩, e5, e3⟩ := bsome e3
    have hk : items[i]? = some w := by
      have : (items.drop i)[0]? = some w := by rw [hd]; rfl
      simpa using this
    have hlt : i < items.length := (List.getElem?_eq_some_iff.mp hk).1
    have hd' : items.drop (i + 1) = ws := by
      rw [← List.drop_drop, hd]; rfl
    obtain ⟨go, yl⟩ := (ok φ3 M3 Hx s13 dp).1 i w hk
    refine .inr ⟨go, fun ys' H' => ∃ φ M acc, Step C φ1 M1 H2 φ M H' ∧ RwAll C φ M.length H' ys' acc ∧ gxL deps g ft fe (wipeW ρ vs) ws acc M = some (rs, Mz), fun ys' H' ⟨φ, M, acc, h1, h2, h3⟩ => ⟨ws.length, by rw [hm]; exact Nat.lt_succ_self _, φ, M, ws, acc, rfl, hd', hlt, h1, h2, h3⟩, fun x H' hy => ?_⟩
    obtain ⟨st, rx⟩ := yl x H' hy
    have s0 : Step C φ M H φ3 M3 H' := s03.trans st
    refine ⟨wipeW ρ vs, φ3, M3, w, ρ4, (env.step s0).wipe vs, st.sim, rx, e4, fun σ4 env4 on4 => ⟨wipe_only hv on4, ρ4, φ3, M3, k, M5, env4, st.sim, e5, fun φ5 H5 s5 => ?_⟩⟩
    cases k with
    | false => exact ⟨φ5, M5, acc, s3.trans (st.trans s5), ra.step (st.trans s5), e3⟩
    | true =>
      obtain ⟨⟨y, M6⟩, e6, e3⟩ := bsome e3
      split at e3
      case isFalse => cases e3
      rename_i fits
      refine ⟨ρ4, φ5, M5, y, M6, env4.step s5, s5.sim, e6, fun v φ6 H6 s6 r6 => ⟨by rw [ra.length]; exact fits, φ6, M6, acc ++ [y], s3.trans (st.trans (s5.trans s6)), ?_, e3⟩⟩
      exact (ra.step (st.trans (s5.trans s6))).append (.cons r6 .nil)
theorem allX_of {b0 : Bool} (hP : P ∈ C.T) (hv : ∀ i ∈ is, i ∈ vs) {σ : L2.St} {H : Hp} {Q : VK} (h : tOf C (eAllX b0 fi g ft fe vs) σ H Q) : tGx P (tiOf C fi) (uAll b0 (tgOf C is g) (ttOf C ft) (tOf C fe) vs) σ H Q := by
  obtain ⟨ρ, φ, M, w, M', env, sim, e, q⟩ := h
  obtain ⟨⟨⟨items, deps⟩, M1⟩, e1, e⟩ := bsome e
  obtain ⟨⟨rb, Mz⟩, e2, e⟩ := bsome e
  cases e
  refine ⟨ρ, φ, M, _, M1, env, sim, e1, fun J φ1 H1 s1 ok => ⟨s1.sim.tab P hP, fun H2 tb => ?_⟩⟩
  have s2 := Step.tab s1.sim hP tb
  refine ⟨fun i m ys Hx => ∃ φ M ws, m = ws.length ∧ items.drop i = ws ∧ i ≤ items.length ∧ Step C φ1 M1 H2 φ M Hx ∧ ys.length ≤ sizeLine ∧ gaL b0 deps g ft fe (wipeW ρ vs) (sizeLine - ys.length) ws M = some (rb, Mz),
    ?_, items.length, φ1, M1, items, rfl, rfl, Nat.zero_le _, .refl s2.sim, Nat.zero_le _, e2⟩
  intro i m ys Hx ⟨φ3, M3, ws, hm, hd, hi, s3, le, e3⟩
  have s13 : Step C φ1 M1 H1 φ3 M3 Hx := s2.trans s3
  have s03 : Step C φ M H φ3 M3 Hx := s1.trans s13
  cases ws with
  | nil =>
    have hn : i = items.length := by
      have := congrArg List.length hd
      simp at this
      omega
    unfold gaL at e3
    split at e3
    case isFalse => cases e3
    rename_i dp
    cases e3
    exact .inl ⟨by rw [hn]; exact (ok φ3 _ Hx s13 dp).2, q _ φ3 _ s03 (.d (.bl _))⟩
  | cons w ws =>
    cases hz : sizeLine - ys.length with
    | zero => rw [hz] at e3; unfold gaL at e3; cases e3
    | succ n =>
    rw [hz] at e3
    unfold gaL at e3
    split at e3
    case isFalse => cases e3
    rename_i dp
    obtain ⟨ρ4, e4, e3⟩ := bsome e3
    obtain ⟨⟨k, M5⟩, e5, e3⟩ := bsome e3
    have hk : items[i]? = some w := by
      have : (items.drop i)[0]? = some w := by rw [hd]; rfl
      simpa using this
    have hlt : i < items.length := (List.getElem?_eq_some_iff.mp hk).1
    have hd' : items.drop (i + 1) = ws := by
      rw [← List.drop_drop, hd]; rfl
    obtain ⟨go, yl⟩ := (ok φ3 M3 Hx s13 dp).1 i w hk
    refine .inr ⟨go, fun ys' H' => ∃ φ M, Step C φ1 M1 H2 φ M H' ∧ ys'.length ≤ sizeLine ∧ gaL b0 deps g ft fe (wipeW ρ vs) (sizeLine - ys'.length) ws M = some (rb, Mz), fun ys' H' ⟨φ, M, h1, h2, h3⟩ => ⟨ws.length, by rw [hm]; exact Nat.lt_succ_self _, φ, M, ws, rfl, hd', hlt, h1, h2, h3⟩, fun x H' hy => ?_⟩
    obtain ⟨st, rx⟩ := yl x H' hy
    have s0 : Step C φ M H φ3 M3 H' := s03.trans st
    refine ⟨wipeW ρ vs, φ3, M3, w, ρ4, (env.step s0).wipe vs, st.sim, rx, e4, fun σ4 env4 on4 => ⟨wipe_only hv on4, ρ4, φ3, M3, k, M5, env4, st.sim, e5, fun φ5 H5 s5 => ?_⟩⟩
    cases k with
    | false =>
      refine ⟨φ5, M5, s3.trans (st.trans s5), le, ?_⟩
      rw [hz]
      exact e3
    | true =>
      obtain ⟨⟨y, M6⟩, e6, e3⟩ := bsome e3
      obtain ⟨b, eb, e3⟩ := bsome e3
      refine ⟨ρ4, φ5, M5, y, M6, env4.step s5, s5.sim, e6, fun v φ6 H6 s6 r6 => ⟨by omega, b, isB_of eb r6, ?_⟩⟩
      split at e3
      · rename_i same
        rw [if_pos same]
        refine ⟨φ6, M6, s3.trans (st.trans (s5.trans s6)), by rw [List.length_append]; simp; omega, ?_⟩
        have : sizeLine - (ys ++ [v]).length = n := by rw [List.length_append]; simp; omega
        rw [this]
        exact e3
      · rename_i other
        rw [if_neg other]
        cases e3
        exact q _ φ6 _ (s03.trans (st.trans (s5.trans s6))) (.d (.bl _))
end
section
variable {C : Ck} {X : Cx} {c P : Addr} {elt tg iter : Expr} {ifs : List Expr} {gpos p pos : Pos} {scope : Scope} {own : List (Str × Nat)} {fi : EvI} {g : EvG} {ft : EvT} {fe : EvE} {is : List Nat} {k : Nat}
def gscC (scope : Scope) : Bool := !scope.isCoroutine && (scope.names.all fun y => match y.2 with | .cell => false | _ => true) && (match scope.names.lookup (".0" : Str) with | some .local => true | _ => false)
theorem gsc_by (h : gscC scope = true) : GSc scope := by
  unfold gscC at h
  simp only [Bool.and_eq_true, Bool.not_eq_true', List.all_eq_true] at h
  obtain ⟨⟨h1, h2⟩, h3⟩ := h
  refine ⟨h1, fun y hy e => ?_, ?_⟩
  · have := h2 y hy
    rw [e] at this
    cases this
  · split at h3
    · assumption
    · cases h3
theorem q_tupX (hr : Room (k + 1) X.A) (hf : Free X.A) (hc : X.calm = true) (hN : X.N.Nodup) (hgl : Gl X "tuple") (hm : X.mg "tuple" = none) (TB : LamX.TabB X.base X.mg c P) (hP : P ∈ C.T) (hcode : X.env.code = .ref c) (S : GSc scope) (ok : BlkOk X.N X.env.scope scope own) (hi : PI X tg iter (tiOf C fi)) (hv : ∀ i ∈ is, i ∈ own.map (·.2))
    (hg : InG X scope k fun Y => PG Y tg (tgOf C is g)) (ht : InG X scope k fun Y => PTs Y ifs (ttOf C ft)) (he : InG X scope k fun Y => PE Y elt (tOf C fe)) (hs : ∀ v, genFold iter X.env v = pure v := by intro _; rfl)
    (hz : starEach [gexp elt tg iter ifs scope gpos] X.env = (false, eval (gexp elt tg iter ifs scope gpos) X.env) :: starEach [] X.env := by rfl) :
    PE X (.Call (.Name "tuple" p) [gexp elt tg iter ifs scope gpos] [] pos) (tOf C (eTupX fi g ft fe (own.map (·.2)))) :=
  (pe_tupX hr hf hc hN hgl hm TB hcode S ok hi hg ht he hs hz).weak fun _ _ _ h => tupX_of hP hv h
theorem q_allX {nm : Str} {b0 : Bool} (hb : nm = "all" ∧ b0 = true ∨ nm = "any" ∧ b0 = false) (hr : Room (k + 1) X.A) (hf : Free X.A) (hc : X.calm = true) (hN : X.N.Nodup) (hgl : Gl X nm) (hm : X.mg nm = none) (TB : LamX.TabB X.base X.mg c P) (hP : P ∈ C.T) (hcode : X.env.code = .ref c) (S : GSc scope) (ok : BlkOk X.N X.env.scope scope own) (hi : PI X tg iter (tiOf C fi)) (hv : ∀ i ∈ is, i ∈ own.map (·.2))
    (hg : InG X scope k fun Y => PG Y tg (tgOf C is g)) (ht : InG X scope k fun Y => PTs Y ifs (ttOf C ft)) (he : InG X scope k fun Y => PE Y elt (tOf C fe)) (hs : ∀ v, genFold iter X.env v = pure v := by intro _; rfl)
    (hz : starEach [gexp elt tg iter ifs scope gpos] X.env = (false, eval (gexp elt tg iter ifs scope gpos) X.env) :: starEach [] X.env := by rfl) :
    PE X (.Call (.Name nm p) [gexp elt tg iter ifs scope gpos] [] pos) (tOf C (eAllX b0 fi g ft fe (own.map (·.2)))) :=
  (pe_allX hb hr hf hc hN hgl hm TB hcode S ok hi hg ht he hs hz).weak fun _ _ _ h => allX_of hP hv h
end
end Va

set_option Elab.async false
set_option linter.all false
set_option maxRecDepth 100000
set_option maxHeartbeats 3200000
/-! Gn10: the rule of sum of a generator expression, by value too -/
namespace Gn
open PySem PySem.Spec PyProof.Rows L2 Sa
def uSum (g : TG) (tt : TT) (te : TE) (vs : List Nat) : It → L2.St → Hp → VK → Prop := fun J σ H Q => ∃ W, Turns J g tt te vs (wipe σ vs) ySum (fun ys H => ∀ t, sumV ys = some t → Q (.int t) H) W ∧ ∃ m, W 0 m [] H
section
variable {X : Cx} {c P : Addr} {elt tg iter : Expr} {ifs : List Expr} {gpos p pos : Pos} {scope : Scope} {own : List (Str × Nat)} {wi : TI} {g : TG} {tt : TT} {te : TE} {k : Nat}
theorem pe_sumX (hr : Room (k + 1) X.A) (hf : Free X.A) (hc : X.calm = true) (hN : X.N.Nodup) (hgl : Gl X "sum") (hm : X.mg "sum" = none) (TB : LamX.TabB X.base X.mg c P) (hcode : X.env.code = .ref c) (S : GSc scope) (ok : BlkOk X.N X.env.scope scope own) (hi : PI X tg iter wi)
    (hg : InG X scope k fun Y => PG Y tg g) (ht : InG X scope k fun Y => PTs Y ifs tt) (he : InG X scope k fun Y => PE Y elt te) (hs : ∀ v, genFold iter X.env v = pure v)
    (hz : starEach [gexp elt tg iter ifs scope gpos] X.env = (false, eval (gexp elt tg iter ifs scope gpos) X.env) :: starEach [] X.env := by rfl) :
    PE X (.Call (.Name "sum" p) [gexp elt tg iter ifs scope gpos] [] pos) (tGx P wi (uSum g tt te (own.map (·.2)))) := by
  refine ⟨fun pins s σ H Q I h => ?_⟩
  refine wpAny_Call_Name_kw (ld_blt (u := .builtin "sum") I hgl hm (by decide +kernel) ?_)
  refine PyProof.Rows.callWith_builtin1 ?_ hz (by rfl); rw [hz]
  show wpAny _ _ (spliced ((false, eval (gexp elt tg iter ifs scope gpos) X.env) :: backTo pos (starEach [] X.env))) _ _ s
  refine Calls.spliced_cons (gen_make (R := fun J H2 => uSum g tt te (own.map fun q : Str × Nat => q.2) J σ H2 Q) hr hf hc hN TB hcode S ok hi hg ht he hs I h fun J H4 a s5 Xg fp tn gob gi ⟨W, turns, hm⟩ D => Calls.spliced_nil ?_)
  have isG : s5.heap.IsGen a gi := D.isg _ (D.G0.inv.pin (a, gob) (List.mem_append_right _ List.mem_cons_self)).1
  refine call_function_tree F.kind_sum F.plain_sum F.entry_sum (F.args_sum1 _) ?_
  unfold Builtin.«sum»
  simp only [List.length_cons, List.length_nil]; rw [if_neg (by decide)]
  refine wpAny_bind (wpAny_of_eq (show Builtin.Builtins.bindParams "sum" ["start"] 0 { } = pure [none] from rfl) (wpAny_bind (wpAny_pyIter_gen isG (wpAny_bind (wpAny_mkInt (wpAny_bind (wpAny_pure ?_)))))))
  simp only [List.forIn_cons, List.forIn_nil]
  refine wpAny_bind (wpAny_bind (wpAny_bind (wpAny_isInstance (T := "int") (b := false) (typeIs_int _ _ _) PySem.sub_int_str ?_))); simp only [Bool.false_eq_true, if_false]
  refine wpAny_pure (wpAny_bind (wpAny_bind (wpAny_isInstance (T := "int") (b := false) (typeIs_int _ _ _) sub_int_bytes ?_))); simp only [Bool.false_eq_true, if_false]
  refine wpAny_pure (wpAny_bind (wpAny_bind (wpAny_isInstance (T := "int") (b := false) (typeIs_int _ _ _) sub_int_bytearray ?_))); simp only [Bool.false_eq_true, if_false]
  refine wpAny_pure (wpAny_pure (wpAny_bind (wpAny_newObj_type (wpAny_pure ⟨plainId_quiet F.plain_sum_loop _, ?_⟩))))
  have k1 : ∀ b u, s5.heap.get? b = some u → (s5.heap.push { cls := .type "list", data := .seq #[Value.int 0 s5.toks] }).get? b = some u := fun b u e => Heap.get?_push_of_some _ e
  have G1 := D.G0.lay (obj := lstObj #[.int 0 s5.toks] 0) (t := s5.toks + 1) D.keep (fun b hb => Nat.lt_of_lt_of_le (D.lo b hb) D.sz) k1 (Heap.get?_push_size _ rfl) (Nat.le_refl _) (fun v z => by cases z)
  have go := sum_loop (A := X.A) (R := fun r s' => match r with | .ok (.ret u) => EP X pins σ Q u s' | _ => False) (S := s5.heap.objs.size) ((((D.wakes hr.hd hr.depth).up).up).up) D.keep D.pn (Nat.ne_of_lt D.alt) D.sz
    (fun t tk c ys H s' I' et q => ⟨.int t, H, D.back _ H s' I', ⟨tk, rfl⟩, q t et⟩) (sizeLine + 1) 0 _ _ _ (.inl rfl) (D.start (pSum s5.heap.objs.size) ySum _ W turns hm _ _ ⟨0, s5.toks, 0, rfl, rfl⟩ G1 rfl)
  rw [D.prog, D.w] at go
  refine codeAny_mono go fun r s' q => ?_
  cases r with
  | error _ => exact q.elim
  | ok fl => cases fl with
    | ret u => exact q
    | next => exact q.elim
    | brk => exact q.elim
    | cont => exact q.elim
end
end Gn
namespace Va
open PySem PySem.Spec PyProof.Rows L2 Sa Gn
/-- an int, or a truth as one -/
def asN : W → Option Int
  | .d (.int i) => some i
  | .d (.bool b) => some (b2i b)
  | _ => none
def sumW : List W → Option Int
  | [] => some 0
  | w :: ws => (asN w).bind fun i => (sumW ws).map (i + ·)
def allN : List W → Bool := fun ws => ws.all fun w => (asN w).isSome
open Classical in
noncomputable def gsL (deps : List (Nat × MO)) (g : EvG) (t : EvT) (e : EvE) (ρ0 : Ev) : Nat → Int → List W → Mem → Option (Int × Mem)
  | _, acc, [], M => if Deps deps M then some (acc, M) else none
  | 0, _, _ :: _, _ => none
  | n + 1, acc, w :: ws, M => if Deps deps M then (g w ρ0).bind fun ρ1 => (t ρ1 M).bind fun p => if p.1 = true then (e ρ1 p.2).bind fun y => (asN y.1).bind fun i => gsL deps g t e ρ0 n (acc + i) ws y.2
    else gsL deps g t e ρ0 (n + 1) acc ws p.2 else none
noncomputable def eSumX (fi : EvI) (g : EvG) (t : EvT) (e : EvE) (vs : List Nat) : EvE := fun ρ M => (fi ρ M).bind fun p =>
  (gsL p.1.2 g t e (wipeW ρ vs) sizeLine 0 p.1.1 p.2).bind fun q => some (.d (.int q.1), q.2)
theorem iOf_of {C : Ck} {φ : Nat → Addr} {n : Nat} {H : Hp} {v : V} {w : W} {i : Int} (h : asN w = some i) (r : Rw C φ n H v w) : iOf v = some i := by
  cases w with
  | d x =>
    cases x with
    | int j => cases h; rw [r.isI]; rfl
    | bool b => cases h; rw [r.isB]; rfl
    | _ => cases h
  | _ => cases h
section
variable {C : Ck} {P : Addr} {fi : EvI} {g : EvG} {ft : EvT} {fe : EvE} {vs is : List Nat}
theorem sumX_of (hP : P ∈ C.T) (hv : ∀ i ∈ is, i ∈ vs) {σ : L2.St} {H : Hp} {Q : VK} (h : tOf C (eSumX fi g ft fe vs) σ H Q) : tGx P (tiOf C fi) (uSum (tgOf C is g) (ttOf C ft) (tOf C fe) vs) σ H Q := by
  obtain ⟨ρ, φ, M, w, M', env, sim, e, q⟩ := h
  obtain ⟨⟨⟨items, deps⟩, M1⟩, e1, e⟩ := bsome e
  obtain ⟨⟨rs, Mz⟩, e2, e⟩ := bsome e
  cases e
  refine ⟨ρ, φ, M, _, M1, env, sim, e1, fun J φ1 H1 s1 ok => ⟨s1.sim.tab P hP, fun H2 tb => ?_⟩⟩
  have s2 := Step.tab s1.sim hP tb
  refine ⟨fun i m ys Hx => ∃ φ M ws acc, m = ws.length ∧ items.drop i = ws ∧ i ≤ items.length ∧ Step C φ1 M1 H2 φ M Hx ∧ ys.length ≤ sizeLine ∧ sumV ys = some acc ∧ gsL deps g ft fe (wipeW ρ vs) (sizeLine - ys.length) acc ws M = some (rs, Mz),
    ?_, items.length, φ1, M1, items, 0, rfl, rfl, Nat.zero_le _, .refl s2.sim, Nat.zero_le _, rfl, e2⟩
  intro i m ys Hx ⟨φ3, M3, ws, acc, hm, hd, hi, s3, le, ea, e3⟩
  have s13 : Step C φ1 M1 H1 φ3 M3 Hx := s2.trans s3
  have s03 : Step C φ M H φ3 M3 Hx := s1.trans s13
  cases ws with
  | nil =>
    have hn : i = items.length := by
      have := congrArg List.length hd
      simp at this
      omega
    unfold gsL at e3
    split at e3
    case isFalse => cases e3
    rename_i dp
    cases e3
    refine .inl ⟨by rw [hn]; exact (ok φ3 _ Hx s13 dp).2, fun t et => ?_⟩
    rw [ea] at et
    cases et
    exact q _ φ3 _ s03 (.d (.int _))
  | cons w ws =>
    cases hz : sizeLine - ys.length with
    | zero => rw [hz] at e3; unfold gsL at e3; cases e3
    | succ n =>
    rw [hz] at e3
    unfold gsL at e3
    split at e3
    case isFalse => cases e3
    rename_i dp
    obtain ⟨ρ4, e4, e3⟩ := bsome e3
    obtain ⟨⟨k, M5⟩, e5, e3⟩ := bsome e3
    have hk : items[i]? = some w := by
      have : (items.drop i)[0]? = some w := by rw [hd]; rfl
      simpa using this
    have hlt : i < items.length := (List.getElem?_eq_some_iff.mp hk).1
    have hd' : items.drop (i + 1) = ws := by
      rw [← List.drop_drop, hd]; rfl
    obtain ⟨go, yl⟩ := (ok φ3 M3 Hx s13 dp).1 i w hk
    refine .inr ⟨go, fun ys' H' => ∃ φ M acc, Step C φ1 M1 H2 φ M H' ∧ ys'.length ≤ sizeLine ∧ sumV ys' = some acc ∧ gsL deps g ft fe (wipeW ρ vs) (sizeLine - ys'.length) acc ws M = some (rs, Mz), fun ys' H' ⟨φ, M, acc, h1, h2, h3, h4⟩ => ⟨ws.length, by rw [hm]; exact Nat.lt_succ_self _, φ, M, ws, acc, rfl, hd', hlt, h1, h2, h3, h4⟩, fun x H' hy => ?_⟩
    obtain ⟨st, rx⟩ := yl x H' hy
    have s0 : Step C φ M H φ3 M3 H' := s03.trans st
    refine ⟨wipeW ρ vs, φ3, M3, w, ρ4, (env.step s0).wipe vs, st.sim, rx, e4, fun σ4 env4 on4 => ⟨wipe_only hv on4, ρ4, φ3, M3, k, M5, env4, st.sim, e5, fun φ5 H5 s5 => ?_⟩⟩
    cases k with
    | false =>
      refine ⟨φ5, M5, acc, s3.trans (st.trans s5), le, ea, ?_⟩
      rw [hz]
      exact e3
    | true =>
      obtain ⟨⟨y, M6⟩, e6, e3⟩ := bsome e3
      obtain ⟨j, ej, e3⟩ := bsome e3
      refine ⟨ρ4, φ5, M5, y, M6, env4.step s5, s5.sim, e6, fun v φ6 H6 s6 r6 => ⟨by omega, ⟨j, iOf_of ej r6⟩, φ6, M6, acc + j, s3.trans (st.trans (s5.trans s6)), by rw [List.length_append]; simp; omega, sumV_snoc ea (iOf_of ej r6), ?_⟩⟩
      have : sizeLine - (ys ++ [v]).length = n := by rw [List.length_append]; simp; omega
      rw [this]
      exact e3
end
section
variable {C : Ck} {X : Cx} {c P : Addr} {elt tg iter : Expr} {ifs : List Expr} {gpos p pos : Pos} {scope : Scope} {own : List (Str × Nat)} {fi : EvI} {g : EvG} {ft : EvT} {fe : EvE} {is : List Nat} {k : Nat}
theorem q_sumX (hr : Room (k + 1) X.A) (hf : Free X.A) (hc : X.calm = true) (hN : X.N.Nodup) (hgl : Gl X "sum") (hm : X.mg "sum" = none) (TB : LamX.TabB X.base X.mg c P) (hP : P ∈ C.T) (hcode : X.env.code = .ref c) (S : GSc scope) (ok : BlkOk X.N X.env.scope scope own) (hi : PI X tg iter (tiOf C fi)) (hv : ∀ i ∈ is, i ∈ own.map (·.2))
    (hg : InG X scope k fun Y => PG Y tg (tgOf C is g)) (ht : InG X scope k fun Y => PTs Y ifs (ttOf C ft)) (he : InG X scope k fun Y => PE Y elt (tOf C fe)) (hs : ∀ v, genFold iter X.env v = pure v := by intro _; rfl)
    (hz : starEach [gexp elt tg iter ifs scope gpos] X.env = (false, eval (gexp elt tg iter ifs scope gpos) X.env) :: starEach [] X.env := by rfl) :
    PE X (.Call (.Name "sum" p) [gexp elt tg iter ifs scope gpos] [] pos) (tOf C (eSumX fi g ft fe (own.map (·.2)))) :=
  (pe_sumX hr hf hc hN hgl hm TB hcode S ok hi hg ht he hs hz).weak fun _ _ _ h => sumX_of hP hv h
end
end Va

set_option Elab.async false
set_option linter.all false
set_option maxRecDepth 100000
set_option maxHeartbeats 1000000
/-! Gn12: max of a generator by value; and three short forms of generator expressions -/
namespace Va
open PySem PySem.Spec PyProof.Rows L2 Sa Gn
open Classical in
/-- the ints that the generator gives, acc ahead -/
noncomputable def gmL (deps : List (Nat × MO)) (g : EvG) (t : EvT) (e : EvE) (ρ0 : Ev) : Nat → List Int → List W → Mem → Option (List Int × Mem)
  | _, acc, [], M => if Deps deps M then some (acc, M) else none
  | 0, _, _ :: _, _ => none
  | n + 1, acc, w :: ws, M => if Deps deps M then (g w ρ0).bind fun ρ1 => (t ρ1 M).bind fun p => if p.1 = true then (e ρ1 p.2).bind fun y => (asI y.1).bind fun i => gmL deps g t e ρ0 n (acc ++ [i]) ws y.2
    else gmL deps g t e ρ0 (n + 1) acc ws p.2 else none
noncomputable def eMaxX (fi : EvI) (g : EvG) (t : EvT) (e : EvE) (vs : List Nat) : EvE := fun ρ M => (fi ρ M).bind fun p =>
  (gmL p.1.2 g t e (wipeW ρ vs) sizeLine [] p.1.1 p.2).bind fun q => if q.1 = [] then none else some (.d (.int (maxI q.1)), q.2)
section
variable {C : Ck} {P : Addr} {fi : EvI} {g : EvG} {ft : EvT} {fe : EvE} {vs is : List Nat}
theorem ints_inj : ∀ {xs ys : List Int}, xs.map V.int = ys.map V.int → xs = ys
  | [], [], _ => rfl
  | x :: xs, y :: ys, h => by
    simp only [List.map_cons, List.cons.injEq, V.int.injEq] at h
    rw [h.1, ints_inj h.2]
theorem maxX_of (hP : P ∈ C.T) (hv : ∀ i ∈ is, i ∈ vs) {σ : L2.St} {H : Hp} {Q : VK} (h : tOf C (eMaxX fi g ft fe vs) σ H Q) : tGx P (tiOf C fi) (uMax (tgOf C is g) (ttOf C ft) (tOf C fe) vs) σ H Q := by
  obtain ⟨ρ, φ, M, w, M', env, sim, e, q⟩ := h
  obtain ⟨⟨⟨items, deps⟩, M1⟩, e1, e⟩ := bsome e
  obtain ⟨⟨all, Mz⟩, e2, e⟩ := bsome e
  split at e
  case isTrue => cases e
  rename_i some'
  cases e
  refine ⟨ρ, φ, M, _, M1, env, sim, e1, fun J φ1 H1 s1 ok => ⟨s1.sim.tab P hP, fun H2 tb => ?_⟩⟩
  have s2 := Step.tab s1.sim hP tb
  -- i things are walked, ys of them came, acc are their ints
  refine ⟨fun i m ys Hx => ∃ φ M acc, m = items.length - i ∧ i ≤ items.length ∧ Step C φ1 M1 H2 φ M Hx ∧ ys.length ≤ sizeLine ∧ ys = acc.map V.int ∧ gmL deps g ft fe (wipeW ρ vs) (sizeLine - ys.length) acc (items.drop i) M = some (all, Mz),
    ?_, items.length, φ1, M1, [], rfl, Nat.zero_le _, .refl s2.sim, Nat.zero_le _, rfl, e2⟩
  rintro i m ys Hx ⟨φ3, M3, acc, hm, hi, s3, le, ey, e3⟩
  have s13 : Step C φ1 M1 H1 φ3 M3 Hx := s2.trans s3
  have s03 : Step C φ M H φ3 M3 Hx := s1.trans s13
  rcases Nat.lt_or_ge i items.length with hlt | hge
  · have hd : items.drop i = items[i] :: items.drop (i + 1) := List.drop_eq_getElem_cons hlt
    have hk : items[i]? = some items[i] := List.getElem?_eq_getElem hlt
    rw [hd] at e3
    generalize items[i] = w at e3 hk
    cases room : sizeLine - ys.length with
    | zero => rw [room] at e3; unfold gmL at e3; cases e3
    | succ n =>
      rw [room] at e3
      unfold gmL at e3
      split at e3
      case isFalse => cases e3
      rename_i dp
      obtain ⟨ρ4, e4, e3⟩ := bsome e3
      obtain ⟨⟨k, M5⟩, e5, e3⟩ := bsome e3
      obtain ⟨go, yl⟩ := (ok φ3 M3 Hx s13 dp).1 i w hk
      refine .inr ⟨go, fun ys' H' => ∃ φ M acc, Step C φ1 M1 H2 φ M H' ∧ ys'.length ≤ sizeLine ∧ ys' = acc.map V.int ∧ gmL deps g ft fe (wipeW ρ vs) (sizeLine - ys'.length) acc (items.drop (i + 1)) M = some (all, Mz),
        fun ys' H' ⟨φ, M, acc, h⟩ => ⟨items.length - (i + 1), by omega, φ, M, acc, rfl, hlt, h⟩, fun x H' hy => ?_⟩
      obtain ⟨st, rx⟩ := yl x H' hy
      refine ⟨wipeW ρ vs, φ3, M3, w, ρ4, (env.step (s03.trans st)).wipe vs, st.sim, rx, e4, fun σ4 env4 on4 => ⟨wipe_only hv on4, ρ4, φ3, M3, k, M5, env4, st.sim, e5, fun φ5 H5 s5 => ?_⟩⟩
      cases k with
      | false =>
        refine ⟨φ5, M5, acc, s3.trans (st.trans s5), le, ey, ?_⟩
        rw [room]
        exact e3
      | true =>
        obtain ⟨⟨y, M6⟩, e6, e3⟩ := bsome e3
        obtain ⟨j, ej, e3⟩ := bsome e3
        cases asI_eq ej
        refine ⟨ρ4, φ5, M5, _, M6, env4.step s5, s5.sim, e6, fun v φ6 H6 s6 r6 => ?_⟩
        cases r6.isI
        have n' : sizeLine - (ys ++ [V.int j]).length = n := by rw [List.length_append]; simp; omega
        exact ⟨by omega, ⟨j, rfl⟩, φ6, M6, acc ++ [j], s3.trans (st.trans (s5.trans s6)), by rw [List.length_append]; simp; omega, by rw [ey]; simp, by rw [n']; exact e3⟩
  · have hn : i = items.length := Nat.le_antisymm hi hge
    rw [List.drop_eq_nil_of_le hge] at e3
    unfold gmL at e3
    split at e3
    case isFalse => cases e3
    rename_i dp
    cases e3
    refine .inl ⟨by rw [hn]; exact (ok φ3 _ Hx s13 dp).2, fun none' => ?_, fun js m ej mem top => ?_⟩
    · rw [ey] at none'
      exact some' (List.map_eq_nil_iff.mp none')
    · rw [ey] at ej
      have same := ints_inj ej
      subst same
      have z := q (.int (maxI all)) φ3 _ s03 (.d (.int _))
      rwa [maxI_one mem top] at z
end
section
variable {C : Ck} {X : Cx} {c P : Addr} {elt tg iter : Expr} {ifs : List Expr} {gpos p pos : Pos} {scope : Scope} {own : List (Str × Nat)} {fi : EvI} {g : EvG} {ft : EvT} {fe : EvE} {is : List Nat} {k : Nat}
theorem q_maxX (hr : Room (k + 1) X.A) (hf : Free X.A) (hc : X.calm = true) (hN : X.N.Nodup) (hgl : Gl X "max") (hm : X.mg "max" = none) (TB : LamX.TabB X.base X.mg c P) (hP : P ∈ C.T) (hcode : X.env.code = .ref c) (S : GSc scope) (ok : BlkOk X.N X.env.scope scope own) (hi : PI X tg iter (tiOf C fi)) (hv : ∀ i ∈ is, i ∈ own.map (·.2))
    (hg : InG X scope k fun Y => PG Y tg (tgOf C is g)) (ht : InG X scope k fun Y => PTs Y ifs (ttOf C ft)) (he : InG X scope k fun Y => PE Y elt (tOf C fe)) (hs : ∀ v, genFold iter X.env v = pure v := by intro _; rfl)
    (hz : starEach [gexp elt tg iter ifs scope gpos] X.env = (false, eval (gexp elt tg iter ifs scope gpos) X.env) :: starEach [] X.env := by rfl) :
    PE X (.Call (.Name "max" p) [gexp elt tg iter ifs scope gpos] [] pos) (tOf C (eMaxX fi g ft fe (own.map (·.2)))) :=
  (pe_maxX hr hf hc hN hgl hm TB hcode S ok hi hg ht he hs hz).weak fun _ _ _ h => maxX_of hP hv h
end
/-! three short forms -/
section
variable {C : Ck} {X : Cx} {fi : EvE} {i : Nat} {x : Str} {e : Expr}
/-- a function may be put for another one that tells the same where the slots are there -/
theorem q_alt {f f' : EvE} (hx : X.N[i]? = some x) (h : PE X e (tOf C f)) (eq : ∀ ρ M r, i < ρ.length → f' ρ M = some r → f ρ M = some r) : PE X e (tOf C f') :=
  ⟨fun pins s σ H Q I ⟨ρ, φ, M, w, M', env, sim, er, q⟩ => h.run pins s σ H Q I ⟨ρ, φ, M, w, M', env, sim, eq ρ M _ (by
    have l1 : ρ.length = σ.length := env.1.symm
    have l2 := I.len
    have l3 := (List.getElem?_eq_some_iff.mp hx).1
    omega) er, q⟩⟩
/-- what is walked, and that it stays -/
theorem iSeq_of {ρ : Ev} {M M1 : Mem} {w : W} {ws : List W} (e : fi ρ M = some (w, M1)) (s : seqOf M1 w = some ws) : ∃ deps, iSeq fi ρ M = some ((ws, deps), M1) ∧ Deps deps M1 := by
  unfold iSeq
  rw [e]
  cases w with
  | obj j =>
    have s : (match M1[j]? with | some (.lst us) => some us | _ => none) = some ws := s
    cases h : M1[j]? with
    | none => rw [h] at s; cases s
    | some o =>
      cases o with
      | lst us =>
        rw [h] at s
        cases s
        exact ⟨[(j, .lst ws)], by simp [lstAt, h], by simpa using h⟩
      | _ => rw [h] at s; cases s
  | d y => exact ⟨[], by simp only [Option.bind_some]; rw [show tupOf (.d y) = some ws from s]; rfl, .nil⟩
  | pack us => exact ⟨[], by simp only [Option.bind_some]; rw [show tupOf (.pack us) = some ws from s]; rfl, .nil⟩
  | scr => cases s
theorem slot_set {ρ : Ev} {w : W} (h : i < ρ.length) : eVar i (ρ.set i (some w)) M = some (w, M) := by
  unfold eVar
  rw [List.getElem?_set_self h]
theorem gx_ix {deps : List (Nat × MO)} {ρ : Ev} {M : Mem} {k : Nat} (hρ : i < ρ.length) (dp : Deps deps M) : ∀ {ws us : List W} (acc : List W), itemsAt k ws = some us → acc.length + us.length ≤ sizeLine →
    gxL deps (gN i) tTrue (eOp oIx (eVar i) (eC (.int k))) ρ ws acc M = some (acc ++ us, M)
  | [], us, acc, h, _ => by
    cases h
    simp [gxL, dp]
  | w :: ws, us, acc, h, le => by
    obtain ⟨vs, h1, h⟩ := bsome h
    obtain ⟨u, h2, h⟩ := bsome h
    obtain ⟨r, h3, h⟩ := bsome h
    cases h
    have fits : acc.length < sizeLine := by rw [List.length_cons] at le; omega
    have here : eOp oIx (eVar i) (eC (.int k)) (ρ.set i (some w)) M = some (u, M) := by
      have sq : seqOf M w = some vs := by
        cases w with
        | obj j => cases h1
        | _ => exact h1
      have at' : atI vs (k : Int) = some u := by
        have lt := (List.getElem?_eq_some_iff.mp h2).1
        exact atI_nat h2
      show (eVar i (ρ.set i (some w)) M).bind _ = _
      rw [slot_set hρ]
      simp only [Option.bind_some]
      show (eC _ _ _).bind _ = _
      simp only [eC, Option.bind_some]
      unfold oIx
      simp [asI, sq, at']
    have ih := gx_ix hρ dp (acc ++ [u]) h3 (by rw [List.length_append]; simp only [List.length_cons, List.length_nil] at le ⊢; omega)
    simp only [gxL, if_pos dp, gN, Option.bind_some, tTrue, if_true, here, if_pos fits, ih]
    simp
theorem q_tupIx {k : Nat} (hx : X.N[i]? = some x) (h : PE X e (tOf C (eTupX (iSeq fi) (gN i) tTrue (eOp oIx (eVar i) (eC (.int k))) [i]))) : PE X e (tOf C (eTupIx k fi)) :=
  q_alt hx h fun ρ M r hρ er => by
    obtain ⟨⟨w, M1⟩, e1, er⟩ := bsome er
    obtain ⟨ws, e2, er⟩ := bsome er
    obtain ⟨us, e3, er⟩ := bsome er
    split at er
    case isFalse => cases er
    rename_i small
    cases er
    obtain ⟨deps, e4, dp⟩ := iSeq_of e1 e2
    have hρ' : i < (wipeW ρ [i]).length := by simpa [wipeW] using hρ
    show (iSeq fi ρ M).bind _ = _
    rw [e4]
    simp only [Option.bind_some]
    rw [gx_ix hρ' dp [] e3 (by simpa using small)]
    simp [small]
theorem gm_abs {deps : List (Nat × MO)} {ρ : Ev} {M : Mem} (hρ : i < ρ.length) (dp : Deps deps M) : ∀ {ws : List W} {is : List Int} (n : Nat) (acc : List Int), intsOf ws = some is → is.length ≤ n →
    gmL deps (gN i) tTrue (eCall fAbs (aCons (eVar i) aNil)) ρ n acc ws M = some (acc ++ is.map fun n => if n < 0 then -n else n, M)
  | [], is, n, acc, h, _ => by
    cases h
    cases n <;> simp [gmL, dp]
  | w :: ws, is, n, acc, h, le => by
    obtain ⟨j, h0, h⟩ := bsome h
    obtain ⟨r, h1, h⟩ := bsome h
    cases h
    cases asI_eq h0
    · cases n with
      | zero => simp at le
      | succ n =>
        have here : eCall fAbs (aCons (eVar i) aNil) (ρ.set i (some (.d (.int j)))) M = some (.d (.int (if j < 0 then -j else j)), M) := by
          show (((eVar i _ M).bind _).bind _) = _
          rw [slot_set hρ]
          rfl
        have ih := gm_abs hρ dp n (acc ++ [if j < 0 then -j else j]) h1 (by simpa using le)
        simp only [gmL, if_pos dp, gN, Option.bind_some, tTrue, if_true, here, asI, ih]
        simp
theorem q_maxAbs (hx : X.N[i]? = some x) (h : PE X e (tOf C (eMaxX (iSeq fi) (gN i) tTrue (eCall fAbs (aCons (eVar i) aNil)) [i]))) : PE X e (tOf C (eMaxAbs fi)) :=
  q_alt hx h fun ρ M r hρ er => by
    obtain ⟨⟨w, M1⟩, e1, er⟩ := bsome er
    obtain ⟨ws, e2, er⟩ := bsome er
    obtain ⟨is, e3, er⟩ := bsome er
    split at er
    case isTrue => cases er
    rename_i ne
    split at er
    case isFalse => cases er
    rename_i small
    cases er
    obtain ⟨deps, e4, dp⟩ := iSeq_of e1 e2
    have hρ' : i < (wipeW ρ [i]).length := by simpa [wipeW] using hρ
    show (iSeq fi ρ M).bind _ = _
    rw [e4]
    simp only [Option.bind_some]
    rw [gm_abs hρ' dp sizeLine [] e3 small]
    simp [ne]
theorem ga_blank {deps : List (Nat × MO)} {ρ : Ev} {M : Mem} (hρ : i < ρ.length) (dp : Deps deps M) : ∀ {ws : List W} {bs : List Bool} (n : Nat), blanks ws = some bs → bs.length ≤ n →
    gaL true deps (gN i) tTrue (eOp oEq (eVar i) (eTup (aCons (eC (.bool false)) (aCons (eC (.int 0)) aNil)))) ρ n ws M = some (bs.all id, M)
  | [], bs, n, h, _ => by
    cases h
    cases n <;> simp [gaL, dp]
  | w :: ws, bs, n, h, le => by
    unfold blanks at h
    split at h
    · rename_i e; cases e
    · rename_i b j ws' e
      cases e
      obtain ⟨r, h1, h⟩ := bsome h
      cases h
      cases n with
      | zero => simp at le
      | succ n =>
        have here : eOp oEq (eVar i) (eTup (aCons (eC (.bool false)) (aCons (eC (.int 0)) aNil))) (ρ.set i (some (.d (.tuple [.bool b, .int j])))) M = some (.d (.bool (PyData.eqv (.tuple [.bool b, .int j]) (.tuple [.bool false, .int 0]))), M) := by
          show ((eVar i _ M).bind _) = _
          rw [slot_set hρ]
          have two : ([W.d (.bool false), W.d (.int 0)] : List W).length ≤ sizeLine := by decide
          simp only [Option.bind_some, eTup, aCons, aNil, eC, if_pos two]
          have sh : (SeqAt.shaped (.tuple [.bool b, .int j]) && SeqAt.shaped (.tuple [.bool false, .int 0])) = true := by
            simp [SeqAt.shaped, PyData.canLay0, PyData.canLayAll0, PyData.depth, PyData.depthAll]
          simp [mkTup, datas, oEq, eqD, sh]
        have ih := ga_blank hρ dp n h1 (by simpa using le)
        simp only [gaL, if_pos dp, gN, Option.bind_some, tTrue, if_true, here, asB]
        cases PyData.eqv (.tuple [.bool b, .int j]) (.tuple [.bool false, .int 0]) with
        | true => simp [ih]
        | false => simp
    · cases h
theorem q_allBlank (hx : X.N[i]? = some x) (h : PE X e (tOf C (eAllX true (iSeq fi) (gN i) tTrue (eOp oEq (eVar i) (eTup (aCons (eC (.bool false)) (aCons (eC (.int 0)) aNil)))) [i]))) : PE X e (tOf C (eAllBlank fi)) :=
  q_alt hx h fun ρ M r hρ er => by
    obtain ⟨⟨w, M1⟩, e1, er⟩ := bsome er
    obtain ⟨ws, e2, er⟩ := bsome er
    obtain ⟨bs, e3, er⟩ := bsome er
    split at er
    case isFalse => cases er
    rename_i small
    cases er
    obtain ⟨deps, e4, dp⟩ := iSeq_of e1 e2
    have hρ' : i < (wipeW ρ [i]).length := by simpa [wipeW] using hρ
    show (iSeq fi ρ M).bind _ = _
    rw [e4]
    simp only [Option.bind_some]
    rw [ga_blank hρ' dp sizeLine e3 small]
    rfl
end
end Va

set_option Elab.async false
set_option linter.all false
set_option maxRecDepth 100000
set_option maxHeartbeats 1600000
/-! Nr1: data that can be compared though they are of unlike forms: what is ahead differs first -/
namespace Sa
open PySem PySem.Spec PyProof.Rows L2 PySem.W PySem.SeqAt
mutual
/-- x < y can be asked: down to the first place where they differ they are alike -/
def near : PyData → PyData → Bool
  | .tuple xs, .tuple ys => nearAll xs ys
  | x, y => alike x y
def nearAll : List PyData → List PyData → Bool
  | x :: xs, y :: ys => if PyData.eqv x y = true then nearAll xs ys else near x y
  | _, _ => true
end
/-- the first pair that differs decides -/
def Lex (A : Around) (s : Shared) (fin k : Bool) : List (Value × Value) → Prop
  | [] => k = fin
  | p :: r => ∃ e, EqAt A s p.1 p.2 e ∧ (e = true → Lex A s fin k r) ∧ (e = false → RcLt A s p.1 p.2 k)
theorem lt_tuples {A : Around} {s : Shared} {l b : Addr} {us vs : Array Value} {k : Bool} (h1 : s.heap.IsTuple l us) (h2 : s.heap.IsTuple b vs) (hu : A.units < cLine) (h : Lex A.in1 s (decide (us.size < vs.size)) k (us.toList.zip vs.toList)) : RcLt A s (.ref l) (.ref b) k := by
  intro prog w E Q q
  have meets : Meets (Builtin.«tuple.__lt__» ⟨[.ref l, .ref b], []⟩) fun A R s => s.heap.IsTuple l us ∧ s.heap.IsTuple b vs ∧ Lex A.in1 s (decide (us.size < vs.size)) k (us.toList.zip vs.toList) ∧ R (.ok (.ret (.bool k))) s :=
    .of_wp fun prog w A R s ⟨t1, t2, lex, r⟩ => by
      refine wpAny_bind (m := slotArgs "__lt__" 1 _) (wpAny_pure ?_)
      refine wpAny_bind (wpAny_isInstance t2.typeIs AutoSeq1.sub_tuple_tuple ?_)
      rw [if_neg (by decide)]
      refine wpAny_bind (m := Builtin.Tuple.tupleItemsOf _) (tupleItemsOf_ (t := l) t1 (wpAny_bind (m := Builtin.Tuple.tupleItemsOf _) (tupleItemsOf_ (t := b) t2 ?_)))
      refine wpAny_bind (wpAny_forIn_list _ (fun rest acc s' => acc = (none, ()) ∧ s' = s ∧ Lex A.in1 s (decide (us.size < vs.size)) k rest) _ ?_ ?_ _ _ ⟨rfl, rfl, lex⟩)
      · rintro p rest acc s' ⟨rfl, rfl, e, eq, yes, no⟩
        refine wpAny_bind (eq _ _ _ _ ?_)
        cases e with
        | true => exact wpAny_pure ⟨rfl, rfl, yes rfl⟩
        | false => exact wpAny_bind (wpAny_rule (wpAny_bind (no rfl _ _ _ _ (wpAny_bind (wpAny_pure (wpAny_pure (wpAny_pure ⟨_, rfl, r⟩)))))))
      · rintro acc s' ⟨rfl, rfl, e⟩
        cases e
        refine wpAny_pure ⟨_, rfl, ?_⟩
        exact r
  exact richCompare_meets_room (op := .Lt) h1.typeIs h2.typeIs F.slot_tuple_lt F.entry_tuple_lt (F.args_tuple_lt_2 _ _) meets ⟨h1, h2, h, fun z => (nomatch z), q⟩ hu
/-! signs of such data -/
mutual
theorem toks_same : ∀ (x y : PyData), flat x = true → flat y = true → PyData.eqv x y = true → keyToks x = keyToks y
  | .tuple xs, y, fx, fy, e => by
    cases y with
    | tuple ys =>
      rw [keyToks, keyToks]
      exact toksAll_same xs ys fx fy (by rw [PyData.eqv] at e; exact e)
    | _ => simp [PyData.eqv] at e
  | .none, y, fx, fy, e => by cases y <;> simp_all [PyData.eqv, keyToks]
  | .bool p, y, fx, fy, e => by cases y <;> simp_all [PyData.eqv, keyToks]
  | .int p, y, fx, fy, e => by cases y <;> simp_all [PyData.eqv, keyToks]
  | .str p, y, fx, fy, e => by cases y <;> simp_all [PyData.eqv, keyToks]
  | .list _, _, fx, _, _ => by cases fx
  | .dict _, _, fx, _, _ => by cases fx
theorem toksAll_same : ∀ (xs ys : List PyData), flats xs = true → flats ys = true → PyData.eqvAll xs ys = true → keyToksAll xs = keyToksAll ys
  | [], [], _, _, _ => rfl
  | [], _ :: _, _, _, e => by simp [PyData.eqvAll] at e
  | _ :: _, [], _, _, e => by simp [PyData.eqvAll] at e
  | x :: xs, y :: ys, fx, fy, e => by
    rw [eqv_all_cons, Bool.and_eq_true] at e
    simp only [flats, Bool.and_eq_true] at fx fy
    rw [toks_all_cons, toks_all_cons, toks_same x y fx.1 fy.1 e.1, toksAll_same xs ys fx.2 fy.2 e.2]
end
end Sa

set_option Elab.async false
set_option linter.all false
set_option maxRecDepth 100000
set_option maxHeartbeats 1600000
/-! Nr2: such data compared, sorted -/
namespace Sa
open PySem PySem.Spec PyProof.Rows L2 PySem.W PySem.SeqAt
abbrev lx (p q : List (Int ⊕ List Nat)) : Bool := PyProof.Rows.lexLt itemOrd p q
/-- two atoms that differ -/
theorem atom_off {p q : Int ⊕ List Nat} (ne : p ≠ q) (l m : List (Int ⊕ List Nat)) : lx ([p] ++ l) ([q] ++ m) = lx [p] [q] := lex_atom ne l m
mutual
theorem toks_off : ∀ (x y : PyData), near x y = true → flat x = true → flat y = true → PyData.eqv x y = false → ∀ l m, lx (keyToks x ++ l) (keyToks y ++ m) = lx (keyToks x) (keyToks y)
  | .tuple xs, y, n, fx, fy, e => by
    cases y with
    | tuple ys =>
      intro l m
      rw [keyToks, keyToks]
      exact toksAll_off xs ys (by rw [near] at n; exact n) fx fy (by rw [PyData.eqv] at e; exact e) l m
    | _ => simp [near, alike] at n
  | .none, y, n, fx, fy, e => by cases y <;> simp_all [near, alike, PyData.eqv]
  | .bool p, y, n, fx, fy, e => by
    cases y with
    | bool q =>
      intro l m
      rw [keyToks, keyToks]
      exact atom_off (fun z => by cases p <;> cases q <;> simp_all [PyData.eqv]) l m
    | _ => simp [near, alike] at n
  | .int p, y, n, fx, fy, e => by
    cases y with
    | int q =>
      intro l m
      rw [keyToks, keyToks]
      exact atom_off (fun z => by cases z; simp [PyData.eqv] at e) l m
    | _ => simp [near, alike] at n
  | .str p, y, n, fx, fy, e => by
    cases y with
    | str q =>
      intro l m
      rw [keyToks, keyToks]
      exact atom_off (fun z => by cases str_of_cps (Sum.inr.inj z); simp [PyData.eqv] at e) l m
    | _ => simp [near, alike] at n
  | .list _, _, _, fx, _, _ => by cases fx
  | .dict _, _, _, fx, _, _ => by cases fx
theorem toksAll_off : ∀ (xs ys : List PyData), nearAll xs ys = true → flats xs = true → flats ys = true → PyData.eqvAll xs ys = false → ∀ l m, lx (keyToksAll xs ++ l) (keyToksAll ys ++ m) = lx (keyToksAll xs) (keyToksAll ys)
  | [], [], _, _, _, e => by simp [PyData.eqvAll] at e
  | [], y :: ys, _, _, _, _ => by
    intro l m
    rw [toks_all_cons]
    exact lex_atom (by simp) l _ |>.trans (lex_atom (by simp) [] _).symm
  | x :: xs, [], _, _, _, _ => by
    intro l m
    rw [toks_all_cons]
    exact lex_atom (by simp) _ m |>.trans (lex_atom (by simp) _ []).symm
  | x :: xs, y :: ys, n, fx, fy, e => by
    intro l m
    simp only [flats, Bool.and_eq_true] at fx fy
    rw [toks_all_cons, toks_all_cons]
    simp only [List.cons_append, List.append_assoc, lx]
    rw [lex_self (O := itemOrd), lex_self (O := itemOrd)]
    rw [nearAll] at n
    by_cases eq : PyData.eqv x y = true
    · rw [if_pos eq] at n
      rw [eqv_all_cons, eq, Bool.true_and] at e
      rw [toks_same x y fx.1 fy.1 eq, lex_pre, lex_pre]
      exact toksAll_off xs ys n fx.2 fy.2 e l m
    · rw [if_neg eq] at n
      have off := toks_off x y n fx.1 fy.1 (by simpa using eq)
      exact (off _ _).trans (off _ _).symm
end
/-- how two rows of data stand: by the first place that differs -/
theorem toksAll_lt {x y : PyData} {xs ys : List PyData} (n : nearAll (x :: xs) (y :: ys) = true) (fx : flats (x :: xs) = true) (fy : flats (y :: ys) = true) :
    lx (keyToksAll (x :: xs)) (keyToksAll (y :: ys)) = if PyData.eqv x y = true then lx (keyToksAll xs) (keyToksAll ys) else dataLt x y := by
  simp only [flats, Bool.and_eq_true] at fx fy
  rw [toks_all_cons, toks_all_cons]
  unfold lx
  rw [lex_self (O := itemOrd)]
  split
  · rename_i eq
    rw [toks_same x y fx.1 fy.1 eq, lex_pre]
  · rename_i eq
    rw [nearAll, if_neg eq] at n
    exact toks_off x y n fx.1 fy.1 (by simpa using eq) _ _
mutual
theorem flat_plain : ∀ d : PyData, flat d = true → d.plain = true
  | .tuple ds, f => by rw [PyData.plain]; exact flats_plain ds f
  | .none, _ => rfl
  | .bool _, _ => rfl
  | .int _, _ => rfl
  | .str _, _ => rfl
  | .list _, f => by cases f
  | .dict _, f => by cases f
theorem flats_plain : ∀ ds : List PyData, flats ds = true → PyData.plainAll ds = true
  | [], _ => rfl
  | d :: ds, f => by
    simp only [flats, Bool.and_eq_true] at f
    rw [PyData.plainAll, flat_plain d f.1, flats_plain ds f.2]
    rfl
end
mutual
/-- x < y, asked -/
theorem rcLt_near : ∀ (x y : PyData) (A : Around) (s : Shared) (a b : Value) (as bs : List Addr), Reads s.heap a x as → Reads s.heap b y bs → flat x = true → flat y = true → near x y = true → x ≠ .none → A.units + min x.depth y.depth < cLine → RcLt A s a b (dataLt x y)
  | .tuple xs, y, A, s, a, b, as, bs, ra, rb, fx, fy, n, _, hu => by
    cases y with
    | tuple ys =>
      cases ra with
      | @tuple l o vs k1 _ as' ho hc hd ra' =>
        cases rb with
        | @tuple l2 o2 vs2 k2 _ bs' ho2 hc2 hd2 rb' =>
          rw [dataLt_tuple]
          rw [near] at n
          have dep : A.in1.units + min (PyData.depthAll xs) (PyData.depthAll ys) < cLine := by
            simp only [PyData.depth] at hu
            show A.units + 1 + _ < _
            omega
          refine lt_tuples ⟨o, ho, hc, _, hd⟩ ⟨o2, ho2, hc2, _, hd2⟩ (by omega) ?_
          have l1 : vs.size = xs.length := by simpa using ReadsAll.length _ _ _ ra'
          have l2 : vs2.size = ys.length := by simpa using ReadsAll.length _ _ _ rb'
          rw [l1, l2]
          exact lex_near xs ys A.in1 s vs.toList vs2.toList _ _ ra' rb' fx fy n dep
    | _ => simp [near, alike] at n
  | .none, _, _, _, _, _, _, _, _, _, _, _, _, z, _ => absurd rfl z
  | .bool p, y, A, s, a, b, as, bs, ra, rb, fx, fy, n, z, hu => rcLt_alike _ _ A s a b as bs ra rb (by cases y <;> simp_all [near]) z hu
  | .int p, y, A, s, a, b, as, bs, ra, rb, fx, fy, n, z, hu => rcLt_alike _ _ A s a b as bs ra rb (by cases y <;> simp_all [near]) z hu
  | .str p, y, A, s, a, b, as, bs, ra, rb, fx, fy, n, z, hu => rcLt_alike _ _ A s a b as bs ra rb (by cases y <;> simp_all [near]) z hu
  | .list _, _, _, _, _, _, _, _, _, _, fx, _, _, _, _ => by cases fx
  | .dict _, _, _, _, _, _, _, _, _, _, fx, _, _, _, _ => by cases fx
theorem lex_near : ∀ (xs ys : List PyData) (A : Around) (s : Shared) (vs ws : List Value) (as bs : List Addr), ReadsAll s.heap vs xs as → ReadsAll s.heap ws ys bs → flats xs = true → flats ys = true → nearAll xs ys = true → A.units + min (PyData.depthAll xs) (PyData.depthAll ys) < cLine →
    Lex A s (decide (xs.length < ys.length)) (lx (keyToksAll xs) (keyToksAll ys)) (vs.zip ws)
  | [], [], A, s, _, _, _, _, ra, rb, _, _, _, _ => by
    cases ra
    exact lex_irrefl (O := itemOrd) _
  | [], y :: ys, A, s, _, _, _, _, ra, rb, _, _, _, _ => by
    cases ra
    rw [toks_all_cons]
    exact (lex_atom (by simp) [] _).trans rfl
  | x :: xs, [], A, s, _, _, _, _, ra, rb, _, _, _, _ => by
    cases ra
    cases rb
    rw [toks_all_cons]
    exact (lex_atom (by simp) _ []).trans rfl
  | x :: xs, y :: ys, A, s, _, _, _, _, ra, rb, fx, fy, n, hu => by
    cases ra with
    | @cons v d as' vs ds as'' r1 r2 =>
      cases rb with
      | @cons v2 d2 bs' vs2 ds2 bs'' q1 q2 =>
        have lt := toksAll_lt n fx fy
        simp only [flats, Bool.and_eq_true] at fx fy
        rw [nearAll] at n
        simp only [PyData.depthAll] at hu
        refine ⟨PyData.eqv x y, eqAt_plain x y A s _ _ _ _ r1 q1 (flat_plain x fx.1) (flat_plain y fy.1) (by omega), fun e => ?_, fun e => ?_⟩
        · rw [if_pos e] at n lt
          rw [lt]
          have := lex_near xs ys A s _ _ _ _ r2 q2 fx.2 fy.2 n (by omega)
          have e2 : decide ((x :: xs).length < (y :: ys).length) = decide (xs.length < ys.length) := by simp
          rw [e2]
          exact this
        · rw [if_neg (by simp [e])] at n lt
          rw [lt]
          refine rcLt_near x y A s _ _ _ _ r1 q1 fx.1 fy.1 n (fun z => ?_) (by omega)
          subst z
          cases y <;> simp_all [near, alike, PyData.eqv]
end
end Sa

set_option Elab.async false
set_option linter.all false
set_option maxRecDepth 100000
set_option maxHeartbeats 1600000
/-! Nr3: lists of such tuples sorted -/
namespace Sa
open PySem PySem.Spec PyProof.Rows L2 PySem.W PySem.SeqAt
mutual
/-- a value reads as one datum -/
theorem reads_one {h : Heap} : ∀ (x y : PyData) (v : Value) (as bs : List Addr), flat x = true → flat y = true → Reads h v x as → Reads h v y bs → x = y
  | .tuple xs, y, v, as, bs, fx, fy, a, b => by
    cases a with
    | @tuple l o vs k _ _ ho hc hd ra =>
      cases b with
      | @tuple _ o2 vs2 k2 _ _ ho2 hc2 hd2 rb =>
        rw [ho] at ho2
        cases ho2
        rw [hd] at hd2
        cases hd2
        rw [readsAll_one xs _ _ _ _ fx fy ra rb]
      | list => cases fy
      | dict => cases fy
  | .none, y, v, as, bs, fx, fy, a, b => by cases a; cases b; rfl
  | .bool _, y, v, as, bs, fx, fy, a, b => by cases a; cases b; rfl
  | .int _, y, v, as, bs, fx, fy, a, b => by cases a; cases b; rfl
  | .str _, y, v, as, bs, fx, fy, a, b => by cases a; cases b; rfl
  | .list _, _, _, _, _, fx, _, _, _ => by cases fx
  | .dict _, _, _, _, _, fx, _, _, _ => by cases fx
theorem readsAll_one {h : Heap} : ∀ (xs ys : List PyData) (vs : List Value) (as bs : List Addr), flats xs = true → flats ys = true → ReadsAll h vs xs as → ReadsAll h vs ys bs → xs = ys
  | [], _, _, _, _, _, _, a, b => by cases a; cases b; rfl
  | x :: xs, ys, _, _, _, fx, fy, a, b => by
    cases a with
    | cons a1 a2 =>
      cases b with
      | cons b1 b2 =>
        simp only [flats, Bool.and_eq_true] at fx fy
        rw [reads_one x _ _ _ _ fx.1 fy.1 a1 b1, readsAll_one xs _ _ _ _ fx.2 fy.2 a2 b2]
end
/-- what a list must be to be sorted: tuples of flat data, near one another, the first items of one type -/
structure Rows (ds : List PyData) : Prop where
  fl : ∀ d ∈ ds, flat d = true
  nr : ∀ d ∈ ds, ∀ d' ∈ ds, near d d' = true
  tup : ∀ d ∈ ds, ∃ x r, d = .tuple (x :: r)
  one : ∃ T, (T == T) = true ∧ ∀ x r, PyData.tuple (x :: r) ∈ ds → dataType x = T
open Classical in
theorem Rows.key {h : Heap} {ds : List PyData} (R : Rows ds) {v : Value} {d : PyData} {as : List Addr} (hd : d ∈ ds) (r : Reads h v d as) : (dataKind h ds).keyOf v = some (keyToks d) := by
  have q : ∃ d, d ∈ ds ∧ ∃ as, Reads h v d as := ⟨d, hd, as, r⟩
  show (if q : ∃ d, d ∈ ds ∧ ∃ as, Reads h v d as then some (keyToks q.choose) else none) = _
  rw [dif_pos q]
  obtain ⟨m, bs, r2⟩ := q.choose_spec
  rw [reads_one _ _ v _ _ (R.fl _ m) (R.fl _ hd) r2 r]
theorem near_atom {x y : PyData} (no : ∀ t, x ≠ .tuple t) (n : near x y = true) : alike x y = true := by
  unfold near at n
  split at n
  · exact absurd rfl (no _)
  · exact n
section
variable {prog : Program} {w : World} {A : Around} {s : Shared}
/-- the first pair that differs decides, as list.sort asks it -/
theorem kat_near {b fin : Bool} {Q : Bool → Shared → Prop} : ∀ (xs ys : List PyData) (i : Nat) (vs ws : List Value) (as bs : List Addr), ReadsAll s.heap vs xs as → ReadsAll s.heap ws ys bs → flats xs = true → flats ys = true → nearAll xs ys = true → A.units + min (PyData.depthAll xs) (PyData.depthAll ys) < cLine →
    (b = true → i = 0 → ∀ x r y q, xs = x :: r → ys = y :: q → (∀ t, x ≠ .tuple t)) → fin = decide (xs.length < ys.length) → Q (lx (keyToksAll xs) (keyToksAll ys)) s → KatLex prog w A b fin Q (vs.zip ws) i s
  | [], [], i, _, _, _, _, ra, rb, _, _, _, _, _, hf, q => by
    cases ra
    subst hf
    have e : lx (keyToksAll []) (keyToksAll []) = false := lex_irrefl (O := itemOrd) _
    rw [e] at q
    exact q
  | [], y :: ys, i, _, _, _, _, ra, rb, _, _, _, _, _, hf, q => by
    cases ra
    subst hf
    have e : lx (keyToksAll []) (keyToksAll (y :: ys)) = true := by rw [toks_all_cons]; exact (lex_atom (by simp) [] _).trans rfl
    rw [e] at q
    exact q
  | x :: xs, [], i, _, _, _, _, ra, rb, _, _, _, _, _, hf, q => by
    cases ra
    cases rb
    subst hf
    have e : lx (keyToksAll (x :: xs)) (keyToksAll []) = false := by rw [toks_all_cons]; exact (lex_atom (by simp) _ []).trans rfl
    rw [e] at q
    exact q
  | x :: xs, y :: ys, i, _, _, _, _, ra, rb, fx, fy, n, hu, first, hf, q => by
    cases ra with
    | @cons v d as' vs ds as'' r1 r2 =>
      cases rb with
      | @cons v2 d2 bs' vs2 ds2 bs'' q1 q2 =>
        rw [toksAll_lt n fx fy] at q
        simp only [flats, Bool.and_eq_true] at fx fy
        rw [nearAll] at n
        simp only [PyData.depthAll] at hu
        refine kat_cons (eqAt_plain x y A s _ _ _ _ r1 q1 (flat_plain x fx.1) (flat_plain y fy.1) (by omega) prog w _ _ (kat_go (fun e => ?_) fun e => ?_))
        · rw [if_pos e] at n q
          refine kat_yes (kat_near xs ys (i + 1) _ _ _ _ r2 q2 fx.2 fy.2 n (by omega) (fun _ z => by omega) ?_ q)
          rw [hf]
          simp
        · rw [if_neg (by simp [e])] at n q
          have nn : x ≠ .none := fun z => by
            subst z
            cases y <;> simp_all [near, alike, PyData.eqv]
          refine kat_no ?_
          by_cases f : (b && i == 0) = true
          · rw [f]
            simp only [Bool.and_eq_true, beq_iff_eq] at f
            have no := first f.1 f.2 x xs y ys rfl rfl
            exact oneLt_alike (fun _ => no) r1 q1 (near_atom no n) nn (by omega) q
          · rw [show (b && i == 0) = false by simpa using f]
            exact kat_one _ _ (rcLt_near x y A s _ _ _ _ r1 q1 fx.1 fy.1 n nn (by omega) prog w _ (PySem.W.BoolBack Q) q)
theorem Rows.sorts {vs : List Value} {ds : List PyData} (R : Rows ds) (e : EachIs (fun v d => ∃ as, Reads s.heap v d as) vs ds) (hu : ∀ d ∈ ds, A.units + d.depth < cLine) : SortsAt prog w A s (dataKind s.heap ds) vs := by
  obtain ⟨T, TT, one⟩ := R.one
  refine ⟨fun v hv => ?_, tuples' (T != Value.type "tuple"), fun E x y a b Q ex ey q => ?_, fun two E Q q => ?_⟩
  · obtain ⟨d, hd, as, r⟩ := e.left v hv
    exact ⟨_, R.key hd r⟩
  · obtain ⟨d, as, hd, r, rfl⟩ := dataKind_inv ex
    obtain ⟨d', bs, hd', r', rfl⟩ := dataKind_inv ey
    obtain ⟨x0, xr, rfl⟩ := R.tup d hd
    obtain ⟨y0, yr, rfl⟩ := R.tup d' hd'
    cases r with
    | @tuple l o us k _ _ ho hc hd1 ra =>
      cases r' with
      | @tuple l2 o2 us2 k2 _ _ ho2 hc2 hd2 rb =>
        have n := R.nr _ hd _ hd'
        rw [near] at n
        have dep := hu _ hd
        simp only [PyData.depth] at dep
        refine kat_lt ho hd1 ho2 hd2 (kat_near _ _ 0 _ _ _ _ ra rb (R.fl _ hd) (R.fl _ hd') n (by omega) (fun tt _ x r y q' e1 e2 t z => ?_) ?_ ?_)
        · cases e1
          subst z
          rw [← one _ _ hd] at tt
          simp [dataType] at tt
        · have l1 := ReadsAll.length _ _ _ ra
          have l2 := ReadsAll.length _ _ _ rb
          rw [Array.length_toList] at l1 l2
          rw [l1, l2]
        · have : lx (keyToksAll (x0 :: xr)) (keyToksAll (y0 :: yr)) = (dataKind s.heap ds).blt (keyToks (.tuple (x0 :: xr))) (keyToks (.tuple (y0 :: yr))) := by
            rw [keyToks, keyToks]
            rfl
          rw [this]
          exact q
  · obtain ⟨fs, kt, len, each⟩ := each_katTups e R.tup
    refine kat_kind kt (by omega) (fun f hf => ?_) TT q
    obtain ⟨x, r, as, m, rd⟩ := each f hf
    have := looks_reads (M := model prog w) rd
    rwa [one x r m] at this
/-- list.sort of such a list -/
theorem Rows.list_sort {β : Type} {R : Value → β → Prop} {enc : β → PyData} {bs : List β} {vs : List Value} {a : Addr} {n : Nat} {Q : Value → Shared → Prop} {E : Value → Shared → Prop} (rows : Rows (bs.map enc)) (ho : s.heap.get? a = some (seqObj "list" vs.toArray n)) (e : EachIs R vs bs)
    (er : EachIs (fun v b => ∃ as, Reads (sortingHeap s.heap a vs) v (enc b) as) vs bs) (hL : bs.length ≤ sizeLine) (hu : ∀ b ∈ bs, A.units + 1 + (enc b).depth < cLine)
    (h : ∀ out, out.length = bs.length → EachIs R out (bs.mergeSort (dataLe false enc)) → Q .none { s with heap := sortedHeap s.heap a vs (List.toArray out) }) :
    wpAny (model prog w) A (call (.builtin "list.sort") [.ref a]) Q E s := by
  have em := each_map (R := fun v d => ∃ as, Reads (sortingHeap s.heap a vs) v d as) enc er
  have keys : EachIs (fun v b => (dataKind (sortingHeap s.heap a vs) (bs.map enc)).keyOf v = some (keyToks (enc b))) vs bs := each_of_map enc ((each_mem em).mono fun _ _ ⟨⟨_, r⟩, hd⟩ => rows.key hd r)
  have sorts : SortsAt prog w A.in1 { s with heap := sortingHeap s.heap a vs } (dataKind (sortingHeap s.heap a vs) (bs.map enc)) vs := rows.sorts (s := { s with heap := sortingHeap s.heap a vs }) em fun d hd => by
    obtain ⟨b, hb, rfl⟩ := List.mem_map.mp hd
    exact hu b hb
  refine wpAny_call_entry slot_list_sort ⟨_, ho, rfl⟩ entry_list_sort (list_sort_vals ho sorts (by rw [e.length]; exact hL) ⟨.none, rfl, ?_⟩) (args_list_sort _)
  exact h _ (by rw [sortVals_length false rfl]; exact e.length) (sortVals_each (κ := dataKind (sortingHeap s.heap a vs) (bs.map enc)) (fun b => keyToks (enc b)) e keys)
end
end Sa

set_option Elab.async false
set_option linter.all false
set_option maxRecDepth 100000
set_option maxHeartbeats 1600000
/-! Kd2: items() of a dict keyed by nested tuples, and sorted of it -/
namespace Sa
open PySem PySem.Spec PyProof.Rows L2 PySem.W DT L2.DX
/-- the datum of an entry -/
abbrev itD (e : PyData × PyData) : PyData := .tuple [e.1, e.2]
/-- an entry, its key and its value as data -/
abbrev KItem := KEnt × PyData × PyData
/-- what is known of an entry -/
structure ItemOk (K : PySem.W.Frag) (H : Hp) (z : KItem) : Prop where
  key : Dp K H (.ref z.1.1) z.2.1
  val : Dp K H z.1.2.2 z.2.2
  fl : flat z.2.1 = true
  nk : nk z.2.1 = z.1.2.1
/-- sorting by a datum of the things, or the data themselves -/
theorem mergeSort_map {β : Type} (f : β → PyData) (l : List β) : (l.map f).mergeSort (dataLe false id) = (l.mergeSort (dataLe false f)).map f := by
  have := List.map_mergeSort (r := dataLe false f) (s := dataLe false id) (f := f) (l := l) fun _ _ _ _ => rfl
  exact this.symm
section
variable {X : Cx} {pins : List (Addr × Obj)} {σ : L2.St} {H : Hp} {s : Shared}
theorem kd_raw {a : Addr} {L : List KEnt} (I : Inv X pins σ H s) (e : KdAt X.w H a L) :
    (a == sysModules) = false ∧ L.length ≤ sizeLine ∧ ∃ es ep, DT.Raw s.heap a es ep ∧ es.size = L.length ∧ ∀ (j : Nat) (p : KEnt), L[j]? = some p → ∃ u h, es[j]? = some (⟨h, .ref p.1, u⟩ : DictEntry) ∧ RelV p.2.2 u := by
  obtain ⟨no, small, xs, pr, ⟨o, es, ep, at', ex, dt, each⟩, _⟩ := kd_at I e
  refine ⟨no, small, es, ep, ⟨o, at', ex, dt⟩, ?_, fun j p ej => ?_⟩
  · have := congrArg List.length each
    rw [Array.length_toList, List.length_map, ← Paired.length pr] at this
    exact this
  · have find : ∀ {L : List KEnt} {xs : List (NestedKey × Addr × Value)}, Paired kdRel L xs → ∀ j : Nat, L[j]? = some p → ∃ q, xs[j]? = some q ∧ kdRel p q := by
      intro L xs pr
      induction pr with
      | nil => intro j h; simp at h
      | @cons p' q L xs r _ ih =>
        intro j h
        cases j with
        | zero =>
          cases (show some p' = some p from h)
          exact ⟨q, rfl, r⟩
        | succ j => exact ih j (by simpa using h)
    obtain ⟨q, eq, k1, k2, rv⟩ := find pr j ej
    refine ⟨q.2.2, q.1.hash X.w, ?_, rv⟩
    rw [← Array.getElem?_toList, each, List.getElem?_map, eq, ← k2]
    rfl
/-- d.items() -/
def rKdItems (w : World) : V → List V → Hp → VK → Prop := fun x xs H Q => ∃ a L, x = .ref a ∧ xs = [] ∧ KdAt w H a L ∧ ∀ p, H p = none → Q (.ref p) (upd H p (itemsO p a))
theorem mt_kdItems : MtR X "dict.items" (rKdItems X.w) := by
  intro pins s σ H x xs v us Q I rx rxs ⟨a, L, ex, exs, ha, q⟩
  subst ex exs
  cases rx
  cases rxs
  obtain ⟨no, _, es, ep, raw, _⟩ := kd_raw I ha
  exact DT.callItems no raw ⟨.ref _, _, I.laid (t' := s.toks) (fun _ _ => Heap.get?_push_of_some _) (Nat.le_refl _) (itemsO_ok (Heap.get?_push_size _ rfl)), rfl, q _ (I.hok.fresh (Nat.le_refl _))⟩
/-- sorted(d.items()) -/
def rKdSort (K : PySem.W.Frag) (w : World) : List V → Hp → VK → Prop := fun vs H Q => ∃ (p a : Addr) (Z : List KItem), vs = [.ref p] ∧ H p = some (itemsO p a) ∧ KdAt w H a (Z.map (·.1)) ∧ (∀ z ∈ Z, ItemOk K H z) ∧ Rows (Z.map fun z => itD z.2) ∧ (∀ z ∈ Z, (itD z.2).depth ≤ 60) ∧
  ∀ (H2 : Hp) (l : Addr) (ts : List (Addr × KItem)), (∀ b o, H b = some o → H2 b = some o) → (ts.map (·.2)).Perm Z → ts.map (fun t => itD t.2.2) = (Z.map fun z => itD z.2).mergeSort (dataLe false id) → (∀ t ∈ ts, H2 t.1 = some (.tup [.ref t.2.1.1, t.2.1.2.2])) → H2 l = none →
    Q (.ref l) (upd H2 l (.lst (ts.map fun t => V.ref t.1)))
theorem cr_kdSort (calm : X.calm = true) (hu : X.A.units + 128 < cLine) : CallR X (.builtin "sorted") (rKdSort X.K X.w) := by
  intro pins s σ H vs us Q I rel ⟨p, a, Z, ev, hp, ha, ok, rows, deep, q⟩
  subst ev
  rw [Vals.ref1 rel]
  obtain ⟨no, small, es, ep, raw, size, each⟩ := kd_raw I ha
  rw [List.length_map] at small size
  have view : s.heap.IsItemsView p a := (I.hok p _ hp).1
  refine DT.sortedI (I.ok.hd calm) view raw (by rw [size]; exact small) fun h' tk as kept grown len made => ?_
  -- the pairs that were made, in the dict's order
  have lenZ : as.length = Z.length := by rw [len, size]
  obtain ⟨bs, hb⟩ : ∃ bs, bs = as.zip Z := ⟨_, rfl⟩
  have b1 : bs.map (·.1) = as := by rw [hb, List.map_fst_zip (by omega)]
  have b2 : bs.map (·.2) = Z := by rw [hb, List.map_snd_zip (by omega)]
  have lenB : bs.length = Z.length := by rw [← b2, List.length_map]
  have refs : as.map Value.ref = bs.map fun b => Value.ref b.1 := by rw [← b1, List.map_map]; rfl
  have atB : ∀ b ∈ bs, b.2 ∈ Z ∧ s.heap.objs.size < b.1 ∧ ∃ u, h'.get? b.1 = some { cls := .type "tuple", data := .seq #[.ref b.2.1.1, u] } ∧ RelV b.2.1.2.2 u := fun b hbm => by
    obtain ⟨j, jl, ej⟩ := List.getElem_of_mem hbm
    have ej' : bs[j]? = some b := by rw [List.getElem?_eq_getElem jl, ej]
    have ea : as[j]? = some b.1 := by rw [← b1, List.getElem?_map, ej']; rfl
    have ez : Z[j]? = some b.2 := by rw [← b2, List.getElem?_map, ej']; rfl
    obtain ⟨u, hh, ee, ru⟩ := each j b.2.1 (by rw [List.getElem?_map, ez]; rfl)
    obtain ⟨e, e1, e2⟩ := made.pairs j b.1 ea
    rw [ee] at e1
    cases e1
    exact ⟨List.mem_of_getElem? ez, made.above b.1 (List.mem_of_getElem? ea), u, e2, ru⟩
  have lt1 : ∀ b ∈ bs, b.1 < h'.objs.size := fun b hbm => let ⟨_, _, u, e, _⟩ := atB b hbm; Heap.lt_size e
  have at1 : (h'.push (seqObj "list" (as.map Value.ref).toArray 0)).get? h'.objs.size = some (seqObj "list" (as.map Value.ref).toArray 0) := Heap.get?_push_size _ rfl
  -- the data read off the pairs, wherever all that stood ahead stands
  have reads : ∀ (hh : Heap), (∀ c o, h'.get? c = some o → hh.get? c = some o) → ∀ b ∈ bs, ∃ xs, Reads hh (.ref b.1) (itD b.2.2) xs := fun hh kh b hbm => by
    obtain ⟨mem, _, u, e, ru⟩ := atB b hbm
    obtain ⟨k1, v1, _, _⟩ := ok b.2 mem
    obtain ⟨a1, r1⟩ := Dp.reads I b.2.2.1 _ _ k1 (rfl : RelV (.ref b.2.1.1) (.ref b.2.1.1))
    obtain ⟨a2, r2⟩ := Dp.reads I b.2.2.2 _ _ v1 ru
    have up : ∀ c o, s.heap.get? c = some o → hh.get? c = some o := fun c o z => kh c o (kept c o z)
    exact ⟨_, .tuple (kh _ _ e) rfl rfl (.cons (PyProof.Rows.Reads.keeps up r1) (.cons (PyProof.Rows.Reads.keeps up r2) .nil))⟩
  have rowsB : Rows (bs.map fun b => itD b.2.2) := by
    have : (bs.map fun b => itD b.2.2) = Z.map fun z => itD z.2 := by rw [← b2, List.map_map]; rfl
    rw [this]
    exact rows
  refine rowsB.list_sort (A := X.A.in1) (s := { s with heap := h'.push (seqObj "list" (as.map Value.ref).toArray 0), toks := tk }) (R := fun v b => v = Value.ref b.1) at1 (by rw [refs]; exact each_refs bs fun _ _ => rfl)
    (by rw [refs]; exact each_refs bs fun b hbm => reads _ (fun c o e => sortingHeap_old (Nat.ne_of_lt (Heap.lt_size e)) (Heap.get?_push_of_some _ e)) b hbm) (by rw [lenB]; exact small)
    (fun b hbm => by have := deep b.2 (atB b hbm).1; show X.A.units + 1 + 1 + _ < _; omega) fun out _ each2 => ?_
  -- what came out: the pairs in their order
  have outs : out = (bs.mergeSort (dataLe false fun b => itD b.2.2)).map fun b => Value.ref b.1 := by
    have all : ∀ {xs : List Value} {ys : List (Addr × KItem)}, EachIs (fun v b => v = Value.ref b.1) xs ys → xs = ys.map fun b => Value.ref b.1 := by
      intro xs ys h
      induction h with
      | nil => rfl
      | cons e _ ih => rw [e, ih]; rfl
    exact all each2
  subst outs
  have pm : (bs.mergeSort (dataLe false fun b => itD b.2.2)).Perm bs := List.mergeSort_perm ..
  generalize ht : bs.mergeSort (dataLe false fun b => itD b.2.2) = ts at pm
  obtain ⟨c, at2⟩ := sortedHeap_at (out := (ts.map fun b => Value.ref b.1).toArray) at1
  generalize hh2 : sortedHeap (h'.push (seqObj "list" (as.map Value.ref).toArray 0)) h'.objs.size (as.map Value.ref) (ts.map fun b => Value.ref b.1).toArray = h2 at at2
  have up : ∀ b o, h'.get? b = some o → h2.get? b = some o := fun b o e => by
    have lt := Heap.lt_size e
    rw [← hh2, sortedHeap_old (Nat.ne_of_lt lt) (by rw [size_push']; exact Nat.lt_succ_of_lt lt)]
    exact Heap.get?_push_of_some _ e
  have fresh0 : s.heap.objs.size ≤ h'.objs.size := Nat.le_of_lt grown
  have freshL : H h'.objs.size = none := I.hok.fresh fresh0
  have smallT : ts.length ≤ sizeLine := by rw [pm.length_eq, lenB]; exact small
  have valsT : ∀ ts : List (Addr × KItem), Vals (ts.map fun t => V.ref t.1) (ts.map fun t => Value.ref t.1) := fun ts => by
    induction ts with
    | nil => exact .nil
    | cons t ts ih => exact .cons rfl ih
  have I0 : Inv X pins σ H { s with heap := h2, toks := tk } := I.kept fun b o e => up b o (kept b o e)
  have I1 : Inv X pins σ (upd H h'.objs.size (.lst (ts.map fun t => V.ref t.1))) { s with heap := h2, toks := tk } :=
    I0.take (h' := h2) (t' := tk) (fun b o _ e => e) (I.fpOk fresh0 freshL) ⟨by rw [List.length_map]; exact smallT, _, c, valsT ts, at2⟩
  have nodup : as.Nodup := made.rise.imp fun lt z => Nat.ne_of_lt lt z
  obtain ⟨H2, I2, ext, tups⟩ := takeT (P := fun a vs => ∃ b ∈ bs, b.1 = a ∧ vs = [.ref b.2.1.1, b.2.1.2.2]) I as _ I1 nodup fun a' ha' => by
    rw [← b1] at ha'
    obtain ⟨b, hbm, rfl⟩ := List.mem_map.mp ha'
    obtain ⟨_, above, u, e, ru⟩ := atB b hbm
    refine ⟨Nat.le_of_lt above, by rw [upd_ne (Nat.ne_of_lt (lt1 b hbm))]; exact I.hok.fresh (Nat.le_of_lt above), _, ⟨b, hbm, rfl, rfl⟩, fun H2 => ⟨(by decide : 2 ≤ sizeLine), [.ref b.2.1.1, u], .cons rfl (.cons ru .nil), _, up _ _ e, rfl, _, rfl⟩⟩
  have one : ∀ b ∈ bs, ∀ b' ∈ bs, b.1 = b'.1 → b = b' := fun b hbm b' hbm' e => by
    have nd : (bs.map (·.1)).Nodup := by rw [b1]; exact nodup
    have key : ∀ {l : List (Addr × KItem)}, (l.map (·.1)).Nodup → b ∈ l → b' ∈ l → b = b' := by
      intro l
      induction l with
      | nil => intro _ h; cases h
      | cons x l ih =>
        intro nd m1 m2
        rw [List.map_cons, List.nodup_cons] at nd
        rcases List.mem_cons.mp m1 with z1 | o1 <;> rcases List.mem_cons.mp m2 with z2 | o2
        · rw [z1, z2]
        · exact absurd (by rw [← z1, e]; exact List.mem_map.mpr ⟨b', o2, rfl⟩) nd.1
        · exact absurd (by rw [← z2, ← e]; exact List.mem_map.mpr ⟨b, o1, rfl⟩) nd.1
        · exact ih nd.2 o1 o2
    exact key nd hbm hbm'
  have tupT : ∀ t ∈ ts, H2 t.1 = some (.tup [.ref t.2.1.1, t.2.1.2.2]) := fun t ht => by
    have hbm := pm.mem_iff.mp ht
    obtain ⟨vs, ⟨b, hb2, e1, e2⟩, e3⟩ := tups t.1 (by rw [← b1]; exact List.mem_map.mpr ⟨t, hbm, rfl⟩)
    rw [one b hb2 t hbm e1] at e2
    rw [e3, e2]
  have neL : ∀ t ∈ ts, t.1 ≠ h'.objs.size := fun t ht => Nat.ne_of_lt (lt1 t (pm.mem_iff.mp ht))
  have atL : H2 h'.objs.size = some (.lst (ts.map fun t => V.ref t.1)) := ext _ _ upd_same
  -- the heap without the list
  have same : upd (fun b => if b = h'.objs.size then none else H2 b) h'.objs.size (.lst (ts.map fun t => V.ref t.1)) = H2 := by
    funext b
    by_cases z : b = h'.objs.size
    · rw [z, upd_same, atL]
    · rw [upd_ne z, if_neg z]
  have go := q (fun b => if b = h'.objs.size then none else H2 b) h'.objs.size ts (fun b o e => ?_) ?_ ?_ (fun t ht => by rw [if_neg (neL t ht)]; exact tupT t ht) (if_pos rfl)
  · rw [same] at go
    exact ⟨.ref _, H2, I2, rfl, go⟩
  · have z : b ≠ h'.objs.size := fun z => by rw [z, freshL] at e; cases e
    rw [if_neg z]
    exact ext b o (by rw [upd_ne z]; exact e)
  · have := pm.map (·.2)
    rwa [b2] at this
  · have e1 : (Z.map fun z => itD z.2) = bs.map fun b => itD b.2.2 := by rw [← b2, List.map_map]; rfl
    rw [e1, ← ht]
    exact (mergeSort_map (fun b : Addr × KItem => itD b.2.2) bs).symm
end
end Sa

set_option Elab.async false
set_option linter.all false
set_option maxRecDepth 100000
set_option maxHeartbeats 1000000
/-! Va14: repr of any data -/
namespace Va
open PySem PySem.Spec PyProof.Rows L2 Sa Gn
/-- it can be shown -/
def ShowOk (d : PyData) : Prop := match d with
  | .int i => i.natAbs.log2 < 1920
  | .bool _ => True
  | .none => True
  | .str _ => False
  | d => d.showable = true ∧ d.hasDict = false ∧ d.depth ≤ 60 ∧ d.shown.length ≤ sizeLine
def rRep (K : PySem.W.Frag) : List V → Hp → VK → Prop := fun xs H Q => ∃ (x : V) (d : PyData), xs = [x] ∧ Dp K H x d ∧ ShowOk d ∧ Q (.str d.shown) H
theorem call_rep {X : Cx} (hf : Free X.A) (hu : X.A.units + 64 < cLine) : CallR X (.builtin "repr") (rRep X.K) := by
  intro pins s σ H xs us Q I rel h
  obtain ⟨x, d, rfl, hd, ok, q⟩ := h
  obtain ⟨u, rfl, r1⟩ := rel.one
  cases d with
  | none =>
    cases hd
    cases (show u = .none from r1)
    exact PySem.P.repr_of_none ⟨.str _, H, I.tok _, ⟨_, rfl⟩, q⟩
  | bool b =>
    cases hd
    cases (show u = .bool b from r1)
    refine PySem.P.repr_of_bool ⟨.str _, H, I.tok _, ⟨_, rfl⟩, ?_⟩
    cases b <;> exact q
  | int i =>
    cases hd
    obtain ⟨t, rfl⟩ := r1
    exact PySem.P.repr_of_int ok ⟨.str _, H, I.tok _, ⟨_, rfl⟩, q⟩
  | str x => exact ok.elim
  | dict kvs => cases hd
  | tuple ds =>
    cases hd with
    | tup sq al =>
      exact call_shown hf hu pins s σ H _ _ Q I (.cons r1 .nil) ⟨_, _, rfl, .tup sq al, ok.1, ok.2.1, ok.2.2.1, ok.2.2.2, q⟩
  | list ds =>
    cases hd with
    | lst sq al =>
      exact call_shown hf hu pins s σ H _ _ Q I (.cons r1 .nil) ⟨_, _, rfl, .lst sq al, ok.1, ok.2.1, ok.2.2.1, ok.2.2.2, q⟩
open Classical in
noncomputable def fRep : Fn := fun as M => match as with
  | [w] => (deepD M 4 w).bind fun d => if ShowOk d then some (.d (.str d.shown), M) else none
  | _ => none
theorem vc_rep {C : Ck} : VC C (rRep C.K) fRep := by
  intro φ M H xs as w M' Q sim r e q
  unfold fRep at e
  split at e
  · rename_i w0
    obtain ⟨d, ed, e⟩ := bsome e
    split at e
    · rename_i ok
      cases e
      obtain ⟨x, rfl, r1⟩ := one_arg r
      exact ⟨x, d, rfl, deepD_rel sim 4 w0 x d r1 ed, ok, q _ φ H (.refl sim) (.d (.str _))⟩
    · cases e
  · cases e
end Va

set_option Elab.async false
set_option linter.all false
set_option maxRecDepth 100000
set_option maxHeartbeats 1000000
/-! Va15: + of ints, tuples, lists, texts -/
namespace Va
open PySem PySem.Spec PyProof.Rows L2 Sa Gn
def rAddG (K : PySem.W.Frag) : R2 := fun x y H Q => rI0 (fun i j => .int (i + j)) x y H Q ∨ rCatA K x y H Q ∨ rCat x y H Q
theorem op_addG {X : Cx} : OpR X (binaryOp .Add) (rAddG X.K) := op_add.or (op_catA.or op_cat)
/-- + : ints, tuples, lists -/
def oAddG : O2 := fun a b M => match a, b with
  | .d (.int i), .d (.int j) => some (.d (.int (i + j)), M)
  | .obj i, .obj j => oCat (.obj i) (.obj j) M
  | a, b => oCatT a b M
theorem vo_addG {C : Ck} : VO2 C (rAddG C.K) oAddG := by
  intro φ M H x y a b w M' Q sim rx ry e q
  unfold oAddG at e
  split at e
  · cases e
    obtain rfl := rx.isI
    obtain rfl := ry.isI
    exact .inl ⟨_, _, rfl, rfl, q _ φ H (.refl sim) (.d (.int _))⟩
  · exact .inr (.inr (vo_cat (C := C) φ M H x y _ _ w M' Q sim rx ry e q))
  · refine .inr (.inl ?_)
    obtain ⟨ws, e1, e⟩ := bsome e
    obtain ⟨us, e2, e⟩ := bsome e
    split at e
    · rename_i small
      cases e
      obtain ⟨a1, vs1, rfl, s1, r1⟩ := rx.un e1
      obtain ⟨a2, vs2, rfl, s2, r2⟩ := ry.un e2
      refine ⟨a1, a2, vs1, vs2, rfl, rfl, s1, s2, by rw [r1.length, r2.length]; exact small, fun z => ?_, fun _ z => ?_, fun _ _ p np => ?_⟩
      · subst z
        cases r1
        exact q _ φ H (.refl sim) (.tup s2 r2)
      · subst z
        cases r2
        rw [List.append_nil] at q
        exact q _ φ H (.refl sim) (.tup s1 r1)
      · have s3 := Step.tup (o := .tup (vs1 ++ vs2)) sim np
        exact q _ φ _ s3 (.tup (SqT.of upd_same) ((r1.step s3).append (r2.step s3)))
    · cases e
end Va

set_option Elab.async false
set_option linter.all false
set_option maxRecDepth 100000
set_option maxHeartbeats 1000000
/-! Va16: is not None, by value -/
namespace Va
open PySem PySem.Spec PyProof.Rows L2 Sa
def oNotN : O2 := fun a b M => match a, b with
  | .d .none, .d .none => some (.d (.bool false), M)
  | _, .d .none => some (.d (.bool true), M)
  | _, _ => none
theorem vo_notN {C : Ck} : VO2 C (fun x y H Q => y = .non ∧ Q (.bl (!decide (x = .non))) H) oNotN := by
  intro φ M H x y a b w M' Q sim rx ry e q
  have hb : b = .d .none := by
    unfold oNotN at e
    split at e <;> first | rfl | cases e
  subst hb
  refine ⟨ry.isN, ?_⟩
  cases rx with
  | d rx => cases rx <;> (simp only [oNotN, Option.some.injEq] at e; cases e; exact q _ φ H (.refl sim) (.d (.bl _)))
  | obj h => simp only [oNotN, Option.some.injEq] at e; cases e; exact q _ φ H (.refl sim) (.d (.bl _))
  | scr => simp only [oNotN, Option.some.injEq] at e; cases e; exact q _ φ H (.refl sim) (.d (.bl _))
  | pack s r => simp only [oNotN, Option.some.injEq] at e; cases e; exact q _ φ H (.refl sim) (.d (.bl _))
end Va

set_option Elab.async false
set_option linter.all false
set_option maxRecDepth 100000
set_option maxHeartbeats 1000000
/-! Va17: name += number, name -= number, by value -/
namespace Va
open PySem PySem.Spec PyProof.Rows L2 Sa
def augI (g : Int → Int → Int) : Option (Option W) → W → Option W
  | some (some (.d (.int m))), .d (.int n) => some (.d (.int (g m n)))
  | _, _ => none
def sAug (g : Int → Int → Int) (i : Nat) (a : EvE) : EvS := fun ρ M => (a ρ M).bind fun p => (augI g ρ[i]? p.1).bind fun w => some (.nx (ρ.set i (some w)) p.2)
theorem augI_eq {g : Int → Int → Int} {o : Option (Option W)} {y w : W} (h : augI g o y = some w) : ∃ m n, o = some (some (.d (.int m))) ∧ y = .d (.int n) ∧ w = .d (.int (g m n)) := by
  unfold augI at h
  split at h
  · cases h; exact ⟨_, _, rfl, rfl, rfl⟩
  · cases h
section
variable {C : Ck} {X : Cx} {e : Expr} {fa : EvE} {pos : Pos}
theorem q_aug {g : Int → Int → Int} {i : Nat} {x : Str} {op : Operator} {pos' : Pos} (ho : PIp X op (ipI g)) (hN : X.N.Nodup) (hi : X.N[i]? = some x) (hx : Loc X.env.scope x) (he : PE X e (tOf C fa)) (hf : X.fn x = true ∨ X.env.scope.names.lookup x = some .local := by first | exact .inl rfl | exact .inr rfl | assumption) :
    PS X (.AugAssign (.Name x pos') op e pos) (tsOf C (sAug g i fa)) :=
  (ps_aug hN hi hx he ho hf).weak fun D σ H ⟨ρ, φ, M, o, env, sim, e, q⟩ => by
    obtain ⟨⟨y, M1⟩, e1, e⟩ := bsome e
    obtain ⟨w, e2, e⟩ := bsome e
    cases e
    obtain ⟨m, n, h1, rfl, rfl⟩ := augI_eq e2
    obtain ⟨v, h3, h4⟩ := env.2 i _ h1
    obtain rfl := h4.isI
    refine ⟨_, h3, ρ, φ, M, _, M1, env, sim, e1, fun v φ1 H1 s1 r1 => ?_⟩
    obtain rfl := r1.isI
    exact ⟨m, n, rfl, rfl, q _ φ1 H1 s1 ((env.step s1).set (.d (.int _)) i)⟩
end
end Va

set_option Elab.async false
set_option linter.all false
set_option maxRecDepth 100000
set_option maxHeartbeats 1000000
/-! Dc1: dicts by value: {}, d[k] = v, d[k], d.get(k, x), sorted(d.items()) -/
namespace Va
open PySem PySem.Spec PyProof.Rows L2 L2.DX Sa
/-- the dict of the memory -/
def dicAt (M : Mem) : W → Option (Nat × List (PyData × PyData))
  | .obj i => match M[i]? with
    | some (.dic es _) => some (i, es)
    | _ => none
  | _ => none
/-- how often it was touched -/
def stampAt (M : Mem) (i : Nat) : Nat := match M[i]? with
  | some (.dic _ n) => n
  | _ => 0
theorem dicAt_eq {M : Mem} {w : W} {i : Nat} {es : List (PyData × PyData)} (h : dicAt M w = some (i, es)) : w = .obj i ∧ M[i]? = some (.dic es (stampAt M i)) := by
  cases w with
  | obj j =>
    have h : (match M[j]? with | some (.dic es _) => some (j, es) | _ => none) = some (i, es) := h
    cases e : M[j]? with
    | none => rw [e] at h; cases h
    | some o =>
      cases o with
      | dic es' n =>
        rw [e] at h
        cases h
        exact ⟨rfl, by rw [e]; unfold stampAt; rw [e]⟩
      | _ => rw [e] at h; cases h
  | _ => cases h
/-- a key of a dict: a tuple of flat data -/
def keyD : W → Option PyData
  | .d (.tuple ds) => if flat (.tuple ds) = true ∧ (nk (.tuple ds)).depth ≤ 8 then some (.tuple ds) else none
  | _ => none
theorem keyD_eq {w : W} {d : PyData} (h : keyD w = some d) : w = .d d ∧ (∃ ds, d = .tuple ds) ∧ flat d = true ∧ (nk d).depth ≤ 8 := by
  unfold keyD at h
  split at h
  · rename_i ds
    split at h
    · rename_i c
      cases h
      exact ⟨rfl, ⟨ds, rfl⟩, c⟩
    · cases h
  · cases h
def asD : W → Option PyData
  | .d x => some x
  | _ => none
theorem asD_eq {w : W} {d : PyData} (h : asD w = some d) : w = .d d := by
  cases w <;> cases h
  rfl
/-- what stands at a key; a key stored -/
def dGet (es : List (PyData × PyData)) (k : PyData) : Option PyData := (es.find? fun e => decide (nk e.1 = nk k)).map (·.2)
def dPut (es : List (PyData × PyData)) (k v : PyData) : List (PyData × PyData) := if (dGet es k).isSome then es.map fun e => if nk e.1 = nk k then (e.1, v) else e else es ++ [(k, v)]
section
variable {K : PySem.W.Frag} {H : Hp}
theorem Rp.isTup {v : V} {ds : List PyData} (r : Rp K H v (.tuple ds)) : ∃ a, v = .ref a := by
  cases r with | tup => exact ⟨_, rfl⟩
theorem DicR.length {L : List KEnt} {es : List (PyData × PyData)} (h : DicR K H L es) : L.length = es.length := by
  induction h with
  | nil => rfl
  | cons _ _ _ _ _ ih => simp [ih]
theorem DicR.keys {L : List KEnt} {es : List (PyData × PyData)} (h : DicR K H L es) : KeysAt K H L := by
  induction h with
  | nil => intro p hp; cases hp
  | cons a f d v _ ih =>
    intro p hp
    rcases List.mem_cons.mp hp with rfl | hp
    · exact ⟨_, a.dp, f, rfl, d⟩
    · exact ih p hp
theorem DicR.get {L : List KEnt} {es : List (PyData × PyData)} (h : DicR K H L es) (k : PyData) : (kdGet L (nk k) = none ∧ dGet es k = none) ∨ ∃ v d, kdGet L (nk k) = some v ∧ dGet es k = some d ∧ Rp K H v d := by
  induction h with
  | nil => exact .inl ⟨rfl, rfl⟩
  | @cons a v L k' d es r f dp rv _ ih =>
    by_cases e : nk k' = nk k
    · exact .inr ⟨v, d, by simp [kdGet, e], by simp [dGet, e], rv⟩
    · rcases ih with ⟨h1, h2⟩ | ⟨v', d', h1, h2, h3⟩
      · exact .inl ⟨by simpa [kdGet, e] using h1, by simpa [dGet, e] using h2⟩
      · exact .inr ⟨v', d', by simpa [kdGet, e] using h1, by simpa [dGet, e] using h2, h3⟩
theorem DicR.maps {L : List KEnt} {es : List (PyData × PyData)} (h : DicR K H L es) (k : PyData) {v : V} {d : PyData} (rv : Rp K H v d) :
    DicR K H (L.map fun p => if p.2.1 = nk k then (p.1, p.2.1, v) else p) (es.map fun e => if nk e.1 = nk k then (e.1, d) else e) := by
  induction h with
  | nil => exact .nil
  | @cons a v' L k' d' es r f dp rv' _ ih =>
    simp only [List.map_cons]
    by_cases e : nk k' = nk k
    · rw [if_pos e, if_pos e]
      exact .cons r f dp rv ih
    · rw [if_neg e, if_neg e]
      exact .cons r f dp rv' ih
theorem DicR.snoc {L : List KEnt} {es : List (PyData × PyData)} (h : DicR K H L es) {a : Addr} {k : PyData} {v : V} {d : PyData} (r : Rp K H (.ref a) k) (f : flat k = true) (dp : (nk k).depth ≤ 8) (rv : Rp K H v d) : DicR K H (L ++ [(a, nk k, v)]) (es ++ [(k, d)]) := by
  induction h with
  | nil => exact .cons r f dp rv .nil
  | cons r' f' dp' rv' _ ih => exact .cons r' f' dp' rv' ih
theorem DicR.put {L : List KEnt} {es : List (PyData × PyData)} (h : DicR K H L es) {a : Addr} {k : PyData} {v : V} {d : PyData} (r : Rp K H (.ref a) k) (f : flat k = true) (dp : (nk k).depth ≤ 8) (rv : Rp K H v d) : DicR K H (kdPut L a (nk k) v) (dPut es k d) := by
  unfold kdPut dPut
  rcases h.get k with ⟨h1, h2⟩ | ⟨v', d', h1, h2, _⟩
  · rw [h1, h2, if_neg (by simp), if_neg (by simp)]
    exact h.snoc r f dp rv
  · rw [h1, h2, if_pos (by simp), if_pos (by simp)]
    exact h.maps k rv
end
section
variable {C : Ck} {φ : Nat → Addr} {M : Mem} {H : Hp}
/-- a thing of the memory is another one from now on -/
theorem Step.setO (S : Sim C φ M H) {i : Nat} {mo0 mo : MO} {o : HO} (e : M[i]? = some mo0) (st : ∀ es n, mo0 = .dic es n → ∃ es' n', mo = .dic es' n' ∧ n < n') (hr : Keep C.K H (upd H (φ i) o) → RO C φ M.length (upd H (φ i) o) (φ i) mo) : Step C φ M H φ (M.set i mo) (upd H (φ i) o) := by
  obtain ⟨o0, h0, k0⟩ := (S.ob i _ e).some
  have hi : i < M.length := (List.getElem?_eq_some_iff.mp e).1
  have other : ∀ {b : Addr} {ob : HO}, H b = some ob → (∀ vs, ob ≠ .lst vs) → (∀ p, ob ≠ .ext p) → (∀ L, ob ≠ .dK L) → b ≠ φ i := fun {b ob} hb n1 n2 n3 z => by
    rw [z, h0] at hb
    cases hb
    rcases k0 with ⟨vs, rfl⟩ | ⟨p, rfl⟩ | ⟨L, rfl⟩
    · exact n1 _ rfl
    · exact n2 _ rfl
    · exact n3 _ rfl
  have kp : Keep C.K H (upd H (φ i) o) := fun a us h => by
    rcases h with (h | ⟨ob, h⟩) | h
    · exact .inl (.inl (by rw [upd_ne (other h (fun _ z => nomatch z) (fun _ z => nomatch z) fun _ z => nomatch z)]; exact h))
    · exact .inl (.inr ⟨ob, by rw [upd_ne (other h (fun _ z => nomatch z) (fun _ z => nomatch z) fun _ z => nomatch z)]; exact h⟩)
    · exact .inr h
  refine ⟨fun _ _ => rfl, by simp, kp, ⟨fun j mo' ej => ?_, fun j k hj hk ejk => S.inj j k (by simpa using hj) (by simpa using hk) ejk, fun P hP => ?_, S.scr.keep fun ob e2 => ?_⟩, fun j es n ej => ?_⟩
  · rw [List.length_set]
    by_cases h : j = i
    · subst h
      rw [List.getElem?_set_self hi] at ej
      cases ej
      exact hr kp
    · rw [List.getElem?_set_ne (Ne.symm h)] at ej
      have hj : j < M.length := (List.getElem?_eq_some_iff.mp ej).1
      exact (S.ob j mo' ej).move kp (fun _ _ => rfl) (Nat.le_refl _) (upd_ne fun z => h (S.inj j i hj hi z))
  · obtain ⟨ps, h, q⟩ := S.tab P hP
    exact ⟨ps, by rw [upd_ne (other h (fun _ z => nomatch z) (fun _ z => nomatch z) fun _ z => nomatch z)]; exact h, q⟩
  · rw [upd_ne (other e2 (fun _ z => nomatch z) (fun _ z => nomatch z) fun _ z => nomatch z)]; exact e2
  · have hj : j < M.length := (List.getElem?_eq_some_iff.mp ej).1
    by_cases h : j = i
    · subst h
      rw [e] at ej
      cases ej
      obtain ⟨es', n', rfl, lt⟩ := st es n rfl
      exact ⟨es', n', List.getElem?_set_self hi, Nat.le_of_lt lt, fun z => by omega⟩
    · exact ⟨es, n, by rw [List.getElem?_set_ne (Ne.symm h)]; exact ej, Nat.le_refl _, fun _ => ⟨rfl, upd_ne fun z => h (S.inj j i hj hi z)⟩⟩
/-- more is tracked, nothing else -/
theorem Step.more (S : Sim C φ M H) {H' : Hp} (ext : ∀ b o, H b = some o → H' b = some o) : Step C φ M H φ M H' := by
  have kp : Keep C.K H H' := fun a us h => by
    rcases h with (h | ⟨ob, h⟩) | h
    · exact .inl (.inl (ext _ _ h))
    · exact .inl (.inr ⟨ob, ext _ _ h⟩)
    · exact .inr h
  refine ⟨fun _ _ => rfl, Nat.le_refl _, kp, ⟨fun j mo ej => ?_, S.inj, fun P hP => ?_, S.scr.keep fun ob e => ext _ _ e⟩, .same fun j es n ej => ⟨ej, by obtain ⟨o, ho, _⟩ := (S.ob j _ ej).some; rw [ho]; exact ext _ _ ho⟩⟩
  · have r := S.ob j mo ej
    obtain ⟨o, ho, _⟩ := r.some
    exact r.move kp (fun _ _ => rfl) (Nat.le_refl _) (by rw [ho]; exact ext _ _ ho)
  · obtain ⟨ps, h, q⟩ := S.tab P hP
    exact ⟨ps, ext _ _ h, q⟩
end
theorem _root_.L2.Room.units128 {k : Nat} {A : Around} (hr : Room k A) : A.units + 128 < cLine := by
  have := hr.un
  omega
/-! the functions -/
def eDict0 : EvE := fun _ M => some (.obj M.length, M ++ [.dic [] 0])
def sPutD (e o i : EvE) : EvS := fun ρ M => (e ρ M).bind fun p => (o ρ p.2).bind fun q => (i ρ q.2).bind fun r => (asD p.1).bind fun v => (keyD r.1).bind fun k => (dicAt r.2 q.1).bind fun l =>
  if l.2.length < sizeLine then some (.nx ρ (r.2.set l.1 (.dic (dPut l.2 k v) (stampAt r.2 l.1 + 1)))) else none
def oIxD : O2 := fun a b M => (dicAt M a).bind fun l => (keyD b).bind fun k => (dGet l.2 k).bind fun v => some (.d v, M)
def eGet (o e f : EvE) : EvE := fun ρ M => (o ρ M).bind fun q => (dicAt q.2 q.1).bind fun _ => (e ρ q.2).bind fun r => (f ρ r.2).bind fun x => (dicAt x.2 q.1).bind fun l => (keyD r.1).bind fun k => some (match dGet l.2 k with | some v => .d v | none => x.1, x.2)
open Classical in
/-- sorted(o.items()) -/
noncomputable def eSortIt (o : EvE) : EvE := fun ρ M => (o ρ M).bind fun q => (dicAt q.2 q.1).bind fun l =>
  if Rows (l.2.map itD) ∧ (∀ e ∈ l.2, (itD e).depth ≤ 60) then some (.obj q.2.length, q.2 ++ [.lst (((l.2.map itD).mergeSort (PySem.W.dataLe false id)).map W.d)]) else none
section
variable {C : Ck} {X : Cx} {e o i f : Expr} {fe fo fi ff : EvE} {pos po apos cpos spos : Pos}
theorem q_dict0 (hw : X.w = C.w) : PE X (.Dict [] [] pos) (tOf C eDict0) :=
  pe_kdNew.weak fun σ H Q ⟨ρ, φ, M, w, M', env, sim, e, q⟩ p np => by
    cases e
    rw [hw]
    exact q _ _ _ (Step.new sim np fun φ' _ => ⟨[], .of upd_same, .nil⟩) .new
theorem q_putD (hw : X.w = C.w) (hK : X.K = C.K) (hu : X.A.units + 64 < cLine) (he : PE X e (tOf C fe)) (ho : PE X o (tOf C fo)) (hi : PE X i (tOf C fi)) (hg : PG X (.Subscript o i po) (gSub (tOf C fo) (tOf C fi) (rKdSet X.K X.w)))
    (hs : swapsWithSole [.Subscript o i po] e pos.line X.env = pure false := by rfl) (hw' : swappedStores [.Subscript o i po] e X.env = pure none := by rfl)
    (h1 : (assignEach [.Subscript o i po] X.env).map (·.2) = [assign (.Subscript o i po) X.env] := by rfl) : PS X (.Assign [.Subscript o i po] e pos) (tsOf C (sPutD fe fo fi)) :=
  (ps_asg he hg hs hw' h1).weak fun D σ H ⟨ρ, φ, M, o, env, sim, e, q⟩ => by
    obtain ⟨⟨x, M1⟩, e1, e⟩ := bsome e
    obtain ⟨⟨y, M2⟩, e2, e⟩ := bsome e
    obtain ⟨⟨z, M3⟩, e3, e⟩ := bsome e
    obtain ⟨v, hv, e⟩ := bsome e
    obtain ⟨k, hk, e⟩ := bsome e
    obtain ⟨⟨l, es⟩, hl, e⟩ := bsome e
    split at e
    case isFalse => cases e
    rename_i small
    cases e
    obtain ⟨ey, el⟩ := dicAt_eq hl
    obtain ⟨ez, ⟨ds, ek⟩, fl, dp⟩ := keyD_eq hk
    have ex := asD_eq hv
    simp only at ey ez ex el small
    subst ey ez ex
    refine ⟨ρ, φ, M, _, M1, env, sim, e1, fun u φ1 H1 s1 r1 => ⟨ρ, φ1, M1, _, M2, env.step s1, s1.sim, e2, fun u2 φ2 H2 s2 r2 => ⟨ρ, φ2, M2, _, M3, (env.step s1).step s2, s2.sim, e3, fun u3 φ3 H3 s3 r3 => ?_⟩⟩⟩
    obtain ⟨rfl, hlt⟩ := (r2.step s3).isO
    cases r3 with | d r3 =>
    obtain ⟨ka, rfl⟩ := Rp.isTup (ek ▸ r3)
    cases (r1.step s2).step s3 with | d rx =>
    obtain ⟨L, hL, dr⟩ := s3.sim.ob l _ el
    refine ⟨φ3 l, L, ka, k, rfl, rfl, by rw [hw]; exact hL, by rw [hK]; exact dr.keys, by rw [hK]; exact r3.dp, fl, dp, by rw [dr.length]; exact small, ?_⟩
    rw [hw]
    have s4 := Step.setO (mo := .dic (dPut es k v) (stampAt M3 l + 1)) (o := KdO C.w (φ3 l) (kdPut L ka (nk k) u)) s3.sim el (fun es n e => ⟨_, _, rfl, by cases e; exact Nat.lt_succ_self _⟩) fun kp => ⟨_, .of upd_same, (dr.put r3 fl dp rx).keep kp⟩
    have s5 := s1.trans (s2.trans (s3.trans s4))
    exact q σ φ3 _ s5 (env.step s5)
theorem vo_ixD : VO2 C (rKdIx C.K C.w) oIxD := by
  intro φ M H x y a b w M' Q sim rx ry e q
  obtain ⟨⟨i, es⟩, hl, e⟩ := bsome e
  obtain ⟨k, hk, e⟩ := bsome e
  obtain ⟨v, hv, e⟩ := bsome e
  cases e
  obtain ⟨ea, el⟩ := dicAt_eq hl
  obtain ⟨eb, ⟨ds, ek⟩, fl, dp⟩ := keyD_eq hk
  subst ea eb
  obtain ⟨rfl, _⟩ := rx.isO
  cases ry with | d ry =>
  obtain ⟨ka, rfl⟩ := Rp.isTup (ek ▸ ry)
  obtain ⟨L, hL, dr⟩ := sim.ob _ _ el
  rcases dr.get k with ⟨_, z⟩ | ⟨u, d, h1, h2, h3⟩
  · rw [hv] at z; cases z
  · rw [hv] at h2
    cases h2
    exact ⟨_, L, ka, k, u, rfl, rfl, hL, dr.keys, ry.dp, fl, dp, h1, q u φ H (.refl sim) (.d h3)⟩
theorem q_ixD (hw : X.w = C.w) (hK : X.K = C.K) (hu : X.A.units + 64 < cLine) (ho : PE X o (tOf C fo)) (hi : PE X i (tOf C fi)) (hs : PlainIx i) : PE X (.Subscript o i pos) (tOf C (eOp oIxD fo fi)) :=
  (pe_ix (ix_kd hu) ho hi hs).weak fun σ H Q h => two_of (by rw [hK, hw]; exact vo_ixD) h
theorem q_get (hw : X.w = C.w) (hK : X.K = C.K) (h : PE X (.Call (.Attribute o "get" apos) [e, f] [] cpos) (tKdGet2 X.K X.w (tOf C fo) (tOf C fe) (tOf C ff))) : PE X (.Call (.Attribute o "get" apos) [e, f] [] cpos) (tOf C (eGet fo fe ff)) :=
  h.weak fun σ H Q ⟨ρ, φ, M, w, M', env, sim, e, q⟩ => by
    obtain ⟨⟨wo, M1⟩, e1, e⟩ := bsome e
    obtain ⟨⟨i0, es0⟩, hl0, e⟩ := bsome e
    obtain ⟨⟨wk, M2⟩, e2, e⟩ := bsome e
    obtain ⟨⟨wx, M3⟩, e3, e⟩ := bsome e
    obtain ⟨⟨i, es⟩, hl, e⟩ := bsome e
    obtain ⟨k, hk, er⟩ := bsome e
    obtain ⟨eo, el0⟩ := dicAt_eq hl0
    obtain ⟨eo', el⟩ := dicAt_eq hl
    obtain ⟨ek', ⟨ds, ek⟩, fl, dp⟩ := keyD_eq hk
    simp only at eo eo' ek' el el0
    subst eo ek'
    have ei : i = i0 := by cases eo'; rfl
    subst ei
    refine ⟨ρ, φ, M, _, M1, env, sim, e1, fun u φ1 H1 s1 r1 => ?_⟩
    obtain ⟨rfl, hlt⟩ := r1.isO
    obtain ⟨L0, hL0, _⟩ := s1.sim.ob _ _ el0
    refine ⟨φ1 i, rfl, ⟨L0, by rw [hw]; exact hL0⟩, ρ, φ1, M1, _, M2, env.step s1, s1.sim, e2, fun u2 φ2 H2 s2 r2 => ⟨ρ, φ2, M2, _, M3, (env.step s1).step s2, s2.sim, e3, fun u3 φ3 H3 s3 r3 => ?_⟩⟩
    cases r2.step s3 with | d rk =>
    obtain ⟨ka, rfl⟩ := Rp.isTup (ek ▸ rk)
    obtain ⟨L, hL, dr⟩ := s3.sim.ob _ _ el
    have hi : φ3 i = φ1 i := (s3.ext i (Nat.lt_of_lt_of_le hlt s2.le)).trans (s2.ext i hlt)
    rw [hi] at hL
    refine ⟨L, ka, k, rfl, by rw [hw]; exact hL, by rw [hK]; exact dr.keys, by rw [hK]; exact rk.dp, fl, dp, ?_⟩
    have st := s1.trans (s2.trans s3)
    rcases dr.get k with ⟨h1, h2⟩ | ⟨v, d, h1, h2, h3⟩
    · simp only [h2] at er
      cases er
      rw [h1]
      exact q _ φ3 _ st r3
    · simp only [h2] at er
      cases er
      rw [h1]
      exact q _ φ3 _ st (.d h3)
/-- o.items(), the view -/
def tItems (w : World) (te : TE) : TE := fun σ H Q => te σ H fun x H1 => ∃ a L, x = .ref a ∧ KdAt w H1 a L ∧ ∀ p, H1 p = none → Q (.ref p) (upd H1 p (itemsO p a))
theorem pe_items {te : TE} (ho : PE X o te) (base : attributeBase o "items" X.env (eval o X.env) = eval o X.env := by rfl) (line : (apos.endLine == cpos.line) = true := by rfl) : PE X (.Call (.Attribute o "items" apos) [] [] cpos) (tItems X.w te) := by
  refine ⟨fun pins s σ H Q I h => wpAny_Call_method0_late base line (thn (ho.run pins s σ H _ I h) fun v s1 ⟨x, H1, I1, r1, a, L, ex, ha, q1⟩ => ?_)⟩
  subst ex
  cases r1
  obtain ⟨isD, ob, at', nd⟩ := kd_type I1 ha
  exact ⟨"dict", "dict.items", PySem.F.plainAttrs_dict, PySem.F.slot_dict_items, by rfl, isD, fun b e => by cases e; exact ⟨ob, at', nd⟩, Calls.callWith_builtin rfl (PySem.evalArgs_none (mt_kdItems pins s1 σ H1 (.ref a) [] _ [] Q I1 rfl .nil ⟨a, L, rfl, rfl, ha, q1⟩))⟩
/-- entries and data, side by side -/
theorem DicR.items {K : PySem.W.Frag} {H : Hp} {L : List KEnt} {es : List (PyData × PyData)} (h : DicR K H L es) : ∃ Z : List KItem, Z.map (·.1) = L ∧ Z.map (·.2) = es ∧ ∀ z ∈ Z, ItemOk K H z ∧ Rp K H (.ref z.1.1) z.2.1 ∧ Rp K H z.1.2.2 z.2.2 := by
  induction h with
  | nil => exact ⟨[], rfl, rfl, fun _ no => (nomatch no)⟩
  | @cons a v L k d es r f dp rv _ ih =>
    obtain ⟨Z, h1, h2, h3⟩ := ih
    refine ⟨((a, nk k, v), k, d) :: Z, by simp [h1], by simp [h2], fun z hz => ?_⟩
    rcases List.mem_cons.mp hz with rfl | hz
    · exact ⟨⟨r.dp, rv.dp, f, rfl⟩, r, rv⟩
    · exact h3 z hz
theorem q_sortIt (hw : X.w = C.w) (hK : X.K = C.K) {e' : Expr} (h : PE X e' (tCB (rKdSort X.K X.w) (tCons (tItems X.w (tOf C fo)) tNil))) : PE X e' (tOf C (eSortIt fo)) :=
  h.weak fun σ H Q ⟨ρ, φ, M, w, M', env, sim, e, q⟩ => by
    obtain ⟨⟨wo, M1⟩, e1, e⟩ := bsome e
    obtain ⟨⟨i, es⟩, hl, e⟩ := bsome e
    split at e
    case isFalse => cases e
    rename_i ok
    cases e
    obtain ⟨eo, el⟩ := dicAt_eq hl
    simp only at eo el ok
    subst eo
    refine ⟨ρ, φ, M, _, M1, env, sim, e1, fun u φ1 H1 s1 r1 => ?_⟩
    obtain ⟨rfl, hlt⟩ := r1.isO
    obtain ⟨L, hL, dr⟩ := s1.sim.ob _ _ el
    refine ⟨φ1 i, L, rfl, by rw [hw]; exact hL, fun p np => ?_⟩
    have s2 := Step.tup (o := itemsO p (φ1 i)) s1.sim np
    obtain ⟨Z, z1, z2, z3⟩ := (dr.keep s2.keep).items
    have eD : (Z.map fun z => itD z.2) = es.map itD := by rw [← z2, List.map_map]; rfl
    refine ⟨p, φ1 i, Z, rfl, upd_same, ?_, fun z hz => by rw [hK]; exact (z3 z hz).1, by rw [eD]; exact ok.1, fun z hz => ok.2 z.2 (by rw [← z2]; exact List.mem_map.mpr ⟨z, hz, rfl⟩), fun H3 l ts ext pm srt tup nl => ?_⟩
    · obtain ⟨pp, hL1, hL2⟩ := hL
      rw [z1, hw]
      exact ⟨pp, by rw [upd_ne (ne_of_none hL1 np)]; exact hL1, hL2⟩
    rw [eD] at srt
    have s3 := Step.more s2.sim ext
    have rw' : ∀ ts : List (Addr × KItem), (∀ t ∈ ts, t.2 ∈ Z ∧ H3 t.1 = some (.tup [.ref t.2.1.1, t.2.1.2.2])) → RwAll C φ1 M1.length H3 (ts.map fun t => V.ref t.1) ((ts.map fun t => itD t.2.2).map W.d) := by
      intro ts
      induction ts with
      | nil => intro _; exact .nil
      | cons t ts ih =>
        intro h
        obtain ⟨mem, at'⟩ := h t List.mem_cons_self
        obtain ⟨_, rk, rv⟩ := z3 _ mem
        exact .cons (.d (.tup (SqT.of at') (.cons (rk.keep s3.keep) (.cons (rv.keep s3.keep) .nil)))) (ih fun t' ht' => h t' (List.mem_cons_of_mem _ ht'))
    have all := rw' ts fun t ht => ⟨pm.mem_iff.mp (List.mem_map.mpr ⟨t, ht, rfl⟩), tup t ht⟩
    rw [srt] at all
    have s4 := Step.list s3.sim nl all
    exact q _ _ _ (s1.trans (s2.trans (s3.trans s4))) .new
end
end Va

set_option Elab.async false
set_option linter.all false
set_option maxRecDepth 100000
set_option maxHeartbeats 1000000
/-! Va18: tuple * number; sum of a tuple; a, b = constants -/
namespace Va
open PySem PySem.Spec PyProof.Rows L2 Sa
/-- t * 1 is t -/
theorem times_one {l : Addr} {items : Array Value} {u : Tok} : Meets (Builtin.«tuple.__mul__» ⟨[.ref l, .int 1 u], []⟩) fun _ R s => s.heap.IsTuple l items ∧ R (.ok (.ret (.ref l))) s :=
  .of_wp fun prog w A R s ⟨isT, q⟩ => by
    have ix := AutoSeq1.idx_int
    show wpAny _ _ (asIndex (.int 1 u) >>= _) _ _ s
    have one : ∀ {Q : Int → Shared → Prop} {E : Value → Shared → Prop}, Q 1 s → wpAny (model prog w) A.in1 (asIndex (.int 1 u)) Q E s := fun h => by
      unfold asIndex
      wp_walk
      exact h
    refine wpAny_bind (one ?_)
    rw [if_neg (by decide)]
    refine wpAny_bind (m := Builtin.Tuple.tupleItemsOf _) (tupleItemsOf_ isT ?_)
    rw [if_pos (by simp)]
    refine wpAny_bind (m := Builtin.Tuple.tupleIsExact _) (wpAny_bind (wpAny_typeOf isT.typeIs (wpAny_pure ?_)))
    rw [if_pos (by decide)]
    exact wpAny_bind (wpAny_rule (wpAny_bind (wpAny_pure (wpAny_pure ⟨_, rfl, q⟩))))
section
variable {X : Cx} {C : Ck}
def rOnce (K : PySem.W.Frag) : R2 := fun x y H Q => ∃ l xs, x = .ref l ∧ y = .int 1 ∧ SqT K H l xs ∧ Q x H
theorem op_once : OpR X (binaryOp .Mult) (rOnce X.K) := by
  intro pins s σ H x y v u Q I rx ry ⟨l, xs, ex, ey, hT, q⟩
  subst ex ey
  cases rx
  obtain ⟨t, rfl⟩ := ry
  obtain ⟨its, rel, isT, _⟩ := I.tuple hT
  obtain ⟨⟨cls, dd, data, sl⟩, at', cl, n, dt⟩ := id isT
  simp only at cl dt
  subst cl dt
  refine wpAny_binaryOp_repeat_ref (T := "tuple") (U := "int") (by decide) isT.typeIs (fun s' => typeIs_int s' 1 t) noFill_tuple_mul F.fills_int_mul F.slot_int_rmul repeat_tuple F.slot_int_index.lookup ?_
  refine call_meets F.slot_int_rmul (typeIs_int s 1 t) F.entry_int_rmul (F.args_int_rmul_2 _ _) (int_rmul_tuple 1 t l its.toArray n dd sl) ⟨at', rfl, isT.typeIs, ?_⟩
  exact call_meets F.slot_tuple_mul isT.typeIs F.entry_tuple_mul (F.args_tuple_mul_2 _ _) times_one ⟨isT, .ref l, H, I, rfl, q⟩
/-- tuple * number -/
def oRepT : O2 := fun a b M => (tupOf a).bind fun ws => (asI b).bind fun k => if k = 1 then some (a, M) else if ws ≠ [] ∧ 2 ≤ k ∧ k ≤ 1000 ∧ ws.length ≤ 1000 then some (mkTup (List.replicate k.toNat ws).flatten, M) else none
theorem vo_repT : VO2 C (fun x y H Q => rOnce C.K x y H Q ∨ rRepT C.K x y H Q) oRepT := by
  intro φ M H x y a b w M' Q sim rx ry e q
  obtain ⟨ws, e1, e⟩ := bsome e
  obtain ⟨k, e2, er⟩ := bsome e
  cases asI_eq e2
  cases ry.isI
  obtain ⟨ad, vs, rfl, sq, r⟩ := rx.un e1
  clear e
  split at er
  · rename_i one
    subst one
    cases er
    exact .inl ⟨ad, vs, rfl, rfl, sq, q _ φ H (.refl sim) rx⟩
  · split at er
    · rename_i c
      cases er
      refine .inr ⟨ad, k, vs, rfl, rfl, sq, fun z => c.1 (by cases r with | nil => rfl | cons => cases z), c.2.1, c.2.2.1, by rw [r.length]; exact c.2.2.2, fun p np => ?_⟩
      have s1 := Step.tup (o := .tup (List.replicate k.toNat vs).flatten) sim np
      exact q _ φ _ s1 (.tup (SqT.of upd_same) ((rep_rel r k.toNat).step s1))
    · cases er
/-! sum of a tuple of ints -/
def rSumT (K : PySem.W.Frag) : List V → Hp → VK → Prop := fun vs H Q => ∃ (a : Addr) (ns : List Int), vs = [V.ref a] ∧ SqT K H a (ns.map V.int) ∧ Q (.int ns.sum) H
theorem cr_sumT (calm : X.calm = true) : CallR X (.builtin "sum") (rSumT X.K) := by
  intro pins s σ H vs us Q I rel ⟨a, ns, ev, sq, q⟩
  subst ev
  rw [Vals.ref1 rel]
  obtain ⟨its, rv, isT, _⟩ := I.tuple sq
  have lt : a < s.heap.objs.size := let ⟨_, e, _⟩ := isT; Heap.lt_size e
  have len : its.length = ns.length := by rw [← rv.length, List.length_map]
  refine call_sum_walkAnyS (wpAny_pyIter_tuple isT ⟨s.heap.objs.size, _, _, _, _, _, _, fun i => ns.getD i 0, rfl, (Walks.tuple (A := X.A.in1) (I.ok.hd calm) s.heap.objs.size a (Nat.ne_of_lt lt) its.toArray).toS, ⟨⟨_, Heap.get?_push_size _ rfl, rfl, rfl⟩, isT.push _⟩, fun b hb => ?_, fun i v hv => ?_, fun s' t' mv => ?_⟩)
  · have hb : b = s.heap.objs.size ∨ b = a := by simpa using hb
    show b < (s.heap.push _).objs.size
    rw [Heap.size_push]
    rcases hb with rfl | rfl
    · exact Nat.lt_succ_self _
    · exact Nat.lt_succ_of_lt lt
  · have hv : its[i]? = some v := by simpa using hv
    have il : i < ns.length := by rw [← len]; exact (List.getElem?_eq_some_iff.mp hv).1
    obtain ⟨u, eu, ru⟩ := rv.get (show (ns.map V.int)[i]? = some (.int ns[i]) by simp [il])
    rw [hv] at eu
    cases eu
    obtain ⟨t, rfl⟩ := ru
    exact ⟨t, by simp [il]⟩
  · have e : preSum (fun i => ns.getD i 0) its.toArray.size = ns.sum := by rw [preSum_getD, List.size_toArray, len, List.take_length]
    rw [e]
    have kept : ∀ b o, s.heap.get? b = some o → s'.heap.get? b = some o := fun b o z => mv.heap b o (fun y => Nat.ne_of_lt (Heap.lt_size z) (List.mem_singleton.mp y)) (Heap.get?_push_of_some _ z)
    obtain ⟨h2, g2, d2, t2, o2⟩ := s'
    cases (show g2 = s.gens from mv.gens)
    cases (show d2 = s.drawn from mv.drawn)
    cases (show o2 = s.os from mv.os)
    exact ⟨.int ns.sum, H, I.kept kept, ⟨_, rfl⟩, q⟩
def fSumT : Fn := fun as M => match as with
  | [a] => (tupOf a).bind fun l => (intsOf l).bind fun is => some (.d (.int is.sum), M)
  | _ => none
theorem vc_sumT : VC C (rSumT C.K) fSumT := by
  intro φ M H xs as w M' Q sim r e q
  unfold fSumT at e
  split at e
  · obtain ⟨ws, e1, e⟩ := bsome e
    obtain ⟨is, ei, e⟩ := bsome e
    cases e
    obtain ⟨x, rfl, r1⟩ := one_arg r
    obtain ⟨ad, vs, rfl, sq, r2⟩ := r1.un e1
    have := intsOf_rel r2 ei
    subst this
    exact ⟨_, is, rfl, sq, q _ φ H (.refl sim) (.d (.int _))⟩
  · cases e
end
end Va

set_option Elab.async false
set_option linter.all false
set_option maxRecDepth 100000
set_option maxHeartbeats 3200000
/-! Dc2: a dict comprehension whose keys are tuples. The block is begun by the library's block_start and walked by its compLoop_anyD; the dict is a KdO. -/
namespace Sa
open PySem PySem.Spec PyProof.Rows L2 L2.DX
/-- a comprehension's block between two turns: the iterator has given i things, and stands beside what is tracked -/
structure Between (B : Cx) (fp : List Addr) (tn : Nat → Heap → Prop) (σ : L2.St) (i : Nat) (H : Hp) (s : Shared) : Prop where
  inv : Inv B [] σ H s
  given : tn i s.heap
  beside : ∀ b ∈ fp, H b = none
section
variable {B X : Cx} {fp : List Addr} {tn : Nat → Heap → Prop} {σ σ' : L2.St} {i : Nat} {H : Hp} {s s' : Shared} {vs : List Nat}
theorem apart (ex : B.ex = fp) (pn : B.pn = []) (I : Inv B [] σ H s) (none' : ∀ b ∈ fp, H b = none) : ∀ b ∈ fp, FpOk B [] H b := by
  intro b hb
  have hx : b ∈ B.ex := by rw [ex]; exact hb
  have one := I.ok.exf b hx
  refine ⟨none' b hb, one.1, I.ok.exfs b hx, .inl hx, fun y c h => one.2 y c h, ?_⟩
  rw [pn]
  intro q no
  cases no
/-- behind a turn: the names of the turn are forgotten, the iterator was let alone -/
theorem Between.after {J : It} {tg : Expr} {it : Addr} {P : Program} {w : World} {K : PySem.W.Frag} (T : Turn P w K tg J fp it tn) (given : tn i s.heap) (I : Inv B ([] ++ pinsAt fp s.heap) σ' H s') (names : wipe σ' vs = wipe σ vs) : Between B fp tn (wipe σ vs) i H s' := by
  have held : ∀ b ∈ fp, ∀ o, s.heap.get? b = some o → s'.heap.get? b = some o ∧ H b = none := by
    intro b hb o e
    have pin := I.pin (b, o) (List.mem_append_right _ (List.mem_append_right _ (mem_pinsAt hb e)))
    exact ⟨pin.1, pin.2.1⟩
  refine ⟨(I.unpinned (pins := [])).weak (by rw [← names, wipe_length]) fun j v e => ?_, T.keep _ _ _ given fun b hb o e => (held b hb o e).1, fun b hb => ?_⟩
  · exact (wipe_some (by rw [names]; exact e)).1
  · obtain ⟨o, e, _⟩ := T.obj _ _ given b hb
    exact (held b hb o e).2
end
/-- {k: v for target in iter if ..}, keys tuples; D the dict -/
def tDcT (K : PySem.W.Frag) (w : World) (wi : TI) (g : TG) (tt : TT) (tk tv : TE) (vs : List Nat) : TE := fun σ H Q => wi σ H fun J H1 => ∀ D, H1 D = none →
  ∃ W : Nat → Nat → Hp → Prop, (∃ m, W 0 m (upd H1 D (KdO w D []))) ∧ ∀ i m H, W i m H → (J.stop i H ∧ Q (.ref D) H) ∨
    (J.go i H ∧ ∃ Nx : Hp → Prop, (∀ H', Nx H' → ∃ m', m' < m ∧ W (i + 1) m' H') ∧ ∀ x H', J.yld i H x H' → g x (wipe σ vs) H' fun σ2 H2 => wipe σ2 vs = wipe σ vs ∧ tt σ2 H2 fun b H3 =>
      if b = true then tk σ2 H3 fun y H4 => tv σ2 H4 fun z H5 => rKdSet K w (.ref D) y z H5 Nx else Nx H3)
section
variable {X : Cx} {pins : List (Addr × Obj)} {σ : L2.St} {H : Hp} {s : Shared}
/-- the dict takes a pair -/
theorem kd_take {E : Value → Shared → Prop} {Q : Unit → Shared → Prop} {D : Addr} {y z : V} {kv vv : Value} {R : Hp → Prop} (hu : X.A.units + 64 < cLine) (I : Inv X pins σ H s) (ry : RelV y kv) (rz : RelV z vv) (h : rKdSet X.K X.w (.ref D) y z H R)
    (q : ∀ s' H', Inv X pins σ H' s' → R H' → Q () s') : wpAny (model X.prog X.w) X.A (dictSet D kv vv) Q E s := by
  obtain ⟨a, L, b, d, ea, rfl, ha, ks, hd, fl, dp, sm, r⟩ := h
  cases ea
  cases ry
  have k0 := kd_at I ha
  obtain ⟨xs, pr, full⟩ := k0.full (P := X.prog) (ks.all I)
  have room : (nestedKind X.prog X.w).room X.A := by show X.A.units + 8 < cLine; omega
  refine wpAny_dictSet_heap (hsz := by rw [← Paired.length pr]; exact k0.2.1) room (key_is I hd fl dp) full fun h' full' sb => q _ _ ?_ r
  have len := kdPut_len L b (nk d) z
  obtain ⟨o, _, _, at', _⟩ := id full'
  exact I.write (by obtain ⟨_, z, _⟩ := ha; rw [z]; trivial) (.inl rfl) (fun c o hc e => (sb.2 c hc).trans e) ⟨o, at'⟩ (kdO_ok (Kd0.of (P := X.prog) k0.1 (by omega) (kd_stored pr rz) full'))
/-- where the loop of the block is over, the def goes on -/
theorem back {s3 s6 : Shared} {H3 H5 : Hp} {B : Cx} {fp : List Addr} {τ : L2.St} (eb : ∃ scope ce, B = X.blk s3 H3 scope ce fp) (I3 : Inv X pins σ H3 s3) (f3 : ∀ b ∈ fp, FpOk X pins H3 b) (I6 : Inv B [] τ H5 s6) : Inv X pins σ H5 s6 := by
  obtain ⟨scope, ce, rfl⟩ := eb
  refine I3.call' (ch := fp) I6.os I6.base I6.hok I6.bare fun b hb => ?_
  obtain ⟨_, l, _, x, c, p⟩ := f3 b hb
  exact ⟨x, l, c, p⟩
theorem pe_dcT {kx vx tg iter : Expr} {ifs : List Expr} {scope : Scope} {own : List (Str × Nat)} {pos : Pos} {wi : TI} {g : TG} {tt : TT} {tk tv : TE} (hu : X.A.units + 64 < cLine) (calm : X.calm = true) (nd : X.N.Nodup) (hi : PI X tg iter wi) (ok : BlkOk X.N X.env.scope scope own)
    (hg : ∀ (s : Shared) (H : Hp) (C : Addr) (cl : List (Str × Addr)) (fp : List Addr), PG (X.blk s H scope (compEnvC scope cl C X.env) fp) tg g)
    (ht : ∀ (s : Shared) (H : Hp) (C : Addr) (cl : List (Str × Addr)) (fp : List Addr), PTs (X.blk s H scope (compEnvC scope cl C X.env) fp) ifs tt)
    (hk : ∀ (s : Shared) (H : Hp) (C : Addr) (cl : List (Str × Addr)) (fp : List Addr), PE (X.blk s H scope (compEnvC scope cl C X.env) fp) kx tk)
    (hv : ∀ (s : Shared) (H : Hp) (C : Addr) (cl : List (Str × Addr)) (fp : List Addr), PE (X.blk s H scope (compEnvC scope cl C X.env) fp) vx tv) (fold : ∀ x, foldedSetIterable iter X.env x = pure x := by intro _; rfl) :
    PE X (.DictComp kx vx [⟨tg, iter, ifs, 0⟩] scope pos) (tDcT X.K X.w wi g tt tk tv (own.map (·.2))) := by
  refine ⟨fun pins s σ H Q I h => ?_⟩
  rw [arm_eval_DictComp]
  have clo := closure_ok (env := X.env) (scope := scope) fun y hy e => (ok.free y hy e).elim (fun k => I.ok.has _ (.inl k)) fun k => I.ok.has _ (.inr k)
  refine wpAny_comprehension_free (use := none) (e := .DictComp kx vx [⟨tg, iter, ifs, 0⟩] scope pos) rfl fold clo ok.kind (fun y hy e => by rw [ok.uniq y hy, e]) (thn (hi.run pins s σ H _ I h) fun _ s1 come => thn come fun _ s2 ⟨it, fp, tn, J, H2, ei, I2, T, g2, f2, q⟩ => ?_)
  subst ei
  refine wpAny_newObj_type (newEnv_comp ?_)
  have freeD : H2 s2.heap.objs.size = none := I2.hok.fresh (Nat.le_refl _)
  obtain ⟨W, ⟨m0, w0⟩, turn⟩ := q _ freeD
  have I3 : Inv X pins σ (upd H2 s2.heap.objs.size (KdO X.w s2.heap.objs.size [])) { s2 with heap := s2.heap.push { cls := .type "dict", data := .dict #[] } } :=
    I2.laid (t' := s2.toks) (fun _ _ e => Heap.get?_push_of_some _ e) (Nat.le_refl _) (kdO_ok (Kd0.of (P := X.prog) (not_mods I2) (Nat.zero_le _) .nil (Heap.DictOfH.new _)))
  have below : ∀ b ∈ fp, b < s2.heap.objs.size := fun b hb => (T.obj _ _ g2 b hb).elim fun o e => Heap.lt_size e.1
  generalize eD : s2.heap.objs.size = D at freeD w0 turn I3 below ⊢
  generalize eH : upd H2 D (KdO X.w D []) = H3 at w0 I3
  have f3 : ∀ b ∈ fp, FpOk X pins H3 b := fun b hb => by
    obtain ⟨n, rest⟩ := f2 b hb
    exact ⟨by rw [← eH, upd_ne (Nat.ne_of_lt (below b hb))]; exact n, rest⟩
  have g3 : tn 0 (s2.heap.push { cls := .type "dict", data := .dict #[] }) := T.keep _ _ _ g2 fun b _ o e => Heap.get?_push_of_some _ e
  have size3 : D < (s2.heap.push { cls := .type "dict", data := .dict #[] }).objs.size := by rw [Heap.size_push, eD]; exact Nat.lt_succ_self _
  generalize e3 : ({ s2 with heap := s2.heap.push { cls := .type "dict", data := .dict #[] } } : Shared) = s3 at I3 ⊢
  have g3 : tn 0 s3.heap := by rw [← e3]; exact g3
  have size3 : D < s3.heap.objs.size := by rw [← e3]; exact size3
  have I4 := block_start I3 ok nd fun b hb => ⟨f3 b hb, Nat.lt_trans (below b hb) size3⟩
  generalize ecl : cellsFrom (s3.heap.objs.size + 1) scope.names (cloFrom X.env.cells scope.names []) = cl at I4
  have PGt := hg s3 H3 s3.heap.objs.size cl fp
  have PTt := ht s3 H3 s3.heap.objs.size cl fp
  have PKt := hk s3 H3 s3.heap.objs.size cl fp
  have PVt := hv s3 H3 s3.heap.objs.size cl fp
  have loc : (compEnvC scope cl s3.heap.objs.size X.env).locals = s3.heap.objs.size := rfl
  show codeAny _ _ (.compStart (.DictComp kx vx [⟨tg, iter, ifs, 0⟩] scope pos) 0 (.ref it) (.ref D) (compEnvC scope cl s3.heap.objs.size X.env)) (compPost _ _ _ none _ (.ref D) s3.heap.objs.size) _
  generalize compEnvC scope cl s3.heap.objs.size X.env = ce at I4 PGt PTt PKt PVt loc ⊢
  generalize e4 : ({ s3 with heap := pushCells (s3.heap.push { cls := .type "dict", data := .dict #[] }) scope.names } : Shared) = s4 at I4 ⊢
  have g4 : tn 0 s4.heap := T.keep _ _ _ g3 fun b _ o e => by rw [← e4]; exact pushCells_keeps _ _ _ _ (Heap.get?_push_of_some _ e)
  have start : Between (X.blk s3 H3 scope ce fp) fp tn (wipe σ (own.map (·.2))) 0 H3 s4 := ⟨I4, g4, fun b hb => (f3 b hb).1⟩
  have walk : codeAny (model X.prog X.w) X.A (.compLoop (.DictComp kx vx [⟨tg, iter, ifs, 0⟩] scope pos) 0 (.ref it) (.ref D) ce) (compPost (model X.prog X.w) X.A X.xe none (EP X pins σ Q) (.ref D) s3.heap.objs.size) s4 := by
    refine compLoop_anyD (fun n s' => ∃ i H', Between (X.blk s3 H3 scope ce fp) fp tn (wipe σ (own.map (·.2))) i H' s' ∧ W i n H') (fun n s5 ⟨i, H5, b5, w5⟩ => ?_) m0 ⟨0, H3, start, w0⟩
    have free5 := apart (B := X.blk s3 H3 scope ce fp) rfl rfl b5.inv b5.beside
    rcases turn i n H5 w5 with ⟨stop, fin⟩ | ⟨go, Nx, less, step⟩
    · refine thnF (T.done (X.blk s3 H3 scope ce fp) rfl rfl rfl calm i [] s5 _ H5 (fun _ _ => False) b5.inv free5 b5.given stop) fun r s6 ⟨er, I6⟩ => ?_
      subst er
      obtain ⟨mm, ns, _⟩ := I6.loc
      have ns : s6.heap.Ns ce.locals mm := ns
      have off : H5 ce.locals = none := I6.free
      rw [loc] at ns off
      have I7 := back ⟨scope, ce, rfl⟩ I3 f3 I6
      obtain ⟨a0, a1, _, a3, a4, a5⟩ := I3.fpOk (Nat.le_refl _) off
      exact ⟨mm, ns, fun h' sb => ⟨.ref D, H5, I7.turned (t' := s6.toks) (fun b o hb e => (sb.2 b hb).trans e) a0 a1 a3 a4 a5, rfl, fin⟩⟩
    · refine thnF (T.item (X.blk s3 H3 scope ce fp) rfl rfl rfl calm i [] s5 _ H5 (fun _ _ => False) b5.inv free5 b5.given go) fun r s6 ⟨u, er, more⟩ => ?_
      subst er
      refine thnF more fun _ s7 ⟨x, H7, I7, rx, yl, g7, o7⟩ => ?_
      have P7 := I7.pinned (apart (B := X.blk s3 H3 scope ce fp) rfl rfl I7 o7) (T.obj _ _ g7)
      refine thnF (PGt.run _ s7 _ H7 x u _ P7 rx (step x H7 yl)) fun _ s8 ⟨σ8, H8, I8, names, q8⟩ => thnF (PTt.run _ s8 σ8 H8 _ I8 q8) fun b s9 ⟨H9, I9, q9⟩ => ?_
      have on : ∀ {s' : Shared} {H' : Hp}, Inv (X.blk s3 H3 scope ce fp) ([] ++ pinsAt fp s7.heap) σ8 H' s' → Nx H' → ∃ m, m < n ∧ ∃ i H', Between (X.blk s3 H3 scope ce fp) fp tn (wipe σ (own.map (·.2))) i H' s' ∧ W i m H' := fun {s' H'} I' nx => by
        obtain ⟨m', lt, w'⟩ := less H' nx
        exact ⟨m', lt, i + 1, H', .after T g7 I' names, w'⟩
      cases b with
      | false => exact on I9 q9
      | true =>
        refine thnF (PKt.run _ s9 σ8 H9 _ I9 q9) fun kv s10 ⟨yk, H10, I10, r10, q10⟩ => thnF (PVt.run _ s10 σ8 H10 _ I10 q10) fun vv s11 ⟨yv, H11, I11, r11, put⟩ => ?_
        exact kd_take (X := X.blk s3 H3 scope ce fp) hu I11 r10 r11 put fun s' H' I' nx => on I' nx
  exact codeAny_compStart_dict walk (T.self X.A 0 _ _ _ g4 walk)
end
end Sa

set_option Elab.async false
set_option linter.all false
set_option maxRecDepth 100000
set_option maxHeartbeats 1600000
/-! Dc3: dict comprehensions by value -/
namespace Va
open PySem PySem.Spec PyProof.Rows L2 L2.DX Sa
open Classical in
noncomputable def dcL (deps : List (Nat × MO)) (g : EvG) (t : EvT) (ek ev : EvE) (ρ0 : Ev) (n : Nat) : List W → Mem → Option Mem
  | [], M => if Deps deps M then some M else none
  | w :: ws, M => if Deps deps M then (g w ρ0).bind fun ρ1 => (t ρ1 M).bind fun p => if p.1 = true then (ek ρ1 p.2).bind fun y => (ev ρ1 y.2).bind fun z => (asD z.1).bind fun v => (keyD y.1).bind fun k => (dicAt z.2 (.obj n)).bind fun l =>
      if l.2.length < sizeLine then dcL deps g t ek ev ρ0 n ws (z.2.set n (.dic (dPut l.2 k v) (stampAt z.2 n + 1))) else none
    else dcL deps g t ek ev ρ0 n ws p.2 else none
/-- {k: v for target in iter if ..} -/
noncomputable def eDc (fi : EvI) (g : EvG) (t : EvT) (ek ev : EvE) (vs : List Nat) : EvE := fun ρ M => (fi ρ M).bind fun p =>
  (dcL p.1.2 g t ek ev (wipeW ρ vs) p.2.length p.1.1 (p.2 ++ [.dic [] 0])).bind fun M' => some (.obj p.2.length, M')
section
variable {C : Ck} {X : Cx} {pos : Pos} {tg iter : Expr} {fi : EvI} {g : EvG} {is : List Nat}
theorem dc_of {ft : EvT} {fk fv : EvE} {vs : List Nat} (hv : ∀ i ∈ is, i ∈ vs) {σ : L2.St} {H : Hp} {Q : VK} (h : tOf C (eDc fi g ft fk fv vs) σ H Q) : tDcT C.K C.w (tiOf C fi) (tgOf C is g) (ttOf C ft) (tOf C fk) (tOf C fv) vs σ H Q := by
  obtain ⟨ρ, φ, M, w, M', env, sim, e, q⟩ := h
  obtain ⟨⟨⟨items, deps⟩, M1⟩, e1, e⟩ := bsome e
  obtain ⟨Mz, e2, e⟩ := bsome e
  cases e
  refine ⟨ρ, φ, M, _, M1, env, sim, e1, fun J φ1 H1 s1 ok D nD => ?_⟩
  have s2 := Step.new (o := KdO C.w D []) (mo := .dic [] 0) s1.sim nD fun φ' _ => ⟨[], .of upd_same, .nil⟩
  generalize hφ : phi φ1 M1.length D = φ2 at s2
  have hD : φ2 M1.length = D := by rw [← hφ]; exact phi_at
  refine ⟨fun i m Hx => ∃ φ M ws, m = ws.length ∧ items.drop i = ws ∧ i ≤ items.length ∧ Step C φ2 (M1 ++ [.dic [] 0]) (upd H1 D (KdO C.w D [])) φ M Hx ∧ dcL deps g ft fk fv (wipeW ρ vs) M1.length ws M = some M',
    ⟨items.length, φ2, _, items, rfl, rfl, Nat.zero_le _, .refl s2.sim, e2⟩, ?_⟩
  intro i m Hx ⟨φ3, M3, ws, hm, hd, hi, s3, e3⟩
  have s13 : Step C φ1 M1 H1 φ3 M3 Hx := s2.trans s3
  have s03 : Step C φ M H φ3 M3 Hx := s1.trans s13
  have lt3 : M1.length < M3.length := by have := s3.le; simp at this; omega
  have at3 : φ3 M1.length = D := by rw [s3.ext M1.length (by simp)]; exact hD
  cases ws with
  | nil =>
    have hn : i = items.length := by
      have := congrArg List.length hd
      simp at this
      omega
    simp only [dcL] at e3
    split at e3
    · rename_i dp
      cases e3
      refine .inl ⟨by rw [hn]; exact (ok φ3 M' Hx s13 dp).2, q _ φ3 Hx s03 ?_⟩
      rw [← at3]
      exact .obj lt3
    · cases e3
  | cons w ws =>
    simp only [dcL] at e3
    split at e3
    · rename_i dp
      obtain ⟨ρ4, e4, e3⟩ := bsome e3
      obtain ⟨⟨k, M5⟩, e5, e3⟩ := bsome e3
      have hk : items[i]? = some w := by
        have : (items.drop i)[0]? = some w := by rw [hd]; rfl
        simpa using this
      have hlt : i < items.length := (List.getElem?_eq_some_iff.mp hk).1
      have hd' : items.drop (i + 1) = ws := by
        rw [← List.drop_drop, hd]; rfl
      obtain ⟨go, yl⟩ := (ok φ3 M3 Hx s13 dp).1 i w hk
      refine .inr ⟨go, fun H' => ∃ φ M, Step C φ2 (M1 ++ [.dic [] 0]) (upd H1 D (KdO C.w D [])) φ M H' ∧ dcL deps g ft fk fv (wipeW ρ vs) M1.length ws M = some M', fun H' ⟨φ, M, h1, h2⟩ => ⟨ws.length, by rw [hm]; exact Nat.lt_succ_self _, φ, M, ws, rfl, hd', hlt, h1, h2⟩, fun x H' hy => ?_⟩
      obtain ⟨st, rx⟩ := yl x H' hy
      have s0 : Step C φ M H φ3 M3 H' := s03.trans st
      refine ⟨wipeW ρ vs, φ3, M3, w, ρ4, (env.step s0).wipe vs, st.sim, rx, e4, fun σ4 env4 on4 => ⟨wipe_only hv on4, ρ4, φ3, M3, k, M5, env4, st.sim, e5, fun φ5 H5 s5 => ?_⟩⟩
      cases k with
      | false => exact ⟨φ5, M5, s3.trans (st.trans s5), e3⟩
      | true =>
        obtain ⟨⟨y, M6⟩, e6, e3⟩ := bsome e3
        obtain ⟨⟨z, M7⟩, e7, e3⟩ := bsome e3
        obtain ⟨vd, ev, e8⟩ := bsome e3
        obtain ⟨kd, ek, e9⟩ := bsome e8
        obtain ⟨⟨l, es⟩, hl, e10⟩ := bsome e9
        obtain ⟨el, hes⟩ := dicAt_eq hl
        cases el
        have ez := asD_eq ev
        obtain ⟨ey, ⟨ds, eds⟩, fl, dp'⟩ := keyD_eq ek
        simp only at ez ey hes
        subst ez ey
        clear e8 e9
        split at e10
        · rename_i small
          refine ⟨ρ4, φ5, M5, _, M6, env4.step s5, s5.sim, e6, fun ky φ6 H6 s6 r6 => ⟨ρ4, φ6, M6, _, M7, (env4.step s5).step s6, s6.sim, e7, fun vy φ7 H7 s7 r7 => ?_⟩⟩
          have s27 := s3.trans (st.trans (s5.trans (s6.trans s7)))
          have at7 : φ7 M1.length = D := by rw [s27.ext M1.length (by simp)]; exact hD
          obtain ⟨L, hL, dr⟩ := s7.sim.ob _ _ hes
          rw [at7] at hL
          cases r6.step s7 with | d rk =>
          obtain ⟨ka, rfl⟩ := Rp.isTup (eds ▸ rk)
          cases r7 with | d rv =>
          refine ⟨D, L, ka, kd, rfl, rfl, hL, dr.keys, rk.dp, fl, dp', by rw [dr.length]; exact small, φ7, _, s27.trans ?_, e10⟩
          have := Step.setO (mo := .dic (dPut es kd vd) (stampAt M7 M1.length + 1)) (o := KdO C.w (φ7 M1.length) (kdPut L ka (nk kd) vy)) s7.sim hes (fun es n e => ⟨_, _, rfl, by cases e; exact Nat.lt_succ_self _⟩) fun kp => ⟨_, .of upd_same, (dr.put rk fl dp' rv).keep kp⟩
          rw [at7] at this
          exact this
        · cases e10
    · cases e3
section
variable {kx vx : Expr} {ifs : List Expr} {scope : Scope} {own : List (Str × Nat)} {ft : EvT} {fk fv : EvE}
theorem q_dc (hw : X.w = C.w) (hK : X.K = C.K) (hu : X.A.units + 64 < cLine) (hc : X.calm = true) (hN : X.N.Nodup) (hi : PI X tg iter (tiOf C fi)) (ok : BlkOk X.N X.env.scope scope own) (hv : ∀ i ∈ is, i ∈ own.map (·.2))
    (hg : ∀ (s : Shared) (H : Hp) (D : Addr) (cl : List (Str × Addr)) (fp : List Addr), PG (X.blk s H scope (compEnvC scope cl D X.env) fp) tg (tgOf C is g)) (ht : ∀ (s : Shared) (H : Hp) (D : Addr) (cl : List (Str × Addr)) (fp : List Addr), PTs (X.blk s H scope (compEnvC scope cl D X.env) fp) ifs (ttOf C ft))
    (hk : ∀ (s : Shared) (H : Hp) (D : Addr) (cl : List (Str × Addr)) (fp : List Addr), PE (X.blk s H scope (compEnvC scope cl D X.env) fp) kx (tOf C fk)) (hx : ∀ (s : Shared) (H : Hp) (D : Addr) (cl : List (Str × Addr)) (fp : List Addr), PE (X.blk s H scope (compEnvC scope cl D X.env) fp) vx (tOf C fv)) (hs : ∀ x, foldedSetIterable iter X.env x = pure x := by intro _; rfl) :
    PE X (.DictComp kx vx [⟨tg, iter, ifs, 0⟩] scope pos) (tOf C (eDc fi g ft fk fv (own.map (·.2)))) :=
  (pe_dcT hu hc hN hi ok hg ht hk hx hs).weak fun _ _ _ h => by rw [hw, hK]; exact dc_of hv h
end
end
end Va

set_option Elab.async false
set_option linter.all false
set_option maxRecDepth 100000
set_option maxHeartbeats 1600000
/-! Kd3: for k, v in d.items(), d keyed by nested tuples: the dict is held fast while it is walked -/
namespace Sa
open PySem PySem.Spec PyProof.Rows L2 PySem.W DT L2.DX
/-- the dict at a, and nothing happens to it -/
def HeldO (w : World) (a : Addr) (o : Obj) (L : List KEnt) : HO := .ext fun h => h.get? a = some o ∧ Kd0 w h a L
theorem heldO_ok {P : Program} {w : World} {H : Hp} {h : Heap} {a : Addr} {o : Obj} {L : List KEnt} (e : h.get? a = some o) (x : Kd0 w h a L) : ObjOk P w H h a (HeldO w a o L) := by
  obtain ⟨_, _, st⟩ := kdO_ok (P := P) (H := H) x
  exact ⟨⟨e, x⟩, ⟨o, e⟩, fun h1 h2 q k => ⟨k o q.1, st h1 h2 q.2 k⟩⟩
theorem HeldO.kd {w : World} {H : Hp} {a : Addr} {o : Obj} {L : List KEnt} (e : H a = some (HeldO w a o L)) : KdAt w H a L := ⟨_, e, fun _ h => h.2⟩
def ItD (w : World) (a : Addr) (o : Obj) (L : List KEnt) : It :=
  ⟨fun i H => H a = some (HeldO w a o L) ∧ i < L.length,
   fun i H v H' => ∃ T p, L[i]? = some p ∧ v = .ref T ∧ H T = none ∧ H' = upd H T (.tup [.ref p.1, p.2.2]),
   fun i H => H a = some (HeldO w a o L) ∧ i = L.length⟩
section
variable {X : Cx} {pins : List (Addr × Obj)} {σ : L2.St} {H : Hp} {s : Shared}
theorem held_raw {a : Addr} {o : Obj} {L : List KEnt} (I : Inv X pins σ H s) (e : H a = some (HeldO X.w a o L)) :
    s.heap.get? a = some o ∧ ∃ es ep, o.data = .dict es ep ∧ s.heap.DictRaw a es ep ∧ es.size = L.length ∧ ∀ (j : Nat) (p : KEnt), L[j]? = some p → ∃ u h, es[j]? = some (⟨h, .ref p.1, u⟩ : DictEntry) ∧ RelV p.2.2 u := by
  have at' := (I.hok a _ e).1.1
  obtain ⟨_, _, es, ep, ⟨o', at2, ex, dt⟩, sz, each⟩ := kd_raw I (HeldO.kd e)
  rw [at'] at at2
  cases at2
  exact ⟨at', es, ep, dt, ⟨o, at', ex, dt⟩, sz, each⟩
theorem turn_items {P : Program} {w : World} {K : PySem.W.Frag} {elts : List Expr} {kk : Nat} {tpos : Pos} {it a : Addr} {o : Obj} {L : List KEnt} {es : Array DictEntry} {ep : Nat} (ne : a ≠ it) (dt : o.data = .dict es ep) (sz : es.size = L.length) :
    Turn P w K (.Tuple elts kk tpos) (ItD w a o L) [it] it (fun i h => ∃ ok ov, IsItemIter h it a i es.size ep ok ov) := by
  refine turn_gives (by simp) (fun i h ⟨ok, ov, st⟩ b hb => ?_) (fun i h h' ⟨ok, ov, st⟩ k => ⟨ok, ov, k it (by simp) _ st⟩) (fun Y hP hw hK hc i pins s σ H I ⟨ok, ov, st⟩ ⟨hl, lt⟩ => ?_) (fun Y hP hw hK hc i pins s σ H I ⟨ok, ov, st⟩ ⟨hl, end'⟩ => ?_) (fun A i s Q E ⟨ok, ov, st⟩ q => wpAny_pyIter_itemiter st q)
  · rw [List.mem_singleton.mp hb]
    exact ⟨_, st, fun v => nofun⟩
  · subst hP hw hK
    obtain ⟨_, es2, ep2, dt2, raw, _, each⟩ := held_raw I hl
    rw [dt] at dt2
    cases dt2
    refine ⟨_, _, _, _, _, _, WalksT.rawItems (I.ok.hd hc) it a ne es ep, ⟨⟨ok, ov, st⟩, raw⟩, by rw [sz]; exact lt, fun b hb => hb, fun h' st' => st'.1, fun vals ⟨hi, ev⟩ => ?_⟩
    obtain ⟨u, hh, eu, ru⟩ := each i L[i] (by simp [lt])
    have eu' : es[i] = ⟨hh, .ref L[i].1, u⟩ := by rw [Array.getElem?_eq_getElem hi] at eu; exact Option.some.inj eu
    rw [eu'] at ev
    subst ev
    exact ⟨[.ref L[i].1, L[i].2.2], .cons rfl (.cons ru .nil), by show 2 ≤ sizeLine; decide, fun T nT => ⟨T, L[i], by simp [lt], rfl, nT, rfl⟩⟩
  · subst hP hw hK
    obtain ⟨_, es2, ep2, dt2, raw, _, each⟩ := held_raw I hl
    rw [dt] at dt2
    cases dt2
    refine ⟨_, _, _, _, _, _, WalksT.rawItems (I.ok.hd hc) it a ne es ep, ⟨⟨ok, ov, ?_⟩, raw⟩, fun b hb => hb⟩
    rw [sz, ← end'] at st ⊢
    exact st
end
end Sa

set_option Elab.async false
set_option linter.all false
set_option maxRecDepth 100000
set_option maxHeartbeats 1600000
/-! Dc4: for k, v in d.items() by value -/
namespace Va
open PySem PySem.Spec PyProof.Rows L2 L2.DX Sa
/-- for k, v in d.items(): the view, then the walk -/
def iItems (w : World) (td : TE) : TI := fun σ H R => tItems w td σ H fun x H' => ∃ a L p, x = .ref p ∧ H' p = some (itemsO p a) ∧ KdAt w H' a L ∧ ∀ ob, R (ItD w a ob L) (upd H' a (HeldO w a ob L))
section
variable {X : Cx} {C : Ck} {o : Expr} {apos cpos tpos : Pos} {elts : List Expr} {kk : Nat}
theorem pi_items {td : TE} (ho : PE X o td) (base : attributeBase o "items" X.env (eval o X.env) = eval o X.env := by rfl) (line : (apos.endLine == cpos.line) = true := by rfl) : PI X (.Tuple elts kk tpos) (.Call (.Attribute o "items" apos) [] [] cpos) (iItems X.w td) := by
  refine ⟨fun pins s σ H R I h => thn ((pe_items (cpos := cpos) (apos := apos) ho base line).run pins s σ H _ I h) fun v s1 ⟨x, H1, I1, rx, a, L, p, ex, hp, ka, q⟩ => ?_⟩
  subst ex
  cases rx
  have isView : s1.heap.IsItemsView p a := (I1.hok p _ hp).1
  have k0 := kd_at I1 ka
  obtain ⟨_, _, es, ep, ⟨ob, at', ex, dt⟩, sz, _⟩ := kd_raw I1 ka
  have lt : a < s1.heap.objs.size := Heap.lt_size at'
  refine wpAny_pyIter_items_raw isView ⟨ob, at', ex, dt⟩ ?_
  generalize eh : s1.heap.push { cls := .type "dict_itemiterator", data := .fields #[.none, .bool false, .ref a, .int 0 0, .int es.size 0, .int ep 0, .none, .none] } = h2
  have old : ∀ b u, s1.heap.get? b = some u → h2.get? b = some u := fun b u e => by rw [← eh]; exact Heap.get?_push_of_some _ e
  have new : h2.get? s1.heap.objs.size = some { cls := .type "dict_itemiterator", data := .fields #[.none, .bool false, .ref a, .int 0 0, .int es.size 0, .int ep 0, .none, .none] } := by rw [← eh]; exact Heap.get?_push_size _ rfl
  have I2 : Inv X pins σ H1 { s1 with heap := h2, toks := s1.toks } := I1.kept (t' := s1.toks) old
  have k2 : Kd0 X.w h2 a L := kd_at I2 ka
  have I3 : Inv X pins σ (upd H1 a (HeldO X.w a ob L)) { s1 with heap := h2, toks := s1.toks } :=
    I2.write (x := a) (e := a) (h' := h2) (t' := s1.toks) (by obtain ⟨_, z, _⟩ := ka; rw [z]; trivial) (.inl rfl) (fun _ _ _ e => e) ⟨ob, old a _ at'⟩ (heldO_ok (old a _ at') k2)
  have off : H1 s1.heap.objs.size = none := I1.hok.fresh (Nat.le_refl _)
  have ne : a ≠ s1.heap.objs.size := Nat.ne_of_lt lt
  refine ⟨s1.heap.objs.size, [s1.heap.objs.size], _, _, _, rfl, I3, turn_items (es := es) (ep := ep) ne dt sz, ⟨.none, .none, new⟩, fun b hb => ?_, q ob⟩
  rw [List.mem_singleton.mp hb]
  exact I1.fpOk (Nat.le_refl _) (by rw [upd_ne (Ne.symm ne)]; exact off)
/-- by value: the stamp says that it is held -/
def iItW (fo : EvE) : EvI := fun ρ M => (fo ρ M).bind fun q => (dicAt q.2 q.1).bind fun l => some ((l.2.map fun e => .d (itD e), [(l.1, .dic l.2 (stampAt q.2 l.1 + 1))]), q.2.set l.1 (.dic l.2 (stampAt q.2 l.1 + 1)))
theorem DicR.get' {K : PySem.W.Frag} {H : Hp} {L : List KEnt} {es : List (PyData × PyData)} (h : DicR K H L es) : ∀ {i : Nat} {p : KEnt} {e : PyData × PyData}, L[i]? = some p → es[i]? = some e → Rp K H (.ref p.1) e.1 ∧ Rp K H p.2.2 e.2 := by
  induction h with
  | nil => intro i p e h; simp at h
  | @cons a v L k d es r f dp rv _ ih =>
    intro i p e h1 h2
    cases i with
    | zero =>
      cases (show some _ = some p from h1)
      cases (show some _ = some e from h2)
      exact ⟨r, rv⟩
    | succ i => exact ih (by simpa using h1) (by simpa using h2)
theorem qi_items {fo : EvE} (hw : X.w = C.w) (h : PI X (.Tuple elts kk tpos) (.Call (.Attribute o "items" apos) [] [] cpos) (iItems X.w (tOf C fo))) : PI X (.Tuple elts kk tpos) (.Call (.Attribute o "items" apos) [] [] cpos) (tiOf C (iItW fo)) :=
  h.weak fun σ H R ⟨ρ, φ, M, s, M', env, sim, e, q⟩ => by
    obtain ⟨⟨wo, M1⟩, e1, e⟩ := bsome e
    obtain ⟨⟨l, es⟩, hl, e⟩ := bsome e
    cases e
    obtain ⟨eo, el⟩ := dicAt_eq hl
    simp only at eo el
    subst eo
    refine ⟨ρ, φ, M, _, M1, env, sim, e1, fun v φ1 H1 s1 r1 => ?_⟩
    obtain ⟨rfl, hlt⟩ := r1.isO
    obtain ⟨L, hL, dr⟩ := s1.sim.ob _ _ el
    refine ⟨φ1 l, L, rfl, by rw [hw]; exact hL, fun p np => ?_⟩
    have s2 := Step.tup (o := itemsO p (φ1 l)) s1.sim np
    have ka : KdAt C.w (upd H1 p (itemsO p (φ1 l))) (φ1 l) L := by
      obtain ⟨pp, h1, h2⟩ := hL
      exact ⟨pp, by rw [upd_ne (ne_of_none h1 np)]; exact h1, h2⟩
    refine ⟨φ1 l, L, p, rfl, upd_same, by rw [hw]; exact ka, fun ob => ?_⟩
    have s3 := Step.setO (mo := .dic es (stampAt M1 l + 1)) (o := HeldO C.w (φ1 l) ob L) s2.sim el (fun es n e => ⟨_, _, rfl, by cases e; exact Nat.lt_succ_self _⟩) fun kp => ⟨L, HeldO.kd upd_same, (dr.keep s2.keep).keep kp⟩
    rw [hw]
    refine q _ φ1 _ (s1.trans (s2.trans s3)) fun φ2 M2 H2 s4 dp => ?_
    have at2 : M2[l]? = some (.dic es (stampAt M1 l + 1)) := Deps.one.mp dp
    have atN : (M1.set l (.dic es (stampAt M1 l + 1)))[l]? = some (.dic es (stampAt M1 l + 1)) := List.getElem?_set_self (List.getElem?_eq_some_iff.mp el).1
    obtain ⟨es', n', e', _, same⟩ := s4.dics l _ _ atN
    rw [at2] at e'
    cases e'
    have held : H2 (φ1 l) = some (HeldO C.w (φ1 l) ob L) := (same rfl).2.trans upd_same
    have dr2 := ((dr.keep s2.keep).keep s3.keep).keep s4.keep
    have ln := dr.length
    refine ⟨fun k w hk => ?_, held, by rw [List.length_map]; exact ln.symm⟩
    rw [List.getElem?_map] at hk
    obtain ⟨en, hen, rfl⟩ := Option.map_eq_some_iff.mp hk
    have klt : k < L.length := by rw [ln]; exact (List.getElem?_eq_some_iff.mp hen).1
    refine ⟨⟨held, klt⟩, fun x H' ⟨T, pe, hp, ex, nT, eH⟩ => ?_⟩
    subst ex eH
    obtain ⟨rk, rv⟩ := dr2.get' hp hen
    have s5 := Step.tup (o := .tup [.ref pe.1, pe.2.2]) s4.sim nT
    exact ⟨s5, .d (.tup (SqT.of upd_same) (.cons (rk.keep s5.keep) (.cons (rv.keep s5.keep) .nil)))⟩
end
end Va

set_option Elab.async false
set_option linter.all false
set_option maxRecDepth 100000
set_option maxHeartbeats 1600000
/-! Gn13: sorted of a generator expression that gives tuples -/
namespace Gn
open PySem PySem.Spec PyProof.Rows L2 Sa PySem.W DT
/-- values and their data, that can be sorted -/
structure SortOk (K : PySem.W.Frag) (H : Hp) (bs : List (V × PyData)) : Prop where
  each : ∀ b ∈ bs, Dp K H b.1 b.2
  rows : Rows (bs.map (·.2))
  few : bs.length ≤ sizeLine
  deep : ∀ b ∈ bs, b.2.depth ≤ 60
def inOrder (bs : List (V × PyData)) : List (V × PyData) := bs.mergeSort (dataLe false (·.2))
section
variable {X : Cx} {pins : List (Addr × Obj)} {σ : L2.St} {H : Hp} {s : Shared}
/-- a value and what it stands for -/
def VIs (bs : List (V × PyData)) (v : Value) (b : V × PyData) : Prop := b ∈ bs ∧ RelV b.1 v
theorem each_is : ∀ {bs bs' : List (V × PyData)} {us : List Value}, (∀ b ∈ bs', b ∈ bs) → Vals (bs'.map (·.1)) us → EachIs (VIs bs) us bs'
  | _, [], _, _, .nil => .nil
  | bs, b :: bs', u :: us, m, .cons r t => .cons ⟨m b List.mem_cons_self, r⟩ (each_is (fun b h => m b (List.mem_cons_of_mem _ h)) t)
theorem vals_is {bs : List (V × PyData)} : ∀ {bs' : List (V × PyData)} {us : List Value}, EachIs (VIs bs) us bs' → Vals (bs'.map (·.1)) us
  | [], _, .nil => .nil
  | _ :: _, _, .cons e t => .cons e.2 (vals_is t)
theorem list_ordered {A : Around} {E : Value → Shared → Prop} {Q : VK} {bs : List (V × PyData)} {us : List Value} (hu : A.units + 128 < cLine) (I : Inv X pins σ H s) (ok : SortOk X.K H bs) (rel : Vals (bs.map (·.1)) us)
    (q : ∀ l, H l = none → Q (.ref l) (upd H l (.lst ((inOrder bs).map (·.1))))) :
    wpAny (model X.prog X.w) A (call (.builtin "list.sort") [.ref s.heap.objs.size]) (fun _ s' => EP X pins σ Q (.ref s.heap.objs.size) s') E { s with heap := s.heap.push (seqObj "list" us.toArray 0) } := by
  have at1 : (s.heap.push (seqObj "list" us.toArray 0)).get? s.heap.objs.size = some (seqObj "list" us.toArray 0) := Heap.get?_push_size _ rfl
  have each := each_is (bs := bs) (fun b h => h) rel
  have reads : ∀ (hh : Heap), (∀ c o, s.heap.get? c = some o → hh.get? c = some o) → EachIs (fun v b => ∃ as, Reads hh v b.2 as) us bs := fun hh up => each.mono fun v b ⟨m, r⟩ => by
    obtain ⟨as, rd⟩ := Dp.reads I b.2 _ _ (ok.each b m) r
    exact ⟨as, PyProof.Rows.Reads.keeps up rd⟩
  refine ok.rows.list_sort (A := A) (s := { s with heap := s.heap.push (seqObj "list" us.toArray 0) }) (R := VIs bs) at1 each (reads _ fun c o e => sortingHeap_old (Nat.ne_of_lt (Heap.lt_size e)) (Heap.get?_push_of_some _ e)) ok.few (fun b hb => by have := ok.deep b hb; omega) fun out len each2 => ?_
  have pm : (inOrder bs).Perm bs := List.mergeSort_perm ..
  have vo : Vals ((inOrder bs).map (·.1)) out := vals_is each2
  obtain ⟨c, at2⟩ := sortedHeap_at (out := out.toArray) at1
  generalize hh2 : sortedHeap (s.heap.push (seqObj "list" us.toArray 0)) s.heap.objs.size us out.toArray = h2 at at2
  have up : ∀ b o, s.heap.get? b = some o → h2.get? b = some o := fun b o e => by
    have lt := Heap.lt_size e
    rw [← hh2, sortedHeap_old (Nat.ne_of_lt lt) (by rw [size_push']; exact Nat.lt_succ_of_lt lt)]
    exact Heap.get?_push_of_some _ e
  have fresh : H s.heap.objs.size = none := I.hok.fresh (Nat.le_refl _)
  have I0 : Inv X pins σ H { s with heap := h2, toks := s.toks } := I.kept (t' := s.toks) up
  have I1 : Inv X pins σ (upd H s.heap.objs.size (.lst ((inOrder bs).map (·.1)))) { s with heap := h2, toks := s.toks } :=
    I0.take (h' := h2) (t' := s.toks) (fun b o _ e => e) (I.fpOk (Nat.le_refl _) fresh) ⟨by rw [List.length_map, pm.length_eq]; exact ok.few, _, c, vo, at2⟩
  exact ⟨.ref s.heap.objs.size, _, I1, rfl, q _ fresh⟩
/-- what a generator for sorted owes -/
def uSort (K : PySem.W.Frag) (g : TG) (tt : TT) (te : TE) (vs : List Nat) : It → L2.St → Hp → VK → Prop := fun J σ H Q => ∃ W, Turns J g tt te vs (wipe σ vs) yMore (fun ys H => ∃ bs : List (V × PyData), bs.map (·.1) = ys ∧ SortOk K H bs ∧ ∀ l, H l = none → Q (.ref l) (upd H l (.lst ((inOrder bs).map (·.1))))) W ∧ ∃ m, W 0 m [] H
end
section
variable {X : Cx} {c P : Addr} {elt tg iter : Expr} {ifs : List Expr} {gpos p pos : Pos} {scope : Scope} {own : List (Str × Nat)} {wi : TI} {g : TG} {tt : TT} {te : TE} {k : Nat}
theorem pe_sortX (hr : Room (k + 1) X.A) (hf : Free X.A) (hu : X.A.units + 160 < cLine) (hc : X.calm = true) (hN : X.N.Nodup) (hgl : Gl X "sorted") (hm : X.mg "sorted" = none) (TB : LamX.TabB X.base X.mg c P) (hcode : X.env.code = .ref c) (S : GSc scope) (ok : BlkOk X.N X.env.scope scope own) (hi : PI X tg iter wi)
    (hg : InG X scope k fun Y => PG Y tg g) (ht : InG X scope k fun Y => PTs Y ifs tt) (he : InG X scope k fun Y => PE Y elt te) (hs : ∀ v, genFold iter X.env v = pure v)
    (hz : starEach [gexp elt tg iter ifs scope gpos] X.env = (false, eval (gexp elt tg iter ifs scope gpos) X.env) :: starEach [] X.env := by rfl) :
    PE X (.Call (.Name "sorted" p) [gexp elt tg iter ifs scope gpos] [] pos) (tGx P wi (uSort X.K g tt te (own.map (·.2)))) := by
  refine ⟨fun pins s σ H Q I h => ?_⟩
  refine wpAny_Call_Name_kw (ld_blt (u := .builtin "sorted") I hgl hm (by decide +kernel) ?_)
  refine PyProof.Rows.callWith_builtin1 ?_ hz (by rfl); rw [hz]
  show wpAny _ _ (spliced ((false, eval (gexp elt tg iter ifs scope gpos) X.env) :: backTo pos (starEach [] X.env))) _ _ s
  refine Calls.spliced_cons (gen_make (R := fun J H2 => uSort X.K g tt te (own.map fun q : Str × Nat => q.2) J σ H2 Q) hr hf hc hN TB hcode S ok hi hg ht he hs I h fun J H4 a s5 Xg fp tn gob gi ⟨W, turns, hm⟩ D => Calls.spliced_nil ?_)
  refine Calls.call_function_entry kind_sorted plain_sorted entry_sorted (args_sorted1 _) ?_
  unfold Builtin.«sorted»
  refine wpAny_bind (m := checkCount "sorted" 1 1 _) (wpAny_pure (wpAny_bind ?_))
  rw [← D.prog, ← D.w]
  refine collectG (A := X.A.in1) D (((D.wakes hr.hd hr.depth).up).up) turns hm fun ys us H s' J' rel ⟨bs, eb, so, q⟩ => ?_
  rw [D.prog, D.w]
  subst eb
  have len : us.length ≤ sizeLine := by rw [← rel.length, List.length_map]; exact so.few
  refine wpAny_bind (wpAny_newList ?_ len)
  refine wpAny_bind (wpAny_holding (thn (list_ordered (A := X.A.in1) (by show X.A.units + 1 + 128 < cLine; omega) J' so rel q) fun _ s2 e => ?_))
  exact wpAny_pure ⟨_, rfl, e⟩
end
end Gn

set_option Elab.async false
set_option linter.all false
set_option maxRecDepth 100000
set_option maxHeartbeats 1000000
/-! Gn14: sorted of a generator expression by value -/
namespace Va
open PySem PySem.Spec PyProof.Rows L2 Sa Gn
open Classical in
noncomputable def eSortX (fi : EvI) (g : EvG) (t : EvT) (e : EvE) (vs : List Nat) : EvE := fun ρ M => (fi ρ M).bind fun p =>
  (gxL p.1.2 g t e (wipeW ρ vs) p.1.1 [] p.2).bind fun q => (datas q.1).bind fun ds => if Rows ds ∧ (∀ d ∈ ds, d.depth ≤ 60) ∧ ds.length ≤ sizeLine then some (.obj q.2.length, q.2 ++ [.lst ((ds.mergeSort (PySem.W.dataLe false id)).map W.d)]) else none
section
variable {C : Ck} {P : Addr} {fi : EvI} {g : EvG} {ft : EvT} {fe : EvE} {vs is : List Nat}
/-- things and their data -/
theorem both_of {φ : Nat → Addr} {n : Nat} {H : Hp} : ∀ {ys : List V} {ds : List PyData}, RwAll C φ n H ys (ds.map W.d) → ∃ bs : List (V × PyData), bs.map (·.1) = ys ∧ bs.map (·.2) = ds ∧ ∀ b ∈ bs, Rp C.K H b.1 b.2
  | [], [], _ => ⟨[], rfl, rfl, fun _ h => by cases h⟩
  | y :: ys, d :: ds, .cons (.d r) t => by
    obtain ⟨bs, rfl, rfl, h⟩ := both_of t
    exact ⟨(y, d) :: bs, rfl, rfl, fun b hb => by rcases List.mem_cons.mp hb with rfl | hb; exact r; exact h b hb⟩
theorem rw_both {φ : Nat → Addr} {n : Nat} {H : Hp} : ∀ {bs : List (V × PyData)}, (∀ b ∈ bs, Rp C.K H b.1 b.2) → RwAll C φ n H (bs.map (·.1)) ((bs.map (·.2)).map W.d)
  | [], _ => .nil
  | b :: bs, h => .cons (.d (h b List.mem_cons_self)) (rw_both fun b hb => h b (List.mem_cons_of_mem _ hb))
theorem sortX_of (hP : P ∈ C.T) (hv : ∀ i ∈ is, i ∈ vs) {σ : L2.St} {H : Hp} {Q : VK} (h : tOf C (eSortX fi g ft fe vs) σ H Q) : tGx P (tiOf C fi) (uSort C.K (tgOf C is g) (ttOf C ft) (tOf C fe) vs) σ H Q := by
  obtain ⟨ρ, φ, M, w, M', env, sim, e, q⟩ := h
  obtain ⟨⟨⟨items, deps⟩, M1⟩, e1, e⟩ := bsome e
  obtain ⟨⟨rs, Mz⟩, e2, e⟩ := bsome e
  obtain ⟨ds, ed, e⟩ := bsome e
  split at e
  case isFalse => cases e
  rename_i good
  cases e
  refine ⟨ρ, φ, M, _, M1, env, sim, e1, fun J φ1 H1 s1 ok => ⟨s1.sim.tab P hP, fun H2 tb => ?_⟩⟩
  have s2 := Step.tab s1.sim hP tb
  refine ⟨fun i m ys Hx => ∃ φ M ws acc, m = ws.length ∧ items.drop i = ws ∧ i ≤ items.length ∧ Step C φ1 M1 H2 φ M Hx ∧ RwAll C φ M.length Hx ys acc ∧ gxL deps g ft fe (wipeW ρ vs) ws acc M = some (rs, Mz),
    ?_, items.length, φ1, M1, items, [], rfl, rfl, Nat.zero_le _, .refl s2.sim, .nil, e2⟩
  intro i m ys Hx ⟨φ3, M3, ws, acc, hm, hd, hi, s3, ra, e3⟩
  have s13 : Step C φ1 M1 H1 φ3 M3 Hx := s2.trans s3
  have s03 : Step C φ M H φ3 M3 Hx := s1.trans s13
  cases ws with
  | nil =>
    have hn : i = items.length := by
      have := congrArg List.length hd
      simp at this
      omega
    simp only [gxL] at e3
    split at e3
    case isFalse => cases e3
    rename_i dp
    cases e3
    have er := datas_eq ed
    simp only at er
    rw [er] at ra
    obtain ⟨bs, b1, b2, b3⟩ := both_of ra
    refine .inl ⟨by rw [hn]; exact (ok φ3 _ Hx s13 dp).2, bs, b1, ⟨fun b hb => (b3 b hb).dp, by rw [b2]; exact good.1, by rw [← List.length_map (f := (·.2)), b2]; exact good.2.2, fun b hb => good.2.1 b.2 (by rw [← b2]; exact List.mem_map.mpr ⟨b, hb, rfl⟩)⟩, fun l nl => ?_⟩
    have pm : (inOrder bs).Perm bs := List.mergeSort_perm ..
    have ro : RwAll C φ3 Mz.length Hx ((inOrder bs).map (·.1)) (((inOrder bs).map (·.2)).map W.d) := rw_both fun b hb => b3 b (pm.mem_iff.mp hb)
    have eo : (inOrder bs).map (·.2) = ds.mergeSort (PySem.W.dataLe false id) := by rw [← b2]; exact (mergeSort_map (fun b : V × PyData => b.2) bs).symm
    rw [eo] at ro
    have s4 := Step.list s3.sim nl ro
    exact q _ _ _ (s03.trans s4) .new
  | cons w ws =>
    simp only [gxL] at e3
    split at e3
    case isFalse => cases e3
    rename_i dp
    obtain ⟨ρ4, e4, e3⟩ := bsome e3
    obtain ⟨⟨k, M5⟩, e5, e3⟩ := bsome e3
    have hk : items[i]? = some w := by
      have : (items.drop i)[0]? = some w := by rw [hd]; rfl
      simpa using this
    have hlt : i < items.length := (List.getElem?_eq_some_iff.mp hk).1
    have hd' : items.drop (i + 1) = ws := by
      rw [← List.drop_drop, hd]; rfl
    obtain ⟨go, yl⟩ := (ok φ3 M3 Hx s13 dp).1 i w hk
    refine .inr ⟨go, fun ys' H' => ∃ φ M acc, Step C φ1 M1 H2 φ M H' ∧ RwAll C φ M.length H' ys' acc ∧ gxL deps g ft fe (wipeW ρ vs) ws acc M = some (rs, Mz), fun ys' H' ⟨φ, M, acc, h1, h2, h3⟩ => ⟨ws.length, by rw [hm]; exact Nat.lt_succ_self _, φ, M, ws, acc, rfl, hd', hlt, h1, h2, h3⟩, fun x H' hy => ?_⟩
    obtain ⟨st, rx⟩ := yl x H' hy
    have s0 : Step C φ M H φ3 M3 H' := s03.trans st
    refine ⟨wipeW ρ vs, φ3, M3, w, ρ4, (env.step s0).wipe vs, st.sim, rx, e4, fun σ4 env4 on4 => ⟨wipe_only hv on4, ρ4, φ3, M3, k, M5, env4, st.sim, e5, fun φ5 H5 s5 => ?_⟩⟩
    cases k with
    | false => exact ⟨φ5, M5, acc, s3.trans (st.trans s5), ra.step (st.trans s5), e3⟩
    | true =>
      obtain ⟨⟨y, M6⟩, e6, e3⟩ := bsome e3
      split at e3
      case isFalse => cases e3
      rename_i fits
      refine ⟨ρ4, φ5, M5, y, M6, env4.step s5, s5.sim, e6, fun v φ6 H6 s6 r6 => ⟨by rw [ra.length]; exact fits, φ6, M6, acc ++ [y], s3.trans (st.trans (s5.trans s6)), ?_, e3⟩⟩
      exact (ra.step (st.trans (s5.trans s6))).append (.cons r6 .nil)
end
section
variable {C : Ck} {X : Cx} {c P : Addr} {elt tg iter : Expr} {ifs : List Expr} {gpos p pos : Pos} {scope : Scope} {own : List (Str × Nat)} {fi : EvI} {g : EvG} {ft : EvT} {fe : EvE} {k : Nat} {is : List Nat}
theorem q_sortX (hK : X.K = C.K) (hr : Room (k + 1) X.A) (hf : Free X.A) (hu : X.A.units + 160 < cLine) (hc : X.calm = true) (hN : X.N.Nodup) (hgl : Gl X "sorted") (hm : X.mg "sorted" = none) (TB : LamX.TabB X.base X.mg c P) (hP : P ∈ C.T) (hcode : X.env.code = .ref c) (S : GSc scope) (ok : BlkOk X.N X.env.scope scope own) (hi : PI X tg iter (tiOf C fi)) (hv : ∀ i ∈ is, i ∈ own.map (·.2))
    (hg : InG X scope k fun Y => PG Y tg (tgOf C is g)) (ht : InG X scope k fun Y => PTs Y ifs (ttOf C ft)) (he : InG X scope k fun Y => PE Y elt (tOf C fe)) (hs : ∀ v, genFold iter X.env v = pure v := by intro _; rfl)
    (hz : starEach [gexp elt tg iter ifs scope gpos] X.env = (false, eval (gexp elt tg iter ifs scope gpos) X.env) :: starEach [] X.env := by rfl) :
    PE X (.Call (.Name "sorted" p) [gexp elt tg iter ifs scope gpos] [] pos) (tOf C (eSortX fi g ft fe (own.map (·.2)))) :=
  (pe_sortX hr hf hu hc hN hgl hm TB hcode S ok hi hg ht he hs hz).weak fun _ _ _ h => by rw [hK]; exact sortX_of hP hv h
end
end Va

set_option Elab.async false
set_option linter.all false
set_option maxRecDepth 100000
set_option maxHeartbeats 1000000
/-! Va19: any of a list; o[i] += number; list.index of a tuple; what is never reached -/
namespace Va
open PySem PySem.Spec PyProof.Rows L2 L2.DX Sa
section
variable {X : Cx} {C : Ck}
def fAny : Fn := fun as M => match as with
  | [a] => (lstAt M a).bind fun l => (boolsOf l.2).bind fun is => some (.d (.bool (is.any id)), M)
  | _ => none
theorem vc_any : VC C (rAny C.K) fAny := by
  intro φ M H xs as w M' Q sim r e q
  unfold fAny at e
  split at e
  · obtain ⟨⟨i, ws⟩, es, e⟩ := bsome e
    obtain ⟨is, ei, e⟩ := bsome e
    cases e
    obtain ⟨x, rfl, r1⟩ := one_arg r
    obtain ⟨e1, e2⟩ := lstAt_eq es
    subst e1
    obtain ⟨rfl, _⟩ := r1.isO
    obtain ⟨vs, hv, r2⟩ := sim.ob _ _ e2
    have := boolsOf_rel r2 ei
    subst this
    exact ⟨_, is, rfl, SqL.of hv, q _ φ H (.refl sim) (.d (.bl _))⟩
  · cases e
/-! o[i] += e -/
def rAtL : V → V → Hp → VK → Prop := fun o i H Q => ∃ p xs k x, o = .ref p ∧ i = .int k ∧ H p = some (.lst xs) ∧ 0 ≤ k ∧ xs[k.toNat]? = some x ∧ Q x H
theorem get_atL : PGet X rAtL := by
  intro pins s σ H o i ov iv Q I ro ri ⟨p, xs, k, x, eo, ei, hp, k0, hx, q⟩
  subst eo ei
  cases ro
  obtain ⟨t, rfl⟩ := ri
  obtain ⟨its, n, r, ho, hz⟩ := I.lst hp
  obtain ⟨w, ew, rw'⟩ := r.get hx
  have lt : k.toNat < xs.length := (List.getElem?_eq_some_iff.mp hx).1
  have big : (sizeLine : Int) < 2 ^ 63 := by decide
  exact wpAny_getItem_list ⟨_, ho, rfl, n, rfl⟩ k0 (by omega) (by simpa using ew) ⟨x, H, I, rw', q⟩
/-- o[i] op= e, of numbers -/
def sAugL (g : Int → Int → Int) (o i e : EvE) : EvS := fun ρ M => (o ρ M).bind fun q => (i ρ q.2).bind fun r => (asI r.1).bind fun k => (lstAt r.2 q.1).bind fun l =>
  if 0 ≤ k then (l.2[k.toNat]?).bind fun x => (asI x).bind fun m => (e ρ r.2).bind fun p => (asI p.1).bind fun n => (lstAt p.2 q.1).bind fun l2 => (ixN l2.2.length k).bind fun j =>
    some (.nx ρ (p.2.set l2.1 (.lst (l2.2.set j (.d (.int (g m n))))))) else none
theorem q_augL {g : Int → Int → Int} {op : Operator} {o i e : Expr} {fo fi fe : EvE} {tpos pos : Pos} (hop : PIp X op (ipI g)) (ho : PE X o (tOf C fo)) (hi : PE X i (tOf C fi)) (he : PE X e (tOf C fe))
    (ha : ∀ ov iv new, augStore i ov iv new = (do holding [new, ov, iv] (setItem ov iv new); release [new, ov, iv] []; pure .next) := by intros; rfl) : PS X (.AugAssign (.Subscript o i tpos) op e pos) (tsOf C (sAugL g fo fi fe)) :=
  (ps_augS ho hi get_atL he hop set_list ha).weak fun D σ H ⟨ρ, φ, M, ou, env, sim, e, q⟩ => by
    obtain ⟨⟨y, M1⟩, e1, e⟩ := bsome e
    obtain ⟨⟨z, M2⟩, e2, e⟩ := bsome e
    obtain ⟨k, hk, e⟩ := bsome e
    obtain ⟨⟨l, ws⟩, hl, e⟩ := bsome e
    split at e
    case isFalse => cases e
    rename_i k0
    obtain ⟨x, hx, e⟩ := bsome e
    obtain ⟨m, em, e⟩ := bsome e
    obtain ⟨⟨p, M3⟩, e3, e⟩ := bsome e
    obtain ⟨n, en, e⟩ := bsome e
    obtain ⟨⟨l2, ws2⟩, hl2, e⟩ := bsome e
    obtain ⟨j, hj, e'⟩ := bsome e
    cases e'
    obtain ⟨ey, el⟩ := lstAt_eq hl
    obtain ⟨ey2, el2⟩ := lstAt_eq hl2
    have ez := asI_eq hk
    have ex := asI_eq em
    have ep := asI_eq en
    simp only at ey ey2 ez ep el el2 hx hj
    subst ey ez ex ep
    have ell : l2 = l := by cases ey2; rfl
    subst ell
    clear e
    refine ⟨ρ, φ, M, _, M1, env, sim, e1, fun v φ1 H1 s1 r1 => ⟨ρ, φ1, M1, _, M2, env.step s1, s1.sim, e2, fun v2 φ2 H2 s2 r2 => ?_⟩⟩
    obtain ⟨rfl, lt1⟩ := (r1.step s2).isO
    obtain rfl := r2.isI
    obtain ⟨us, hu, ru⟩ := s2.sim.ob l2 _ el
    obtain ⟨xv, hxv, rxv⟩ := ru.get hx
    obtain rfl := rxv.isI
    refine ⟨φ2 l2, us, k, _, rfl, rfl, hu, k0, hxv, ρ, φ2, M2, _, M3, (env.step s1).step s2, s2.sim, e3, fun v3 φ3 H3 s3 r3 => ?_⟩
    obtain rfl := r3.isI
    obtain ⟨us3, hu3, ru3⟩ := s3.sim.ob l2 _ el2
    have sm : φ3 l2 = φ2 l2 := s3.ext l2 lt1
    rw [sm] at hu3
    refine ⟨m, n, rfl, rfl, φ2 l2, us3, k, j, rfl, rfl, hu3, by rw [ru3.length]; exact hj, ?_⟩
    have s4 := Step.set s3.sim el2 (RwAll.set (.d (.int (g m n))) j ru3)
    rw [sm] at s4
    have s5 := s1.trans (s2.trans (s3.trans s4))
    exact q _ φ3 _ s5 (env.step s5)
/-! list.index of a tuple -/
def rIndexT (K : PySem.W.Frag) : V → List V → Hp → VK → Prop := fun x xs H Q => ∃ (a : Addr) (zs : List V) (ds : List PyData) (y : V) (d : PyData), x = .ref a ∧ xs = [y] ∧ H a = some (.lst zs) ∧ RpAll K H zs ds ∧ flats ds = true ∧ Rp K H y d ∧ flat d = true ∧ (nk d).depth ≤ 8 ∧ nk d ∈ nks ds ∧ Q (.int ((nks ds).idxOf (nk d) : Nat)) H
theorem mt_index (hu : X.A.units + 64 < cLine) : MtR X "list.index" (rIndexT X.K) := by
  intro pins s σ H x xs v us Q I rx rxs ⟨a, zs, ds, y, d, ex, exs, ha, rz, fl, ry, fd, dp, mem, q⟩
  subst ex exs
  cases rx
  cases rxs with | cons ru t =>
  cases t
  obtain ⟨its, n, r, ho, hz⟩ := I.lst ha
  obtain ⟨as, rd⟩ := Dp.reads I d _ _ ry.dp ru
  have all : ∀ {zs : List V} {ds : List PyData} {its : List Value}, RpAll X.K H zs ds → Vals zs its → flats ds = true → NestedAll s.heap (nks ds) its := by
    intro zs ds its h
    induction h using RpAll.rec (motive_1 := fun _ _ _ => True) (K := X.K) (H := H) generalizing its with
    | nil => intro r _; cases r; exact .nil
    | cons a _ _ ih =>
      intro r f
      cases r with | cons r1 r2 =>
      have f := Bool.and_eq_true_iff.mp (show (flat _ && flats _) = true from f)
      obtain ⟨_, rd⟩ := Dp.reads I _ _ _ a.dp r1
      exact .cons (nk_is _ _ _ rd f.1) (ih r2 f.2)
    | _ => trivial
  have hn : (nks ds).length ≤ sizeLine := by
    have l1 := NestedAll.length _ _ (all rz r fl)
    rw [← l1, ← r.length]
    exact hz
  exact PySem.SeqAt.call_list_index ⟨_, ho, rfl, n, rfl⟩ (.nested (all rz r fl) (nk_is d _ as rd fd) (by show X.A.units + 1 + _ < cLine; omega)) hn mem ⟨.int ((nks ds).idxOf (nk d) : Nat), H, I.tok _, ⟨_, rfl⟩, q⟩
/-- o.index(e) -/
def eIndex (o e : EvE) : EvE := fun ρ M => (o ρ M).bind fun q => (lstAt q.2 q.1).bind fun _ => (e ρ q.2).bind fun r => (lstAt r.2 q.1).bind fun l => (datas l.2).bind fun ds => (keyD r.1).bind fun k =>
  if flats ds = true ∧ nk k ∈ nks ds then some (.d (.int ((nks ds).idxOf (nk k) : Nat)), r.2) else none
theorem q_index {o e : Expr} {fo fe : EvE} {apos cpos : Pos} (hK : X.K = C.K) (h : PE X (.Call (.Attribute o "index" apos) [e] [] cpos) (tBM X.K "list" (rIndexT X.K) (tOf C fo) (tCons (tOf C fe) tNil))) : PE X (.Call (.Attribute o "index" apos) [e] [] cpos) (tOf C (eIndex fo fe)) :=
  h.weak fun σ H Q ⟨ρ, φ, M, w, M', env, sim, e, q⟩ => by
    obtain ⟨⟨wo, M1⟩, e1, e⟩ := bsome e
    obtain ⟨⟨i1, ws1⟩, hl1, e⟩ := bsome e
    obtain ⟨⟨we, M2⟩, e2, e⟩ := bsome e
    obtain ⟨⟨i, ws⟩, hl, e⟩ := bsome e
    obtain ⟨ds, ed, e⟩ := bsome e
    obtain ⟨k, ek, e⟩ := bsome e
    split at e
    case isFalse => cases e
    rename_i good
    cases e
    obtain ⟨h1, h2⟩ := lstAt_eq hl
    obtain ⟨h3, h4⟩ := lstAt_eq hl1
    obtain ⟨ey, ⟨dd, edd⟩, fl, dp⟩ := keyD_eq ek
    have er := datas_eq ed
    simp only at h1 h2 h3 h4 ey er
    subst h1 ey er
    cases h3
    refine ⟨ρ, φ, M, _, M1, env, sim, e1, fun v φ1 H1 s1 r1 => ?_⟩
    obtain ⟨rfl, hi⟩ := r1.isO
    obtain ⟨vs1, hv1, _⟩ := s1.sim.ob _ _ h4
    refine ⟨.inl ⟨rfl, vs1, SqL.of hv1⟩, ρ, φ1, M1, _, M2, env.step s1, s1.sim, e2, fun v2 φ2 H2 s2 r2 => ?_⟩
    obtain ⟨vs, hv, r⟩ := s2.sim.ob _ _ h2
    rw [s2.ext _ hi] at hv
    cases r2 with | d r2 =>
    rw [hK]
    exact ⟨_, vs, ds, v2, k, rfl, rfl, hv, r.rp, good.1, r2, fl, dp, good.2, q _ φ2 _ (s1.trans s2) (.d (.int _))⟩
theorem _root_.L2.Room.units160 {k : Nat} {A : Around} (hr : Room k A) : A.units + 160 < cLine := by
  have := hr.un
  omega
/-! what is never reached: it tells nothing -/
def eNo : EvE := fun _ _ => none
def sNo : EvS := fun _ _ => none
theorem q_no {e : Expr} : PE X e (tOf C eNo) := ⟨fun _ _ _ _ _ _ ⟨_, _, _, _, _, _, _, e, _⟩ => by cases e⟩
theorem q_sno {st : Stmt} : PS X st (tsOf C sNo) := ⟨fun _ _ _ _ _ _ ⟨_, _, _, _, _, _, e, _⟩ => by cases e⟩
end
end Va

set_option Elab.async false
set_option linter.all false
set_option maxRecDepth 100000
set_option maxHeartbeats 1000000
/-! Va20: slices by expressions; list(x) -/
namespace Va
open PySem PySem.Spec PyProof.Rows L2 L2.DX Sa
/-- an end of a slice -/
abbrev EvO := Ev → Mem → Option (Option Int × Mem)
def toOf (C : Ck) (fo : EvO) : TO := fun σ H Q => ∃ ρ φ M i M', EnvR C φ M.length H σ ρ ∧ Sim C φ M H ∧ fo ρ M = some (i, M') ∧ ∀ φ' H', Step C φ M H φ' M' H' → Q i H'
def pN : EvO := fun _ M => some (none, M)
def pE (e : EvE) : EvO := fun ρ M => (e ρ M).bind fun p => (asI p.1).bind fun i => some (some i, p.2)
def eSlTv (l h : EvO) (a : EvE) : EvE := fun ρ M => (a ρ M).bind fun p => (l ρ p.2).bind fun q => (h ρ q.2).bind fun r => (tupOf p.1).bind fun ws => some (mkTup (cutG ws q.1 r.1), r.2)
def eSlLv (l h : EvO) (a : EvE) : EvE := fun ρ M => (a ρ M).bind fun p => (l ρ p.2).bind fun q => (h ρ q.2).bind fun r => (lstAt r.2 p.1).bind fun s => some (.obj r.2.length, r.2 ++ [.lst (cutG s.2 q.1 r.1)])
section
variable {C : Ck} {X : Cx} {e : Expr} {lo hi : Option Expr} {fa fe : EvE} {fl fh : EvO} {pos p2 : Pos}
theorem qp_none : PO X none (toOf C pN) := ⟨fun pins s σ H Q I ⟨ρ, φ, M, i, M', env, sim, e, q⟩ => by
  cases e
  exact po_none.run pins s σ H Q I (q φ H (.refl sim))⟩
theorem qp_e (he : PE X e (tOf C fe)) : PO X (some e) (toOf C (pE fe)) := ⟨fun pins s σ H Q I ⟨ρ, φ, M, i, M', env, sim, e, q⟩ => by
  obtain ⟨⟨x, M1⟩, e1, e⟩ := bsome e
  obtain ⟨k, hk, e⟩ := bsome e
  cases e
  have ex := asI_eq hk
  simp only at ex
  subst ex
  refine (po_some he).run pins s σ H Q I ⟨ρ, φ, M, _, M1, env, sim, e1, fun v φ1 H1 s1 r1 => ?_⟩
  obtain rfl := r1.isI
  exact ⟨k, rfl, q φ1 H1 s1⟩⟩
theorem q_slTv (hK : X.K = C.K) (he : PE X e (tOf C fa)) (hl : PO X lo (toOf C fl)) (hu : PO X hi (toOf C fh)) : PE X (.Subscript e (.Slice lo hi none p2) pos) (tOf C (eSlTv fl fh fa)) :=
  (pe_slice sl_tupA he hl hu).weak fun σ H Q ⟨ρ, φ, M, w, M', env, sim, e, q⟩ => by
    obtain ⟨⟨x, M1⟩, e1, e⟩ := bsome e
    obtain ⟨⟨l, M2⟩, e2, e⟩ := bsome e
    obtain ⟨⟨u, M3⟩, e3, e⟩ := bsome e
    obtain ⟨ws, ew, e⟩ := bsome e
    cases e
    refine ⟨ρ, φ, M, x, M1, env, sim, e1, fun v φ1 H1 s1 r1 => ⟨ρ, φ1, M1, l, M2, env.step s1, s1.sim, e2, fun φ2 H2 s2 => ⟨ρ, φ2, M2, u, M3, (env.step s1).step s2, s2.sim, e3, fun φ3 H3 s3 => ?_⟩⟩⟩
    obtain ⟨ad, vs, rfl, sq, r⟩ := ((r1.step s2).step s3).un ew
    have s03 := s1.trans (s2.trans s3)
    refine ⟨ad, vs, rfl, by rw [hK]; exact sq, fun h => ?_, fun h p np => ?_⟩
    · have hc : cutG ws l u = ws := by
        unfold cutG
        rw [← r.length, h.1, h.2]
        simp [r.length]
      refine q _ φ3 H3 s03 ?_
      rw [hc]
      exact .tup sq r
    · have s4 := Step.tup (o := .tup (cutV vs l u)) s03.sim np
      exact q _ φ3 _ (s03.trans s4) (.tup (SqT.of upd_same) ((cut_rel r l u).step s4))
theorem q_slLv (hK : X.K = C.K) (he : PE X e (tOf C fa)) (hl : PO X lo (toOf C fl)) (hu : PO X hi (toOf C fh)) : PE X (.Subscript e (.Slice lo hi none p2) pos) (tOf C (eSlLv fl fh fa)) :=
  (pe_slice sl_list he hl hu).weak fun σ H Q ⟨ρ, φ, M, w, M', env, sim, e, q⟩ => by
    obtain ⟨⟨x, M1⟩, e1, e⟩ := bsome e
    obtain ⟨⟨l, M2⟩, e2, e⟩ := bsome e
    obtain ⟨⟨u, M3⟩, e3, e⟩ := bsome e
    obtain ⟨⟨i, ws⟩, ew, e⟩ := bsome e
    cases e
    obtain ⟨ex, el⟩ := lstAt_eq ew
    simp only at ex
    subst ex
    refine ⟨ρ, φ, M, _, M1, env, sim, e1, fun v φ1 H1 s1 r1 => ⟨ρ, φ1, M1, l, M2, env.step s1, s1.sim, e2, fun φ2 H2 s2 => ⟨ρ, φ2, M2, u, M3, (env.step s1).step s2, s2.sim, e3, fun φ3 H3 s3 => ?_⟩⟩⟩
    obtain ⟨rfl, _⟩ := ((r1.step s2).step s3).isO
    have s03 := s1.trans (s2.trans s3)
    obtain ⟨vs, hv, r⟩ := s3.sim.ob _ _ el
    exact ⟨_, vs, rfl, SqL.of hv, fun p np => q _ _ _ (s03.trans (.list s3.sim np (cut_rel r l u))) .new⟩
/-! list(x) -/
def fList : Fn := fun as M => match as with
  | [a] => (seqOf M a).bind fun ws => some (.obj M.length, M ++ [.lst ws])
  | _ => none
theorem vc_list : VC C (fun xs H Q => ∃ p ys, xs = [.ref p] ∧ (SqL C.K H p ys ∨ SqT C.K H p ys) ∧ ∀ l, H l = none → Q (.ref l) (upd H l (.lst ys))) fList := by
  intro φ M H xs as w M' Q sim r e q
  unfold fList at e
  split at e
  · obtain ⟨ws, es, e⟩ := bsome e
    cases e
    obtain ⟨x, rfl, r1⟩ := one_arg r
    obtain ⟨a, vs, rfl, sq, r2⟩ := seq_cases sim r1 es
    exact ⟨a, vs, rfl, sq, fun l nl => q _ _ _ (.list sim nl r2) .new⟩
  · cases e
end
end Va

set_option Elab.async false
set_option linter.all false
set_option maxRecDepth 100000
set_option maxHeartbeats 1600000
/-! Dc5: d.pop(k), d keyed by nested tuples, the key there -/
namespace Sa
open PySem PySem.Spec PyProof.Rows L2 L2.DX
def kdDel (L : List KEnt) (k : NestedKey) : List KEnt := L.filter fun p => decide (p.2.1 ≠ k)
theorem kd_gone {k : NestedKey} {L : List KEnt} {xs : List (NestedKey × Addr × Value)} (pr : Paired kdRel L xs) : Paired kdRel (kdDel L k) (withoutH xs k) := by
  induction pr with
  | nil => exact .nil
  | @cons p q L xs r _ ih =>
    unfold kdDel withoutH at ih ⊢
    rw [List.filter_cons, List.filter_cons]
    by_cases e : p.2.1 = k
    · have e' : q.1 = k := r.1.trans e
      simp only [e, e', ne_eq, not_true, decide_false, Bool.false_eq_true, if_false]
      exact ih
    · have e' : ¬ q.1 = k := fun z => e (r.1.symm.trans z)
      simp only [e, e', ne_eq, not_false_eq_true, decide_true, if_true]
      exact .cons r ih
section
variable {X : Cx} {pins : List (Addr × Obj)} {σ : L2.St} {H : Hp} {s : Shared}
def rKdPop (K : PySem.W.Frag) (w : World) (a : Addr) (y : V) : Hp → VK → Prop := fun H Q => ∃ L b d v, y = .ref b ∧ KdAt w H a L ∧ KeysAt K H L ∧ Dp K H (.ref b) d ∧ flat d = true ∧ (nk d).depth ≤ 8 ∧ kdGet L (nk d) = some v ∧ Q v (upd H a (KdO w a (kdDel L (nk d))))
def tKdPop (K : PySem.W.Frag) (w : World) (td ty : TE) : TE := fun σ H Q => td σ H fun x H1 => ∃ a, x = .ref a ∧ (∃ L, KdAt w H1 a L) ∧ ty σ H1 fun y H2 => rKdPop K w a y H2 Q
theorem kd_popped {A : Around} {E : Value → Shared → Prop} {a : Addr} {y : V} {u : Value} {Q : VK} (hu : A.units + 64 < cLine) (I : Inv X pins σ H s) (ry : RelV y u) (h : rKdPop X.K X.w a y H Q) :
    wpAny (model X.prog X.w) A (call (.builtin "dict.pop") [.ref a, u]) (EP X pins σ Q) E s := by
  obtain ⟨L, b, d, v, rfl, ha, ks, hd, fl, dp, hg, q⟩ := h
  cases ry
  have k0 := kd_at I ha
  obtain ⟨xs, pr, full⟩ := k0.full (P := X.prog) (ks.all I)
  have room : (nestedKind X.prog X.w).room A.in1 := by show A.units + 1 + 8 < cLine; omega
  rcases kd_find pr (k := nk d) with ⟨z, _⟩ | ⟨v', p, z, hp, rp⟩
  · rw [hg] at z; cases z
  · rw [hg] at z
    cases z
    refine call_meetsIn F.slot_dict_pop full.typeIs F.entry_dict_pop (F.args_dict_pop_2 _ _) (meetsH_dict_pop (knd := nestedKind X.prog X.w) (d := a) (a := b) k0.1 [] (.inl rfl)) ⟨room, nk d, xs, key_is I hd fl dp, full, by rw [← Paired.length pr]; exact k0.2.1, fun p' hp' h' full' sb => ?_, fun no => by rw [hp] at no; cases no⟩
    rw [hp] at hp'
    cases hp'
    have small : (kdDel L (nk d)).length ≤ sizeLine := Nat.le_trans (List.length_filter_le _ _) k0.2.1
    obtain ⟨o, _, _, at', _⟩ := id full'
    exact ⟨v, _, I.write (by obtain ⟨_, z, _⟩ := ha; rw [z]; trivial) (.inl rfl) (fun c o hc e => (sb.2 c hc).trans e) ⟨o, at'⟩ (kdO_ok (Kd0.of (P := X.prog) k0.1 small (kd_gone pr) full')), rp, q⟩
theorem pe_kdPop {o e : Expr} {td ty : TE} {apos cpos : Pos} (hu : X.A.units + 64 < cLine) (ho : PE X o td) (he : PE X e ty) (m : M1 X o "pop" apos e cpos) : PE X (.Call (.Attribute o "pop" apos) [e] [] cpos) (tKdPop X.K X.w td ty) := by
  refine ⟨fun pins s σ H Q I h => wpAny_Call_method m.base m.few m.line PySem.F.plainAttrs_dict PySem.F.slot_dict_pop PySem.F.type_dict_pop (thn (ho.run pins s σ H _ I h) fun _ s1 ⟨x, H1, I1, rx, a, ex, ⟨L, hL⟩, q1⟩ => ?_)⟩
  subst ex
  cases rx
  obtain ⟨isD, ob, at', nd⟩ := kd_type I1 hL
  refine ⟨isD, fun b e => by cases e; exact ⟨ob, at', nd⟩, ?_⟩
  rw [m.trees]
  exact Calls.callWith_builtin rfl (Calls.evalArgs_plain (Calls.spliced_cons (thn (he.run pins s1 σ H1 _ I1 q1) fun _ s2 ⟨y, H2, I2, ry, q2⟩ => Calls.spliced_nil (kd_popped hu I2 ry q2))))
end
end Sa
namespace Va
open PySem PySem.Spec PyProof.Rows L2 L2.DX Sa
/-- without a key -/
def dDel (es : List (PyData × PyData)) (k : PyData) : List (PyData × PyData) := es.filter fun e => decide (nk e.1 ≠ nk k)
theorem DicR.del {K : PySem.W.Frag} {H : Hp} {L : List KEnt} {es : List (PyData × PyData)} (h : DicR K H L es) (k : PyData) : DicR K H (kdDel L (nk k)) (dDel es k) := by
  induction h with
  | nil => exact .nil
  | @cons a v L k' d es r f dp rv _ ih =>
    unfold kdDel dDel at ih ⊢
    rw [List.filter_cons, List.filter_cons]
    by_cases e : nk k' = nk k
    · simp only [e, ne_eq, not_true, decide_false, Bool.false_eq_true, if_false]
      exact ih
    · simp only [e, ne_eq, not_false_eq_true, decide_true, if_true]
      exact .cons r f dp rv ih
/-- o.pop(e), the key there -/
def ePop (o e : EvE) : EvE := fun ρ M => (o ρ M).bind fun q => (dicAt q.2 q.1).bind fun _ => (e ρ q.2).bind fun r => (dicAt r.2 q.1).bind fun l => (keyD r.1).bind fun k => (dGet l.2 k).bind fun v => some (.d v, r.2.set l.1 (.dic (dDel l.2 k) (stampAt r.2 l.1 + 1)))
section
variable {C : Ck} {X : Cx} {o e : Expr} {fo fe : EvE} {apos cpos : Pos}
theorem q_pop (hw : X.w = C.w) (hK : X.K = C.K) (h : PE X (.Call (.Attribute o "pop" apos) [e] [] cpos) (tKdPop X.K X.w (tOf C fo) (tOf C fe))) : PE X (.Call (.Attribute o "pop" apos) [e] [] cpos) (tOf C (ePop fo fe)) :=
  h.weak fun σ H Q ⟨ρ, φ, M, w, M', env, sim, e, q⟩ => by
    obtain ⟨⟨wo, M1⟩, e1, e⟩ := bsome e
    obtain ⟨⟨i0, es0⟩, hl0, e⟩ := bsome e
    obtain ⟨⟨wk, M2⟩, e2, e⟩ := bsome e
    obtain ⟨⟨i, es⟩, hl, e⟩ := bsome e
    obtain ⟨k, hk, e⟩ := bsome e
    obtain ⟨v, hv, e'⟩ := bsome e
    cases e'
    obtain ⟨eo, el0⟩ := dicAt_eq hl0
    obtain ⟨eo', el⟩ := dicAt_eq hl
    obtain ⟨ek', ⟨ds, ek⟩, fl, dp⟩ := keyD_eq hk
    simp only at eo eo' ek' el el0 hv
    clear e
    subst eo ek'
    have ei : i = i0 := by cases eo'; rfl
    subst ei
    refine ⟨ρ, φ, M, _, M1, env, sim, e1, fun u φ1 H1 s1 r1 => ?_⟩
    obtain ⟨rfl, hlt⟩ := r1.isO
    obtain ⟨L0, hL0, _⟩ := s1.sim.ob _ _ el0
    refine ⟨φ1 i, rfl, ⟨L0, by rw [hw]; exact hL0⟩, ρ, φ1, M1, _, M2, env.step s1, s1.sim, e2, fun u2 φ2 H2 s2 r2 => ?_⟩
    cases r2 with | d rk =>
    obtain ⟨ka, rfl⟩ := Rp.isTup (ek ▸ rk)
    obtain ⟨L, hL, dr⟩ := s2.sim.ob _ _ el
    have hi : φ2 i = φ1 i := s2.ext i hlt
    rcases dr.get k with ⟨_, z⟩ | ⟨u', d', h1, h2, h3⟩
    · rw [hv] at z; cases z
    · rw [hv] at h2
      cases h2
      have s3 := Step.setO (mo := .dic (dDel es k) (stampAt M2 i + 1)) (o := KdO C.w (φ2 i) (kdDel L (nk k))) s2.sim el (fun es n e => ⟨_, _, rfl, by cases e; exact Nat.lt_succ_self _⟩) fun kp => ⟨_, .of upd_same, (dr.del k).keep kp⟩
      rw [hi] at hL s3
      rw [hw, hK]
      exact ⟨L, ka, k, u', rfl, hL, dr.keys, rk.dp, fl, dp, h1, q _ φ2 _ (s1.trans (s2.trans s3)) (.d (h3.keep s3.keep))⟩
end
end Va

set_option Elab.async false
set_option linter.all false
set_option maxRecDepth 100000
set_option maxHeartbeats 1000000
/-! Va21: a op b op' c -/
namespace Va
open PySem PySem.Spec PyProof.Rows L2 L2.DX Sa
def eCh (f g : O2) (a b c : EvE) : EvE := fun ρ M => (a ρ M).bind fun p => (b ρ p.2).bind fun q => (f p.1 q.1 q.2).bind fun r => (asB r.1).bind fun k => if k = true then (c ρ r.2).bind fun s => g q.1 s.1 s.2 else some (.d (.bool false), r.2)
section
variable {C : Ck} {X : Cx} {a b c : Expr} {fa fb fc : EvE} {pos : Pos} {op op' : CmpOp} {r r' : R2} {f g : O2}
theorem chain_of (hv : VO2 C r f) (hv' : VO2 C r' g) {σ : L2.St} {H : Hp} {Q : VK} (h : tOf C (eCh f g fa fb fc) σ H Q) : tChain r r' (tOf C fa) (tOf C fb) (tOf C fc) σ H Q := by
  obtain ⟨ρ, φ, M, w, M', env, sim, e, q⟩ := h
  obtain ⟨⟨x, M1⟩, e1, e⟩ := bsome e
  obtain ⟨⟨y, M2⟩, e2, e⟩ := bsome e
  obtain ⟨⟨z, M3⟩, e3, e⟩ := bsome e
  obtain ⟨k, hk, e⟩ := bsome e
  refine ⟨ρ, φ, M, x, M1, env, sim, e1, fun v φ1 H1 s1 r1 => ⟨ρ, φ1, M1, y, M2, env.step s1, s1.sim, e2, fun v2 φ2 H2 s2 r2 => ?_⟩⟩
  refine hv φ2 M2 H2 v v2 x y z M3 _ s2.sim (r1.step s2) r2 e3 fun v3 φ3 H3 s3 r3 => ?_
  have ez := asB_eq hk
  simp only at ez
  subst ez
  obtain rfl := r3.isB
  refine ⟨k, rfl, ?_⟩
  have s03 := s1.trans (s2.trans s3)
  cases k with
  | false =>
    simp only [Bool.false_eq_true, if_false] at e ⊢
    cases e
    exact q _ φ3 H3 s03 (.d (.bl _))
  | true =>
    simp only [if_true] at e ⊢
    obtain ⟨⟨u, M4⟩, e4, e⟩ := bsome e
    refine ⟨ρ, φ3, M3, u, M4, env.step s03, s3.sim, e4, fun v4 φ4 H4 s4 r4 => ?_⟩
    exact hv' φ4 M4 H4 v2 v4 y u w M' Q s4.sim ((r2.step s3).step s4) r4 e fun v5 φ5 H5 s5 r5 => q v5 φ5 H5 (s03.trans (s4.trans s5)) r5
theorem q_chain (ho : OpR X (compareOp op) r) (hv : VO2 C r f) (ho' : OpR X (compareOp op') r') (hv' : VO2 C r' g) (ha : PE X a (tOf C fa)) (hb : PE X b (tOf C fb)) (hc : PE X c (tOf C fc)) (hm : lastMarks [op, op'] [b, c] = false := by with_unfolding_all rfl) : PE X (.Compare a [op, op'] [b, c] pos) (tOf C (eCh f g fa fb fc)) :=
  (pe_chain ho ho' ha hb hc hm).weak fun _ _ _ h => chain_of hv hv' h
theorem qt_chain (ho : OpR X (compareOp op) r) (hv : VO2 C r f) (ho' : OpR X (compareOp op') r') (hv' : VO2 C r' g) (ha : PE X a (tOf C fa)) (hb : PE X b (tOf C fb)) (hc : PE X c (tOf C fc)) (hm : lastMarks [op, op'] [b, c] = false := by with_unfolding_all rfl) : PT X (.Compare a [op, op'] [b, c] pos) (ttOf C (tVal (eCh f g fa fb fc))) :=
  (pt_chain ho ho' ha hb hc hm).weak fun σ H Q ⟨ρ, φ, M, k, M', env, sim, e, q⟩ => by
    obtain ⟨⟨w, M1⟩, e1, e⟩ := bsome e
    obtain ⟨k', hk, e⟩ := Option.map_eq_some_iff.mp e
    cases e
    refine chain_of hv hv' ⟨ρ, φ, M, w, M1, env, sim, e1, fun v φ1 H1 s1 r1 => ?_⟩
    have ez := asB_eq hk
    simp only at ez
    subst ez
    obtain rfl := r1.isB
    exact ⟨_, rfl, q φ1 H1 s1⟩
end
end Va

set_option Elab.async false
set_option linter.all false
set_option maxRecDepth 100000
set_option maxHeartbeats 1000000
/-! Va22: is of truths; list(range(..)); list.count, list.insert, list.pop at a place -/
namespace Va
open PySem PySem.Spec PyProof.Rows L2 L2.DX Sa
section
variable {X : Cx} {C : Ck}
/-! is, is not, of truths -/
def oIsB : O2 := fun a b M => match a, b with
  | .d (.bool p), .d (.bool q) => some (.d (.bool (decide (p = q))), M)
  | _, _ => none
def oNotB : O2 := fun a b M => match a, b with
  | .d (.bool p), .d (.bool q) => some (.d (.bool (!decide (p = q))), M)
  | _, _ => none
theorem vo_isB : VO2 C (fun x y H Q => ∃ a b, x = .bl a ∧ y = .bl b ∧ Q (.bl (decide (a = b))) H) oIsB := by
  intro φ M H x y a b w M' Q sim rx ry e q
  unfold oIsB at e
  split at e
  · cases e
    obtain rfl := rx.isB
    obtain rfl := ry.isB
    exact ⟨_, _, rfl, rfl, q _ φ H (.refl sim) (.d (.bl _))⟩
  · cases e
theorem vo_notB : VO2 C (fun x y H Q => ∃ a b, x = .bl a ∧ y = .bl b ∧ Q (.bl (!decide (a = b))) H) oNotB := by
  intro φ M H x y a b w M' Q sim rx ry e q
  unfold oNotB at e
  split at e
  · cases e
    obtain rfl := rx.isB
    obtain rfl := ry.isB
    exact ⟨_, _, rfl, rfl, q _ φ H (.refl sim) (.d (.bl _))⟩
  · cases e
/-! list(range(i, j)) -/
def rgW (i j : Int) : List W := (List.range (j - i).toNat).map fun (k : Nat) => .d (.int (i + (k : Int)))
open Classical in
noncomputable def eListRg (a b : EvE) : EvE := fun ρ M => (a ρ M).bind fun p => (b ρ p.2).bind fun q => (asI p.1).bind fun i => (asI q.1).bind fun j =>
  if InR i ∧ InR j ∧ (j - i).toNat ≤ 1000000 then some (.obj q.2.length, q.2 ++ [.lst (rgW i j)]) else none
theorem rgW_rel {φ : Nat → Addr} {n : Nat} {H : Hp} (i j : Int) : RwAll C φ n H (rgV i j) (rgW i j) := by
  unfold rgV rgW
  generalize List.range (j - i).toNat = l
  induction l with
  | nil => exact .nil
  | cons k l ih => exact .cons (.d (.int _)) ih
theorem q_listRg {e : Expr} {fa fb : EvE} (h : PE X e (tLstRg (tRg2 (tOf C fa) (tOf C fb)))) : PE X e (tOf C (eListRg fa fb)) :=
  h.weak fun σ H Q ⟨ρ, φ, M, w, M', env, sim, e, q⟩ => by
    obtain ⟨⟨x, M1⟩, e1, e⟩ := bsome e
    obtain ⟨⟨y, M2⟩, e2, e⟩ := bsome e
    obtain ⟨i, hi, e⟩ := bsome e
    obtain ⟨j, hj, e⟩ := bsome e
    split at e
    case isFalse => cases e
    rename_i good
    cases e
    have ex := asI_eq hi
    have ey := asI_eq hj
    simp only at ex ey
    subst ex ey
    refine ⟨ρ, φ, M, _, M1, env, sim, e1, fun v φ1 H1 s1 r1 => ⟨ρ, φ1, M1, _, M2, env.step s1, s1.sim, e2, fun v2 φ2 H2 s2 r2 => ?_⟩⟩
    obtain rfl := r1.isI
    obtain rfl := r2.isI
    refine ⟨i, j, rfl, rfl, ⟨good.1.1, good.1.2, good.2.1.1, good.2.1.2, Nat.le_trans good.2.2 (by decide)⟩, fun p np => ?_⟩
    exact q _ _ _ ((s1.trans s2).trans (.list s2.sim np (rgW_rel i j))) .new
/-! list.count -/
def rCntD (K : PySem.W.Frag) : V → List V → Hp → VK → Prop := fun x xs H Q => ∃ (a : Addr) (zs : List V) (ds : List PyData) (y : V) (d : PyData), x = .ref a ∧ xs = [y] ∧ H a = some (.lst zs) ∧ RpAll K H zs ds ∧ PyData.plainAll ds = true ∧ Rp K H y d ∧ d.plain = true ∧ d.depth ≤ 8 ∧ Q (.int ((ds.countP fun z => PyData.eqv z d : Nat) : Int)) H
theorem mt_countD (hu : X.A.units + 64 < cLine) : MtR X "list.count" (rCntD X.K) := by
  intro pins s σ H x xs v us Q I rx rxs ⟨a, zs, ds, y, d, ex, exs, ha, rz, pl, ry, pd, dp, q⟩
  subst ex exs
  cases rx
  obtain ⟨u, rfl, ru⟩ := rxs.one
  obtain ⟨its, n, r, ho, hz⟩ := I.lst ha
  obtain ⟨bs, rd⟩ := Dp.reads I d _ _ ry.dp ru
  obtain ⟨as, rds⟩ := Dp.readsAll I ds _ _ rz.dp r
  exact SeqAt.count_list_data (vs := its.toArray) ⟨_, ho, rfl, n, rfl⟩ (by simpa using rds) rd pl pd (by omega) ⟨.int _, H, I.tok _, ⟨_, rfl⟩, q⟩
def eCount (o e : EvE) : EvE := fun ρ M => (o ρ M).bind fun q => (lstAt q.2 q.1).bind fun _ => (e ρ q.2).bind fun r => (lstAt r.2 q.1).bind fun l => (datas l.2).bind fun ds => match r.1 with
  | .d d => if PyData.plainAll ds = true ∧ d.plain = true ∧ d.depth ≤ 8 then some (.d (.int ((ds.countP fun z => PyData.eqv z d : Nat) : Int)), r.2) else none
  | _ => none
theorem q_count {o e : Expr} {fo fe : EvE} {apos cpos : Pos} (hK : X.K = C.K) (h : PE X (.Call (.Attribute o "count" apos) [e] [] cpos) (tBM X.K "list" (rCntD X.K) (tOf C fo) (tCons (tOf C fe) tNil))) : PE X (.Call (.Attribute o "count" apos) [e] [] cpos) (tOf C (eCount fo fe)) :=
  h.weak fun σ H Q ⟨ρ, φ, M, w, M', env, sim, e, q⟩ => by
    obtain ⟨⟨wo, M1⟩, e1, e⟩ := bsome e
    obtain ⟨⟨i1, ws1⟩, hl1, e⟩ := bsome e
    obtain ⟨⟨we, M2⟩, e2, e⟩ := bsome e
    obtain ⟨⟨i, ws⟩, hl, e⟩ := bsome e
    obtain ⟨ds, ed, e⟩ := bsome e
    obtain ⟨h1, h2⟩ := lstAt_eq hl
    obtain ⟨h3, h4⟩ := lstAt_eq hl1
    have er := datas_eq ed
    simp only at h1 h2 h3 h4 er e
    cases we with
    | obj => cases e
    | scr => cases e
    | pack => cases e
    | d d =>
      simp only at e
      split at e
      case isFalse => cases e
      rename_i good
      cases e
      subst h1 er
      cases h3
      refine ⟨ρ, φ, M, _, M1, env, sim, e1, fun v φ1 H1 s1 r1 => ?_⟩
      obtain ⟨rfl, hi⟩ := r1.isO
      obtain ⟨vs1, hv1, _⟩ := s1.sim.ob _ _ h4
      refine ⟨.inl ⟨rfl, vs1, SqL.of hv1⟩, ρ, φ1, M1, _, _, env.step s1, s1.sim, e2, fun v2 φ2 H2 s2 r2 => ?_⟩
      obtain ⟨vs, hv, r⟩ := s2.sim.ob _ _ h2
      rw [s2.ext _ hi] at hv
      cases r2 with | d r2 =>
      rw [hK]
      exact ⟨_, vs, ds, v2, d, rfl, rfl, hv, r.rp, good.1, r2, good.2.1, good.2.2, q _ φ2 _ (s1.trans s2) (.d (.int _))⟩
/-! list.insert -/
def rIns : V → List V → Hp → VK → Prop := fun x vs H Q => ∃ (l : Addr) (xs : List V) (i : Int) (y : V), x = .ref l ∧ vs = [.int i, y] ∧ H l = some (.lst xs) ∧ xs.length < sizeLine ∧ 0 ≤ i ∧ i < 2 ^ 63 ∧ Q .non (upd H l (.lst (xs.take i.toNat ++ [y] ++ xs.drop i.toNat)))
open Classical in
noncomputable def sIns (o i e : EvE) : EvE := fun ρ M => (o ρ M).bind fun q => (lstAt q.2 q.1).bind fun _ => (i ρ q.2).bind fun s => (asI s.1).bind fun k => (e ρ s.2).bind fun r => (lstAt r.2 q.1).bind fun l =>
  if l.2.length < 1000000 ∧ 0 ≤ k ∧ InR k then some (.d .none, r.2.set l.1 (.lst (l.2.take k.toNat ++ [r.1] ++ l.2.drop k.toNat))) else none
theorem q_ins {o i e : Expr} {fo fi fe : EvE} {apos cpos : Pos} (h : PE X (.Call (.Attribute o "insert" apos) [i, e] [] cpos) (tBM X.K "list" rIns (tOf C fo) (tCons (tOf C fi) (tCons (tOf C fe) tNil)))) : PE X (.Call (.Attribute o "insert" apos) [i, e] [] cpos) (tOf C (sIns fo fi fe)) :=
  h.weak fun σ H Q ⟨ρ, φ, M, w, M', env, sim, e, q⟩ => by
    obtain ⟨⟨wo, M1⟩, e1, e⟩ := bsome e
    obtain ⟨⟨i1, ws1⟩, hl1, e⟩ := bsome e
    obtain ⟨⟨wk, M2⟩, e2, e⟩ := bsome e
    obtain ⟨k, hk, e⟩ := bsome e
    obtain ⟨⟨we, M3⟩, e3, e⟩ := bsome e
    obtain ⟨⟨i, ws⟩, hl, e9⟩ := bsome e
    obtain ⟨h1, h2⟩ := lstAt_eq hl
    obtain ⟨h3, h4⟩ := lstAt_eq hl1
    have ex := asI_eq hk
    simp only at h1 h2 h3 h4 e9 ex
    split at e9
    case isFalse => cases e9
    rename_i good
    cases e9
    subst ex h1
    cases h3
    refine ⟨ρ, φ, M, _, M1, env, sim, e1, fun v φ1 H1 s1 r1 => ?_⟩
    obtain ⟨rfl, hi⟩ := r1.isO
    obtain ⟨vs1, hv1, _⟩ := s1.sim.ob _ _ h4
    refine ⟨.inl ⟨rfl, vs1, SqL.of hv1⟩, ρ, φ1, M1, _, M2, env.step s1, s1.sim, e2, fun v2 φ2 H2 s2 r2 => ⟨ρ, φ2, M2, _, M3, (env.step s1).step s2, s2.sim, e3, fun v3 φ3 H3 s3 r3 => ?_⟩⟩
    obtain rfl := r2.isI
    obtain ⟨vs, hv, r⟩ := s3.sim.ob _ _ h2
    have sm := (s2.trans s3).ext _ hi
    rw [sm] at hv
    have s4 := Step.set s3.sim h2 (((r.take k.toNat).append (.cons r3 .nil)).append (r.drop k.toNat))
    rw [sm] at s4
    have big : (2 : Int) ^ 62 < 2 ^ 63 := by decide
    refine ⟨_, vs, k, v3, rfl, rfl, hv, Nat.lt_of_lt_of_le (by rw [r.length]; exact good.1) (by decide), good.2.1, Int.lt_trans good.2.2.2 big, ?_⟩
    exact q _ φ3 _ (s1.trans (s2.trans (s3.trans s4))) (.d .non)
/-! list.pop at a place -/
theorem RwAll.erase {φ : Nat → Addr} {n : Nat} {H : Hp} : ∀ {vs : List V} {ws : List W} (k : Nat), RwAll C φ n H vs ws → RwAll C φ n H (vs.eraseIdx k) (ws.eraseIdx k)
  | _, _, _, .nil => .nil
  | _, _, 0, .cons _ r => r
  | _, _, k + 1, .cons a r => .cons a (RwAll.erase k r)
open Classical in
noncomputable def ePopAt (o e : EvE) : EvE := fun ρ M => (o ρ M).bind fun q => (lstAt q.2 q.1).bind fun _ => (e ρ q.2).bind fun s => (asI s.1).bind fun i => (lstAt s.2 q.1).bind fun l =>
  if 0 ≤ i ∧ InR i then (l.2[i.toNat]?).bind fun y => some (y, s.2.set l.1 (.lst (l.2.eraseIdx i.toNat))) else none
theorem q_popAt {o e : Expr} {fo fe : EvE} {apos cpos : Pos} (h : PE X (.Call (.Attribute o "pop" apos) [e] [] cpos) (tBM X.K "list" rPopAt (tOf C fo) (tCons (tOf C fe) tNil))) : PE X (.Call (.Attribute o "pop" apos) [e] [] cpos) (tOf C (ePopAt fo fe)) :=
  h.weak fun σ H Q ⟨ρ, φ, M, w, M', env, sim, e, q⟩ => by
    obtain ⟨⟨wo, M1⟩, e1, e⟩ := bsome e
    obtain ⟨⟨i1, ws1⟩, hl1, e⟩ := bsome e
    obtain ⟨⟨wk, M2⟩, e2, e⟩ := bsome e
    obtain ⟨k, hk, e⟩ := bsome e
    obtain ⟨⟨i, ws⟩, hl, e8⟩ := bsome e
    obtain ⟨h1, h2⟩ := lstAt_eq hl
    obtain ⟨h3, h4⟩ := lstAt_eq hl1
    have ex := asI_eq hk
    simp only at h1 h2 h3 h4 e8 ex
    split at e8
    case isFalse => cases e8
    rename_i good
    obtain ⟨y, hy, e9⟩ := bsome e8
    cases e9
    subst ex h1
    cases h3
    refine ⟨ρ, φ, M, _, M1, env, sim, e1, fun v φ1 H1 s1 r1 => ?_⟩
    obtain ⟨rfl, hi⟩ := r1.isO
    obtain ⟨vs1, hv1, _⟩ := s1.sim.ob _ _ h4
    refine ⟨.inl ⟨rfl, vs1, SqL.of hv1⟩, ρ, φ1, M1, _, M2, env.step s1, s1.sim, e2, fun v2 φ2 H2 s2 r2 => ?_⟩
    obtain rfl := r2.isI
    obtain ⟨vs, hv, r⟩ := s2.sim.ob _ _ h2
    rw [s2.ext _ hi] at hv
    obtain ⟨u, hu, ru⟩ := r.get hy
    have lt : k.toNat < vs.length := (List.getElem?_eq_some_iff.mp hu).1
    have s3 := Step.set s2.sim h2 (r.erase k.toNat)
    rw [s2.ext _ hi] at s3
    have big : (2 : Int) ^ 62 < 2 ^ 63 := by decide
    have low : -(2 : Int) ^ 63 < -(2 ^ 62) := by decide
    refine ⟨_, vs, k, k.toNat, u, rfl, rfl, hv, Int.le_of_lt (Int.lt_of_lt_of_le low good.2.1), Int.lt_trans good.2.2 big, ?_, hu, q _ φ2 _ (s1.trans (s2.trans s3)) (ru.step s3)⟩
    have k0 := good.1
    have c1 : ¬ k < 0 := by omega
    have c2 : k < (vs.length : Int) := by omega
    simp [seqIndex?, c1, c2, k0]
end
end Va

set_option Elab.async false
set_option linter.all false
set_option maxRecDepth 100000
set_option maxHeartbeats 1000000
/-! Va23: dicts by numbers and texts (pots); products of great numbers -/
namespace Va
open PySem PySem.Spec PyProof.Rows L2 L2.DX Sa
noncomputable abbrev oMulW : O2 := oIc CMulW fun i j => .int (i * j)
theorem vo_mulW {C : Ck} : VO2 C (rI CMulW fun i j => .int (i * j)) oMulW := vo_Ic fun _ _ _ _ => .int _
abbrev Pot := List (Key × PyData)
def potGet (es : Pot) (k : Key) : Option PyData := (es.find? fun e => decide (e.1 = k)).map (·.2)
def potPut (es : Pot) (k : Key) (d : PyData) : Pot := if (es.any fun e => decide (e.1 = k)) = true then es.map (fun e => if e.1 = k then (e.1, d) else e) else es ++ [(k, d)]
def keyW : W → Option Key
  | .d (.int i) => some (.inl i)
  | .d (.str x) => some (.inr x)
  | _ => none
def potAt (M : Mem) : W → Option (Nat × Pot)
  | .obj i => match M[i]? with
    | some (.pot es) => some (i, es)
    | _ => none
  | _ => none
theorem potAt_eq {M : Mem} {w : W} {i : Nat} {es : Pot} (h : potAt M w = some (i, es)) : w = .obj i ∧ M[i]? = some (.pot es) := by
  cases w with
  | obj j =>
    have h : (match M[j]? with | some (.pot es) => some (j, es) | _ => none) = some (i, es) := h
    split at h
    · rename_i es' e
      cases h
      exact ⟨rfl, e⟩
    · cases h
  | d x => cases h
  | scr => cases h
  | pack ws => cases h
section
variable {C : Ck} {φ : Nat → Addr} {n : Nat} {M : Mem} {H : Hp}
theorem Rw.key {v : V} {w : W} {k : Key} (r : Rw C φ n H v w) (e : keyW w = some k) : v = kV k := by
  unfold keyW at e
  split at e
  · cases e; exact r.isI
  · cases e; exact r.isS
  · cases e
theorem PotR.get {K : PySem.W.Frag} {L : List (Key × V)} {es : Pot} (h : PotR K H L es) (k : Key) : (valV L k = none ∧ potGet es k = none) ∨ ∃ v d, valV L k = some v ∧ potGet es k = some d ∧ Rp K H v d := by
  induction h with
  | nil => exact .inl ⟨rfl, rfl⟩
  | @cons k0 v L d es r _ ih =>
    by_cases e : k0 = k
    · exact .inr ⟨v, d, valV_pos e, by simp [potGet, e], r⟩
    · rw [valV_neg (p := (k0, v)) e]
      have : potGet ((k0, d) :: es) k = potGet es k := by simp [potGet, List.find?_cons, e]
      rw [this]
      exact ih
theorem PotR.any {K : PySem.W.Frag} {L : List (Key × V)} {es : Pot} (h : PotR K H L es) (k : Key) : (L.any fun kv => decide (kv.1 = k)) = es.any fun kv => decide (kv.1 = k) := by
  induction h with
  | nil => rfl
  | cons r _ ih => simp only [List.any_cons, ih]
theorem PotR.maps {K : PySem.W.Frag} {L : List (Key × V)} {es : Pot} (h : PotR K H L es) (k : Key) {v : V} {d : PyData} (r : Rp K H v d) : PotR K H (L.map fun kv => if kv.1 = k then (kv.1, v) else kv) (es.map fun kv => if kv.1 = k then (kv.1, d) else kv) := by
  induction h with
  | nil => exact .nil
  | @cons k0 v0 L d0 es r0 _ ih =>
    simp only [List.map_cons]
    by_cases e : k0 = k
    · rw [if_pos e, if_pos e]; exact .cons r ih
    · rw [if_neg e, if_neg e]; exact .cons r0 ih
theorem PotR.snoc {K : PySem.W.Frag} {L : List (Key × V)} {es : Pot} (h : PotR K H L es) {k : Key} {v : V} {d : PyData} (r : Rp K H v d) : PotR K H (L ++ [(k, v)]) (es ++ [(k, d)]) := by
  induction h with
  | nil => exact .cons r .nil
  | cons r0 _ ih => exact .cons r0 ih
theorem PotR.put {K : PySem.W.Frag} {L : List (Key × V)} {es : Pot} (h : PotR K H L es) (k : Key) {v : V} {d : PyData} (r : Rp K H v d) : PotR K H (putK L k v) (potPut es k d) := by
  unfold putK potPut
  rw [h.any k]
  split
  · exact h.maps k r
  · exact h.snoc r
theorem PotR.length {K : PySem.W.Frag} {L : List (Key × V)} {es : Pot} (h : PotR K H L es) : L.length = es.length := by
  induction h with
  | nil => rfl
  | cons _ _ ih => simp [ih]
/-- the pairs of a display -/
def pairsW : List W → Option Pot
  | [] => some []
  | k :: .d d :: ws => (keyW k).bind fun k => (pairsW ws).bind fun r => some ((k, d) :: r)
  | _ => none
def potOf (ps : Pot) : Pot := ps.foldl (fun acc p => potPut acc p.1 p.2) []
theorem PotR.merge {K : PySem.W.Frag} {more : Pot} {rs : List (Key × V)} (t : PotR K H rs more) : ∀ {L : List (Key × V)} {es : Pot}, PotR K H L es → PotR K H (mergeK L rs) (more.foldl (fun acc p => potPut acc p.1 p.2) es) := by
  induction t with
  | nil => exact fun h => h
  | @cons k v L d es r _ ih => exact fun h => ih (h.put k r)
theorem pairs_rel : ∀ {ws : List W} {vs : List V} {ps : Pot}, RwAll C φ n H vs ws → pairsW ws = some ps → ∃ kvs : List (Key × V), PotR C.K H kvs ps ∧ vs = (kvs.map fun kv => [kV kv.1, kv.2]).flatten
  | [], _, ps, .nil, e => by cases e; exact ⟨[], .nil, rfl⟩
  | [k], _, ps, _, e => by cases k <;> cases e
  | k :: .d d :: ws, _, ps, .cons rk (.cons (.d rd) r), e => by
    obtain ⟨k', hk, e⟩ := bsome e
    obtain ⟨ps', hp, e⟩ := bsome e
    cases e
    obtain ⟨kvs, h1, h2⟩ := pairs_rel r hp
    exact ⟨_ :: kvs, .cons rd h1, by rw [rk.key hk, h2]; rfl⟩
  | k :: .obj i :: ws, _, ps, _, e => by cases k <;> cases e
  | k :: .scr :: ws, _, ps, _, e => by cases k <;> cases e
  | k :: .pack us :: ws, _, ps, _, e => by cases k <;> cases e
def aPairs : List (EvE × EvE) → EvA
  | [] => aNil
  | p :: r => aCons p.1 (aCons p.2 (aPairs r))
def trsOf (C : Ck) (l : List (EvE × EvE)) : List (TE × TE) := l.map fun p => (tOf C p.1, tOf C p.2)
def unflat : List V → List (V × V)
  | x :: y :: r => (x, y) :: unflat r
  | _ => []
theorem unflat_kvs : ∀ kvs : List (Key × V), unflat (kvs.map fun kv => [kV kv.1, kv.2]).flatten = kvs.map fun kv => (kV kv.1, kv.2)
  | [] => rfl
  | kv :: kvs => by
    show (kV kv.1, kv.2) :: unflat (kvs.map fun kv => [kV kv.1, kv.2]).flatten = _
    rw [unflat_kvs kvs]; rfl
theorem potPairs {σ : L2.St} {ρ : Ev} : ∀ (l : List (EvE × EvE)) {φ : Nat → Addr} {M : Mem} {H : Hp} {ws : List W} {M' : Mem} (Q : List (V × V) → Hp → Prop), EnvR C φ M.length H σ ρ → Sim C φ M H → aPairs l ρ M = some (ws, M') →
    (∀ vs φ' H', Step C φ M H φ' M' H' → RwAll C φ' M'.length H' vs ws → Q (unflat vs) H') → tPairs (trsOf C l) σ H Q
  | [], φ, M, H, ws, M', Q, env, sim, e, q => by cases e; exact q [] φ H (.refl sim) .nil
  | p :: r, φ, M, H, ws, M', Q, env, sim, e, q => by
    obtain ⟨⟨k, M1⟩, e1, e⟩ := bsome e
    obtain ⟨⟨us, M0⟩, e2, e⟩ := bsome e
    obtain ⟨⟨x, M2⟩, e3, e2⟩ := bsome e2
    obtain ⟨⟨ws2, M3⟩, e4, e2⟩ := bsome e2
    cases e2
    cases e
    refine ⟨ρ, φ, M, k, M1, env, sim, e1, fun v φ1 H1 s1 r1 => ⟨ρ, φ1, M1, x, M2, env.step s1, s1.sim, e3, fun v2 φ2 H2 s2 r2 => ?_⟩⟩
    exact potPairs r _ ((env.step s1).step s2) s2.sim e4 fun vs φ3 H3 s3 r3 => q (v :: v2 :: vs) φ3 H3 (s1.trans (s2.trans s3)) (.cons ((r1.step s2).step s3) (.cons (r2.step s3) r3))
/-- {k: v, ..} -/
def ePot (l : List (EvE × EvE)) : EvE := fun ρ M => (aPairs l ρ (M ++ [.pot []])).bind fun p => (pairsW p.1).bind fun ps => (potAt p.2 (.obj M.length)).bind fun q => if q.2.isEmpty ∧ ps.length ≤ 15 then some (.obj M.length, p.2.set M.length (.pot (potOf ps))) else none
section
variable {X : Cx} {e o i f : Expr} {fe fo fi ff : EvE} {pos po apos cpos : Pos}
theorem q_pot {keys : List (Option Expr)} {values : List Expr} {l : List (EvE × EvE)} (h : PPs X pos keys values (trsOf C l)) (hall : keys.all (·.isSome) = true) (hl : keys.length = values.length) (h0 : keys ≠ [])
    (h15 : keys.length ≤ 15) : PE X (.Dict keys values pos) (tOf C (ePot l)) :=
  (pe_disp h hall hl h0 h15).weak fun σ H Q ⟨ρ, φ, M, w, M', env, sim, e, q⟩ p np => by
    obtain ⟨⟨ws, M1⟩, e1, e⟩ := bsome e
    obtain ⟨ps, e2, e⟩ := bsome e
    obtain ⟨⟨i, es⟩, e3, e⟩ := bsome e
    obtain ⟨ei, el⟩ := potAt_eq e3
    have ei : M.length = i := by injection ei
    subst ei
    split at e
    case isFalse => cases e
    rename_i good
    cases e
    have z0 : es = [] := List.isEmpty_iff.mp good.1
    subst z0
    have s0 := Step.new (o := .dK []) (mo := .pot []) sim np fun φ' _ => ⟨[], upd_same, .nil⟩
    refine potPairs l _ (env.step s0) s0.sim e1 fun vs φ1 H1 s1 r1 => ?_
    obtain ⟨kvs, pr, ev⟩ := pairs_rel r1 e2
    have at1 : φ1 M.length = p := by rw [s1.ext M.length (by simp), phi_at]
    obtain ⟨L, hL, lr⟩ := s1.sim.ob M.length _ el
    rw [at1] at hL
    cases lr
    refine ⟨hL, kvs, by rw [ev, unflat_kvs], by rw [pr.length]; exact good.2, ?_⟩
    have s2 := Step.setO (mo := .pot (potOf ps)) (o := .dK (mergeK [] kvs)) s1.sim el (fun _ _ z => nomatch z) fun kp => ⟨_, upd_same, (pr.merge .nil).keep kp⟩
    rw [at1] at s2
    refine q _ _ _ (s0.trans (s1.trans s2)) ?_
    have lt : M.length < (M1.set M.length (.pot (potOf ps))).length := by
      rw [List.length_set]; exact (List.getElem?_eq_some_iff.mp el).1
    have := Rw.obj (C := C) (φ := φ1) (H := upd H1 p (.dK (mergeK [] kvs))) lt
    rwa [at1] at this
/-- o[k] of a pot -/
def eIxP (o i : EvE) : EvE := fun ρ M => (o ρ M).bind fun p => (i ρ p.2).bind fun r => (potAt r.2 p.1).bind fun l => (keyW r.1).bind fun k => (potGet l.2 k).bind fun d => some (.d d, r.2)
theorem q_ixP (hu : X.A.units + 64 < cLine) (ho : PE X o (tOf C fo)) (hi : PE X i (tOf C fi)) (hs : NoSl i) : PE X (.Subscript o i pos) (tOf C (eIxP fo fi)) :=
  (pe_dget (by omega) ho hi hs).weak fun σ H Q ⟨ρ, φ, M, w, M', env, sim, e, q⟩ => by
    obtain ⟨⟨x, M1⟩, e1, e⟩ := bsome e
    obtain ⟨⟨y, M2⟩, e2, e⟩ := bsome e
    obtain ⟨⟨l, es⟩, e3, e⟩ := bsome e
    obtain ⟨k, ek, e⟩ := bsome e
    obtain ⟨d, ed, e⟩ := bsome e
    cases e
    obtain ⟨ex, el⟩ := potAt_eq e3
    simp only at ex
    subst ex
    refine ⟨ρ, φ, M, _, M1, env, sim, e1, fun v φ1 H1 s1 r1 => ⟨ρ, φ1, M1, y, M2, env.step s1, s1.sim, e2, fun v2 φ2 H2 s2 r2 => ?_⟩⟩
    obtain ⟨rfl, _⟩ := (r1.step s2).isO
    obtain ⟨L, hL, lr⟩ := s2.sim.ob _ _ el
    rw [r2.key ek]
    rcases lr.get k with ⟨_, h⟩ | ⟨u, d', h1, h2, h3⟩
    · rw [ed] at h; cases h
    · rw [ed] at h2
      cases h2
      exact ⟨_, u, rfl, by rw [← h1]; exact .k hL, q _ φ2 H2 (s1.trans s2) (.d h3)⟩
/-- o.get(k, x) of a pot -/
def eGetP (o i f : EvE) : EvE := fun ρ M => (o ρ M).bind fun p => (potAt p.2 p.1).bind fun _ => (i ρ p.2).bind fun r => (f ρ r.2).bind fun z => (potAt z.2 p.1).bind fun l => (keyW r.1).bind fun k => some (match potGet l.2 k with | some d => .d d | none => z.1, z.2)
theorem q_getP (hu : X.A.units + 64 < cLine) (ho : PE X o (tOf C fo)) (hi : PE X i (tOf C fi)) (hf : PE X f (tOf C ff)) (m : M2 X o "get" apos i f cpos) : PE X (.Call (.Attribute o "get" apos) [i, f] [] cpos) (tOf C (eGetP fo fi ff)) :=
  (pe_dget2 (by omega) ho hi hf m).weak fun σ H Q ⟨ρ, φ, M, w, M', env, sim, e, q⟩ => by
    obtain ⟨⟨x, M1⟩, e1, e⟩ := bsome e
    obtain ⟨⟨l0, es0⟩, e0, e⟩ := bsome e
    obtain ⟨⟨y, M2⟩, e2, e⟩ := bsome e
    obtain ⟨⟨z, M3⟩, e4, e⟩ := bsome e
    obtain ⟨⟨l, es⟩, e3, e⟩ := bsome e
    obtain ⟨k, ek, e⟩ := bsome e
    cases e
    obtain ⟨ex, el⟩ := potAt_eq e3
    obtain ⟨ex0, el0⟩ := potAt_eq e0
    simp only at ex ex0 el0
    subst ex
    have e0' : l = l0 := by injection ex0
    subst e0'
    refine ⟨ρ, φ, M, _, M1, env, sim, e1, fun v φ1 H1 s1 r1 => ?_⟩
    obtain ⟨L0, hL0, _⟩ := s1.sim.ob _ _ el0
    obtain ⟨rfl, hlt⟩ := r1.isO
    refine ⟨φ1 l, rfl, .inl ⟨L0, .inl hL0⟩, ρ, φ1, M1, y, M2, env.step s1, s1.sim, e2, fun v2 φ2 H2 s2 r2 => ⟨ρ, φ2, M2, z, M3, (env.step s1).step s2, s2.sim, e4, fun v3 φ3 H3 s3 r3 => ?_⟩⟩
    obtain ⟨L, hL, lr⟩ := s3.sim.ob _ _ el
    have hi : φ3 l = φ1 l := (s3.ext l (Nat.lt_of_lt_of_le hlt s2.le)).trans (s2.ext l hlt)
    rw [hi] at hL
    rw [r2.key ek]
    rcases lr.get k with ⟨h1, h2⟩ | ⟨u, d', h1, h2, h3⟩
    · refine ⟨_, .k hL, ?_⟩
      rw [h1]
      rw [h2] at q
      exact q _ φ3 H3 (s1.trans (s2.trans s3)) r3
    · refine ⟨_, .k hL, ?_⟩
      rw [h1]
      rw [h2] at q
      exact q _ φ3 H3 (s1.trans (s2.trans s3)) (.d h3)
/-- o[k] = e of a pot -/
def sPutP (e o i : EvE) : EvS := fun ρ M => (e ρ M).bind fun p => (o ρ p.2).bind fun q => (i ρ q.2).bind fun r => (asD p.1).bind fun v => (keyW r.1).bind fun k => (potAt r.2 q.1).bind fun l =>
  if l.2.length < sizeLine then some (.nx ρ (r.2.set l.1 (.pot (potPut l.2 k v)))) else none
theorem q_putP {value : Expr} {pos' : Pos} (hu : X.A.units + 64 < cLine) (he : PE X value (tOf C fe)) (ho : PE X o (tOf C fo)) (hi : PE X i (tOf C fi)) (hs : swapsWith value (some (.Subscript o i pos')) pos.line X.env = pure false := by rfl) :
    PS X (.Assign [.Subscript o i pos'] value pos) (tsOf C (sPutP fe fo fi)) :=
  (ps_dput (by omega) ho hi he hs).weak fun D σ H ⟨ρ, φ, M, o, env, sim, e, q⟩ => by
    obtain ⟨⟨x, M1⟩, e1, e⟩ := bsome e
    obtain ⟨⟨y, M2⟩, e2, e⟩ := bsome e
    obtain ⟨⟨z, M3⟩, e3, e⟩ := bsome e
    obtain ⟨v, hv, e⟩ := bsome e
    obtain ⟨k, hk, e⟩ := bsome e
    obtain ⟨⟨l, es⟩, hl, e⟩ := bsome e
    split at e
    case isFalse => cases e
    rename_i small
    cases e
    obtain ⟨ey, el⟩ := potAt_eq hl
    have ex := asD_eq hv
    simp only at ey ex el small
    subst ey ex
    refine ⟨ρ, φ, M, _, M1, env, sim, e1, fun u φ1 H1 s1 r1 => ⟨ρ, φ1, M1, _, M2, env.step s1, s1.sim, e2, fun u2 φ2 H2 s2 r2 => ⟨ρ, φ2, M2, _, M3, (env.step s1).step s2, s2.sim, e3, fun u3 φ3 H3 s3 r3 => ?_⟩⟩⟩
    obtain ⟨rfl, hlt⟩ := (r2.step s3).isO
    cases (r1.step s2).step s3 with | d rx =>
    obtain ⟨L, hL, lr⟩ := s3.sim.ob l _ el
    rw [r3.key hk]
    refine ⟨φ3 l, _, rfl, .k hL (by rw [lr.length]; exact small), ?_⟩
    have s4 := Step.setO (mo := .pot (potPut es k v)) (o := .dK (putK L k u)) s3.sim el (fun _ _ z => nomatch z) fun kp => ⟨_, upd_same, (lr.put k rx).keep kp⟩
    have s5 := s1.trans (s2.trans (s3.trans s4))
    exact q σ φ3 _ s5 (env.step s5)
end
end
end Va

set_option Elab.async false
set_option linter.all false
set_option maxRecDepth 100000
set_option maxHeartbeats 1000000
/-! Va24: sorted of numbers -/
namespace Va
open PySem PySem.Spec PyProof.Rows L2 L2.DX Sa
theorem sorted_uniq : ∀ {a b : List Int}, a.Perm b → a.Pairwise (· ≤ ·) → b.Pairwise (· ≤ ·) → a = b
  | [], b, p, _, _ => p.nil_eq
  | x :: a, [], p, _, _ => absurd p.symm.nil_eq (by simp)
  | x :: a, y :: b, p, ha, hb => by
    obtain ⟨h1, h2⟩ := List.pairwise_cons.mp ha
    obtain ⟨h3, h4⟩ := List.pairwise_cons.mp hb
    have e : x = y := by
      rcases List.mem_cons.mp (p.mem_iff.mp List.mem_cons_self) with z | z
      · exact z
      · rcases List.mem_cons.mp (p.mem_iff.mpr List.mem_cons_self) with z' | z'
        · exact z'.symm
        · exact Int.le_antisymm (h1 y z') (h3 x z)
    subst e
    rw [sorted_uniq p.cons_inv h2 h4]
def sortI (is : List Int) : List Int := is.mergeSort fun a b => decide (a ≤ b)
theorem sortI_perm (is : List Int) : (sortI is).Perm is := List.mergeSort_perm _ _
theorem sortI_pw (is : List Int) : (sortI is).Pairwise (· ≤ ·) := by
  have := List.pairwise_mergeSort (le := fun a b : Int => decide (a ≤ b)) (fun a b c h1 h2 => by simp at h1 h2 ⊢; omega) (fun a b => by simp; omega) is
  exact this.imp fun h => by simpa using h
theorem sortI_is {is js : List Int} (p : js.Perm is) (h : js.Pairwise (· ≤ ·)) : sortI is = js := sorted_uniq ((sortI_perm is).trans p.symm) (sortI_pw is) h
/-- sorted(l), l of numbers -/
def fSortI : Fn := fun as M => match as with
  | [a] => (lstAt M a).bind fun l => (intsOf l.2).bind fun is => some (.obj M.length, M ++ [.lst ((sortI is).map fun i => .d (.int i))])
  | _ => none
theorem vc_sortI {C : Ck} : VC C (rSortedI C.K) fSortI := by
  intro φ M H xs as w M' Q sim r e q
  unfold fSortI at e
  split at e
  · rename_i a
    obtain ⟨⟨i, ws⟩, e1, e⟩ := bsome e
    obtain ⟨is, e2, e⟩ := bsome e
    cases e
    obtain ⟨x, rfl, r1⟩ := one_arg r
    obtain ⟨h1, h2⟩ := lstAt_eq e1
    subst h1
    simp only at h2 e2
    obtain ⟨rfl, _⟩ := r1.isO
    obtain ⟨vs, hv, rr⟩ := sim.ob _ _ h2
    have ev := intsOf_rel rr e2
    subst ev
    refine ⟨_, is, rfl, SqL.of hv, fun ns' p pm pw np => ?_⟩
    rw [← sortI_is pm pw]
    refine q _ _ _ (.list sim np ?_) .new
    generalize sortI is = js
    induction js with
    | nil => exact .nil
    | cons j js ih => exact .cons (.d (.int j)) ih
  · cases e
end Va

set_option Elab.async false
set_option linter.all false
set_option maxRecDepth 100000
set_option maxHeartbeats 1000000
/-! Va25: lists cut with a step of two, turned about; list(zip(..)) -/
namespace Va
open PySem PySem.Spec PyProof.Rows L2 L2.DX Sa
/-- every other one from a place on -/
def stepG {α : Type} (xs : List α) (l : Option Int) : List α := (sliceRange (sliceBounds l none (some 2) xs.length).1 (sliceBounds l none (some 2) xs.length).2.1 (sliceBounds l none (some 2) xs.length).2.2).filterMap (xs[·]?)
theorem vals_at : ∀ {xs : List V} {its : List Value}, Vals xs its → ∀ i : Nat, (xs[i]? = none ∧ its[i]? = none) ∨ ∃ v u, xs[i]? = some v ∧ its[i]? = some u ∧ RelV v u
  | _, _, .nil, i => .inl ⟨by simp, by simp⟩
  | _, _, .cons a r, 0 => .inr ⟨_, _, rfl, rfl, a⟩
  | _, _, .cons a r, i + 1 => by simpa using vals_at r i
theorem vals_pick {xs : List V} {its : List Value} (r : Vals xs its) : ∀ idx : List Nat, Vals (idx.filterMap (xs[·]?)) (idx.filterMap (its[·]?))
  | [] => .nil
  | i :: idx => by
    rcases vals_at r i with ⟨h1, h2⟩ | ⟨v, u, h1, h2, h3⟩
    · rw [List.filterMap_cons_none h1, List.filterMap_cons_none h2]; exact vals_pick r idx
    · rw [List.filterMap_cons_some h1, List.filterMap_cons_some h2]; exact .cons h3 (vals_pick r idx)
section
variable {C : Ck} {φ : Nat → Addr} {n : Nat} {H : Hp}
theorem rw_pick {xs : List V} {ws : List W} (r : RwAll C φ n H xs ws) : ∀ idx : List Nat, RwAll C φ n H (idx.filterMap (xs[·]?)) (idx.filterMap (ws[·]?))
  | [] => .nil
  | i :: idx => by
    cases h : ws[i]? with
    | none =>
      have h2 : xs[i]? = none := by
        rw [List.getElem?_eq_none_iff] at h ⊢
        rw [r.length]; exact h
      rw [List.filterMap_cons_none h2, List.filterMap_cons_none h]; exact rw_pick r idx
    | some w =>
      obtain ⟨v, h1, h2⟩ := r.get h
      rw [List.filterMap_cons_some h1, List.filterMap_cons_some h]; exact .cons h2 (rw_pick r idx)
end
section
variable {C : Ck} {X : Cx} {e : Expr} {lo : Option Expr} {fa : EvE} {pos p3 p1 p2 : Pos} {k : Nat}
def tStep2 (K : PySem.W.Frag) (l : Option Int) (te : TE) : TE := fun σ H Q => te σ H fun x H1 => ∃ a xs, x = .ref a ∧ SqL K H1 a xs ∧ ∀ p, H1 p = none → Q (.ref p) (upd H1 p (.lst (stepG xs l)))
theorem pick_step (its : List Value) (l : Option Int) : slicePick its.toArray l none (some 2) = (stepG its l).toArray := by
  unfold slicePick stepG
  simp
theorem stepG_le (its : List Value) (l : Option Int) : (stepG its l).length ≤ its.length := by
  have h := slicePick_size_le its.toArray l none (some 2)
  rw [pick_step] at h
  simpa using h
theorem pe_step2 {te : TE} {l : Option Int} {tl : TO} (he : PE X e te) (hl : PO X lo tl) (ht : ∀ σ H, tl σ H fun o H2 => o = l ∧ H2 = H) (hs : (match (Expr.Slice lo none (some (.Constant (.int 2) k p1)) p3) with | .Slice .. => true | _ => false) = true) : PE X (.Subscript e (.Slice lo none (some (.Constant (.int 2) k p1)) p3) pos) (tStep2 X.K l te) := by
  refine ⟨fun pins s σ H Q I h => ?_⟩
  have two : PO X (some (.Constant (.int 2) k p1)) (tPart (tC (.int 2))) := po_some pe_int
  refine Subscript_ (thn (he.run pins s σ H _ I h) fun v sA ⟨x, HA, IA, rA, a, xs, ex, hx, q⟩ => ?_)
  subst ex
  cases rA
  refine wpAny_Slice (thn (hl.run pins sA σ HA (fun o H2 => o = l ∧ H2 = HA) IA (ht σ HA)) fun vl sB ⟨o1, HB, IB, pl, e1, e2⟩ => ?_)
  subst e1 e2
  refine thn (po_none.run pins sB σ HB (fun o H3 => o = none ∧ H3 = HB) IB ⟨rfl, rfl⟩) fun vu sC ⟨o2, HC, IC, pu, e1, e2⟩ => ?_
  subst e1 e2
  refine thn (two.run pins sC σ HC (fun o H4 => o = some 2 ∧ H4 = HC) IC ⟨2, rfl, rfl, rfl⟩) fun vs sD ⟨o3, HD, ID, ps, e1, e2⟩ => ?_
  subst e1 e2
  have grown : Inv X pins σ HD { sD with heap := sD.heap.push { cls := .type "slice", data := .fields #[vl, vu, vs] } } := ID.kept (t' := sD.toks) fun b ob got => Heap.get?_push_of_some _ got
  obtain ⟨its, rel, there, few⟩ := grown.list hx
  have same := rel.length
  refine tail_any (ops := [.ref a, .ref sD.heap.objs.size]) there.isList.typeIs (PySem.slot_list_getitem.lookup) ?_ (by with_unfolding_all rfl)
  refine wpAny_getItem_list_slice there.isList (Heap.IsSliceOf.new _ vl vu vs) pl pu ps (by decide) ?_ (by rw [List.size_toArray]; omega)
  rw [pick_step]
  have at' : Vals (stepG xs o1) (stepG its o1) := by
    unfold stepG
    rw [same]
    exact vals_pick rel _
  have le := stepG_le its o1
  refine ⟨.ref _, _, grown.laid (t' := sD.toks) (o := .lst (stepG xs o1)) (fun b ob got => Heap.get?_push_of_some _ got) (Nat.le_refl _) ?_, rfl, q _ (grown.hok.fresh (Nat.le_refl _))⟩
  exact ⟨by rw [at'.length]; omega, _, 0, at', Heap.get?_push_size _ rfl⟩
/-- xs[l::2] -/
def eStep2 (l : Option Int) (a : EvE) : EvE := fun ρ M => (a ρ M).bind fun p => (lstAt p.2 p.1).bind fun q => some (.obj p.2.length, p.2 ++ [.lst (stepG q.2 l)])
theorem q_step2 {l : Option Int} {tl : TO} (hK : X.K = C.K) (he : PE X e (tOf C fa)) (hl : PO X lo tl) (ht : ∀ σ H, tl σ H fun o H2 => o = l ∧ H2 = H) : PE X (.Subscript e (.Slice lo none (some (.Constant (.int 2) k p1)) p3) pos) (tOf C (eStep2 l fa)) :=
  (pe_step2 he hl ht rfl).weak fun σ H Q ⟨ρ, φ, M, w, M', env, sim, e, q⟩ => by
    obtain ⟨⟨x, M1⟩, e1, e⟩ := bsome e
    obtain ⟨⟨i, ws⟩, ew, e⟩ := bsome e
    cases e
    obtain ⟨ex, el⟩ := lstAt_eq ew
    simp only at ex el
    subst ex
    refine ⟨ρ, φ, M, _, M1, env, sim, e1, fun v φ1 H1 s1 r1 => ?_⟩
    obtain ⟨rfl, _⟩ := r1.isO
    obtain ⟨vs, hv, r⟩ := s1.sim.ob _ _ el
    refine ⟨_, vs, rfl, by rw [hK]; exact SqL.of hv, fun p np => q _ _ _ (s1.trans (.list s1.sim np ?_)) .new⟩
    unfold stepG
    rw [r.length]
    exact rw_pick r _
theorem step_none (σ : L2.St) (H : Hp) : tNoPart σ H fun o H2 => o = none ∧ H2 = H := ⟨rfl, rfl⟩
theorem step_int (i : Int) (σ : L2.St) (H : Hp) : tPart (tC (.int i)) σ H fun o H2 => o = some i ∧ H2 = H := ⟨i, rfl, rfl, rfl⟩
/-- xs[::-1] of a list -/
def eRevL (a : EvE) : EvE := fun ρ M => (a ρ M).bind fun p => (lstAt p.2 p.1).bind fun q => some (.obj p.2.length, p.2 ++ [.lst q.2.reverse])
theorem q_revL {p4 : Pos} (hK : X.K = C.K) (he : PE X e (tOf C fa)) : PE X (.Subscript e (.Slice none none (some (.UnaryOp .USub (.Constant (.int 1) k p1) p4)) p3) pos) (tOf C (eRevL fa)) :=
  (pe_revL he).weak fun σ H Q ⟨ρ, φ, M, w, M', env, sim, e, q⟩ => by
    obtain ⟨⟨x, M1⟩, e1, e⟩ := bsome e
    obtain ⟨⟨i, ws⟩, ew, e⟩ := bsome e
    cases e
    obtain ⟨ex, el⟩ := lstAt_eq ew
    simp only at ex el
    subst ex
    refine ⟨ρ, φ, M, _, M1, env, sim, e1, fun v φ1 H1 s1 r1 => ?_⟩
    obtain ⟨rfl, _⟩ := r1.isO
    obtain ⟨vs, hv, r⟩ := s1.sim.ob _ _ el
    exact ⟨_, vs, rfl, by rw [hK]; exact SqL.of hv, fun p np => q _ _ _ (s1.trans (.list s1.sim np r.reverse)) .new⟩
end
/-! what a step of two picks -/
def evens {α : Type} : List α → List α
  | [] => []
  | [x] => [x]
  | x :: _ :: r => x :: evens r
theorem pick_evens {α : Type} : ∀ (c : Nat) (xs : List α), (xs.length + 1) / 2 = c → ((List.range c).map fun (k : Nat) => 2 * k).filterMap (xs[·]?) = evens xs
  | 0, [], _ => rfl
  | 0, [_], h => by simp at h
  | 0, _ :: _ :: _, h => by simp at h; omega
  | c + 1, [], h => by simp at h
  | c + 1, [x], h => by
    have : c = 0 := by simp at h; omega
    subst this
    rfl
  | c + 1, x :: y :: r, h => by
    have ih := pick_evens c r (by simp at h; omega)
    rw [List.range_succ_eq_map, List.map_cons, List.filterMap_cons_some (f := fun (i : Nat) => (x :: y :: r)[i]?) (b := x) rfl, evens, List.map_map]
    congr 1
    rw [← ih, List.filterMap_map, List.filterMap_map]
    congr 1
theorem step_evens {α : Type} (xs : List α) : stepG xs none = evens xs := by
  have e : sliceRange (sliceBounds none none (some 2) xs.length).1 (sliceBounds none none (some 2) xs.length).2.1 (sliceBounds none none (some 2) xs.length).2.2 = (List.range ((xs.length + 1) / 2)).map fun (k : Nat) => 2 * k := by
    show sliceRange 0 (xs.length : Int) 2 = _
    unfold sliceRange
    have c : (if (2 : Int) > 0 then (if (0 : Int) < (xs.length : Int) then ((xs.length : Int) - 0 + 2 - 1) / 2 else 0) else (if (0 : Int) > (xs.length : Int) then ((0 : Int) - (xs.length : Int) - 2 - 1) / (-2) else 0)).toNat = (xs.length + 1) / 2 := by
      rw [if_pos (by decide)]
      split <;> omega
    have key : ∀ n : Nat, n = (xs.length + 1) / 2 → (List.range n).map (fun (k : Nat) => ((0 : Int) + 2 * (k : Int)).toNat) = (List.range ((xs.length + 1) / 2)).map fun (k : Nat) => 2 * k := fun n hn => by
      rw [hn]
      exact List.map_congr_left fun k _ => by omega
    exact key _ c
  unfold stepG
  rw [e]
  exact pick_evens _ xs rfl
theorem step_odds {α : Type} (xs : List α) : stepG xs (some 1) = evens xs.tail := by
  cases xs with
  | nil => rfl
  | cons x xs =>
    have e : sliceRange (sliceBounds (some 1) none (some 2) (x :: xs).length).1 (sliceBounds (some 1) none (some 2) (x :: xs).length).2.1 (sliceBounds (some 1) none (some 2) (x :: xs).length).2.2 = (List.range ((xs.length + 1) / 2)).map fun (k : Nat) => 2 * k + 1 := by
      have b : sliceBounds (some 1) none (some 2) (x :: xs).length = (1, ((x :: xs).length : Int), 2) := by
        show (max (0 : Int) (min 1 ((x :: xs).length : Int)), ((x :: xs).length : Int), (2 : Int)) = _
        have : max (0 : Int) (min 1 ((x :: xs).length : Int)) = 1 := by simp only [List.length_cons]; omega
        rw [this]
      rw [b]
      unfold sliceRange
      have c : (if (2 : Int) > 0 then (if (1 : Int) < ((x :: xs).length : Int) then (((x :: xs).length : Int) - 1 + 2 - 1) / 2 else 0) else (if (1 : Int) > ((x :: xs).length : Int) then ((1 : Int) - ((x :: xs).length : Int) - 2 - 1) / (-2) else 0)).toNat = (xs.length + 1) / 2 := by
        rw [if_pos (by decide)]
        simp only [List.length_cons]
        split <;> omega
      have key : ∀ n : Nat, n = (xs.length + 1) / 2 → (List.range n).map (fun (k : Nat) => ((1 : Int) + 2 * (k : Int)).toNat) = (List.range ((xs.length + 1) / 2)).map fun (k : Nat) => 2 * k + 1 := fun n hn => by
        rw [hn]
        exact List.map_congr_left fun k _ => by omega
      exact key _ c
    unfold stepG
    rw [e, List.tail_cons, ← pick_evens _ xs rfl, List.filterMap_map, List.filterMap_map]
    congr 1
end Va

set_option Elab.async false
set_option linter.all false
set_option maxRecDepth 100000
set_option maxHeartbeats 1000000
/-! Va26: zip of two of unlike lengths -/
namespace Va
open PySem PySem.Spec PyProof.Rows L2 L2.DX Sa
def iZip2U (a : EvA) : EvI := fun ρ M => (a ρ M).bind fun p => match p.1 with
  | [x, y] => (srcOf p.2 x).bind fun s1 => (srcOf p.2 y).bind fun s2 => some ((zip2W s1.1 s2.1, s1.2 ++ s2.2), p.2)
  | _ => none
theorem zip2W_min : ∀ (xs ys : List W), (zip2W xs ys).length = min xs.length ys.length
  | [], ys => by cases ys <;> simp [zip2W]
  | _ :: _, [] => by simp [zip2W]
  | x :: xs, y :: ys => by simp only [zip2W, List.length_cons, zip2W_min xs ys]; omega
theorem walk_zip2U {K : PySem.W.Frag} {b1 b2 : Bool} {a1 a2 : Addr} {xs ys : List V} {m : Nat} (em : m = min xs.length ys.length) :
    Walk (It2 K b1 b2 a1 a2) m (fun H => SqB K H b1 a1 xs ∧ SqB K H b2 a2 ys)
      (fun i H v H' => ∃ T x y, v = .ref T ∧ H T = none ∧ H' = upd H T (.tup [x, y]) ∧ xs[i]? = some x ∧ ys[i]? = some y) where
  goes := fun i H hi ⟨q1, q2⟩ => ⟨xs, ys, _, _, q1, q2, List.getElem?_eq_getElem (by omega), List.getElem?_eq_getElem (by omega)⟩
  stops := fun H ⟨q1, q2⟩ => ⟨xs, ys, q1, q2, by omega, by omega, by omega⟩
  yields := fun i H v H' hi ⟨q1, q2⟩ ⟨T, x, y, ev, nT, eH, f1, f2⟩ => ⟨T, x, y, ev, nT, eH, f1 xs q1, f2 ys q2⟩
section
variable {C : Ck} {X : Cx} {fs : EvA} {pos p : Pos}
theorem qi_zip2U {e1 e2 : Expr} {elts : List Expr} {kk : Nat} {tpos : Pos} (hK : X.K = C.K) (h : PI X (.Tuple elts kk tpos) (.Call (.Name "zip" p) [e1, e2] [] pos) (iZip2 X.K (taOf C fs))) : PI X (.Tuple elts kk tpos) (.Call (.Name "zip" p) [e1, e2] [] pos) (tiOf C (iZip2U fs)) :=
  h.weak fun σ H R ⟨ρ, φ, M, s, M', env, sim, e, q⟩ => by
    obtain ⟨⟨ws, M1⟩, ea, e⟩ := bsome e
    simp only at e
    split at e
    case h_2 => cases e
    rename_i x y
    obtain ⟨s1, f1, e⟩ := bsome e
    obtain ⟨s2, f2, e⟩ := bsome e
    cases e
    refine ⟨ρ, φ, M, _, _, env, sim, ea, fun v φ1 H1 st r1 => ?_⟩
    cases r1 with | cons r1 r => cases r with | cons r2 r =>
    cases r
    obtain ⟨b1, a1, v1, rfl, q1, w1, k1⟩ := src_rel st.sim r1 f1
    obtain ⟨b2, a2, v2, rfl, q2, w2, k2⟩ := src_rel st.sim r2 f2
    refine ⟨a1, a2, b1, b2, v1, v2, rfl, by rw [hK]; exact q1, by rw [hK]; exact q2, q _ φ1 H1 st ?_⟩
    rw [hK]
    intro φ2 M2 H2 now d
    obtain ⟨u1, t1, g1⟩ := k1 φ2 M2 H2 now d.left
    obtain ⟨u2, t2, g2⟩ := k2 φ2 M2 H2 now d.right
    have mz : (zip2W s1.1 s2.1).length = min u1.length u2.length := by rw [zip2W_min, g1.length, g2.length]
    have w := walk_zip2U (K := C.K) (b1 := b1) (b2 := b2) (a1 := a1) (a2 := a2) mz
    refine ⟨fun k w' hk => ?_, w.stops H2 ⟨t1, t2⟩⟩
    have hlt := (List.getElem?_eq_some_iff.mp hk).1
    refine ⟨w.goes k H2 hlt ⟨t1, t2⟩, fun x H' y => ?_⟩
    obtain ⟨T, x1, x2, rfl, nT, rfl, i1, i2⟩ := w.yields k H2 x H' hlt ⟨t1, t2⟩ y
    obtain ⟨z1, z2, j1, j2, rfl⟩ := zip2W_get _ _ _ _ hk
    have on := Step.tup (o := .tup [x1, x2]) now.sim nT
    obtain ⟨m1, n1, o1⟩ := g1.get' i1
    obtain ⟨m2, n2, o2⟩ := g2.get' i2
    rw [j1] at n1; cases n1
    rw [j2] at n2; cases n2
    exact ⟨on, .tup (SqT.of upd_same) ((RwAll.cons o1 (.cons o2 .nil)).step on)⟩
end
end Va

set_option Elab.async false
set_option linter.all false
set_option maxRecDepth 100000
set_option maxHeartbeats 1000000
namespace Pg
open PySem PySem.Spec PyProof.Rows L2 Sa Va
noncomputable def g_is_note : EvS :=
    (sRet (eOp oEq (eOp oIx (eVar 0) (eC (.int 0))) (eC (.str "note"))))
noncomputable def F_is_note : Fn := nf (fnV 1 (g_is_note))

noncomputable def g_size_of : EvS :=
    (sSeq (sIf (tVal (eOp oEq (eOp oIx (eVar 0) (eC (.int 0))) (eC (.str "rest")))) (sRet (eOp oSub (eOp oIx (eVar 0) (eC (.int 3))) (eC (.int 1)))) sNil)
    (sRet (eCall fMax2 (aCons (eOp oAdd (eC (.int 1)) (eCall fAbs (aCons (eOp oIx (eVar 0) (eC (.int 2))) aNil))) (aCons (eMaxAbs (eOp oIx (eVar 0) (eC (.int 1)))) aNil)))))
noncomputable def F_size_of : Fn := nf (fnV 2 (g_size_of))

noncomputable def g_left_by : EvS :=
    (sSeq (sIf (tVal (eOp oEq (eOp oIx (eVar 0) (eC (.int 0))) (eC (.str "rest")))) (sRet (eOp oMod (eVar 1) (eOp oIx (eVar 0) (eC (.int 3))))) sNil)
    (sRet (eVar 1)))
noncomputable def F_left_by : Fn := nf (fnV 2 (g_left_by))

noncomputable def g_cut : EvS :=
    (sSeq (sIf (tVal (eOp oEq (eOp oIx (eVar 0) (eC (.int 0))) (eC (.str "rest")))) (sRet (eTup (aCons (eDef 2 (F_left_by) (aCons (eVar 0) (aCons (eVar 1) aNil))) (aCons (eC (.int 0)) aNil)))) sNil)
    (sSeq (sSet 2 (eDef 1 (F_size_of) (aCons (eVar 0) aNil)))
    (sSeq (sSet 3 (eCall fMax2 (aCons (eUn oNeg (eVar 2)) (aCons (eCall fMin2 (aCons (eVar 2) (aCons (eVar 1) aNil))) aNil))))
    (sRet (eTup (aCons (eVar 3) (aCons (eOp oSub (eVar 1) (eVar 3)) aNil)))))))
noncomputable def F_cut : Fn := nf (fnV 4 (g_cut))

noncomputable def g_says : EvS :=
    (sSeq (sIf (tVal (eOp oEq (eOp oIx (eVar 0) (eC (.int 0))) (eC (.str "rest")))) (sRet (eOp oEq (eVar 1) (eOp oIx (eVar 0) (eC (.int 2))))) sNil)
    (sRet (eOp oGe (eVar 1) (eOp oIx (eVar 0) (eC (.int 2))))))
noncomputable def F_says : Fn := nf (fnV 2 (g_says))

noncomputable def g_members_met : EvS :=
    (sSeq (sIf (tAndE (tNotE (tVal (eOp oIx (eVar 1) (eC (.int 0))))) (tNotE (tVal (eOp oIx (eVar 2) (eC (.int 0)))))) (sRet (eTup (aCons (eVar 1) (aCons (eVar 2) aNil)))) sNil)
    (sSeq (sAsg (eDef 2 (F_cut) (aCons (eVar 0) (aCons (eOp oAdd (eOp oIx (eVar 1) (eC (.int 1))) (eOp oIx (eVar 2) (eC (.int 1)))) aNil))) (gT 2 (gsC (gN 3) (gsC (gN 4) gs0))))
    (sSeq (sSet 5 (eDef 2 (F_says) (aCons (eVar 0) (aCons (eVar 3) aNil))))
    (sSeq (sSet 6 (eTup (aCons (eC (.bool true)) (aCons (eVar 3) (aCons (eVar 5) aNil)))))
    (sSeq (sSet 7 (eTup (aCons (eC (.bool false)) (aCons (eVar 4) (aCons (eVar 5) aNil)))))
    (sSeq (sIf (tVal (eOp oIx (eVar 1) (eC (.int 0)))) (sRet (eTup (aCons (eVar 6) (aCons (eVar 7) aNil)))) sNil)
    (sRet (eTup (aCons (eVar 7) (aCons (eVar 6) aNil))))))))))
noncomputable def F_members_met : Fn := nf (fnV 8 (g_members_met))

noncomputable def g_holds_met : EvS :=
    (sSeq (sSet 3 (eLc (iZip3W (aCons (eVar 0) (aCons (eVar 1) (aCons (eVar 2) aNil)))) (gT 3 (gsC (gN 4) (gsC (gN 5) (gsC (gN 6) gs0)))) tTrue (eDef 3 (F_members_met) (aCons (eVar 4) (aCons (eVar 5) (aCons (eVar 6) aNil)))) [4, 5, 6]))
    (sRet (eTup (aCons (eTupIx 0 (eVar 3)) (aCons (eTupIx 1 (eVar 3)) aNil)))))
noncomputable def F_holds_met : Fn := nf (fnV 8 (g_holds_met))

noncomputable def g_meet_member : EvS :=
    (sSeq (sAsg (eDef 3 (F_holds_met) (aCons (eVar 0) (aCons (eOp oIx (eVar 1) (eC (.int 2))) (aCons (eOp oIx (eVar 2) (eC (.int 2))) aNil)))) (gT 2 (gsC (gN 3) (gsC (gN 4) gs0))))
    (sRet (eTup (aCons (eTup (aCons (eC (.str "member")) (aCons (eOp oIx (eVar 1) (eC (.int 1))) (aCons (eVar 3) aNil)))) (aCons (eTup (aCons (eC (.str "member")) (aCons (eOp oIx (eVar 2) (eC (.int 1))) (aCons (eVar 4) aNil)))) aNil)))))
noncomputable def F_meet_member : Fn := nf (fnV 5 (g_meet_member))

noncomputable def g_is_blank : EvS :=
    (sRet (eAllBlank (eVar 0)))
noncomputable def F_is_blank : Fn := nf (fnV 2 (g_is_blank))

noncomputable def g_note_met : EvS :=
    (sSeq (sAsg (eDef 2 (F_cut) (aCons (eVar 0) (aCons (eOp oAdd (eOp oIx (eVar 1) (eC (.int 1))) (eOp oIx (eVar 2) (eC (.int 1)))) aNil))) (gT 2 (gsC (gN 3) (gsC (gN 4) gs0))))
    (sSeq (sSet 5 (eOr (eOp oIx (eVar 1) (eC (.int 0))) (eOp oIx (eVar 2) (eC (.int 0)))))
    (sSeq (sSet 6 (eIf (tVal (eVar 5)) (eDef 2 (F_says) (aCons (eVar 0) (aCons (eVar 3) aNil))) (eOp oIx (eVar 1) (eC (.int 2)))))
    (sRet (eTup (aCons (eTup (aCons (eVar 5) (aCons (eVar 3) (aCons (eVar 6) aNil)))) (aCons (eTup (aCons (eC (.bool false)) (aCons (eVar 4) aNil))) aNil)))))))
noncomputable def F_note_met : Fn := nf (fnV 7 (g_note_met))

noncomputable def g_meet_note : EvS :=
    (sSeq (sSet 3 (eLc (iZip3W (aCons (eVar 0) (aCons (eOp oIx (eVar 1) (eC (.int 2))) (aCons (eOp oIx (eVar 2) (eC (.int 1))) aNil)))) (gT 3 (gsC (gN 6) (gsC (gN 7) (gsC (gN 8) gs0)))) tTrue (eDef 3 (F_note_met) (aCons (eVar 6) (aCons (eVar 7) (aCons (eVar 8) aNil)))) [6, 7, 8]))
    (sSeq (sSet 4 (eTup (aCons (eC (.str "member")) (aCons (eOp oIx (eVar 1) (eC (.int 1))) (aCons (eTupIx 0 (eVar 3)) aNil)))))
    (sSeq (sSet 5 (eTupIx 1 (eVar 3)))
    (sSeq (sIf (tVal (eDef 1 (F_is_blank) (aCons (eVar 5) aNil))) (sRet (eTup (aCons (eVar 4) (aCons (eC .none) aNil)))) sNil)
    (sRet (eTup (aCons (eVar 4) (aCons (eTup (aCons (eC (.str "note")) (aCons (eVar 5) aNil))) aNil))))))))
noncomputable def F_meet_note : Fn := nf (fnV 10 (g_meet_note))

noncomputable def g_meet_by : EvS :=
    (sSeq (sIf (tAndE (tVal (eDef 1 (F_is_note) (aCons (eVar 1) aNil))) (tVal (eDef 1 (F_is_note) (aCons (eVar 2) aNil)))) (sRet (eTup (aCons (eVar 1) (aCons (eVar 2) aNil)))) sNil)
    (sSeq (sIf (tVal (eDef 1 (F_is_note) (aCons (eVar 1) aNil))) (sSeq (sAsg (eDef 3 (F_meet_note) (aCons (eVar 0) (aCons (eVar 2) (aCons (eVar 1) aNil)))) (gT 2 (gsC (gN 3) (gsC (gN 4) gs0))))
    (sRet (eTup (aCons (eVar 4) (aCons (eVar 3) aNil))))) sNil)
    (sSeq (sIf (tVal (eDef 1 (F_is_note) (aCons (eVar 2) aNil))) (sRet (eDef 3 (F_meet_note) (aCons (eVar 0) (aCons (eVar 1) (aCons (eVar 2) aNil))))) sNil)
    (sRet (eDef 3 (F_meet_member) (aCons (eVar 0) (aCons (eVar 1) (aCons (eVar 2) aNil))))))))
noncomputable def F_meet_by : Fn := nf (fnV 5 (g_meet_by))

noncomputable def g_is_tuple_of : EvS :=
    (sRet (eAnd (eIsi "tuple" (eVar 0)) (eOp oEq (eCall fLen (aCons (eVar 0) aNil)) (eVar 1))))
noncomputable def F_is_tuple_of : Fn := nf (fnV 2 (g_is_tuple_of))

noncomputable def g_is_headed : EvS :=
    (sRet (eAnd (eDef 2 (F_is_tuple_of) (aCons (eVar 0) (aCons (eVar 2) aNil))) (eAnd (eIsi "str" (eOp oIx (eVar 0) (eC (.int 0)))) (eOp oEq (eOp oIx (eVar 0) (eC (.int 0))) (eVar 1)))))
noncomputable def F_is_headed : Fn := nf (fnV 3 (g_is_headed))

noncomputable def g_is_joined : EvS :=
    (sRet (eOr (eDef 3 (F_is_headed) (aCons (eVar 0) (aCons (eC (.str "not")) (aCons (eC (.int 2)) aNil)))) (eOr (eDef 3 (F_is_headed) (aCons (eVar 0) (aCons (eC (.str "and")) (aCons (eC (.int 3)) aNil)))) (eDef 3 (F_is_headed) (aCons (eVar 0) (aCons (eC (.str "or")) (aCons (eC (.int 3)) aNil)))))))
noncomputable def F_is_joined : Fn := nf (fnV 1 (g_is_joined))

noncomputable def g_all_simples (self : Fn) : EvS :=
    (sSeq (sIf (tNotE (tVal (eDef 1 (F_is_joined) (aCons (eVar 0) aNil)))) (sRet (eLst (aCons (eVar 0) aNil))) sNil)
    (sSeq (sSet 1 (eLst aNil))
    (sSeq (sFor (iSeq (eSlT (some 1) none (eVar 0))) (gN 2) (sExpr (sExt (eVar 1) (eDef 1 self (aCons (eVar 2) aNil)))))
    (sRet (eVar 1)))))
noncomputable def F_all_simples : Nat → Fn
  | 0 => fun _ _ => none
  | k + 1 => nf (fnV 3 (g_all_simples (F_all_simples k)))

noncomputable def g_simples : EvS :=
    (sRet (eCall fTuple (aCons (eCall fSortSet (aCons (eDef 1 (F_all_simples 9) (aCons (eVar 0) aNil)) aNil)) aNil)))
noncomputable def F_simples : Fn := nf (fnV 1 (g_simples))

noncomputable def g_meet : EvS :=
    (sRet (eDef 3 (F_meet_by) (aCons (eDef 1 (F_simples) (aCons (eVar 0) aNil)) (aCons (eVar 1) (aCons (eVar 2) aNil)))))
noncomputable def F_meet : Fn := nf (fnV 3 (g_meet))

end Pg

set_option Elab.async false
set_option linter.all false
set_option maxRecDepth 100000
set_option maxHeartbeats 1000000
namespace Lx
open PySem PySem.Spec PyProof.Rows L2 Sa Va
noncomputable def g__law_hand (ns : List Int) : EvS :=
    (sSeq (sSet 2 (eIf (tVal (eOp oLt (eVar 1) (eCall (fLenS ns) (aCons (eVar 0) aNil)))) (eOp (oIxS ns) (eVar 0) (eVar 1)) (eC (.int 0))))
    (sSeq (sSet 3 (eOp oMul (eOp oMod (eCall fAbs (aCons (eVar 2) aNil)) (eOp oMulW (eOp oMulW (eOp oMulW (eOp oPow (eC (.int 10)) (eC (.int 60))) (eOp oPow (eC (.int 10)) (eC (.int 60)))) (eOp oPow (eC (.int 10)) (eC (.int 60)))) (eOp oPow (eC (.int 10)) (eC (.int 60))))) (eCall fInt (aCons (eOp oGe (eCall fAbs (aCons (eVar 2) aNil)) (eOp oPow (eC (.int 10)) (eC (.int 18)))) aNil))))
    (sRet (eLst (aCons (eVar 3) (aCons (eOp oAdd (eOp oAdd (eOp oMod (eVar 2) (eC (.int 2305843009213693951))) (eOp oMul (eC (.int 15485863)) (eVar 1))) (eC (.int 29))) (aCons (eC (.int 0)) aNil)))))))
noncomputable def F__law_hand (ns : List Int) : Fn := nf (fnV 4 (g__law_hand ns))

noncomputable def g__law_take : EvS :=
    (sSeq (sIf (tVal (eOp oGt (eOp oIx (eVar 0) (eC (.int 0))) (eC (.int 0)))) (sSeq (sSet 2 (eOp oMod (eOp oIx (eVar 0) (eC (.int 0))) (eVar 1)))
    (sSeq (sPut (eOp oDiv (eOp oIx (eVar 0) (eC (.int 0))) (eVar 1)) (eVar 0) (eC (.int 0)))
    (sRet (eVar 2)))) sNil)
    (sSeq (sPut (eOp oAdd (eOp oIx (eVar 0) (eC (.int 2))) (eC (.int 1))) (eVar 0) (eC (.int 2)))
    (sSeq (sSet 3 (eLst (aCons (eC (.int 2147483647)) (aCons (eC (.int 2147483629)) (aCons (eC (.int 2147483587)) (aCons (eC (.int 2147483579)) (aCons (eC (.int 2147483563)) (aCons (eC (.int 2147483549)) (aCons (eC (.int 2147483543)) (aCons (eC (.int 2147483497)) aNil))))))))))
    (sSeq (sSet 4 (eOp oIx (eVar 3) (eOp oMod (eOp oIx (eVar 0) (eC (.int 2))) (eC (.int 8)))))
    (sSeq (sSet 5 (eOp oMod (eOp oPow (eOp oAdd (eOp oIx (eVar 0) (eC (.int 1))) (eOp oMul (eC (.int 104729)) (eOp oIx (eVar 0) (eC (.int 2))))) (eC (.int 5))) (eVar 4)))
    (sRet (eOp oMod (eOp oDiv (eOp oMod (eOp oMul (eVar 5) (eOp oAdd (eOp oMod (eVar 5) (eC (.int 1013))) (eOp oIx (eVar 0) (eC (.int 2))))) (eVar 4)) (eC (.int 11))) (eVar 1))))))))
noncomputable def F__law_take : Fn := nf (fnV 6 (g__law_take))

noncomputable def g__law_saying (self : Fn) : EvS :=
    (sSeq (sPar 4 5 (aCons (eDef 2 (F__law_take) (aCons (eVar 0) (aCons (eC (.int 6)) aNil))) (aCons (eDef 2 (F__law_take) (aCons (eVar 0) (aCons (eCall fLen (aCons (eVar 1) aNil)) aNil))) aNil)))
    (sSeq (sPutP (eOp oSub (eIxP (eVar 3) (eC (.str "forms"))) (eC (.int 1))) (eVar 3) (eC (.str "forms")))
    (sSeq (sIf (tOrE (tVal (eOp oGt (eVar 4) (eC (.int 3)))) (tOrE (tVal (eOp oLt (eVar 2) (eC (.int 2)))) (tVal (eOp oLt (eIxP (eVar 3) (eC (.str "forms"))) (eC (.int 1)))))) (sRet (eOp oIx (eVar 1) (eVar 5))) sNil)
    (sSeq (sSet 6 (eDef 4 self (aCons (eVar 0) (aCons (eVar 1) (aCons (eOp oSub (eVar 2) (eC (.int 1))) (aCons (eVar 3) aNil))))))
    (sSeq (sIf (tVal (eOp oEq (eVar 4) (eC (.int 0)))) (sRet (eTup (aCons (eC (.str "not")) (aCons (eVar 6) aNil)))) sNil)
    (sRet (eTup (aCons (eOp oIx (eLst (aCons (eC (.str "and")) (aCons (eC (.str "or")) (aCons (eC (.str "and")) aNil)))) (eOp oSub (eVar 4) (eC (.int 1)))) (aCons (eVar 6) (aCons (eDef 4 self (aCons (eVar 0) (aCons (eVar 1) (aCons (eOp oSub (eVar 2) (eC (.int 1))) (aCons (eVar 3) aNil))))) aNil))))))))))
noncomputable def F__law_saying : Nat → Fn
  | 0 => fun _ _ => none
  | k + 1 => nf (fnV 7 (g__law_saying (F__law_saying k)))

noncomputable def g__law_of : EvS :=
    (sRet (eOp oIx (eVar 1) (eDef 2 (F__law_take) (aCons (eVar 0) (aCons (eCall fLen (aCons (eVar 1) aNil)) aNil)))))
noncomputable def F__law_of : Fn := nf (fnV 2 (g__law_of))

noncomputable def g__law_simple : EvS :=
    (sSeq (sPar 2 3 (aCons (eDef 2 (F__law_take) (aCons (eVar 0) (aCons (eC (.int 5)) aNil))) (aCons (eDef 2 (F__law_take) (aCons (eVar 0) (aCons (eC (.int 4)) aNil))) aNil)))
    (sSeq (sSet 4 (eCall fTuple (aCons (eLc (iRange1 (aCons (eVar 1) aNil)) (gN 6) tTrue (eDef 2 (F__law_of) (aCons (eVar 0) (aCons (eLst (aCons (eC (.int 0)) (aCons (eC (.int 1)) (aCons (eUn oNeg (eC (.int 1))) (aCons (eC (.int 2)) (aCons (eC (.int 9)) (aCons (eUn oNeg (eC (.int 9))) (aCons (eOp oSub (eDef 2 (F__law_take) (aCons (eVar 0) (aCons (eC (.int 19)) aNil))) (eC (.int 9))) aNil)))))))) aNil))) [6]) aNil)))
    (sSeq (sIf (tVal (eOp oLt (eVar 2) (eC (.int 3)))) (sRet (eTup (aCons (eC (.str "sum")) (aCons (eVar 4) (aCons (eOp oIx (eLst (aCons (eOp oSub (eDef 2 (F__law_take) (aCons (eVar 0) (aCons (eC (.int 9)) aNil))) (eC (.int 4))) (aCons (eOp oSub (eDef 2 (F__law_take) (aCons (eVar 0) (aCons (eC (.int 41)) aNil))) (eC (.int 20))) (aCons (eC (.int 20)) (aCons (eUn oNeg (eC (.int 20))) aNil))))) (eVar 3)) aNil))))) sNil)
    (sSeq (sSet 5 (eOp oAdd (eC (.int 2)) (eDef 2 (F__law_take) (aCons (eVar 0) (aCons (eC (.int 8)) aNil)))))
    (sRet (eTup (aCons (eC (.str "rest")) (aCons (eVar 4) (aCons (eDef 2 (F__law_take) (aCons (eVar 0) (aCons (eVar 5) aNil))) (aCons (eVar 5) aNil))))))))))
noncomputable def F__law_simple : Fn := nf (fnV 7 (g__law_simple))

end Lx

set_option Elab.async false
set_option linter.all false
set_option maxRecDepth 100000
set_option maxHeartbeats 1000000
namespace Tr
open PySem PySem.Spec PyProof.Rows L2 Sa Va
noncomputable def g_is_so (self : Fn) : EvS :=
    (sSeq (sIf (tVal (eOp oEq (eOp oIx (eVar 0) (eC (.int 0))) (eC (.str "not")))) (sRet (eNot (eDef 2 self (aCons (eOp oIx (eVar 0) (eC (.int 1))) (aCons (eVar 1) aNil))))) sNil)
    (sSeq (sIf (tVal (eOp oEq (eOp oIx (eVar 0) (eC (.int 0))) (eC (.str "and")))) (sRet (eAnd (eDef 2 self (aCons (eOp oIx (eVar 0) (eC (.int 1))) (aCons (eVar 1) aNil))) (eDef 2 self (aCons (eOp oIx (eVar 0) (eC (.int 2))) (aCons (eVar 1) aNil))))) sNil)
    (sSeq (sIf (tVal (eOp oEq (eOp oIx (eVar 0) (eC (.int 0))) (eC (.str "or")))) (sRet (eOr (eDef 2 self (aCons (eOp oIx (eVar 0) (eC (.int 1))) (aCons (eVar 1) aNil))) (eDef 2 self (aCons (eOp oIx (eVar 0) (eC (.int 2))) (aCons (eVar 1) aNil))))) sNil)
    (sRet (eOp oIxD (eVar 1) (eVar 0))))))
noncomputable def F_is_so : Nat → Fn
  | 0 => fun _ _ => none
  | k + 1 => nf (fnV 2 (g_is_so (F_is_so k)))

noncomputable def g_by_words : EvS :=
    (sRet (eDef 2 (F_is_so 9) (aCons (eVar 0) (aCons (eDc (iZip2W (aCons (eDef 1 (Pg.F_simples) (aCons (eVar 0) aNil)) (aCons (eVar 1) aNil))) (gT 2 (gsC (gN 2) (gsC (gN 3) gs0))) tTrue (eVar 2) (eVar 3) [2, 3]) aNil))))
noncomputable def F_by_words : Fn := nf (fnV 4 (g_by_words))

noncomputable def g_total : EvS :=
    (sRet (eSumX (iZip2W (aCons (eOp oIx (eVar 0) (eC (.int 1))) (aCons (eVar 1) aNil))) (gT 2 (gsC (gN 2) (gsC (gN 3) gs0))) tTrue (eOp oMul (eVar 2) (eVar 3)) [2, 3]))
noncomputable def F_total : Fn := nf (fnV 4 (g_total))

noncomputable def g_is_true : EvS :=
    (sSeq (sSet 2 (eLc (iSeq (eDef 1 (Pg.F_simples) (aCons (eVar 0) aNil))) (gN 3) tTrue (eDef 2 (Pg.F_says) (aCons (eVar 3) (aCons (eDef 2 (Pg.F_left_by) (aCons (eVar 3) (aCons (eDef 2 (F_total) (aCons (eVar 3) (aCons (eVar 1) aNil))) aNil))) aNil))) [3]))
    (sRet (eDef 2 (F_by_words) (aCons (eVar 0) (aCons (eCall fTuple (aCons (eVar 2) aNil)) aNil)))))
noncomputable def F_is_true : Fn := nf (fnV 4 (g_is_true))

end Tr

set_option Elab.async false
set_option linter.all false
set_option maxRecDepth 100000
set_option maxHeartbeats 1000000
namespace K02
open PySem PySem.Spec PyProof.Rows L2 Sa Va
noncomputable def g__law_ahead : EvS :=
    (sSeq (sIf (tVal (eOp oNe (eOp oIx (eVar 0) (eC (.int 0))) (eOp oIx (eVar 1) (eC (.int 0))))) (sRet (eOp oEq (eOp oIx (eVar 0) (eC (.int 0))) (eC (.str "rest")))) sNil)
    (sSeq (sPar 2 3 (aCons (eOp oAddG (eCall fList (aCons (eOp oIx (eVar 0) (eC (.int 1))) aNil)) (eCall fList (aCons (eSlT (some 2) none (eVar 0)) aNil))) (aCons (eOp oAddG (eCall fList (aCons (eOp oIx (eVar 1) (eC (.int 1))) aNil)) (eCall fList (aCons (eSlT (some 2) none (eVar 1)) aNil))) aNil)))
    (sSeq (sFor (iZip2W (aCons (eVar 2) (aCons (eVar 3) aNil))) (gT 2 (gsC (gN 4) (gsC (gN 5) gs0))) (sIf (tVal (eOp oNe (eVar 4) (eVar 5))) (sRet (eOp oLt (eVar 4) (eVar 5))) sNil))
    (sRet (eC (.bool false))))))
noncomputable def F__law_ahead : Fn := nf (fnV 6 (g__law_ahead))

noncomputable def g__law_in_order : EvS :=
    (sSeq (sSet 1 (eLst aNil))
    (sSeq (sFor (iSeq (eVar 0)) (gN 2) (sSeq (sSet 3 (eCall fLen (aCons (eLc (iSeq (eVar 1)) (gN 4) (tVal (eDef 2 (F__law_ahead) (aCons (eVar 4) (aCons (eVar 2) aNil)))) (eVar 4) [4]) aNil)))
    (sIf (tVal (eOp oNeL (eSlLv (pE (eVar 3)) (pE (eOp oAdd (eVar 3) (eC (.int 1)))) (eVar 1)) (eLst (aCons (eVar 2) aNil)))) (sExpr (sIns (eVar 1) (eVar 3) (eVar 2))) sNil)))
    (sRet (eCall fTuple (aCons (eVar 1) aNil)))))
noncomputable def F__law_in_order : Fn := nf (fnV 5 (g__law_in_order))

noncomputable def g__law_in_a_row : EvS :=
    (sSeq (sSet 1 (eLc (iSeq (eVar 0)) (gN 3) tTrue (eTup (aCons (eC (.str "and")) (aCons (eVar 3) (aCons (eTup (aCons (eC (.str "not")) (aCons (eVar 3) aNil))) aNil)))) [3]))
    (sSeq (whN (tVal (eOp oGt (eCall fLen (aCons (eVar 1) aNil)) (eC (.int 1)))) (sSeq (sSet 2 (eLc (iZip2U (aCons (eStep2 none (eVar 1)) (aCons (eStep2 (some 1) (eVar 1)) aNil))) (gT 2 (gsC (gN 3) (gsC (gN 4) gs0))) tTrue (eTup (aCons (eC (.str "or")) (aCons (eVar 3) (aCons (eVar 4) aNil)))) [3, 4]))
    (sSet 1 (eOp oAddG (eVar 2) (eSlLv (pE (eOp oSub (eCall fLen (aCons (eVar 1) aNil)) (eOp oMod (eCall fLen (aCons (eVar 1) aNil)) (eC (.int 2))))) pN (eVar 1))))) 1000000)
    (sRet (eOp oIx (eVar 1) (eC (.int 0))))))
noncomputable def F__law_in_a_row : Fn := nf (fnV 5 (g__law_in_a_row))

noncomputable def g__law_simple_ones (self : Fn) : EvS :=
    (sSeq (sIf (tVal (eOp oInT (eOp oIx (eVar 0) (eC (.int 0))) (eTup (aCons (eC (.str "sum")) (aCons (eC (.str "rest")) aNil))))) (sRet (eLst (aCons (eVar 0) aNil))) sNil)
    (sSeq (sSet 1 (eLst aNil))
    (sSeq (sFor (iSeq (eSlT (some 1) none (eVar 0))) (gN 2) (sExpr (sExt (eVar 1) (eDef 1 self (aCons (eVar 2) aNil)))))
    (sRet (eVar 1)))))
noncomputable def F__law_simple_ones : Nat → Fn
  | 0 => fun _ _ => none
  | k + 1 => nf (fnV 3 (g__law_simple_ones (F__law_simple_ones k)))

noncomputable def g_sorts_of : EvS :=
    (sSeq (whN (tVal (eDef 1 (Pg.F_is_joined) (aCons (eVar 0) aNil))) (sSet 0 (eOp oIx (eVar 0) (eC (.int 1)))) 1000000)
    (sRet (eCall fLen (aCons (eOp oIx (eVar 0) (eC (.int 1))) aNil))))
noncomputable def F_sorts_of : Fn := nf (fnV 1 (g_sorts_of))

noncomputable def g__law_near : EvS :=
    (sSeq (sSet 2 (eDef 2 (Lx.F__law_take) (aCons (eVar 0) (aCons (eCall fLen (aCons (eOp oIx (eVar 1) (eC (.int 1))) aNil)) aNil))))
    (sSeq (sSet 3 (eOp oIx (eLst (aCons (eOp oAddG (eOp oIx (eOp oIx (eVar 1) (eC (.int 1))) (eVar 2)) (eC (.int 1))) (aCons (eOp oSub (eOp oIx (eOp oIx (eVar 1) (eC (.int 1))) (eVar 2)) (eC (.int 1))) aNil))) (eCall fInt (aCons (eOp oGt (eOp oIx (eOp oIx (eVar 1) (eC (.int 1))) (eVar 2)) (eC (.int 0))) aNil))))
    (sSeq (sSet 4 (eOp oAddG (eOp oAddG (eSlTv pN (pE (eVar 2)) (eOp oIx (eVar 1) (eC (.int 1)))) (eTup (aCons (eVar 3) aNil))) (eSlTv (pE (eOp oAddG (eVar 2) (eC (.int 1)))) pN (eOp oIx (eVar 1) (eC (.int 1))))))
    (sSeq (sIf (tOrE (tVal (eOp oEq (eDef 2 (Lx.F__law_take) (aCons (eVar 0) (aCons (eC (.int 2)) aNil))) (eC (.int 0)))) (tVal (eOp oEq (eOp oIx (eVar 1) (eC (.int 0))) (eC (.str "rest"))))) (sRet (eOp oAddG (eOp oAddG (eSlT none (some 1) (eVar 1)) (eTup (aCons (eVar 4) aNil))) (eSlT (some 2) none (eVar 1)))) sNil)
    (sRet (eTup (aCons (eC (.str "sum")) (aCons (eOp oIx (eVar 1) (eC (.int 1))) (aCons (eOp oSub (eOp oAddG (eOp oIx (eVar 1) (eC (.int 2))) (eC (.int 1))) (eOp oMul (eC (.int 2)) (eCall fInt (aCons (eOp oGt (eOp oIx (eVar 1) (eC (.int 2))) (eC (.int 0))) aNil)))) aNil)))))))))
noncomputable def F__law_near : Fn := nf (fnV 5 (g__law_near))

noncomputable def g__law_exchanged (self : Fn) : EvS :=
    (sSeq (sIf (tVal (eOp oInT (eOp oIx (eVar 0) (eC (.int 0))) (eTup (aCons (eC (.str "sum")) (aCons (eC (.str "rest")) aNil))))) (sRet (eVar 0)) sNil)
    (sSeq (sSet 1 (eCall fTuple (aCons (eLc (iSeq (eSlT (some 1) none (eVar 0))) (gN 2) tTrue (eDef 1 self (aCons (eVar 2) aNil)) [2]) aNil)))
    (sRet (eOp oAddG (eSlT none (some 1) (eVar 0)) (eRev (eVar 1))))))
noncomputable def F__law_exchanged : Nat → Fn
  | 0 => fun _ _ => none
  | k + 1 => nf (fnV 3 (g__law_exchanged (F__law_exchanged k)))

noncomputable def g_law (ns : List Int) : EvS :=
    (sSeq (sFor (iRange1 (aCons (eOp oAddG (eC (.int 1)) (eCall fMin2 (aCons (eC (.int 3)) (aCons (eCall (fLenS ns) (aCons (eVar 0) aNil)) aNil)))) aNil)) (gN 1) (sSeq (sSet 2 (eDef 2 (Lx.F__law_hand ns) (aCons (eVar 0) (aCons (eVar 1) aNil))))
    (sSeq (sPar 3 4 (aCons (eOp oAddG (eC (.int 1)) (eDef 2 (Lx.F__law_take) (aCons (eVar 2) (aCons (eC (.int 6)) aNil)))) (aCons (eLst aNil) aNil)))
    (sSeq (sFor (iRange1 (aCons (eOp oAddG (eC (.int 1)) (eDef 2 (Lx.F__law_take) (aCons (eVar 2) (aCons (eC (.int 6)) aNil)))) aNil)) (gN 5) (sSeq (sSet 6 (eAnd (eOp oEq (eDef 2 (Lx.F__law_take) (aCons (eVar 2) (aCons (eC (.int 2)) aNil))) (eC (.int 0))) (eOp oNeL (eVar 4) (eLst aNil))))
    (sExpr (sApp (eVar 4) (eIf (tVal (eVar 6)) (eDef 2 (F__law_near) (aCons (eVar 2) (aCons (eDef 2 (Lx.F__law_of) (aCons (eVar 2) (aCons (eVar 4) aNil))) aNil))) (eDef 2 (Lx.F__law_simple) (aCons (eVar 2) (aCons (eVar 3) aNil))))))))
    (sSeq (sSet 7 (eDef 4 (Lx.F__law_saying 8) (aCons (eVar 2) (aCons (eVar 4) (aCons (eC (.int 8)) (aCons (ePot [((eC (.str "forms")), (eC (.int 24)))]) aNil))))))
    (sSeq (sSet 8 (eCall fRep (aCons (eDef 1 (F__law_in_order) (aCons (eDef 1 (F__law_simple_ones 9) (aCons (eVar 7) aNil)) aNil)) aNil)))
    (sSeq (sIf (tOrE (tVal (eOp oNe (eCall fRep (aCons (eDef 1 (Pg.F_simples) (aCons (eVar 7) aNil)) aNil)) (eVar 8))) (tVal (eOp oNe (eCall fRep (aCons (eDef 1 (Pg.F_simples) (aCons (eDef 1 (F__law_exchanged 9) (aCons (eVar 7) aNil)) aNil)) aNil)) (eVar 8)))) (sRet (eC (.bool false))) sNil)
    (sSeq (sSet 9 (eCall fRep (aCons (eDef 1 (F__law_in_order) (aCons (eVar 4) aNil)) aNil)))
    (sSeq (sFor (iSeq (eTup (aCons (eDef 1 (F__law_in_a_row) (aCons (eVar 4) aNil)) (aCons (eDef 1 (F__law_in_a_row) (aCons (eRevL (eVar 4)) aNil)) (aCons (eTup (aCons (eC (.str "not")) (aCons (eDef 1 (F__law_in_a_row) (aCons (eOp oAddG (eVar 4) (eVar 4)) aNil)) aNil))) aNil))))) (gN 10) (sIf (tOrE (tVal (eOp oNe (eCall fRep (aCons (eDef 1 (Pg.F_simples) (aCons (eVar 10) aNil)) aNil)) (eVar 9))) (tVal (eOp oNe (eDef 1 (F_sorts_of) (aCons (eVar 10) aNil)) (eVar 3)))) (sRet (eC (.bool false))) sNil))
    (sSeq (sFor (iSeq (eVar 4)) (gN 10) (sIf (tOrE (tVal (eOp oNe (eCall fRep (aCons (eLst (aCons (eDef 1 (Pg.F_simples) (aCons (eVar 10) aNil)) (aCons (eDef 1 (Pg.F_simples) (aCons (eTup (aCons (eC (.str "not")) (aCons (eVar 10) aNil))) aNil)) aNil))) aNil)) (eCall fRep (aCons (eLst (aCons (eTup (aCons (eVar 10) aNil)) (aCons (eTup (aCons (eVar 10) aNil)) aNil))) aNil)))) (tVal (eOp oNe (eDef 1 (F_sorts_of) (aCons (eVar 10) aNil)) (eVar 3)))) (sRet (eC (.bool false))) sNil))
    (sIf (tVal (eOp oNe (eCall fRep (aCons (eDef 1 (F_sorts_of) (aCons (eVar 7) aNil)) aNil)) (eCall fRep (aCons (eVar 3) aNil)))) (sRet (eC (.bool false))) sNil)))))))))))
    (sRet (eC (.bool true))))
noncomputable def F_law (ns : List Int) : Fn := nf (fnV 11 (g_law ns))

end K02

set_option Elab.async false
set_option linter.all false
set_option maxRecDepth 100000
set_option maxHeartbeats 1000000
/-! Ma1: reckoning with functions by value -/
namespace Va
open PySem PySem.Spec PyProof.Rows L2 Sa
/-- it tells something of which Q is so -/
def Ok {α : Type} (o : Option α) (Q : α → Prop) : Prop := ∃ x, o = some x ∧ Q x
@[simp] theorem ok_some {α : Type} {x : α} {Q : α → Prop} : Ok (some x) Q ↔ Q x := ⟨fun ⟨y, e, q⟩ => by cases e; exact q, fun q => ⟨x, rfl, q⟩⟩
@[simp] theorem ok_none {α : Type} {Q : α → Prop} : Ok (none : Option α) Q ↔ False := ⟨(fun ⟨y, e, q⟩ => by cases e), False.elim⟩
@[simp] theorem ok_bind {α β : Type} {o : Option α} {f : α → Option β} {Q : β → Prop} : Ok (o.bind f) Q ↔ Ok o fun x => Ok (f x) Q :=
  ⟨fun ⟨y, e, q⟩ => let ⟨x, e1, e2⟩ := bsome e; ⟨x, e1, y, e2, q⟩, fun ⟨x, e, y, e2, q⟩ => ⟨y, by rw [e]; exact e2, q⟩⟩
@[simp] theorem ok_map {α β : Type} {o : Option α} {f : α → β} {Q : β → Prop} : Ok (o.map f) Q ↔ Ok o fun x => Q (f x) :=
  ⟨fun ⟨y, e, q⟩ => let ⟨x, e1, e2⟩ := Option.map_eq_some_iff.mp e; ⟨x, e1, by show Q (f x); rw [e2]; exact q⟩, fun ⟨x, e, q⟩ => ⟨f x, by rw [e]; rfl, q⟩⟩
theorem Ok.mono {α : Type} {o : Option α} {Q Q' : α → Prop} (h : Ok o Q) (k : ∀ x, Q x → Q' x) : Ok o Q' := let ⟨x, e, q⟩ := h; ⟨x, e, k x q⟩
theorem Ok.of {α : Type} {o : Option α} {x : α} {Q : α → Prop} (h : o = some x) (q : Q x) : Ok o Q := ⟨x, h, q⟩
@[simp] theorem ok_ite {α : Type} {c : Prop} [Decidable c] {a b : Option α} {Q : α → Prop} : Ok (if c then a else b) Q ↔ if c then Ok a Q else Ok b Q := by split <;> rfl

@[simp] theorem norm_data {M : Mem} {x : PyData} : norm M (.d x, M) = (.d x, M) := by
  have := norm_d (M := M) (M1 := M) (J := []) (w := .d x) rfl .refl
  simpa using this
@[simp] theorem norm_data' {M J : Mem} {x : PyData} : norm M (.d x, M ++ J) = (.d x, M) := norm_d rfl .refl
@[simp] theorem get_new0 {M J : Mem} : (M ++ J)[M.length]? = J[0]? := by
  rw [List.getElem?_append_right (Nat.le_refl _), Nat.sub_self]
@[simp] theorem get_newk {M J : Mem} {k : Nat} : (M ++ J)[M.length + k]? = J[k]? := by
  rw [List.getElem?_append_right (Nat.le_add_right _ _), Nat.add_sub_cancel_left]
@[simp] theorem set_new0 {M J : Mem} {x : MO} : (M ++ J).set M.length x = M ++ J.set 0 x := by
  rw [List.set_append_right _ _ (Nat.le_refl _), Nat.sub_self]
@[simp] theorem set_newk {M J : Mem} {k : Nat} {x : MO} : (M ++ J).set (M.length + k) x = M ++ J.set k x := by
  rw [List.set_append_right _ _ (Nat.le_add_right _ _), Nat.add_sub_cancel_left]
theorem get_old {M J : Mem} {i : Nat} {mo : MO} (h : M[i]? = some mo) : (M ++ J)[i]? = some mo := by
  rw [List.getElem?_append_left (List.getElem?_eq_some_iff.mp h).1]; exact h
theorem set_old {M J : Mem} {i : Nat} {x : MO} (h : i < M.length) : (M ++ J).set i x = M.set i x ++ J := List.set_append_left _ _ h
@[simp] theorem datas_nil : datas [] = some [] := rfl
@[simp] theorem datas_cons {x : PyData} {ws : List W} : datas (.d x :: ws) = (datas ws).map (x :: ·) := rfl
@[simp] theorem datas_map' {ds : List PyData} : datas (ds.map W.d) = some ds := datas_map ds
@[simp] theorem mkTup_nil : mkTup [] = .d (.tuple []) := rfl
theorem mkTup_of {ws : List W} {ds : List PyData} (h : datas ws = some ds) : mkTup ws = .d (.tuple ds) := by unfold mkTup; rw [h]
@[simp] theorem mkTup_map {ds : List PyData} : mkTup (ds.map W.d) = .d (.tuple ds) := mkTup_of (datas_map ds)
@[simp] theorem mkTup1 {x : PyData} : mkTup [.d x] = .d (.tuple [x]) := rfl
@[simp] theorem mkTup2 {x y : PyData} : mkTup [.d x, .d y] = .d (.tuple [x, y]) := rfl
@[simp] theorem mkTup3 {x y z : PyData} : mkTup [.d x, .d y, .d z] = .d (.tuple [x, y, z]) := rfl
@[simp] theorem mkTup4 {x y z u : PyData} : mkTup [.d x, .d y, .d z, .d u] = .d (.tuple [x, y, z, u]) := rfl
@[simp] theorem asI_int {i : Int} : asI (.d (.int i)) = some i := rfl
@[simp] theorem asB_bool {b : Bool} : asB (.d (.bool b)) = some b := rfl
@[simp] theorem atI0 {α : Type} {x : α} {xs : List α} : atI (x :: xs) 0 = some x := by simp [atI, ixN]
theorem atI_nat' {α : Type} {xs : List α} {k : Nat} {x : α} (h : xs[k]? = some x) : atI xs (k : Int) = some x := by
  have hl := (List.getElem?_eq_some_iff.mp h).1
  have e : ixN xs.length (k : Int) = some k := by
    unfold ixN
    rw [if_pos (by omega), if_pos (by omega)]
    simp
  unfold atI
  rw [e]
  exact h
@[simp] theorem atI1 {α : Type} {x y : α} {xs : List α} : atI (x :: y :: xs) 1 = some y := atI_nat' (k := 1) rfl
@[simp] theorem atI2 {α : Type} {x y z : α} {xs : List α} : atI (x :: y :: z :: xs) 2 = some z := atI_nat' (k := 2) rfl
@[simp] theorem atI3 {α : Type} {x y z u : α} {xs : List α} : atI (x :: y :: z :: u :: xs) 3 = some u := atI_nat' (k := 3) rfl
@[simp] theorem small_size {n : Nat} (h : n ≤ 1000) : n ≤ sizeLine := Nat.le_trans h (by decide)
theorem sl : sizeLine = 16777216 := rfl
end Va

set_option Elab.async false
set_option linter.all false
set_option maxRecDepth 100000
set_option maxHeartbeats 1000000
/-! Ma2: what each way of writing comes to; loops by what is kept -/
namespace Va
open PySem PySem.Spec PyProof.Rows L2 Sa
section
variable {ρ : Ev} {M M2 : Mem} {i j l n : Nat} {a b c o e : EvE} {f g : O2} {u : O1} {F : Fn} {as : EvA} {t s : EvT} {st st2 : EvS} {gg : EvG} {gs : List W → Ev → Option Ev} {w : W} {ws : List W} {x : PyData} {ns : List Int} {lo hi : Option Int} {fi : EvI} {vs : List Nat} {k : Nat} {T : String}
@[simp] theorem x_var (h : ρ[i]? = some (some w)) : eVar i ρ M = some (w, M) := by unfold eVar; rw [h]
@[simp] theorem x_c : eC x ρ M = some (.d x, M) := rfl
@[simp] theorem x_op : eOp f a b ρ M = (a ρ M).bind fun p => (b ρ p.2).bind fun q => f p.1 q.1 q.2 := rfl
@[simp] theorem x_un : eUn u a ρ M = (a ρ M).bind fun p => u p.1 p.2 := rfl
@[simp] theorem x_anil : aNil ρ M = some ([], M) := rfl
@[simp] theorem x_acons : aCons a as ρ M = (a ρ M).bind fun p => (as ρ p.2).bind fun q => some (p.1 :: q.1, q.2) := rfl
@[simp] theorem x_call : eCall F as ρ M = (as ρ M).bind fun p => F p.1 p.2 := rfl
@[simp] theorem x_def : eDef n F as ρ M = (as ρ M).bind fun p => if p.1.length = n then F p.1 p.2 else none := rfl
@[simp] theorem x_tval : tVal a ρ M = (a ρ M).bind fun p => (asB p.1).map (·, p.2) := rfl
@[simp] theorem x_tnot : tNotE t ρ M = (t ρ M).bind fun p => some (!p.1, p.2) := rfl
@[simp] theorem x_tand : tAndE t s ρ M = (t ρ M).bind fun p => if p.1 = true then s ρ p.2 else some (false, p.2) := rfl
@[simp] theorem x_tor : tOrE t s ρ M = (t ρ M).bind fun p => if p.1 = true then some (true, p.2) else s ρ p.2 := rfl
@[simp] theorem x_ttrue : tTrue ρ M = some (true, M) := rfl
@[simp] theorem x_and : eAnd a b ρ M = (a ρ M).bind fun p => (asB p.1).bind fun c => if c = true then b ρ p.2 else some (.d (.bool false), p.2) := rfl
@[simp] theorem x_or : eOr a b ρ M = (a ρ M).bind fun p => (asB p.1).bind fun c => if c = true then some (.d (.bool true), p.2) else b ρ p.2 := rfl
@[simp] theorem x_not : eNot a ρ M = (a ρ M).bind fun p => (asB p.1).bind fun c => some (.d (.bool (!c)), p.2) := rfl
@[simp] theorem x_ifE : eIf t a b ρ M = (t ρ M).bind fun p => if p.1 = true then a ρ p.2 else b ρ p.2 := rfl
@[simp] theorem x_tup : eTup as ρ M = (as ρ M).bind fun p => if p.1.length ≤ sizeLine then some (mkTup p.1, p.2) else none := rfl
@[simp] theorem x_lst : eLst as ρ M = (as ρ M).bind fun p => if p.1.length ≤ sizeLine then some (.obj p.2.length, p.2 ++ [.lst p.1]) else none := rfl
@[simp] theorem x_nil : sNil ρ M = some (.nx ρ M) := rfl
@[simp] theorem x_seq : sSeq st st2 ρ M = (st ρ M).bind fun o => match o with | .nx ρ1 M1 => st2 ρ1 M1 | o => some o := rfl
@[simp] theorem x_if : sIf t st st2 ρ M = (t ρ M).bind fun p => if p.1 = true then st ρ p.2 else st2 ρ p.2 := rfl
@[simp] theorem x_ret : sRet a ρ M = (a ρ M).bind fun p => some (.rt p.1 p.2) := rfl
@[simp] theorem x_set : sSet i a ρ M = (a ρ M).bind fun p => some (.nx (ρ.set i (some p.1)) p.2) := rfl
@[simp] theorem x_asg : sAsg a gg ρ M = (a ρ M).bind fun p => (gg p.1 ρ).bind fun ρ1 => some (.nx ρ1 p.2) := rfl
@[simp] theorem x_par : sPar i j as ρ M = (as ρ M).bind fun p => match p.1 with | [x, y] => some (.nx ((ρ.set i (some x)).set j (some y)) p.2) | _ => none := rfl
@[simp] theorem x_par3 : sPar3 i j l as ρ M = (as ρ M).bind fun p => match p.1 with | [x, y, z] => some (.nx (((ρ.set i (some x)).set j (some y)).set l (some z)) p.2) | _ => none := rfl
@[simp] theorem x_expr : sExpr a ρ M = (a ρ M).bind fun p => some (.nx ρ p.2) := rfl
@[simp] theorem x_put : sPut e o a ρ M = (e ρ M).bind fun p => (o ρ p.2).bind fun q => (a ρ q.2).bind fun r => (asI r.1).bind fun k => (lstAt r.2 q.1).bind fun l => (ixN l.2.length k).bind fun j => some (.nx ρ (r.2.set l.1 (.lst (l.2.set j p.1)))) := rfl
@[simp] theorem x_app : sApp o e ρ M = (o ρ M).bind fun q => (lstAt q.2 q.1).bind fun _ => (e ρ q.2).bind fun p => (lstAt p.2 q.1).bind fun l => if l.2.length < sizeLine then some (.d .none, p.2.set l.1 (.lst (l.2 ++ [p.1]))) else none := rfl
@[simp] theorem x_ext : sExt o e ρ M = (o ρ M).bind fun q => (lstAt q.2 q.1).bind fun _ => (e ρ q.2).bind fun p => (lstAt p.2 q.1).bind fun l => (lstAt p.2 p.1).bind fun k => if l.2.length + k.2.length ≤ sizeLine then some (.d .none, p.2.set l.1 (.lst (l.2 ++ k.2))) else none := rfl
@[simp] theorem x_gN : gN i w ρ = some (ρ.set i (some w)) := rfl
@[simp] theorem x_gs0 : gs0 [] ρ = some ρ := rfl
@[simp] theorem x_gsC : gsC gg gs (w :: ws) ρ = (gg w ρ).bind fun ρ1 => gs ws ρ1 := rfl
@[simp] theorem x_gT : gT n gs w ρ = (tupOf w).bind fun ws => if ws.length = n then gs ws ρ else none := rfl
@[simp] theorem x_for : sFor fi gg st ρ M = (fi ρ M).bind fun p => forL p.1.2 gg st p.1.1 ρ p.2 := rfl
@[simp] theorem x_lc : eLc fi gg t e vs ρ M = (fi ρ M).bind fun p => (lcL p.1.2 gg t e (wipeW ρ vs) p.2.length p.1.1 (p.2 ++ [.lst []])).bind fun M' => some (.obj p.2.length, M') := rfl
@[simp] theorem x_wipe0 : wipeW ρ [] = ρ := rfl
@[simp] theorem x_wipe : wipeW ρ (i :: vs) = (wipeW ρ vs).set i none := rfl
@[simp] theorem x_ix {k : Int} : oIx w (.d (.int k)) M = (seqOf M w).bind fun ws => (atI ws k).bind fun w => some (w, M) := rfl
@[simp] theorem x_ixS {k : Int} : oIxS ns .scr (.d (.int k)) M = (atI ns k).bind fun w => some (.d (.int w), M) := rfl
@[simp] theorem x_seqT {ds : List PyData} : seqOf M (.d (.tuple ds)) = some (ds.map W.d) := rfl
@[simp] theorem x_seqO (h : M[i]? = some (.lst ws)) : seqOf M (.obj i) = some ws := by simp only [seqOf, h]
@[simp] theorem x_lstAt (h : M[i]? = some (.lst ws)) : lstAt M (.obj i) = some (i, ws) := by simp only [lstAt, h]
@[simp] theorem x_I {g : Int → Int → PyData} {p q : Int} : oI g (.d (.int p)) (.d (.int q)) M = some (.d (g p q), M) := rfl
theorem x_Ic {c : Int → Int → Prop} {g : Int → Int → PyData} {p q : Int} (h : c p q) : oIc c g (.d (.int p)) (.d (.int q)) M = some (.d (g p q), M) := by simp [oIc, h]
@[simp] theorem x_mod {p q : Int} (h : 0 < q) : oMod (.d (.int p)) (.d (.int q)) M = some (.d (.int (p % q)), M) := x_Ic h
theorem x_divW {p q : Int} (h : CDivW p q) : oDiv (.d (.int p)) (.d (.int q)) M = some (.d (.int (p / q)), M) := x_Ic h
@[simp] theorem x_div {p q : Int} (h : 0 < q ∧ q < 1073741824) : oDiv (.d (.int p)) (.d (.int q)) M = some (.d (.int (p / q)), M) := x_divW (wide_div (b := 30) h.1 (by omega) (by decide) (by decide))
@[simp] theorem x_mul {p q : Int} (h : CMul p q) : oMul (.d (.int p)) (.d (.int q)) M = some (.d (.int (p * q)), M) := x_Ic h
@[simp] theorem x_U {g : Int → PyData} {p : Int} : oU g (.d (.int p)) M = some (.d (g p), M) := rfl
@[simp] theorem x_eqI {p q : Int} : oEq (.d (.int p)) (.d (.int q)) M = some (.d (.bool (decide (p = q))), M) := rfl
@[simp] theorem x_eqS {p q : Str} : oEq (.d (.str p)) (.d (.str q)) M = some (.d (.bool (decide (p = q))), M) := rfl
@[simp] theorem x_eqB {p q : Bool} : oEq (.d (.bool p)) (.d (.bool q)) M = some (.d (.bool (decide (p = q))), M) := rfl
@[simp] theorem x_neS {p q : Str} : oNe (.d (.str p)) (.d (.str q)) M = some (.d (.bool (!decide (p = q))), M) := rfl
@[simp] theorem x_neI {p q : Int} : oNe (.d (.int p)) (.d (.int q)) M = some (.d (.bool (!decide (p = q))), M) := rfl
@[simp] theorem x_abs {p : Int} : fAbs [.d (.int p)] M = some (.d (.int (if p < 0 then -p else p)), M) := rfl
@[simp] theorem x_max2 {p q : Int} : fMax2 [.d (.int p), .d (.int q)] M = some (.d (.int (if q > p then q else p)), M) := rfl
@[simp] theorem x_min2 {p q : Int} : fMin2 [.d (.int p), .d (.int q)] M = some (.d (.int (if q < p then q else p)), M) := rfl
@[simp] theorem x_intB {p : Bool} : fInt [.d (.bool p)] M = some (.d (.int (if p then 1 else 0)), M) := rfl
@[simp] theorem x_len : fLen [w] M = (seqOf M w).bind fun ws => some (.d (.int ws.length), M) := rfl
@[simp] theorem x_lenS : fLenS ns [.scr] M = some (.d (.int ns.length), M) := rfl
@[simp] theorem x_tupleL : fTuple [.obj i] M = (lstAt M (.obj i)).bind fun l => some (mkTup l.2, M) := rfl
@[simp] theorem x_isi : eIsi T a ρ M = (a ρ M).bind fun p => (kindW p.2 p.1).bind fun k => some (.d (.bool (isiB T k)), p.2) := rfl
@[simp] theorem x_iseqO : iSeq a ρ M = (a ρ M).bind fun p => match p.1 with | .obj i => (lstAt p.2 (.obj i)).bind fun l => some ((l.2, [(i, .lst l.2)]), p.2) | w => (tupOf w).bind fun ws => some ((ws, []), p.2) := rfl
theorem x_range1 {j : Int} (h : as ρ M = some ([.d (.int j)], M2)) (r : InR j) : iRange1 as ρ M = some (((List.range j.toNat).map fun (k : Nat) => .d (.int (k : Int)), []), M2) := by
  simp [iRange1, h, r]
theorem x_range2 {i j : Int} (h : as ρ M = some ([.d (.int i), .d (.int j)], M2)) (r : InR i) (r2 : InR j) : iRange2 as ρ M = some (((List.range (j - i).toNat).map fun (k : Nat) => .d (.int (i + (k : Int))), []), M2) := by
  simp [iRange2, h, r, r2]
@[simp] theorem ok_range1 {Q : (List W × List (Nat × MO)) × Mem → Prop} : Ok (iRange1 as ρ M) Q ↔ Ok (as ρ M) fun p => ∃ j : Int, p.1 = [.d (.int j)] ∧ InR j ∧ Q (((List.range j.toNat).map fun (k : Nat) => .d (.int (k : Int)), []), p.2) := by
  constructor
  · intro ⟨x, e, q⟩
    obtain ⟨p, e1, e⟩ := bsome e
    refine ⟨p, e1, ?_⟩
    split at e
    · rename_i j hj
      split at e
      · rename_i r; cases e; refine ⟨j, hj, r, ?_⟩; simpa using q
      · cases e
    · cases e
  · intro ⟨p, e, j, hj, r, q⟩
    obtain ⟨p1, p2⟩ := p
    simp only at hj q
    subst hj
    exact ⟨_, x_range1 e r, q⟩
@[simp] theorem ok_range2 {Q : (List W × List (Nat × MO)) × Mem → Prop} : Ok (iRange2 as ρ M) Q ↔ Ok (as ρ M) fun p => ∃ i j : Int, p.1 = [.d (.int i), .d (.int j)] ∧ InR i ∧ InR j ∧ Q (((List.range (j - i).toNat).map fun (k : Nat) => .d (.int (i + (k : Int))), []), p.2) := by
  constructor
  · intro ⟨x, e, q⟩
    obtain ⟨p, e1, e⟩ := bsome e
    refine ⟨p, e1, ?_⟩
    split at e
    · rename_i i j hj
      split at e
      · rename_i r; cases e; exact ⟨i, j, hj, r.1, r.2, q⟩
      · cases e
    · cases e
  · intro ⟨p, e, i, j, hj, r, r2, q⟩
    obtain ⟨p1, p2⟩ := p
    simp only at hj q
    subst hj
    exact ⟨_, x_range2 e r r2, q⟩
@[simp] theorem x_slT : eSlT lo hi a ρ M = (a ρ M).bind fun p => (tupOf p.1).bind fun ws => some (mkTup (cutG ws lo hi), p.2) := rfl
@[simp] theorem x_slS : eSlS ns lo hi a ρ M = (a ρ M).bind fun p => match p.1 with | .scr => some (.obj p.2.length, p.2 ++ [.lst ((cutG ns lo hi).map fun i => .d (.int i))]) | _ => none := rfl
@[simp] theorem x_rev : eRev a ρ M = (a ρ M).bind fun p => (tupOf p.1).bind fun ws => some (mkTup ws.reverse, p.2) := rfl
@[simp] theorem x_tupIx : eTupIx k a ρ M = (a ρ M).bind fun p => (seqOf p.2 p.1).bind fun ws => (itemsAt k ws).bind fun us => if us.length ≤ sizeLine then some (mkTup us, p.2) else none := rfl
@[simp] theorem x_maxAbs : eMaxAbs a ρ M = (a ρ M).bind fun p => (seqOf p.2 p.1).bind fun ws => (intsOf ws).bind fun is => if is = [] then none else if is.length ≤ sizeLine then some (.d (.int (maxI (is.map fun n => if n < 0 then -n else n))), p.2) else none := rfl
@[simp] theorem x_allBlank : eAllBlank a ρ M = (a ρ M).bind fun p => (seqOf p.2 p.1).bind fun ws => (blanks ws).bind fun bs => if bs.length ≤ sizeLine then some (.d (.bool (bs.all id)), p.2) else none := rfl
@[simp] theorem x_zip3 : iZip3W as ρ M = (as ρ M).bind fun p => match p.1 with | [x, y, z] => (srcOf p.2 x).bind fun s1 => (srcOf p.2 y).bind fun s2 => (srcOf p.2 z).bind fun s3 => if s1.1.length = s2.1.length ∧ s1.1.length = s3.1.length then some ((zip3W s1.1 s2.1 s3.1, s1.2 ++ s2.2 ++ s3.2), p.2) else none | _ => none := rfl
@[simp] theorem x_srcT {ds : List PyData} : srcOf M (.d (.tuple ds)) = some (ds.map W.d, []) := rfl
@[simp] theorem x_ints0 : intsOf [] = some [] := rfl
@[simp] theorem x_intsC {p : Int} : intsOf (.d (.int p) :: ws) = (intsOf ws).bind fun is => some (p :: is) := rfl
theorem x_intsM : ∀ (is : List Int), intsOf (is.map fun i => .d (.int i)) = some is
  | [] => rfl
  | i :: is => by simp [x_intsM is]
theorem x_intsM' (is : List Int) : intsOf ((is.map PyData.int).map W.d) = some is := by rw [List.map_map]; exact x_intsM is
theorem x_boolsM : ∀ (is : List Bool), boolsOf (is.map fun i => .d (.bool i)) = some is
  | [] => rfl
  | i :: is => by show (boolsOf (is.map fun i => .d (.bool i))).bind _ = _; rw [x_boolsM is]; rfl
end
/-! loops -/
theorem lc_ok {deps : List (Nat × MO)} {g : EvG} {t : EvT} {e : EvE} {ρ0 : Ev} {n : Nat} (I : Nat → Mem → Prop) {items0 : List W} (hd : ∀ k M, k ≤ items0.length → I k M → Deps deps M)
    (turn : ∀ (k : Nat) (w : W) (M : Mem), items0[k]? = some w → I k M → Ok (g w ρ0) fun ρ1 => Ok (t ρ1 M) fun p => if p.1 = true then Ok (e ρ1 p.2) fun y => ∃ acc, y.2[n]? = some (.lst acc) ∧ acc.length < sizeLine ∧ I (k + 1) (y.2.set n (.lst (acc ++ [y.1]))) else I (k + 1) p.2) :
    ∀ (items : List W) (k : Nat) (M : Mem), items0.drop k = items → k ≤ items0.length → I k M → Ok (lcL deps g t e ρ0 n items M) (I items0.length)
  | [], k, M, hk, hl, h => by
    have : k = items0.length := by
      have := congrArg List.length hk
      simp at this
      omega
    subst this
    simp only [lcL]
    rw [if_pos (hd _ M hl h)]
    exact ok_some.mpr h
  | w :: ws, k, M, hk, hl, h => by
    have hw : items0[k]? = some w := by
      have : (items0.drop k)[0]? = some w := by rw [hk]; rfl
      simpa using this
    have hk' : items0.drop (k + 1) = ws := by rw [← List.drop_drop, hk]; rfl
    have hl' : k + 1 ≤ items0.length := (List.getElem?_eq_some_iff.mp hw).1
    obtain ⟨ρ1, e1, p, e2, h2⟩ := turn k w M hw h
    simp only [lcL]
    rw [if_pos (hd _ M hl h), e1]
    simp only [Option.bind_some]
    rw [e2]
    simp only [Option.bind_some]
    cases hp : p.1 with
    | false =>
      rw [hp] at h2
      simp only [Bool.false_eq_true, if_false] at h2 ⊢
      exact lc_ok I hd turn ws (k + 1) _ hk' hl' h2
    | true =>
      rw [hp] at h2
      simp only [if_true] at h2 ⊢
      obtain ⟨y, e3, acc, h3, h4, h5⟩ := h2
      rw [e3]
      simp only [Option.bind_some]
      rw [x_lstAt h3]
      simp only [Option.bind_some]
      rw [if_pos h4]
      exact lc_ok I hd turn ws (k + 1) _ hk' hl' h5
/-- what a loop's body may come to -/
def forQ (I : Ev → Mem → Prop) (B : Ev → Mem → Prop) (R : W → Mem → Prop) : Out → Prop
  | .nx ρ M => I ρ M
  | .ct ρ M => I ρ M
  | .bk ρ M => B ρ M
  | .rt w M => R w M
def endQ (N : Ev → Mem → Prop) (R : W → Mem → Prop) : Out → Prop
  | .nx ρ M => N ρ M
  | .rt w M => R w M
  | _ => False
theorem for_ok {deps : List (Nat × MO)} {g : EvG} {b : EvS} (I : Nat → Ev → Mem → Prop) (N : Ev → Mem → Prop) (R : W → Mem → Prop) {items0 : List W} (hd : ∀ k ρ M, k ≤ items0.length → I k ρ M → Deps deps M)
    (hN : ∀ ρ M, I items0.length ρ M → N ρ M)
    (turn : ∀ (k : Nat) (w : W) (ρ : Ev) (M : Mem), items0[k]? = some w → I k ρ M → Ok (g w ρ) fun ρ1 => Ok (b ρ1 M) (forQ (I (k + 1)) N R)) :
    ∀ (items : List W) (k : Nat) (ρ : Ev) (M : Mem), items0.drop k = items → k ≤ items0.length → I k ρ M → Ok (forL deps g b items ρ M) (endQ N R)
  | [], k, ρ, M, hk, hl, h => by
    have : k = items0.length := by
      have := congrArg List.length hk
      simp at this
      omega
    subst this
    simp only [forL]
    rw [if_pos (hd _ ρ M hl h)]
    exact ok_some.mpr (hN ρ M h)
  | w :: ws, k, ρ, M, hk, hl, h => by
    have hw : items0[k]? = some w := by
      have : (items0.drop k)[0]? = some w := by rw [hk]; rfl
      simpa using this
    have hk' : items0.drop (k + 1) = ws := by rw [← List.drop_drop, hk]; rfl
    have hl' : k + 1 ≤ items0.length := (List.getElem?_eq_some_iff.mp hw).1
    obtain ⟨ρ1, e1, o, e2, h2⟩ := turn k w ρ M hw h
    simp only [forL]
    rw [if_pos (hd _ ρ M hl h), e1]
    simp only [Option.bind_some]
    rw [e2]
    simp only [Option.bind_some]
    cases o with
    | nx ρ2 M2 => exact for_ok I N R hd hN turn ws (k + 1) _ _ hk' hl' h2
    | ct ρ2 M2 => exact for_ok I N R hd hN turn ws (k + 1) _ _ hk' hl' h2
    | bk ρ2 M2 => exact ok_some.mpr h2
    | rt w2 M2 => exact ok_some.mpr h2
/-- a comprehension whose elements change nothing -/
theorem lc_pure {deps : List (Nat × MO)} {g : EvG} {e : EvE} {ρ0 : Ev} {M : Mem} (f : W → W) {items : List W} (hd : ∀ acc, Deps deps (M ++ [.lst acc])) (small : items.length ≤ 1000000)
    (turn : ∀ w ∈ items, ∃ ρ1, g w ρ0 = some ρ1 ∧ ∀ acc, e ρ1 (M ++ [.lst acc]) = some (f w, M ++ [.lst acc])) : lcL deps g tTrue e ρ0 M.length items (M ++ [.lst []]) = some (M ++ [.lst (items.map f)]) := by
  obtain ⟨M', e1, h⟩ := lc_ok (deps := deps) (g := g) (t := tTrue) (e := e) (ρ0 := ρ0) (n := M.length) (items0 := items) (fun k M' => M' = M ++ [.lst ((items.take k).map f)]) (fun k M' _ h => by rw [h]; exact hd _) (fun k w M' hw h => by
    subst h
    obtain ⟨ρ1, h1, h2⟩ := turn w (List.mem_of_getElem? hw)
    refine ⟨ρ1, h1, _, rfl, ?_⟩
    simp only [if_true]
    refine ⟨_, h2 _, _, get_new0, ?_, ?_⟩
    · have : (items.take k).length ≤ items.length := by simp; omega
      simp only [List.length_map]
      exact Nat.lt_of_le_of_lt (Nat.le_trans this small) (by decide)
    · rw [set_new0]
      simp only [List.set_cons_zero]
      congr 3
      rw [List.take_succ, hw]
      simp) items 0 (M ++ [.lst []]) rfl (Nat.zero_le _) (by simp)
  rw [e1, h]
  simp
/-- a loop's end: the turns that are to come grow fewer -/
theorem wh_ok {c : EvT} {b : EvS} (I : Nat → Ev → Mem → Prop) (N : Ev → Mem → Prop) (R : W → Mem → Prop) (turn : ∀ m ρ M, I m ρ M → Ok (c ρ M) fun p => if p.1 = true then Ok (b ρ p.2) (forQ (fun ρ2 M2 => ∃ m', m' < m ∧ I m' ρ2 M2) N R) else N ρ p.2) :
    ∀ (m k : Nat) (ρ : Ev) (M : Mem), m < k → I m ρ M → Ok (whN c b k ρ M) (endQ N R) := by
  intro m
  induction m using Nat.strongRecOn with
  | ind m ih =>
    intro k ρ M hk h
    cases k with
    | zero => omega
    | succ k =>
      obtain ⟨p, e1, h1⟩ := turn m ρ M h
      simp only [whN]
      rw [e1]
      simp only [Option.bind_some]
      cases hp : p.1 with
      | false =>
        rw [hp] at h1
        simp only [Bool.false_eq_true, if_false] at h1 ⊢
        exact ok_some.mpr h1
      | true =>
        rw [hp] at h1
        simp only [if_true] at h1 ⊢
        obtain ⟨o, e2, h2⟩ := h1
        rw [e2]
        simp only [Option.bind_some]
        cases o with
        | nx ρ2 M2 => obtain ⟨m', hm, h3⟩ := h2; exact ih m' hm k ρ2 M2 (by omega) h3
        | ct ρ2 M2 => obtain ⟨m', hm, h3⟩ := h2; exact ih m' hm k ρ2 M2 (by omega) h3
        | bk ρ2 M2 => exact ok_some.mpr h2
        | rt w2 M2 => exact ok_some.mpr h2
end Va

set_option Elab.async false
set_option linter.all false
set_option maxRecDepth 100000
set_option maxHeartbeats 1000000
/-! PgA: simple sayings, holds, and what the program does with them, by value -/
namespace Pg
open PySem PySem.Spec PyProof.Rows L2 Sa Va
inductive Simple where
  | sum (ws : List Int) (c : Int)
  | rest (ws : List Int) (r m : Int)
  deriving DecidableEq
abbrev wsD (ws : List Int) : PyData := .tuple (ws.map .int)
def sD : Simple → PyData
  | .sum ws c => .tuple [.str "sum", wsD ws, .int c]
  | .rest ws r m => .tuple [.str "rest", wsD ws, .int r, .int m]
def Simple.ws : Simple → List Int
  | .sum ws _ => ws
  | .rest ws _ _ => ws
def Simple.isRest : Simple → Bool
  | .sum _ _ => false
  | .rest _ _ _ => true
abbrev absI (n : Int) : Int := if n < 0 then -n else n
def sizeM : Simple → Int
  | .sum ws c => if maxI (ws.map absI) > 1 + absI c then maxI (ws.map absI) else 1 + absI c
  | .rest _ _ m => m - 1
def saysM : Simple → Int → Bool
  | .sum _ c, n => decide (c ≤ n)
  | .rest _ r _, n => decide (n = r)
def leftM : Simple → Int → Int
  | .sum _ _, n => n
  | .rest _ _ m, n => n % m
def clampI (s n : Int) : Int := if (if n < s then n else s) > -s then (if n < s then n else s) else -s
def cutM : Simple → Int → Int × Int
  | .sum ws c, n => (clampI (sizeM (.sum ws c)) n, n - clampI (sizeM (.sum ws c)) n)
  | .rest ws r m, n => (n % m, 0)
/-- as far as the program asks -/
structure Wf (S : Simple) : Prop where
  some : S.ws ≠ []
  pos : ∀ ws r m, S = .rest ws r m → 0 < m
  few : S.ws.length ≤ 1000
theorem nsr : ¬ (Str.ofString "sum" = Str.ofString "rest") := by decide +kernel
section
variable {S : Simple} {ws : List Int} {c r m n : Int} {M : Mem}
theorem F_says_eq : F_says [.d (sD S), .d (.int n)] M = some (.d (.bool (saysM S n)), M) := by
  cases S <;> simp [F_says, nf, fnV, g_says, sD, saysM, nsr]
theorem F_left_by_eq (h : Wf S) : F_left_by [.d (sD S), .d (.int n)] M = some (.d (.int (leftM S n)), M) := by
  cases S with
  | sum ws c => simp [F_left_by, nf, fnV, g_left_by, sD, leftM, nsr]
  | rest ws r m => simp [F_left_by, nf, fnV, g_left_by, sD, leftM, h.pos ws r m rfl]
theorem F_size_of_eq (h : Wf S) : F_size_of [.d (sD S)] M = some (.d (.int (sizeM S)), M) := by
  cases S with
  | sum ws c =>
    have ne : ws ≠ [] := h.some
    have e := x_intsM' ws
    simp only [List.map_map] at e
    have few : ws.length ≤ sizeLine := small_size h.few
    simp [F_size_of, nf, fnV, g_size_of, sD, sizeM, nsr, e, ne, absI, few]
  | rest ws r m => simp [F_size_of, nf, fnV, g_size_of, sD, sizeM]
theorem F_cut_eq (h : Wf S) : F_cut [.d (sD S), .d (.int n)] M = some (.d (.tuple [.int (cutM S n).1, .int (cutM S n).2]), M) := by
  cases S with
  | sum ws c =>
    have e1 : ∀ M, F_size_of [.d (sD (.sum ws c))] M = _ := fun M => F_size_of_eq h
    simp only [sD] at e1
    simp [F_cut, nf, fnV, g_cut, sD, nsr, e1, cutM, clampI, small_size]
  | rest ws r m =>
    have e1 : ∀ M, F_left_by [.d (sD (.rest ws r m)), .d (.int n)] M = _ := fun M => F_left_by_eq h
    simp only [sD] at e1
    simp [F_cut, nf, fnV, g_cut, sD, e1, cutM, leftM, small_size]
end
structure Hold where
  leads : Bool
  number : Int
  word : Bool
def hD (h : Hold) : PyData := .tuple [.bool h.leads, .int h.number, .bool h.word]
def nD (h : Bool × Int) : PyData := .tuple [.bool h.1, .int h.2]
def metG (S : Simple) (x y : Hold) : Hold × Hold :=
  if (!x.leads && !y.leads) = true then (x, y)
  else
    let k := (cutM S (x.number + y.number)).1
    let v := (cutM S (x.number + y.number)).2
    if x.leads = true then (⟨true, k, saysM S k⟩, ⟨false, v, saysM S k⟩) else (⟨false, v, saysM S k⟩, ⟨true, k, saysM S k⟩)
def notG (S : Simple) (x : Hold) (y : Bool × Int) : Hold × (Bool × Int) :=
  let k := (cutM S (x.number + y.2)).1
  (⟨x.leads || y.1, k, if (x.leads || y.1) = true then saysM S k else x.word⟩, (false, (cutM S (x.number + y.2)).2))
section
variable {S : Simple} {M : Mem}
theorem F_members_met_eq (h : Wf S) {x y : Hold} : F_members_met [.d (sD S), .d (hD x), .d (hD y)] M = some (.d (.tuple [hD (metG S x y).1, hD (metG S x y).2]), M) := by
  have e1 : ∀ n M, F_cut [.d (sD S), .d (.int n)] M = _ := fun n M => F_cut_eq h
  obtain ⟨xl, xn, xw⟩ := x
  obtain ⟨yl, yn, yw⟩ := y
  cases xl <;> cases yl <;> simp [F_members_met, nf, fnV, g_members_met, hD, metG, e1, F_says_eq, small_size]
theorem F_note_met_eq (h : Wf S) {x : Hold} {y : Bool × Int} : F_note_met [.d (sD S), .d (hD x), .d (nD y)] M = some (.d (.tuple [hD (notG S x y).1, nD (notG S x y).2]), M) := by
  have e1 : ∀ n M, F_cut [.d (sD S), .d (.int n)] M = _ := fun n M => F_cut_eq h
  obtain ⟨xl, xn, xw⟩ := x
  obtain ⟨yl, yn⟩ := y
  cases xl <;> cases yl <;> simp [F_note_met, nf, fnV, g_note_met, hD, nD, notG, e1, F_says_eq, small_size]
end
end Pg

set_option Elab.async false
set_option linter.all false
set_option maxRecDepth 100000
set_option maxHeartbeats 1000000
/-! PgB: meetings of states of several holds, by value -/
namespace Va
open PySem PySem.Spec PyProof.Rows L2 Sa
theorem lc_map {τ : Type} {deps : List (Nat × MO)} {g : EvG} {e : EvE} {ρ0 : Ev} {M : Mem} (ts : List τ) (enc res : τ → W) (hd : ∀ acc, Deps deps (M ++ [.lst acc])) (small : ts.length ≤ 1000000)
    (turn : ∀ t ∈ ts, ∃ ρ1, g (enc t) ρ0 = some ρ1 ∧ ∀ acc, e ρ1 (M ++ [.lst acc]) = some (res t, M ++ [.lst acc])) : lcL deps g tTrue e ρ0 M.length (ts.map enc) (M ++ [.lst []]) = some (M ++ [.lst (ts.map res)]) := by
  obtain ⟨M', e1, h⟩ := lc_ok (deps := deps) (g := g) (t := tTrue) (e := e) (ρ0 := ρ0) (n := M.length) (items0 := ts.map enc) (fun k M' => M' = M ++ [.lst ((ts.take k).map res)]) (fun k M' _ h => by rw [h]; exact hd _) (fun k w M' hw h => by
    subst h
    rw [List.getElem?_map] at hw
    obtain ⟨t, ht, rfl⟩ := Option.map_eq_some_iff.mp hw
    obtain ⟨ρ1, h1, h2⟩ := turn t (List.mem_of_getElem? ht)
    refine ⟨ρ1, h1, _, rfl, ?_⟩
    simp only [if_true]
    refine ⟨_, h2 _, _, get_new0, ?_, ?_⟩
    · have : (ts.take k).length ≤ ts.length := by simp; omega
      simp only [List.length_map]
      exact Nat.lt_of_le_of_lt (Nat.le_trans this small) (by decide)
    · rw [set_new0]
      simp only [List.set_cons_zero]
      congr 3
      rw [List.take_succ, ht]
      simp) (ts.map enc) 0 (M ++ [.lst []]) rfl (Nat.zero_le _) (by simp)
  rw [e1, h]
  simp
theorem itemsAt_map {τ : Type} {k : Nat} (enc : τ → List PyData) (res : τ → PyData) : ∀ (ts : List τ), (∀ t ∈ ts, (enc t)[k]? = some (res t)) → itemsAt k (ts.map fun t => .d (.tuple (enc t))) = some (ts.map fun t => .d (res t))
  | [], _ => rfl
  | t :: ts, h => by
    have ih := itemsAt_map enc res ts fun u hu => h u (List.mem_cons_of_mem _ hu)
    have h0 := h t List.mem_cons_self
    simp only [List.map_cons, itemsAt, tupOf, Option.bind_some, List.getElem?_map, h0, Option.map_some, ih]
theorem datas_of {τ : Type} (f : τ → PyData) (ts : List τ) : datas (ts.map fun t => .d (f t)) = some (ts.map f) := by
  have := datas_map (ts.map f)
  rw [List.map_map] at this
  exact this
theorem mkTup_of' {τ : Type} (f : τ → PyData) (ts : List τ) : mkTup (ts.map fun t => .d (f t)) = .d (.tuple (ts.map f)) := mkTup_of (datas_of f ts)
end Va
namespace Pg
open PySem PySem.Spec PyProof.Rows L2 Sa Va
def trip {α β γ : Type} : List α → List β → List γ → List (α × β × γ)
  | x :: xs, y :: ys, z :: zs => (x, y, z) :: trip xs ys zs
  | _, _, _ => []
theorem trip_length {α β γ : Type} : ∀ {xs : List α} {ys : List β} {zs : List γ}, xs.length = ys.length → xs.length = zs.length → (trip xs ys zs).length = xs.length
  | [], [], [], _, _ => rfl
  | x :: xs, y :: ys, z :: zs, h1, h2 => by simp only [trip, List.length_cons]; rw [trip_length (by simpa using h1) (by simpa using h2)]
  | [], _ :: _, _, h, _ => by simp at h
  | _ :: _, [], _, h, _ => by simp at h
  | [], [], _ :: _, _, h => by simp at h
  | _ :: _, _ :: _, [], _, h => by simp at h
theorem zip3_trip {α β γ : Type} (f : α → PyData) (g : β → PyData) (h : γ → PyData) : ∀ (xs : List α) (ys : List β) (zs : List γ), zip3W (xs.map fun x => .d (f x)) (ys.map fun x => .d (g x)) (zs.map fun x => .d (h x)) = (trip xs ys zs).map fun t => .d (.tuple [f t.1, g t.2.1, h t.2.2])
  | x :: xs, y :: ys, z :: zs => by simp only [List.map_cons, zip3W, trip, mkTup3]; rw [zip3_trip f g h xs ys zs]
  | [], _, _ => by simp [zip3W, trip]
  | _ :: _, [], _ => by simp [zip3W, trip]
  | _ :: _, _ :: _, [] => by simp [zip3W, trip]
theorem trip_mem {α β γ : Type} : ∀ {xs : List α} {ys : List β} {zs : List γ} {t : α × β × γ}, t ∈ trip xs ys zs → t.1 ∈ xs ∧ t.2.1 ∈ ys ∧ t.2.2 ∈ zs
  | x :: xs, y :: ys, z :: zs, t, h => by
    simp only [trip, List.mem_cons] at h
    rcases h with rfl | h
    · exact ⟨List.mem_cons_self, List.mem_cons_self, List.mem_cons_self⟩
    · obtain ⟨a, b, c⟩ := trip_mem h
      exact ⟨List.mem_cons_of_mem _ a, List.mem_cons_of_mem _ b, List.mem_cons_of_mem _ c⟩
  | [], _, _, _, h => by simp [trip] at h
  | _ :: _, [], _, _, h => by simp [trip] at h
  | _ :: _, _ :: _, [], _, h => by simp [trip] at h
def metL (Ss : List Simple) (xs ys : List Hold) : List (Hold × Hold) := (trip Ss xs ys).map fun t => metG t.1 t.2.1 t.2.2
def notL (Ss : List Simple) (xs : List Hold) (ys : List (Bool × Int)) : List (Hold × (Bool × Int)) := (trip Ss xs ys).map fun t => notG t.1 t.2.1 t.2.2
section
variable {Ss : List Simple} {xs ys : List Hold} {ns : List (Bool × Int)} {M : Mem}
theorem F_holds_met_eq (h : ∀ S ∈ Ss, Wf S) (h1 : Ss.length = xs.length) (h2 : Ss.length = ys.length) (small : Ss.length ≤ 1000) :
    F_holds_met [.d (.tuple (Ss.map sD)), .d (.tuple (xs.map hD)), .d (.tuple (ys.map hD))] M = some (.d (.tuple [.tuple ((metL Ss xs ys).map fun p => hD p.1), .tuple ((metL Ss xs ys).map fun p => hD p.2)]), M) := by
  have hl := trip_length h1 h2
  have e : ∀ ρ0 : Ev, ρ0.length = 8 → lcL [] (gT 3 (gsC (gN 4) (gsC (gN 5) (gsC (gN 6) gs0)))) tTrue (eDef 3 F_members_met (aCons (eVar 4) (aCons (eVar 5) (aCons (eVar 6) aNil)))) ρ0 M.length ((trip Ss xs ys).map fun t => .d (.tuple [sD t.1, hD t.2.1, hD t.2.2])) (M ++ [.lst []])
      = some (M ++ [.lst ((trip Ss xs ys).map fun t => .d (.tuple [hD (metG t.1 t.2.1 t.2.2).1, hD (metG t.1 t.2.1 t.2.2).2]))]) := by
    intro ρ0 hρ
    refine lc_map _ _ _ (fun _ => by simp) (by rw [hl]; omega) fun t ht => ?_
    have wf := h _ (trip_mem ht).1
    obtain ⟨r0, r1, r2, r3, r4, r5, r6, r7, rfl⟩ : ∃ r0 r1 r2 r3 r4 r5 r6 r7, ρ0 = [r0, r1, r2, r3, r4, r5, r6, r7] := by
      match ρ0, hρ with
      | [r0, r1, r2, r3, r4, r5, r6, r7], _ => exact ⟨r0, r1, r2, r3, r4, r5, r6, r7, rfl⟩
    refine ⟨_, by simp; rfl, fun acc => ?_⟩
    simp [F_members_met_eq wf]
  have i0 := itemsAt_map (k := 0) (fun t : Simple × Hold × Hold => [hD (metG t.1 t.2.1 t.2.2).1, hD (metG t.1 t.2.1 t.2.2).2]) (fun t => hD (metG t.1 t.2.1 t.2.2).1) (trip Ss xs ys) fun _ _ => rfl
  have i1 := itemsAt_map (k := 1) (fun t : Simple × Hold × Hold => [hD (metG t.1 t.2.1 t.2.2).1, hD (metG t.1 t.2.1 t.2.2).2]) (fun t => hD (metG t.1 t.2.1 t.2.2).2) (trip Ss xs ys) fun _ _ => rfl
  have z := zip3_trip sD hD hD Ss xs ys
  have h1' := h1.symm
  have h2' := h2.symm
  have sm : Ss.length ≤ sizeLine := small_size small
  simp [F_holds_met, nf, fnV, g_holds_met, z, h1', h2', e, i0, i1, hl, sm, small_size, mkTup_of', metL, Function.comp_def]
theorem F_meet_member_eq {i j : Int} (h : ∀ S ∈ Ss, Wf S) (h1 : Ss.length = xs.length) (h2 : Ss.length = ys.length) (small : Ss.length ≤ 1000) :
    F_meet_member [.d (.tuple (Ss.map sD)), .d (.tuple [.str "member", .int i, .tuple (xs.map hD)]), .d (.tuple [.str "member", .int j, .tuple (ys.map hD)])] M
      = some (.d (.tuple [.tuple [.str "member", .int i, .tuple ((metL Ss xs ys).map fun p => hD p.1)], .tuple [.str "member", .int j, .tuple ((metL Ss xs ys).map fun p => hD p.2)]]), M) := by
  have e : ∀ M, F_holds_met [.d (.tuple (Ss.map sD)), .d (.tuple (xs.map hD)), .d (.tuple (ys.map hD))] M = _ := fun M => F_holds_met_eq h h1 h2 small
  simp [F_meet_member, nf, fnV, g_meet_member, e, small_size]
theorem blank_eqv (b : Bool) (n : Int) : PyData.eqv (.tuple [.bool b, .int n]) (.tuple [.bool false, .int 0]) = (!b && decide (n = 0)) := by
  cases b
  · simp only [PyData.eqv, PyData.eqvAll]
    by_cases h : n = 0 <;> simp [h]
  · simp [PyData.eqv, PyData.eqvAll]
def isNo (p : Bool × Int) : Bool := !p.1 && decide (p.2 = 0)
theorem blanks_map : ∀ (ns : List (Bool × Int)), blanks (ns.map fun p => .d (nD p)) = some (ns.map isNo)
  | [] => rfl
  | (b, n) :: ns => by
    simp only [List.map_cons, nD, blanks]
    have := blanks_map ns
    simp only [nD] at this
    rw [this, blank_eqv]
    rfl
theorem F_is_blank_eq (small : ns.length ≤ 1000) : F_is_blank [.d (.tuple (ns.map nD))] M = some (.d (.bool (ns.all isNo)), M) := by
  have := blanks_map ns
  simp [F_is_blank, nf, fnV, g_is_blank, Function.comp_def, this, small_size small]
theorem F_meet_note_eq {i : Int} (h : ∀ S ∈ Ss, Wf S) (h1 : Ss.length = xs.length) (h2 : Ss.length = ns.length) (small : Ss.length ≤ 1000) :
    F_meet_note [.d (.tuple (Ss.map sD)), .d (.tuple [.str "member", .int i, .tuple (xs.map hD)]), .d (.tuple [.str "note", .tuple (ns.map nD)])] M
      = some (.d (.tuple [.tuple [.str "member", .int i, .tuple ((notL Ss xs ns).map fun p => hD p.1)], if ((notL Ss xs ns).map fun p => p.2).all isNo = true then .none else .tuple [.str "note", .tuple ((notL Ss xs ns).map fun p => nD p.2)]]), M) := by
  have hl := trip_length h1 h2
  have e : ∀ ρ0 : Ev, ρ0.length = 10 → lcL [] (gT 3 (gsC (gN 6) (gsC (gN 7) (gsC (gN 8) gs0)))) tTrue (eDef 3 F_note_met (aCons (eVar 6) (aCons (eVar 7) (aCons (eVar 8) aNil)))) ρ0 M.length ((trip Ss xs ns).map fun t => .d (.tuple [sD t.1, hD t.2.1, nD t.2.2])) (M ++ [.lst []])
      = some (M ++ [.lst ((trip Ss xs ns).map fun t => .d (.tuple [hD (notG t.1 t.2.1 t.2.2).1, nD (notG t.1 t.2.1 t.2.2).2]))]) := by
    intro ρ0 hρ
    refine lc_map _ _ _ (fun _ => by simp) (by rw [hl]; omega) fun t ht => ?_
    have wf := h _ (trip_mem ht).1
    obtain ⟨r0, r1, r2, r3, r4, r5, r6, r7, r8, r9, rfl⟩ : ∃ r0 r1 r2 r3 r4 r5 r6 r7 r8 r9, ρ0 = [r0, r1, r2, r3, r4, r5, r6, r7, r8, r9] := by
      match ρ0, hρ with
      | [r0, r1, r2, r3, r4, r5, r6, r7, r8, r9], _ => exact ⟨r0, r1, r2, r3, r4, r5, r6, r7, r8, r9, rfl⟩
    refine ⟨_, by simp; rfl, fun acc => ?_⟩
    simp [F_note_met_eq wf]
  have i0 := itemsAt_map (k := 0) (fun t : Simple × Hold × (Bool × Int) => [hD (notG t.1 t.2.1 t.2.2).1, nD (notG t.1 t.2.1 t.2.2).2]) (fun t => hD (notG t.1 t.2.1 t.2.2).1) (trip Ss xs ns) fun _ _ => rfl
  have i1 := itemsAt_map (k := 1) (fun t : Simple × Hold × (Bool × Int) => [hD (notG t.1 t.2.1 t.2.2).1, nD (notG t.1 t.2.1 t.2.2).2]) (fun t => nD (notG t.1 t.2.1 t.2.2).2) (trip Ss xs ns) fun _ _ => rfl
  have z := zip3_trip sD hD nD Ss xs ns
  have h1' := h1.symm
  have h2' := h2.symm
  have sm : Ss.length ≤ sizeLine := small_size small
  have bl : ∀ M, F_is_blank [.d (.tuple ((trip Ss xs ns).map fun t => nD (notG t.1 t.2.1 t.2.2).2))] M = some (.d (.bool (((trip Ss xs ns).map fun t => (notG t.1 t.2.1 t.2.2).2).all isNo)), M) := fun M => by
    have := F_is_blank_eq (ns := (trip Ss xs ns).map fun t => (notG t.1 t.2.1 t.2.2).2) (M := M) (by rw [List.length_map, hl]; exact small)
    rw [List.map_map] at this
    exact this
  cases hb : ((trip Ss xs ns).map fun t => (notG t.1 t.2.1 t.2.2).2).all isNo with
  | true =>
    rw [hb] at bl
    have hb' : ((notL Ss xs ns).map fun p => p.2).all isNo = true := by rw [notL, List.map_map]; exact hb
    simp only [hb', if_true]
    simp [F_meet_note, nf, fnV, g_meet_note, z, h1', h2', e, i0, i1, hl, sm, small_size, mkTup_of', notL, Function.comp_def, bl]
  | false =>
    rw [hb] at bl
    have hb' : ((notL Ss xs ns).map fun p => p.2).all isNo = false := by rw [notL, List.map_map]; exact hb
    simp only [hb']
    simp [F_meet_note, nf, fnV, g_meet_note, z, h1', h2', e, i0, i1, hl, sm, small_size, mkTup_of', notL, Function.comp_def, bl]
end
end Pg

set_option Elab.async false
set_option linter.all false
set_option maxRecDepth 100000
set_option maxHeartbeats 1000000
/-! PgC: states; meet_by; sayings and their simple ones, by value -/
namespace Pg
open PySem PySem.Spec PyProof.Rows L2 Sa Va
inductive State where
  | mem (sort : Int) (xs : List Hold)
  | note (ns : List (Bool × Int))
def stD : State → PyData
  | .mem i xs => .tuple [.str "member", .int i, .tuple (xs.map hD)]
  | .note ns => .tuple [.str "note", .tuple (ns.map nD)]
def State.many : State → Nat
  | .mem _ xs => xs.length
  | .note ns => ns.length
def State.isNote : State → Bool
  | .mem _ _ => false
  | .note _ => true
/-- a note, or nothing where it bears nothing -/
def noteOr (ns : List (Bool × Int)) : Option State := if ns.all isNo = true then none else some (.note ns)
def metS (Ss : List Simple) : State → State → Option State × Option State
  | .mem i xs, .mem j ys => (some (.mem i ((metL Ss xs ys).map (·.1))), some (.mem j ((metL Ss xs ys).map (·.2))))
  | .mem i xs, .note ns => (some (.mem i ((notL Ss xs ns).map (·.1))), noteOr ((notL Ss xs ns).map (·.2)))
  | .note ns, .mem i xs => (noteOr ((notL Ss xs ns).map (·.2)), some (.mem i ((notL Ss xs ns).map (·.1))))
  | .note ns, .note ms => (some (.note ns), some (.note ms))
def oD : Option State → PyData
  | none => .none
  | some s => stD s
def pairD (p : Option State × Option State) : PyData := .tuple [oD p.1, oD p.2]
theorem nmn : ¬ (Str.ofString "member" = Str.ofString "note") := by decide +kernel
section
variable {Ss : List Simple} {M : Mem}
theorem F_is_note_eq (s : State) : F_is_note [.d (stD s)] M = some (.d (.bool s.isNote), M) := by
  cases s <;> simp [F_is_note, nf, fnV, g_is_note, stD, State.isNote, nmn]
theorem oD_noteOr (ns : List (Bool × Int)) : oD (noteOr ns) = if ns.all isNo = true then .none else .tuple [.str "note", .tuple (ns.map nD)] := by
  unfold noteOr
  split <;> rfl
theorem F_meet_by_eq (h : ∀ S ∈ Ss, Wf S) (a b : State) (h1 : a.many = Ss.length) (h2 : b.many = Ss.length) (small : Ss.length ≤ 1000) :
    F_meet_by [.d (.tuple (Ss.map sD)), .d (stD a), .d (stD b)] M = some (.d (pairD (metS Ss a b)), M) := by
  have n1 : ∀ M, F_is_note [.d (stD a)] M = some (.d (.bool a.isNote), M) := fun M => F_is_note_eq a
  have n2 : ∀ M, F_is_note [.d (stD b)] M = some (.d (.bool b.isNote), M) := fun M => F_is_note_eq b
  cases a with
  | mem i xs =>
    cases b with
    | mem j ys =>
      have e : ∀ M, F_meet_member [.d (.tuple (Ss.map sD)), .d (stD (.mem i xs)), .d (stD (.mem j ys))] M = _ := fun M => F_meet_member_eq h h1.symm h2.symm small
      simp [F_meet_by, nf, fnV, g_meet_by, n1, n2, e, State.isNote]
      simp [pairD, metS, oD, stD, List.map_map, Function.comp_def]
    | note ns =>
      have e : ∀ M, F_meet_note [.d (.tuple (Ss.map sD)), .d (stD (.mem i xs)), .d (stD (.note ns))] M = _ := fun M => F_meet_note_eq h h1.symm h2.symm small
      simp only [pairD, metS, oD_noteOr]
      simp [F_meet_by, nf, fnV, g_meet_by, n1, n2, e, State.isNote]
      simp [oD, stD, List.map_map, Function.comp_def]
  | note ns =>
    cases b with
    | mem j ys =>
      have e : ∀ M, F_meet_note [.d (.tuple (Ss.map sD)), .d (stD (.mem j ys)), .d (stD (.note ns))] M = _ := fun M => F_meet_note_eq h h2.symm h1.symm small
      simp only [pairD, metS, oD_noteOr]
      simp [F_meet_by, nf, fnV, g_meet_by, n1, n2, e, State.isNote, small_size]
      simp [oD, stD, List.map_map, Function.comp_def]
    | note ms => simp [F_meet_by, nf, fnV, g_meet_by, n1, n2, State.isNote, pairD, metS, oD, small_size]

/-! sayings -/
inductive Say where
  | one (S : Simple)
  | no (a : Say)
  | an (a b : Say)
  | or (a b : Say)
def yD : Say → PyData
  | .one S => sD S
  | .no a => .tuple [.str "not", yD a]
  | .an a b => .tuple [.str "and", yD a, yD b]
  | .or a b => .tuple [.str "or", yD a, yD b]
def Say.leaves : Say → List Simple
  | .one S => [S]
  | .no a => a.leaves
  | .an a b => a.leaves ++ b.leaves
  | .or a b => a.leaves ++ b.leaves
def Say.deep : Say → Nat
  | .one _ => 1
  | .no a => a.deep + 1
  | .an a b => max a.deep b.deep + 1
  | .or a b => max a.deep b.deep + 1
def Say.joined : Say → Bool
  | .one _ => false
  | _ => true
theorem F_is_tuple_of_eq {ds : List PyData} {n : Int} : F_is_tuple_of [.d (.tuple ds), .d (.int n)] M = some (.d (.bool (decide ((ds.length : Int) = n))), M) := by
  simp [F_is_tuple_of, nf, fnV, g_is_tuple_of, kindW, isiB]
theorem F_is_headed_eq {z x : Str} {ds : List PyData} {n : Int} : F_is_headed [.d (.tuple (.str z :: ds)), .d (.str x), .d (.int n)] M = some (.d (.bool (decide (((ds.length + 1 : Nat) : Int) = n) && decide (z = x))), M) := by
  have e : ∀ M, F_is_tuple_of [.d (.tuple (.str z :: ds)), .d (.int n)] M = _ := fun M => F_is_tuple_of_eq
  by_cases h : ((ds.length + 1 : Nat) : Int) = n
  · simp only [List.length_cons, h, decide_true] at e
    simp [F_is_headed, nf, fnV, g_is_headed, e, kindW, isiB, h]
  · simp only [List.length_cons, h, decide_false] at e
    simp [F_is_headed, nf, fnV, g_is_headed, e, kindW, isiB, h]
    intro q
    exact absurd (by omega) h
theorem words_unlike : ¬ (Str.ofString "sum" = Str.ofString "not") ∧ ¬ (Str.ofString "sum" = Str.ofString "and") ∧ ¬ (Str.ofString "sum" = Str.ofString "or") ∧ ¬ (Str.ofString "rest" = Str.ofString "not") ∧ ¬ (Str.ofString "rest" = Str.ofString "and") ∧ ¬ (Str.ofString "rest" = Str.ofString "or") ∧ ¬ (Str.ofString "and" = Str.ofString "not") ∧ ¬ (Str.ofString "or" = Str.ofString "not") ∧ ¬ (Str.ofString "or" = Str.ofString "and") := by decide +kernel
theorem F_is_joined_eq (y : Say) : F_is_joined [.d (yD y)] M = some (.d (.bool y.joined), M) := by
  obtain ⟨u1, u2, u3, u4, u5, u6, u7, u8, u9⟩ := words_unlike
  have e : ∀ {z x : Str} {ds : List PyData} {n : Int} (M : Mem), F_is_headed [.d (.tuple (.str z :: ds)), .d (.str x), .d (.int n)] M = some (.d (.bool (decide (((ds.length + 1 : Nat) : Int) = n) && decide (z = x))), M) := fun M => F_is_headed_eq
  cases y with
  | one S => cases S <;> simp [F_is_joined, nf, fnV, g_is_joined, yD, sD, e, Say.joined, u1, u2, u3, u4, u5, u6]
  | no a => simp [F_is_joined, nf, fnV, g_is_joined, yD, e, Say.joined]
  | an a b => simp [F_is_joined, nf, fnV, g_is_joined, yD, e, Say.joined, u7]
  | or a b => simp [F_is_joined, nf, fnV, g_is_joined, yD, e, Say.joined, u8, u9]
end
end Pg

set_option Elab.async false
set_option linter.all false
set_option maxRecDepth 100000
set_option maxHeartbeats 1000000
/-! PgD: the simple ones of a saying, rising, by value -/
namespace Pg
open PySem PySem.Spec PyProof.Rows L2 Sa Va
theorem flatInts : ∀ ws : List Int, flats (ws.map PyData.int) = true
  | [] => rfl
  | n :: ws => by
    show (flat (.int n) && flats (ws.map PyData.int)) = true
    rw [flatInts ws]
    rfl
theorem depthInts : ∀ ws : List Int, NestedKey.depthAll (nks (ws.map PyData.int)) = 0
  | [] => rfl
  | n :: ws => by
    show max (NestedKey.depth (.num n)) (NestedKey.depthAll (nks (ws.map PyData.int))) = 0
    rw [depthInts ws]
    rfl
theorem depthDInts : ∀ ws : List Int, PyData.depthAll (ws.map PyData.int) = 0
  | [] => rfl
  | n :: ws => by
    show max (PyData.depth (.int n)) (PyData.depthAll (ws.map PyData.int)) = 0
    rw [depthDInts ws]
    rfl
theorem sD_flat (S : Simple) : flat (sD S) = true := by
  cases S <;> (show (true && (flats _ && _)) = true; rw [flatInts]; rfl)
theorem sD_depth (S : Simple) : (sD S).depth ≤ 60 := by
  cases S with
  | sum ws c =>
    show max 0 (max (PyData.depthAll (ws.map PyData.int) + 1) (max 0 0)) + 1 ≤ 60
    rw [depthDInts]
    decide
  | rest ws r m =>
    show max 0 (max (PyData.depthAll (ws.map PyData.int) + 1) (max 0 (max 0 0))) + 1 ≤ 60
    rw [depthDInts]
    decide
theorem nksInts : ∀ {ws vs : List Int}, nks (ws.map PyData.int) = nks (vs.map PyData.int) → ws = vs
  | [], [], _ => rfl
  | [], _ :: _, h => by cases h
  | _ :: _, [], h => by cases h
  | w :: ws, v :: vs, h => by
    have h' : NestedKey.num w :: nks (ws.map PyData.int) = NestedKey.num v :: nks (vs.map PyData.int) := h
    injection h' with h1 h2
    injection h1 with h1
    rw [h1, nksInts h2]
theorem nk_inj {S T : Simple} (h : nk (sD S) = nk (sD T)) : S = T := by
  cases S with
  | sum ws c =>
    cases T with
    | sum vs d =>
      have h' : NestedKey.tup [.text "sum", .tup (nks (ws.map PyData.int)), .num c] = .tup [.text "sum", .tup (nks (vs.map PyData.int)), .num d] := h
      injection h' with h'
      injection h' with _ h'
      injection h' with h1 h'
      injection h' with h2 _
      injection h1 with h1
      injection h2 with h2
      rw [nksInts h1, h2]
    | rest vs r m =>
      have h' : NestedKey.tup [.text "sum", .tup (nks (ws.map PyData.int)), .num c] = .tup [.text "rest", .tup (nks (vs.map PyData.int)), .num r, .num m] := h
      injection h' with h'
      injection h' with _ h'
      injection h' with _ h'
      injection h' with _ h'
      cases h'
  | rest ws r m =>
    cases T with
    | sum vs d =>
      have h' : NestedKey.tup [.text "rest", .tup (nks (ws.map PyData.int)), .num r, .num m] = .tup [.text "sum", .tup (nks (vs.map PyData.int)), .num d] := h
      injection h' with h'
      injection h' with _ h'
      injection h' with _ h'
      injection h' with _ h'
      cases h'
    | rest vs r' m' =>
      have h' : NestedKey.tup [.text "rest", .tup (nks (ws.map PyData.int)), .num r, .num m] = .tup [.text "rest", .tup (nks (vs.map PyData.int)), .num r', .num m'] := h
      injection h' with h'
      injection h' with _ h'
      injection h' with h1 h'
      injection h' with h2 h'
      injection h' with h3 _
      injection h1 with h1
      injection h2 with h2
      injection h3 with h3
      rw [nksInts h1, h2, h3]
theorem sD_key8 (S : Simple) : (nk (sD S)).depth ≤ 8 := by
  cases S with
  | sum ws c =>
    show max 0 (max (NestedKey.depthAll (nks (ws.map PyData.int)) + 1) (max 0 0)) + 1 ≤ 8
    rw [depthInts]
    decide
  | rest ws r m =>
    show max 0 (max (NestedKey.depthAll (nks (ws.map PyData.int)) + 1) (max 0 (max 0 0))) + 1 ≤ 8
    rw [depthInts]
    decide
theorem alikeInts2 : ∀ ws vs : List Int, PySem.W.alikeAll (ws.map PyData.int) (vs.map PyData.int) = true
  | [], _ => by simp [PySem.W.alikeAll]
  | _ :: _, [] => by simp [PySem.W.alikeAll]
  | w :: ws, v :: vs => by
    show (PySem.W.alike (.int w) (.int v) && PySem.W.alikeAll (ws.map PyData.int) (vs.map PyData.int)) = true
    rw [alikeInts2 ws vs]
    rfl
theorem sD_alike2 (S T : Simple) : PySem.W.alike (sD S) (sD T) = true := by
  cases S <;> cases T <;> (show (true && (PySem.W.alikeAll _ _ && _)) = true; rw [alikeInts2]; rfl)
def sLe (S T : Simple) : Bool := !PySem.W.dataLt (sD T) (sD S)
theorem toksInts : ∀ {ws vs : List Int} {r t : List (Int ⊕ List Nat)}, PySem.W.keyToksAll (ws.map PyData.int) ++ r = PySem.W.keyToksAll (vs.map PyData.int) ++ t → ws = vs ∧ r = t
  | [], [], r, t, h => by
    have h' : (Sum.inl 0 : Int ⊕ List Nat) :: r = Sum.inl 0 :: t := h
    injection h' with _ h'
    exact ⟨rfl, h'⟩
  | [], v :: vs, r, t, h => by
    have h' : (Sum.inl 0 : Int ⊕ List Nat) :: r = Sum.inl 1 :: ((Sum.inl v :: PySem.W.keyToksAll (vs.map PyData.int)) ++ t) := h
    injection h' with h' _
    injection h' with h'
    cases h'
  | w :: ws, [], r, t, h => by
    have h' : (Sum.inl 1 : Int ⊕ List Nat) :: ((Sum.inl w :: PySem.W.keyToksAll (ws.map PyData.int)) ++ r) = Sum.inl 0 :: t := h
    injection h' with h' _
    injection h' with h'
    cases h'
  | w :: ws, v :: vs, r, t, h => by
    have h' : (Sum.inl 1 : Int ⊕ List Nat) :: Sum.inl w :: (PySem.W.keyToksAll (ws.map PyData.int) ++ r) = Sum.inl 1 :: Sum.inl v :: (PySem.W.keyToksAll (vs.map PyData.int) ++ t) := h
    injection h' with _ h'
    injection h' with h1 h'
    injection h1 with h1
    obtain ⟨e1, e2⟩ := toksInts h'
    exact ⟨by rw [h1, e1], e2⟩
theorem toks_inj {S T : Simple} (h : PySem.W.keyToks (sD S) = PySem.W.keyToks (sD T)) : S = T := by
  have words : (Sum.inr (Str.ofString "sum").cps.toList : Int ⊕ List Nat) ≠ Sum.inr (Str.ofString "rest").cps.toList := by decide +kernel
  have eS : ∀ ws c, PySem.W.keyToks (sD (.sum ws c)) = Sum.inl 1 :: Sum.inr (Str.ofString "sum").cps.toList :: Sum.inl 1 :: (PySem.W.keyToksAll (ws.map PyData.int) ++ [Sum.inl 1, Sum.inl c, Sum.inl 0]) := fun _ _ => rfl
  have eR : ∀ ws r m, PySem.W.keyToks (sD (.rest ws r m)) = Sum.inl 1 :: Sum.inr (Str.ofString "rest").cps.toList :: Sum.inl 1 :: (PySem.W.keyToksAll (ws.map PyData.int) ++ [Sum.inl 1, Sum.inl r, Sum.inl 1, Sum.inl m, Sum.inl 0]) := fun _ _ _ => rfl
  cases S with
  | sum ws c =>
    cases T with
    | sum vs d =>
      rw [eS, eS] at h
      injection h with _ h
      injection h with _ h
      injection h with _ h
      obtain ⟨e1, e2⟩ := toksInts h
      injection e2 with _ e2
      injection e2 with e2 _
      injection e2 with e2
      rw [e1, e2]
    | rest vs r m =>
      rw [eS, eR] at h
      injection h with _ h
      injection h with h _
      exact absurd h words
  | rest ws r m =>
    cases T with
    | sum vs d =>
      rw [eR, eS] at h
      injection h with _ h
      injection h with h _
      exact absurd h.symm words
    | rest vs r' m' =>
      rw [eR, eR] at h
      injection h with _ h
      injection h with _ h
      injection h with _ h
      obtain ⟨e1, e2⟩ := toksInts h
      injection e2 with _ e2
      injection e2 with e3 e2
      injection e2 with _ e2
      injection e2 with e4 _
      injection e3 with e3
      injection e4 with e4
      rw [e1, e3, e4]
theorem sLe_antisymm {S T : Simple} (h1 : sLe S T = true) (h2 : sLe T S = true) : S = T := by
  unfold sLe at h1 h2
  rw [Bool.not_eq_true'] at h1 h2
  exact toks_inj (lex_total _ _ h2 h1)
theorem rising_one : ∀ {N M : List Simple}, N.Pairwise (fun S T => sLe S T = true) → M.Pairwise (fun S T => sLe S T = true) → N.Nodup → M.Nodup → (∀ S, S ∈ N ↔ S ∈ M) → N = M
  | [], [], _, _, _, _, _ => rfl
  | [], T :: M, _, _, _, _, e => absurd ((e T).mpr List.mem_cons_self) (by simp)
  | S :: N, [], _, _, _, _, e => absurd ((e S).mp List.mem_cons_self) (by simp)
  | S :: N, T :: M, p1, p2, n1, n2, e => by
    obtain ⟨a1, p1⟩ := List.pairwise_cons.mp p1
    obtain ⟨a2, p2'⟩ := List.pairwise_cons.mp p2
    obtain ⟨b1, n1⟩ := List.nodup_cons.mp n1
    obtain ⟨b2, n2'⟩ := List.nodup_cons.mp n2
    have same : S = T := by
      rcases List.mem_cons.mp ((e S).mp List.mem_cons_self) with z | z
      · exact z
      · rcases List.mem_cons.mp ((e T).mpr List.mem_cons_self) with y | y
        · exact y.symm
        · exact sLe_antisymm (a1 T y) (a2 S z)
    subst same
    have rest : ∀ R, R ∈ N ↔ R ∈ M := fun R => by
      constructor
      · intro h
        rcases List.mem_cons.mp ((e R).mp (List.mem_cons_of_mem _ h)) with z | z
        · rw [z] at h; exact absurd h b1
        · exact z
      · intro h
        rcases List.mem_cons.mp ((e R).mpr (List.mem_cons_of_mem _ h)) with z | z
        · rw [z] at h; exact absurd h b2
        · exact z
    rw [rising_one p1 p2' n1 n2' rest]
/-- the unlike ones, rising -/
def rowOf (ls : List Simple) : List Simple := ls.eraseDups.mergeSort (PySem.W.dataLe false sD)
theorem sLe_eq (S T : Simple) : PySem.W.dataLe false sD S T = sLe S T := rfl
theorem sLe_total : PySem.W.TotalLe (PySem.W.dataLe false sD) := PySem.W.sortLe_total _ false _
theorem row_sorted (ls : List Simple) : (ls.mergeSort (PySem.W.dataLe false sD)).Pairwise fun S T => sLe S T = true := PySem.W.sort_pairwise sLe_total ls
theorem nodup_erase : ∀ (n : Nat) (ls : List Simple), ls.length ≤ n → ls.eraseDups.Nodup
  | 0, ls, h => by
    have : ls = [] := List.length_eq_zero_iff.mp (by omega)
    rw [this]; simp
  | n + 1, [], _ => by simp
  | n + 1, x :: ls, h => by
    rw [List.eraseDups_cons, List.nodup_cons]
    refine ⟨fun z => ?_, nodup_erase n _ ?_⟩
    · have := List.mem_eraseDups.mp z
      simp at this
    · have := List.length_filter_le (fun b => !b == x) ls
      simp at h
      omega
theorem rowOf_nodup (ls : List Simple) : (rowOf ls).Nodup := (List.mergeSort_perm _ _).nodup_iff.mpr (nodup_erase _ ls (Nat.le_refl _))
theorem rowOf_mem (ls : List Simple) (S : Simple) : S ∈ rowOf ls ↔ S ∈ ls := ((List.mergeSort_perm _ _).mem_iff).trans List.mem_eraseDups
def FewS (ls : List Simple) : Prop := ∀ N : List Simple, N.Nodup → (∀ S ∈ N, S ∈ ls) → N.length + 1 < 64
theorem pre_list {L ls : List PyData} : ∀ {Ls : List Simple}, (∀ d ∈ L, d ∈ Ls.map sD) → ∃ L0 : List Simple, L = L0.map sD ∧ ∀ S ∈ L0, S ∈ Ls := by
  intro Ls
  induction L with
  | nil => exact fun _ => ⟨[], rfl, fun _ h => by simp at h⟩
  | cons d L ih =>
    intro h
    obtain ⟨L0, e, k⟩ := ih fun x hx => h x (List.mem_cons_of_mem _ hx)
    obtain ⟨S, hS, rfl⟩ := List.mem_map.mp (h d List.mem_cons_self)
    exact ⟨S :: L0, by rw [e]; rfl, fun T hT => by
      rcases List.mem_cons.mp hT with rfl | hT
      · exact hS
      · exact k T hT⟩
theorem nodup_of_map {α β : Type} {f : α → β} : ∀ {l : List α}, (l.map f).Nodup → l.Nodup
  | [], _ => List.nodup_nil
  | x :: l, h => by
    rw [List.map_cons, List.nodup_cons] at h
    exact List.nodup_cons.mpr ⟨fun z => h.1 (List.mem_map_of_mem z), nodup_of_map h.2⟩
theorem sortsTo {ls : List Simple} (few : FewS ls) : SortsTo (ls.map sD) ((rowOf ls).map sD) where
  keys := fun d hd => by
    obtain ⟨S, _, rfl⟩ := List.mem_map.mp hd
    exact ⟨sD_flat S, sD_key8 S, by cases S <;> exact ⟨_, _, rfl⟩, sD_depth S⟩
  alike := fun d hd d' hd' => by
    obtain ⟨S, _, rfl⟩ := List.mem_map.mp hd
    obtain ⟨T, _, rfl⟩ := List.mem_map.mp hd'
    exact sD_alike2 S T
  few := fun N nd sub => by
    have key : ∀ N : List NestedKey, (∀ k ∈ N, k ∈ (ls.map sD).map nk) → ∃ N0 : List Simple, N = N0.map (fun S => nk (sD S)) ∧ ∀ S ∈ N0, S ∈ ls := by
      intro N
      induction N with
      | nil => exact fun _ => ⟨[], rfl, fun _ h => by simp at h⟩
      | cons k N ih =>
        intro h
        obtain ⟨N0, e, q⟩ := ih fun x hx => h x (List.mem_cons_of_mem _ hx)
        have hk := h k List.mem_cons_self
        rw [List.map_map] at hk
        obtain ⟨S, hS, rfl⟩ := List.mem_map.mp hk
        exact ⟨S :: N0, by rw [e]; rfl, fun T hT => by
          rcases List.mem_cons.mp hT with rfl | hT
          · exact hS
          · exact q T hT⟩
    obtain ⟨N0, rfl, q⟩ := key N sub
    rw [List.length_map]
    exact few N0 (nodup_of_map nd) q
  ex := ⟨(ls.eraseDups).map sD, fun d hd => by
      obtain ⟨S, hS, rfl⟩ := List.mem_map.mp hd
      exact List.mem_map_of_mem (List.mem_eraseDups.mp hS), fun d hd => by
      obtain ⟨S, hS, rfl⟩ := List.mem_map.mp hd
      exact List.mem_map_of_mem (List.mem_map_of_mem (List.mem_eraseDups.mpr hS)), by
      rw [List.map_map]
      have nd := nodup_erase _ ls (Nat.le_refl _)
      generalize ls.eraseDups = q at nd
      induction q with
      | nil => exact List.nodup_nil
      | cons S q ih =>
        rw [List.nodup_cons] at nd
        rw [List.map_cons, List.nodup_cons]
        refine ⟨fun z => ?_, ih nd.2⟩
        obtain ⟨T, hT, e⟩ := List.mem_map.mp z
        exact nd.1 (by rw [← nk_inj e]; exact hT)⟩
  one := fun L ⟨s1, s2, s3⟩ => by
    obtain ⟨L0, rfl, q⟩ := pre_list (ls := []) s1
    have mm : (L0.mergeSort (PySem.W.dataLe false sD)).map sD = (L0.map sD).mergeSort (PySem.W.dataLe false id) := List.map_mergeSort fun a _ b _ => rfl
    rw [← mm]
    congr 1
    refine rising_one (row_sorted L0) (row_sorted _) ((List.mergeSort_perm _ _).nodup_iff.mpr (nodup_of_map (nodup_of_map s3))) (rowOf_nodup ls) fun S => ?_
    rw [(List.mergeSort_perm _ _).mem_iff, rowOf_mem]
    refine ⟨q S, fun h => ?_⟩
    have := s2 (sD S) (List.mem_map_of_mem h)
    rw [List.map_map] at this
    obtain ⟨T, hT, e⟩ := List.mem_map.mp this
    rw [← nk_inj e]
    exact hT
theorem rowOf_congr {ls ms : List Simple} (h : ∀ S, S ∈ ls ↔ S ∈ ms) : rowOf ls = rowOf ms :=
  rising_one (row_sorted _) (row_sorted _) (rowOf_nodup ls) (rowOf_nodup ms) fun S => (rowOf_mem ls S).trans ((h S).trans (rowOf_mem ms S).symm)
theorem Say.leaves_pos : ∀ y : Say, 0 < y.leaves.length
  | .one _ => Nat.one_pos
  | .no a => Say.leaves_pos a
  | .an a b => by simp only [Say.leaves, List.length_append]; have := Say.leaves_pos a; omega
  | .or a b => by simp only [Say.leaves, List.length_append]; have := Say.leaves_pos a; omega
section
variable {M : Mem}
theorem norm_new {us : List W} {J : Mem} (d : us.all isD = true) : norm M (.obj M.length, M ++ .lst us :: J) = (.obj M.length, M ++ [.lst us]) := norm_l (j := 0) rfl d .refl
theorem all_isD {τ : Type} (f : τ → PyData) (ts : List τ) : (ts.map fun t => W.d (f t)).all isD = true := by
  induction ts with
  | nil => rfl
  | cons t ts ih => simp only [List.map_cons, List.all_cons, ih]; rfl
theorem F_all_simples_eq : ∀ (k : Nat) (y : Say) (M : Mem), y.deep ≤ k → y.leaves.length ≤ 1000 → F_all_simples k [.d (yD y)] M = some (.obj M.length, M ++ [.lst (y.leaves.map fun S => .d (sD S))])
  | 0, y, M, h, _ => by cases y <;> simp [Say.deep] at h
  | k + 1, y, M, h, hs => by
    have j : ∀ M, F_is_joined [.d (yD y)] M = _ := fun M => F_is_joined_eq y
    have isd := all_isD sD
    cases y with
    | one S =>
      have n := norm_new (M := M) (us := [.d (yD (.one S))]) (J := []) rfl
      simp [F_all_simples, nf, fnV, g_all_simples, j, Say.joined, small_size, n]
      simp [yD, Say.leaves]
    | no a =>
      have e := fun M => F_all_simples_eq k a M (by simp [Say.deep] at h; omega) hs
      have hs' : a.leaves.length ≤ sizeLine := small_size hs
      have n := fun J => norm_new (M := M) (us := a.leaves.map fun S => .d (sD S)) (J := J) (isd _)
      simp only [yD] at j
      simp [F_all_simples, nf, fnV, g_all_simples, j, Say.joined, small_size, yD, forL, cutG, HT.sIx, e, hs', n, Say.leaves]
    | an a b =>
      have hl : a.leaves.length + b.leaves.length ≤ 1000 := by simpa [Say.leaves] using hs
      have ea := fun M => F_all_simples_eq k a M (by simp [Say.deep] at h; omega) (by omega)
      have eb := fun M => F_all_simples_eq k b M (by simp [Say.deep] at h; omega) (by omega)
      have hs1 : a.leaves.length ≤ sizeLine := small_size (by omega)
      have hs2 : a.leaves.length + b.leaves.length ≤ sizeLine := small_size hl
      have n := fun J => norm_new (M := M) (us := (a.leaves.map fun S => .d (sD S)) ++ (b.leaves.map fun S => .d (sD S))) (J := J) (by rw [List.all_append, isd, isd]; rfl)
      simp only [yD] at j
      simp [F_all_simples, nf, fnV, g_all_simples, j, Say.joined, small_size, yD, forL, cutG, HT.sIx, ea, eb, hs1, hs2, n, Say.leaves]
    | or a b =>
      have hl : a.leaves.length + b.leaves.length ≤ 1000 := by simpa [Say.leaves] using hs
      have ea := fun M => F_all_simples_eq k a M (by simp [Say.deep] at h; omega) (by omega)
      have eb := fun M => F_all_simples_eq k b M (by simp [Say.deep] at h; omega) (by omega)
      have hs1 : a.leaves.length ≤ sizeLine := small_size (by omega)
      have hs2 : a.leaves.length + b.leaves.length ≤ sizeLine := small_size hl
      have n := fun J => norm_new (M := M) (us := (a.leaves.map fun S => .d (sD S)) ++ (b.leaves.map fun S => .d (sD S))) (J := J) (by rw [List.all_append, isd, isd]; rfl)
      simp only [yD] at j
      simp [F_all_simples, nf, fnV, g_all_simples, j, Say.joined, small_size, yD, forL, cutG, HT.sIx, ea, eb, hs1, hs2, n, Say.leaves]
theorem F_simples_eq (y : Say) (hd : y.deep ≤ 9) (hs : y.leaves.length ≤ 1000) (few : FewS y.leaves) : F_simples [.d (yD y)] M = some (.d (.tuple ((rowOf y.leaves).map sD)), M) := by
  have e := fun M => F_all_simples_eq 9 y M hd hs
  have s : fSortSet [.obj M.length] (M ++ [.lst (y.leaves.map fun S => .d (sD S))]) = _ := fSortSet_eq (i := M.length) (ds := y.leaves.map sD) (by rw [List.map_map]; exact x_lstAt (by simp)) (sortsTo few)
  simp only [List.length_append, List.length_singleton] at s
  have mk : mkTup ((rowOf y.leaves).map (W.d ∘ sD)) = _ := mkTup_of' sD _
  simp [F_simples, nf, fnV, g_simples, e, s, mk]
theorem F_meet_eq (y : Say) (hd : y.deep ≤ 9) (hs : y.leaves.length ≤ 1000) (few : FewS y.leaves) (wf : ∀ S ∈ y.leaves, Wf S) (a b : State) (h1 : a.many = (rowOf y.leaves).length) (h2 : b.many = (rowOf y.leaves).length) :
    F_meet [.d (yD y), .d (stD a), .d (stD b)] M = some (.d (pairD (metS (rowOf y.leaves) a b)), M) := by
  have e := fun M => F_simples_eq (M := M) y hd hs few
  have small : (rowOf y.leaves).length ≤ 1000 := by
    have := few (rowOf y.leaves) (rowOf_nodup _) fun S hS => (rowOf_mem _ S).mp hS
    omega
  have m := fun M => F_meet_by_eq (M := M) (Ss := rowOf y.leaves) (fun S hS => wf S ((rowOf_mem _ S).mp hS)) a b h1 h2 small
  simp [F_meet, nf, fnV, g_meet, e, m]
end
end Pg

set_option Elab.async false
set_option linter.all false
set_option maxRecDepth 100000
set_option maxHeartbeats 1000000
namespace Lw
open PySem PySem.Spec PyProof.Rows L2 Sa Va
noncomputable def g__law_hand (ns : List Int) : EvS :=
    (sSeq (sSet 2 (eIf (tVal (eOp oLt (eVar 1) (eCall (fLenS ns) (aCons (eVar 0) aNil)))) (eOp (oIxS ns) (eVar 0) (eVar 1)) (eC (.int 0))))
    (sSeq (sSet 3 (eOp oAdd (eC (.int 700001)) (eOp oMul (eC (.int 104729)) (eVar 1))))
    (sSeq (sFor (iSeq (eSlS ns none (some 60) (eVar 0))) (gN 4) (sSet 3 (eOp oMod (eOp oAdd (eOp oAdd (eOp oMul (eVar 3) (eC (.int 69621))) (eOp oMul (eC (.int 2)) (eCall fAbs (aCons (eVar 4) aNil)))) (eCall fInt (aCons (eOp oLt (eVar 4) (eC (.int 0))) aNil))) (eC (.int 2305843009213693951)))))
    (sRet (eLst (aCons (eIf (tVal (eOp oGe (eCall fAbs (aCons (eVar 2) aNil)) (eOp oPow (eC (.int 10)) (eC (.int 18))))) (eCall fAbs (aCons (eVar 2) aNil)) (eC (.int 0))) (aCons (eVar 3) (aCons (eC (.int 0)) aNil))))))))
noncomputable def F__law_hand (ns : List Int) : Fn := nf (fnV 5 (g__law_hand ns))

noncomputable def g__law_take : EvS :=
    (sSeq (sIf (tVal (eOp oGt (eOp oIx (eVar 0) (eC (.int 0))) (eC (.int 0)))) (sSeq (sSet 2 (eOp oMod (eOp oIx (eVar 0) (eC (.int 0))) (eVar 1)))
    (sSeq (sPut (eOp oDiv (eOp oIx (eVar 0) (eC (.int 0))) (eVar 1)) (eVar 0) (eC (.int 0)))
    (sRet (eVar 2)))) sNil)
    (sSeq (sPut (eOp oAdd (eOp oIx (eVar 0) (eC (.int 2))) (eC (.int 1))) (eVar 0) (eC (.int 2)))
    (sSeq (sSet 3 (eOp oIx (eLst (aCons (eC (.int 2305843009213693921)) (aCons (eC (.int 999999999989)) (aCons (eC (.int 2305843009213693907)) (aCons (eC (.int 67280421310721)) aNil))))) (eOp oMod (eOp oIx (eVar 0) (eC (.int 2))) (eC (.int 4)))))
    (sSeq (sSet 4 (eOp oAdd (eOp oIx (eVar 0) (eC (.int 1))) (eOp oMul (eOp oMul (eC (.int 15485863)) (eOp oIx (eVar 0) (eC (.int 2)))) (eOp oIx (eVar 0) (eC (.int 2))))))
    (sSeq (sSet 4 (eOp oMod (eOp oAdd (eVar 4) (eOp oMul (eC (.int 32452843)) (eOp oIx (eVar 0) (eC (.int 2))))) (eVar 3)))
    (sSeq (sSet 4 (eOp oMod (eOp oMul (eVar 4) (eOp oAdd (eOp oMod (eVar 4) (eC (.int 1000003))) (eOp oMul (eC (.int 7919)) (eOp oIx (eVar 0) (eC (.int 2)))))) (eVar 3)))
    (sRet (eOp oMod (eOp oAdd (eOp oDiv (eVar 4) (eC (.int 4099))) (eOp oDiv (eVar 4) (eC (.int 1000033)))) (eVar 1)))))))))
noncomputable def F__law_take : Fn := nf (fnV 5 (g__law_take))

noncomputable def g__law_of : EvS :=
    (sRet (eOp oIx (eVar 1) (eDef 2 (F__law_take) (aCons (eVar 0) (aCons (eCall fLen (aCons (eVar 1) aNil)) aNil)))))
noncomputable def F__law_of : Fn := nf (fnV 2 (g__law_of))

noncomputable def g__law_worth : EvS :=
    (sSeq (sSet 1 (eOp oSub (eDef 2 (F__law_take) (aCons (eVar 0) (aCons (eC (.int 19)) aNil))) (eC (.int 9))))
    (sRet (eDef 2 (F__law_of) (aCons (eVar 0) (aCons (eLst (aCons (eC (.int 0)) (aCons (eC (.int 1)) (aCons (eUn oNeg (eC (.int 1))) (aCons (eC (.int 2)) (aCons (eUn oNeg (eC (.int 3))) (aCons (eC (.int 9)) (aCons (eUn oNeg (eC (.int 9))) (aCons (eVar 1) aNil))))))))) aNil)))))
noncomputable def F__law_worth : Fn := nf (fnV 2 (g__law_worth))

noncomputable def g__law_simple : EvS :=
    (sSeq (sSet 2 (eCall fTuple (aCons (eLc (iRange1 (aCons (eVar 1) aNil)) (gN 5) tTrue (eDef 1 (F__law_worth) (aCons (eVar 0) aNil)) [5]) aNil)))
    (sSeq (sIf (tVal (eOp oEq (eDef 2 (F__law_take) (aCons (eVar 0) (aCons (eC (.int 3)) aNil))) (eC (.int 0)))) (sSeq (sSet 3 (eOp oAdd (eC (.int 2)) (eDef 2 (F__law_take) (aCons (eVar 0) (aCons (eC (.int 8)) aNil)))))
    (sRet (eTup (aCons (eC (.str "rest")) (aCons (eVar 2) (aCons (eDef 2 (F__law_take) (aCons (eVar 0) (aCons (eVar 3) aNil))) (aCons (eVar 3) aNil))))))) sNil)
    (sSeq (sSet 4 (eOp oSub (eDef 2 (F__law_take) (aCons (eVar 0) (aCons (eC (.int 41)) aNil))) (eC (.int 20))))
    (sRet (eTup (aCons (eC (.str "sum")) (aCons (eVar 2) (aCons (eDef 2 (F__law_of) (aCons (eVar 0) (aCons (eLst (aCons (eC (.int 0)) (aCons (eC (.int 1)) (aCons (eUn oNeg (eC (.int 1))) (aCons (eC (.int 2)) (aCons (eC (.int 5)) (aCons (eUn oNeg (eC (.int 7))) (aCons (eC (.int 20)) (aCons (eUn oNeg (eC (.int 20))) (aCons (eVar 4) aNil)))))))))) aNil))) aNil))))))))
noncomputable def F__law_simple : Fn := nf (fnV 6 (g__law_simple))

noncomputable def g__law_size : EvS :=
    (sSeq (sIf (tVal (eOp oEq (eOp oIx (eVar 0) (eC (.int 0))) (eC (.str "rest")))) (sRet (eOp oSub (eOp oIx (eVar 0) (eC (.int 3))) (eC (.int 1)))) sNil)
    (sSeq (sSet 1 (eLc (iSeq (eOp oIx (eVar 0) (eC (.int 1)))) (gN 2) tTrue (eCall fAbs (aCons (eVar 2) aNil)) [2]))
    (sRet (eCall fMaxL (aCons (eOp oCat (eVar 1) (eLst (aCons (eOp oAdd (eCall fAbs (aCons (eOp oIx (eVar 0) (eC (.int 2))) aNil)) (eC (.int 1))) aNil))) aNil)))))
noncomputable def F__law_size : Fn := nf (fnV 3 (g__law_size))

noncomputable def g__law_says : EvS :=
    (sSeq (sIf (tVal (eOp oEq (eOp oIx (eVar 0) (eC (.int 0))) (eC (.str "rest")))) (sRet (eOp oEq (eOp oMod (eVar 1) (eOp oIx (eVar 0) (eC (.int 3)))) (eOp oIx (eVar 0) (eC (.int 2))))) sNil)
    (sRet (eOp oGe (eVar 1) (eOp oIx (eVar 0) (eC (.int 2))))))
noncomputable def F__law_says : Fn := nf (fnV 2 (g__law_says))

noncomputable def g__law_member : EvS :=
    (sSeq (sSet 3 (eLst aNil))
    (sSeq (sFor (iSeq (eVar 1)) (gN 4) (sSeq (sPar 5 6 (aCons (eDef 1 (F__law_size) (aCons (eVar 4) aNil)) (aCons (eOp oEq (eDef 2 (F__law_take) (aCons (eVar 0) (aCons (eC (.int 2)) aNil))) (eC (.int 0))) aNil)))
    (sSeq (sSet 7 (eIf (tVal (eOp oEq (eOp oIx (eVar 4) (eC (.int 0))) (eC (.str "rest")))) (eC (.int 0)) (eUn oNeg (eVar 5))))
    (sSeq (sSet 8 (eOp oAdd (eVar 7) (eDef 2 (F__law_take) (aCons (eVar 0) (aCons (eOp oAdd (eOp oSub (eVar 5) (eVar 7)) (eC (.int 1))) aNil)))))
    (sSeq (sSet 9 (eDef 2 (F__law_of) (aCons (eVar 0) (aCons (eLst (aCons (eVar 7) (aCons (eVar 5) (aCons (eC (.int 0)) (aCons (eVar 8) (aCons (eVar 8) aNil)))))) aNil))))
    (sSeq (sSet 10 (eOp oEq (eDef 2 (F__law_take) (aCons (eVar 0) (aCons (eC (.int 2)) aNil))) (eC (.int 0))))
    (sSeq (sSet 10 (eIf (tVal (eVar 6)) (eDef 2 (F__law_says) (aCons (eVar 4) (aCons (eVar 9) aNil))) (eVar 10)))
    (sExpr (sApp (eVar 3) (eTup (aCons (eVar 6) (aCons (eVar 9) (aCons (eVar 10) aNil)))))))))))))
    (sRet (eTup (aCons (eC (.str "member")) (aCons (eVar 2) (aCons (eCall fTuple (aCons (eVar 3) aNil)) aNil)))))))
noncomputable def F__law_member : Fn := nf (fnV 11 (g__law_member))

noncomputable def g__law_note : EvS :=
    (sSeq (sSet 2 (eLst aNil))
    (sSeq (sFor (iSeq (eVar 1)) (gN 3) (sSeq (sSet 4 (eDef 1 (F__law_size) (aCons (eVar 3) aNil)))
    (sSeq (sAsg (eIf (tVal (eOp oEq (eOp oIx (eVar 3) (eC (.int 0))) (eC (.str "rest")))) (eTup (aCons (eC (.int 0)) (aCons (eVar 4) aNil))) (eTup (aCons (eOp oMul (eUn oNeg (eC (.int 2))) (eVar 4)) (aCons (eOp oMul (eC (.int 2)) (eVar 4)) aNil)))) (gT 2 (gsC (gN 5) (gsC (gN 6) gs0))))
    (sSeq (sSet 7 (eOp oAdd (eVar 5) (eDef 2 (F__law_take) (aCons (eVar 0) (aCons (eOp oAdd (eOp oSub (eVar 6) (eVar 5)) (eC (.int 1))) aNil)))))
    (sSeq (sSet 8 (eDef 2 (F__law_of) (aCons (eVar 0) (aCons (eLst (aCons (eC (.int 0)) (aCons (eVar 5) (aCons (eVar 6) (aCons (eVar 7) aNil))))) aNil))))
    (sExpr (sApp (eVar 2) (eTup (aCons (eOp oEq (eDef 2 (F__law_take) (aCons (eVar 0) (aCons (eC (.int 3)) aNil))) (eC (.int 0))) (aCons (eVar 8) aNil))))))))))
    (sSeq (sIf (tVal (eCall fAll (aCons (eLc (iSeq (eVar 2)) (gN 9) tTrue (eOp oEq (eVar 9) (eTup (aCons (eC (.bool false)) (aCons (eC (.int 0)) aNil)))) [9]) aNil))) (sPut (eTup (aCons (eC (.bool true)) (aCons (eC (.int 0)) aNil))) (eVar 2) (eC (.int 0))) sNil)
    (sRet (eTup (aCons (eC (.str "note")) (aCons (eCall fTuple (aCons (eVar 2) aNil)) aNil)))))))
noncomputable def F__law_note : Fn := nf (fnV 10 (g__law_note))

noncomputable def g__law_poured : EvS :=
    (sSeq (sIf (tVal (eOp oEq (eOp oIx (eVar 0) (eC (.int 0))) (eC (.str "rest")))) (sRet (eTup (aCons (eOp oMod (eOp oAdd (eVar 1) (eVar 2)) (eOp oIx (eVar 0) (eC (.int 3)))) (aCons (eC (.int 0)) aNil)))) sNil)
    (sSeq (sSet 3 (eDef 1 (F__law_size) (aCons (eVar 0) aNil)))
    (sSeq (whN (tAndE (tVal (eOp oGt (eVar 2) (eC (.int 0)))) (tVal (eOp oLt (eVar 1) (eVar 3)))) (sPar 1 2 (aCons (eOp oAdd (eVar 1) (eC (.int 1))) (aCons (eOp oSub (eVar 2) (eC (.int 1))) aNil))) 1000000)
    (sSeq (whN (tAndE (tVal (eOp oLt (eVar 2) (eC (.int 0)))) (tVal (eOp oGt (eVar 1) (eUn oNeg (eVar 3))))) (sPar 1 2 (aCons (eOp oSub (eVar 1) (eC (.int 1))) (aCons (eOp oAdd (eVar 2) (eC (.int 1))) aNil))) 1000000)
    (sRet (eTup (aCons (eVar 1) (aCons (eVar 2) aNil))))))))
noncomputable def F__law_poured : Fn := nf (fnV 4 (g__law_poured))

noncomputable def g__law_pair : EvS :=
    (sSeq (sIf (tAndE (tNotE (tVal (eOp oIx (eVar 1) (eC (.int 0))))) (tNotE (tVal (eOp oIx (eVar 2) (eC (.int 0)))))) (sRet (eTup (aCons (eVar 1) (aCons (eVar 2) aNil)))) sNil)
    (sSeq (sAsg (eIf (tVal (eOp oIx (eVar 1) (eC (.int 0)))) (eTup (aCons (eVar 1) (aCons (eVar 2) aNil))) (eTup (aCons (eVar 2) (aCons (eVar 1) aNil)))) (gT 2 (gsC (gN 3) (gsC (gN 4) gs0))))
    (sSeq (sAsg (eDef 3 (F__law_poured) (aCons (eVar 0) (aCons (eOp oIx (eVar 3) (eC (.int 1))) (aCons (eOp oIx (eVar 4) (eC (.int 1))) aNil)))) (gT 2 (gsC (gN 5) (gsC (gN 6) gs0))))
    (sSeq (sSet 7 (eDef 2 (F__law_says) (aCons (eVar 0) (aCons (eVar 5) aNil))))
    (sSeq (sSet 8 (eTup (aCons (eTup (aCons (eC (.bool true)) (aCons (eVar 5) (aCons (eVar 7) aNil)))) (aCons (eTup (aCons (eC (.bool false)) (aCons (eVar 6) (aCons (eVar 7) aNil)))) aNil))))
    (sRet (eIf (tVal (eOp oIx (eVar 1) (eC (.int 0)))) (eVar 8) (eRev (eVar 8)))))))))
noncomputable def F__law_pair : Fn := nf (fnV 9 (g__law_pair))

noncomputable def g__law_noted : EvS :=
    (sSeq (sAsg (eDef 3 (F__law_poured) (aCons (eVar 0) (aCons (eOp oIx (eVar 1) (eC (.int 1))) (aCons (eOp oIx (eVar 2) (eC (.int 1))) aNil)))) (gT 2 (gsC (gN 3) (gsC (gN 4) gs0))))
    (sSeq (sIf (tOrE (tVal (eOp oIx (eVar 1) (eC (.int 0)))) (tVal (eOp oIx (eVar 2) (eC (.int 0))))) (sRet (eTup (aCons (eTup (aCons (eC (.bool true)) (aCons (eVar 3) (aCons (eDef 2 (F__law_says) (aCons (eVar 0) (aCons (eVar 3) aNil))) aNil)))) (aCons (eTup (aCons (eC (.bool false)) (aCons (eVar 4) aNil))) aNil)))) sNil)
    (sRet (eTup (aCons (eTup (aCons (eC (.bool false)) (aCons (eVar 3) (aCons (eOp oIx (eVar 1) (eC (.int 2))) aNil)))) (aCons (eTup (aCons (eC (.bool false)) (aCons (eVar 4) aNil))) aNil))))))
noncomputable def F__law_noted : Fn := nf (fnV 5 (g__law_noted))

noncomputable def g__law_met (self : Fn) : EvS :=
    (sSeq (sIf (tVal (eOp oEq (eOp oIx (eVar 1) (eC (.int 0))) (eC (.str "note")))) (sSeq (sIf (tVal (eOp oEq (eOp oIx (eVar 2) (eC (.int 0))) (eC (.str "note")))) (sRet (eTup (aCons (eVar 1) (aCons (eVar 2) aNil)))) sNil)
    (sRet (eRev (eDef 3 self (aCons (eVar 0) (aCons (eVar 2) (aCons (eVar 1) aNil))))))) sNil)
    (sSeq (sPar3 3 4 5 (aCons (eLst aNil) (aCons (eLst aNil) (aCons (eOp oEq (eOp oIx (eVar 2) (eC (.int 0))) (eC (.str "note"))) aNil))))
    (sSeq (sFor (iZip3W (aCons (eVar 0) (aCons (eOp oIx (eVar 1) (eC (.int 2))) (aCons (eOp oIx (eVar 2) (eUn oNeg (eC (.int 1)))) aNil)))) (gT 3 (gsC (gN 6) (gsC (gN 7) (gsC (gN 8) gs0)))) (sSeq (sSet 9 (eDef 3 (F__law_pair) (aCons (eVar 6) (aCons (eVar 7) (aCons (eVar 8) aNil)))))
    (sSeq (sIf (tVal (eVar 5)) (sSet 9 (eDef 3 (F__law_noted) (aCons (eVar 6) (aCons (eVar 7) (aCons (eVar 8) aNil))))) sNil)
    (sSeq (sExpr (sApp (eVar 3) (eOp oIx (eVar 9) (eC (.int 0)))))
    (sExpr (sApp (eVar 4) (eOp oIx (eVar 9) (eC (.int 1)))))))))
    (sSeq (sSet 10 (eTup (aCons (eC (.str "member")) (aCons (eOp oIx (eVar 1) (eC (.int 1))) (aCons (eCall fTuple (aCons (eVar 3) aNil)) aNil)))))
    (sSeq (sIf (tNotE (tVal (eVar 5))) (sRet (eTup (aCons (eVar 10) (aCons (eTup (aCons (eC (.str "member")) (aCons (eOp oIx (eVar 2) (eC (.int 1))) (aCons (eCall fTuple (aCons (eVar 4) aNil)) aNil)))) aNil)))) sNil)
    (sSeq (sIf (tVal (eCall fAll (aCons (eLc (iSeq (eVar 4)) (gN 11) tTrue (eOp oEq (eVar 11) (eTup (aCons (eC (.bool false)) (aCons (eC (.int 0)) aNil)))) [11]) aNil))) (sRet (eTup (aCons (eVar 10) (aCons (eC .none) aNil)))) sNil)
    (sRet (eTup (aCons (eVar 10) (aCons (eTup (aCons (eC (.str "note")) (aCons (eCall fTuple (aCons (eVar 4) aNil)) aNil))) aNil))))))))))
noncomputable def F__law_met : Nat → Fn
  | 0 => fun _ _ => none
  | k + 1 => nf (fnV 12 (g__law_met (F__law_met k)))

end Lw

set_option Elab.async false
set_option linter.all false
set_option maxRecDepth 100000
set_option maxHeartbeats 1000000
/-! LwA: the hand and its draws, by value -/
namespace Lw
open PySem PySem.Spec PyProof.Rows L2 Sa Va Pg
def HandAt (M : Mem) (h : Nat) (n : Int) : Prop := ∃ a b c : Int, M[h]? = some (.lst [.d (.int a), .d (.int b), .d (.int c)]) ∧ 0 ≤ a ∧ 0 ≤ b ∧ b < 2 ^ 61 ∧ 0 ≤ c ∧ c ≤ n
/-- all but the thing at h is as it was -/
def Upd (h : Nat) (M M' : Mem) : Prop := M'.length = M.length ∧ ∀ i, i ≠ h → M'[i]? = M[i]?
theorem Upd.refl {h : Nat} {M : Mem} : Upd h M M := ⟨rfl, fun _ _ => rfl⟩
theorem Upd.trans {h : Nat} {M M1 M2 : Mem} (a : Upd h M M1) (b : Upd h M1 M2) : Upd h M M2 := ⟨b.1.trans a.1, fun i hi => (b.2 i hi).trans (a.2 i hi)⟩
theorem Upd.set {h : Nat} {M : Mem} {x : MO} : Upd h M (M.set h x) := ⟨by simp, fun i hi => List.getElem?_set_ne (Ne.symm hi)⟩
theorem HandAt.mono {M : Mem} {h : Nat} {n m : Int} (x : HandAt M h n) (le : n ≤ m) : HandAt M h m := let ⟨a, b, c, e, h1, h2, h3, h4, h5⟩ := x; ⟨a, b, c, e, h1, h2, h3, h4, by omega⟩
theorem HandAt.lt {M : Mem} {h : Nat} {n : Int} (x : HandAt M h n) : h < M.length := let ⟨_, _, _, e, _⟩ := x; (List.getElem?_eq_some_iff.mp e).1
theorem HandAt.app {M J : Mem} {h : Nat} {n : Int} (x : HandAt M h n) : HandAt (M ++ J) h n := let ⟨a, b, c, e, r⟩ := x; ⟨a, b, c, get_old e, r⟩
@[simp] theorem ix0 {n : Nat} : ixN (n + 1) 0 = some 0 := by unfold ixN; rw [if_pos (by omega), if_pos (by omega)]; rfl
@[simp] theorem ix2 {n : Nat} : ixN (n + 3) 2 = some 2 := by unfold ixN; rw [if_pos (by omega), if_pos (by omega)]; rfl
theorem cm_left {p q : Int} (h : -(2 ^ 64) < p ∧ p < 2 ^ 64) : CMul p q := .inl h
theorem cm_right {p q : Int} (h : -(2 ^ 64) < q ∧ q < 2 ^ 64) : CMul p q := .inr h
theorem norm_upd {M : Mem} {x : PyData} {h : Nat} {ws : List W} {J : Mem} (d : ws.all isD = true) : norm M (.d x, M.set h (.lst ws) ++ J) = (.d x, M.set h (.lst ws)) := norm_d rfl (Cut.refl.set h d)
theorem take_big {Q : W × Mem → Prop} {M : Mem} {h : Nat} {n many : Int} (hd : HandAt M h n) (nb : n < 2 ^ 60) (mp : 0 < many) (mb : many < 2 ^ 128)
    (k : ∀ v M', 0 ≤ v → v < many → HandAt M' h (n + 1) → Upd h M M' → Q (.d (.int v), M')) : Ok (F__law_take [.obj h, .d (.int many)] M) Q := by
  have hl := hd.lt
  obtain ⟨a, b, c, e, a0, b0, b1, c0, c1⟩ := hd
  have dv : ∀ {M : Mem}, oDiv (.d (.int a)) (.d (.int many)) M = some (.d (.int (a / many)), M) := x_divW (wide_div (b := 128) mp (by omega) (by decide) (by decide))
  have post : ∀ x M', HandAt M' h (n + 1) → Upd h M M' → Q (.d (.int (x % many)), M') := fun x M' => k _ M' (Int.emod_nonneg _ (by omega)) (Int.emod_lt_of_pos _ mp)
  by_cases ha : 0 < a
  · have nu := fun x => norm_upd (M := M) (x := x) (h := h) (ws := [.d (.int (a / many)), .d (.int b), .d (.int c)]) (J := []) rfl
    simp only [List.append_nil] at nu
    simp [F__law_take, nf, fnV, g__law_take, e, ha, mp, dv, x_mod, nu]
    exact post _ _ ⟨a / many, b, c, by rw [List.getElem?_set_self hl], Int.ediv_nonneg a0 (by omega), b0, b1, c0, by omega⟩ .set
  · have t1 : -(2 ^ 64) < c + 1 ∧ c + 1 < 2 ^ 64 := by omega
    have ct : ∀ x, CMul x (c + 1) := fun x => cm_right t1
    obtain ⟨P, hP, P0, P1⟩ : ∃ P : Int, atI [W.d (.int 2305843009213693921), .d (.int 999999999989), .d (.int 2305843009213693907), .d (.int 67280421310721)] ((c + 1) % 4) = some (.d (.int P)) ∧ 0 < P ∧ P < 2 ^ 62 := by
      have h4 : (c + 1) % 4 = 0 ∨ (c + 1) % 4 = 1 ∨ (c + 1) % 4 = 2 ∨ (c + 1) % 4 = 3 := by omega
      rcases h4 with z | z | z | z <;> rw [z]
      · exact ⟨_, atI0, by decide, by decide⟩
      · exact ⟨_, atI1, by decide, by decide⟩
      · exact ⟨_, atI2, by decide, by decide⟩
      · exact ⟨_, atI3, by decide, by decide⟩
    have cP : ∀ x y, CMul (x % P) y := fun x y => cm_left (by
      have := Int.emod_nonneg x (Int.ne_of_gt P0)
      have := Int.emod_lt_of_pos x P0
      omega)
    have nu := fun x J => norm_upd (M := M) (x := x) (h := h) (ws := [.d (.int a), .d (.int b), .d (.int (c + 1))]) (J := J) rfl
    have gs : (M.set h (.lst [.d (.int a), .d (.int b), .d (.int (c + 1))]))[h]? = some (.lst [.d (.int a), .d (.int b), .d (.int (c + 1))]) := List.getElem?_set_self hl
    have go := fun J => get_old (J := J) gs
    simp [F__law_take, nf, fnV, g__law_take, e, ha, mp, x_div, x_mod, x_mul, gs, go, hP, P0, ct, cP, small_size, nu]
    exact post _ _ ⟨a, b, c + 1, gs, a0, b0, b1, by omega, by omega⟩ .set
theorem take_ok {Q : W × Mem → Prop} {M : Mem} {h : Nat} {n many : Int} (hd : HandAt M h n) (nb : n < 2 ^ 60) (mp : 0 < many) (mb : many < 2 ^ 29)
    (k : ∀ v M', 0 ≤ v → v < many → HandAt M' h (n + 1) → Upd h M M' → Q (.d (.int v), M')) : Ok (F__law_take [.obj h, .d (.int many)] M) Q := take_big hd nb mp (Int.lt_trans mb (by decide)) k
theorem HandAt.cut {M M1 : Mem} {h : Nat} {n : Int} (hd : HandAt M1 h n) (up : Upd h M M1) : Cut M M1 := by
  refine ⟨up.1, fun k mo hk => ?_⟩
  by_cases z : k = h
  · subst z
    obtain ⟨a, b, c, e, _⟩ := hd
    rw [e] at hk
    cases hk
    exact .inr rfl
  · rw [up.2 k z] at hk
    exact .inl hk
/-- a def that draws and tells data -/
theorem HandAt.norm {M M1 J : Mem} {h : Nat} {n : Int} {w : W} (hd : HandAt M1 h n) (up : Upd h M M1) (d : isD w = true) : norm M (w, M1 ++ J) = (w, M1) := norm_d d (hd.cut up)
theorem HandAt.norm0 {M M1 : Mem} {h : Nat} {n : Int} {w : W} (hd : HandAt M1 h n) (up : Upd h M M1) (d : isD w = true) : Va.norm M (w, M1) = (w, M1) := by
  have := hd.norm (J := []) up d
  rwa [List.append_nil] at this
theorem of_ok {Q : W × Mem → Prop} {M : Mem} {h l : Nat} {n : Int} {ws : List W} (hd : HandAt M h n) (nb : n < 2 ^ 60) (hl : M[l]? = some (.lst ws)) (ne : l ≠ h) (sz : 0 < ws.length) (sb : ws.length < 100000) (isd : ws.all isD = true)
    (k : ∀ w M', w ∈ ws → HandAt M' h (n + 1) → Upd h M M' → Q (w, M')) : Ok (F__law_of [.obj h, .obj l] M) Q := by
  have big : (ws.length : Int) < 2 ^ 29 := by omega
  simp [F__law_of, nf, fnV, g__law_of, hl]
  refine take_ok (many := ws.length) hd nb (by omega) big fun v M1 v0 v1 hd1 up => ?_
  have hl1 : M1[l]? = some (.lst ws) := by rw [up.2 l ne]; exact hl
  obtain ⟨j, rfl⟩ : ∃ j : Nat, v = j := ⟨v.toNat, by omega⟩
  have hv : j < ws.length := by omega
  have at1 : atI ws (j : Int) = some (ws[j]) := atI_nat' (by simp)
  have hw : isD (ws[j]) = true := List.all_eq_true.mp isd _ (List.getElem_mem hv)
  simp [hl1, at1, hd1.norm0 up hw]
  exact k _ _ (List.getElem_mem hv) hd1 up
/-- taken out of a list that was just made -/
theorem of_new {Q : W × Mem → Prop} {M : Mem} {h : Nat} {n : Int} {ws : List W} (hd : HandAt M h n) (nb : n < 2 ^ 60) (sz : 0 < ws.length) (sb : ws.length < 100000) (isd : ws.all isD = true)
    (k : ∀ w M', w ∈ ws → HandAt M' h (n + 1) → Upd h M M' → Q (w, M' ++ [.lst ws])) : Ok (F__law_of [.obj h, .obj M.length] (M ++ [.lst ws])) Q := by
  have hl := hd.lt
  refine of_ok hd.app nb get_new0 (Nat.ne_of_gt hl) sz sb isd fun w M' hw hd' up => ?_
  obtain ⟨M1, rfl⟩ : ∃ M1, M' = M1 ++ [.lst ws] := by
    refine ⟨M'.take M.length, ?_⟩
    have l1 : M'.length = M.length + 1 := by rw [up.1]; simp
    refine List.ext_getElem? fun i => ?_
    by_cases hi : i < M.length
    · rw [List.getElem?_append_left (by simp [l1]; omega), List.getElem?_take_of_lt hi]
    · by_cases hi2 : i = M.length
      · subst hi2
        rw [up.2 _ (Nat.ne_of_gt hl), get_new0, List.getElem?_append_right (by simp [l1]), List.length_take]
        have : M.length - min M.length M'.length = 0 := by omega
        rw [this]
      · rw [List.getElem?_eq_none (by omega), List.getElem?_eq_none (by simp [l1]; omega)]
  have l1 : M1.length = M.length := by have := up.1; simpa using this
  refine k w M1 hw ?_ ⟨l1, fun i hi => ?_⟩
  · obtain ⟨a, b, c, e, r⟩ := hd'
    exact ⟨a, b, c, by rw [List.getElem?_append_left (by rw [l1]; exact hl)] at e; exact e, r⟩
  · by_cases hi2 : i < M.length
    · have := up.2 i hi
      rw [List.getElem?_append_left (by rw [l1]; exact hi2), List.getElem?_append_left hi2] at this
      exact this
    · rw [List.getElem?_eq_none (by omega), List.getElem?_eq_none (by omega)]
end Lw

set_option Elab.async false
set_option linter.all false
set_option maxRecDepth 100000
set_option maxHeartbeats 1000000
/-! LwB: what the law draws and reckons by itself -/
namespace Lw
open PySem PySem.Spec PyProof.Rows L2 Sa Va Pg
theorem Upd.split {h : Nat} {M J M' : Mem} (hl : h < M.length) (up : Upd h (M ++ J) M') : ∃ M1, M' = M1 ++ J ∧ Upd h M M1 := by
  have l1 : M'.length = M.length + J.length := by rw [up.1]; simp
  have split : M' = M'.take M.length ++ J := by
    refine List.ext_getElem? fun i => ?_
    by_cases hi : i < M.length
    · rw [List.getElem?_append_left (by simp [l1]; omega), List.getElem?_take_of_lt hi]
    · rw [up.2 i (by omega), List.getElem?_append_right (by omega), List.getElem?_append_right (by simp [l1]; omega), List.length_take]
      congr 1
      omega
  refine ⟨M'.take M.length, split, by simp [l1], fun i hi => ?_⟩
  by_cases h2 : i < M.length
  · rw [List.getElem?_take_of_lt h2, up.2 i hi, List.getElem?_append_left h2]
  · rw [List.getElem?_eq_none (by simp [l1]; omega), List.getElem?_eq_none (by omega)]
theorem HandAt.unapp {M J : Mem} {h : Nat} {n : Int} (hl : h < M.length) (x : HandAt (M ++ J) h n) : HandAt M h n := by
  obtain ⟨a, b, c, e, r⟩ := x
  exact ⟨a, b, c, by rw [List.getElem?_append_left hl] at e; exact e, r⟩
/-- a def that draws: at most so many times, and tells what P is so of -/
def Draws (F : Fn) (as : Nat → List W) (cost : Int) (P : W → Prop) : Prop := ∀ (M : Mem) (h : Nat) (n : Int) (Q : W × Mem → Prop), HandAt M h n → n + cost < 2 ^ 60 →
  (∀ w M', P w → HandAt M' h (n + cost) → Upd h M M' → Q (w, M')) → Ok (F (as h) M) Q
theorem Draws.app {F : Fn} {as : Nat → List W} {cost : Int} {P : W → Prop} (D : Draws F as cost P) {M J : Mem} {h : Nat} {n : Int} {Q : W × Mem → Prop} (hd : HandAt M h n) (nb : n + cost < 2 ^ 60)
    (k : ∀ w M', P w → HandAt M' h (n + cost) → Upd h M M' → Q (w, M' ++ J)) : Ok (F (as h) (M ++ J)) Q :=
  D _ h n Q hd.app nb fun w M' hp hd' up => by
    obtain ⟨M1, rfl, up1⟩ := up.split hd.lt
    exact k w M1 hp (hd'.unapp (by rw [up1.1]; exact hd.lt)) up1
theorem d_take {many : Int} (mp : 0 < many) (mb : many < 2 ^ 29) : Draws F__law_take (fun h => [.obj h, .d (.int many)]) 1 (fun w => ∃ v, w = .d (.int v) ∧ 0 ≤ v ∧ v < many) :=
  fun M h n Q hd nb k => take_ok hd (by omega) mp mb fun v M' v0 v1 hd' up => k _ M' ⟨v, rfl, v0, v1⟩ hd' up
theorem d_worth : Draws F__law_worth (fun h => [.obj h]) 2 (fun w => ∃ v, w = .d (.int v) ∧ -9 ≤ v ∧ v ≤ 9) := by
  intro M h n Q hd nb k
  simp [F__law_worth, nf, fnV, g__law_worth]
  refine take_ok hd (by omega) (by decide) (by decide) fun v M1 v0 v1 hd1 up1 => ?_
  simp [small_size]
  refine of_new hd1 (by omega) (by simp) (by simp) rfl fun w M2 hw hd2 up2 => ?_
  have hx : ∃ x, w = .d (.int x) ∧ -9 ≤ x ∧ x ≤ 9 := by
    simp only [List.mem_cons, List.not_mem_nil, or_false] at hw
    rcases hw with rfl | rfl | rfl | rfl | rfl | rfl | rfl | rfl <;> exact ⟨_, rfl, by omega, by omega⟩
  have isd : isD w = true := by obtain ⟨x, rfl, _⟩ := hx; rfl
  have hd3 : HandAt M2 h (n + 2) := hd2.mono (by omega)
  simp [hd3.norm (up1.trans up2) isd]
  exact k w M2 hx hd3 (up1.trans up2)
structure GoodS (S : Simple) (k : Nat) : Prop where
  many : S.ws.length = k
  worth : ∀ w ∈ S.ws, -9 ≤ w ∧ w ≤ 9
  sum : ∀ ws c, S = .sum ws c → -20 ≤ c ∧ c ≤ 20
  rest : ∀ ws r m, S = .rest ws r m → 2 ≤ m ∧ m ≤ 9 ∧ 0 ≤ r ∧ r < m
  few : k ≤ 6
theorem GoodS.wf {S : Simple} {k : Nat} (h : GoodS S k) (hk : 0 < k) : Wf S := ⟨fun z => by
  have := h.many
  rw [z] at this
  simp at this
  omega, fun ws r m e => by have := h.rest ws r m e; omega, by rw [h.many]; have := h.few; omega⟩
theorem worths_ok {M : Mem} {h : Nat} {n : Int} {sorts : Nat} {Q : Mem → Prop} {ρ0 : Ev} (hρ : ρ0[0]? = some (some (.obj h))) (h5 : 5 < ρ0.length) (hd : HandAt M h n) (hs : sorts ≤ 6) (nb : n + 12 < 2 ^ 60)
    (k : ∀ (ws : List Int) M', ws.length = sorts → (∀ w ∈ ws, -9 ≤ w ∧ w ≤ 9) → HandAt M' h (n + 12) → Upd h M M' → Q (M' ++ [.lst (ws.map fun i => .d (.int i))])) :
    Ok (lcL [] (gN 5) tTrue (eDef 1 F__law_worth (aCons (eVar 0) aNil)) ρ0 M.length ((List.range sorts).map fun (k : Nat) => .d (.int (k : Int))) (M ++ [.lst []])) Q := by
  have len : ((List.range sorts).map fun (k : Nat) => W.d (.int (k : Int))).length = sorts := by simp
  refine Ok.mono (lc_ok (items0 := (List.range sorts).map fun (k : Nat) => .d (.int (k : Int))) (fun j M' => ∃ (ws : List Int) (M1 : Mem), M' = M1 ++ [.lst (ws.map fun i => .d (.int i))] ∧ ws.length = j ∧ (∀ w ∈ ws, -9 ≤ w ∧ w ≤ 9) ∧ HandAt M1 h (n + 2 * j) ∧ Upd h M M1)
    (fun _ _ _ _ => by simp) (fun j w M' hw ⟨ws, M1, e, l, r, hd1, up1⟩ => ?_) _ 0 _ rfl (Nat.zero_le _) ⟨[], M, rfl, rfl, fun _ h => by simp at h, by simpa using hd, .refl⟩) fun M' ⟨ws, M1, e, l, r, hd1, up1⟩ => ?_
  · subst e
    have hj : j < sorts := by rw [← len]; exact (List.getElem?_eq_some_iff.mp hw).1
    have hv : (ρ0.set 5 (some w))[0]? = some (some (.obj h)) := by rw [List.getElem?_set_ne (by decide)]; exact hρ
    simp [hv]
    refine d_worth.app hd1 (by omega) fun w2 M2 ⟨x, ex, x0, x1⟩ hd2 up2 => ?_
    subst ex
    have l2 : M2.length = M.length := by rw [up2.1, up1.1]
    rw [← l2]
    refine ⟨_, get_new0, ?_, ws ++ [x], M2, ?_, by simp [l], fun y hy => ?_, hd2.mono (by omega), up1.trans up2⟩
    · simp only [List.length_map, l]
      exact Nat.lt_of_lt_of_le (Nat.lt_of_lt_of_le hj hs) (by decide)
    · rw [set_new0]
      simp
    · rcases List.mem_append.mp hy with hy | hy
      · exact r y hy
      · rw [List.mem_singleton.mp hy]; exact ⟨x0, x1⟩
  · rw [len] at l hd1
    subst e
    exact k ws M1 l r (hd1.mono (by omega)) up1
theorem d_simple {sorts : Nat} (h0 : 0 < sorts) (hs : sorts ≤ 6) : Draws F__law_simple (fun h => [.obj h, .d (.int sorts)]) 16 (fun w => ∃ S, w = .d (sD S) ∧ GoodS S sorts) := by
  intro M h n Q hd nb k
  have tn : ((sorts : Int)).toNat = sorts := by omega
  simp [F__law_simple, nf, fnV, g__law_simple, tn]
  refine ⟨.of (by omega) (by omega), worths_ok rfl (by simp) hd hs (by omega) fun ws M1 wl wr hd1 up1 => ?_⟩
  have mk : mkTup (ws.map fun i => W.d (.int i)) = .d (wsD ws) := mkTup_of' .int ws
  have l1 : M.length = M1.length := up1.1.symm
  simp [l1]
  refine (d_take (by decide) (by decide)).app hd1 (by omega) fun w M2 ⟨v, ev, v0, v1⟩ hd2 up2 => ?_
  subst ev
  simp
  split
  · refine (d_take (by decide) (by decide)).app hd2 (by omega) fun w M3 ⟨m, em, m0, m1⟩ hd3 up3 => ?_
    subst em
    simp
    refine (d_take (many := 2 + m) (by omega) (by omega)).app hd3 (by omega) fun w M4 ⟨r, er, r0, r1⟩ hd4 up4 => ?_
    subst er
    simp [mk]
    have up := up1.trans (up2.trans (up3.trans up4))
    have hd5 : HandAt M4 h (n + 16) := hd4.mono (by omega)
    rw [hd5.norm up rfl]
    exact k _ M4 ⟨.rest ws r (2 + m), rfl, wl, wr, (fun _ _ z => by cases z), (fun _ _ _ z => by cases z; omega), hs⟩ hd5 up
  · refine (d_take (by decide) (by decide)).app hd2 (by omega) fun w M3 ⟨m, em, m0, m1⟩ hd3 up3 => ?_
    subst em
    simp
    have e1 : M3 ++ [MO.lst (ws.map fun i => W.d (.int i)), MO.lst [W.d (.int 0), .d (.int 1), .d (.int (-1)), .d (.int 2), .d (.int 5), .d (.int (-7)), .d (.int 20), .d (.int (-20)), .d (.int (m - 20))]]
        = (M3 ++ [MO.lst (ws.map fun i => W.d (.int i))]) ++ [MO.lst [W.d (.int 0), .d (.int 1), .d (.int (-1)), .d (.int 2), .d (.int 5), .d (.int (-7)), .d (.int 20), .d (.int (-20)), .d (.int (m - 20))]] := by simp
    rw [e1]
    have e2 : M3.length + 1 = (M3 ++ [MO.lst (ws.map fun i => W.d (.int i))]).length := by simp
    rw [e2]
    refine of_new hd3.app (by omega) (by simp) (by simp) rfl fun w M4 hw hd4 up4 => ?_
    obtain ⟨M5, rfl, up5⟩ := up4.split hd3.lt
    have hd5 : HandAt M5 h (n + 16) := (hd4.unapp (by rw [up5.1]; exact hd3.lt)).mono (by omega)
    have hx : ∃ x, w = .d (.int x) ∧ -20 ≤ x ∧ x ≤ 20 := by
      simp only [List.mem_cons, List.not_mem_nil, or_false] at hw
      rcases hw with rfl | rfl | rfl | rfl | rfl | rfl | rfl | rfl | rfl <;> exact ⟨_, rfl, by omega, by omega⟩
    obtain ⟨x, rfl, x0, x1⟩ := hx
    have up := up1.trans (up2.trans (up3.trans up5))
    simp [mk]
    rw [hd5.norm up rfl]
    exact k _ M5 ⟨.sum ws x, rfl, wl, wr, (fun _ _ z => by cases z; omega), (fun _ _ _ z => by cases z), hs⟩ hd5 up
end Lw

set_option Elab.async false
set_option linter.all false
set_option maxRecDepth 100000
set_option maxHeartbeats 1000000
/-! LwC: the law's own rule of meeting, by value -/
namespace Lw
open PySem PySem.Spec PyProof.Rows L2 Sa Va Pg
theorem maxI_app {xs : List Int} {y : Int} (ne : xs ≠ []) : maxI (xs ++ [y]) = if maxI xs > y then maxI xs else y := by
  obtain ⟨h1, h2⟩ := maxI_top xs ne
  split
  · rename_i z
    refine maxI_one (List.mem_append_left _ h1) fun q hq => ?_
    rcases List.mem_append.mp hq with hq | hq
    · exact h2 q hq
    · rw [List.mem_singleton.mp hq]; omega
  · rename_i z
    refine maxI_one (List.mem_append_right _ (List.mem_singleton.mpr rfl)) fun q hq => ?_
    rcases List.mem_append.mp hq with hq | hq
    · have := h2 q hq; omega
    · rw [List.mem_singleton.mp hq]; exact Int.le_refl _
section
variable {S : Simple} {M : Mem}
theorem F__law_size_eq (h : Wf S) (small : S.ws.length ≤ 1000) : F__law_size [.d (sD S)] M = some (.d (.int (sizeM S)), M) := by
  cases S with
  | sum ws c =>
    have ne : ws ≠ [] := h.some
    have sm : ws.length ≤ 1000 := small
    have e : ∀ ρ0 : Ev, ρ0.length = 3 → lcL [] (gN 2) tTrue (eCall fAbs (aCons (eVar 2) aNil)) ρ0 M.length (ws.map fun w => .d (.int w)) (M ++ [.lst []]) = some (M ++ [.lst (ws.map fun w => .d (.int (absI w)))]) := by
      intro ρ0 hρ
      refine lc_map _ _ _ (fun _ => by simp) (by omega) fun t ht => ?_
      match ρ0, hρ with
      | [r0, r1, r2], _ => exact ⟨_, by simp; rfl, fun acc => by simp⟩
    have iis : intsOf ((ws.map fun w => W.d (.int (absI w))) ++ [.d (.int (absI c + 1))]) = some (ws.map absI ++ [absI c + 1]) := by
      have := x_intsM (ws.map absI ++ [absI c + 1])
      simpa [List.map_map, Function.comp_def] using this
    have s2 : ws.length + 1 ≤ sizeLine := Nat.le_trans (Nat.succ_le_succ sm) (by decide)
    have mx := maxI_app (xs := ws.map absI) (y := absI c + 1) (by simpa using ne)
    simp [F__law_size, nf, fnV, g__law_size, sD, nsr, Function.comp_def, e, oCat, small_size, s2, fMaxL, iis, mx, sizeM, Nat.add_assoc]
    rw [Int.add_comm 1 (absI c)]
  | rest ws r m => simp [F__law_size, nf, fnV, g__law_size, sD, sizeM]
def saysL : Simple → Int → Bool
  | .sum _ c, n => decide (c ≤ n)
  | .rest _ r m, n => decide (n % m = r)
theorem F__law_says_eq (h : Wf S) {n : Int} : F__law_says [.d (sD S), .d (.int n)] M = some (.d (.bool (saysL S n)), M) := by
  cases S with
  | sum ws c => simp [F__law_says, nf, fnV, g__law_says, sD, saysL, nsr]
  | rest ws r m => simp [F__law_says, nf, fnV, g__law_says, sD, saysL, h.pos ws r m rfl]
theorem absI_nn (c : Int) : 0 ≤ absI c := by unfold absI; split <;> omega
theorem size_pos (ge : ∀ ws r m, S = .rest ws r m → 2 ≤ m) : 1 ≤ sizeM S := by
  cases S with
  | sum ws c =>
    have := absI_nn c
    show 1 ≤ if maxI (ws.map absI) > 1 + absI c then maxI (ws.map absI) else 1 + absI c
    split <;> omega
  | rest ws r m =>
    have := ge ws r m rfl
    show 1 ≤ m - 1
    omega
/-- pouring: all that fits -/
theorem clamp_of {s t a b : Int} (h : a + b = t) (lo : -s ≤ a) (hi : a ≤ s) (up : 0 < b → a = s) (dn : b < 0 → a = -s) : clampI s t = a := by
  unfold clampI
  split <;> split <;> omega
theorem F__law_poured_eq (h : Wf S) (small : S.ws.length ≤ 1000) {a b : Int} (fits : S.isRest = false → -sizeM S ≤ a ∧ a ≤ sizeM S) (bb : -100000 ≤ b ∧ b ≤ 100000) :
    F__law_poured [.d (sD S), .d (.int a), .d (.int b)] M = some (.d (.tuple [.int (cutM S (a + b)).1, .int (cutM S (a + b)).2]), M) := by
  cases S with
  | rest ws r m => simp [F__law_poured, nf, fnV, g__law_poured, sD, h.pos ws r m rfl, cutM, small_size]
  | sum ws c =>
    have sz := fun M => F__law_size_eq (M := M) h small
    obtain ⟨f1, f2⟩ := fits rfl
    simp only [sD] at sz
    generalize hs : sizeM (.sum ws c) = s at sz f1 f2
    suffices key : Ok (fnV 4 g__law_poured [.d (sD (.sum ws c)), .d (.int a), .d (.int b)] M) fun p => p = (.d (.tuple [.int (cutM (.sum ws c) (a + b)).1, .int (cutM (.sum ws c) (a + b)).2]), M) by
      obtain ⟨p, e, rfl⟩ := key
      simp [F__law_poured, nf, e]
    simp [fnV, g__law_poured, sD, nsr, sz]
    refine Ok.mono (wh_ok (fun (m : Nat) ρ M' => M' = M ∧ ∃ x y : Int, ρ = [some (.d (sD (.sum ws c))), some (.d (.int x)), some (.d (.int y)), some (.d (.int s))] ∧ x + y = a + b ∧ -s ≤ x ∧ x ≤ s ∧ (0 < y → m = y.toNat) ∧ -100000 ≤ y ∧ y ≤ 100000)
      (fun ρ M' => M' = M ∧ ∃ x y : Int, ρ = [some (.d (sD (.sum ws c))), some (.d (.int x)), some (.d (.int y)), some (.d (.int s))] ∧ x + y = a + b ∧ -s ≤ x ∧ x ≤ s ∧ (0 < y → x = s) ∧ -100000 ≤ y ∧ y ≤ 100000) (fun _ _ => False)
      (fun m ρ M' ⟨e, x, y, er, h1, h2, h3, h4, h6, h7⟩ => ?_) b.toNat _ _ _ (by omega) ⟨rfl, a, b, rfl, rfl, f1, f2, fun z => rfl, bb⟩) fun o ho => ?_
    · subst e er
      by_cases z1 : 0 < y
      · have h4 := h4 z1
        by_cases z2 : x < s
        · exact ⟨(true, M'), by simp [z1, z2], .nx [some (.d (sD (.sum ws c))), some (.d (.int (x + 1))), some (.d (.int (y - 1))), some (.d (.int s))] M', by simp, m - 1, by omega, rfl, x + 1, y - 1, rfl, by omega, by omega, by omega, fun _ => by omega, by omega, by omega⟩
        · exact ⟨(false, M'), by simp [z1, z2], rfl, x, y, rfl, h1, h2, h3, fun _ => by omega, h6, h7⟩
      · exact ⟨(false, M'), by simp [z1], rfl, x, y, rfl, h1, h2, h3, fun z => absurd z z1, h6, h7⟩
    · cases o with
      | bk ρ M' => exact ho.elim
      | ct ρ M' => exact ho.elim
      | rt w M' => exact ho.elim
      | nx ρ M' =>
        obtain ⟨e, x, y, er, h1, h2, h3, h4, h6, h7⟩ := ho
        subst e er
        simp only [ok_bind]
        refine Ok.mono (wh_ok (fun (m : Nat) ρ M2 => M2 = M' ∧ ∃ x y : Int, ρ = [some (.d (sD (.sum ws c))), some (.d (.int x)), some (.d (.int y)), some (.d (.int s))] ∧ x + y = a + b ∧ -s ≤ x ∧ x ≤ s ∧ (y < 0 → m = (-y).toNat) ∧ (0 < y → x = s))
          (fun ρ M2 => M2 = M' ∧ ∃ x y : Int, ρ = [some (.d (sD (.sum ws c))), some (.d (.int x)), some (.d (.int y)), some (.d (.int s))] ∧ x + y = a + b ∧ -s ≤ x ∧ x ≤ s ∧ (0 < y → x = s) ∧ (y < 0 → x = -s)) (fun _ _ => False)
          (fun m ρ M2 ⟨e, x, y, er, h1, h2, h3, h4, h5⟩ => ?_) (-y).toNat _ _ _ (by omega) ⟨rfl, x, y, rfl, h1, h2, h3, fun z => rfl, h4⟩) fun o ho => ?_
        · subst e er
          by_cases z1 : y < 0
          · have h4 := h4 z1
            by_cases z2 : -s < x
            · exact ⟨(true, M2), by simp [z1, z2], .nx [some (.d (sD (.sum ws c))), some (.d (.int (x - 1))), some (.d (.int (y + 1))), some (.d (.int s))] M2, by simp, m - 1, by omega, rfl, x - 1, y + 1, rfl, by omega, by omega, by omega, fun _ => by omega, fun z => by omega⟩
            · exact ⟨(false, M2), by simp [z1, z2], rfl, x, y, rfl, h1, h2, h3, h5, fun _ => by omega⟩
          · exact ⟨(false, M2), by simp [z1], rfl, x, y, rfl, h1, h2, h3, h5, fun z => absurd z z1⟩
        · cases o with
          | bk ρ M2 => exact ho.elim
          | ct ρ M2 => exact ho.elim
          | rt w M2 => exact ho.elim
          | nx ρ M2 =>
            obtain ⟨e, x, y, er, h1, h2, h3, h4, h5⟩ := ho
            subst e er
            have k := clamp_of h1 h2 h3 h4 h5
            simp [small_size, cutM, hs, k]
            omega
end
end Lw

set_option Elab.async false
set_option linter.all false
set_option maxRecDepth 100000
set_option maxHeartbeats 1000000
/-! LwD: the law's own rule of meeting, of states -/
namespace Lw
open PySem PySem.Spec PyProof.Rows L2 Sa Va Pg
def FitH (S : Simple) (x : Hold) : Prop := -100000 ≤ x.number ∧ x.number ≤ 100000 ∧ (S.isRest = false → -sizeM S ≤ x.number ∧ x.number ≤ sizeM S)
def FitN (S : Simple) (y : Bool × Int) : Prop := -100000 ≤ y.2 ∧ y.2 ≤ 100000
theorem says_cut (S : Simple) (t : Int) : saysL S (cutM S t).1 = saysM S (cutM S t).1 := by
  cases S with
  | sum ws c => rfl
  | rest ws r m =>
    show decide (t % m % m = r) = decide (t % m = r)
    rw [Int.emod_emod_of_dvd _ (Int.dvd_refl m)]
section
variable {S : Simple} {M : Mem}
theorem F__law_pair_eq (h : Wf S) (small : S.ws.length ≤ 1000) {x y : Hold} (fx : FitH S x) (fy : FitH S y) : F__law_pair [.d (sD S), .d (hD x), .d (hD y)] M = some (.d (.tuple [hD (metG S x y).1, hD (metG S x y).2]), M) := by
  have e1 := fun M => F__law_poured_eq (M := M) (S := S) h small (a := x.number) (b := y.number) fx.2.2 ⟨fy.1, fy.2.1⟩
  have e2 := fun M => F__law_poured_eq (M := M) (S := S) h small (a := y.number) (b := x.number) fy.2.2 ⟨fx.1, fx.2.1⟩
  have e3 := fun M n => F__law_says_eq (M := M) (n := n) h
  have sc := says_cut S
  obtain ⟨xl, xn, xw⟩ := x
  obtain ⟨yl, yn, yw⟩ := y
  simp only at e1 e2
  rw [Int.add_comm yn xn] at e2
  cases xl <;> cases yl <;> simp [F__law_pair, nf, fnV, g__law_pair, hD, metG, e1, e2, e3, sc, small_size]
theorem F__law_noted_eq (h : Wf S) (small : S.ws.length ≤ 1000) {x : Hold} {y : Bool × Int} (fx : FitH S x) (fy : FitN S y) : F__law_noted [.d (sD S), .d (hD x), .d (nD y)] M = some (.d (.tuple [hD (notG S x y).1, nD (notG S x y).2]), M) := by
  have e1 := fun M => F__law_poured_eq (M := M) (S := S) h small (a := x.number) (b := y.2) fx.2.2 fy
  have e3 := fun M n => F__law_says_eq (M := M) (n := n) h
  have sc := says_cut S
  obtain ⟨xl, xn, xw⟩ := x
  obtain ⟨yl, yn⟩ := y
  simp only at e1
  cases xl <;> cases yl <;> simp [F__law_noted, nf, fnV, g__law_noted, hD, nD, notG, e1, e3, sc, small_size]
/-- pouring ends, whatever is poured -/
theorem poured_any (h : Wf S) (small : S.ws.length ≤ 1000) {a b : Int} (bb : -100000 ≤ b ∧ b ≤ 100000) : ∃ u v : Int, ∀ M, F__law_poured [.d (sD S), .d (.int a), .d (.int b)] M = some (.d (.tuple [.int u, .int v]), M) := by
  cases S with
  | rest ws r m => exact ⟨(a + b) % m, 0, fun M => by simp [F__law_poured, nf, fnV, g__law_poured, sD, h.pos ws r m rfl, small_size]⟩
  | sum ws c =>
    have sz := fun M => F__law_size_eq (M := M) h small
    simp only [sD] at sz
    generalize hs : sizeM (.sum ws c) = s at sz
    -- both loops by themselves, the memory left alone
    have l1 : ∀ (m : Nat) (x y : Int), (0 < y → m = y.toNat) → y ≤ 100000 → -100000 ≤ y → ∃ x' y' : Int, -100000 ≤ y' ∧ y' ≤ 100000 ∧ ∀ k, m < k → ∀ M, whN (tAndE (tVal (eOp oGt (eVar 2) (eC (.int 0)))) (tVal (eOp oLt (eVar 1) (eVar 3)))) (sPar 1 2 (aCons (eOp oAdd (eVar 1) (eC (.int 1))) (aCons (eOp oSub (eVar 2) (eC (.int 1))) aNil))) k [some (.d (sD (.sum ws c))), some (.d (.int x)), some (.d (.int y)), some (.d (.int s))] M
        = some (.nx [some (.d (sD (.sum ws c))), some (.d (.int x')), some (.d (.int y')), some (.d (.int s))] M) := by
      intro m
      induction m with
      | zero =>
        intro x y hm h1 h2
        refine ⟨x, y, h2, h1, fun k hk M => ?_⟩
        obtain ⟨k, rfl⟩ : ∃ j, k = j + 1 := ⟨k - 1, by omega⟩
        have : ¬ 0 < y := fun z => by have := hm z; omega
        simp [whN, this]
      | succ m ih =>
        intro x y hm h1 h2
        by_cases z : 0 < y
        · by_cases z2 : x < s
          · obtain ⟨x', y', b1, b2, e⟩ := ih (x + 1) (y - 1) (fun q => by have := hm z; omega) (by omega) (by omega)
            refine ⟨x', y', b1, b2, fun k hk M => ?_⟩
            obtain ⟨k, rfl⟩ : ∃ j, k = j + 1 := ⟨k - 1, by omega⟩
            have := e k (by omega) M
            simp [whN, z, z2, this]
          · refine ⟨x, y, h2, h1, fun k hk M => ?_⟩
            obtain ⟨k, rfl⟩ : ∃ j, k = j + 1 := ⟨k - 1, by omega⟩
            simp [whN, z, z2]
        · refine ⟨x, y, h2, h1, fun k hk M => ?_⟩
          obtain ⟨k, rfl⟩ : ∃ j, k = j + 1 := ⟨k - 1, by omega⟩
          simp [whN, z]
    have l2 : ∀ (m : Nat) (x y : Int), (y < 0 → m = (-y).toNat) → ∃ x' y' : Int, ∀ k, m < k → ∀ M, whN (tAndE (tVal (eOp oLt (eVar 2) (eC (.int 0)))) (tVal (eOp oGt (eVar 1) (eUn oNeg (eVar 3))))) (sPar 1 2 (aCons (eOp oSub (eVar 1) (eC (.int 1))) (aCons (eOp oAdd (eVar 2) (eC (.int 1))) aNil))) k [some (.d (sD (.sum ws c))), some (.d (.int x)), some (.d (.int y)), some (.d (.int s))] M
        = some (.nx [some (.d (sD (.sum ws c))), some (.d (.int x')), some (.d (.int y')), some (.d (.int s))] M) := by
      intro m
      induction m with
      | zero =>
        intro x y hm
        refine ⟨x, y, fun k hk M => ?_⟩
        obtain ⟨k, rfl⟩ : ∃ j, k = j + 1 := ⟨k - 1, by omega⟩
        have : ¬ y < 0 := fun z => by have := hm z; omega
        simp [whN, this]
      | succ m ih =>
        intro x y hm
        by_cases z : y < 0
        · by_cases z2 : -s < x
          · obtain ⟨x', y', e⟩ := ih (x - 1) (y + 1) (fun q => by have := hm z; omega)
            refine ⟨x', y', fun k hk M => ?_⟩
            obtain ⟨k, rfl⟩ : ∃ j, k = j + 1 := ⟨k - 1, by omega⟩
            have := e k (by omega) M
            simp [whN, z, z2, this]
          · refine ⟨x, y, fun k hk M => ?_⟩
            obtain ⟨k, rfl⟩ : ∃ j, k = j + 1 := ⟨k - 1, by omega⟩
            simp [whN, z, z2]
        · refine ⟨x, y, fun k hk M => ?_⟩
          obtain ⟨k, rfl⟩ : ∃ j, k = j + 1 := ⟨k - 1, by omega⟩
          simp [whN, z]
    obtain ⟨x1, y1, b1, b2, e1⟩ := l1 b.toNat a b (fun _ => rfl) bb.2 bb.1
    obtain ⟨x2, y2, e2⟩ := l2 (-y1).toNat x1 y1 fun _ => rfl
    have e1 := e1 1000000 (by omega)
    have e2 := e2 1000000 (by omega)
    simp only [sD] at e1 e2
    exact ⟨x2, y2, fun M => by simp [F__law_poured, nf, fnV, g__law_poured, sD, nsr, sz, e1, e2, small_size]⟩
theorem pair_note (h : Wf S) (small : S.ws.length ≤ 1000) {x : Hold} {y : Bool × Int} (fx : FitH S x) (fy : FitN S y) : ∃ d, ∀ M, F__law_pair [.d (sD S), .d (hD x), .d (nD y)] M = some (.d d, M) := by
  obtain ⟨u1, v1, e1⟩ := poured_any (S := S) h small (a := x.number) (b := y.2) fy
  obtain ⟨u2, v2, e2⟩ := poured_any (S := S) h small (a := y.2) (b := x.number) ⟨fx.1, fx.2.1⟩
  have e3 := fun M n => F__law_says_eq (M := M) (n := n) h
  obtain ⟨xl, xn, xw⟩ := x
  obtain ⟨yl, yn⟩ := y
  simp only at e1 e2
  cases xl <;> cases yl
  · exact ⟨_, fun M => by simp [F__law_pair, nf, fnV, g__law_pair, hD, nD, small_size]; rfl⟩
  · exact ⟨_, fun M => by simp [F__law_pair, nf, fnV, g__law_pair, hD, nD, e1, e2, e3, small_size]; rfl⟩
  · exact ⟨_, fun M => by simp [F__law_pair, nf, fnV, g__law_pair, hD, nD, e1, e2, e3, small_size]; rfl⟩
  · exact ⟨_, fun M => by simp [F__law_pair, nf, fnV, g__law_pair, hD, nD, e1, e2, e3, small_size]; rfl⟩
/-! the loop of the meeting -/
theorem last2 {α : Type} {x y : α} : atI [x, y] (-1) = some y := rfl
theorem last3 {α : Type} {x y z : α} : atI [x, y, z] (-1) = some z := rfl
noncomputable abbrev metBody : EvS := (sSeq (sSet 9 (eDef 3 (F__law_pair) (aCons (eVar 6) (aCons (eVar 7) (aCons (eVar 8) aNil)))))
    (sSeq (sIf (tVal (eVar 5)) (sSet 9 (eDef 3 (F__law_noted) (aCons (eVar 6) (aCons (eVar 7) (aCons (eVar 8) aNil))))) sNil)
    (sSeq (sExpr (sApp (eVar 3) (eOp oIx (eVar 9) (eC (.int 0)))))
    (sExpr (sApp (eVar 4) (eOp oIx (eVar 9) (eC (.int 1))))))))
theorem met_loop {τ : Type} {enc : τ → PyData} {noted : Bool} {l : Nat} {us : List W} {one other : W} (ts : List (Simple × Hold × τ)) (r1 r2 : Simple × Hold × τ → PyData) (hl : M[l]? = some (.lst us)) (small : ts.length ≤ 1000)
    (hp : ∀ t ∈ ts, ∃ d, (∀ M, F__law_pair [.d (sD t.1), .d (hD t.2.1), .d (enc t.2.2)] M = some (.d d, M)) ∧ (noted = false → d = .tuple [r1 t, r2 t]))
    (hn : noted = true → ∀ t ∈ ts, ∀ M, F__law_noted [.d (sD t.1), .d (hD t.2.1), .d (enc t.2.2)] M = some (.d (.tuple [r1 t, r2 t]), M)) :
    Ok (forL [(l, .lst us)] (gT 3 (gsC (gN 6) (gsC (gN 7) (gsC (gN 8) gs0)))) metBody (ts.map fun t => .d (.tuple [sD t.1, hD t.2.1, enc t.2.2])) [some (.obj l), some one, some other, some (.obj M.length), some (.obj (M.length + 1)), some (.d (.bool noted)), none, none, none, none, none, none] (M ++ [.lst [], .lst []]))
      (endQ (fun ρ M' => M' = M ++ [.lst (ts.map fun t => .d (r1 t)), .lst (ts.map fun t => .d (r2 t))] ∧ ∃ a b c d, ρ = [some (.obj l), some one, some other, some (.obj M.length), some (.obj (M.length + 1)), some (.d (.bool noted)), a, b, c, d, none, none]) fun _ _ => False) := by
  have ll : l < M.length := (List.getElem?_eq_some_iff.mp hl).1
  refine for_ok (items0 := ts.map fun t => .d (.tuple [sD t.1, hD t.2.1, enc t.2.2])) (fun k ρ M' => M' = M ++ [.lst ((ts.take k).map fun t => .d (r1 t)), .lst ((ts.take k).map fun t => .d (r2 t))] ∧ ∃ a b c d, ρ = [some (.obj l), some one, some other, some (.obj M.length), some (.obj (M.length + 1)), some (.d (.bool noted)), a, b, c, d, none, none]) _ _
    (fun k ρ M' _ h => by rw [h.1]; simp [get_old hl]) (fun ρ M' h => ?_) (fun k w ρ M' hw h => ?_) _ 0 _ _ rfl (Nat.zero_le _) ⟨by simp, none, none, none, none, rfl⟩
  · obtain ⟨e, r⟩ := h
    exact ⟨by rw [e]; simp, r⟩
  · obtain ⟨e, a, b, c, d, er⟩ := h
    subst e er
    rw [List.getElem?_map] at hw
    obtain ⟨t, ht, rfl⟩ := Option.map_eq_some_iff.mp hw
    have mt := List.mem_of_getElem? ht
    obtain ⟨q, q1, q2⟩ := hp t mt
    have kl : k ≤ 1000 := Nat.le_trans (Nat.le_of_lt (List.getElem?_eq_some_iff.mp ht).1) small
    have s1 : min k ts.length < sizeLine := Nat.lt_of_le_of_lt (Nat.le_trans (Nat.min_le_left _ _) kl) (by decide)
    have tk : ts.take (k + 1) = ts.take k ++ [t] := by rw [List.take_succ, ht]; rfl
    refine ⟨[some (.obj l), some one, some other, some (.obj M.length), some (.obj (M.length + 1)), some (.d (.bool noted)), some (.d (sD t.1)), some (.d (hD t.2.1)), some (.d (enc t.2.2)), d, none, none], by simp, ?_⟩
    refine ⟨.nx [some (.obj l), some one, some other, some (.obj M.length), some (.obj (M.length + 1)), some (.d (.bool noted)), some (.d (sD t.1)), some (.d (hD t.2.1)), some (.d (enc t.2.2)), some (.d (.tuple [r1 t, r2 t])), none, none] (M ++ [.lst ((ts.take (k + 1)).map fun t => .d (r1 t)), .lst ((ts.take (k + 1)).map fun t => .d (r2 t))]), ?_, ⟨rfl, _, _, _, _, rfl⟩⟩
    cases noted with
    | false =>
      have q3 := q2 rfl
      subst q3
      simp [metBody, q1, tk, s1]
    | true =>
      have q4 := hn rfl t mt
      simp [metBody, q1, q4, tk, s1]
theorem x_srcO {i : Nat} {ws : List W} (h : M[i]? = some (.lst ws)) : srcOf M (.obj i) = some (ws, [(i, .lst ws)]) := by simp [srcOf, h]
/-- states that the law draws -/
def FitS (Ss : List Simple) : State → Prop
  | .mem _ xs => xs.length = Ss.length ∧ ∀ t ∈ Ss.zip xs, FitH t.1 t.2
  | .note ns => ns.length = Ss.length ∧ ∀ t ∈ Ss.zip ns, FitN t.1 t.2
theorem trip_zip {α β γ : Type} : ∀ {xs : List α} {ys : List β} {zs : List γ} {t : α × β × γ}, t ∈ trip xs ys zs → (t.1, t.2.1) ∈ xs.zip ys ∧ (t.1, t.2.2) ∈ xs.zip zs
  | x :: xs, y :: ys, z :: zs, t, h => by
    simp only [trip, List.mem_cons] at h
    rcases h with rfl | h
    · exact ⟨by simp, by simp⟩
    · obtain ⟨a, b⟩ := trip_zip h
      exact ⟨by simp [a], by simp [b]⟩
  | [], _, _, _, h => by simp [trip] at h
  | _ :: _, [], _, _, h => by simp [trip] at h
  | _ :: _, _ :: _, [], _, h => by simp [trip] at h
theorem eq_blank (p : Bool × Int) : oEq (.d (nD p)) (.d (.tuple [.bool false, .int 0])) M = some (.d (.bool (isNo p)), M) := by
  have : eqD (nD p) (.tuple [.bool false, .int 0]) = some (isNo p) := by
    show (if (SeqAt.shaped (nD p) && SeqAt.shaped (.tuple [.bool false, .int 0])) = true then some (PyData.eqv (nD p) (.tuple [.bool false, .int 0])) else none) = _
    rw [if_pos (by rfl)]
    exact congrArg some (blank_eqv p.1 p.2)
  simp [oEq, this]
theorem all_blank {ns : List (Bool × Int)} (small : ns.length ≤ 1000) {ρ0 : Ev} (hρ : ρ0.length = 12) {deps : List (Nat × MO)} (hd : ∀ acc, Deps deps (M ++ [.lst acc])) :
    lcL deps (gN 11) tTrue (eOp oEq (eVar 11) (eTup (aCons (eC (.bool false)) (aCons (eC (.int 0)) aNil)))) ρ0 M.length (ns.map fun p => .d (nD p)) (M ++ [.lst []]) = some (M ++ [.lst (ns.map fun p => .d (.bool (isNo p)))]) := by
  refine lc_map _ _ _ hd (by omega) fun t ht => ?_
  refine ⟨_, rfl, fun acc => ?_⟩
  have hv : (ρ0.set 11 (some (.d (nD t))))[11]? = some (some (.d (nD t))) := List.getElem?_set_self (by omega)
  simp [hv, small_size, eq_blank]
theorem F__law_met_eq {Ss : List Simple} {l : Nat} (hl : M[l]? = some (.lst (Ss.map fun S => .d (sD S)))) (wf : ∀ S ∈ Ss, Wf S) (few : ∀ S ∈ Ss, S.ws.length ≤ 1000) (small : Ss.length ≤ 1000) (k : Nat) (a b : State) (ha : FitS Ss a) (hb : FitS Ss b) (hk : a.isNote = true → 1 ≤ k) :
    F__law_met (k + 1) [.obj l, .d (stD a), .d (stD b)] M = some (.d (pairD (metS Ss a b)), M) := by
  have src := fun J => x_srcO (M := M ++ J) (get_old (J := J) hl)
  have main : ∀ (k : Nat) (i : Int) (xs : List Hold) (b : State), FitS Ss (.mem i xs) → FitS Ss b → F__law_met (k + 1) [.obj l, .d (stD (.mem i xs)), .d (stD b)] M = some (.d (pairD (metS Ss (.mem i xs) b)), M) := by
    intro k i xs b ⟨lx, fx⟩ hb
    cases b with
    | mem j ys =>
      obtain ⟨ly, fy⟩ := hb
      have ht := trip_length (xs := Ss) (ys := xs) (zs := ys) lx.symm ly.symm
      obtain ⟨o, eo, ho⟩ := met_loop (M := M) (enc := hD) (noted := false) (one := .d (stD (.mem i xs))) (other := .d (stD (.mem j ys))) (trip Ss xs ys) (fun t => hD (metG t.1 t.2.1 t.2.2).1) (fun t => hD (metG t.1 t.2.1 t.2.2).2) hl (by omega)
        (fun t mt => ⟨_, fun M => F__law_pair_eq (wf _ (trip_mem mt).1) (few _ (trip_mem mt).1) (fx _ (trip_zip mt).1) (fy _ (trip_zip mt).2), fun _ => rfl⟩) (fun z => by cases z)
      cases o with
      | bk ρ M' => exact ho.elim
      | ct ρ M' => exact ho.elim
      | rt w M' => exact ho.elim
      | nx ρ M' =>
        obtain ⟨e, a1, b1, c1, d1, er⟩ := ho
        subst e er
        have z := zip3_trip sD hD hD Ss xs ys
        simp only [stD] at eo
        simp [F__law_met, nf, fnV, g__law_met, stD, nmn, small_size, src, last3, z, lx, ly, Function.comp_def, eo, mkTup_of', Pg.pairD, metS, oD, metL, Nat.add_assoc]
    | note ns =>
      obtain ⟨ly, fy⟩ := hb
      have ht := trip_length (xs := Ss) (ys := xs) (zs := ns) lx.symm ly.symm
      obtain ⟨o, eo, ho⟩ := met_loop (M := M) (enc := nD) (noted := true) (one := .d (stD (.mem i xs))) (other := .d (stD (.note ns))) (trip Ss xs ns) (fun t => hD (notG t.1 t.2.1 t.2.2).1) (fun t => nD (notG t.1 t.2.1 t.2.2).2) hl (by omega)
        (fun t mt => let ⟨d, hd⟩ := pair_note (wf _ (trip_mem mt).1) (few _ (trip_mem mt).1) (fx _ (trip_zip mt).1) (fy _ (trip_zip mt).2); ⟨d, hd, fun z => by cases z⟩) (fun _ t mt M => F__law_noted_eq (wf _ (trip_mem mt).1) (few _ (trip_mem mt).1) (fx _ (trip_zip mt).1) (fy _ (trip_zip mt).2))
      cases o with
      | bk ρ M' => exact ho.elim
      | ct ρ M' => exact ho.elim
      | rt w M' => exact ho.elim
      | nx ρ M' =>
        obtain ⟨e, a1, b1, c1, d1, er⟩ := ho
        subst e er
        have z := zip3_trip sD hD nD Ss xs ns
        simp only [stD] at eo
        have bl := fun (ρ0 : Ev) (hρ : ρ0.length = 12) => all_blank (ρ0 := ρ0) (deps := [(M.length + 1, .lst ((trip Ss xs ns).map fun t => W.d (nD (notG t.1 t.2.1 t.2.2).2)))]) (M := M ++ [MO.lst ((trip Ss xs ns).map fun t => W.d (hD (notG t.1 t.2.1 t.2.2).1)), MO.lst ((trip Ss xs ns).map fun t => W.d (nD (notG t.1 t.2.1 t.2.2).2))]) (ns := (trip Ss xs ns).map fun t => (notG t.1 t.2.1 t.2.2).2) (by simp; omega) hρ (fun acc => by simp)
        simp only [List.map_map, Function.comp_def, List.length_append, List.length_cons, List.length_nil, List.append_assoc, List.cons_append, List.nil_append, Nat.zero_add, Nat.reduceAdd] at bl
        have bo : boolsOf ((trip Ss xs ns).map fun t => W.d (.bool (isNo (notG t.1 t.2.1 t.2.2).2))) = some ((trip Ss xs ns).map fun t => isNo (notG t.1 t.2.1 t.2.2).2) := by
          have := x_boolsM ((trip Ss xs ns).map fun t => isNo (notG t.1 t.2.1 t.2.2).2)
          simpa [List.map_map, Function.comp_def] using this
        have al : ((trip Ss xs ns).map fun t => isNo (notG t.1 t.2.1 t.2.2).2).all id = ((notL Ss xs ns).map (·.2)).all isNo := by
          simp [notL, List.all_map, Function.comp_def]
        simp only [Pg.pairD, metS, oD_noteOr, ← al]
        cases hb : ((trip Ss xs ns).map fun t => isNo (notG t.1 t.2.1 t.2.2).2).all id with
        | true =>
          simp [F__law_met, nf, fnV, g__law_met, stD, nmn, small_size, src, last2, z, lx, ly, Function.comp_def, eo, mkTup_of', oD, notL, Nat.add_assoc, bl, fAll, bo, hb]
        | false =>
          simp [F__law_met, nf, fnV, g__law_met, stD, nmn, small_size, src, last2, z, lx, ly, Function.comp_def, eo, mkTup_of', oD, notL, Nat.add_assoc, bl, fAll, bo, hb]
  cases a with
  | mem i xs => exact main k i xs b ha hb
  | note ns =>
    cases b with
    | note ms => simp [F__law_met, nf, fnV, g__law_met, stD, small_size, Pg.pairD, metS, oD]
    | mem j ys =>
      obtain ⟨k, rfl⟩ : ∃ k', k = k' + 1 := ⟨k - 1, by have := hk rfl; omega⟩
      have e := main k j ys (.note ns) hb ha
      simp only [stD] at e
      rw [F__law_met]
      simp [nf, fnV, g__law_met, stD, nmn, e, Pg.pairD, metS, oD, noteOr]
end
end Lw

set_option Elab.async false
set_option linter.all false
set_option maxRecDepth 100000
set_option maxHeartbeats 1000000
/-! LwE: members and notes drawn -/
namespace Lw
open PySem PySem.Spec PyProof.Rows L2 Sa Va Pg
@[simp] theorem ok_dup {α : Type} {o : Option α} {Q : α → Prop} : Ok o (fun _ => Ok o Q) ↔ Ok o Q := ⟨fun ⟨_, _, h⟩ => h, fun h => let ⟨x, e, _⟩ := h; ⟨x, e, h⟩⟩
theorem abs_le {w : Int} (h0 : -9 ≤ w) (h1 : w ≤ 9) : absI w ≤ 9 := by unfold absI; split <;> omega
theorem size_le {S : Simple} {k : Nat} (h : GoodS S k) (hk : 0 < k) : 1 ≤ sizeM S ∧ sizeM S ≤ 21 := by
  refine ⟨size_pos fun ws r m e => by have := h.rest ws r m e; omega, ?_⟩
  cases S with
  | sum ws c =>
    have hc := h.sum ws c rfl
    have : absI c ≤ 20 := by unfold absI; split <;> omega
    have ne : ws.map absI ≠ [] := by
      intro z
      have := h.many
      have z2 : ws = [] := by simpa using z
      rw [show (Simple.sum ws c).ws = ws from rfl, z2] at this
      simp at this
      omega
    have top := (maxI_top (ws.map absI) ne).1
    obtain ⟨w, hw, e⟩ := List.mem_map.mp top
    have hb := h.worth w hw
    have := abs_le hb.1 hb.2
    show (if maxI (ws.map absI) > 1 + absI c then maxI (ws.map absI) else 1 + absI c) ≤ 21
    split <;> omega
  | rest ws r m =>
    have := h.rest ws r m rfl
    show m - 1 ≤ 21
    omega
theorem isRest_word (S : Simple) {M : Mem} : oEq (.d (.str (if S.isRest = true then "rest" else "sum"))) (.d (.str "rest")) M = some (.d (.bool S.isRest), M) := by
  cases S with
  | sum ws c => simp [Simple.isRest, nsr]
  | rest ws r m => simp [Simple.isRest]
theorem head_word (S : Simple) : ∃ ds, sD S = .tuple (.str (if S.isRest = true then "rest" else "sum") :: ds) := by
  cases S with
  | sum ws c => exact ⟨_, rfl⟩
  | rest ws r m => exact ⟨_, rfl⟩
/-- a member's hold as it is drawn -/
def DrawnH (S : Simple) (x : Hold) : Prop := (if S.isRest = true then 0 else -sizeM S) ≤ x.number ∧ x.number ≤ sizeM S
theorem DrawnH.fit {S : Simple} {k : Nat} {x : Hold} (h : DrawnH S x) (g : GoodS S k) (hk : 0 < k) : FitH S x := by
  have := size_le g hk
  obtain ⟨h1, h2⟩ := h
  refine ⟨by split at h1 <;> omega, by omega, fun z => ?_⟩
  rw [z] at h1
  exact ⟨h1, h2⟩
/-- a leader's word is its number's -/
def WordH (S : Simple) (x : Hold) : Prop := x.leads = true → x.word = saysL S x.number
noncomputable abbrev memBody : EvS := (sSeq (sPar 5 6 (aCons (eDef 1 (F__law_size) (aCons (eVar 4) aNil)) (aCons (eOp oEq (eDef 2 (F__law_take) (aCons (eVar 0) (aCons (eC (.int 2)) aNil))) (eC (.int 0))) aNil)))
    (sSeq (sSet 7 (eIf (tVal (eOp oEq (eOp oIx (eVar 4) (eC (.int 0))) (eC (.str "rest")))) (eC (.int 0)) (eUn oNeg (eVar 5))))
    (sSeq (sSet 8 (eOp oAdd (eVar 7) (eDef 2 (F__law_take) (aCons (eVar 0) (aCons (eOp oAdd (eOp oSub (eVar 5) (eVar 7)) (eC (.int 1))) aNil)))))
    (sSeq (sSet 9 (eDef 2 (F__law_of) (aCons (eVar 0) (aCons (eLst (aCons (eVar 7) (aCons (eVar 5) (aCons (eC (.int 0)) (aCons (eVar 8) (aCons (eVar 8) aNil)))))) aNil))))
    (sSeq (sSet 10 (eOp oEq (eDef 2 (F__law_take) (aCons (eVar 0) (aCons (eC (.int 2)) aNil))) (eC (.int 0))))
    (sSeq (sSet 10 (eIf (tVal (eVar 6)) (eDef 2 (F__law_says) (aCons (eVar 4) (aCons (eVar 9) aNil))) (eVar 10)))
    (sExpr (sApp (eVar 3) (eTup (aCons (eVar 6) (aCons (eVar 9) (aCons (eVar 10) aNil))))))))))))
/-- one turn: one more hold -/
theorem mem_turn {M J : Mem} {h L l : Nat} {n : Int} {S : Simple} {kk : Nat} {us : List W} {srt : W} {v4 v5 v6 v7 v8 v9 v10 : Option W} {Q : Out → Prop} (hd : HandAt M h n) (nb : n + 4 < 2 ^ 60) (g : GoodS S kk) (hk : 0 < kk) (sk : kk ≤ 1000) (eL : L = M.length) (us0 : us.length ≤ 1000)
    (k : ∀ x M' J' w5 w6 w7 w8 w9 w10, DrawnH S x → WordH S x → HandAt M' h (n + 4) → Upd h M M' → Q (.nx [some (.obj h), some (.obj l), some srt, some (.obj L), some (.d (sD S)), w5, w6, w7, w8, w9, w10] (M' ++ .lst (us ++ [.d (hD x)]) :: J'))) :
    Ok (memBody [some (.obj h), some (.obj l), some srt, some (.obj L), some (.d (sD S)), v5, v6, v7, v8, v9, v10] (M ++ .lst us :: J)) Q := by
  have wf := g.wf hk
  have e1 := fun M => F__law_size_eq (M := M) wf (by rw [g.many]; exact sk)
  have e2 := fun M n => F__law_says_eq (M := M) (n := n) wf
  obtain ⟨z1, z2⟩ := size_le g hk
  subst eL
  have tail : ∀ (low : Int) (M1 : Mem) (v : Int), (if S.isRest = true then 0 else -sizeM S) = low → HandAt M1 h (n + 1) → Upd h M M1 → Ok (F__law_take [.obj h, .d (.int (sizeM S - low + 1))] (M1 ++ .lst us :: J)) fun x => Ok (oAdd (.d (.int low)) x.1 x.2) fun y => Ok (F__law_of [.obj h, .obj y.2.length] (y.2 ++ [.lst [.d (.int low), .d (.int (sizeM S)), .d (.int 0), y.1, y.1]])) fun z =>
      Ok (F__law_take [.obj h, .d (.int 2)] z.2) fun q => Ok (oEq q.1 (.d (.int 0)) q.2) fun b => Ok (if decide (v = 0) = true then F__law_says [.d (sD S), z.1] b.2 else some (b.1, b.2)) fun s =>
      Ok (lstAt s.2 (.obj M.length)) fun g => g.2.length < sizeLine ∧ Q (.nx [some (.obj h), some (.obj l), some srt, some (.obj M.length), some (.d (sD S)), some (.d (.int (sizeM S))), some (.d (.bool (decide (v = 0)))), some (.d (.int low)), some y.1, some z.1, some s.1] (s.2.set g.1 (.lst (g.2 ++ [mkTup [.d (.bool (decide (v = 0))), z.1, s.1]])))) := by
    intro low M1 v elow hd1 up1
    have l0 : low ≤ 0 ∧ -21 ≤ low := by rw [← elow]; split <;> omega
    refine (d_take (many := sizeM S - low + 1) (by omega) (by omega)).app hd1 (by omega) fun w M2 ⟨a, ea, a0, a1⟩ hd2 up2 => ?_
    subst ea
    simp only [x_I, ok_some]
    rw [show (M2 ++ .lst us :: J) ++ [MO.lst [W.d (.int low), .d (.int (sizeM S)), .d (.int 0), .d (.int (low + a)), .d (.int (low + a))]] = (M2 ++ .lst us :: J) ++ [MO.lst [W.d (.int low), .d (.int (sizeM S)), .d (.int 0), .d (.int (low + a)), .d (.int (low + a))]] from rfl]
    refine of_new hd2.app (by omega) (by simp) (by simp) rfl fun w M3 hw hd3 up3 => ?_
    obtain ⟨M4, rfl, up4⟩ := up3.split hd2.lt
    have hd4 := hd3.unapp (by rw [up4.1]; exact hd2.lt)
    obtain ⟨x, rfl, x0, x1⟩ : ∃ x, w = .d (.int x) ∧ low ≤ x ∧ x ≤ sizeM S := by
      simp only [List.mem_cons, List.not_mem_nil, or_false] at hw
      rcases hw with rfl | rfl | rfl | rfl | rfl <;> exact ⟨_, rfl, by omega, by omega⟩
    rw [List.append_assoc]
    refine (d_take (by decide) (by decide)).app hd4 (by omega) fun w M5 ⟨b, eb, b0, b1⟩ hd5 up5 => ?_
    subst eb
    simp only [x_eqI, ok_some, e2]
    have up := up1.trans (up2.trans (up4.trans up5))
    have lM : M.length = M5.length := up.1.symm
    have fin : ∀ wd : Bool, (decide (v = 0) = true → wd = saysL S x) → Q (.nx [some (.obj h), some (.obj l), some srt, some (.obj M.length), some (.d (sD S)), some (.d (.int (sizeM S))), some (.d (.bool (decide (v = 0)))), some (.d (.int low)), some (.d (.int (low + a))), some (.d (.int x)), some (.d (.bool wd))] (M5 ++ .lst (us ++ [.d (hD ⟨decide (v = 0), x, wd⟩)]) :: (J ++ [.lst [.d (.int low), .d (.int (sizeM S)), .d (.int 0), .d (.int (low + a)), .d (.int (low + a))]]))) := fun wd hwd =>
      k ⟨decide (v = 0), x, wd⟩ M5 _ _ _ _ _ _ _ ⟨by rw [elow]; exact x0, x1⟩ hwd (hd5.mono (by omega)) up
    have ul : us.length < sizeLine := Nat.lt_of_le_of_lt us0 (by decide)
    have fin2 := fin (if v = 0 then saysL S x else decide (b = 0)) (fun z => by rw [if_pos (of_decide_eq_true z)])
    by_cases hv : v = 0
    · simp [hv, lM, ul] at fin2 ⊢
      exact fin2
    · simp [hv, lM, ul] at fin2 ⊢
      exact fin2
  cases S with
  | sum ws c =>
    simp only [sD] at e1
    simp [memBody, sD, e1, nsr]
    refine (d_take (by decide) (by decide)).app hd (by omega) fun w M1 ⟨v, ev, v0, v1⟩ hd1 up1 => ?_
    subst ev
    have := tail (-sizeM (.sum ws c)) M1 v rfl hd1 up1
    simp [sD] at this ⊢
    exact this
  | rest ws r m =>
    simp only [sD] at e1
    simp [memBody, sD, e1]
    refine (d_take (by decide) (by decide)).app hd (by omega) fun w M1 ⟨v, ev, v0, v1⟩ hd1 up1 => ?_
    subst ev
    have := tail 0 M1 v rfl hd1 up1
    simp [sD] at this ⊢
    exact this
theorem member_okW {M : Mem} {h l : Nat} {n : Int} {Ss : List Simple} {kk : Nat} {sort : Int} {Q : W × Mem → Prop} (hd : HandAt M h n) (nb : n + 4 * Ss.length < 2 ^ 60) (hl : M[l]? = some (.lst (Ss.map fun S => .d (sD S)))) (ne : l ≠ h) (g : ∀ S ∈ Ss, GoodS S kk) (hk : 0 < kk) (sk : kk ≤ 1000) (small : Ss.length ≤ 1000)
    (k : ∀ xs M', xs.length = Ss.length → (∀ t ∈ Ss.zip xs, DrawnH t.1 t.2 ∧ WordH t.1 t.2) → HandAt M' h (n + 4 * Ss.length) → Upd h M M' → Q (.d (stD (.mem sort xs)), M')) :
    Ok (F__law_member [.obj h, .obj l, .d (.int sort)] M) Q := by
  have hlt : l < M.length := (List.getElem?_eq_some_iff.mp hl).1
  have hlJ : (M ++ [MO.lst []])[l]? = some (.lst (Ss.map fun S => .d (sD S))) := get_old hl
  simp [F__law_member, nf, fnV, g__law_member, small_size, hlJ]
  refine Ok.mono (for_ok (items0 := Ss.map fun S => .d (sD S)) (fun j ρ M' => ∃ (xs : List Hold) (M1 J : Mem) (a b c d e f g : Option W), M' = M1 ++ .lst (xs.map fun x => .d (hD x)) :: J ∧ ρ = [some (.obj h), some (.obj l), some (.d (.int sort)), some (.obj M.length), a, b, c, d, e, f, g] ∧ xs.length = j ∧ (∀ t ∈ (Ss.take j).zip xs, DrawnH t.1 t.2 ∧ WordH t.1 t.2) ∧ HandAt M1 h (n + 4 * j) ∧ Upd h M M1)
    (fun ρ M' => ∃ (xs : List Hold) (M1 J : Mem) (a b c d e f g : Option W), M' = M1 ++ .lst (xs.map fun x => .d (hD x)) :: J ∧ ρ = [some (.obj h), some (.obj l), some (.d (.int sort)), some (.obj M.length), a, b, c, d, e, f, g] ∧ xs.length = Ss.length ∧ (∀ t ∈ Ss.zip xs, DrawnH t.1 t.2 ∧ WordH t.1 t.2) ∧ HandAt M1 h (n + 4 * Ss.length) ∧ Upd h M M1) (fun _ _ => False)
    (fun j ρ M' _ ⟨xs, M1, J, a, b, c, d, e, f, g, eM, er, lx, dx, hd1, up1⟩ => ?_) (fun ρ M' ⟨xs, M1, J, a, b, c, d, e, f, g, eM, er, lx, dx, hd1, up1⟩ => ?_) (fun j w ρ M' hw ⟨xs, M1, J, a, b, c, d, e, f, g', eM, er, lx, dx, hd1, up1⟩ => ?_) _ 0 _ _ rfl (Nat.zero_le _) ⟨[], M, [], none, none, none, none, none, none, none, rfl, rfl, rfl, fun t ht => by simp at ht, by simpa using hd, .refl⟩) fun o ho => ?_
  · subst eM
    rw [Deps.one]
    refine get_old ?_
    rw [up1.2 l ne]
    exact hl
  · rw [List.length_map] at lx dx hd1
    rw [List.take_length] at dx
    exact ⟨xs, M1, J, a, b, c, d, e, f, g, eM, er, lx, dx, hd1, up1⟩
  · subst eM er
    rw [List.getElem?_map] at hw
    obtain ⟨S, hS, rfl⟩ := Option.map_eq_some_iff.mp hw
    have mS := List.mem_of_getElem? hS
    have jl : j < Ss.length := (List.getElem?_eq_some_iff.mp hS).1
    refine ⟨[some (.obj h), some (.obj l), some (.d (.int sort)), some (.obj M.length), some (.d (sD S)), b, c, d, e, f, g'], by simp, ?_⟩
    refine mem_turn (v4 := none) hd1 (by omega) (g S mS) hk sk up1.1.symm (by simp; omega) fun x M2 J' w5 w6 w7 w8 w9 w10 dr wr hd2 up2 => ?_
    refine ⟨xs ++ [x], M2, J', _, _, _, _, _, _, _, by simp, rfl, by simp [lx], fun t ht => ?_, hd2.mono (by omega), up1.trans up2⟩
    rw [List.take_succ, hS] at ht
    have l1 : (Ss.take j).length = xs.length := by rw [lx, List.length_take]; omega
    rw [show (some S).toList = [S] from rfl, List.zip_append l1] at ht
    rcases List.mem_append.mp ht with ht | ht
    · exact dx t ht
    · simp at ht
      subst ht
      exact ⟨dr, wr⟩
  · cases o with
    | bk ρ M' => exact ho.elim
    | ct ρ M' => exact ho.elim
    | rt w M' => exact ho.elim
    | nx ρ M' =>
      obtain ⟨xs, M1, J, a, b, c, d, e, f, g, eM, er, lx, dx, hd1, up1⟩ := ho
      subst eM er
      have lM : M.length = M1.length := up1.1.symm
      have nm := hd1.norm (w := .d (stD (.mem sort xs))) (J := .lst (xs.map fun x => .d (hD x)) :: J) up1 rfl
      simp only [stD] at nm
      simp [lM, small_size, mkTup_of', nm]
      exact k xs M1 lx dx hd1 up1
theorem member_ok {M : Mem} {h l : Nat} {n : Int} {Ss : List Simple} {kk : Nat} {sort : Int} {Q : W × Mem → Prop} (hd : HandAt M h n) (nb : n + 4 * Ss.length < 2 ^ 60) (hl : M[l]? = some (.lst (Ss.map fun S => .d (sD S)))) (ne : l ≠ h) (g : ∀ S ∈ Ss, GoodS S kk) (hk : 0 < kk) (sk : kk ≤ 1000) (small : Ss.length ≤ 1000)
    (k : ∀ xs M', xs.length = Ss.length → (∀ t ∈ Ss.zip xs, DrawnH t.1 t.2) → HandAt M' h (n + 4 * Ss.length) → Upd h M M' → Q (.d (stD (.mem sort xs)), M')) :
    Ok (F__law_member [.obj h, .obj l, .d (.int sort)] M) Q :=
  member_okW hd nb hl ne g hk sk small fun xs M' lx dx => k xs M' lx fun t ht => (dx t ht).1
end Lw

set_option Elab.async false
set_option linter.all false
set_option maxRecDepth 100000
set_option maxHeartbeats 1000000
/-! LwF: notes drawn -/
namespace Lw
open PySem PySem.Spec PyProof.Rows L2 Sa Va Pg
def DrawnN (S : Simple) (y : Bool × Int) : Prop := (if S.isRest = true then 0 else -2 * sizeM S) ≤ y.2 ∧ y.2 ≤ (if S.isRest = true then sizeM S else 2 * sizeM S)
theorem DrawnN.fit {S : Simple} {k : Nat} {y : Bool × Int} (h : DrawnN S y) (g : GoodS S k) (hk : 0 < k) : FitN S y := by
  have := size_le g hk
  obtain ⟨h1, h2⟩ := h
  refine ⟨by split at h1 <;> omega, by split at h2 <;> omega⟩
noncomputable abbrev noteBody : EvS := (sSeq (sSet 4 (eDef 1 (F__law_size) (aCons (eVar 3) aNil)))
    (sSeq (sAsg (eIf (tVal (eOp oEq (eOp oIx (eVar 3) (eC (.int 0))) (eC (.str "rest")))) (eTup (aCons (eC (.int 0)) (aCons (eVar 4) aNil))) (eTup (aCons (eOp oMul (eUn oNeg (eC (.int 2))) (eVar 4)) (aCons (eOp oMul (eC (.int 2)) (eVar 4)) aNil)))) (gT 2 (gsC (gN 5) (gsC (gN 6) gs0))))
    (sSeq (sSet 7 (eOp oAdd (eVar 5) (eDef 2 (F__law_take) (aCons (eVar 0) (aCons (eOp oAdd (eOp oSub (eVar 6) (eVar 5)) (eC (.int 1))) aNil)))))
    (sSeq (sSet 8 (eDef 2 (F__law_of) (aCons (eVar 0) (aCons (eLst (aCons (eC (.int 0)) (aCons (eVar 5) (aCons (eVar 6) (aCons (eVar 7) aNil))))) aNil))))
    (sExpr (sApp (eVar 2) (eTup (aCons (eOp oEq (eDef 2 (F__law_take) (aCons (eVar 0) (aCons (eC (.int 3)) aNil))) (eC (.int 0))) (aCons (eVar 8) aNil)))))))))
theorem note_turn {M J : Mem} {h L l : Nat} {n : Int} {S : Simple} {kk : Nat} {us : List W} {v4 v5 v6 v7 v8 v9 : Option W} {Q : Out → Prop} (hd : HandAt M h n) (nb : n + 4 < 2 ^ 60) (g : GoodS S kk) (hk : 0 < kk) (sk : kk ≤ 1000) (eL : L = M.length) (us0 : us.length ≤ 1000)
    (k : ∀ x M' J' w4 w5 w6 w7 w8, DrawnN S x → HandAt M' h (n + 4) → Upd h M M' → Q (.nx [some (.obj h), some (.obj l), some (.obj L), some (.d (sD S)), w4, w5, w6, w7, w8, v9] (M' ++ .lst (us ++ [.d (nD x)]) :: J'))) :
    Ok (noteBody [some (.obj h), some (.obj l), some (.obj L), some (.d (sD S)), v4, v5, v6, v7, v8, v9] (M ++ .lst us :: J)) Q := by
  have wf := g.wf hk
  have e1 := fun M => F__law_size_eq (M := M) wf (by rw [g.many]; exact sk)
  obtain ⟨z1, z2⟩ := size_le g hk
  subst eL
  have tail : ∀ (low high : Int) (w4 : Option W), (if S.isRest = true then 0 else -2 * sizeM S) = low → (if S.isRest = true then sizeM S else 2 * sizeM S) = high → Ok (F__law_take [.obj h, .d (.int (high - low + 1))] (M ++ .lst us :: J)) fun x => Ok (oAdd (.d (.int low)) x.1 x.2) fun y => Ok (F__law_of [.obj h, .obj y.2.length] (y.2 ++ [.lst [.d (.int 0), .d (.int low), .d (.int high), y.1]])) fun z =>
      Ok (lstAt z.2 (.obj M.length)) fun _ => Ok (F__law_take [.obj h, .d (.int 3)] z.2) fun q => Ok (oEq q.1 (.d (.int 0)) q.2) fun b =>
      Ok (lstAt b.2 (.obj M.length)) fun g => g.2.length < sizeLine ∧ Q (.nx [some (.obj h), some (.obj l), some (.obj M.length), some (.d (sD S)), w4, some (.d (.int low)), some (.d (.int high)), some y.1, some z.1, v9] (b.2.set g.1 (.lst (g.2 ++ [mkTup [b.1, z.1]])))) := by
    intro low high w4 elow ehigh
    have l0 : low ≤ 0 ∧ -42 ≤ low := by rw [← elow]; split <;> omega
    have h0 : 0 ≤ high ∧ high ≤ 42 := by rw [← ehigh]; split <;> omega
    refine (d_take (many := high - low + 1) (by omega) (by omega)).app hd (by omega) fun w M2 ⟨a, ea, a0, a1⟩ hd2 up2 => ?_
    subst ea
    simp only [x_I, ok_some]
    refine of_new hd2.app (by omega) (by simp) (by simp) rfl fun w M3 hw hd3 up3 => ?_
    obtain ⟨M4, rfl, up4⟩ := up3.split hd2.lt
    have hd4 := hd3.unapp (by rw [up4.1]; exact hd2.lt)
    obtain ⟨x, rfl, x0, x1⟩ : ∃ x, w = .d (.int x) ∧ low ≤ x ∧ x ≤ high := by
      simp only [List.mem_cons, List.not_mem_nil, or_false] at hw
      rcases hw with rfl | rfl | rfl | rfl <;> exact ⟨_, rfl, by omega, by omega⟩
    rw [List.append_assoc]
    have l4 : M.length = M4.length := by rw [up4.1, up2.1]
    refine ⟨_, x_lstAt (ws := us) (by rw [l4]; simp), ?_⟩
    refine (d_take (by decide) (by decide)).app hd4 (by omega) fun w M5 ⟨b, eb, b0, b1⟩ hd5 up5 => ?_
    subst eb
    simp only [x_eqI, ok_some]
    have up := up2.trans (up4.trans up5)
    have lM : M.length = M5.length := up.1.symm
    have ul : us.length < sizeLine := Nat.lt_of_le_of_lt us0 (by decide)
    have fin := k (decide (b = 0), x) M5 (J ++ [.lst [.d (.int 0), .d (.int low), .d (.int high), .d (.int (low + a))]]) w4 (some (.d (.int low))) (some (.d (.int high))) (some (.d (.int (low + a)))) (some (.d (.int x))) ⟨by rw [elow]; exact x0, by rw [ehigh]; exact x1⟩ (hd5.mono (by omega)) up
    refine ⟨_, x_lstAt (ws := us) (by rw [lM]; simp), ul, ?_⟩
    simp [lM, nD] at fin ⊢
    exact fin
  have m2 : CMul (-2) (sizeM S) := cm_left (by decide)
  have m3 : CMul 2 (sizeM S) := cm_left (by decide)
  cases S with
  | sum ws c =>
    simp only [sD] at e1
    have := tail (-2 * sizeM (.sum ws c)) (2 * sizeM (.sum ws c)) (some (.d (.int (sizeM (.sum ws c))))) rfl rfl
    simp [noteBody, sD, e1, nsr, small_size, x_mul, m2, m3]
    simp [sD] at this
    exact this
  | rest ws r m =>
    simp only [sD] at e1
    have := tail 0 (sizeM (.rest ws r m)) (some (.d (.int (sizeM (.rest ws r m))))) rfl rfl
    simp [noteBody, sD, e1, small_size]
    simp [sD] at this
    exact this
theorem all_blankG {M : Mem} {ns : List (Bool × Int)} {i : Nat} (small : ns.length ≤ 1000) {ρ0 : Ev} (hρ : i < ρ0.length) {deps : List (Nat × MO)} (hd : ∀ acc, Deps deps (M ++ [.lst acc])) :
    lcL deps (gN i) tTrue (eOp oEq (eVar i) (eTup (aCons (eC (.bool false)) (aCons (eC (.int 0)) aNil)))) ρ0 M.length (ns.map fun p => .d (nD p)) (M ++ [.lst []]) = some (M ++ [.lst (ns.map fun p => .d (.bool (isNo p)))]) := by
  refine lc_map _ _ _ hd (by omega) fun t ht => ?_
  refine ⟨_, rfl, fun acc => ?_⟩
  have hv : (ρ0.set i (some (.d (nD t))))[i]? = some (some (.d (nD t))) := List.getElem?_set_self hρ
  simp [hv, small_size, eq_blank]
theorem note_ok {M : Mem} {h l : Nat} {n : Int} {Ss : List Simple} {kk : Nat} {Q : W × Mem → Prop} (hd : HandAt M h n) (nb : n + 4 * Ss.length < 2 ^ 60) (hl : M[l]? = some (.lst (Ss.map fun S => .d (sD S)))) (ne : l ≠ h) (g : ∀ S ∈ Ss, GoodS S kk) (hk : 0 < kk) (sk : kk ≤ 1000) (small : Ss.length ≤ 1000) (some1 : 0 < Ss.length)
    (k : ∀ ns M', ns.length = Ss.length → (∀ t ∈ Ss.zip ns, DrawnN t.1 t.2) → ns.all isNo = false → HandAt M' h (n + 4 * Ss.length) → Upd h M M' → Q (.d (stD (.note ns)), M')) :
    Ok (F__law_note [.obj h, .obj l] M) Q := by
  have hlt : l < M.length := (List.getElem?_eq_some_iff.mp hl).1
  have hlJ : (M ++ [MO.lst []])[l]? = some (.lst (Ss.map fun S => .d (sD S))) := get_old hl
  simp [F__law_note, nf, fnV, g__law_note, small_size, hlJ]
  refine Ok.mono (for_ok (items0 := Ss.map fun S => .d (sD S)) (fun j ρ M' => ∃ (xs : List (Bool × Int)) (M1 J : Mem) (a b c d e f : Option W), M' = M1 ++ .lst (xs.map fun x => .d (nD x)) :: J ∧ ρ = [some (.obj h), some (.obj l), some (.obj M.length), a, b, c, d, e, f, none] ∧ xs.length = j ∧ (∀ t ∈ (Ss.take j).zip xs, DrawnN t.1 t.2) ∧ HandAt M1 h (n + 4 * j) ∧ Upd h M M1)
    (fun ρ M' => ∃ (xs : List (Bool × Int)) (M1 J : Mem) (a b c d e f : Option W), M' = M1 ++ .lst (xs.map fun x => .d (nD x)) :: J ∧ ρ = [some (.obj h), some (.obj l), some (.obj M.length), a, b, c, d, e, f, none] ∧ xs.length = Ss.length ∧ (∀ t ∈ Ss.zip xs, DrawnN t.1 t.2) ∧ HandAt M1 h (n + 4 * Ss.length) ∧ Upd h M M1) (fun _ _ => False)
    (fun j ρ M' _ ⟨xs, M1, J, a, b, c, d, e, f, eM, er, lx, dx, hd1, up1⟩ => ?_) (fun ρ M' ⟨xs, M1, J, a, b, c, d, e, f, eM, er, lx, dx, hd1, up1⟩ => ?_) (fun j w ρ M' hw ⟨xs, M1, J, a, b, c, d, e, f, eM, er, lx, dx, hd1, up1⟩ => ?_) _ 0 _ _ rfl (Nat.zero_le _) ⟨[], M, [], none, none, none, none, none, none, rfl, rfl, rfl, fun t ht => by simp at ht, by simpa using hd, .refl⟩) fun o ho => ?_
  · subst eM
    rw [Deps.one]
    refine get_old ?_
    rw [up1.2 l ne]
    exact hl
  · rw [List.length_map] at lx dx hd1
    rw [List.take_length] at dx
    exact ⟨xs, M1, J, a, b, c, d, e, f, eM, er, lx, dx, hd1, up1⟩
  · subst eM er
    rw [List.getElem?_map] at hw
    obtain ⟨S, hS, rfl⟩ := Option.map_eq_some_iff.mp hw
    have mS := List.mem_of_getElem? hS
    have jl : j < Ss.length := (List.getElem?_eq_some_iff.mp hS).1
    refine ⟨[some (.obj h), some (.obj l), some (.obj M.length), some (.d (sD S)), b, c, d, e, f, none], by simp, ?_⟩
    refine note_turn hd1 (by omega) (g S mS) hk sk up1.1.symm (by simp; omega) fun x M2 J' w5 w6 w7 w8 w9 dr hd2 up2 => ?_
    refine ⟨xs ++ [x], M2, J', _, _, _, _, _, _, by simp, rfl, by simp [lx], fun t ht => ?_, hd2.mono (by omega), up1.trans up2⟩
    rw [List.take_succ, hS] at ht
    have l1 : (Ss.take j).length = xs.length := by rw [lx, List.length_take]; omega
    rw [show (some S).toList = [S] from rfl, List.zip_append l1] at ht
    rcases List.mem_append.mp ht with ht | ht
    · exact dx t ht
    · simp at ht
      subst ht
      exact dr
  · cases o with
    | bk ρ M' => exact ho.elim
    | ct ρ M' => exact ho.elim
    | rt w M' => exact ho.elim
    | nx ρ M' =>
      obtain ⟨xs, M1, J, a, b, c, d, e, f, eM, er, lx, dx, hd1, up1⟩ := ho
      subst eM er
      have lM : M.length = M1.length := up1.1.symm
      have bl := fun (ρ0 : Ev) (hρ : 9 < ρ0.length) => all_blankG (ρ0 := ρ0) (i := 9) (deps := [(M1.length, .lst (xs.map fun p => W.d (nD p)))]) (M := M1 ++ .lst (xs.map fun x => .d (nD x)) :: J) (ns := xs) (by omega) hρ (fun acc => by simp)
      simp only [List.length_append, List.length_cons, List.append_assoc, List.cons_append] at bl
      have bo : boolsOf (xs.map fun t => W.d (.bool (isNo t))) = some (xs.map isNo) := by
        have := x_boolsM (xs.map isNo)
        simpa [List.map_map, Function.comp_def] using this
      have g9 : (M1 ++ .lst (xs.map fun x => W.d (nD x)) :: (J ++ [MO.lst (xs.map fun p => W.d (.bool (isNo p)))]))[M1.length + (J.length + 1)]? = some (.lst (xs.map fun p => W.d (.bool (isNo p)))) := by
        rw [get_newk]
        simp
      cases hb : xs.all isNo with
      | false =>
        have hb' : (xs.map isNo).all id = false := by rw [List.all_map]; exact hb
        have nm := fun J => hd1.norm (w := .d (stD (.note xs))) (J := .lst (xs.map fun x => .d (nD x)) :: J) up1 rfl
        simp only [stD] at nm
        have := k xs M1 lx dx hb hd1 up1
        simp only [stD] at this
        simp [lM, bl, fAll, g9, bo, hb', small_size, mkTup_of', nm]
        exact this
      | true =>
        have hb' : (xs.map isNo).all id = true := by rw [List.all_map]; exact hb
        obtain ⟨x, xs', rfl⟩ : ∃ x xs', xs = x :: xs' := by
          cases xs with
          | nil => simp at lx; omega
          | cons x xs' => exact ⟨x, xs', rfl⟩
        obtain ⟨S, Ss', rfl⟩ : ∃ S Ss', Ss = S :: Ss' := by
          cases Ss with
          | nil => simp at some1
          | cons x xs' => exact ⟨x, xs', rfl⟩
        have nm := fun J => hd1.norm (w := .d (stD (.note ((true, 0) :: xs')))) (J := .lst (((true, 0) :: xs').map fun x => .d (nD x)) :: J) up1 rfl
        have dS : DrawnN S (true, 0) := by
          have := size_le (g S List.mem_cons_self) hk
          refine ⟨?_, ?_⟩ <;> (simp only; split <;> omega)
        have := k ((true, 0) :: xs') M1 (by simpa using lx) (fun t ht => by
          simp only [List.zip_cons_cons, List.mem_cons] at ht
          rcases ht with rfl | ht
          · exact dS
          · exact dx t (by simp only [List.zip_cons_cons, List.mem_cons]; exact .inr ht)) rfl hd1 up1
        simp only [stD, List.map_cons] at this nm
        simp only [List.map_cons] at bl g9 bo hb'
        have mk : mkTup (W.d (nD (true, 0)) :: xs'.map fun x => W.d (nD x)) = .d (.tuple (nD (true, 0) :: xs'.map nD)) := mkTup_of' nD ((true, 0) :: xs')
        have e0 : nD (true, 0) = .tuple [.bool true, .int 0] := rfl
        rw [e0] at mk nm this
        simp [lM, bl, fAll, g9, bo, hb', small_size, mk, nm]
        exact this
end Lw

set_option Elab.async false
set_option linter.all false
set_option maxRecDepth 100000
set_option maxHeartbeats 1000000
/-! LwG: the hand of a cell -/
namespace Lw
open PySem PySem.Spec PyProof.Rows L2 Sa Va Pg
theorem x_pow {M : Mem} {p q : Int} (h : CPow p q) : oPow (.d (.int p)) (.d (.int q)) M = some (.d (.int (p ^ q.toNat)), M) := x_Ic h
theorem pow18 {M : Mem} : oPow (.d (.int 10)) (.d (.int 18)) M = some (.d (.int 1000000000000000000), M) := x_pow (p := 10) (q := 18) ⟨by decide, by decide, by decide⟩
theorem c69621 (x : Int) : CMul x 69621 := cm_right (by decide)
theorem c2 (x : Int) : CMul 2 x := cm_left (by decide)
theorem c104729 (x : Int) : CMul 104729 x := cm_left (by decide)
theorem cell_ok {ns : List Int} {k : Int} (k0 : 0 ≤ k) (h : k < ns.length) : ∃ v, atI ns k = some v := by
  obtain ⟨j, rfl⟩ : ∃ j : Nat, k = j := ⟨k.toNat, by omega⟩
  exact ⟨ns[j]'(by omega), atI_nat' (by simp)⟩
theorem hand_ok {ns : List Int} {M : Mem} {k : Int} {Q : W × Mem → Prop} (k0 : 0 ≤ k) (kb : k ≤ 1000)
    (q : ∀ a b, 0 ≤ a → 0 ≤ b → b < 2 ^ 61 → Q (.obj M.length, M ++ [.lst [.d (.int a), .d (.int b), .d (.int 0)]])) : Ok (F__law_hand ns [.scr, .d (.int k)] M) Q := by
  have start : ∀ cell : Int, Ok (forL [(M.length, .lst ((cutG ns none (some 60)).map fun i => .d (.int i)))] (gN 4) (sSet 3 (eOp oMod (eOp oAdd (eOp oAdd (eOp oMul (eVar 3) (eC (.int 69621))) (eOp oMul (eC (.int 2)) (eCall fAbs (aCons (eVar 4) aNil)))) (eCall fInt (aCons (eOp oLt (eVar 4) (eC (.int 0))) aNil))) (eC (.int 2305843009213693951)))) ((cutG ns none (some 60)).map fun i => .d (.int i))
      [some .scr, some (.d (.int k)), some (.d (.int cell)), some (.d (.int (700001 + 104729 * k))), none] (M ++ [.lst ((cutG ns none (some 60)).map fun i => .d (.int i))]))
      (endQ (fun ρ M' => M' = M ++ [.lst ((cutG ns none (some 60)).map fun i => .d (.int i))] ∧ ∃ (sd : Int) (v : Option W), ρ = [some .scr, some (.d (.int k)), some (.d (.int cell)), some (.d (.int sd)), v] ∧ 0 ≤ sd ∧ sd < 2 ^ 61) fun _ _ => False) := by
    intro cell
    refine for_ok (items0 := (cutG ns none (some 60)).map fun i => .d (.int i)) (fun j ρ M' => M' = M ++ [.lst ((cutG ns none (some 60)).map fun i => .d (.int i))] ∧ ∃ (sd : Int) (v : Option W), ρ = [some .scr, some (.d (.int k)), some (.d (.int cell)), some (.d (.int sd)), v] ∧ 0 ≤ sd ∧ sd < 2 ^ 61) _ _
      (fun j ρ M' _ h => by rw [h.1]; simp) (fun ρ M' h => h) (fun j w ρ M' hw ⟨e, sd, v, er, s0, s1⟩ => ?_) _ 0 _ _ rfl (Nat.zero_le _) ⟨rfl, _, _, rfl, by omega, by omega⟩
    subst e er
    rw [List.getElem?_map] at hw
    obtain ⟨i, hi, rfl⟩ := Option.map_eq_some_iff.mp hw
    have m0 := Int.emod_nonneg (sd * 69621 + 2 * (if i < 0 then -i else i) + (if decide (i < 0) = true then 1 else 0)) (b := 2305843009213693951) (by decide)
    have m1 := Int.emod_lt_of_pos (sd * 69621 + 2 * (if i < 0 then -i else i) + (if decide (i < 0) = true then 1 else 0)) (b := 2305843009213693951) (by decide)
    refine ⟨[some .scr, some (.d (.int k)), some (.d (.int cell)), some (.d (.int sd)), some (.d (.int i))], by simp, .nx [some .scr, some (.d (.int k)), some (.d (.int cell)), some (.d (.int ((sd * 69621 + 2 * (if i < 0 then -i else i) + (if decide (i < 0) = true then 1 else 0)) % 2305843009213693951))), some (.d (.int i))] _, by simp [x_mul, x_mod, c69621, c2], rfl, _, _, rfl, m0, Int.lt_of_lt_of_le m1 (by decide)⟩
  have cells : ∃ cell : Int, ∀ M, eIf (tVal (eOp oLt (eVar 1) (eCall (fLenS ns) (aCons (eVar 0) aNil)))) (eOp (oIxS ns) (eVar 0) (eVar 1)) (eC (.int 0)) [some .scr, some (.d (.int k)), none, none, none] M = some (.d (.int cell), M) := by
    by_cases hk : k < (ns.length : Int)
    · obtain ⟨v, hv⟩ := cell_ok k0 hk
      exact ⟨v, fun M => by simp [hk, hv]⟩
    · exact ⟨0, fun M => by simp [hk]⟩
  obtain ⟨cell, hc⟩ := cells
  obtain ⟨o, eo, ho⟩ := start cell
  cases o with
  | bk ρ M' => exact ho.elim
  | ct ρ M' => exact ho.elim
  | rt w M' => exact ho.elim
  | nx ρ M' =>
    obtain ⟨e, sd, v, er, s0, s1⟩ := ho
    subst e er
    have hc0 := hc M
    have nm := fun a : Int => norm_l (M := M) (M1 := M) (j := 1) (us := [.d (.int a), .d (.int sd), .d (.int 0)]) (J := [.lst ((cutG ns none (some 60)).map fun i => .d (.int i)), .lst [.d (.int a), .d (.int sd), .d (.int 0)]]) rfl rfl .refl
    have abs0 : 0 ≤ (if cell < 0 then -cell else cell) := by split <;> omega
    by_cases hb : 1000000000000000000 ≤ (if cell < 0 then -cell else cell)
    · have := q (if cell < 0 then -cell else cell) sd abs0 s0 s1
      simp only [F__law_hand, nf, fnV, g__law_hand, ok_map, x_seq, x_set]
      simp only [List.map_cons, List.map_nil, List.length_cons, List.length_nil, List.cons_append, List.nil_append, List.replicate, Nat.reduceSub, Nat.reduceAdd, hc0]
      simp [c104729, x_mul, eo, pow18, hb, small_size, nm]
      exact this
    · have := q 0 sd (by decide) s0 s1
      simp only [F__law_hand, nf, fnV, g__law_hand, ok_map, x_seq, x_set]
      simp only [List.map_cons, List.map_nil, List.length_cons, List.length_nil, List.cons_append, List.nil_append, List.replicate, Nat.reduceSub, Nat.reduceAdd, hc0]
      simp [c104729, x_mul, eo, pow18, hb, small_size, nm]
      exact this
end Lw

set_option Elab.async false
set_option linter.all false
set_option maxRecDepth 100000
set_option maxHeartbeats 1000000
/-! LxA: the hand of the first laws and its draws, by value -/
namespace Lx
open PySem PySem.Spec PyProof.Rows L2 Sa Va Pg
open Lw (Upd GoodS norm_upd cm_left cm_right x_pow Upd.refl Upd.trans Upd.set Upd.split ix0 ix2)
def HandX (M : Mem) (h : Nat) (n : Int) : Prop := ∃ a b c : Int, M[h]? = some (.lst [.d (.int a), .d (.int b), .d (.int c)]) ∧ 0 ≤ a ∧ 0 ≤ b ∧ b < 2 ^ 62 ∧ 0 ≤ c ∧ c ≤ n
theorem HandX.mono {M : Mem} {h : Nat} {n m : Int} (x : HandX M h n) (le : n ≤ m) : HandX M h m := let ⟨a, b, c, e, h1, h2, h3, h4, h5⟩ := x; ⟨a, b, c, e, h1, h2, h3, h4, by omega⟩
theorem HandX.lt {M : Mem} {h : Nat} {n : Int} (x : HandX M h n) : h < M.length := let ⟨_, _, _, e, _⟩ := x; (List.getElem?_eq_some_iff.mp e).1
theorem HandX.app {M J : Mem} {h : Nat} {n : Int} (x : HandX M h n) : HandX (M ++ J) h n := let ⟨a, b, c, e, r⟩ := x; ⟨a, b, c, get_old e, r⟩
theorem HandX.unapp {M J : Mem} {h : Nat} {n : Int} (hl : h < M.length) (x : HandX (M ++ J) h n) : HandX M h n := by
  obtain ⟨a, b, c, e, r⟩ := x
  exact ⟨a, b, c, by rw [List.getElem?_append_left hl] at e; exact e, r⟩
theorem atI_nat8 {x0 x1 x2 x3 x4 x5 x6 x7 : Int} {j : Int} (h0 : 0 ≤ j) (h8 : j < 8) (P : Int → Prop) (p0 : P x0) (p1 : P x1) (p2 : P x2) (p3 : P x3) (p4 : P x4) (p5 : P x5) (p6 : P x6) (p7 : P x7) :
    ∃ p : Int, atI [W.d (.int x0), .d (.int x1), .d (.int x2), .d (.int x3), .d (.int x4), .d (.int x5), .d (.int x6), .d (.int x7)] j = some (.d (.int p)) ∧ P p := by
  have h : j = 0 ∨ j = 1 ∨ j = 2 ∨ j = 3 ∨ j = 4 ∨ j = 5 ∨ j = 6 ∨ j = 7 := by omega
  rcases h with z | z | z | z | z | z | z | z <;> rw [z]
  · exact ⟨_, atI0, p0⟩
  · exact ⟨_, atI1, p1⟩
  · exact ⟨_, atI2, p2⟩
  · exact ⟨_, atI3, p3⟩
  · exact ⟨_, atI_nat' (k := 4) rfl, p4⟩
  · exact ⟨_, atI_nat' (k := 5) rfl, p5⟩
  · exact ⟨_, atI_nat' (k := 6) rfl, p6⟩
  · exact ⟨_, atI_nat' (k := 7) rfl, p7⟩
theorem take_x {Q : W × Mem → Prop} {M : Mem} {h : Nat} {n many : Int} (hd : HandX M h n) (nb : n < 2 ^ 40) (mp : 0 < many) (mb : many < 2 ^ 128)
    (k : ∀ v M', 0 ≤ v → v < many → HandX M' h (n + 1) → Upd h M M' → Q (.d (.int v), M')) : Ok (F__law_take [.obj h, .d (.int many)] M) Q := by
  have hl := hd.lt
  obtain ⟨a, b, c, e, a0, b0, b1, c0, c1⟩ := hd
  have dv : ∀ {M : Mem}, oDiv (.d (.int a)) (.d (.int many)) M = some (.d (.int (a / many)), M) := x_divW (wide_div (b := 128) mp (by omega) (by decide) (by decide))
  have post : ∀ x M', HandX M' h (n + 1) → Upd h M M' → Q (.d (.int (x % many)), M') := fun x M' => k _ M' (Int.emod_nonneg _ (by omega)) (Int.emod_lt_of_pos _ mp)
  by_cases ha : 0 < a
  · have nu := fun x => norm_upd (M := M) (x := x) (h := h) (ws := [.d (.int (a / many)), .d (.int b), .d (.int c)]) (J := []) rfl
    simp only [List.append_nil] at nu
    simp [F__law_take, nf, fnV, g__law_take, e, ha, mp, dv, x_mod, nu]
    exact post _ _ ⟨a / many, b, c, by rw [List.getElem?_set_self hl], Int.ediv_nonneg a0 (by omega), b0, b1, c0, by omega⟩ .set
  · have t1 : -(2 ^ 64) < c + 1 ∧ c + 1 < 2 ^ 64 := by omega
    have ct : ∀ x, CMul x (c + 1) := fun x => cm_right t1
    obtain ⟨P, hP, P0, P1⟩ := atI_nat8 (x0 := 2147483647) (x1 := 2147483629) (x2 := 2147483587) (x3 := 2147483579) (x4 := 2147483563) (x5 := 2147483549) (x6 := 2147483543) (x7 := 2147483497) (Int.emod_nonneg (c + 1) (b := 8) (by decide)) (Int.emod_lt_of_pos (c + 1) (by decide))
      (fun P => 0 < P ∧ P < 2 ^ 62) (by decide) (by decide) (by decide) (by decide) (by decide) (by decide) (by decide) (by decide)
    have cP : ∀ x y, CMul (x % P) y := fun x y => cm_left (by
      have := Int.emod_nonneg x (Int.ne_of_gt P0)
      have := Int.emod_lt_of_pos x P0
      omega)
    have pw : ∀ {M : Mem}, oPow (.d (.int (b + 104729 * (c + 1)))) (.d (.int 5)) M = some (.d (.int ((b + 104729 * (c + 1)) ^ 5)), M) := x_pow (q := 5) ⟨by decide, by decide, by omega⟩
    have nu := fun x J => norm_upd (M := M) (x := x) (h := h) (ws := [.d (.int a), .d (.int b), .d (.int (c + 1))]) (J := J) rfl
    have gs : (M.set h (.lst [.d (.int a), .d (.int b), .d (.int (c + 1))]))[h]? = some (.lst [.d (.int a), .d (.int b), .d (.int (c + 1))]) := List.getElem?_set_self hl
    have go := fun J => get_old (J := J) gs
    simp [F__law_take, nf, fnV, g__law_take, e, ha, mp, x_div, x_mod, x_mul, gs, go, hP, P0, ct, cP, pw, small_size, nu]
    exact post _ _ ⟨a, b, c + 1, gs, a0, b0, b1, by omega, by omega⟩ .set
theorem HandX.cut {M M1 : Mem} {h : Nat} {n : Int} (hd : HandX M1 h n) (up : Upd h M M1) : Cut M M1 := by
  refine ⟨up.1, fun k mo hk => ?_⟩
  by_cases z : k = h
  · subst z
    obtain ⟨a, b, c, e, _⟩ := hd
    rw [e] at hk
    cases hk
    exact .inr rfl
  · rw [up.2 k z] at hk
    exact .inl hk
theorem HandX.norm {M M1 J : Mem} {h : Nat} {n : Int} {w : W} (hd : HandX M1 h n) (up : Upd h M M1) (d : isD w = true) : norm M (w, M1 ++ J) = (w, M1) := norm_d d (hd.cut up)
theorem HandX.norm0 {M M1 : Mem} {h : Nat} {n : Int} {w : W} (hd : HandX M1 h n) (up : Upd h M M1) (d : isD w = true) : Va.norm M (w, M1) = (w, M1) := by
  have := hd.norm (J := []) up d
  rwa [List.append_nil] at this
/-- taken out of a list -/
theorem of_x {Q : W × Mem → Prop} {M : Mem} {h l : Nat} {n : Int} {ws : List W} (hd : HandX M h n) (nb : n < 2 ^ 40) (hl : M[l]? = some (.lst ws)) (ne : l ≠ h) (sz : 0 < ws.length) (sb : ws.length < 100000) (isd : ws.all isD = true)
    (k : ∀ w M', w ∈ ws → HandX M' h (n + 1) → Upd h M M' → Q (w, M')) : Ok (F__law_of [.obj h, .obj l] M) Q := by
  have big : (ws.length : Int) < 2 ^ 128 := by omega
  simp [F__law_of, nf, fnV, g__law_of, hl]
  refine take_x (many := ws.length) hd nb (by omega) big fun v M1 v0 v1 hd1 up => ?_
  have hl1 : M1[l]? = some (.lst ws) := by rw [up.2 l ne]; exact hl
  obtain ⟨j, rfl⟩ : ∃ j : Nat, v = j := ⟨v.toNat, by omega⟩
  have hv : j < ws.length := by omega
  have at1 : atI ws (j : Int) = some (ws[j]) := atI_nat' (by simp)
  have hw : isD (ws[j]) = true := List.all_eq_true.mp isd _ (List.getElem_mem hv)
  simp [hl1, at1, hd1.norm0 up hw]
  exact k _ _ (List.getElem_mem hv) hd1 up
/-- a def that draws: at most so many times, and tells what P is so of -/
def DrawsX (F : Fn) (as : Nat → List W) (cost : Int) (P : W → Prop) : Prop := ∀ (M : Mem) (h : Nat) (n : Int) (Q : W × Mem → Prop), HandX M h n → n + cost < 2 ^ 40 →
  (∀ w M', P w → HandX M' h (n + cost) → Upd h M M' → Q (w, M')) → Ok (F (as h) M) Q
theorem DrawsX.app {F : Fn} {as : Nat → List W} {cost : Int} {P : W → Prop} (D : DrawsX F as cost P) {M J : Mem} {h : Nat} {n : Int} {Q : W × Mem → Prop} (hd : HandX M h n) (nb : n + cost < 2 ^ 40)
    (k : ∀ w M', P w → HandX M' h (n + cost) → Upd h M M' → Q (w, M' ++ J)) : Ok (F (as h) (M ++ J)) Q :=
  D _ h n Q hd.app nb fun w M' hp hd' up => by
    obtain ⟨M1, rfl, up1⟩ := up.split hd.lt
    exact k w M1 hp (hd'.unapp (by rw [up1.1]; exact hd.lt)) up1
theorem x_take {many : Int} (mp : 0 < many) (mb : many < 2 ^ 128) : DrawsX F__law_take (fun h => [.obj h, .d (.int many)]) 1 (fun w => ∃ v, w = .d (.int v) ∧ 0 ≤ v ∧ v < many) :=
  fun M h n Q hd nb k => take_x hd (by omega) mp mb fun v M' v0 v1 hd' up => k _ M' ⟨v, rfl, v0, v1⟩ hd' up
theorem of_list {M : Mem} {h : Nat} {n : Int} {ws : List W} {Q : W × Mem → Prop} {J1 J2 : Mem} (hd : HandX M h n) (nb : n < 2 ^ 40) (sz : 0 < ws.length) (sb : ws.length < 100000) (isd : ws.all isD = true)
    (k : ∀ w M', w ∈ ws → HandX M' h (n + 1) → Upd h M M' → Q (w, M' ++ (J1 ++ .lst ws :: J2))) : Ok (F__law_of [.obj h, .obj (M.length + J1.length)] (M ++ (J1 ++ .lst ws :: J2))) Q := by
  refine of_x hd.app nb (by rw [get_newk]; simp) (by have := hd.lt; omega) sz sb isd fun w M' hw hd' up => ?_
  obtain ⟨M1, rfl, up1⟩ := up.split hd.lt
  exact k w M1 hw (hd'.unapp (by rw [up1.1]; exact hd.lt)) up1
/-! a simple saying -/
abbrev sixW (x : Int) : List W := [.d (.int 0), .d (.int 1), .d (.int (-1)), .d (.int 2), .d (.int 9), .d (.int (-9)), .d (.int x)]
noncomputable abbrev worthE : EvE := eDef 2 (F__law_of) (aCons (eVar 0) (aCons (eLst (aCons (eC (.int 0)) (aCons (eC (.int 1)) (aCons (eUn oNeg (eC (.int 1))) (aCons (eC (.int 2)) (aCons (eC (.int 9)) (aCons (eUn oNeg (eC (.int 9))) (aCons (eOp oSub (eDef 2 (F__law_take) (aCons (eVar 0) (aCons (eC (.int 19)) aNil))) (eC (.int 9))) aNil)))))))) aNil))
theorem worth_x {M : Mem} {h : Nat} {n : Int} {ρ : Ev} {J : Mem} {Q : W × Mem → Prop} (hρ : ρ[0]? = some (some (.obj h))) (hd : HandX M h n) (nb : n + 2 < 2 ^ 40)
    (k : ∀ v M' J', -9 ≤ v → v ≤ 9 → HandX M' h (n + 2) → Upd h M M' → Q (.d (.int v), M' ++ (J ++ J'))) : Ok (worthE ρ (M ++ J)) Q := by
  simp [hρ]
  refine (x_take (by decide) (by decide)).app hd (by omega) fun w M1 ⟨v, ev, v0, v1⟩ hd1 up1 => ?_
  subst ev
  simp [small_size]
  have l1 : M.length = M1.length := up1.1.symm
  have e : ([W.d (.int 0), .d (.int 1), .d (.int (-1)), .d (.int 2), .d (.int 9), .d (.int (-9)), .d (.int (v - 9))] : List W) = sixW (v - 9) := rfl
  rw [e]
  refine of_list hd1 (by omega) (by simp) (by simp) (by rfl) fun w M2 hw hd2 up2 => ?_
  obtain ⟨x, rfl, x0, x1⟩ : ∃ x, w = .d (.int x) ∧ -9 ≤ x ∧ x ≤ 9 := by
    simp only [sixW, List.mem_cons, List.not_mem_nil, or_false] at hw
    rcases hw with rfl | rfl | rfl | rfl | rfl | rfl | rfl <;> exact ⟨_, rfl, by omega, by omega⟩
  exact k x M2 _ x0 x1 (hd2.mono (by omega)) (up1.trans up2)
theorem worths_x {M : Mem} {h : Nat} {n : Int} {sorts : Nat} {Q : Mem → Prop} {ρ0 : Ev} (hρ : ρ0[0]? = some (some (.obj h))) (hd : HandX M h n) (hs : sorts ≤ 6) (nb : n + 12 < 2 ^ 40)
    (k : ∀ (ws : List Int) M' J, ws.length = sorts → (∀ w ∈ ws, -9 ≤ w ∧ w ≤ 9) → HandX M' h (n + 12) → Upd h M M' → Q (M' ++ .lst (ws.map fun i => .d (.int i)) :: J)) :
    Ok (lcL [] (gN 6) tTrue worthE ρ0 M.length ((List.range sorts).map fun (k : Nat) => .d (.int (k : Int))) (M ++ [.lst []])) Q := by
  have len : ((List.range sorts).map fun (k : Nat) => W.d (.int (k : Int))).length = sorts := by simp
  refine Ok.mono (lc_ok (items0 := (List.range sorts).map fun (k : Nat) => .d (.int (k : Int))) (fun j M' => ∃ (ws : List Int) (M1 J : Mem), M' = M1 ++ .lst (ws.map fun i => .d (.int i)) :: J ∧ ws.length = j ∧ (∀ w ∈ ws, -9 ≤ w ∧ w ≤ 9) ∧ HandX M1 h (n + 2 * j) ∧ Upd h M M1)
    (fun _ _ _ _ => by simp) (fun j w M' hw ⟨ws, M1, J, e, l, r, hd1, up1⟩ => ?_) _ 0 _ rfl (Nat.zero_le _) ⟨[], M, [], rfl, rfl, fun _ h => by simp at h, by simpa using hd, .refl⟩) fun M' ⟨ws, M1, J, e, l, r, hd1, up1⟩ => ?_
  · subst e
    have hj : j < sorts := by rw [← len]; exact (List.getElem?_eq_some_iff.mp hw).1
    have hv : (ρ0.set 6 (some w))[0]? = some (some (.obj h)) := by rw [List.getElem?_set_ne (by decide)]; exact hρ
    refine ⟨_, rfl, Ok.of rfl ?_⟩
    simp only [if_true]
    refine worth_x hv hd1 (by omega) fun x M2 J' x0 x1 hd2 up2 => ?_
    have l2 : M2.length = M.length := by rw [up2.1, up1.1]
    rw [← l2]
    refine ⟨_, by rw [get_new0]; rfl, ?_, ws ++ [x], M2, J ++ J', ?_, by simp [l], fun y hy => ?_, hd2.mono (by omega), up1.trans up2⟩
    · simp only [List.length_map, l]
      exact Nat.lt_of_lt_of_le (Nat.lt_of_lt_of_le hj hs) (by decide)
    · rw [set_new0]
      simp
    · rcases List.mem_append.mp hy with hy | hy
      · exact r y hy
      · rw [List.mem_singleton.mp hy]; exact ⟨x0, x1⟩
  · rw [len] at l hd1
    subst e
    exact k ws M1 J l r (hd1.mono (by omega)) up1
theorem x_simple {sorts : Nat} (h0 : 0 < sorts) (hs : sorts ≤ 6) : DrawsX F__law_simple (fun h => [.obj h, .d (.int sorts)]) 16 (fun w => ∃ S, w = .d (sD S) ∧ GoodS S sorts) := by
  intro M h n Q hd nb k
  have tn : ((sorts : Int)).toNat = sorts := by omega
  simp [F__law_simple, nf, fnV, g__law_simple, tn]
  refine take_x hd (by omega) (by decide) (by decide) fun way M1 w0 w1 hd1 up1 => ?_
  simp
  refine take_x hd1 (by omega) (by decide) (by decide) fun far M2 f0 f1 hd2 up2 => ?_
  simp [tn]
  refine ⟨.of (by omega) (by omega), worths_x rfl hd2 hs (by omega) fun ws M3 J wl wr hd3 up3 => ?_⟩
  have mk : mkTup (ws.map fun i => W.d (.int i)) = .d (wsD ws) := mkTup_of' .int ws
  have l1 : M2.length = M3.length := up3.1.symm
  have up := up1.trans (up2.trans up3)
  simp [l1]
  split
  · refine (x_take (by decide) (by decide)).app hd3 (by omega) fun w M4 ⟨m, em, m0, m1⟩ hd4 up4 => ?_
    subst em
    simp
    refine (x_take (by decide) (by decide)).app hd4 (by omega) fun w M5 ⟨r, er, r0, r1⟩ hd5 up5 => ?_
    subst er
    simp
    obtain ⟨x, hx, x0, x1⟩ : ∃ x : Int, atI [W.d (.int (m - 4)), .d (.int (r - 20)), .d (.int 20), .d (.int (-20))] far = some (.d (.int x)) ∧ -20 ≤ x ∧ x ≤ 20 := by
      have h : far = 0 ∨ far = 1 ∨ far = 2 ∨ far = 3 := by omega
      rcases h with z | z | z | z <;> rw [z]
      · exact ⟨_, atI0, by omega, by omega⟩
      · exact ⟨_, atI1, by omega, by omega⟩
      · exact ⟨_, atI2, by omega, by omega⟩
      · exact ⟨_, atI3, by omega, by omega⟩
    rw [hx]
    have hd6 : HandX M5 h (n + 16) := hd5.mono (by omega)
    have up := up.trans (up4.trans up5)
    simp [mk, small_size]
    rw [hd6.norm up rfl]
    exact k _ M5 ⟨.sum ws x, rfl, wl, wr, (fun _ _ z => by cases z; omega), (fun _ _ _ z => by cases z), hs⟩ hd6 up
  · refine (x_take (by decide) (by decide)).app hd3 (by omega) fun w M4 ⟨m, em, m0, m1⟩ hd4 up4 => ?_
    subst em
    simp
    refine (x_take (many := 2 + m) (by omega) (by omega)).app hd4 (by omega) fun w M5 ⟨r, er, r0, r1⟩ hd5 up5 => ?_
    subst er
    have hd6 : HandX M5 h (n + 16) := hd5.mono (by omega)
    have up := up.trans (up4.trans up5)
    simp [mk, small_size]
    rw [hd6.norm up rfl]
    exact k _ M5 ⟨.rest ws r (2 + m), rfl, wl, wr, (fun _ _ z => by cases z), (fun _ _ _ z => by cases z; omega), hs⟩ hd6 up
end Lx

set_option Elab.async false
set_option linter.all false
set_option maxRecDepth 100000
set_option maxHeartbeats 1000000
/-! LxB: the hand of a cell -/
namespace Lx
open PySem PySem.Spec PyProof.Rows L2 Sa Va Pg
open Lw (Upd GoodS norm_upd cm_left cm_right x_pow Upd.refl Upd.trans Upd.set Upd.split ix0 ix2 pow18 cell_ok)
theorem x_mulW {M : Mem} {p q : Int} (h : CMulW p q) : oMulW (.d (.int p)) (.d (.int q)) M = some (.d (.int (p * q)), M) := x_Ic h
noncomputable def hugeE : EvE := (eOp oMulW (eOp oMulW (eOp oMulW (eOp oPow (eC (.int 10)) (eC (.int 60))) (eOp oPow (eC (.int 10)) (eC (.int 60)))) (eOp oPow (eC (.int 10)) (eC (.int 60)))) (eOp oPow (eC (.int 10)) (eC (.int 60))))
theorem huge_ok : ∃ Z : Int, 0 < Z ∧ ∀ ρ M, hugeE ρ M = some (.d (.int Z), M) := by
  obtain ⟨T, t0, t1, ht⟩ : ∃ T : Int, 0 < T ∧ T.natAbs < 2 ^ 200 ∧ ∀ M, oPow (.d (.int 10)) (.d (.int 60)) M = some (.d (.int T), M) :=
    ⟨10 ^ 60, by decide, by decide, fun M => x_pow (p := 10) (q := 60) ⟨by decide, by decide, by decide⟩⟩
  have u1 : (T * T).natAbs < 2 ^ 400 := wide_lt t1 t1
  have u2 : (T * T * T).natAbs < 2 ^ 600 := wide_lt u1 t1
  have m1 : CMulW T T := wide_mul t1 t1 (by decide) (by decide) (by decide)
  have m2 : CMulW (T * T) T := wide_mul u1 t1 (by decide) (by decide) (by decide)
  have m3 : CMulW (T * T * T) T := wide_mul u2 t1 (by decide) (by decide) (by decide)
  exact ⟨T * T * T * T, Int.mul_pos (Int.mul_pos (Int.mul_pos t0 t0) t0) t0, fun ρ M => by simp [hugeE, ht, x_mulW, m1, m2, m3]⟩
noncomputable def cellE (ns : List Int) : EvE := (eIf (tVal (eOp oLt (eVar 1) (eCall (fLenS ns) (aCons (eVar 0) aNil)))) (eOp (oIxS ns) (eVar 0) (eVar 1)) (eC (.int 0)))
theorem g_hand_eq (ns : List Int) : g__law_hand ns = (sSeq (sSet 2 (cellE ns))
    (sSeq (sSet 3 (eOp oMul (eOp oMod (eCall fAbs (aCons (eVar 2) aNil)) hugeE) (eCall fInt (aCons (eOp oGe (eCall fAbs (aCons (eVar 2) aNil)) (eOp oPow (eC (.int 10)) (eC (.int 18)))) aNil))))
    (sRet (eLst (aCons (eVar 3) (aCons (eOp oAdd (eOp oAdd (eOp oMod (eVar 2) (eC (.int 2305843009213693951))) (eOp oMul (eC (.int 15485863)) (eVar 1))) (eC (.int 29))) (aCons (eC (.int 0)) aNil))))))) := rfl
theorem hand_x {ns : List Int} {M : Mem} {k : Int} {Q : W × Mem → Prop} (k0 : 0 ≤ k) (kb : k ≤ 1000)
    (q : ∀ a b, 0 ≤ a → 0 ≤ b → b < 2 ^ 62 → Q (.obj M.length, M ++ [.lst [.d (.int a), .d (.int b), .d (.int 0)]])) : Ok (F__law_hand ns [.scr, .d (.int k)] M) Q := by
  obtain ⟨Z, Z0, hz⟩ := huge_ok
  have cells : ∃ cell : Int, ∀ M, cellE ns [some .scr, some (.d (.int k)), none, none] M = some (.d (.int cell), M) := by
    by_cases hk : k < (ns.length : Int)
    · obtain ⟨v, hv⟩ := cell_ok k0 hk
      exact ⟨v, fun M => by simp [cellE, hk, hv]⟩
    · exact ⟨0, fun M => by simp [cellE, hk]⟩
  obtain ⟨cell, hc⟩ := cells
  have abs0 : 0 ≤ (if cell < 0 then -cell else cell) := by split <;> omega
  generalize hA : (if cell < 0 then -cell else cell) = A at abs0
  have m0 := Int.emod_nonneg A (Int.ne_of_gt Z0)
  have b0 := Int.emod_nonneg cell (b := 2305843009213693951) (by decide)
  have b1 := Int.emod_lt_of_pos cell (b := 2305843009213693951) (by decide)
  have c1 : ∀ x, CMul x 1 := fun x => cm_right (by decide)
  have c0 : ∀ x, CMul x 0 := fun x => cm_right (by decide)
  have ck : CMul 15485863 k := cm_left (by decide)
  have nm := fun a b : Int => norm_l (M := M) (M1 := M) (j := 0) (us := [.d (.int a), .d (.int b), .d (.int 0)]) (J := [.lst [.d (.int a), .d (.int b), .d (.int 0)]]) rfl rfl .refl
  simp only [Nat.add_zero] at nm
  generalize hB : cell % 2305843009213693951 = B at b0 b1
  by_cases hb : 1000000000000000000 ≤ A
  · have := q (A % Z) (B + 15485863 * k + 29) m0 (by omega) (by omega)
    simp [F__law_hand, nf, fnV, g_hand_eq, hc, hA, hB, hz, x_mod, Z0, pow18, hb, c1, x_mul, ck, small_size, nm]
    exact this
  · have := q 0 (B + 15485863 * k + 29) (by decide) (by omega) (by omega)
    simp [F__law_hand, nf, fnV, g_hand_eq, hc, hA, hB, hz, x_mod, Z0, pow18, hb, c0, x_mul, ck, small_size, nm]
    exact this
end Lx

set_option Elab.async false
set_option linter.all false
set_option maxRecDepth 100000
set_option maxHeartbeats 1000000
/-! Ma3: reckoning with generator expressions -/
namespace Va
open PySem PySem.Spec PyProof.Rows L2 Sa
/-- what is wanted behind the first of two statements: the second one is looked at later -/
def thenQ (b : EvS) (Q : Out → Prop) : Out → Prop
  | .nx ρ M => Ok (b ρ M) Q
  | o => Q o
theorem ok_seq {a b : EvS} {ρ : Ev} {M : Mem} {Q : Out → Prop} : Ok (sSeq a b ρ M) Q ↔ Ok (a ρ M) (thenQ b Q) := by
  have e : sSeq a b ρ M = (a ρ M).bind fun o => match o with | .nx ρ M => b ρ M | o => some o := rfl
  rw [e, ok_bind]
  constructor
  · rintro ⟨x, h1, h2⟩
    refine ⟨x, h1, ?_⟩
    cases x <;> simpa [thenQ] using h2
  · rintro ⟨x, h1, h2⟩
    refine ⟨x, h1, ?_⟩
    cases x <;> simpa [thenQ] using h2
theorem thenQ_nx {b : EvS} {Q : Out → Prop} {ρ : Ev} {M : Mem} : thenQ b Q (.nx ρ M) = Ok (b ρ M) Q := rfl
section
variable {deps : List (Nat × MO)} {g : EvG} {t : EvT} {e : EvE} {ρ0 : Ev} {M : Mem} {τ : Type}
theorem gx_map (inj f : τ → W) (hd : Deps deps M) : ∀ (xs : List τ) (acc : List W), acc.length + xs.length ≤ 1000000 → (∀ x ∈ xs, ∃ ρ1, g (inj x) ρ0 = some ρ1 ∧ t ρ1 M = some (true, M) ∧ e ρ1 M = some (f x, M)) →
    gxL deps g t e ρ0 (xs.map inj) acc M = some (acc ++ xs.map f, M)
  | [], acc, _, _ => by simp [gxL, hd]
  | x :: xs, acc, small, turn => by
    obtain ⟨ρ1, h1, h2, h3⟩ := turn x List.mem_cons_self
    have fits : acc.length < sizeLine := Nat.lt_of_lt_of_le (by simp at small; omega : acc.length < 1000001) (by decide)
    have ih := gx_map inj f hd xs (acc ++ [f x]) (by simp at small ⊢; omega) fun y hy => turn y (List.mem_cons_of_mem _ hy)
    simp [gxL, hd, h1, h2, h3, fits, ih]
theorem gs_map (inj : τ → W) (p : τ → Bool) (f : τ → Int) (hd : Deps deps M) : ∀ (xs : List τ) (n : Nat) (acc : Int), xs.length ≤ n → (∀ x ∈ xs, ∃ ρ1, g (inj x) ρ0 = some ρ1 ∧ t ρ1 M = some (p x, M) ∧ (p x = true → e ρ1 M = some (.d (.int (f x)), M))) →
    gsL deps g t e ρ0 n acc (xs.map inj) M = some (acc + ((xs.filter p).map f).sum, M)
  | [], n, acc, _, _ => by cases n <;> simp [gsL, hd]
  | x :: xs, n, acc, small, turn => by
    obtain ⟨ρ1, h1, h2, h3⟩ := turn x List.mem_cons_self
    obtain ⟨n, rfl⟩ : ∃ k, n = k + 1 := ⟨n - 1, by simp at small; omega⟩
    cases hp : p x with
    | true =>
      rw [hp] at h2
      have ih := gs_map inj p f hd xs n (acc + f x) (by simp at small; omega) fun y hy => turn y (List.mem_cons_of_mem _ hy)
      simp [gsL, hd, h1, h2, h3 hp, asN, ih, hp, Int.add_assoc]
    | false =>
      rw [hp] at h2
      have ih := gs_map inj p f hd xs (n + 1) acc (by simp at small; omega) fun y hy => turn y (List.mem_cons_of_mem _ hy)
      simp [gsL, hd, h1, h2, ih, hp]
theorem ga_all (inj : τ → W) (p : τ → Bool) (hd : Deps deps M) : ∀ (xs : List τ) (n : Nat), xs.length ≤ n → (∀ x ∈ xs, ∃ ρ1, g (inj x) ρ0 = some ρ1 ∧ t ρ1 M = some (true, M) ∧ e ρ1 M = some (.d (.bool (p x)), M)) →
    gaL true deps g t e ρ0 n (xs.map inj) M = some (xs.all p, M)
  | [], n, _, _ => by cases n <;> simp [gaL, hd]
  | x :: xs, n, small, turn => by
    obtain ⟨ρ1, h1, h2, h3⟩ := turn x List.mem_cons_self
    obtain ⟨n, rfl⟩ : ∃ k, n = k + 1 := ⟨n - 1, by simp at small; omega⟩
    have ih := ga_all inj p hd xs n (by simp at small; omega) fun y hy => turn y (List.mem_cons_of_mem _ hy)
    cases hp : p x <;> simp [gaL, hd, h1, h2, h3, ih, hp]
theorem ga_any (inj : τ → W) (p : τ → Bool) (hd : Deps deps M) : ∀ (xs : List τ) (n : Nat), xs.length ≤ n → (∀ x ∈ xs, ∃ ρ1, g (inj x) ρ0 = some ρ1 ∧ t ρ1 M = some (true, M) ∧ e ρ1 M = some (.d (.bool (p x)), M)) →
    gaL false deps g t e ρ0 n (xs.map inj) M = some (xs.any p, M)
  | [], n, _, _ => by cases n <;> simp [gaL, hd]
  | x :: xs, n, small, turn => by
    obtain ⟨ρ1, h1, h2, h3⟩ := turn x List.mem_cons_self
    obtain ⟨n, rfl⟩ : ∃ k, n = k + 1 := ⟨n - 1, by simp at small; omega⟩
    have ih := ga_any inj p hd xs n (by simp at small; omega) fun y hy => turn y (List.mem_cons_of_mem _ hy)
    cases hp : p x <;> simp [gaL, hd, h1, h2, h3, ih, hp]
end
end Va

set_option Elab.async false
set_option linter.all false
set_option maxRecDepth 100000
set_option maxHeartbeats 1000000
/-! Tm: data that can be shown: how deep, how heavy -/
namespace Va
open PySem PySem.Spec PyProof.Rows L2 Sa
structure Tame (d : PyData) (D N : Nat) : Prop where
  sh : d.showable = true
  lay : d.canLay0 = true
  dp : d.depth ≤ D
  wt : d.weight ≤ N
  sm : d.intsShort 13 = true
theorem Tame.mono {d : PyData} {D N D' N' : Nat} (t : Tame d D N) (h1 : D ≤ D') (h2 : N ≤ N') : Tame d D' N' := ⟨t.sh, t.lay, Nat.le_trans t.dp h1, Nat.le_trans t.wt h2, t.sm⟩
theorem small_all : ∀ k : Fin 201, PyData.weight (.int ((k.val : Int) - 100)) ≤ 50 ∧ ((k.val : Int) - 100).natAbs.log2 < 1920 := by decide +kernel
theorem Tame.int {i : Int} (h0 : -100 ≤ i) (h1 : i ≤ 100) : Tame (.int i) 0 50 := by
  have q := small_all ⟨(i + 100).toNat, by omega⟩
  have e : (((i + 100).toNat : Nat) : Int) - 100 = i := by omega
  dsimp only at q
  rw [e] at q
  refine ⟨?_, rfl, Nat.le_refl _, q.1, ?_⟩
  · show decide (i.natAbs.log2 < 1920) = true
    exact decide_eq_true q.2
  · show decide ((PyData.shown (.int i)).length ≤ 13) = true
    exact decide_eq_true (PyData.shown_int_le2 (by omega) (by omega))
theorem Tame.bool (b : Bool) : Tame (.bool b) 0 50 := ⟨rfl, rfl, Nat.le_refl _, by cases b <;> decide +kernel, rfl⟩
theorem Tame.none : Tame .none 0 50 := ⟨rfl, rfl, Nat.le_refl _, by decide +kernel, rfl⟩
theorem Tame.tuple {D N : Nat} : ∀ {ds : List PyData}, (∀ d ∈ ds, Tame d D N) → Tame (.tuple ds) (D + 1) (ds.length * (N + 1))
  | [], _ => ⟨rfl, rfl, by simp [PyData.depth, PyData.depthAll], by simp [PyData.weight, PyData.weightAll], rfl⟩
  | d :: ds, h => by
    have t := h d List.mem_cons_self
    have r := Tame.tuple (ds := ds) fun x hx => h x (List.mem_cons_of_mem _ hx)
    refine ⟨?_, ?_, ?_, ?_, ?_⟩
    · have := r.sh
      simp only [PyData.showable, PyData.showableAll, Bool.and_eq_true] at this ⊢
      exact ⟨t.sh, this⟩
    · have := r.lay
      simp only [PyData.canLay0, PyData.canLayAll0, Bool.and_eq_true] at this ⊢
      exact ⟨t.lay, this⟩
    · have := r.dp
      have := t.dp
      simp only [PyData.depth, PyData.depthAll] at *
      omega
    · have h1 := r.wt
      have h2 := t.wt
      simp only [PyData.weight, PyData.weightAll, List.length_cons] at *
      rw [Nat.succ_mul]
      omega
    · have := r.sm
      simp only [PyData.intsShort, PyData.intsShortAll, Bool.and_eq_true] at this ⊢
      exact ⟨t.sm, this⟩
theorem Tame.cons {D N D' N' : Nat} {d : PyData} {ds : List PyData} (t : Tame d D N) (r : Tame (.tuple ds) D' N') : Tame (.tuple (d :: ds)) (max (D + 1) D') (N + 1 + N') := by
  refine ⟨?_, ?_, ?_, ?_, ?_⟩
  · have := r.sh
    simp only [PyData.showable, PyData.showableAll, Bool.and_eq_true] at this ⊢
    exact ⟨t.sh, this⟩
  · have := r.lay
    simp only [PyData.canLay0, PyData.canLayAll0, Bool.and_eq_true] at this ⊢
    exact ⟨t.lay, this⟩
  · have := r.dp
    have := t.dp
    simp only [PyData.depth, PyData.depthAll] at *
    omega
  · have h1 := r.wt
    have h2 := t.wt
    simp only [PyData.weight, PyData.weightAll] at *
    omega
  · have := r.sm
    simp only [PyData.intsShort, PyData.intsShortAll, Bool.and_eq_true] at this ⊢
    exact ⟨t.sm, this⟩
theorem Tame.nil : Tame (.tuple []) 1 0 := ⟨rfl, rfl, by simp [PyData.depth, PyData.depthAll], by simp [PyData.weight, PyData.weightAll], rfl⟩
theorem Tame.repr {ds : List PyData} {D N : Nat} {M : Mem} (t : Tame (.tuple ds) D N) (hD : D ≤ 60) (hN : N ≤ 1048576) : fRepr [.d (.tuple ds)] M = some (.d (.str (PyData.tuple ds).shown), M) := by
  have nd : (PyData.tuple ds).hasDict = false := PyData.hasDict_of_canLay _ t.lay
  have sz : (PyData.tuple ds).shown.length ≤ sizeLine := by
    refine Nat.le_trans (shown_le13 ?_ t.sm) (by decide)
    unfold PyData.layable0
    rw [t.lay, decide_eq_true (show (PyData.tuple ds).depth ≤ 64 from Nat.le_trans t.dp (by omega)), decide_eq_true (show (PyData.tuple ds).weight ≤ 2 ^ 20 from Nat.le_trans t.wt (Nat.le_trans hN (by decide)))]
    rfl
  unfold fRepr
  simp only
  rw [if_pos ⟨t.sh, nd, Nat.le_trans t.dp hD, sz⟩]
end Va
namespace Pg
open PySem PySem.Spec PyProof.Rows L2 Sa Va
theorem tame_member : Tame (.str "member") 0 50 := ⟨rfl, by decide +kernel, Nat.le_refl _, by decide +kernel, rfl⟩
theorem tame_note : Tame (.str "note") 0 50 := ⟨rfl, by decide +kernel, Nat.le_refl _, by decide +kernel, rfl⟩
theorem tame_hold {h : Hold} (h0 : -100 ≤ h.number) (h1 : h.number ≤ 100) : Tame (hD h) 1 153 := (Tame.bool h.leads |>.cons ((Tame.int h0 h1).cons ((Tame.bool h.word).cons .nil))).mono (by decide) (by decide)
theorem tame_nh {h : Bool × Int} (h0 : -100 ≤ h.2) (h1 : h.2 ≤ 100) : Tame (nD h) 1 153 := (Tame.bool h.1 |>.cons ((Tame.int h0 h1).cons .nil)).mono (by decide) (by decide)
/-- a state that can be shown -/
def ShownS : State → Prop
  | .mem i xs => (-100 ≤ i ∧ i ≤ 100) ∧ xs.length ≤ 10 ∧ ∀ x ∈ xs, -100 ≤ x.number ∧ x.number ≤ 100
  | .note ns => ns.length ≤ 10 ∧ ∀ x ∈ ns, -100 ≤ x.2 ∧ x.2 ≤ 100
theorem tame_state {s : State} (h : ShownS s) : Tame (stD s) 3 3000 := by
  cases s with
  | mem i xs =>
    obtain ⟨hi, hl, hx⟩ := h
    have t : Tame (.tuple (xs.map hD)) 2 1540 := (Tame.tuple (D := 1) (N := 153) fun d hd => by
      obtain ⟨x, mx, rfl⟩ := List.mem_map.mp hd
      exact tame_hold (hx x mx).1 (hx x mx).2).mono (by decide) (by rw [List.length_map]; omega)
    exact (tame_member.cons ((Tame.int hi.1 hi.2).cons (t.cons .nil))).mono (by decide) (by decide)
  | note ns =>
    obtain ⟨hl, hx⟩ := h
    have t : Tame (.tuple (ns.map nD)) 2 1540 := (Tame.tuple (D := 1) (N := 153) fun d hd => by
      obtain ⟨x, mx, rfl⟩ := List.mem_map.mp hd
      exact tame_nh (hx x mx).1 (hx x mx).2).mono (by decide) (by rw [List.length_map]; omega)
    exact (tame_note.cons (t.cons .nil)).mono (by decide) (by decide)
def ShownO : Option State → Prop
  | none => True
  | some s => ShownS s
theorem tame_o {o : Option State} (h : ShownO o) : Tame (oD o) 3 3000 := by
  cases o with
  | none => exact Tame.none.mono (by decide) (by decide)
  | some s => exact tame_state h
theorem tame_pair {p : Option State × Option State} (h1 : ShownO p.1) (h2 : ShownO p.2) : Tame (pairD p) 4 6002 := ((tame_o h1).cons ((tame_o h2).cons .nil)).mono (by decide) (by decide)
end Pg

set_option Elab.async false
set_option linter.all false
set_option maxRecDepth 100000
set_option maxHeartbeats 1000000
/-! Tm2: data that can be shown, numbers of any size: how deep, how long -/
namespace Va
open PySem PySem.Spec PyProof.Rows L2 Sa
/-- it can be shown: D deep, L signs long at most -/
structure Shw (d : PyData) (D L : Nat) : Prop where
  sh : d.showable = true
  lay : d.canLay0 = true
  dp : d.depth ≤ D
  ln : d.shown.length ≤ L
structure ShwA (ds : List PyData) (D L : Nat) : Prop where
  sh : PyData.showableAll ds = true
  lay : PyData.canLayAll0 ds = true
  dp : PyData.depthAll ds ≤ D
  ln : piled (PyData.shownAll ds) ≤ L
theorem Shw.mono {d : PyData} {D L D' L' : Nat} (t : Shw d D L) (h1 : D ≤ D') (h2 : L ≤ L') : Shw d D' L' := ⟨t.sh, t.lay, Nat.le_trans t.dp h1, Nat.le_trans t.ln h2⟩
theorem ShwA.mono {d : List PyData} {D L D' L' : Nat} (t : ShwA d D L) (h1 : D ≤ D') (h2 : L ≤ L') : ShwA d D' L' := ⟨t.sh, t.lay, Nat.le_trans t.dp h1, Nat.le_trans t.ln h2⟩
theorem Shw.int {i : Int} (k : Nat) (hk : 0 < k) (k5 : k ≤ 500) (h : i.natAbs < 10 ^ k) : Shw (.int i) 0 (k + 1) := by
  have lg : i.natAbs.log2 < 1920 := by
    have : i.natAbs < 2 ^ (1919 + 1) := Nat.lt_of_lt_of_le h (Nat.le_trans (Nat.pow_le_pow_right (by decide) k5) (by decide +kernel))
    by_cases z : i.natAbs = 0
    · rw [z]; decide
    · exact Nat.lt_of_not_le fun q => absurd this (Nat.not_lt.mpr (Nat.le_trans (Nat.pow_le_pow_right (by decide) q) (Nat.log2_self_le z)))
  refine ⟨?_, rfl, Nat.le_refl _, ?_⟩
  · show decide (i.natAbs.log2 < 1920) = true
    exact decide_eq_true lg
  · show (Str.ofString (toString i)).length ≤ k + 1
    rw [PySem.ofString_length]
    exact int_text_length_le10 hk h
theorem Shw.bool (b : Bool) : Shw (.bool b) 0 5 := ⟨rfl, rfl, Nat.le_refl _, by cases b <;> decide +kernel⟩
theorem Shw.none : Shw .none 0 4 := ⟨rfl, rfl, Nat.le_refl _, by decide +kernel⟩
theorem ShwA.nil : ShwA [] 0 0 := ⟨rfl, rfl, Nat.le_refl _, Nat.le_refl _⟩
theorem ShwA.cons {D L : Nat} {d : PyData} {ds : List PyData} {D' L' : Nat} (t : Shw d D' L') (r : ShwA ds D L) : ShwA (d :: ds) (max D' D) (L' + 2 + L) := by
  refine ⟨?_, ?_, ?_, ?_⟩
  · simp only [PyData.showableAll, t.sh, r.sh, Bool.and_true]
  · simp only [PyData.canLayAll0, t.lay, r.lay, Bool.and_true]
  · simp only [PyData.depthAll]
    have := t.dp; have := r.dp
    omega
  · simp only [PyData.shownAll, piled_cons]
    have := t.ln; have := r.ln
    omega
theorem ShwA.all {D L : Nat} : ∀ {ds : List PyData}, (∀ d ∈ ds, Shw d D L) → ShwA ds D (ds.length * (L + 2))
  | [], _ => ⟨rfl, rfl, Nat.zero_le _, Nat.zero_le _⟩
  | d :: ds, h => by
    have r := ShwA.all (ds := ds) fun x hx => h x (List.mem_cons_of_mem _ hx)
    exact (r.cons (h d List.mem_cons_self)).mono (by omega) (by simp only [List.length_cons, Nat.add_mul]; omega)
theorem tupleText_len (ts : List Str) : (tupleText ts).length ≤ piled ts + 3 := by
  unfold tupleText
  rw [strLen_append, strLen_append]
  have e1 : (Str.ofString "(").length = 1 := rfl
  have e2 : ((if ts.length == 1 then ",)" else ")" : String) : Str).length ≤ 2 := by split <;> decide +kernel
  cases ts with
  | nil => simp only [e1]; show 1 + (Str.join ", " []).length + _ ≤ _; have : (Str.join ", " []).length = 0 := rfl; omega
  | cons t ts =>
    have := join_length_add (t :: ts) (by simp)
    omega
theorem Shw.tup {ds : List PyData} {D L : Nat} (r : ShwA ds D L) : Shw (.tuple ds) (D + 1) (L + 3) := by
  refine ⟨?_, ?_, ?_, ?_⟩
  · simp only [PyData.showable]; exact r.sh
  · simp only [PyData.canLay0]; exact r.lay
  · simp only [PyData.depth]; have := r.dp; omega
  · simp only [PyData.shown]
    have := tupleText_len (PyData.shownAll ds)
    have := r.ln
    omega
theorem Shw.show {d : PyData} {D L : Nat} (t : Shw d D L) (hD : D ≤ 60) (hL : L ≤ 16777216) (ns : ∀ x, d ≠ .str x) : ShowOk d := by
  have nd : d.hasDict = false := PyData.hasDict_of_canLay _ t.lay
  have r : d.showable = true ∧ d.hasDict = false ∧ d.depth ≤ 60 ∧ d.shown.length ≤ sizeLine := ⟨t.sh, nd, Nat.le_trans t.dp hD, Nat.le_trans t.ln hL⟩
  cases d with
  | int i => have := t.sh; simpa [PyData.showable, ShowOk] using this
  | str x => exact absurd rfl (ns x)
  | bool b => trivial
  | none => trivial
  | tuple ds => exact r
  | list ds => exact r
  | dict ds => exact r
/-- repr of it -/
theorem Shw.rep {d : PyData} {D L : Nat} {M : Mem} (t : Shw d D L) (hD : D ≤ 60) (hL : L ≤ 16777216) (ns : ∀ x, d ≠ .str x) : fRep [.d d] M = some (.d (.str d.shown), M) := by
  unfold fRep
  simp only [deepD, Option.bind_some]
  rw [if_pos (t.show hD hL ns)]
theorem Shw.shaped {d : PyData} {D L : Nat} (t : Shw d D L) (h : D ≤ 64) : SeqAt.shaped d = true := by
  unfold SeqAt.shaped
  rw [t.lay, Bool.true_and, decide_eq_true_eq]
  exact Nat.le_trans t.dp h
end Va
namespace Pg
open PySem PySem.Spec PyProof.Rows L2 Sa Va
theorem shw_member : Shw (.str "member") 0 8 := ⟨rfl, by decide +kernel, Nat.le_refl _, by decide +kernel⟩
theorem shw_note : Shw (.str "note") 0 8 := ⟨rfl, by decide +kernel, Nat.le_refl _, by decide +kernel⟩
theorem shw_small {i : Int} (h0 : -100 ≤ i) (h1 : i ≤ 100) : Shw (.int i) 0 4 := .int 3 (by decide) (by decide) (by omega)
theorem shw_hold {h : Hold} (h0 : -100 ≤ h.number) (h1 : h.number ≤ 100) : Shw (hD h) 1 23 := (Shw.tup (ShwA.nil.cons (Shw.bool h.word) |>.cons (shw_small h0 h1) |>.cons (Shw.bool h.leads))).mono (by decide) (by decide)
theorem shw_nh {h : Bool × Int} (h0 : -100 ≤ h.2) (h1 : h.2 ≤ 100) : Shw (nD h) 1 23 := (Shw.tup (ShwA.nil.cons (shw_small h0 h1) |>.cons (Shw.bool h.1))).mono (by decide) (by decide)
theorem shw_state {s : State} (h : ShownS s) : Shw (stD s) 3 300 := by
  cases s with
  | mem i xs =>
    obtain ⟨hi, hl, hx⟩ := h
    have r : ShwA (xs.map hD) 1 250 := (ShwA.all fun d hd => by
      obtain ⟨x, mx, rfl⟩ := List.mem_map.mp hd
      exact shw_hold (hx x mx).1 (hx x mx).2).mono (Nat.le_refl _) (by simp; omega)
    exact (Shw.tup ((ShwA.nil.cons (Shw.tup r)).cons (shw_small hi.1 hi.2) |>.cons shw_member)).mono (by decide) (by decide)
  | note ns =>
    obtain ⟨hl, hx⟩ := h
    have r : ShwA (ns.map nD) 1 250 := (ShwA.all fun d hd => by
      obtain ⟨x, mx, rfl⟩ := List.mem_map.mp hd
      exact shw_nh (hx x mx).1 (hx x mx).2).mono (Nat.le_refl _) (by simp; omega)
    exact (Shw.tup ((ShwA.nil.cons (Shw.tup r)).cons shw_note)).mono (by decide) (by decide)
end Pg

set_option Elab.async false
set_option linter.all false
set_option maxRecDepth 100000
set_option maxHeartbeats 1000000
/-! Ma4: lists of numbers; comprehensions that choose, over lists -/
namespace Va
open PySem PySem.Spec PyProof.Rows L2 Sa
abbrev inW (is : List Int) : List W := is.map fun i => .d (.int i)
theorem lc_selD {τ : Type} {deps : List (Nat × MO)} {g : EvG} {t : EvT} {e : EvE} {ρ0 : Ev} {M : Mem} (inj f : τ → W) (p : τ → Bool) (hd : ∀ acc, Deps deps (M ++ [.lst acc])) : ∀ (xs : List τ) (acc : List W), acc.length + xs.length ≤ 1000000 → (∀ x ∈ xs, ∃ ρ1, g (inj x) ρ0 = some ρ1 ∧ ∀ acc, t ρ1 (M ++ [.lst acc]) = some (p x, M ++ [.lst acc]) ∧ (p x = true → e ρ1 (M ++ [.lst acc]) = some (f x, M ++ [.lst acc]))) →
    lcL deps g t e ρ0 M.length (xs.map inj) (M ++ [.lst acc]) = some (M ++ [.lst (acc ++ (xs.filter p).map f)])
  | [], acc, _, _ => by simp [lcL, hd]
  | x :: xs, acc, small, turn => by
    obtain ⟨ρ1, h1, h2⟩ := turn x List.mem_cons_self
    have fits : acc.length < sizeLine := Nat.lt_of_lt_of_le (by simp at small; omega : acc.length < 1000001) (by decide)
    cases hp : p x with
    | true =>
      have h3 := fun acc => (h2 acc).2 hp
      have h4 := fun acc => (h2 acc).1
      have ih := lc_selD inj f p hd xs (acc ++ [f x]) (by simp at small ⊢; omega) fun y hy => turn y (List.mem_cons_of_mem _ hy)
      simp [lcL, hd, h1, h3, h4, hp, fits, ih]
    | false =>
      have h4 := fun acc => (h2 acc).1
      have ih := lc_selD inj f p hd xs acc (by simp at small; omega) fun y hy => turn y (List.mem_cons_of_mem _ hy)
      simp [lcL, hd, h1, h4, hp, ih]
theorem deepAll_data (M : Mem) : ∀ (n : Nat) (ds : List PyData), deepAll M n (ds.map W.d) = some ds
  | n, [] => by simp [deepAll]
  | n, d :: ds => by
    have : deepD M n (.d d) = some d := by cases n <;> simp [deepD]
    simp [deepAll, this, deepAll_data M n ds]
theorem deepD_lst {M : Mem} {i : Nat} {ds : List PyData} (h : M[i]? = some (.lst (ds.map W.d))) : deepD M 3 (.obj i) = some (.list ds) := by
  simp [deepD, h, deepAll_data]
theorem neL_nil {M : Mem} {i j : Nat} {ds : List PyData} (hi : M[i]? = some (.lst (ds.map W.d))) (hj : M[j]? = some (.lst [])) (sh : SeqAt.shaped (.list ds) = true) : oNeL (.obj i) (.obj j) M = some (.d (.bool (!ds.isEmpty)), M) := by
  have e2 : deepD M 3 (.obj j) = some (.list []) := deepD_lst (ds := []) hj
  have s2 : SeqAt.shaped (.list []) = true := by decide +kernel
  simp only [oNeL, eqL, deepD_lst hi, e2, Option.bind_some, sh, s2, Bool.and_self, if_true]
  cases ds with
  | nil => simp [PyData.eqv, PyData.eqvAll]
  | cons d ds => simp [PyData.eqv, PyData.eqvAll]
theorem eqL_nil {M : Mem} {i j : Nat} {ds : List PyData} (hi : M[i]? = some (.lst (ds.map W.d))) (hj : M[j]? = some (.lst [])) (sh : SeqAt.shaped (.list ds) = true) : oEqL (.obj i) (.obj j) M = some (.d (.bool ds.isEmpty), M) := by
  have e2 : deepD M 3 (.obj j) = some (.list []) := deepD_lst (ds := []) hj
  have s2 : SeqAt.shaped (.list []) = true := by decide +kernel
  simp only [oEqL, eqL, deepD_lst hi, e2, Option.bind_some, sh, s2, Bool.and_self, if_true]
  cases ds with
  | nil => simp [PyData.eqv, PyData.eqvAll]
  | cons d ds => simp [PyData.eqv, PyData.eqvAll]
theorem shaped_list {ds : List PyData} {D : Nat} (h : ∀ d ∈ ds, d.canLay0 = true ∧ d.depth ≤ D) (hD : D ≤ 60) : SeqAt.shaped (.list ds) = true := by
  have a : PyData.canLayAll0 ds = true := by
    induction ds with
    | nil => rfl
    | cons d ds ih => simp only [PyData.canLayAll0, (h d List.mem_cons_self).1, ih fun x hx => h x (List.mem_cons_of_mem _ hx), Bool.and_self]
  have b : PyData.depthAll ds ≤ D := by
    clear a
    induction ds with
    | nil => exact Nat.zero_le _
    | cons d ds ih =>
      simp only [PyData.depthAll]
      have := (h d List.mem_cons_self).2
      have := ih fun x hx => h x (List.mem_cons_of_mem _ hx)
      omega
  unfold SeqAt.shaped
  refine Bool.and_eq_true_iff.mpr ⟨a, decide_eq_true ?_⟩
  have e : (PyData.list ds).depth = PyData.depthAll ds + 1 := by simp only [PyData.depth]
  omega
theorem shaped_ints (is : List Int) : SeqAt.shaped (.list (is.map .int)) = true := shaped_list (D := 0) (fun d hd => by
  obtain ⟨i, _, rfl⟩ := List.mem_map.mp hd
  exact ⟨rfl, Nat.le_refl _⟩) (by decide)
theorem inW_data (is : List Int) : inW is = (is.map PyData.int).map W.d := by simp [inW]
/-- a loop that changes names alone -/
theorem for_pure {τ : Type} {deps : List (Nat × MO)} {g : EvG} {B : EvS} {M : Mem} (inj : τ → W) (I : Ev → Prop) (hd : Deps deps M) : ∀ (xs : List τ) (ρ : Ev), I ρ → (∀ x ∈ xs, ∀ ρ, I ρ → ∃ ρ1 ρ2, g (inj x) ρ = some ρ1 ∧ B ρ1 M = some (.nx ρ2 M) ∧ I ρ2) →
    ∃ ρ', I ρ' ∧ forL deps g B (xs.map inj) ρ M = some (.nx ρ' M)
  | [], ρ, h, _ => ⟨ρ, h, by simp [forL, hd]⟩
  | x :: xs, ρ, h, turn => by
    obtain ⟨ρ1, ρ2, e1, e2, h2⟩ := turn x List.mem_cons_self ρ h
    obtain ⟨ρ', h', e⟩ := for_pure inj I hd xs ρ2 h2 fun y hy => turn y (List.mem_cons_of_mem _ hy)
    exact ⟨ρ', h', by simp [forL, hd, e1, e2, e]⟩
theorem ne_same (X : Str) {M : Mem} : oNe (.d (.str X)) (.d (.str X)) M = some (.d (.bool false), M) := by simp
theorem rep_int {M : Mem} {i : Int} (h : i.natAbs < 10 ^ 60) : fRep [.d (.int i)] M = some (.d (.str (PyData.int i).shown), M) := (Shw.int (i := i) 60 (by decide) (by decide) h).rep (by decide) (by decide) fun x z => by cases z
theorem rep_bool {M : Mem} (b : Bool) : fRep [.d (.bool b)] M = some (.d (.str (PyData.bool b).shown), M) := (Shw.bool b).rep (by decide) (by decide) fun x z => by cases z
@[simp] theorem x_isB {p q : Bool} {M : Mem} : oIsB (.d (.bool p)) (.d (.bool q)) M = some (.d (.bool (decide (p = q))), M) := rfl
@[simp] theorem x_notB {p q : Bool} {M : Mem} : oNotB (.d (.bool p)) (.d (.bool q)) M = some (.d (.bool (!decide (p = q))), M) := rfl
theorem listRg_eq {a b : EvE} {ρ : Ev} {M : Mem} {i j : Int} (ha : a ρ M = some (.d (.int i), M)) (hb : b ρ M = some (.d (.int j), M)) (r1 : InR i) (r2 : InR j) (r3 : (j - i).toNat ≤ 1000000) : eListRg a b ρ M = some (.obj M.length, M ++ [.lst (inW ((List.range (j - i).toNat).map fun (k : Nat) => i + (k : Int)))]) := by
  simp only [eListRg, ha, hb, Option.bind_some, asI]
  rw [if_pos ⟨r1, r2, r3⟩]
  simp [rgW, inW, Function.comp_def]
theorem Deps.app {deps : List (Nat × MO)} {M J : Mem} (h : Deps deps M) : Deps deps (M ++ J) := fun p hp => get_old (h p hp)
/-- a loop that changes names, and makes things -/
theorem for_grow {τ σ : Type} {deps : List (Nat × MO)} {g : EvG} {B : EvS} (inj : τ → W) (st : σ → Ev → Prop) (step : σ → τ → σ) : ∀ (xs : List τ) (s : σ) (ρ : Ev) (M : Mem), Deps deps M → st s ρ →
    (∀ x ∈ xs, ∀ s ρ M, Deps deps M → st s ρ → ∃ ρ1 ρ2 J, g (inj x) ρ = some ρ1 ∧ B ρ1 M = some (.nx ρ2 (M ++ J)) ∧ st (step s x) ρ2) →
    ∃ ρ' J, st (xs.foldl step s) ρ' ∧ forL deps g B (xs.map inj) ρ M = some (.nx ρ' (M ++ J))
  | [], s, ρ, M, hd, h, _ => ⟨ρ, [], h, by simp [forL, hd]⟩
  | x :: xs, s, ρ, M, hd, h, turn => by
    obtain ⟨ρ1, ρ2, J, e1, e2, h2⟩ := turn x List.mem_cons_self s ρ M hd h
    obtain ⟨ρ', J2, h', e⟩ := for_grow inj st step xs (step s x) ρ2 (M ++ J) hd.app h2 fun y hy => turn y (List.mem_cons_of_mem _ hy)
    refine ⟨ρ', J ++ J2, h', ?_⟩
    rw [List.append_assoc] at e
    simp [forL, hd, e1, e2, e]
theorem fold_range (w : Int) : ∀ (m : Nat) (x : Int), (List.range m).foldl (fun s _ => s + w) x = x + w * m
  | 0, x => by simp
  | m + 1, x => by
    rw [List.range_succ, List.foldl_append, fold_range w m x]
    simp only [List.foldl_cons, List.foldl_nil]
    rw [Int.natCast_add, Int.mul_add]
    simp [Int.add_assoc]
end Va

set_option Elab.async false
set_option linter.all false
set_option maxRecDepth 100000
set_option maxHeartbeats 1000000
/-! LxC: many draws in a row -/
namespace Lx
open PySem PySem.Spec PyProof.Rows L2 Sa Va Pg
open Lw (Upd Upd.refl Upd.trans Upd.set Upd.split)
theorem draws_x {M : Mem} {h : Nat} {n many : Int} {sorts i : Nat} {E : EvE} {Q : Mem → Prop} {ρ0 : Ev} (hE : ∀ w M, E (ρ0.set i (some w)) M = F__law_take [.obj h, .d (.int many)] M) (mp : 0 < many) (mb : many < 2 ^ 128) (hd : HandX M h n) (hs : sorts ≤ 1000) (nb : n + sorts < 2 ^ 40)
    (k : ∀ (is : List Int) M', is.length = sorts → (∀ v ∈ is, 0 ≤ v ∧ v < many) → HandX M' h (n + sorts) → Upd h M M' → Q (M' ++ [.lst (inW is)])) :
    Ok (lcL [] (gN i) tTrue E ρ0 M.length ((List.range sorts).map fun (k : Nat) => .d (.int (k : Int))) (M ++ [.lst []])) Q := by
  have len : ((List.range sorts).map fun (k : Nat) => W.d (.int (k : Int))).length = sorts := by simp
  refine Ok.mono (lc_ok (items0 := (List.range sorts).map fun (k : Nat) => .d (.int (k : Int))) (fun j M' => ∃ (ws : List Int) (M1 : Mem), M' = M1 ++ [.lst (inW ws)] ∧ ws.length = j ∧ (∀ v ∈ ws, 0 ≤ v ∧ v < many) ∧ HandX M1 h (n + j) ∧ Upd h M M1)
    (fun _ _ _ _ => by simp) (fun j w M' hw ⟨ws, M1, e, l, r, hd1, up1⟩ => ?_) _ 0 _ rfl (Nat.zero_le _) ⟨[], M, rfl, rfl, fun _ h => by simp at h, by simpa using hd, .refl⟩) fun M' ⟨ws, M1, e, l, r, hd1, up1⟩ => ?_
  · subst e
    have hj : j < sorts := by rw [← len]; exact (List.getElem?_eq_some_iff.mp hw).1
    refine ⟨_, rfl, Ok.of rfl ?_⟩
    simp only [if_true]
    rw [hE]
    refine (x_take mp mb).app hd1 (by omega) fun w2 M2 ⟨v, ev, v0, v1⟩ hd2 up2 => ?_
    subst ev
    have l2 : M2.length = M.length := by rw [up2.1, up1.1]
    rw [← l2]
    refine ⟨_, by rw [get_new0]; rfl, ?_, ws ++ [v], M2, ?_, by simp [l], fun y hy => ?_, hd2.mono (by omega), up1.trans up2⟩
    · simp only [List.length_map, l]
      exact Nat.lt_of_lt_of_le (by omega : j < 1001) (by decide)
    · rw [set_new0]
      simp [inW]
    · rcases List.mem_append.mp hy with hy | hy
      · exact r y hy
      · rw [List.mem_singleton.mp hy]; exact ⟨v0, v1⟩
  · rw [len] at l hd1
    subst e
    exact k ws M1 l r hd1 up1
end Lx

set_option Elab.async false
set_option linter.all false
set_option maxRecDepth 100000
set_option maxHeartbeats 1000000
/-! LwH: sayings and states as the laws draw them: what is shown, what fits -/
namespace Lw
open PySem PySem.Spec PyProof.Rows L2 Sa Va Pg
theorem clamp_in {s n : Int} (h : 1 ≤ s) : -s ≤ clampI s n ∧ clampI s n ≤ s := by
  unfold clampI
  split <;> split <;> omega
theorem clamp_off {s n b : Int} (h : 1 ≤ s) (h0 : -(s + b) ≤ n) (h1 : n ≤ s + b) (hb : 0 ≤ b) : -b ≤ n - clampI s n ∧ n - clampI s n ≤ b := by
  unfold clampI
  split <;> split <;> omega
theorem cut_small {S : Simple} {k : Nat} (g : GoodS S k) (hk : 0 < k) {n : Int} (h0 : -63 ≤ n) (h1 : n ≤ 63) : (-100 ≤ (cutM S n).1 ∧ (cutM S n).1 ≤ 100) ∧ -100 ≤ (cutM S n).2 ∧ (cutM S n).2 ≤ 100 := by
  obtain ⟨z1, z2⟩ := size_le g hk
  cases S with
  | sum ws c =>
    have c1 := clamp_in (n := n) z1
    have c2 := clamp_off (n := n) (b := 63) z1 (by omega) (by omega) (by decide)
    show (-100 ≤ clampI (sizeM (.sum ws c)) n ∧ clampI (sizeM (.sum ws c)) n ≤ 100) ∧ -100 ≤ n - clampI (sizeM (.sum ws c)) n ∧ n - clampI (sizeM (.sum ws c)) n ≤ 100
    omega
  | rest ws r m =>
    have := g.rest ws r m rfl
    have m0 := Int.emod_nonneg n (b := m) (by omega)
    have m1 := Int.emod_lt_of_pos n (b := m) (by omega)
    show (-100 ≤ n % m ∧ n % m ≤ 100) ∧ (-100 : Int) ≤ 0 ∧ (0 : Int) ≤ 100
    omega
/-- states as the law draws them -/
def Drawn (Ss : List Simple) : State → Prop
  | .mem i xs => (-100 ≤ i ∧ i ≤ 100) ∧ xs.length = Ss.length ∧ ∀ t ∈ Ss.zip xs, DrawnH t.1 t.2
  | .note ns => ns.length = Ss.length ∧ ∀ t ∈ Ss.zip ns, DrawnN t.1 t.2
section
variable {Ss : List Simple} {kk : Nat}
theorem Drawn.fit (g : ∀ S ∈ Ss, GoodS S kk) (hk : 0 < kk) {s : State} (h : Drawn Ss s) : FitS Ss s := by
  cases s with
  | mem i xs => exact ⟨h.2.1, fun t ht => (h.2.2 t ht).fit (g _ (List.of_mem_zip ht).1) hk⟩
  | note ns => exact ⟨h.1, fun t ht => (h.2 t ht).fit (g _ (List.of_mem_zip ht).1) hk⟩
theorem Drawn.many {s : State} (h : Drawn Ss s) : s.many = Ss.length := by
  cases s with
  | mem i xs => exact h.2.1
  | note ns => exact h.1
theorem zip_right {α β : Type} : ∀ {xs : List α} {ys : List β}, ys.length = xs.length → ∀ y ∈ ys, ∃ x, (x, y) ∈ xs.zip ys
  | [], [], _, y, h => by simp at h
  | x :: xs, y' :: ys, e, y, h => by
    rcases List.mem_cons.mp h with rfl | h
    · exact ⟨x, by simp⟩
    · obtain ⟨x', hx⟩ := zip_right (by simpa using e) y h
      exact ⟨x', by simp [hx]⟩
  | [], _ :: _, e, _, _ => by simp at e
  | _ :: _, [], e, _, _ => by simp at e
theorem drawnH_num {S : Simple} {x : Hold} (g : GoodS S kk) (hk : 0 < kk) (h : DrawnH S x) : -21 ≤ x.number ∧ x.number ≤ 21 := by
  have := size_le g hk
  obtain ⟨h1, h2⟩ := h
  exact ⟨by split at h1 <;> omega, by omega⟩
theorem drawnN_num {S : Simple} {x : Bool × Int} (g : GoodS S kk) (hk : 0 < kk) (h : DrawnN S x) : -42 ≤ x.2 ∧ x.2 ≤ 42 := by
  have := size_le g hk
  obtain ⟨h1, h2⟩ := h
  exact ⟨by split at h1 <;> omega, by split at h2 <;> omega⟩
theorem Drawn.shown (g : ∀ S ∈ Ss, GoodS S kk) (hk : 0 < kk) (few : Ss.length ≤ 10) {s : State} (h : Drawn Ss s) : ShownS s := by
  cases s with
  | mem i xs =>
    refine ⟨h.1, by rw [h.2.1]; exact few, fun x hx => ?_⟩
    obtain ⟨S, hS⟩ := zip_right h.2.1 x hx
    have := drawnH_num (g S (List.of_mem_zip hS).1) hk (h.2.2 _ hS)
    simp only at this
    omega
  | note ns =>
    refine ⟨by rw [h.1]; exact few, fun x hx => ?_⟩
    obtain ⟨S, hS⟩ := zip_right h.1 x hx
    have := drawnN_num (g S (List.of_mem_zip hS).1) hk (h.2 _ hS)
    simp only at this
    omega
theorem met_nums {S : Simple} {x y : Hold} (g : GoodS S kk) (hk : 0 < kk) (hx : -21 ≤ x.number ∧ x.number ≤ 21) (hy : -21 ≤ y.number ∧ y.number ≤ 21) :
    (-100 ≤ (metG S x y).1.number ∧ (metG S x y).1.number ≤ 100) ∧ -100 ≤ (metG S x y).2.number ∧ (metG S x y).2.number ≤ 100 := by
  have c := cut_small g hk (n := x.number + y.number) (by omega) (by omega)
  unfold metG
  split
  · simp only; omega
  · simp only
    split <;> (simp only; omega)
theorem not_nums {S : Simple} {x : Hold} {y : Bool × Int} (g : GoodS S kk) (hk : 0 < kk) (hx : -21 ≤ x.number ∧ x.number ≤ 21) (hy : -42 ≤ y.2 ∧ y.2 ≤ 42) :
    (-100 ≤ (notG S x y).1.number ∧ (notG S x y).1.number ≤ 100) ∧ -100 ≤ (notG S x y).2.2 ∧ (notG S x y).2.2 ≤ 100 := by
  have c := cut_small g hk (n := x.number + y.2) (by omega) (by omega)
  exact c
theorem noteOr_shown {ns : List (Bool × Int)} (h : ShownS (.note ns)) : ShownO (noteOr ns) := by
  unfold noteOr
  split
  · trivial
  · exact h
theorem met_shown (g : ∀ S ∈ Ss, GoodS S kk) (hk : 0 < kk) (few : Ss.length ≤ 10) {a b : State} (ha : Drawn Ss a) (hb : Drawn Ss b) : ShownO (metS Ss a b).1 ∧ ShownO (metS Ss a b).2 := by
  have mn : ∀ (i : Int) (xs : List Hold) (ns : List (Bool × Int)), Drawn Ss (.mem i xs) → Drawn Ss (.note ns) → ShownS (.mem i ((notL Ss xs ns).map (·.1))) ∧ ShownS (.note ((notL Ss xs ns).map (·.2))) := by
    intro i xs ns ha hb
    have len : (notL Ss xs ns).length ≤ 10 := by unfold notL; rw [List.length_map, trip_length ha.2.1.symm hb.1.symm]; exact few
    refine ⟨⟨ha.1, by rw [List.length_map]; exact len, fun x hx => ?_⟩, by rw [List.length_map]; exact len, fun x hx => ?_⟩
    · obtain ⟨p, hp, rfl⟩ := List.mem_map.mp hx
      obtain ⟨t, ht, rfl⟩ := List.mem_map.mp hp
      have gt := g _ (trip_mem ht).1
      exact (not_nums gt hk (drawnH_num gt hk (ha.2.2 _ (trip_zip ht).1)) (drawnN_num gt hk (hb.2 _ (trip_zip ht).2))).1
    · obtain ⟨p, hp, rfl⟩ := List.mem_map.mp hx
      obtain ⟨t, ht, rfl⟩ := List.mem_map.mp hp
      have gt := g _ (trip_mem ht).1
      exact (not_nums gt hk (drawnH_num gt hk (ha.2.2 _ (trip_zip ht).1)) (drawnN_num gt hk (hb.2 _ (trip_zip ht).2))).2
  cases a with
  | mem i xs =>
    cases b with
    | mem j ys =>
      have len : (metL Ss xs ys).length ≤ 10 := by unfold metL; rw [List.length_map, trip_length ha.2.1.symm hb.2.1.symm]; exact few
      refine ⟨⟨ha.1, by rw [List.length_map]; exact len, fun x hx => ?_⟩, hb.1, by rw [List.length_map]; exact len, fun x hx => ?_⟩
      · obtain ⟨p, hp, rfl⟩ := List.mem_map.mp hx
        obtain ⟨t, ht, rfl⟩ := List.mem_map.mp hp
        have gt := g _ (trip_mem ht).1
        exact (met_nums gt hk (drawnH_num gt hk (ha.2.2 _ (trip_zip ht).1)) (drawnH_num gt hk (hb.2.2 _ (trip_zip ht).2))).1
      · obtain ⟨p, hp, rfl⟩ := List.mem_map.mp hx
        obtain ⟨t, ht, rfl⟩ := List.mem_map.mp hp
        have gt := g _ (trip_mem ht).1
        exact (met_nums gt hk (drawnH_num gt hk (ha.2.2 _ (trip_zip ht).1)) (drawnH_num gt hk (hb.2.2 _ (trip_zip ht).2))).2
    | note ns => exact ⟨(mn i xs ns ha hb).1, noteOr_shown (mn i xs ns ha hb).2⟩
  | note ns =>
    cases b with
    | mem j ys => exact ⟨noteOr_shown (mn j ys ns hb ha).2, (mn j ys ns hb ha).1⟩
    | note ms => exact ⟨Drawn.shown g hk few ha, Drawn.shown g hk few hb⟩
end
/-- a saying and its simple ones, as the law has them -/
structure Said (y : Say) (Ss : List Simple) (kk : Nat) : Prop where
  row : Ss = rowOf y.leaves
  deep : y.deep ≤ 9
  many : y.leaves.length ≤ 10
  good : ∀ S ∈ y.leaves, GoodS S kk
  pos : 0 < kk
  few : kk ≤ 6
theorem nodup_le {α : Type} [DecidableEq α] : ∀ {N ls : List α}, N.Nodup → (∀ x ∈ N, x ∈ ls) → N.length ≤ ls.length
  | [], _, _, _ => by simp
  | x :: N, ls, nd, h => by
    rw [List.nodup_cons] at nd
    have hx := h x List.mem_cons_self
    have := nodup_le (N := N) (ls := ls.erase x) nd.2 fun y hy => (List.mem_erase_of_ne fun z => nd.1 (by rw [← z]; exact hy)).mpr (h y (List.mem_cons_of_mem _ hy))
    rw [List.length_erase_of_mem hx] at this
    have : 0 < ls.length := List.length_pos_of_mem hx
    simp only [List.length_cons]
    omega
theorem fewS {ls : List Simple} (h : ls.length ≤ 10) : FewS ls := fun N nd sub => by have := nodup_le nd sub; omega
theorem at_upd {h l : Nat} {M M' : Mem} {x : Option MO} (ne : l ≠ h) (hl : M[l]? = x) (up : Upd h M M') : M'[l]? = x := (up.2 l ne).trans hl
theorem Said.goodS {y : Say} {Ss : List Simple} {kk : Nat} (sd : Said y Ss kk) : ∀ S ∈ Ss, GoodS S kk := fun S hS => sd.good S (by have := sd.row; rw [this] at hS; exact (rowOf_mem _ S).mp hS)
theorem Said.len {y : Say} {Ss : List Simple} {kk : Nat} (sd : Said y Ss kk) : Ss.length ≤ 10 := by
  rw [sd.row]
  exact Nat.le_trans (nodup_le (rowOf_nodup _) fun S hS => (rowOf_mem _ S).mp hS) sd.many
theorem Said.some {y : Say} {Ss : List Simple} {kk : Nat} (sd : Said y Ss kk) : 0 < Ss.length := by
  have h1 := y.leaves_pos
  obtain ⟨S, hS⟩ : ∃ S, S ∈ y.leaves := by
    cases e : y.leaves with
    | nil => rw [e] at h1; simp at h1
    | cons S r => exact ⟨S, List.mem_cons_self⟩
  have : S ∈ Ss := by rw [sd.row]; exact (rowOf_mem _ S).mpr hS
  exact List.length_pos_of_mem this
theorem rowOf_one (S : Simple) : rowOf [S] = [S] := by
  refine rising_one (row_sorted _) (List.pairwise_singleton _ _) (rowOf_nodup _) (by simp) fun T => ?_
  rw [rowOf_mem]
theorem said_one {S : Simple} {kk : Nat} (g : GoodS S kk) (h0 : 0 < kk) (h6 : kk ≤ 6) : Said (.one S) [S] kk :=
  ⟨(rowOf_one S).symm, by simp [Say.deep], by simp [Say.leaves], fun T hT => by simp [Say.leaves] at hT; rw [hT]; exact g, h0, h6⟩
theorem ne_blank (b : Bool) (n : Int) {M : Mem} : oNe (.d (.tuple [.bool b, .int n])) (.d (.tuple [.bool false, .int 0])) M = some (.d (.bool (!isNo (b, n))), M) := by
  have : eqD (nD (b, n)) (.tuple [.bool false, .int 0]) = some (isNo (b, n)) := by
    show (if (SeqAt.shaped (nD (b, n)) && SeqAt.shaped (.tuple [.bool false, .int 0])) = true then some (PyData.eqv (nD (b, n)) (.tuple [.bool false, .int 0])) else none) = _
    rw [if_pos (by rfl)]
    exact congrArg some (blank_eqv b n)
  simp only [nD] at this
  simp [oNe, this]
theorem for_range {b : EvS} {i m : Nat} {ρ0 : Ev} {M0 : Mem} (I : Nat → Ev → Mem → Prop) {Q : Out → Prop} (h0 : I 0 ρ0 M0) (turn : ∀ (j : Nat) (ρ : Ev) (M : Mem), j < m → I j ρ M → Ok (b (ρ.set i (some (.d (.int (j : Int))))) M) (forQ (I (j + 1)) (I m) fun _ _ => False)) (fin : ∀ ρ M, I m ρ M → Q (.nx ρ M)) :
    Ok (forL [] (gN i) b ((List.range m).map fun (k : Nat) => .d (.int (k : Int))) ρ0 M0) Q := by
  refine Ok.mono (for_ok (items0 := (List.range m).map fun (k : Nat) => .d (.int (k : Int))) I (I m) (fun _ _ => False) (fun _ _ _ _ _ => by simp) (fun ρ M h => by simpa using h) (fun j w ρ M hw h => ?_) _ 0 _ _ rfl (Nat.zero_le _) h0) fun o ho => ?_
  · rw [List.getElem?_map] at hw
    obtain ⟨q, hq, rfl⟩ := Option.map_eq_some_iff.mp hw
    have hj : j < m := by have := (List.getElem?_eq_some_iff.mp hq).1; simpa using this
    have ij : q = j := by
      have := (List.getElem?_eq_some_iff.mp hq).2
      rw [List.getElem_range] at this
      exact this.symm
    subst ij
    exact ⟨_, rfl, turn q ρ M hj h⟩
  · cases o with
    | bk ρ M' => exact ho.elim
    | ct ρ M' => exact ho.elim
    | rt w M' => exact ho.elim
    | nx ρ M' => exact fin ρ M' ho
end Lw

set_option Elab.async false
set_option linter.all false
set_option maxRecDepth 100000
set_option maxHeartbeats 1000000
/-! LxD: sayings drawn out of a pool -/
namespace Lx
open PySem PySem.Spec PyProof.Rows L2 Sa Va Pg
open Lw (Upd Upd.refl Upd.trans Upd.set Upd.split GoodS)
def PotAt (M : Mem) (p : Nat) : Prop := ∃ f : Int, M[p]? = some (.pot [(.inr "forms", .int f)])
/-- all but the things at h and p is as it was -/
def Upd2 (h p : Nat) (M M' : Mem) : Prop := M'.length = M.length ∧ ∀ i, i ≠ h → i ≠ p → M'[i]? = M[i]?
theorem Upd2.refl {h p : Nat} {M : Mem} : Upd2 h p M M := ⟨rfl, fun _ _ _ => rfl⟩
theorem Upd2.trans {h p : Nat} {M M1 M2 : Mem} (a : Upd2 h p M M1) (b : Upd2 h p M1 M2) : Upd2 h p M M2 := ⟨b.1.trans a.1, fun i hi hp => (b.2 i hi hp).trans (a.2 i hi hp)⟩
theorem Upd2.of {h p : Nat} {M M1 : Mem} (a : Upd h M M1) : Upd2 h p M M1 := ⟨a.1, fun i hi _ => a.2 i hi⟩
theorem Upd2.setP {h p : Nat} {M : Mem} {x : MO} : Upd2 h p M (M.set p x) := ⟨by simp, fun i _ hp => List.getElem?_set_ne (Ne.symm hp)⟩
theorem Upd2.split {h p : Nat} {M J M' : Mem} (hl : h < M.length) (pl : p < M.length) (up : Upd2 h p (M ++ J) M') : ∃ M1, M' = M1 ++ J ∧ Upd2 h p M M1 := by
  have l1 : M'.length = M.length + J.length := by rw [up.1]; simp
  have split : M' = M'.take M.length ++ J := by
    refine List.ext_getElem? fun i => ?_
    by_cases hi : i < M.length
    · rw [List.getElem?_append_left (by simp [l1]; omega), List.getElem?_take_of_lt hi]
    · rw [up.2 i (by omega) (by omega), List.getElem?_append_right (by omega), List.getElem?_append_right (by simp [l1]; omega), List.length_take]
      congr 1
      omega
  refine ⟨M'.take M.length, split, by simp [l1], fun i hi hp => ?_⟩
  by_cases h2 : i < M.length
  · rw [List.getElem?_take_of_lt h2, up.2 i hi hp, List.getElem?_append_left h2]
  · rw [List.getElem?_eq_none (by simp [l1]; omega), List.getElem?_eq_none (by omega)]
theorem PotAt.lt {M : Mem} {p : Nat} (x : PotAt M p) : p < M.length := let ⟨_, e⟩ := x; (List.getElem?_eq_some_iff.mp e).1
theorem PotAt.app {M J : Mem} {p : Nat} (x : PotAt M p) : PotAt (M ++ J) p := let ⟨f, e⟩ := x; ⟨f, get_old e⟩
theorem PotAt.unapp {M J : Mem} {p : Nat} (hl : p < M.length) (x : PotAt (M ++ J) p) : PotAt M p := by
  obtain ⟨f, e⟩ := x
  exact ⟨f, by rw [List.getElem?_append_left hl] at e; exact e⟩
theorem PotAt.upd {M M1 : Mem} {h p : Nat} (x : PotAt M p) (ne : p ≠ h) (up : Upd h M M1) : PotAt M1 p := by
  obtain ⟨f, e⟩ := x
  exact ⟨f, (up.2 p ne).trans e⟩
theorem cut2 {M M1 : Mem} {h p : Nat} {n : Int} (hd : HandX M1 h n) (pt : PotAt M1 p) (up : Upd2 h p M M1) : Cut M M1 := by
  refine ⟨up.1, fun k mo hk => ?_⟩
  by_cases z : k = h
  · subst z
    obtain ⟨a, b, c, e, _⟩ := hd
    rw [e] at hk
    cases hk
    exact .inr rfl
  · by_cases z2 : k = p
    · subst z2
      obtain ⟨f, e⟩ := pt
      rw [e] at hk
      cases hk
      exact .inr rfl
    · rw [up.2 k z z2] at hk
      exact .inl hk
theorem norm2 {M M1 J : Mem} {h p : Nat} {n : Int} {w : W} (hd : HandX M1 h n) (pt : PotAt M1 p) (up : Upd2 h p M M1) (d : isD w = true) : norm M (w, M1 ++ J) = (w, M1) := norm_d d (cut2 hd pt up)
theorem norm20 {M M1 : Mem} {h p : Nat} {n : Int} {w : W} (hd : HandX M1 h n) (pt : PotAt M1 p) (up : Upd2 h p M M1) (d : isD w = true) : norm M (w, M1) = (w, M1) := by
  have := norm2 (J := []) hd pt up d
  rwa [List.append_nil] at this
/-- a saying drawn -/
structure FromP (y : Say) (Ss : List Simple) (dd : Nat) : Prop where
  deep : y.deep ≤ dd
  sub : ∀ S ∈ y.leaves, S ∈ Ss
  many : y.leaves.length ≤ 2 ^ (dd - 1)
theorem saying_x {Ss : List Simple} (S0 : 0 < Ss.length) (S1 : Ss.length ≤ 1000) : ∀ (k deep : Nat) (M : Mem) (h l p : Nat) (n : Int) (Q : W × Mem → Prop), deep ≤ k → 1 ≤ deep → deep ≤ 20 → M[l]? = some (.lst (Ss.map fun S => .d (sD S))) → PotAt M p → HandX M h n → l ≠ h → p ≠ h → l ≠ p → n + ((2 ^ (deep + 1) : Nat) : Int) < 2 ^ 40 →
    (∀ y M', FromP y Ss deep → HandX M' h (n + ((2 ^ (deep + 1) : Nat) : Int) - 2) → PotAt M' p → Upd2 h p M M' → Q (.d (yD y), M')) → Ok (F__law_saying k [.obj h, .obj l, .d (.int (deep : Int)), .obj p] M) Q
  | 0, deep, _, _, _, _, _, _, h1, h2, _, _, _, _, _, _, _, _, _ => by omega
  | k + 1, deep, M, h, l, p, n, Q, h1, h2, h20, hl, pt, hd, lh, ph, lp, nb, q => by
    have big : 2 ^ (deep + 1) = 2 * 2 ^ deep := by rw [Nat.pow_succ]; omega
    have pos : 2 ≤ 2 ^ deep := Nat.le_trans (by decide : 2 ≤ 2 ^ 1) (Nat.pow_le_pow_right (by decide) h2)
    rw [big] at nb q
    generalize hc : 2 ^ deep = c at pos nb q
    push_cast at nb
    have slen : ((Ss.length : Nat) : Int) < 2 ^ 128 := by omega
    simp [F__law_saying, nf, fnV, g__law_saying]
    refine take_x hd (by omega) (by decide) (by decide) fun way M1 w0 w1 hd1 up1 => ?_
    have hl1 := (up1.2 l lh).trans hl
    simp [hl1]
    refine take_x hd1 (by omega) (by omega) slen fun at' M2 a0 a1 hd2 up2 => ?_
    have hl2 := (up2.2 l lh).trans hl1
    obtain ⟨f, pe⟩ := (pt.upd ph up1).upd ph up2
    have pe2 : potAt M2 (.obj p) = some (p, [(.inr "forms", .int f)]) := by simp [potAt, pe]
    have S2 : Ss.length < 100000 := by omega
    simp [sPutP, eIxP, pe2, keyW, potGet, asD, potPut]
    have up3 : Upd2 h p M (M2.set p (.pot [(.inr (Str.ofString "forms"), .int (f - 1))])) := (Upd2.of (up1.trans up2)).trans .setP
    have hl3 : (M2.set p (.pot [(.inr (Str.ofString "forms"), .int (f - 1))]))[l]? = some (.lst (Ss.map fun S => .d (sD S))) := by rw [List.getElem?_set_ne (Ne.symm lp)]; exact hl2
    have hd3 : HandX (M2.set p (.pot [(.inr (Str.ofString "forms"), .int (f - 1))])) h (n + 2) := by
      obtain ⟨a, b, c, e, r⟩ := hd2
      exact ⟨a, b, c, by rw [List.getElem?_set_ne ph]; exact e, r.1, r.2.1, r.2.2.1, r.2.2.2.1, by omega⟩
    have pe3 : potAt (M2.set p (.pot [(.inr (Str.ofString "forms"), .int (f - 1))])) (.obj p) = some (p, [(.inr (Str.ofString "forms"), .int (f - 1))]) := by
      have : (M2.set p (.pot [(.inr (Str.ofString "forms"), .int (f - 1))]))[p]? = some (.pot [(.inr (Str.ofString "forms"), .int (f - 1))]) := List.getElem?_set_self (List.getElem?_eq_some_iff.mp pe).1
      simp [potAt, this]
    have pt3 : PotAt (M2.set p (.pot [(.inr (Str.ofString "forms"), .int (f - 1))])) p := ⟨f - 1, (potAt_eq pe3).2⟩
    generalize M2.set p (.pot [(.inr (Str.ofString "forms"), .int (f - 1))]) = M3 at *
    obtain ⟨j, rfl⟩ : ∃ j : Nat, at' = j := ⟨at'.toNat, by omega⟩
    have jl : j < Ss.length := by omega
    have hj : atI (Ss.map fun S => W.d (sD S)) (j : Int) = some (.d (sD Ss[j])) := atI_nat' (by simp [jl])
    have leaf : Q (norm M (.d (sD Ss[j]), M3)) := by
      rw [norm20 hd3 pt3 up3 rfl]
      refine q (.one Ss[j]) M3 ⟨by simp [Say.deep]; omega, fun S hS => ?_, ?_⟩ (hd3.mono (by omega)) pt3 up3
      · simp [Say.leaves] at hS
        rw [hS]; exact List.getElem_mem jl
      · simp only [Say.leaves, List.length_singleton]; exact Nat.one_le_two_pow
    refine ⟨by decide, ?_⟩
    by_cases c1 : 3 < way
    · rw [if_pos c1]
      simp [hl3, hj]
      exact leaf
    rw [if_neg c1]
    by_cases c2 : (deep : Int) < 2
    · rw [if_pos c2]
      simp [hl3, hj]
      exact leaf
    rw [if_neg c2]
    simp [pe3]
    by_cases c3 : f - 1 < 1
    · rw [if_pos c3]
      simp [hl3, hj]
      exact leaf
    rw [if_neg c3]
    obtain ⟨e, rfl⟩ : ∃ e, deep = e + 1 := ⟨deep - 1, by omega⟩
    have de : ((e + 1 : Nat) : Int) - 1 = (e : Int) := by omega
    have half : 2 ^ (e + 1) = c := hc
    have halfI : ((2 ^ (e + 1) : Nat) : Int) = c := by rw [half]
    simp only [de]
    refine saying_x S0 S1 k e M3 h l p _ _ (by omega) (by omega) (by omega) hl3 pt3 hd3 lh ph lp (by rw [halfI]; omega) fun y M4 fy hd4 pt4 up4 => ?_
    rw [halfI] at hd4
    have hl4 : M4[l]? = some (.lst (Ss.map fun S => .d (sD S))) := (up4.2 l lh lp).trans hl3
    have e1 : 1 ≤ e := by omega
    have pw : 2 ^ (e + 1 - 1) = 2 * 2 ^ (e - 1) := by
      obtain ⟨d, rfl⟩ : ∃ d, e = d + 1 := ⟨e - 1, by omega⟩
      simp [Nat.pow_succ, Nat.mul_comm]
    have fm := fy.many
    have fd := fy.deep
    by_cases c4 : way = 0
    · rw [if_pos c4]
      simp
      rw [norm20 hd4 pt4 (up3.trans up4) rfl]
      exact q (.no y) M4 ⟨by simp [Say.deep]; omega, fun S hS => fy.sub S (by simpa [Say.leaves] using hS), by simp only [Say.leaves]; rw [pw]; omega⟩ (hd4.mono (by omega)) pt4 (up3.trans up4)
    rw [if_neg c4]
    obtain ⟨x, hx, isw⟩ : ∃ x : Str, atI [W.d (.str "and"), .d (.str "or"), .d (.str "and")] (way - 1) = some (.d (.str x)) ∧ (x = "and" ∨ x = "or") := by
      have h : way = 1 ∨ way = 2 ∨ way = 3 := by omega
      rcases h with z | z | z <;> rw [z]
      · exact ⟨_, atI0, .inl rfl⟩
      · exact ⟨_, atI1, .inr rfl⟩
      · exact ⟨_, atI2, .inl rfl⟩
    rw [hx]
    simp
    have J0 := hd4.app (J := [MO.lst [W.d (.str (Str.ofString "and")), .d (.str (Str.ofString "or")), .d (.str (Str.ofString "and"))]])
    refine saying_x S0 S1 k e _ h l p _ _ (by omega) (by omega) (by omega) (get_old hl4) pt4.app J0 lh ph lp (by rw [halfI]; omega) fun z M5 fz hd5 pt5 up5 => ?_
    rw [halfI] at hd5
    obtain ⟨M6, rfl, up6⟩ := up5.split hd4.lt pt4.lt
    have hd6 := hd5.unapp (by rw [up6.1]; exact hd4.lt)
    have pt6 := pt5.unapp (by rw [up6.1]; exact pt4.lt)
    have up := up3.trans (up4.trans up6)
    have fm2 := fz.many
    have fd2 := fz.deep
    simp
    rw [norm2 hd6 pt6 up rfl]
    have sub : ∀ S, S ∈ y.leaves ++ z.leaves → S ∈ Ss := fun S hS => by
      rcases List.mem_append.mp hS with h | h
      · exact fy.sub S h
      · exact fz.sub S h
    have len : (y.leaves ++ z.leaves).length ≤ 2 ^ (e + 1 - 1) := by rw [List.length_append, pw]; omega
    rcases isw with rfl | rfl
    · exact q (.an y z) M6 ⟨by simp [Say.deep]; omega, sub, len⟩ (hd6.mono (by omega)) pt6 up
    · exact q (.or y z) M6 ⟨by simp [Say.deep]; omega, sub, len⟩ (hd6.mono (by omega)) pt6 up
end Lx

set_option Elab.async false
set_option linter.all false
set_option maxRecDepth 100000
set_option maxHeartbeats 1000000
/-! Ma5: lists shown; draws of any kind in a row -/
namespace Va
open PySem PySem.Spec PyProof.Rows L2 Sa
theorem piledSum (ts : List Str) : piled ts = (ts.map (·.length)).sum + 2 * ts.length := by
  induction ts with
  | nil => rfl
  | cons t ts ih => rw [piled_cons, ih]; simp; omega
theorem shwList {ds : List PyData} {D L : Nat} (r : ShwA ds D L) : Shw (.list ds) (D + 1) (L + 3) := by
  refine ⟨?_, ?_, ?_, ?_⟩
  · simp only [PyData.showable]; exact r.sh
  · simp only [PyData.canLay0]; exact r.lay
  · simp only [PyData.depth]; have := r.dp; omega
  · simp only [PyData.shown]
    have h1 := textFrom_len_le (PyData.shownAll ds) 0 "["
    have h2 := r.ln
    rw [piledSum] at h2
    have e1 : (Str.ofString "[").length = 1 := rfl
    have e2 : (Str.ofString "]").length = 1 := rfl
    rw [e1] at h1
    unfold listText
    rw [strLen_append, e2]
    omega
theorem repZero {M : Mem} (k : Nat) (h0 : 0 < k) (h1 : k ≤ 10) : oRepT (.d (.tuple [.int 0])) (.d (.int (k : Int))) M = some (.d (.tuple ((List.replicate k (0 : Int)).map .int)), M) := by
  have fl : ∀ k : Nat, (List.replicate k [W.d (.int 0)]).flatten = (List.replicate k (0 : Int)).map fun i => W.d (.int i) := fun k => by
    induction k with
    | zero => rfl
    | succ k ih => rw [List.replicate_succ, List.flatten_cons, ih]; rfl
  by_cases z : k = 1
  · subst z
    rfl
  · have c : ¬ ((k : Int) = 1) := by omega
    have mk : mkTup ((List.replicate k (0 : Int)).map fun i => W.d (.int i)) = .d (.tuple ((List.replicate k (0 : Int)).map .int)) := mkTup_of' .int _
    have d : ([PyData.int 0].map W.d) ≠ [] ∧ (2 : Int) ≤ k ∧ (k : Int) ≤ 1000 ∧ ([PyData.int 0].map W.d).length ≤ 1000 := ⟨by simp, by omega, by omega, by simp⟩
    show (if (k : Int) = 1 then some (W.d (.tuple [.int 0]), M) else if ([PyData.int 0].map W.d) ≠ [] ∧ (2 : Int) ≤ k ∧ (k : Int) ≤ 1000 ∧ ([PyData.int 0].map W.d).length ≤ 1000 then some (mkTup (List.replicate (k : Int).toNat ([PyData.int 0].map W.d)).flatten, M) else none) = _
    rw [if_neg c, if_pos d]
    show some (mkTup (List.replicate (k : Int).toNat [W.d (.int 0)]).flatten, M) = _
    rw [Int.toNat_natCast, fl, mk]
theorem rep_lst {M : Mem} {i : Nat} {ds : List PyData} {D L : Nat} (h : M[i]? = some (.lst (ds.map W.d))) (t : Shw (.list ds) D L) (hD : D ≤ 60) (hL : L ≤ 16777216) : fRep [.obj i] M = some (.d (.str (PyData.list ds).shown), M) := by
  have e : deepD M 4 (.obj i) = some (.list ds) := by simp [deepD, h, deepAll_data]
  simp only [fRep, e, Option.bind_some]
  rw [if_pos (t.show hD hL fun x z => by cases z)]
@[simp] theorem addG_int {M : Mem} {p q : Int} : oAddG (.d (.int p)) (.d (.int q)) M = some (.d (.int (p + q)), M) := rfl
end Va
namespace Lx
open PySem PySem.Spec PyProof.Rows L2 Sa Va Pg
open Lw (Upd Upd.refl Upd.trans Upd.set Upd.split)
theorem draws_of {F : Fn} {as : Nat → List W} {cost : Int} {P : W → Prop} (D : DrawsX F as cost P) (c0 : 0 ≤ cost) {M : Mem} {h : Nat} {n : Int} {sorts i : Nat} {E : EvE} {Q : Mem → Prop} {ρ0 : Ev} (hE : ∀ w M, E (ρ0.set i (some w)) M = F (as h) M) (hd : HandX M h n) (hs : sorts ≤ 1000) (nb : n + cost * sorts < 2 ^ 40)
    (k : ∀ (ws : List W) M', ws.length = sorts → (∀ w ∈ ws, P w) → HandX M' h (n + cost * sorts) → Upd h M M' → Q (M' ++ [.lst ws])) :
    Ok (lcL [] (gN i) tTrue E ρ0 M.length ((List.range sorts).map fun (k : Nat) => .d (.int (k : Int))) (M ++ [.lst []])) Q := by
  have len : ((List.range sorts).map fun (k : Nat) => W.d (.int (k : Int))).length = sorts := by simp
  refine Ok.mono (lc_ok (items0 := (List.range sorts).map fun (k : Nat) => .d (.int (k : Int))) (fun j M' => ∃ (ws : List W) (M1 : Mem), M' = M1 ++ [.lst ws] ∧ ws.length = j ∧ (∀ w ∈ ws, P w) ∧ HandX M1 h (n + cost * j) ∧ Upd h M M1)
    (fun _ _ _ _ => by simp) (fun j w M' hw ⟨ws, M1, e, l, r, hd1, up1⟩ => ?_) _ 0 _ rfl (Nat.zero_le _) ⟨[], M, rfl, rfl, fun _ h => by simp at h, by simpa using hd, .refl⟩) fun M' ⟨ws, M1, e, l, r, hd1, up1⟩ => ?_
  · subst e
    have hj : j < sorts := by rw [← len]; exact (List.getElem?_eq_some_iff.mp hw).1
    refine ⟨_, rfl, Ok.of rfl ?_⟩
    simp only [if_true]
    rw [hE]
    have e1 : cost * ((j + 1 : Nat) : Int) = cost * j + cost := by rw [Int.natCast_add, Int.mul_add]; simp
    have e2 : cost * ((j + 1 : Nat) : Int) ≤ cost * sorts := Int.mul_le_mul_of_nonneg_left (by omega) c0
    refine D.app hd1 (by omega) fun w2 M2 pw hd2 up2 => ?_
    have l2 : M2.length = M.length := by rw [up2.1, up1.1]
    rw [← l2]
    refine ⟨_, by rw [get_new0]; rfl, ?_, ws ++ [w2], M2, ?_, by simp [l], fun y hy => ?_, hd2.mono (by omega), up1.trans up2⟩
    · simp only [l]
      exact Nat.lt_of_lt_of_le (by omega : j < 1001) (by decide)
    · rw [set_new0]
      simp
    · rcases List.mem_append.mp hy with hy | hy
      · exact r y hy
      · rw [List.mem_singleton.mp hy]; exact pw
  · rw [len] at l hd1
    subst e
    exact k ws M1 l r hd1 up1
theorem pre_of {τ : Type} {f : τ → W} {P : τ → Prop} : ∀ {ws : List W}, (∀ w ∈ ws, ∃ t, w = f t ∧ P t) → ∃ ts : List τ, ws = ts.map f ∧ ∀ t ∈ ts, P t
  | [], _ => ⟨[], rfl, fun _ h => by simp at h⟩
  | w :: ws, h => by
    obtain ⟨t, e, p⟩ := h w List.mem_cons_self
    obtain ⟨ts, e2, p2⟩ := pre_of (ws := ws) fun x hx => h x (List.mem_cons_of_mem _ hx)
    exact ⟨t :: ts, by rw [e, e2]; rfl, fun x hx => by
      rcases List.mem_cons.mp hx with rfl | hx
      · exact p
      · exact p2 x hx⟩
end Lx

set_option Elab.async false
set_option linter.all false
set_option maxRecDepth 100000
set_option maxHeartbeats 1000000
namespace Ls
open PySem PySem.Spec PyProof.Rows L2 Sa Va
noncomputable def g__law_saying (self : Fn) : EvS :=
    (sSeq (sSet 3 (eDef 2 (Lw.F__law_take) (aCons (eVar 0) (aCons (eC (.int 4)) aNil))))
    (sSeq (sIf (tOrE (tVal (eOp oLt (eVar 2) (eC (.int 2)))) (tVal (eOp oEq (eVar 3) (eC (.int 0))))) (sRet (eDef 2 (Lw.F__law_simple) (aCons (eVar 0) (aCons (eVar 1) aNil)))) sNil)
    (sSeq (sSet 4 (eDef 3 self (aCons (eVar 0) (aCons (eVar 1) (aCons (eOp oSub (eVar 2) (eC (.int 1))) aNil)))))
    (sSeq (sIf (tVal (eOp oEq (eVar 3) (eC (.int 1)))) (sRet (eTup (aCons (eC (.str "not")) (aCons (eVar 4) aNil)))) sNil)
    (sRet (eTup (aCons (eOp oIx (eLst (aCons (eC (.str "and")) (aCons (eC (.str "or")) aNil))) (eOp oSub (eVar 3) (eC (.int 2)))) (aCons (eVar 4) (aCons (eDef 3 self (aCons (eVar 0) (aCons (eVar 1) (aCons (eOp oSub (eVar 2) (eC (.int 1))) aNil)))) aNil)))))))))
noncomputable def F__law_saying : Nat → Fn
  | 0 => fun _ _ => none
  | k + 1 => nf (fnV 5 (g__law_saying (F__law_saying k)))

noncomputable def g__law_singles (self : Fn) : EvS :=
    (sSeq (sIf (tVal (eOp oInT (eOp oIx (eVar 0) (eC (.int 0))) (eTup (aCons (eC (.str "sum")) (aCons (eC (.str "rest")) aNil))))) (sRet (eLst (aCons (eVar 0) aNil))) sNil)
    (sSeq (sSet 1 (eLst aNil))
    (sSeq (sFor (iSeq (eSlT (some 1) none (eVar 0))) (gN 2) (sFor (iSeq (eDef 1 self (aCons (eVar 2) aNil))) (gN 3) (sSet 1 (eOp oCat (eVar 1) (eOp oRep (eLst (aCons (eVar 3) aNil)) (eCall fInt (aCons (eOp oNotInL (eVar 3) (eVar 1)) aNil)))))))
    (sRet (eCall fSortL (aCons (eVar 1) aNil))))))
noncomputable def F__law_singles : Nat → Fn
  | 0 => fun _ _ => none
  | k + 1 => nf (fnV 4 (g__law_singles (F__law_singles k)))

noncomputable def g_borne : EvS :=
    (sRet (eTupX (iSeq (eOp oIx (eVar 0) (eUn oNeg (eC (.int 1))))) (gN 1) tTrue (eSlT none (some 2) (eVar 1)) [1]))
noncomputable def F_borne : Fn := nf (fnV 2 (g_borne))

noncomputable def g_is_shifted : EvS :=
    (sSeq (sIf (tVal (eOp oIsN (eVar 1) (eC .none))) (sRet (eC (.bool true))) sNil)
    (sRet (eOp oNe (eDef 1 (F_borne) (aCons (eVar 0) aNil)) (eDef 1 (F_borne) (aCons (eVar 1) aNil)))))
noncomputable def F_is_shifted : Fn := nf (fnV 2 (g_is_shifted))

noncomputable def g_is_shift_by : EvS :=
    (sSeq (sAsg (eDef 3 (Pg.F_meet_by) (aCons (eVar 0) (aCons (eVar 1) (aCons (eVar 2) aNil)))) (gT 2 (gsC (gN 3) (gsC (gN 4) gs0))))
    (sRet (eOr (eDef 2 (F_is_shifted) (aCons (eVar 1) (aCons (eVar 3) aNil))) (eDef 2 (F_is_shifted) (aCons (eVar 2) (aCons (eVar 4) aNil))))))
noncomputable def F_is_shift_by : Fn := nf (fnV 5 (g_is_shift_by))

noncomputable def g_is_shift : EvS :=
    (sRet (eDef 3 (F_is_shift_by) (aCons (eDef 1 (Pg.F_simples) (aCons (eVar 0) aNil)) (aCons (eVar 1) (aCons (eVar 2) aNil)))))
noncomputable def F_is_shift : Fn := nf (fnV 3 (g_is_shift))

noncomputable def g__law_bare : EvS :=
    (sRet (eIf (tVal (eOp oIsN (eVar 0) (eC .none))) (eC .none) (eLc (iSeq (eOp oIx (eVar 0) (eUn oNeg (eC (.int 1))))) (gN 1) tTrue (eSlT none (some 2) (eVar 1)) [1])))
noncomputable def F__law_bare : Fn := nf (fnV 2 (g__law_bare))

end Ls

set_option Elab.async false
set_option linter.all false
set_option maxRecDepth 100000
set_option maxHeartbeats 1000000
/-! LsP: is_shift, by value -/
namespace Ls
open PySem PySem.Spec PyProof.Rows L2 Sa Va Pg Lw
/-- who leads and the numbers -/
def bareL : State → List (Bool × Int)
  | .mem _ xs => xs.map fun h => (h.leads, h.number)
  | .note ns => ns
variable {M : Mem}
theorem F_borne_eq (s : State) (small : s.many ≤ 1000) : F_borne [.d (stD s)] M = some (.d (.tuple ((bareL s).map nD)), M) := by
  cases s with
  | mem i xs =>
    have sm : xs.length ≤ sizeLine := small_size small
    have e := gx_map (deps := []) (g := gN 1) (t := tTrue) (e := eSlT none (some 2) (eVar 1)) (ρ0 := [some (W.d (stD (.mem i xs))), none]) (M := M) (fun h : Hold => .d (hD h)) (fun h => .d (nD (h.leads, h.number))) (by simp) xs [] (by simp; exact Nat.le_trans small (by decide))
      fun h _ => ⟨_, by simp [gN]; rfl, rfl, by simp [eSlT, hD, cutG]; rfl⟩
    have mk : mkTup (xs.map fun h => W.d (nD (h.leads, h.number))) = _ := mkTup_of' (fun h : Hold => nD (h.leads, h.number)) xs
    simp only [stD, List.nil_append] at e
    simp [F_borne, nf, fnV, g_borne, stD, eTupX, last3, wipeW, Function.comp_def, e, sm, mk, bareL]
  | note ns =>
    have sm : ns.length ≤ sizeLine := small_size small
    have e := gx_map (deps := []) (g := gN 1) (t := tTrue) (e := eSlT none (some 2) (eVar 1)) (ρ0 := [some (W.d (stD (.note ns))), none]) (M := M) (fun h : Bool × Int => .d (nD h)) (fun h => .d (nD h)) (by simp) ns [] (by simp; exact Nat.le_trans small (by decide))
      fun h _ => ⟨_, by simp [gN]; rfl, rfl, by simp [eSlT, nD, cutG]; rfl⟩
    have mk : mkTup (ns.map fun h => W.d (nD h)) = _ := mkTup_of' nD ns
    simp only [stD, List.nil_append] at e
    simp [F_borne, nf, fnV, g_borne, stD, eTupX, last2, wipeW, Function.comp_def, e, sm, mk, bareL]
theorem eqv_nD (p q : Bool × Int) : PyData.eqv (nD p) (nD q) = decide (p = q) := by
  obtain ⟨a, m⟩ := p
  obtain ⟨b, n⟩ := q
  simp only [nD, PyData.eqv, PyData.eqvAll, Bool.and_true]
  by_cases h1 : a = b <;> by_cases h2 : m = n <;> simp [h1, h2]
theorem eqvAll_nD : ∀ (xs ys : List (Bool × Int)), PyData.eqvAll (xs.map nD) (ys.map nD) = decide (xs = ys)
  | [], [] => by simp [PyData.eqvAll]
  | [], y :: ys => by simp [PyData.eqvAll]
  | x :: xs, [] => by simp [PyData.eqvAll]
  | x :: xs, y :: ys => by
    simp only [List.map_cons, PyData.eqvAll, eqv_nD, eqvAll_nD xs ys]
    by_cases h1 : x = y <;> by_cases h2 : xs = ys <;> simp [h1, h2]
theorem shaped_of {d : PyData} {D N : Nat} (t : Tame d D N) (h : D ≤ 64) : SeqAt.shaped d = true := by
  unfold SeqAt.shaped
  rw [t.lay, Bool.true_and, decide_eq_true_eq]
  exact Nat.le_trans t.dp h
theorem tame_bare {s : State} (h : ShownS s) : Tame (.tuple ((bareL s).map nD)) 2 1540 := by
  cases s with
  | mem i xs =>
    obtain ⟨_, hl, hx⟩ := h
    refine (Tame.tuple (D := 1) (N := 153) fun d hd => ?_).mono (by decide) (by simp [bareL]; omega)
    obtain ⟨x, mx, rfl⟩ := List.mem_map.mp hd
    obtain ⟨y, my, rfl⟩ := List.mem_map.mp mx
    exact tame_nh (hx y my).1 (hx y my).2
  | note ns =>
    obtain ⟨hl, hx⟩ := h
    refine (Tame.tuple (D := 1) (N := 153) fun d hd => ?_).mono (by decide) (by simp [bareL]; omega)
    obtain ⟨x, mx, rfl⟩ := List.mem_map.mp hd
    exact tame_nh (hx x mx).1 (hx x mx).2
theorem shown_many {s : State} (h : ShownS s) : s.many ≤ 1000 := by
  cases s with
  | mem i xs => exact Nat.le_trans h.2.1 (by decide)
  | note ns => exact Nat.le_trans h.1 (by decide)
/-- is one changed, by numbers and leadings -/
def shifted (a : State) : Option State → Bool
  | none => true
  | some b => !decide (bareL a = bareL b)
theorem F_is_shifted_eq {a : State} {o : Option State} (ha : ShownS a) (ho : ShownO o) : F_is_shifted [.d (stD a), .d (oD o)] M = some (.d (.bool (shifted a o)), M) := by
  cases o with
  | none =>
    have nn : oIsN (.d .none) (.d .none) M = some (.d (.bool true), M) := rfl
    simp [F_is_shifted, nf, fnV, g_is_shifted, oD, shifted, nn]
  | some b =>
    have ea := fun M => F_borne_eq (M := M) a (shown_many ha)
    have eb := fun M => F_borne_eq (M := M) b (shown_many (s := b) ho)
    have sa := shaped_of (tame_bare ha) (by decide)
    have sb := shaped_of (tame_bare (s := b) ho) (by decide)
    have eq : oNe (.d (.tuple ((bareL a).map nD))) (.d (.tuple ((bareL b).map nD))) M = some (.d (.bool (!decide (bareL a = bareL b))), M) := by
      simp [oNe, eqD, sa, sb, PyData.eqv, eqvAll_nD]
    have nn : oIsN (.d (stD b)) (.d .none) M = some (.d (.bool false), M) := by cases b <;> rfl
    simp [F_is_shifted, nf, fnV, g_is_shifted, oD, shifted, ea, eb, eq, nn]
/-- does the meeting change a number or who leads -/
def shiftB (Ss : List Simple) (a b : State) : Bool := shifted a (metS Ss a b).1 || shifted b (metS Ss a b).2
theorem F_is_shift_by_eq {Ss : List Simple} (wf : ∀ S ∈ Ss, Wf S) {a b : State} (h1 : a.many = Ss.length) (h2 : b.many = Ss.length) (small : Ss.length ≤ 1000) (sa : ShownS a) (sb : ShownS b) (s1 : ShownO (metS Ss a b).1) (s2 : ShownO (metS Ss a b).2) :
    F_is_shift_by [.d (.tuple (Ss.map sD)), .d (stD a), .d (stD b)] M = some (.d (.bool (shiftB Ss a b)), M) := by
  have m := fun M => F_meet_by_eq (M := M) wf a b h1 h2 small
  have e1 := fun M => F_is_shifted_eq (M := M) sa s1
  have e2 := fun M => F_is_shifted_eq (M := M) sb s2
  cases h : shifted a (metS Ss a b).1 <;> cases h' : shifted b (metS Ss a b).2 <;> rw [h] at e1 <;> rw [h'] at e2 <;> simp [F_is_shift_by, nf, fnV, g_is_shift_by, m, Pg.pairD, e1, e2, shiftB, h, h']
theorem F_is_shift_eq {y : Say} {Ss : List Simple} {kk : Nat} (sd : Said y Ss kk) {a b : State} (da : Drawn Ss a) (db : Drawn Ss b) : F_is_shift [.d (yD y), .d (stD a), .d (stD b)] M = some (.d (.bool (shiftB Ss a b)), M) := by
  have e := fun M => F_simples_eq (M := M) y sd.deep (Nat.le_trans sd.many (by decide)) (fewS sd.many)
  have g := sd.goodS
  have ms := met_shown g sd.pos sd.len da db
  have s := fun M => F_is_shift_by_eq (M := M) (Ss := Ss) (fun S hS => (g S hS).wf sd.pos) da.many db.many (Nat.le_trans sd.len (by decide)) (da.shown g sd.pos sd.len) (db.shown g sd.pos sd.len) ms.1 ms.2
  rw [← sd.row] at e
  simp [F_is_shift, nf, fnV, g_is_shift, e, s]
/-- numbers and leadings alone, as the law has them -/
def bareW : Option State → List W
  | none => []
  | some s => (bareL s).map fun p => .d (nD p)
theorem cut2_mem (h : Hold) : cutG ([.bool h.leads, .int h.number, .bool h.word].map W.d) none (some 2) = [W.d (.bool h.leads), W.d (.int h.number)] := rfl
end Ls

set_option Elab.async false
set_option linter.all false
set_option maxRecDepth 100000
set_option maxHeartbeats 1000000
/-! LsQ: the law's own rule of shifts, by value -/
namespace Ls
open PySem PySem.Spec PyProof.Rows L2 Sa Va Pg Lw
variable {M : Mem}
theorem deepAll_d {τ : Type} (f : τ → PyData) (n : Nat) : ∀ (xs : List τ), deepAll M n (xs.map fun p => W.d (f p)) = some (xs.map f)
  | [] => by simp [deepAll]
  | x :: xs => by
    have : deepD M n (W.d (f x)) = some (f x) := by cases n <;> simp [deepD]
    simp [deepAll, this, deepAll_d f n xs]
theorem shaped_list {ds : List PyData} : SeqAt.shaped (.list ds) = SeqAt.shaped (.tuple ds) := by
  simp [SeqAt.shaped, PyData.canLay0, PyData.depth]
theorem F__law_bare_none : F__law_bare [.d .none] M = some (.d .none, M) := by
  have nn : oIsN (.d .none) (.d .none) M = some (.d (.bool true), M) := rfl
  simp [F__law_bare, nf, fnV, g__law_bare, nn]
theorem F__law_bare_some (s : State) (small : s.many ≤ 1000) : F__law_bare [.d (stD s)] M = some (.obj M.length, M ++ [.lst ((bareL s).map fun p => .d (nD p))]) := by
  have nn : oIsN (.d (stD s)) (.d .none) M = some (.d (.bool false), M) := by cases s <;> rfl
  cases s with
  | mem i xs =>
    have e : lcL [] (gN 1) tTrue (eSlT none (some 2) (eVar 1)) [some (W.d (stD (.mem i xs))), none] M.length (xs.map fun h => .d (hD h)) (M ++ [.lst []]) = some (M ++ [.lst (xs.map fun h => .d (nD (h.leads, h.number)))]) :=
      lc_map (M := M) xs (fun h => .d (hD h)) (fun h => .d (nD (h.leads, h.number))) (fun _ => by simp) (Nat.le_trans small (by decide)) fun t ht => ⟨_, by simp [gN]; rfl, fun acc => by simp [eSlT, hD, cutG]; rfl⟩
    have nl := norm_l (M := M) (M1 := M) (J := [.lst (xs.map fun h => .d (nD (h.leads, h.number)))]) (j := 0) (us := xs.map fun h => .d (nD (h.leads, h.number))) rfl (all_isD (fun h : Hold => nD (h.leads, h.number)) xs) .refl
    simp only [stD] at e nn
    simp [F__law_bare, nf, fnV, g__law_bare, nn, stD, last3, bareL, Function.comp_def, e]
    simpa using nl
  | note ns =>
    have e : lcL [] (gN 1) tTrue (eSlT none (some 2) (eVar 1)) [some (W.d (stD (.note ns))), none] M.length (ns.map fun h => .d (nD h)) (M ++ [.lst []]) = some (M ++ [.lst (ns.map fun h => .d (nD h))]) :=
      lc_map (M := M) ns (fun h => .d (nD h)) (fun h => .d (nD h)) (fun _ => by simp) (Nat.le_trans small (by decide)) fun t ht => ⟨_, by simp [gN]; rfl, fun acc => by simp [eSlT, nD, cutG]; rfl⟩
    have nl := norm_l (M := M) (M1 := M) (J := [.lst (ns.map fun h => .d (nD h))]) (j := 0) (us := ns.map fun h => .d (nD h)) rfl (all_isD nD ns) .refl
    simp only [stD] at e nn
    simp [F__law_bare, nf, fnV, g__law_bare, nn, stD, last2, bareL, Function.comp_def, e]
    simpa using nl
/-- a state's bare holds, or none, as data -/
def bD : Option State → PyData
  | none => .none
  | some s => .list ((bareL s).map nD)
theorem eqv_b (o : Option State) (a : State) : PyData.eqv (bD o) (bD (some a)) = !shifted a o := by
  cases o with
  | none => simp [bD, PyData.eqv, shifted]
  | some b =>
    simp only [bD, PyData.eqv, eqvAll_nD, shifted, Bool.not_not]
    by_cases h : bareL b = bareL a
    · simp [h]
    · have h' : ¬ bareL a = bareL b := fun z => h z.symm
      simp [h, h']
theorem bare_lay {o : Option State} (h : ShownO o) : PyData.canLay0 (bD o) = true ∧ PyData.depth (bD o) ≤ 2 := by
  cases o with
  | none => exact ⟨rfl, by simp [bD, PyData.depth]⟩
  | some s =>
    have t := tame_bare (s := s) h
    have t1 := t.lay
    have t2 := t.dp
    simp only [bD, PyData.canLay0, PyData.depth] at t1 t2 ⊢
    exact ⟨t1, t2⟩
theorem shaped_two {o p : Option State} (h1 : ShownO o) (h2 : ShownO p) : SeqAt.shaped (.list [bD o, bD p]) = true := by
  obtain ⟨a1, a2⟩ := bare_lay h1
  obtain ⟨b1, b2⟩ := bare_lay h2
  simp only [SeqAt.shaped, PyData.canLay0, PyData.canLayAll0, PyData.depth, PyData.depthAll, a1, b1, Bool.and_true, Bool.true_and]
  refine decide_eq_true ?_
  have h3 : max (PyData.depth (bD p)) 0 ≤ 2 := Nat.max_le.mpr ⟨b2, by decide⟩
  have h4 := Nat.max_le.mpr ⟨a2, h3⟩
  omega
theorem due_end {x y : W} {M1 : Mem} {o p : Option State} {a b : State} (dx : deepD M1 3 x = some (.list [bD o, bD p])) (dy : deepD M1 3 y = some (.list [bD (some a), bD (some b)])) (s1 : SeqAt.shaped (.list [bD o, bD p]) = true) (s2 : SeqAt.shaped (.list [bD (some a), bD (some b)]) = true) :
    oNeL x y M1 = some (.d (.bool (shifted a o || shifted b p)), M1) := by
  have e1 := eqv_b o a
  have e2 := eqv_b p b
  have e : PyData.eqv (.list [bD o, bD p]) (.list [bD (some a), bD (some b)]) = (!shifted a o && (!shifted b p && true)) := by
    simp only [PyData.eqv, PyData.eqvAll, e1, e2]
  simp [oNeL, eqL, dx, dy, s1, s2, e]
end Ls

set_option Elab.async false
set_option linter.all false
set_option maxRecDepth 100000
set_option maxHeartbeats 1000000
/-! LsR: the drawn saying -/
namespace Ls
open PySem PySem.Spec PyProof.Rows L2 Sa Va Pg Lw
/-- what is drawn -/
def SayOk (d sorts : Nat) (w : W) : Prop := ∃ y : Say, w = .d (yD y) ∧ y.deep ≤ d + 1 ∧ y.leaves.length ≤ 2 ^ d ∧ ∀ S ∈ y.leaves, GoodS S sorts
theorem d_saying {sorts : Nat} (h0 : 0 < sorts) (hs : sorts ≤ 6) : ∀ (d k : Nat), d ≤ k → d ≤ 3 → Draws (F__law_saying (k + 1)) (fun h => [.obj h, .d (.int sorts), .d (.int (d + 1 : Nat))]) (17 * 3 ^ d) (SayOk d sorts) := by
  intro d
  induction d with
  | zero =>
    intro k _ _ M h n Q hd nb q
    simp [F__law_saying, nf, fnV, g__law_saying]
    refine (d_take (by decide) (by decide)) M h n _ hd (by omega) fun w M1 ⟨v, ev, v0, v1⟩ hd1 up1 => ?_
    subst ev
    simp
    refine (d_simple h0 hs) M1 h (n + 1) _ hd1 (by omega) fun w M2 ⟨S, eS, gS⟩ hd2 up2 => ?_
    subst eS
    have up := up1.trans up2
    have hd3 : HandAt M2 h (n + 17) := hd2.mono (by omega)
    simp
    rw [hd3.norm0 up rfl]
    exact q _ M2 ⟨.one S, rfl, by simp [Say.deep], by simp [Say.leaves], fun T hT => by simp [Say.leaves] at hT; rw [hT]; exact gS⟩ (hd3.mono (by simp)) up
  | succ d ih =>
    intro k dk d3 M h n Q hd nb q
    obtain ⟨k, rfl⟩ : ∃ k', k = k' + 1 := ⟨k - 1, by omega⟩
    have D := ih k (by omega) (by omega)
    have c : (17 * 3 ^ (d + 1) : Int) = 3 * (17 * 3 ^ d) := by rw [Int.pow_succ]; omega
    have cp : (17 : Int) ≤ 17 * 3 ^ d := by
      have : (0 : Int) < 3 ^ d := Int.pow_pos (by decide)
      omega
    rw [c] at nb q
    generalize (17 * 3 ^ d : Int) = C at *
    have sub1 : ((d + 1 + 1 : Nat) : Int) - 1 = ((d + 1 : Nat) : Int) := by omega
    have nlt : ¬ ((d + 1 + 1 : Nat) : Int) < 2 := by omega
    have leq : ∀ y : Say, y.deep ≤ d + 1 → y.deep ≤ d + 1 + 1 := fun y hy => by omega
    have p2 : 2 ^ (d + 1) = 2 * 2 ^ d := by rw [Nat.pow_succ]; omega
    unfold F__law_saying
    simp [nf, fnV, g__law_saying]
    refine (d_take (by decide) (by decide)) M h n _ hd (by omega) fun w M1 ⟨v, ev, v0, v1⟩ hd1 up1 => ?_
    subst ev
    simp
    rw [if_neg (by omega)]
    have cast1 : ((d : Int) + 1) = ((d + 1 : Nat) : Int) := by omega
    rw [cast1]
    split
    · refine (d_simple h0 hs) M1 h (n + 1) _ hd1 (by omega) fun w M2 ⟨S, eS, gS⟩ hd2 up2 => ?_
      subst eS
      have up := up1.trans up2
      have hd3 : HandAt M2 h (n + 3 * C) := hd2.mono (by omega)
      simp only
      rw [hd3.norm0 up rfl]
      have : 0 < 2 ^ d := Nat.pow_pos (by decide)
      exact q _ M2 ⟨.one S, rfl, by simp [Say.deep], by simp [Say.leaves]; omega, fun T hT => by simp [Say.leaves] at hT; rw [hT]; exact gS⟩ hd3 up
    · refine D M1 h (n + 1) _ hd1 (by omega) fun w M2 ⟨y, ey, yd, yl, yg⟩ hd2 up2 => ?_
      subst ey
      have up := up1.trans up2
      simp only
      split
      · have hd3 : HandAt M2 h (n + 3 * C) := hd2.mono (by omega)
        have mk : mkTup [W.d (PyData.str (Str.ofString "not")), W.d (yD y)] = .d (yD (.no y)) := rfl
        rw [mk, hd3.norm0 up rfl]
        exact q _ M2 ⟨.no y, rfl, by simp [Say.deep]; omega, by simp [Say.leaves]; omega, yg⟩ hd3 up
      · have v23 : v = 2 ∨ v = 3 := by omega
        have fin : ∀ (z : Say) (M3 : Mem), z.deep ≤ d + 1 → z.leaves.length ≤ 2 ^ d → (∀ S ∈ z.leaves, GoodS S sorts) → HandAt M3 h (n + 1 + C + C) → Upd h M2 M3 → ∀ u : Say, (u = .an y z ∨ u = .or y z) → Q (norm M (.d (yD u), M3 ++ [MO.lst [W.d (PyData.str (Str.ofString "and")), W.d (PyData.str (Str.ofString "or"))]])) := by
          intro z M3 zd zl zg hd3 up3 u hu
          have hd4 : HandAt M3 h (n + 3 * C) := hd3.mono (by omega)
          have up' := up.trans up3
          rw [hd4.norm up' rfl]
          refine q _ M3 ⟨u, rfl, ?_, ?_, ?_⟩ hd4 up'
          · rcases hu with rfl | rfl <;> simp only [Say.deep] <;> omega
          · rcases hu with rfl | rfl <;> simp only [Say.leaves, List.length_append] <;> omega
          · rcases hu with rfl | rfl <;> (intro S hS; simp only [Say.leaves, List.mem_append] at hS; rcases hS with hS | hS; exact yg S hS; exact zg S hS)
        rcases v23 with rfl | rfl
        · refine ⟨_, rfl, D.app hd2 (by omega) fun w M3 ⟨z, ez, zd, zl, zg⟩ hd3 up3 => ?_⟩
          subst ez
          exact fin z M3 zd zl zg hd3 up3 (.an y z) (.inl rfl)
        · refine ⟨_, rfl, D.app hd2 (by omega) fun w M3 ⟨z, ez, zd, zl, zg⟩ hd3 up3 => ?_⟩
          subst ez
          exact fin z M3 zd zl zg hd3 up3 (.or y z) (.inr rfl)
end Ls

set_option Elab.async false
set_option linter.all false
set_option maxRecDepth 100000
set_option maxHeartbeats 1000000
/-! LsS: the law's own row of simple ones -/
namespace Ls
open PySem PySem.Spec PyProof.Rows L2 Sa Va Pg Lw
theorem eqvAll_int : ∀ (xs ys : List Int), PyData.eqvAll (xs.map .int) (ys.map .int) = decide (xs = ys)
  | [], [] => by simp [PyData.eqvAll]
  | [], y :: ys => by simp [PyData.eqvAll]
  | x :: xs, [] => by simp [PyData.eqvAll]
  | x :: xs, y :: ys => by
    simp only [List.map_cons, PyData.eqvAll, eqvAll_int xs ys, PyData.eqv]
    by_cases h1 : x = y <;> by_cases h2 : xs = ys <;> simp [h1, h2]
theorem nrs : ¬ (Str.ofString "rest" = Str.ofString "sum") := by decide +kernel
theorem eqv_sD (S T : Simple) : PyData.eqv (sD S) (sD T) = decide (S = T) := by
  cases S with
  | sum ws c =>
    cases T with
    | sum vs d =>
      simp only [sD, wsD, PyData.eqv, PyData.eqvAll, eqvAll_int, Bool.and_true]
      by_cases h1 : ws = vs <;> by_cases h2 : c = d <;> simp [h1, h2]
    | rest vs r m => simp [sD, PyData.eqv, PyData.eqvAll]
  | rest ws r m =>
    cases T with
    | sum vs d => simp [sD, PyData.eqv, PyData.eqvAll]
    | rest vs q k =>
      simp only [sD, wsD, PyData.eqv, PyData.eqvAll, eqvAll_int, Bool.and_true]
      by_cases h1 : ws = vs <;> by_cases h2 : r = q <;> by_cases h3 : m = k <;> simp [h1, h2, h3]
theorem any_sD (F : List Simple) (S : Simple) : ((F.map sD).any fun z => PyData.eqv z (sD S)) = decide (S ∈ F) := by
  induction F with
  | nil => simp
  | cons T F ih =>
    simp only [List.map_cons, List.any_cons, ih, eqv_sD]
    by_cases h1 : T = S
    · simp [h1]
    · have h2 : ¬ S = T := fun z => h1 z.symm
      simp [h1, h2]
theorem tame_sum : Tame (.str "sum") 0 50 := ⟨rfl, by decide +kernel, Nat.le_refl _, by decide +kernel, rfl⟩
theorem tame_rest : Tame (.str "rest") 0 50 := ⟨rfl, by decide +kernel, Nat.le_refl _, by decide +kernel, rfl⟩
theorem tame_sD {S : Simple} {k : Nat} (g : GoodS S k) (h6 : k ≤ 6) : Tame (sD S) 3 1000 := by
  have tw : Tame (wsD S.ws) 1 400 := by
    refine (Tame.tuple (D := 0) (N := 50) fun d hd => ?_).mono (by decide) (by rw [List.length_map, g.many]; omega)
    obtain ⟨w, hw, rfl⟩ := List.mem_map.mp hd
    have := g.worth w hw
    exact Tame.int (by omega) (by omega)
  cases S with
  | sum ws c =>
    have := g.sum ws c rfl
    exact (tame_sum.cons (tw.cons ((Tame.int (i := c) (by omega) (by omega)).cons .nil))).mono (by decide) (by decide)
  | rest ws r m =>
    have := g.rest ws r m rfl
    exact (tame_rest.cons (tw.cons ((Tame.int (i := r) (by omega) (by omega)).cons ((Tame.int (i := m) (by omega) (by omega)).cons .nil)))).mono (by decide) (by decide)
theorem shaped_sDs {F : List Simple} {k : Nat} (g : ∀ S ∈ F, GoodS S k) (h6 : k ≤ 6) : SeqAt.shaped (.list (F.map sD)) = true := by
  rw [shaped_list]
  refine shaped_of (D := 4) (N := (F.map sD).length * 1001) (Tame.tuple (D := 3) (N := 1000) fun d hd => ?_) (by decide)
  obtain ⟨S, hS, rfl⟩ := List.mem_map.mp hd
  exact tame_sD (g S hS) h6
/-- put in what isn't there yet -/
def ins (F : List Simple) (S : Simple) : List Simple := if S ∈ F then F else F ++ [S]
variable {M : Mem}
abbrev lstS (F : List Simple) : MO := .lst (F.map fun S => W.d (sD S))
theorem notIn_eq {F : List Simple} {S : Simple} {k i : Nat} (hi : M[i]? = some (lstS F)) (gF : ∀ S ∈ F, GoodS S k) (gS : GoodS S k) (h6 : k ≤ 6) : oNotInL (.d (sD S)) (.obj i) M = some (.d (.bool (!decide (S ∈ F))), M) := by
  have s1 := shaped_of (tame_sD gS h6) (by decide)
  have s2 := shaped_sDs gF h6
  have e := deepAll_d (M := M) sD 0 F
  have a := any_sD F S
  rw [List.any_map] at a
  simp [oNotInL, inL, hi, e, s1, s2, a]
theorem rep0 {l : Nat} {w : W} (h : M[l]? = some (.lst [w])) : oRep (.obj l) (.d (.int 0)) M = some (.obj M.length, M ++ [.lst []]) := by
  have e : lstAt M (.obj l) = some (l, [w]) := x_lstAt h
  simp only [oRep, e, asI, Option.bind_some]
  rw [if_pos ⟨by decide, by decide, by simp⟩]
  rfl
theorem rep1 {l : Nat} {w : W} (h : M[l]? = some (.lst [w])) : oRep (.obj l) (.d (.int 1)) M = some (.obj M.length, M ++ [.lst [w]]) := by
  have e : lstAt M (.obj l) = some (l, [w]) := x_lstAt h
  simp only [oRep, e, asI, Option.bind_some]
  rw [if_pos ⟨by decide, by decide, by show 1 ≤ sizeLine; decide⟩]
  rfl
theorem cat_eq {i j : Nat} {us vs : List W} (h1 : M[i]? = some (.lst us)) (h2 : M[j]? = some (.lst vs)) (small : us.length + vs.length ≤ 2000) : oCat (.obj i) (.obj j) M = some (.obj M.length, M ++ [.lst (us ++ vs)]) := by
  simp only [oCat, x_lstAt h1, x_lstAt h2, Option.bind_some]
  rw [if_pos (Nat.le_trans small (by decide))]
theorem ins_turn {F : List Simple} {S : Simple} {k i : Nat} {y0 z0 : Option W} (hi : M[i]? = some (lstS F)) (gF : ∀ S ∈ F, GoodS S k) (gS : GoodS S k) (h6 : k ≤ 6) (few : F.length ≤ 1000) :
    ∃ J i', (sSet 1 (eOp oCat (eVar 1) (eOp oRep (eLst (aCons (eVar 3) aNil)) (eCall fInt (aCons (eOp oNotInL (eVar 3) (eVar 1)) aNil))))) [y0, some (.obj i), z0, some (.d (sD S))] M = some (.nx [y0, some (.obj i'), z0, some (.d (sD S))] (M ++ J)) ∧ (M ++ J)[i']? = some (lstS (ins F S)) := by
  have ni := notIn_eq (M := M ++ [.lst [W.d (sD S)]]) (get_old hi) gF gS h6
  have at0 : (M ++ [MO.lst [W.d (sD S)]])[M.length]? = some (.lst [W.d (sD S)]) := by simp
  by_cases h : S ∈ F
  · simp only [h, decide_true, Bool.not_true] at ni
    have r := rep0 at0
    have c := cat_eq (M := M ++ [MO.lst [W.d (sD S)]] ++ [.lst []]) (i := i) (j := M.length + 1) (us := F.map fun S => W.d (sD S)) (vs := []) (get_old (get_old hi)) (by simp) (by simp; omega)
    simp only [List.length_append, List.length_singleton, List.append_assoc, List.cons_append, List.nil_append] at r c
    refine ⟨[MO.lst [W.d (sD S)], .lst [], .lst (F.map fun S => W.d (sD S))], M.length + 2, ?_, ?_⟩
    · simp [ni, r, c]
    · simp [ins, h]
  · simp only [h, decide_false, Bool.not_false] at ni
    have r := rep1 at0
    have c := cat_eq (M := M ++ [MO.lst [W.d (sD S)]] ++ [.lst [W.d (sD S)]]) (i := i) (j := M.length + 1) (us := F.map fun S => W.d (sD S)) (vs := [W.d (sD S)]) (get_old (get_old hi)) (by simp) (by simp; omega)
    simp only [List.length_append, List.length_singleton, List.append_assoc, List.cons_append, List.nil_append] at r c
    refine ⟨[MO.lst [W.d (sD S)], .lst [W.d (sD S)], .lst ((F.map fun S => W.d (sD S)) ++ [W.d (sD S)])], M.length + 2, ?_, ?_⟩
    · simp [ni, r, c]
    · simp [ins, h]
theorem ins_mem (F : List Simple) (S T : Simple) : T ∈ ins F S ↔ T ∈ F ∨ T = S := by
  unfold ins
  split
  · rename_i h
    exact ⟨.inl, fun z => by rcases z with z | z; exact z; rw [z]; exact h⟩
  · simp
theorem ins_nodup {F : List Simple} {S : Simple} (nd : F.Nodup) : (ins F S).Nodup := by
  unfold ins
  split
  · exact nd
  · rename_i h
    rw [List.nodup_append]
    exact ⟨nd, by simp, fun a ha b hb => by simp at hb; rw [hb]; exact fun z => h (by rw [← z]; exact ha)⟩
theorem ins_len (F : List Simple) (S : Simple) : (ins F S).length ≤ F.length + 1 := by
  unfold ins
  split <;> simp
/-- a found row, of what ls has -/
structure Found (F ls : List Simple) (k : Nat) : Prop where
  nd : F.Nodup
  mem : ∀ S, S ∈ F ↔ S ∈ ls
  good : ∀ S ∈ F, GoodS S k
  few : F.length ≤ ls.length
theorem Found.ins {F ls : List Simple} {k : Nat} (f : Found F ls k) {S : Simple} (g : GoodS S k) : Found (ins F S) (ls ++ [S]) k :=
  ⟨ins_nodup f.nd, fun T => by rw [ins_mem, f.mem]; simp, fun T hT => by
    rcases (ins_mem F S T).mp hT with z | z
    · exact f.good T z
    · rw [z]; exact g, by have := ins_len F S; have := f.few; simp; omega⟩
abbrev insB : EvS := sSet 1 (eOp oCat (eVar 1) (eOp oRep (eLst (aCons (eVar 3) aNil)) (eCall fInt (aCons (eOp oNotInL (eVar 3) (eVar 1)) aNil))))
/-- what the inner loop does: M grows, slot 1 holds the found row -/
def InI (y0 z0 : Option W) (M0 : Mem) (ls : List Simple) (k : Nat) (ρ : Ev) (M : Mem) : Prop := ∃ J i w F, M = M0 ++ J ∧ ρ = [y0, some (.obj i), z0, w] ∧ M[i]? = some (lstS F) ∧ Found F ls k
theorem inner {y0 z0 : Option W} {M0 : Mem} {ls Ts : List Simple} {k l : Nat} {ρ : Ev} (h6 : k ≤ 6) (hl : M0[l]? = some (lstS Ts)) (gT : ∀ S ∈ Ts, GoodS S k) (few : ls.length + Ts.length ≤ 1000) (h0 : InI y0 z0 M0 ls k ρ M) :
    Ok (forL [(l, .lst (Ts.map fun S => W.d (sD S)))] (gN 3) insB (Ts.map fun S => W.d (sD S)) ρ M) fun o => ∃ ρ' M', o = .nx ρ' M' ∧ InI y0 z0 M0 (ls ++ Ts) k ρ' M' := by
  refine Ok.mono (for_ok (items0 := Ts.map fun S => W.d (sD S)) (fun j ρ M => InI y0 z0 M0 (ls ++ Ts.take j) k ρ M) (fun ρ M => InI y0 z0 M0 (ls ++ Ts) k ρ M) (fun _ _ => False) (fun j ρ M _ h => ?_) (fun ρ M h => ?_) (fun j w ρ M hw h => ?_) _ 0 _ _ rfl (Nat.zero_le _) (by simpa using h0)) fun o ho => ?_
  · obtain ⟨J, i, w, F, rfl, _, _, _⟩ := h
    rw [Deps.one]
    exact get_old hl
  · simpa using h
  · rw [List.getElem?_map] at hw
    obtain ⟨S, hS, rfl⟩ := Option.map_eq_some_iff.mp hw
    obtain ⟨J, i, w, F, rfl, rfl, hi, f⟩ := h
    have gS := gT S (List.mem_of_getElem? hS)
    have tl : (Ts.take j).length ≤ Ts.length := by simp; omega
    have ff := f.few
    simp only [List.length_append] at ff
    obtain ⟨J', i', e, hi'⟩ := ins_turn (y0 := y0) (z0 := z0) hi f.good gS h6 (by omega)
    refine ⟨_, rfl, _, e, J ++ J', i', _, ins F S, by simp, rfl, hi', ?_⟩
    have := f.ins gS
    have tk : ls ++ List.take (j + 1) Ts = ls ++ List.take j Ts ++ [S] := by rw [List.take_succ, hS]; simp
    rw [tk]
    exact this
  · cases o with
    | nx ρ M' => exact ⟨ρ, M', rfl, ho⟩
    | bk ρ M' => exact ho.elim
    | ct ρ M' => exact ho.elim
    | rt w M' => exact ho.elim
end Ls

set_option Elab.async false
set_option linter.all false
set_option maxRecDepth 100000
set_option maxHeartbeats 1000000
/-! LsT: the law's own row of simple ones is rowOf -/
namespace Ls
open PySem PySem.Spec PyProof.Rows L2 Sa Va Pg Lw
variable {M : Mem}
theorem rowOf_len (ls : List Simple) : (rowOf ls).length ≤ ls.length := nodup_le (rowOf_nodup _) fun S hS => (rowOf_mem _ S).mp hS
theorem Found.row {F ls ms : List Simple} {k : Nat} (f : Found F (ls ++ rowOf ms) k) : Found F (ls ++ ms) k :=
  ⟨f.nd, fun S => by rw [f.mem]; simp [rowOf_mem], f.good, by have := f.few; have := rowOf_len ms; simp at *; omega⟩
theorem sort_eq {F ls : List Simple} {k i : Nat} (hi : M[i]? = some (lstS F)) (f : Found F ls k) : fSortL [.obj i] M = some (.obj M.length, M ++ [lstS (rowOf ls)]) := by
  have e : lstAt M (.obj i) = some (i, F.map fun S => W.d (sD S)) := x_lstAt hi
  have ed : datas (F.map fun S => W.d (sD S)) = some (F.map sD) := datas_of sD F
  have mm : (F.mergeSort (PySem.W.dataLe false sD)).map sD = (F.map sD).mergeSort (PySem.W.dataLe false id) := List.map_mergeSort fun a _ b _ => rfl
  have one : F.mergeSort (PySem.W.dataLe false sD) = rowOf ls := rising_one (row_sorted F) (row_sorted _) ((List.mergeSort_perm _ _).nodup_iff.mpr f.nd) (rowOf_nodup ls) fun S => by rw [(List.mergeSort_perm _ _).mem_iff, rowOf_mem]; exact f.mem S
  simp only [fSortL, e, ed, Option.bind_some]
  rw [if_pos ⟨fun d hd d' hd' => by
    obtain ⟨S, _, rfl⟩ := List.mem_map.mp hd
    obtain ⟨T, _, rfl⟩ := List.mem_map.mp hd'
    exact sD_alike2 S T, fun d hd => by
    obtain ⟨S, _, rfl⟩ := List.mem_map.mp hd
    cases S <;> exact ⟨_, _, rfl⟩, fun d hd => by
    obtain ⟨S, _, rfl⟩ := List.mem_map.mp hd
    exact sD_depth S⟩, ← mm, one, List.map_map]
  rfl
def OutI (y0 : Option W) (M0 : Mem) (ls : List Simple) (k : Nat) (ρ : Ev) (M : Mem) : Prop := ∃ J i v w F, M = M0 ++ J ∧ ρ = [y0, some (.obj i), v, w] ∧ M[i]? = some (lstS F) ∧ Found F ls k
theorem outer {self : Fn} {y0 : Option W} {M0 : Mem} {k : Nat} {ρ : Ev} (h6 : k ≤ 6) (ys : List Say) (hs : ∀ y ∈ ys, ∀ M, self [.d (yD y)] M = some (.obj M.length, M ++ [lstS (rowOf y.leaves)])) (g : ∀ y ∈ ys, ∀ S ∈ y.leaves, GoodS S k) (few : (ys.flatMap Say.leaves).length ≤ 500) (h0 : OutI y0 M0 [] k ρ M) :
    Ok (forL [] (gN 2) (sFor (iSeq (eDef 1 self (aCons (eVar 2) aNil))) (gN 3) insB) (ys.map fun y => W.d (yD y)) ρ M) fun o => ∃ ρ' M', o = .nx ρ' M' ∧ OutI y0 M0 (ys.flatMap Say.leaves) k ρ' M' := by
  refine Ok.mono (for_ok (items0 := ys.map fun y => W.d (yD y)) (fun j ρ M => OutI y0 M0 ((ys.take j).flatMap Say.leaves) k ρ M) (fun ρ M => OutI y0 M0 (ys.flatMap Say.leaves) k ρ M) (fun _ _ => False) (fun j ρ M _ h => by simp) (fun ρ M h => ?_) (fun j w ρ M hw h => ?_) _ 0 _ _ rfl (Nat.zero_le _) (by simpa using h0)) fun o ho => ?_
  · simpa using h
  · rw [List.getElem?_map] at hw
    obtain ⟨y, hy, rfl⟩ := Option.map_eq_some_iff.mp hw
    have my := List.mem_of_getElem? hy
    obtain ⟨J, i, v, w, F, rfl, rfl, hi, f⟩ := h
    have e := hs y my (M0 ++ J)
    have tk : (ys.take (j + 1)).flatMap Say.leaves = (ys.take j).flatMap Say.leaves ++ y.leaves := by rw [List.take_succ, hy]; simp
    have le : ((ys.take j).flatMap Say.leaves).length + y.leaves.length ≤ 500 := by
      have : ys = ys.take j ++ y :: ys.drop (j + 1) := by
        obtain ⟨hj, ej⟩ := List.getElem?_eq_some_iff.mp hy
        rw [← ej, List.getElem_cons_drop, List.take_append_drop]
      rw [this] at few
      simp only [List.flatMap_append, List.flatMap_cons, List.length_append] at few
      omega
    have rl := rowOf_len y.leaves
    have inn := inner (M := (M0 ++ J) ++ [lstS (rowOf y.leaves)]) (y0 := y0) (z0 := some (.d (yD y))) (M0 := (M0 ++ J) ++ [lstS (rowOf y.leaves)]) (ls := (ys.take j).flatMap Say.leaves) (Ts := rowOf y.leaves) (l := (M0 ++ J).length) (ρ := [y0, some (.obj i), some (.d (yD y)), w]) h6 (by simp) (fun S hS => g y my S ((rowOf_mem _ S).mp hS)) (by omega) ⟨[], i, w, F, by simp, rfl, get_old hi, f⟩
    refine ⟨_, rfl, ?_⟩
    have fo : (sFor (iSeq (eDef 1 self (aCons (eVar 2) aNil))) (gN 3) insB) [y0, some (.obj i), some (.d (yD y)), w] (M0 ++ J) = forL [((M0 ++ J).length, .lst ((rowOf y.leaves).map fun S => W.d (sD S)))] (gN 3) insB ((rowOf y.leaves).map fun S => W.d (sD S)) [y0, some (.obj i), some (.d (yD y)), w] ((M0 ++ J) ++ [lstS (rowOf y.leaves)]) := by
      simp only [sFor, iSeq, eDef, aCons, aNil, eVar]
      simp [e]
    show Ok ((sFor (iSeq (eDef 1 self (aCons (eVar 2) aNil))) (gN 3) insB) [y0, some (.obj i), some (.d (yD y)), w] (M0 ++ J)) _
    rw [fo]
    refine Ok.mono inn fun o ⟨ρ', M', eo, J', i', w', F', eM, eρ, hi', f'⟩ => ?_
    subst eo
    show OutI _ _ _ _ _ _
    rw [tk]
    exact ⟨J ++ [lstS (rowOf y.leaves)] ++ J', i', _, w', F', by rw [eM]; simp, eρ, hi', f'.row⟩
  · cases o with
    | nx ρ M' => exact ⟨ρ, M', rfl, ho⟩
    | bk ρ M' => exact ho.elim
    | ct ρ M' => exact ho.elim
    | rt w M' => exact ho.elim
end Ls

set_option Elab.async false
set_option linter.all false
set_option maxRecDepth 100000
set_option maxHeartbeats 1000000
/-! TrA: truths of sayings by words and by counts -/
namespace Tr
open PySem PySem.Spec PyProof.Rows L2 Sa Va Pg
open Lw (GoodS cm_left cm_right nodup_le)
theorem dGet_none {es : List (PyData × PyData)} {k : PyData} (h : ∀ e ∈ es, nk e.1 ≠ nk k) : dGet es k = none := by
  unfold dGet
  rw [Option.map_eq_none_iff, List.find?_eq_none]
  intro e he z
  exact h e he (by simpa using z)
theorem dPut_new {es : List (PyData × PyData)} {k v : PyData} (h : ∀ e ∈ es, nk e.1 ≠ nk k) : dPut es k v = es ++ [(k, v)] := by
  unfold dPut
  rw [dGet_none h]
  rfl
section
variable {τ : Type} {g : EvG} {t : EvT} {ek ev : EvE} {ρ0 : Ev} {M : Mem}
/-- a dict comprehension whose keys are all unlike -/
theorem dc_map (inj : τ → W) (key vl : τ → PyData) (hd : ∀ es n, Deps deps (M ++ [.dic es n])) : ∀ (xs : List τ) (es : List (PyData × PyData)) (n : Nat), es.length + xs.length ≤ 1000 → ((es.map fun e => nk e.1) ++ xs.map fun x => nk (key x)).Nodup →
    (∀ x ∈ xs, keyD (.d (key x)) = some (key x) ∧ ∃ ρ1, g (inj x) ρ0 = some ρ1 ∧ ∀ es n, t ρ1 (M ++ [.dic es n]) = some (true, M ++ [.dic es n]) ∧ ek ρ1 (M ++ [.dic es n]) = some (.d (key x), M ++ [.dic es n]) ∧ ev ρ1 (M ++ [.dic es n]) = some (.d (vl x), M ++ [.dic es n])) →
    ∃ n', dcL deps g t ek ev ρ0 M.length (xs.map inj) (M ++ [.dic es n]) = some (M ++ [.dic (es ++ xs.map fun x => (key x, vl x)) n'])
  | [], es, n, _, _, _ => ⟨n, by simp [dcL, hd]⟩
  | x :: xs, es, n, small, nd, turn => by
    obtain ⟨kd, ρ1, h1, h2⟩ := turn x List.mem_cons_self
    obtain ⟨a, b, c⟩ := h2 es n
    have fits : es.length < sizeLine := Nat.lt_of_lt_of_le (by simp at small; omega : es.length < 1001) (by decide)
    have new : ∀ e ∈ es, nk e.1 ≠ nk (key x) := fun e he z => by
      rw [List.nodup_append] at nd
      exact nd.2.2 (nk e.1) (List.mem_map.mpr ⟨e, he, rfl⟩) (nk (key x)) (by simp) z
    have da : dicAt (M ++ [.dic es n]) (.obj M.length) = some (M.length, es) := by simp [dicAt]
    have st : ∀ X, (M ++ [MO.dic es n]).set M.length X = M ++ [X] := fun X => by simp
    obtain ⟨n', ih⟩ := dc_map inj key vl hd xs (es ++ [(key x, vl x)]) (stampAt (M ++ [.dic es n]) M.length + 1) (by simp at small ⊢; omega) (by simpa using nd) fun y hy => turn y (List.mem_cons_of_mem _ hy)
    refine ⟨n', ?_⟩
    rw [List.map_cons]
    simp only [dcL]
    rw [if_pos (hd es n), h1]
    simp only [Option.bind_some, a, if_true, b, c, asD, kd, da]
    rw [if_pos fits, st, dPut_new new, ih]
    simp
end
/-- what a saying says, the words of its simple ones given -/
def val (wd : Simple → Bool) : Say → Bool
  | .one S => wd S
  | .no a => !val wd a
  | .an a b => val wd a && val wd b
  | .or a b => val wd a || val wd b
theorem flat_ints : ∀ ws : List Int, flats (ws.map PyData.int) = true
  | [] => rfl
  | _ :: ws => flat_ints ws
theorem flat_sD (S : Simple) : flat (sD S) = true := by
  cases S with
  | sum ws c => show (true && (flats (ws.map PyData.int) && (true && true))) = true; rw [flat_ints]; rfl
  | rest ws r m => show (true && (flats (ws.map PyData.int) && (true && (true && true)))) = true; rw [flat_ints]; rfl
theorem key_sD (S : Simple) : keyD (.d (sD S)) = some (sD S) := by
  have f := flat_sD S
  have d := sD_key8 S
  cases S <;> exact if_pos ⟨f, d⟩
theorem head_un (S : Simple) : ∃ z ds, sD S = .tuple (.str z :: ds) ∧ z ≠ Str.ofString "not" ∧ z ≠ Str.ofString "and" ∧ z ≠ Str.ofString "or" := by
  cases S with
  | sum ws c => exact ⟨_, _, rfl, by decide +kernel, by decide +kernel, by decide +kernel⟩
  | rest ws r m => exact ⟨_, _, rfl, by decide +kernel, by decide +kernel, by decide +kernel⟩
theorem un1 : ¬ (Str.ofString "and" = Str.ofString "not") := by decide +kernel
theorem un2 : ¬ (Str.ofString "or" = Str.ofString "not") := by decide +kernel
theorem un3 : ¬ (Str.ofString "or" = Str.ofString "and") := by decide +kernel
theorem un4 : ¬ (Str.ofString "and" = Str.ofString "or") := by decide +kernel
section
variable {M : Mem} {y : Say} {Ss : List Simple} {kk d n : Nat} {es : List (PyData × PyData)} {wd : Simple → Bool}
theorem F_is_so_eq : ∀ (k : Nat) (y : Say) (M : Mem), y.deep ≤ k → M[d]? = some (.dic es n) → (∀ S ∈ y.leaves, dGet es (sD S) = some (.bool (wd S))) → F_is_so k [.d (yD y), .obj d] M = some (.d (.bool (val wd y)), M)
  | 0, y, M, h, _, _ => by cases y <;> simp [Say.deep] at h
  | k + 1, .one S, M, h, hd, hw => by
    have g := hw S (by simp [Say.leaves])
    have ks := key_sD S
    have da : dicAt M (.obj d) = some (d, es) := by simp [dicAt, hd]
    have ix : ∀ M1, dicAt M1 (.obj d) = some (d, es) → oIxD (.obj d) (.d (sD S)) M1 = some (.d (.bool (wd S)), M1) := fun M1 h => by simp [oIxD, h, ks, g]
    obtain ⟨z, ds, e, n1, n2, n3⟩ := head_un S
    have ix := ix M da
    rw [show yD (.one S) = sD S from rfl]
    rw [e] at ix ⊢
    simp [F_is_so, nf, fnV, g_is_so, n1, n2, n3, ix, val]
  | k + 1, .no a, M, h, hd, hw => by
    have ih := F_is_so_eq k a M (by simp [Say.deep] at h; omega) hd hw
    simp [F_is_so, nf, fnV, g_is_so, yD, ih, val]
  | k + 1, .an a b, M, h, hd, hw => by
    have ia := F_is_so_eq k a M (by simp [Say.deep] at h; omega) hd fun S hS => hw S (by simp [Say.leaves, hS])
    have ib := F_is_so_eq k b M (by simp [Say.deep] at h; omega) hd fun S hS => hw S (by simp [Say.leaves, hS])
    cases ha : val wd a <;> rw [ha] at ia <;> simp [F_is_so, nf, fnV, g_is_so, yD, ia, ib, val, ha, un1]
  | k + 1, .or a b, M, h, hd, hw => by
    have ia := F_is_so_eq k a M (by simp [Say.deep] at h; omega) hd fun S hS => hw S (by simp [Say.leaves, hS])
    have ib := F_is_so_eq k b M (by simp [Say.deep] at h; omega) hd fun S hS => hw S (by simp [Say.leaves, hS])
    cases ha : val wd a <;> rw [ha] at ia <;> simp [F_is_so, nf, fnV, g_is_so, yD, ia, ib, val, ha, un2, un3]
end
theorem zip_map {α β : Type} (f : α → PyData) (g : β → PyData) : ∀ (xs : List α) (ys : List β), zip2W (xs.map fun x => .d (f x)) (ys.map fun y => .d (g y)) = (xs.zip ys).map fun t => .d (.tuple [f t.1, g t.2])
  | [], _ => by simp [zip2W]
  | _ :: _, [] => by simp [zip2W]
  | x :: xs, y :: ys => by
    simp only [List.map_cons, zip2W, zip_map f g xs ys, List.zip_cons_cons]
    rfl
def wdOf (Ss : List Simple) (bs : List Bool) (S : Simple) : Bool := bs.getD (Ss.idxOf S) false
theorem get_zip : ∀ {Ss : List Simple} {bs : List Bool} {S : Simple}, bs.length = Ss.length → S ∈ Ss → dGet ((Ss.zip bs).map fun t => (sD t.1, .bool t.2)) (sD S) = some (.bool (wdOf Ss bs S))
  | T :: Ss, b :: bs, S, len, h => by
    by_cases e : S = T
    · subst e
      simp [dGet, wdOf]
    · have ne : ¬ nk (sD T) = nk (sD S) := fun z => e (nk_inj z).symm
      have ih := get_zip (Ss := Ss) (bs := bs) (S := S) (by simpa using len) (by simpa [e] using h)
      have be : (T == S) = false := by simpa using fun z => e z.symm
      have ix : (T :: Ss).idxOf S = Ss.idxOf S + 1 := by rw [List.idxOf_cons, be]; rfl
      unfold dGet at ih ⊢
      rw [List.zip_cons_cons, List.map_cons, List.find?_cons]
      simp only [ne, decide_false]
      rw [ih]
      simp [wdOf, ix]
  | [], _, S, _, h => by simp at h
  | _ :: _, [], S, len, _ => by simp at len
theorem map_nodup {Ss : List Simple} (nd : Ss.Nodup) : (Ss.map fun S => nk (sD S)).Nodup := List.Pairwise.map _ (fun a b ne z => ne (nk_inj z)) nd
/-- a saying of the first laws -/
structure SaidX (y : Say) (Ss : List Simple) (kk : Nat) : Prop where
  row : Ss = rowOf y.leaves
  deep : y.deep ≤ 9
  many : y.leaves.length ≤ 1000
  unlike : Ss.length ≤ 10
  good : ∀ S ∈ y.leaves, GoodS S kk
  pos : 0 < kk
  few : kk ≤ 6
section
variable {M : Mem} {y : Say} {Ss : List Simple} {kk : Nat}
theorem SaidX.fewS (sd : SaidX y Ss kk) : FewS y.leaves := fun N nd sub => by
  have u := sd.unlike
  rw [sd.row] at u
  have := nodup_le nd fun S hS => (rowOf_mem _ S).mpr (sub S hS)
  omega
theorem SaidX.goodS (sd : SaidX y Ss kk) : ∀ S ∈ Ss, GoodS S kk := fun S hS => sd.good S (by have := sd.row; rw [this] at hS; exact (rowOf_mem _ S).mp hS)
theorem SaidX.len (sd : SaidX y Ss kk) : Ss.length ≤ 10 := sd.unlike
theorem SaidX.simples (sd : SaidX y Ss kk) : F_simples [.d (yD y)] M = some (.d (.tuple (Ss.map sD)), M) := by
  rw [sd.row]; exact F_simples_eq y sd.deep sd.many sd.fewS
theorem said_nodup (sd : SaidX y Ss kk) : Ss.Nodup := by rw [sd.row]; exact rowOf_nodup _
theorem F_by_words_eq (sd : SaidX y Ss kk) {bs : List Bool} (len : bs.length = Ss.length) : F_by_words [.d (yD y), .d (.tuple (bs.map .bool))] M = some (.d (.bool (val (wdOf Ss bs) y)), M) := by
  have s := fun M => F_simples_eq (M := M) y sd.deep sd.many sd.fewS
  rw [← sd.row] at s
  have sl := sd.len
  have zl : (Ss.zip bs).length ≤ 10 := by rw [List.length_zip]; omega
  have fst : (Ss.zip bs).map (fun t => nk (sD t.1)) = Ss.map fun S => nk (sD S) := by
    have := List.map_fst_zip (l₁ := Ss) (l₂ := bs) (by omega)
    conv => rhs; rw [← this]
    rw [List.map_map]
    rfl
  obtain ⟨n', e⟩ := dc_map (deps := []) (M := M) (g := gT 2 (gsC (gN 2) (gsC (gN 3) gs0))) (t := tTrue) (ek := eVar 2) (ev := eVar 3) (ρ0 := [some (.d (yD y)), some (.d (.tuple (bs.map .bool))), none, none]) (fun t : Simple × Bool => .d (.tuple [sD t.1, .bool t.2])) (fun t => sD t.1) (fun t => .bool t.2) (fun es n => by simp) (Ss.zip bs) [] 0 (by simp; omega) (by rw [List.map_nil, List.nil_append, fst]; exact map_nodup (said_nodup sd))
    fun t ht => ⟨key_sD t.1, [some (.d (yD y)), some (.d (.tuple (bs.map .bool))), some (.d (sD t.1)), some (.d (.bool t.2))], by simp, fun es n => ⟨rfl, by simp, by simp⟩⟩
  have z := zip_map sD PyData.bool Ss bs
  have iz : iZip2W (aCons (eDef 1 (Pg.F_simples) (aCons (eVar 0) aNil)) (aCons (eVar 1) aNil)) [some (.d (yD y)), some (.d (.tuple (bs.map .bool))), none, none] M = some (((Ss.zip bs).map fun t => .d (.tuple [sD t.1, .bool t.2]), []), M) := by
    have srt : ∀ (M1 : Mem) (ds : List PyData), srcOf M1 (.d (.tuple ds)) = some (ds.map W.d, []) := fun _ _ => rfl
    simp [iZip2W, s, srt, Function.comp_def, z, len]
  simp only [List.nil_append] at e
  have so := F_is_so_eq (d := M.length) (n := n') (es := (Ss.zip bs).map fun t => (sD t.1, .bool t.2)) (wd := wdOf Ss bs) 9 y (M ++ [.dic ((Ss.zip bs).map fun t => (sD t.1, .bool t.2)) n']) sd.deep (by simp) fun S hS => get_zip len (by rw [sd.row]; exact (rowOf_mem _ S).mpr hS)
  have nm := norm_d (M := M) (M1 := M) (J := [.dic ((Ss.zip bs).map fun t => (sD t.1, .bool t.2)) n']) (w := .d (.bool (val (wdOf Ss bs) y))) rfl .refl
  simp [F_by_words, nf, fnV, g_by_words, eDc, iz, wipeW, e, so, nm]

/-! by counts -/
def totM (S : Simple) (cs : List Int) : Int := ((S.ws.zip cs).map fun t => t.1 * t.2).sum
theorem zipInts : ∀ (xs ys : List Int), zip2W (xs.map fun x => .d (.int x)) (ys.map fun y => .d (.int y)) = (xs.zip ys).map fun t => .d (.tuple [.int t.1, .int t.2]) := fun xs ys => zip_map PyData.int PyData.int xs ys
theorem F_total_eq {S : Simple} (g : GoodS S kk) {cs : List Int} (len : cs.length = kk) : F_total [.d (sD S), .d (.tuple (cs.map .int))] M = some (.d (.int (totM S cs)), M) := by
  have k6 := g.few
  have wl := g.many
  have e := gs_map (deps := []) (g := gT 2 (gsC (gN 2) (gsC (gN 3) gs0))) (t := tTrue) (e := eOp oMul (eVar 2) (eVar 3)) (ρ0 := [some (.d (sD S)), some (.d (.tuple (cs.map .int))), none, none]) (M := M)
    (fun t : Int × Int => .d (.tuple [.int t.1, .int t.2])) (fun _ => true) (fun t => t.1 * t.2) (by simp) (S.ws.zip cs) sizeLine 0 (by rw [List.length_zip]; exact Nat.le_trans (by omega : min S.ws.length cs.length ≤ 6) (by decide)) fun t ht => by
      have w9 := g.worth t.1 (List.of_mem_zip ht).1
      have c : CMul t.1 t.2 := cm_left (by omega)
      exact ⟨[some (.d (sD S)), some (.d (.tuple (cs.map .int))), some (.d (.int t.1)), some (.d (.int t.2))], by simp, rfl, fun _ => by simp [x_mul, c]⟩
  have ft : ((S.ws.zip cs).filter fun _ => true) = S.ws.zip cs := List.filter_eq_self.mpr fun _ _ => rfl
  rw [Int.zero_add, ft, show ((S.ws.zip cs).map fun t => t.1 * t.2).sum = totM S cs from rfl] at e
  have z := zipInts S.ws cs
  have srt : ∀ (M1 : Mem) (ds : List PyData), srcOf M1 (.d (.tuple ds)) = some (ds.map W.d, []) := fun _ _ => rfl
  have iz : iZip2W (aCons (eOp oIx (eVar 0) (eC (.int 1))) (aCons (eVar 1) aNil)) [some (.d (sD S)), some (.d (.tuple (cs.map .int))), none, none] M = some (((S.ws.zip cs).map fun t => .d (.tuple [.int t.1, .int t.2]), []), M) := by
    have l2 : S.ws.length = cs.length := by omega
    cases S with
    | sum ws c =>
      have l3 : cs.length = ws.length := l2.symm
      have z : zip2W _ _ = _ := z
      simp only [Simple.ws] at z
      simp [iZip2W, srt, sD, Function.comp_def, z, l3, Simple.ws]
    | rest ws r m =>
      have l3 : cs.length = ws.length := l2.symm
      have z : zip2W _ _ = _ := z
      simp only [Simple.ws] at z
      simp [iZip2W, srt, sD, Function.comp_def, z, l3, Simple.ws]
  simp [F_total, nf, fnV, g_total, eSumX, iz, wipeW, e]
/-- is a simple one so of counts -/
def trueS (cs : List Int) (S : Simple) : Bool := saysM S (leftM S (totM S cs))
theorem wd_of (sd : SaidX y Ss kk) {f : Simple → Bool} : ∀ (z : Say), (∀ S ∈ z.leaves, S ∈ Ss) → val (wdOf Ss (Ss.map f)) z = val f z
  | .one S, h => by
    have hS := h S (by simp [Say.leaves])
    have lt := List.idxOf_lt_length_iff.mpr hS
    show (Ss.map f).getD (Ss.idxOf S) false = f S
    have e : Ss[Ss.idxOf S]'lt = S := by
      have := List.getElem_idxOf lt
      exact this
    simp only [List.getD_eq_getElem?_getD, List.getElem?_map, List.getElem?_eq_getElem lt, Option.map_some, Option.getD_some, e]
  | .no a, h => by simp only [val]; rw [wd_of sd a h]
  | .an a b, h => by simp only [val]; rw [wd_of sd a fun S hS => h S (by simp [Say.leaves, hS]), wd_of sd b fun S hS => h S (by simp [Say.leaves, hS])]
  | .or a b, h => by simp only [val]; rw [wd_of sd a fun S hS => h S (by simp [Say.leaves, hS]), wd_of sd b fun S hS => h S (by simp [Say.leaves, hS])]
theorem F_is_true_eq (sd : SaidX y Ss kk) {cs : List Int} (len : cs.length = kk) : F_is_true [.d (yD y), .d (.tuple (cs.map .int))] M = some (.d (.bool (val (trueS cs) y)), M) := by
  have s := fun M => sd.simples (M := M)
  have sl := sd.len
  have e := fun ρ3 : Option W => lc_map (deps := []) (g := gN 3) (e := eDef 2 (Pg.F_says) (aCons (eVar 3) (aCons (eDef 2 (Pg.F_left_by) (aCons (eVar 3) (aCons (eDef 2 (F_total) (aCons (eVar 3) (aCons (eVar 1) aNil))) aNil))) aNil)))
    (ρ0 := [some (.d (yD y)), some (.d (.tuple (cs.map .int))), none, none]) (M := M) Ss (fun S => .d (sD S)) (fun S => .d (.bool (trueS cs S))) (fun _ => by simp) (by omega) fun S hS => by
      have g := sd.goodS S hS
      have w := g.wf sd.pos
      exact ⟨[some (.d (yD y)), some (.d (.tuple (cs.map .int))), none, some (.d (sD S))], by simp, fun acc => by simp [F_total_eq g len, F_left_by_eq w, F_says_eq, trueS]⟩
  have e := e none
  have b := fun M => F_by_words_eq (M := M) sd (bs := Ss.map (trueS cs)) (by simp)
  rw [wd_of sd y fun S hS => by rw [sd.row]; exact (rowOf_mem _ S).mpr hS] at b
  have mk : mkTup (Ss.map fun S => W.d (.bool (trueS cs S))) = .d (.tuple ((Ss.map (trueS cs)).map .bool)) := by rw [List.map_map]; exact mkTup_of' (fun S => .bool (trueS cs S)) Ss
  generalize hws : (Ss.map fun S => W.d (.bool (trueS cs S))) = ws at e mk
  generalize PyData.tuple ((Ss.map (trueS cs)).map .bool) = dd at mk b
  have isd : ws.all isD = true := by rw [← hws]; exact all_isD (fun S => .bool (trueS cs S)) Ss
  have nm := norm_d (M := M) (M1 := M) (J := [.lst ws]) (w := .d (.bool (val (trueS cs) y))) rfl .refl
  simp [F_is_true, nf, fnV, g_is_true, s, wipeW, Function.comp_def, e, mk, b, nm]
end
end Tr

set_option Elab.async false
set_option linter.all false
set_option maxRecDepth 100000
set_option maxHeartbeats 1000000
/-! K02p: which simple one stands ahead -/
namespace K02
open PySem PySem.Spec PyProof.Rows L2 Sa Va Pg Lx
open Lw (Upd GoodS cm_left cm_right nodup_le)
def ltS (S T : Simple) : Bool := PySem.W.dataLt (sD S) (sD T)
def tailI : Simple → List Int
  | .sum _ c => [c]
  | .rest _ r m => [r, m]
def mine (S : Simple) : List Int := S.ws ++ tailI S
/-- the first place where they are unlike tells -/
def lexI : List Int → List Int → Bool
  | a :: as, b :: bs => if a = b then lexI as bs else decide (a < b)
  | _, _ => false
abbrev tk := Int ⊕ List Nat
theorem lex_int (a b : Int) (l m : List tk) : PyProof.Rows.lexLt PyProof.Rows.itemOrd (.inl a :: l) (.inl b :: m) = if a = b then PyProof.Rows.lexLt PyProof.Rows.itemOrd l m else decide (a < b) := by
  by_cases h : a = b
  · subst h
    rw [if_pos rfl]
    exact PyProof.Rows.lex_self (O := PyProof.Rows.itemOrd) _ _ _
  · rw [if_neg h, PyProof.Rows.lex_diff (O := PyProof.Rows.itemOrd) (by intro z; injection z with z; exact h z)]
    rfl
theorem lex_ws : ∀ (ws vs : List Int) (r t : List tk), ws.length = vs.length → PyProof.Rows.lexLt PyProof.Rows.itemOrd (PySem.W.keyToksAll (ws.map PyData.int) ++ r) (PySem.W.keyToksAll (vs.map PyData.int) ++ t) = if ws = vs then PyProof.Rows.lexLt PyProof.Rows.itemOrd r t else lexI ws vs
  | [], [], r, t, _ => by
    rw [if_pos rfl]
    exact PyProof.Rows.lex_self (O := PyProof.Rows.itemOrd) _ _ _
  | [], _ :: _, _, _, h => by simp at h
  | _ :: _, [], _, _, h => by simp at h
  | w :: ws, v :: vs, r, t, h => by
    have ih := lex_ws ws vs r t (by simpa using h)
    have e : ∀ (x : Int) (xs : List Int) (q : List tk), PySem.W.keyToksAll ((x :: xs).map PyData.int) ++ q = .inl 1 :: .inl x :: (PySem.W.keyToksAll (xs.map PyData.int) ++ q) := fun _ _ _ => rfl
    rw [e, e, lex_int, if_pos rfl, lex_int, ih]
    by_cases c : w = v
    · subst c
      simp [lexI]
    · simp [lexI, c]
theorem lexI_app : ∀ (ws vs as bs : List Int), ws.length = vs.length → lexI (ws ++ as) (vs ++ bs) = if ws = vs then lexI as bs else lexI ws vs
  | [], [], as, bs, _ => by simp
  | [], _ :: _, _, _, h => by simp at h
  | _ :: _, [], _, _, h => by simp at h
  | w :: ws, v :: vs, as, bs, h => by
    have ih := lexI_app ws vs as bs (by simpa using h)
    simp only [List.cons_append, lexI, ih]
    by_cases c : w = v
    · subst c; simp
    · simp [c]
theorem lt_alike {S T : Simple} (k : S.isRest = T.isRest) (l : S.ws.length = T.ws.length) : ltS S T = lexI (mine S) (mine T) := by
  have eS : ∀ ws c, PySem.W.keyToks (sD (.sum ws c)) = Sum.inl 1 :: Sum.inr (Str.ofString "sum").cps.toList :: Sum.inl 1 :: (PySem.W.keyToksAll (ws.map PyData.int) ++ [Sum.inl 1, Sum.inl c, Sum.inl 0]) := fun _ _ => rfl
  have eR : ∀ ws r m, PySem.W.keyToks (sD (.rest ws r m)) = Sum.inl 1 :: Sum.inr (Str.ofString "rest").cps.toList :: Sum.inl 1 :: (PySem.W.keyToksAll (ws.map PyData.int) ++ [Sum.inl 1, Sum.inl r, Sum.inl 1, Sum.inl m, Sum.inl 0]) := fun _ _ _ => rfl
  have self : ∀ (x : tk) (a b : List tk), PyProof.Rows.lexLt PyProof.Rows.itemOrd (x :: a) (x :: b) = PyProof.Rows.lexLt PyProof.Rows.itemOrd a b := fun x a b => PyProof.Rows.lex_self (O := PyProof.Rows.itemOrd) _ _ _
  have nil0 : PyProof.Rows.lexLt PyProof.Rows.itemOrd ([] : List tk) ([] : List tk) = false := rfl
  unfold ltS PySem.W.dataLt mine
  cases S with
  | sum ws c =>
    cases T with
    | sum vs d =>
      have l : ws.length = vs.length := l
      rw [eS, eS, self, self, self, lex_ws _ _ _ _ l]
      simp only [Simple.ws, tailI]
      rw [lexI_app _ _ _ _ l]
      by_cases h : ws = vs
      · rw [if_pos h, if_pos h, self, lex_int]
        by_cases h2 : c = d
        · rw [if_pos h2, self, nil0]; simp [lexI, h2]
        · rw [if_neg h2]; simp [lexI, h2]
      · rw [if_neg h, if_neg h]
    | rest vs r m => cases k
  | rest ws r m =>
    cases T with
    | sum vs d => cases k
    | rest vs q n =>
      have l : ws.length = vs.length := l
      rw [eR, eR, self, self, self, lex_ws _ _ _ _ l]
      simp only [Simple.ws, tailI]
      rw [lexI_app _ _ _ _ l]
      by_cases h : ws = vs
      · rw [if_pos h, if_pos h, self, lex_int]
        by_cases h2 : r = q
        · rw [if_pos h2, self, lex_int]
          by_cases h3 : m = n
          · rw [if_pos h3, self, nil0]; simp [lexI, h2, h3]
          · rw [if_neg h3]; simp [lexI, h2, h3]
        · rw [if_neg h2]; simp [lexI, h2]
      · rw [if_neg h, if_neg h]
theorem lt_unlike {S T : Simple} (k : S.isRest ≠ T.isRest) : ltS S T = S.isRest := by
  have eS : ∀ ws c, PySem.W.keyToks (sD (.sum ws c)) = Sum.inl 1 :: Sum.inr (Str.ofString "sum").cps.toList :: Sum.inl 1 :: (PySem.W.keyToksAll (ws.map PyData.int) ++ [Sum.inl 1, Sum.inl c, Sum.inl 0]) := fun _ _ => rfl
  have eR : ∀ ws r m, PySem.W.keyToks (sD (.rest ws r m)) = Sum.inl 1 :: Sum.inr (Str.ofString "rest").cps.toList :: Sum.inl 1 :: (PySem.W.keyToksAll (ws.map PyData.int) ++ [Sum.inl 1, Sum.inl r, Sum.inl 1, Sum.inl m, Sum.inl 0]) := fun _ _ _ => rfl
  have self : ∀ (x : tk) (a b : List tk), PyProof.Rows.lexLt PyProof.Rows.itemOrd (x :: a) (x :: b) = PyProof.Rows.lexLt PyProof.Rows.itemOrd a b := fun x a b => PyProof.Rows.lex_self (O := PyProof.Rows.itemOrd) _ _ _
  have d1 : (Sum.inr (Str.ofString "sum").cps.toList : tk) ≠ Sum.inr (Str.ofString "rest").cps.toList := by decide +kernel
  unfold ltS PySem.W.dataLt
  cases S with
  | sum ws c =>
    cases T with
    | sum vs d => exact absurd rfl k
    | rest vs r m =>
      have b : PyProof.Rows.itemOrd.blt (Sum.inr (Str.ofString "sum").cps.toList) (Sum.inr (Str.ofString "rest").cps.toList) = false := by decide +kernel
      rw [eS, eR, self, PyProof.Rows.lex_diff (O := PyProof.Rows.itemOrd) d1, b]
      rfl
  | rest ws r m =>
    cases T with
    | sum vs d =>
      have b : PyProof.Rows.itemOrd.blt (Sum.inr (Str.ofString "rest").cps.toList) (Sum.inr (Str.ofString "sum").cps.toList) = true := by decide +kernel
      rw [eR, eS, self, PyProof.Rows.lex_diff (O := PyProof.Rows.itemOrd) d1.symm, b]
      rfl
    | rest vs q n => exact absurd rfl k
section
variable {M : Mem} {S T : Simple} {kk : Nat}
noncomputable def AB : EvS := (sIf (tVal (eOp oNe (eVar 4) (eVar 5))) (sRet (eOp oLt (eVar 4) (eVar 5))) sNil)
theorem ahead_loop {deps : List (Nat × MO)} {v0 v1 v2 v3 : Option W} (hd : Deps deps M) : ∀ (as bs : List Int) (v4 v5 : Option W), as.length = bs.length →
    (∃ v4' v5', lexI as bs = false ∧ forL deps (gT 2 (gsC (gN 4) (gsC (gN 5) gs0))) AB ((as.zip bs).map fun t => .d (.tuple [.int t.1, .int t.2])) [v0, v1, v2, v3, v4, v5] M = some (.nx [v0, v1, v2, v3, v4', v5'] M))
    ∨ forL deps (gT 2 (gsC (gN 4) (gsC (gN 5) gs0))) AB ((as.zip bs).map fun t => .d (.tuple [.int t.1, .int t.2])) [v0, v1, v2, v3, v4, v5] M = some (.rt (.d (.bool (lexI as bs))) M)
  | [], bs, v4, v5, h => .inl ⟨v4, v5, rfl, by simp [forL, hd]⟩
  | _ :: _, [], _, _, h => by simp at h
  | a :: as, b :: bs, v4, v5, h => by
    by_cases c : a = b
    · subst c
      have step : AB [v0, v1, v2, v3, some (.d (.int a)), some (.d (.int a))] M = some (.nx [v0, v1, v2, v3, some (.d (.int a)), some (.d (.int a))] M) := by simp [AB]
      rcases ahead_loop (v0 := v0) (v1 := v1) (v2 := v2) (v3 := v3) hd as bs (some (.d (.int a))) (some (.d (.int a))) (by simpa using h) with ⟨w4, w5, h1, h2⟩ | h2
      · refine .inl ⟨w4, w5, by simpa [lexI] using h1, ?_⟩
        generalize AB = B at *
        simp [forL, hd, tupOf, step, h2]
      · refine .inr ?_
        generalize AB = B at *
        simp [forL, hd, tupOf, step, h2, lexI]
    · refine .inr ?_
      have step : AB [v0, v1, v2, v3, some (.d (.int a)), some (.d (.int b))] M = some (.rt (.d (.bool (decide (a < b)))) M) := by simp [AB, c]
      generalize AB = B at *
      simp [forL, hd, tupOf, step, lexI, c]
noncomputable def ME (i : Nat) : EvE := (eOp oAddG (eCall fList (aCons (eOp oIx (eVar i) (eC (.int 1))) aNil)) (eCall fList (aCons (eSlT (some 2) none (eVar i)) aNil)))
theorem g_ahead_eq : g__law_ahead = (sSeq (sIf (tVal (eOp oNe (eOp oIx (eVar 0) (eC (.int 0))) (eOp oIx (eVar 1) (eC (.int 0))))) (sRet (eOp oEq (eOp oIx (eVar 0) (eC (.int 0))) (eC (.str "rest")))) sNil)
    (sSeq (sPar 2 3 (aCons (ME 0) (aCons (ME 1) aNil)))
    (sSeq (sFor (iZip2W (aCons (eVar 2) (aCons (eVar 3) aNil))) (gT 2 (gsC (gN 4) (gsC (gN 5) gs0))) AB)
    (sRet (eC (.bool false)))))) := rfl
theorem mine_len (g : GoodS S kk) : (mine S).length = if S.isRest = true then kk + 2 else kk + 1 := by
  have := g.many
  cases S with
  | sum ws c => have this : ws.length = kk := this; simp [mine, tailI, Simple.ws, Simple.isRest, this]
  | rest ws r m => have this : ws.length = kk := this; simp [mine, tailI, Simple.ws, Simple.isRest, this]
@[simp] theorem addG_obj {i j : Nat} : oAddG (.obj i) (.obj j) M = oCat (.obj i) (.obj j) M := rfl
/-- list(one[1]) + list(one[2:]) -/
theorem mine_eq {i : Nat} {ρ : Ev} (g : GoodS S kk) (h : ρ[i]? = some (some (.d (sD S)))) : ∃ J : MO × MO, ME i ρ M = some (.obj (M.length + 2), M ++ [J.1, J.2, .lst (inW (mine S))]) := by
  have k6 := g.few
  have wl := g.many
  cases S with
  | sum ws c =>
    have wl : ws.length = kk := wl
    have sz : ws.length + 1 ≤ sizeLine := small_size (by omega)
    refine ⟨(.lst (inW ws), .lst [.d (.int c)]), ?_⟩
    simp [ME, h, sD, fList, cutG, HT.sIx, oCat, sz, mine, tailI, Simple.ws, inW, Function.comp_def]
  | rest ws r m =>
    have wl : ws.length = kk := wl
    have sz : ws.length + 2 ≤ sizeLine := small_size (by omega)
    refine ⟨(.lst (inW ws), .lst [.d (.int r), .d (.int m)]), ?_⟩
    simp [ME, h, sD, fList, cutG, HT.sIx, oCat, sz, mine, tailI, Simple.ws, inW, Function.comp_def]
theorem F__law_ahead_eq (g : GoodS S kk) (g' : GoodS T kk) : F__law_ahead [.d (sD S), .d (sD T)] M = some (.d (.bool (ltS S T)), M) := by
  by_cases k : S.isRest = T.isRest
  · obtain ⟨⟨x1, x2⟩, e1⟩ := mine_eq (M := M) (i := 0) (ρ := [some (.d (sD S)), some (.d (sD T)), none, none, none, none]) g rfl
    obtain ⟨⟨y1, y2⟩, e2⟩ := mine_eq (M := M ++ [x1, x2, .lst (inW (mine S))]) (i := 1) (ρ := [some (.d (sD S)), some (.d (sD T)), none, none, none, none]) g' rfl
    have ln : (mine S).length = (mine T).length := by rw [mine_len g, mine_len g', k]
    have lt := lt_alike k (by rw [g.many, g'.many])
    have mem : M ++ [x1, x2, .lst (inW (mine S))] ++ [y1, y2, .lst (inW (mine T))] = M ++ [x1, x2, .lst (inW (mine S)), y1, y2, .lst (inW (mine T))] := by simp
    rw [mem] at e2
    have i2 : (M ++ [x1, x2, .lst (inW (mine S))]).length + 2 = M.length + 5 := by simp
    rw [i2] at e2
    have s1 : srcOf (M ++ [x1, x2, .lst (inW (mine S)), y1, y2, .lst (inW (mine T))]) (.obj (M.length + 2)) = some (inW (mine S), [(M.length + 2, .lst (inW (mine S)))]) := by simp [srcOf]
    have s2 : srcOf (M ++ [x1, x2, .lst (inW (mine S)), y1, y2, .lst (inW (mine T))]) (.obj (M.length + 5)) = some (inW (mine T), [(M.length + 5, .lst (inW (mine T)))]) := by simp [srcOf]
    have z : zip2W (inW (mine S)) (inW (mine T)) = ((mine S).zip (mine T)).map fun t => .d (.tuple [.int t.1, .int t.2]) := Tr.zip_map PyData.int PyData.int _ _
    have zi : iZip2W (aCons (eVar 2) (aCons (eVar 3) aNil)) [some (.d (sD S)), some (.d (sD T)), some (.obj (M.length + 2)), some (.obj (M.length + 5)), none, none] (M ++ [x1, x2, .lst (inW (mine S)), y1, y2, .lst (inW (mine T))]) = some ((((mine S).zip (mine T)).map fun t => .d (.tuple [.int t.1, .int t.2]), [(M.length + 2, .lst (inW (mine S))), (M.length + 5, .lst (inW (mine T)))]), (M ++ [x1, x2, .lst (inW (mine S)), y1, y2, .lst (inW (mine T))])) := by
      have l2 : (inW (mine S)).length = (inW (mine T)).length := by simpa using ln
      generalize inW (mine S) = a at *
      generalize inW (mine T) = b at *
      simp [iZip2W, s1, s2, l2, z]
    have first : sIf (tVal (eOp oNe (eOp oIx (eVar 0) (eC (.int 0))) (eOp oIx (eVar 1) (eC (.int 0))))) (sRet (eOp oEq (eOp oIx (eVar 0) (eC (.int 0))) (eC (.str "rest")))) sNil [some (.d (sD S)), some (.d (sD T)), none, none, none, none] M = some (.nx [some (.d (sD S)), some (.d (sD T)), none, none, none, none] M) := by
      cases S with
      | sum ws c => cases T with
        | sum vs d => simp [sD]
        | rest vs q n => cases k
      | rest ws r m => cases T with
        | sum vs d => cases k
        | rest vs q n => simp [sD]
    have second : sPar 2 3 (aCons (ME 0) (aCons (ME 1) aNil)) [some (.d (sD S)), some (.d (sD T)), none, none, none, none] M = some (.nx [some (.d (sD S)), some (.d (sD T)), some (.obj (M.length + 2)), some (.obj (M.length + 5)), none, none] (M ++ [x1, x2, .lst (inW (mine S)), y1, y2, .lst (inW (mine T))])) := by
      simp only [x_par, x_acons, x_anil, e1, e2, Option.bind_some]
      rfl
    have dp : Deps [(M.length + 2, .lst (inW (mine S))), (M.length + 5, .lst (inW (mine T)))] (M ++ [x1, x2, .lst (inW (mine S)), y1, y2, .lst (inW (mine T))]) := fun p hp => by
      rcases List.mem_cons.mp hp with rfl | hp
      · simp
      · rw [List.mem_singleton.mp hp]; simp
    have nm := fun b => norm_data' (M := M) (J := [x1, x2, .lst (inW (mine S)), y1, y2, .lst (inW (mine T))]) (x := .bool b)
    have lp := ahead_loop (v0 := some (.d (sD S))) (v1 := some (.d (sD T))) (v2 := some (.obj (M.length + 2))) (v3 := some (.obj (M.length + 5))) dp (mine S) (mine T) none none ln
    rw [← lt] at lp
    generalize (M ++ [x1, x2, .lst (inW (mine S)), y1, y2, .lst (inW (mine T))]) = M2 at *
    simp only [F__law_ahead, nf, fnV, g_ahead_eq]
    generalize AB = B at *
    simp only [List.map_cons, List.map_nil, List.length_cons, List.length_nil, List.cons_append, List.nil_append, List.replicate, Nat.reduceSub, Nat.reduceAdd]
    simp only [x_seq, first, second, Option.bind_some, x_for, zi]
    rcases lp with ⟨w4, w5, l0, e⟩ | e
    · simp [e, nm, l0]
    · simp [e, nm]
  · have lt := lt_unlike k
    rw [lt]
    have u1 : ¬ (Str.ofString "rest" = Str.ofString "sum") := by decide +kernel
    have u2 : ¬ (Str.ofString "sum" = Str.ofString "rest") := by decide +kernel
    have l2 : ∀ (a b c : PyData), ([a, b, c] : List PyData).length = 3 := fun _ _ _ => rfl
    cases S <;> cases T <;> first | (exact absurd rfl k) | (simp [F__law_ahead, nf, fnV, g_ahead_eq, sD, u1, u2, Simple.isRest])
end
end K02

set_option Elab.async false
set_option linter.all false
set_option maxRecDepth 100000
set_option maxHeartbeats 1000000
/-! K02q: put to where it stands -/
namespace K02
open PySem PySem.Spec PyProof.Rows L2 Sa Va Pg Lx
open Lw (Upd GoodS cm_left cm_right nodup_le)
theorem lt_irrefl (S : Simple) : ltS S S = false := PyProof.Rows.lex_irrefl (O := PyProof.Rows.itemOrd) _
theorem lt_trans {S T U : Simple} (a : ltS S T = true) (b : ltS T U = true) : ltS S U = true := PyProof.Rows.lex_trans (O := PyProof.Rows.itemOrd) _ _ _ a b
theorem lt_total {S T : Simple} (a : ltS S T = false) (b : ltS T S = false) : S = T := toks_inj (PyProof.Rows.lex_total (O := PyProof.Rows.itemOrd) _ _ a b)
abbrev Ris (R : List Simple) : Prop := R.Pairwise fun S T => ltS S T = true
/-- put into a rising row -/
def insS : List Simple → Simple → List Simple
  | [], x => [x]
  | y :: R, x => if ltS y x = true then y :: insS R x else if y = x then y :: R else x :: y :: R
theorem ins_mem : ∀ (R : List Simple) (x S : Simple), S ∈ insS R x ↔ S ∈ R ∨ S = x
  | [], x, S => by simp [insS]
  | y :: R, x, S => by
    unfold insS
    split
    · simp only [List.mem_cons, ins_mem R x S, or_assoc]
    · split
      · rename_i h; subst h; simp only [List.mem_cons]; constructor
        · exact fun h => .inl h
        · rintro (h | h)
          · exact h
          · exact .inl h
      · simp only [List.mem_cons]; constructor
        · rintro (h | h | h)
          · exact .inr h
          · exact .inl (.inl h)
          · exact .inl (.inr h)
        · rintro ((h | h) | h)
          · exact .inr (.inl h)
          · exact .inr (.inr h)
          · exact .inl h
theorem ins_ris : ∀ (R : List Simple) (x : Simple), Ris R → Ris (insS R x)
  | [], x, _ => List.pairwise_singleton _ _
  | y :: R, x, h => by
    obtain ⟨h1, h2⟩ := List.pairwise_cons.mp h
    unfold insS
    split
    · rename_i c
      refine List.pairwise_cons.mpr ⟨fun S hS => ?_, ins_ris R x h2⟩
      rcases (ins_mem R x S).mp hS with h | h
      · exact h1 S h
      · rw [h]; exact c
    · split
      · exact h
      · rename_i c d
        have c : ltS y x = false := by simpa using c
        have c2 : ltS x y = true := by
          cases q : ltS x y with
          | true => rfl
          | false => exact absurd (lt_total c q) d
        refine List.pairwise_cons.mpr ⟨fun S hS => ?_, h⟩
        rcases List.mem_cons.mp hS with h | h
        · rw [h]; exact c2
        · exact lt_trans c2 (h1 S h)
def pl (R : List Simple) (x : Simple) : Nat := (R.filter fun S => ltS S x).length
theorem pl_le (R : List Simple) (x : Simple) : pl R x ≤ R.length := List.length_filter_le _ _
/-- by places -/
theorem ins_at : ∀ (R : List Simple) (x : Simple), Ris R → insS R x = if (R.drop (pl R x)).take 1 = [x] then R else R.take (pl R x) ++ [x] ++ R.drop (pl R x)
  | [], x, _ => by simp [insS, pl]
  | y :: R, x, h => by
    obtain ⟨h1, h2⟩ := List.pairwise_cons.mp h
    unfold insS
    by_cases c : ltS y x = true
    · have e : pl (y :: R) x = pl R x + 1 := by simp [pl, c]
      rw [if_pos c, e, ins_at R x h2]
      simp only [List.drop_succ_cons, List.take_succ_cons]
      split <;> simp
    · rw [if_neg c]
      have c' : ltS y x = false := by simpa using c
      have z : R.filter (fun S => ltS S x) = [] := List.filter_eq_nil_iff.mpr fun S hS q => by
        have := lt_trans (h1 S hS) q
        rw [c'] at this
        cases this
      have e : pl (y :: R) x = 0 := by simp [pl, c', z]
      rw [e]
      simp only [List.drop_zero, List.take_zero, List.nil_append, List.take_succ_cons, List.take_zero]
      by_cases d : y = x
      · rw [if_pos d, if_pos (by rw [d])]
      · rw [if_neg d, if_neg (by simpa using d)]
        rfl
theorem fold_ris : ∀ (xs R : List Simple), Ris R → Ris (xs.foldl insS R)
  | [], R, h => h
  | x :: xs, R, h => fold_ris xs (insS R x) (ins_ris R x h)
theorem fold_mem : ∀ (xs R : List Simple) (S : Simple), S ∈ xs.foldl insS R ↔ S ∈ R ∨ S ∈ xs
  | [], R, S => by simp
  | x :: xs, R, S => by
    rw [List.foldl_cons, fold_mem xs (insS R x) S, ins_mem]
    simp only [List.mem_cons, or_assoc]
theorem fold_row (xs : List Simple) : xs.foldl insS [] = rowOf xs := by
  have r := fold_ris xs [] List.Pairwise.nil
  refine rising_one (r.imp fun {S T} h => ?_) (row_sorted _) (r.imp fun {S T} h z => ?_) (rowOf_nodup xs) fun S => ?_
  · unfold sLe
    cases q : PySem.W.dataLt (sD T) (sD S) with
    | false => rfl
    | true =>
      have := lt_trans h q
      rw [lt_irrefl] at this
      cases this
  · rw [z, lt_irrefl] at h
    cases h
  · rw [fold_mem, rowOf_mem]
    simp
section
variable {M : Mem} {kk : Nat}
abbrev sW (Ss : List Simple) : List W := Ss.map fun S => .d (sD S)
noncomputable def OB : EvS := (sSeq (sSet 3 (eCall fLen (aCons (eLc (iSeq (eVar 1)) (gN 4) (tVal (eDef 2 (F__law_ahead) (aCons (eVar 4) (aCons (eVar 2) aNil)))) (eVar 4) [4]) aNil)))
    (sIf (tVal (eOp oNeL (eSlLv (pE (eVar 3)) (pE (eOp oAdd (eVar 3) (eC (.int 1)))) (eVar 1)) (eLst (aCons (eVar 2) aNil)))) (sExpr (sIns (eVar 1) (eVar 3) (eVar 2))) sNil))
theorem g_order_eq : g__law_in_order = (sSeq (sSet 1 (eLst aNil))
    (sSeq (sFor (iSeq (eVar 0)) (gN 2) OB)
    (sRet (eCall fTuple (aCons (eVar 1) aNil))))) := rfl
theorem cut_one {α : Type} (xs : List α) (k : Nat) (h : k ≤ xs.length) : cutG xs (some (k : Int)) (some ((k : Int) + 1)) = (xs.drop k).take 1 := by
  have e : ((k : Int) + 1) = ((k + 1 : Nat) : Int) := by omega
  unfold cutG
  rw [e, HT.sIx_nat, HT.sIx_nat, Nat.min_eq_left h]
  by_cases c : k = xs.length
  · subst c; simp
  · have : min (k + 1) xs.length - k = 1 := by omega
    rw [this]
theorem neL_sD {M : Mem} {i j : Nat} {As Bs : List Simple} (gA : ∀ S ∈ As, GoodS S kk) (gB : ∀ S ∈ Bs, GoodS S kk) (h6 : kk ≤ 6) (hi : M[i]? = some (.lst (sW As))) (hj : M[j]? = some (.lst (sW Bs))) : oNeL (.obj i) (.obj j) M = some (.d (.bool (!decide (As = Bs))), M) := by
  have e1 : deepD M 3 (.obj i) = some (.list (As.map sD)) := deepD_lst (by rw [hi]; simp [sW])
  have e2 : deepD M 3 (.obj j) = some (.list (Bs.map sD)) := deepD_lst (by rw [hj]; simp [sW])
  have s1 := Ls.shaped_sDs gA h6
  have s2 := Ls.shaped_sDs gB h6
  have q : ∀ As Bs : List Simple, PyData.eqvAll (As.map sD) (Bs.map sD) = decide (As = Bs) := by
    intro As
    induction As with
    | nil => intro Bs; cases Bs <;> simp [PyData.eqvAll]
    | cons A As ih =>
      intro Bs
      cases Bs with
      | nil => simp [PyData.eqvAll]
      | cons B Bs =>
        simp only [List.map_cons, PyData.eqvAll, Ls.eqv_sD, ih Bs]
        by_cases h1 : A = B <;> by_cases h2 : As = Bs <;> simp [h1, h2]
  simp only [oNeL, eqL, e1, e2, Option.bind_some, s1, s2, Bool.and_self, if_true, PyData.eqv, q]
  rfl
theorem sIns_eq {M : Mem} {L : Nat} {R : List W} {k : Nat} {w : W} {o i e : EvE} {ρ : Ev} (hL : M[L]? = some (.lst R)) (ho : o ρ M = some (.obj L, M)) (hi : i ρ M = some (.d (.int (k : Int)), M)) (he : e ρ M = some (w, M)) (hk : k ≤ 1000) (hR : R.length ≤ 1000) : sIns o i e ρ M = some (.d .none, M.set L (.lst (R.take k ++ [w] ++ R.drop k))) := by
  have r : InR (k : Int) := .of (by omega) (by omega)
  simp only [sIns, ho, hi, he, Option.bind_some, x_lstAt hL, asI]
  rw [if_pos ⟨by omega, by omega, r⟩]
  simp
theorem ob_eq {v0 v3 : Option W} {R : List Simple} {x : Simple} {J : Mem} (ris : Ris R) (gR : ∀ S ∈ R, GoodS S kk) (gx : GoodS x kk) (rl : R.length ≤ 900) :
    ∃ w3 J', OB [v0, some (.obj M.length), some (.d (sD x)), v3, none] (M ++ .lst (sW R) :: J) = some (.nx [v0, some (.obj M.length), some (.d (sD x)), w3, none] (M ++ .lst (sW (insS R x)) :: J')) := by
  have k6 := gx.few
  have hL : (M ++ .lst (sW R) :: J)[M.length]? = some (.lst (sW R)) := by simp
  have sel := lc_selD (deps := [(M.length, .lst (sW R))]) (g := gN 4) (t := tVal (eDef 2 (F__law_ahead) (aCons (eVar 4) (aCons (eVar 2) aNil)))) (e := eVar 4) (ρ0 := [v0, some (.obj M.length), some (.d (sD x)), v3, none]) (M := M ++ .lst (sW R) :: J) (fun S : Simple => .d (sD S)) (fun S => .d (sD S)) (fun S => ltS S x) (fun acc => by simp) R [] (by simp; omega) fun S hS => ⟨_, rfl, fun acc => by simp [F__law_ahead_eq (gR S hS) gx]⟩
  simp only [List.nil_append] at sel
  change lcL _ _ _ _ _ _ (sW R) _ = _ at sel
  have pf : ((R.filter fun S => ltS S x).map fun S => W.d (sD S)).length = pl R x := by simp [pl]
  have ple := pl_le R x
  generalize hF : ((R.filter fun S => ltS S x).map fun S => W.d (sD S)) = F at sel pf
  have cut : cutG (sW R) (some (pl R x : Int)) (some ((pl R x : Int) + 1)) = sW ((R.drop (pl R x)).take 1) := by
    rw [cut_one _ _ (by simpa using ple)]
    simp [sW, List.map_take, List.map_drop]
  have sub : ∀ S ∈ (R.drop (pl R x)).take 1, GoodS S kk := fun S hS => gR S (List.mem_of_mem_drop (List.mem_of_mem_take hS))
  have ne := neL_sD (M := M ++ .lst (sW R) :: (J ++ [.lst F, .lst (sW ((R.drop (pl R x)).take 1)), .lst (sW [x])])) (i := M.length + (J.length + 2)) (j := M.length + (J.length + 3)) (As := (R.drop (pl R x)).take 1) (Bs := [x]) sub (fun S hS => by rw [List.mem_singleton.mp hS]; exact gx) k6 (by simp) (by simp)
  have la : ∀ J2, lstAt (M ++ .lst (sW R) :: J2) (.obj M.length) = some (M.length, sW R) := fun J2 => x_lstAt (by simp)
  have at' := ins_at R x ris
  have insE := sIns_eq (M := M ++ .lst (sW R) :: (J ++ [.lst F, .lst (sW ((R.drop (pl R x)).take 1)), .lst (sW [x])])) (L := M.length) (R := sW R) (k := pl R x) (w := .d (sD x)) (o := eVar 1) (i := eVar 3) (e := eVar 2) (ρ := [v0, some (.obj M.length), some (.d (sD x)), some (.d (.int (pl R x : Int))), none]) (by simp) (by simp) (by simp) (by simp) (by omega) (by simp; omega)
  refine ⟨some (.d (.int (pl R x : Int))), J ++ [.lst F, .lst (sW ((R.drop (pl R x)).take 1)), .lst (sW [x])], ?_⟩
  have lF : ∀ J2 : Mem, lstAt (M ++ .lst (sW R) :: (J ++ .lst F :: J2)) (.obj (M.length + (J.length + 1))) = some (M.length + (J.length + 1), F) := fun J2 => x_lstAt (by simp)
  have first : (sSet 3 (eCall fLen (aCons (eLc (iSeq (eVar 1)) (gN 4) (tVal (eDef 2 (F__law_ahead) (aCons (eVar 4) (aCons (eVar 2) aNil)))) (eVar 4) [4]) aNil))) [v0, some (.obj M.length), some (.d (sD x)), v3, none] (M ++ .lst (sW R) :: J) = some (.nx [v0, some (.obj M.length), some (.d (sD x)), some (.d (.int (pl R x : Int))), none] (M ++ .lst (sW R) :: (J ++ [.lst F]))) := by
    generalize sW R = rw at *
    simp only [List.length_append, List.length_cons, List.append_assoc, List.cons_append] at sel
    simp only [x_set, x_call, x_acons, x_anil, x_lc, x_iseqO, x_var (show ([v0, some (.obj M.length), some (.d (sD x)), v3, none] : Ev)[1]? = some (some (.obj M.length)) from rfl), Option.bind_some, la]
    simp only [x_wipe, x_wipe0, List.set_cons_succ, List.set_cons_zero, List.length_append, List.length_cons, List.append_assoc, List.cons_append, sel, Option.bind_some]
    simp [pf, lF]
  have ge : (M ++ MO.lst (sW R) :: (J ++ [.lst F])).length = M.length + (J.length + 2) := by simp
  have g2 : (M ++ MO.lst (sW R) :: (J ++ [.lst F, .lst (sW ((R.drop (pl R x)).take 1))])).length = M.length + (J.length + 3) := by simp
  have test : ∀ (b : Bool), (!decide ((R.drop (pl R x)).take 1 = [x])) = b → tVal (eOp oNeL (eSlLv (pE (eVar 3)) (pE (eOp oAdd (eVar 3) (eC (.int 1)))) (eVar 1)) (eLst (aCons (eVar 2) aNil))) [v0, some (.obj M.length), some (.d (sD x)), some (.d (.int (pl R x : Int))), none] (M ++ .lst (sW R) :: (J ++ [.lst F])) = some (b, M ++ .lst (sW R) :: (J ++ [.lst F, .lst (sW ((R.drop (pl R x)).take 1)), .lst (sW [x])])) := by
    intro b hb
    rw [hb] at ne
    have c1 : (J ++ [MO.lst F]) ++ [MO.lst (sW ((R.drop (pl R x)).take 1))] = J ++ [.lst F, .lst (sW ((R.drop (pl R x)).take 1))] := by simp
    have one : sW [x] = [.d (sD x)] := rfl
    rw [one] at ne ⊢
    generalize sW R = rw at *
    generalize sW ((R.drop (pl R x)).take 1) = c at *
    simp [eSlLv, pE, la, cut, small_size]
    simp at ge g2
    simp [Nat.add_assoc, ne]
  simp only [OB]
  rw [x_seq, first]
  simp only [Option.bind_some]
  rw [at']
  by_cases c : (R.drop (pl R x)).take 1 = [x]
  · rw [x_if, test false (by simp [c]), if_pos c]
    simp
  · rw [x_if, test true (by simp [c]), if_neg c]
    simp only [Option.bind_some, if_true, x_expr, insE]
    simp [sW, List.map_take, List.map_drop]
theorem order_loop {l : Nat} {L : MO} : ∀ (xs R : List Simple) (v0 v2 v3 : Option W) (J : Mem) (hl : M[l]? = some L) (ll : l < M.length), Ris R → (∀ S ∈ R, GoodS S kk) → (∀ S ∈ xs, GoodS S kk) → R.length + xs.length ≤ 900 →
    ∃ w2 w3 J', forL [(l, L)] (gN 2) OB (sW xs) [v0, some (.obj M.length), v2, v3, none] (M ++ .lst (sW R) :: J) = some (.nx [v0, some (.obj M.length), w2, w3, none] (M ++ .lst (sW (xs.foldl insS R)) :: J'))
  | [], R, v0, v2, v3, J, hl, ll, _, _, _, _ => ⟨v2, v3, J, by simp [forL, get_old hl]⟩
  | x :: xs, R, v0, v2, v3, J, hl, ll, ris, gR, gx, sm => by
    obtain ⟨w3, J1, e⟩ := ob_eq (M := M) (v0 := v0) (v3 := v3) (J := J) ris gR (gx x List.mem_cons_self) (by simp at sm; omega)
    have il : (insS R x).length ≤ R.length + 1 := by
      rw [ins_at R x ris]
      split
      · omega
      · simp [List.length_append]; omega
    obtain ⟨u2, u3, J2, e2⟩ := order_loop xs (insS R x) v0 (some (.d (sD x))) w3 J1 hl ll (ins_ris R x ris) (fun S hS => by
      rcases (ins_mem R x S).mp hS with h | h
      · exact gR S h
      · rw [h]; exact gx x List.mem_cons_self) (fun S hS => gx S (List.mem_cons_of_mem _ hS)) (by simp at sm; omega)
    refine ⟨u2, u3, J2, ?_⟩
    generalize OB = B at *
    simp [forL, get_old hl, e]
    exact e2
theorem F__law_in_order_eq {l : Nat} {Ss : List Simple} (hl : M[l]? = some (.lst (sW Ss))) (g : ∀ S ∈ Ss, GoodS S kk) (sm : Ss.length ≤ 900) : F__law_in_order [.obj l] M = some (.d (.tuple ((rowOf Ss).map sD)), M) := by
  have ll : l < M.length := (List.getElem?_eq_some_iff.mp hl).1
  obtain ⟨w2, w3, J, e⟩ := order_loop (M := M) (l := l) (L := .lst (sW Ss)) Ss [] (some (.obj l)) none none [] hl ll List.Pairwise.nil (fun _ h => by simp at h) g (by simpa using sm)
  rw [fold_row] at e
  have mk : mkTup (sW (rowOf Ss)) = .d (.tuple ((rowOf Ss).map sD)) := mkTup_of' sD _
  have la := x_lstAt (M := M ++ .lst (sW (rowOf Ss)) :: J) (i := M.length) (ws := sW (rowOf Ss)) (by simp)
  have la0 := x_lstAt (M := M ++ [MO.lst []]) (i := l) (ws := sW Ss) (get_old hl)
  have nm := norm_data' (M := M) (J := .lst (sW (rowOf Ss)) :: J) (x := .tuple ((rowOf Ss).map sD))
  simp only [F__law_in_order, nf, fnV, g_order_eq]
  rw [show (sW [] : List W) = [] from rfl] at e
  generalize OB = B at *
  generalize sW Ss = A at *
  generalize sW (rowOf Ss) = A2 at *
  simp [small_size, la0, e, la, mk, nm]
end
end K02

set_option Elab.async false
set_option linter.all false
set_option maxRecDepth 100000
set_option maxHeartbeats 1000000
/-! K02r: sayings taken apart, exchanged, joined in a row -/
namespace K02
open PySem PySem.Spec PyProof.Rows L2 Sa Va Pg Lx
open Lw (Upd GoodS cm_left cm_right nodup_le)
section
variable {M : Mem} {kk : Nat}
theorem head_word (S : Simple) : ∃ z ds, sD S = .tuple (.str z :: ds) ∧ (z = "sum" ∨ z = "rest") := by
  cases S with
  | sum ws c => exact ⟨_, _, rfl, .inl rfl⟩
  | rest ws r m => exact ⟨_, _, rfl, .inr rfl⟩
theorem in_yes {z : Str} (h : z = "sum" ∨ z = "rest") : oInT (.d (.str z)) (.d (.tuple [.str (Str.ofString "sum"), .str (Str.ofString "rest")])) M = some (.d (.bool true), M) := by
  rcases h with h | h <;> simp [oInT, strsOf, h]
theorem in_no {z : Str} (h : ¬ z = Str.ofString "sum" ∧ ¬ z = Str.ofString "rest") : oInT (.d (.str z)) (.d (.tuple [.str (Str.ofString "sum"), .str (Str.ofString "rest")])) M = some (.d (.bool false), M) := by
  simp [oInT, strsOf, h]
theorem no_not : ¬ Str.ofString "not" = Str.ofString "sum" ∧ ¬ Str.ofString "not" = Str.ofString "rest" := by decide +kernel
theorem no_and : ¬ Str.ofString "and" = Str.ofString "sum" ∧ ¬ Str.ofString "and" = Str.ofString "rest" := by decide +kernel
theorem no_or : ¬ Str.ofString "or" = Str.ofString "sum" ∧ ¬ Str.ofString "or" = Str.ofString "rest" := by decide +kernel
theorem simple_ones_eq : ∀ (k : Nat) (y : Say) (M : Mem), y.deep ≤ k → y.leaves.length ≤ 900 → F__law_simple_ones k [.d (yD y)] M = some (.obj M.length, M ++ [.lst (sW y.leaves)])
  | 0, y, M, h, _ => by cases y <;> simp [Say.deep] at h
  | k + 1, .one S, M, h, hs => by
    obtain ⟨z, ds, e, hz⟩ := head_word S
    have n := norm_new (M := M) (us := [.d (sD S)]) (J := []) rfl
    have iy := fun M => in_yes (M := M) hz
    show F__law_simple_ones (k + 1) [.d (sD S)] M = some (.obj M.length, M ++ [.lst [.d (sD S)]])
    rw [e] at n ⊢
    simp [F__law_simple_ones, nf, fnV, g__law_simple_ones, small_size, iy, n]
  | k + 1, .no a, M, h, hs => by
    have e := fun M => simple_ones_eq k a M (by simp [Say.deep] at h; omega) hs
    have hs' : a.leaves.length ≤ sizeLine := small_size (Nat.le_trans hs (by decide))
    have n := fun J => norm_new (M := M) (us := sW a.leaves) (J := J) (all_isD sD _)
    have nn := fun M => in_no (M := M) no_not
    simp [F__law_simple_ones, nf, fnV, g__law_simple_ones, nn, small_size, yD, forL, cutG, HT.sIx, e, hs', n, Say.leaves]
  | k + 1, .an a b, M, h, hs => by
    have hl : a.leaves.length + b.leaves.length ≤ 900 := by simpa [Say.leaves] using hs
    have ea := fun M => simple_ones_eq k a M (by simp [Say.deep] at h; omega) (by omega)
    have eb := fun M => simple_ones_eq k b M (by simp [Say.deep] at h; omega) (by omega)
    have hs1 : a.leaves.length ≤ sizeLine := small_size (by omega)
    have hs2 : a.leaves.length + b.leaves.length ≤ sizeLine := small_size (by omega)
    have n := fun J => norm_new (M := M) (us := sW a.leaves ++ sW b.leaves) (J := J) (by rw [List.all_append, all_isD sD, all_isD sD]; rfl)
    have nn := fun M => in_no (M := M) no_and
    simp [F__law_simple_ones, nf, fnV, g__law_simple_ones, nn, small_size, yD, forL, cutG, HT.sIx, ea, eb, hs1, hs2, n, Say.leaves]
  | k + 1, .or a b, M, h, hs => by
    have hl : a.leaves.length + b.leaves.length ≤ 900 := by simpa [Say.leaves] using hs
    have ea := fun M => simple_ones_eq k a M (by simp [Say.deep] at h; omega) (by omega)
    have eb := fun M => simple_ones_eq k b M (by simp [Say.deep] at h; omega) (by omega)
    have hs1 : a.leaves.length ≤ sizeLine := small_size (by omega)
    have hs2 : a.leaves.length + b.leaves.length ≤ sizeLine := small_size (by omega)
    have n := fun J => norm_new (M := M) (us := sW a.leaves ++ sW b.leaves) (J := J) (by rw [List.all_append, all_isD sD, all_isD sD]; rfl)
    have nn := fun M => in_no (M := M) no_or
    simp [F__law_simple_ones, nf, fnV, g__law_simple_ones, nn, small_size, yD, forL, cutG, HT.sIx, ea, eb, hs1, hs2, n, Say.leaves]
/-- the parts of each joined one exchanged -/
def exch : Say → Say
  | .one S => .one S
  | .no a => .no (exch a)
  | .an a b => .an (exch b) (exch a)
  | .or a b => .or (exch b) (exch a)
theorem exch_deep : ∀ y : Say, (exch y).deep = y.deep
  | .one _ => rfl
  | .no a => by simp [exch, Say.deep, exch_deep a]
  | .an a b => by simp [exch, Say.deep, exch_deep a, exch_deep b, Nat.max_comm]
  | .or a b => by simp [exch, Say.deep, exch_deep a, exch_deep b, Nat.max_comm]
theorem exch_len : ∀ y : Say, (exch y).leaves.length = y.leaves.length
  | .one _ => rfl
  | .no a => by simp [exch, Say.leaves, exch_len a]
  | .an a b => by simp [exch, Say.leaves, exch_len a, exch_len b, Nat.add_comm]
  | .or a b => by simp [exch, Say.leaves, exch_len a, exch_len b, Nat.add_comm]
theorem exch_mem : ∀ (y : Say) (S : Simple), S ∈ (exch y).leaves ↔ S ∈ y.leaves
  | .one _, S => Iff.rfl
  | .no a, S => exch_mem a S
  | .an a b, S => by simp only [exch, Say.leaves, List.mem_append, exch_mem a S, exch_mem b S]; exact Or.comm
  | .or a b, S => by simp only [exch, Say.leaves, List.mem_append, exch_mem a S, exch_mem b S]; exact Or.comm
theorem exchanged_eq : ∀ (k : Nat) (y : Say) (M : Mem), y.deep ≤ k → F__law_exchanged k [.d (yD y)] M = some (.d (yD (exch y)), M)
  | 0, y, M, h => by cases y <;> simp [Say.deep] at h
  | k + 1, .one S, M, h => by
    obtain ⟨z, ds, e, hz⟩ := head_word S
    have iy := fun M => in_yes (M := M) hz
    show F__law_exchanged (k + 1) [.d (sD S)] M = some (.d (sD S), M)
    rw [e]
    simp [F__law_exchanged, nf, fnV, g__law_exchanged, small_size, iy]
  | k + 1, .no a, M, h => by
    have e := fun M => exchanged_eq k a M (by simp [Say.deep] at h; omega)
    have nn := fun M => in_no (M := M) no_not
    have s0 : 0 < sizeLine := by decide
    simp [F__law_exchanged, nf, fnV, g__law_exchanged, nn, small_size, yD, lcL, cutG, HT.sIx, e, s0, oAddG, oCatT, exch]
  | k + 1, .an a b, M, h => by
    have ea := fun M => exchanged_eq k a M (by simp [Say.deep] at h; omega)
    have eb := fun M => exchanged_eq k b M (by simp [Say.deep] at h; omega)
    have nn := fun M => in_no (M := M) no_and
    have s0 : 0 < sizeLine := by decide
    have s1 : 1 < sizeLine := by decide
    simp [F__law_exchanged, nf, fnV, g__law_exchanged, nn, small_size, yD, lcL, cutG, HT.sIx, ea, eb, s0, s1, oAddG, oCatT, exch]
  | k + 1, .or a b, M, h => by
    have ea := fun M => exchanged_eq k a M (by simp [Say.deep] at h; omega)
    have eb := fun M => exchanged_eq k b M (by simp [Say.deep] at h; omega)
    have nn := fun M => in_no (M := M) no_or
    have s0 : 0 < sizeLine := by decide
    have s1 : 1 < sizeLine := by decide
    simp [F__law_exchanged, nf, fnV, g__law_exchanged, nn, small_size, yD, lcL, cutG, HT.sIx, ea, eb, s0, s1, oAddG, oCatT, exch]
/-- joined two by two -/
def comb : List Say → List Say
  | [] => []
  | [x] => [x]
  | x :: y :: r => .or x y :: comb r
def pairsOr : List Say → List Say
  | x :: y :: r => .or x y :: pairsOr r
  | _ => []
theorem comb_split : ∀ r : List Say, comb r = pairsOr r ++ r.drop (r.length - r.length % 2)
  | [] => rfl
  | [x] => rfl
  | x :: y :: r => by
    have ih := comb_split r
    have e : (x :: y :: r).length - (x :: y :: r).length % 2 = (r.length - r.length % 2) + 2 := by simp only [List.length_cons]; omega
    rw [e]
    simp [comb, pairsOr, ih]
theorem zip_pairs : ∀ r : List Say, (evens r).zip (evens r.tail) = (evens r).zip (evens r.tail) ∧ ((evens r).zip (evens r.tail)).map (fun t => Say.or t.1 t.2) = pairsOr r
  | [] => ⟨rfl, rfl⟩
  | [x] => ⟨rfl, rfl⟩
  | [x, y] => ⟨rfl, rfl⟩
  | x :: y :: z :: r => by
    have ih := (zip_pairs (z :: r)).2
    refine ⟨rfl, ?_⟩
    have e1 : evens (x :: y :: z :: r) = x :: evens (z :: r) := rfl
    have e2 : evens (x :: y :: z :: r).tail = y :: evens (z :: r).tail := by
      show evens (y :: z :: r) = y :: evens r
      rfl
    rw [e1, e2]
    simp only [List.zip_cons_cons, List.map_cons, ih, pairsOr]
theorem comb_len : ∀ r : List Say, (comb r).length = (r.length + 1) / 2
  | [] => rfl
  | [x] => by simp [comb]
  | x :: y :: r => by simp only [comb, List.length_cons, comb_len r]; omega
theorem comb_mem : ∀ (r : List Say) (S : Simple), S ∈ (comb r).flatMap Say.leaves ↔ S ∈ r.flatMap Say.leaves
  | [], S => Iff.rfl
  | [x], S => Iff.rfl
  | x :: y :: r, S => by
    simp only [comb, List.flatMap_cons, Say.leaves, List.mem_append, comb_mem r S, or_assoc]
theorem comb_count : ∀ (r : List Say), ((comb r).flatMap Say.leaves).length = (r.flatMap Say.leaves).length
  | [] => rfl
  | [x] => rfl
  | x :: y :: r => by simp only [comb, List.flatMap_cons, Say.leaves, List.length_append, comb_count r]; omega
theorem comb_deep : ∀ (r : List Say) (d : Nat), (∀ y ∈ r, y.deep ≤ d) → ∀ y ∈ comb r, y.deep ≤ d + 1
  | [], d, _ => fun y h => by simp [comb] at h
  | [x], d, h => fun y hy => by simp [comb] at hy; rw [hy]; exact Nat.le_succ_of_le (h x (by simp))
  | x :: z :: r, d, h => fun y hy => by
    rcases List.mem_cons.mp hy with e | hy
    · rw [e]
      have h1 := h x (by simp)
      have h2 := h z (by simp)
      simp only [Say.deep]; omega
    · exact comb_deep r d (fun y hy => h y (by simp [hy])) y hy
end
end K02

set_option Elab.async false
set_option linter.all false
set_option maxRecDepth 100000
set_option maxHeartbeats 1000000
/-! K02s: joined in a row; near ones; sorts -/
namespace K02
open PySem PySem.Spec PyProof.Rows L2 Sa Va Pg Lx
open Lw (Upd GoodS cm_left cm_right nodup_le Upd.refl Upd.trans Upd.split)
section
variable {M : Mem} {kk : Nat}
abbrev yW (r : List Say) : List W := r.map fun y => .d (yD y)
noncomputable def CC : EvT := (tVal (eOp oGt (eCall fLen (aCons (eVar 1) aNil)) (eC (.int 1))))
noncomputable def RB : EvS := (sSeq (sSet 2 (eLc (iZip2U (aCons (eStep2 none (eVar 1)) (aCons (eStep2 (some 1) (eVar 1)) aNil))) (gT 2 (gsC (gN 3) (gsC (gN 4) gs0))) tTrue (eTup (aCons (eC (.str "or")) (aCons (eVar 3) (aCons (eVar 4) aNil)))) [3, 4]))
    (sSet 1 (eOp oAddG (eVar 2) (eSlLv (pE (eOp oSub (eCall fLen (aCons (eVar 1) aNil)) (eOp oMod (eCall fLen (aCons (eVar 1) aNil)) (eC (.int 2))))) pN (eVar 1)))))
theorem g_row_eq : g__law_in_a_row = (sSeq (sSet 1 (eLc (iSeq (eVar 0)) (gN 3) tTrue (eTup (aCons (eC (.str "and")) (aCons (eVar 3) (aCons (eTup (aCons (eC (.str "not")) (aCons (eVar 3) aNil))) aNil)))) [3]))
    (sSeq (whN CC RB 1000000)
    (sRet (eOp oIx (eVar 1) (eC (.int 0)))))) := rfl
theorem evens_map {α β : Type} (f : α → β) : ∀ r : List α, evens (r.map f) = (evens r).map f
  | [] => rfl
  | [x] => rfl
  | x :: y :: r => by simp only [List.map_cons, evens, evens_map f r]
theorem evens_le {α : Type} : ∀ r : List α, (evens r).length ≤ r.length
  | [] => Nat.le_refl _
  | [x] => Nat.le_refl _
  | x :: y :: r => by simp only [evens, List.length_cons]; have := evens_le r; omega
theorem rb_eq {v0 v2 : Option W} {R : Nat} {r : List Say} (hR : M[R]? = some (.lst (yW r))) (sm : r.length ≤ 500) : ∃ w2 J, RB [v0, some (.obj R), v2, none, none] M = some (.nx [v0, some (.obj (M.length + 4)), w2, none, none] (M ++ J)) ∧ (M ++ J)[M.length + 4]? = some (.lst (yW (comb r))) := by
  have la : ∀ J, lstAt (M ++ J) (.obj R) = some (R, yW r) := fun J => x_lstAt (get_old hR)
  have la0 := x_lstAt hR
  have sq : ∀ J, seqOf (M ++ J) (.obj R) = some (yW r) := fun J => x_seqO (get_old hR)
  have ev : stepG (yW r) none = yW (evens r) := by rw [step_evens, evens_map]
  have od : stepG (yW r) (some 1) = yW (evens r.tail) := by
    rw [step_odds]
    have : (yW r).tail = yW r.tail := by cases r <;> rfl
    rw [this, evens_map]
  have z : zip2W (yW (evens r)) (yW (evens r.tail)) = ((evens r).zip (evens r.tail)).map fun t => .d (.tuple [yD t.1, yD t.2]) := Tr.zip_map yD yD _ _
  have zl : ((evens r).zip (evens r.tail)).length ≤ 500 := by
    have := evens_le r
    rw [List.length_zip]; omega
  have lm := lc_map (deps := [(M.length, .lst (yW (evens r))), (M.length + 1, .lst (yW (evens r.tail)))]) (g := gT 2 (gsC (gN 3) (gsC (gN 4) gs0))) (e := eTup (aCons (eC (.str "or")) (aCons (eVar 3) (aCons (eVar 4) aNil)))) (ρ0 := [v0, some (.obj R), v2, none, none]) (M := M ++ [.lst (yW (evens r)), .lst (yW (evens r.tail))])
    ((evens r).zip (evens r.tail)) (fun t : Say × Say => .d (.tuple [yD t.1, yD t.2])) (fun t => .d (yD (.or t.1 t.2))) (fun acc p hp => by
      rcases List.mem_cons.mp hp with rfl | hp
      · simp
      · rw [List.mem_singleton.mp hp]; simp) (by omega) fun t ht => ⟨[v0, some (.obj R), v2, some (.d (yD t.1)), some (.d (yD t.2))], by simp [tupOf], fun acc => by simp [yD, small_size]⟩
  have po := (zip_pairs r).2
  have e1 : (((evens r).zip (evens r.tail)).map fun t => W.d (yD (.or t.1 t.2))) = yW (pairsOr r) := by rw [← po]; simp [yW, Function.comp_def]
  rw [e1] at lm
  have cs := comb_split r
  have mi : ((r.length : Int) - (r.length : Int) % 2) = ((r.length - r.length % 2 : Nat) : Int) := by omega
  have cut : cutG (yW r) (some (((r.length - r.length % 2 : Nat) : Int))) none = yW (r.drop (r.length - r.length % 2)) := by
    unfold cutG
    rw [HT.sIx_nat, HT.sIx_none]
    have ml : min (r.length - r.length % 2) (yW r).length = r.length - r.length % 2 := by simp
    rw [ml, List.take_of_length_le (by simp)]
    simp [yW, List.map_drop]
  have yl : (yW r).length = r.length := by simp
  have sz : (yW (pairsOr r)).length + (yW (r.drop (r.length - r.length % 2))).length ≤ sizeLine := by
    have : (comb r).length ≤ 500 := by rw [comb_len]; omega
    rw [cs] at this
    rw [List.length_map, List.length_map, ← List.length_append]
    exact small_size (by omega)
  have cat : yW (pairsOr r) ++ yW (r.drop (r.length - r.length % 2)) = yW (comb r) := by rw [cs]; simp [yW]
  generalize yW r = rw at *
  generalize yW (evens r) = a at *
  generalize yW (evens r.tail) = b at *
  generalize yW (pairsOr r) = c at *
  generalize yW (r.drop (r.length - r.length % 2)) = d at *
  generalize yW (comb r) = f at *
  refine ⟨some (.obj (M.length + 2)), [.lst a, .lst b, .lst c, .lst d, .lst f], ?_, by simp⟩
  have s1 : srcOf (M ++ [.lst a, .lst b]) (.obj M.length) = some (a, [(M.length, .lst a)]) := by simp [srcOf]
  have s2 : srcOf (M ++ [.lst a, .lst b]) (.obj (M.length + 1)) = some (b, [(M.length + 1, .lst b)]) := by simp [srcOf]
  have l2 : (M ++ [MO.lst a, .lst b]).length = M.length + 2 := by simp
  rw [l2] at lm
  have mm : M ++ [MO.lst a, .lst b] ++ [.lst c] = M ++ [.lst a, .lst b, .lst c] := by simp
  have m0 : M ++ [MO.lst a, .lst b] ++ [.lst []] = M ++ [.lst a, .lst b, .lst []] := by simp
  rw [mm, m0] at lm
  simp [RB, eStep2, iZip2U, la0, la, sq, ev, od, s1, s2, z, lm, wipeW, eSlLv, pE, pN, yl, mi, cut, oCat, sz, cat]
/-- the row grows short till one is left -/
theorem row_loop {v0 : Option W} : ∀ (t n : Nat) (r : List Say) (d R : Nat) (v2 : Option W) (M : Mem), r.length ≤ 2 ^ t → 0 < r.length → r.length ≤ 500 → (∀ y ∈ r, y.deep ≤ d) → t < n → M[R]? = some (.lst (yW r)) →
    ∃ y w2 R' J, whN CC RB n [v0, some (.obj R), v2, none, none] M = some (.nx [v0, some (.obj R'), w2, none, none] (M ++ J)) ∧ (M ++ J)[R']? = some (.lst [.d (yD y)]) ∧ y.deep ≤ d + t ∧ (∀ S, S ∈ y.leaves ↔ S ∈ r.flatMap Say.leaves) ∧ y.leaves.length = (r.flatMap Say.leaves).length := by
  intro t
  induction t with
  | zero =>
    intro n r d R v2 M h1 h2 h3 hd hn hR
    obtain ⟨n, rfl⟩ : ∃ j, n = j + 1 := ⟨n - 1, by omega⟩
    match r, h1, h2 with
    | [y], _, _ =>
      have la := x_lstAt hR
      have c : CC [v0, some (.obj R), v2, none, none] M = some (false, M) := by simp [CC, seqOf, hR]
      exact ⟨y, v2, R, [], by simp [whN, c], by simpa using hR, by simpa using hd y (by simp), fun S => by simp, by simp⟩
  | succ t ih =>
    intro n r d R v2 M h1 h2 h3 hd hn hR
    obtain ⟨n, rfl⟩ : ∃ j, n = j + 1 := ⟨n - 1, by omega⟩
    by_cases one : r.length = 1
    · match r, one with
      | [y], _ =>
        have c : CC [v0, some (.obj R), v2, none, none] M = some (false, M) := by simp [CC, seqOf, hR]
        exact ⟨y, v2, R, [], by simp [whN, c], by simpa using hR, Nat.le_trans (hd y (by simp)) (by omega), fun S => by simp, by simp⟩
    · have c : CC [v0, some (.obj R), v2, none, none] M = some (true, M) := by
        have : (1 : Int) < (r.length : Int) := by omega
        simp [CC, seqOf, hR, this]
      obtain ⟨w2, J, e, at'⟩ := rb_eq (v0 := v0) (v2 := v2) hR h3
      have cl := comb_len r
      obtain ⟨y, u2, R', J2, e2, a2, dp, mem, cnt⟩ := ih n (comb r) (d + 1) (M.length + 4) w2 (M ++ J) (by rw [cl]; rw [Nat.pow_succ] at h1; omega) (by omega) (by omega) (comb_deep r d hd) (by omega) at'
      refine ⟨y, u2, R', J ++ J2, ?_, by rw [← List.append_assoc]; exact a2, by omega, fun S => (mem S).trans (comb_mem r S), cnt.trans (comb_count r)⟩
      generalize RB = B at *
      simp only [whN, c, Option.bind_some, if_true, e]
      rw [← List.append_assoc]
      exact e2
theorem in_a_row_eq {l : Nat} {Ss : List Simple} (hl : M[l]? = some (.lst (sW Ss))) (s0 : 0 < Ss.length) (s1 : Ss.length ≤ 16) :
    ∃ y, F__law_in_a_row [.obj l] M = some (.d (yD y), M) ∧ y.deep ≤ 7 ∧ (∀ S, S ∈ y.leaves ↔ S ∈ Ss) ∧ y.leaves.length ≤ 32 := by
  have e := lc_map (deps := [(l, .lst (sW Ss))]) (g := gN 3) (e := eTup (aCons (eC (.str "and")) (aCons (eVar 3) (aCons (eTup (aCons (eC (.str "not")) (aCons (eVar 3) aNil))) aNil)))) (ρ0 := [some (.obj l), none, none, none, none]) (M := M) Ss (fun S => .d (sD S)) (fun S => .d (yD (.an (.one S) (.no (.one S))))) (fun acc => by simp [get_old hl]) (by omega) fun S _ => ⟨_, rfl, fun acc => by simp [small_size, yD]⟩
  have e' : (Ss.map fun S => W.d (yD (.an (.one S) (.no (.one S))))) = yW (Ss.map fun S => .an (.one S) (.no (.one S))) := by simp [yW]
  rw [e'] at e
  have fl : ∀ Ts : List Simple, (∀ S, S ∈ (Ts.map fun S => Say.an (.one S) (.no (.one S))).flatMap Say.leaves ↔ S ∈ Ts) ∧ ((Ts.map fun S => Say.an (.one S) (.no (.one S))).flatMap Say.leaves).length = 2 * Ts.length := by
    intro Ts
    induction Ts with
    | nil => simp
    | cons T Ts ih =>
      constructor
      · intro S
        simp only [List.map_cons, List.flatMap_cons, Say.leaves, List.mem_append, ih.1 S, List.mem_cons, List.mem_singleton, List.not_mem_nil, or_false]
        constructor
        · rintro ((h | h) | h)
          · exact .inl h
          · exact .inl h
          · exact .inr h
        · rintro (h | h)
          · exact .inl (.inl h)
          · exact .inr h
      · simp only [List.map_cons, List.flatMap_cons, Say.leaves, List.length_append, ih.2, List.length_cons, List.length_nil]; omega
  obtain ⟨y, w2, R', J, lp, at', dp, mem, cnt⟩ := row_loop (v0 := some (.obj l)) 4 1000000 (Ss.map fun S => .an (.one S) (.no (.one S))) 3 M.length none (M ++ [.lst (yW (Ss.map fun S => .an (.one S) (.no (.one S))))]) (by simpa using s1) (by simpa using s0) (by simp; omega) (fun y hy => by
    obtain ⟨S, _, rfl⟩ := List.mem_map.mp hy
    simp [Say.deep]) (by decide) (by simp)
  refine ⟨y, ?_, by omega, fun S => (mem S).trans ((fl Ss).1 S), by rw [cnt, (fl Ss).2]; omega⟩
  generalize yW (Ss.map fun S => .an (.one S) (.no (.one S))) = us at *
  have la0 := x_lstAt hl
  have nm := norm_data' (M := M) (J := .lst us :: J) (x := yD y)
  have sq : seqOf (M ++ .lst us :: J) (.obj R') = some [.d (yD y)] := by
    have : M ++ [.lst us] ++ J = M ++ .lst us :: J := by simp
    rw [this] at at'
    exact x_seqO at'
  simp only [F__law_in_a_row, nf, fnV, g_row_eq]
  generalize CC = C at *
  generalize RB = B at *
  change lcL _ _ _ _ _ _ (sW Ss) _ = _ at e
  generalize sW Ss = ss at *
  simp [la0, e, lp, sq, nm]
end
end K02

set_option Elab.async false
set_option linter.all false
set_option maxRecDepth 100000
set_option maxHeartbeats 1000000
/-! K02t: near ones, sorts -/
namespace K02
open PySem PySem.Spec PyProof.Rows L2 Sa Va Pg Lx
open Lw (Upd GoodS cm_left cm_right nodup_le Upd.refl Upd.trans Upd.split)
section
variable {M : Mem} {kk : Nat}
theorem addG_tup {a b : List PyData} (h : a.length + b.length ≤ 1000) : oAddG (.d (.tuple a)) (.d (.tuple b)) M = some (.d (.tuple (a ++ b)), M) := by
  have s := small_size h
  have m : mkTup (a.map W.d ++ b.map W.d) = .d (.tuple (a ++ b)) := by rw [← List.map_append]; exact mkTup_map
  simp [oAddG, oCatT, s, m]
theorem cut_to {α : Type} (xs : List α) (k : Nat) (h : k ≤ xs.length) : cutG xs none (some (k : Int)) = xs.take k := by
  unfold cutG
  rw [HT.sIx_nat, HT.sIx_none, Nat.min_eq_left h]
  simp
theorem cut_from {α : Type} (xs : List α) (k : Nat) (h : k ≤ xs.length) : cutG xs (some (k : Int)) none = xs.drop k := by
  unfold cutG
  rw [HT.sIx_nat, HT.sIx_none, Nat.min_eq_left h]
  exact List.take_of_length_le (by simp)
theorem near_x {S : Simple} (g : GoodS S kk) (hk : 0 < kk) : DrawsX F__law_near (fun h => [.obj h, .d (sD S)]) 2 (fun w => ∃ S', w = .d (sD S') ∧ GoodS S' kk) := by
  intro M h n Q hd nb q
  have k6 := g.few
  have wl := g.many
  -- another worth
  have chg : ∀ (ws : List Int) (j : Nat), ws.length = kk → (∀ w ∈ ws, -9 ≤ w ∧ w ≤ 9) → (hj : j < ws.length) → ∃ x : Int, (∀ M, atI [W.d (.int (ws[j] + 1)), .d (.int (ws[j] - 1))] (if 0 < ws[j] then 1 else 0) = some (.d (.int x))) ∧ (ws.take j ++ [x] ++ ws.drop (j + 1)).length = kk ∧ ∀ w ∈ ws.take j ++ [x] ++ ws.drop (j + 1), -9 ≤ w ∧ w ≤ 9 := by
    intro ws j wl wg hj
    obtain ⟨w0, w1⟩ := wg _ (List.getElem_mem hj)
    obtain ⟨x, hx, x0, x1⟩ : ∃ x : Int, atI [W.d (.int (ws[j] + 1)), .d (.int (ws[j] - 1))] (if 0 < ws[j] then 1 else 0) = some (.d (.int x)) ∧ -9 ≤ x ∧ x ≤ 9 := by
      by_cases c : 0 < ws[j]
      · rw [if_pos c]; exact ⟨_, atI1, by omega, by omega⟩
      · rw [if_neg c]; exact ⟨_, atI0, by omega, by omega⟩
    refine ⟨x, fun _ => hx, by simp; omega, fun w hw => ?_⟩
    rcases List.mem_append.mp hw with hw | hw
    · rcases List.mem_append.mp hw with hw | hw
      · exact wg w (List.mem_of_mem_take hw)
      · rw [List.mem_singleton.mp hw]; exact ⟨x0, x1⟩
    · exact wg w (List.mem_of_mem_drop hw)
  have slen : ((kk : Nat) : Int) < 2 ^ 128 := by omega
  cases S with
  | sum ws c =>
    have wl : ws.length = kk := wl
    obtain ⟨c0, c1⟩ := g.sum ws c rfl
    simp [F__law_near, nf, fnV, g__law_near, sD, wl]
    refine take_x hd (by omega) (by omega) slen fun v M1 v0 v1 hd1 up1 => ?_
    obtain ⟨j, rfl⟩ : ∃ j : Nat, v = j := ⟨v.toNat, by omega⟩
    have hj : j < ws.length := by omega
    obtain ⟨x, hx, xl, xg⟩ := chg ws j wl g.worth hj
    have aj : atI (ws.map fun i => W.d (.int i)) (j : Int) = some (.d (.int ws[j])) := atI_nat' (by simp [hj])
    have jn : ((j : Int) + 1) = ((j + 1 : Nat) : Int) := by omega
    have c1' := cut_to (ws.map fun i => W.d (.int i)) j (by simp; omega)
    have c2' := cut_from (ws.map fun i => W.d (.int i)) (j + 1) (by simp; omega)
    rw [← jn] at c2'
    have m1 : mkTup ((ws.map fun i => W.d (.int i)).take j) = .d (.tuple ((ws.take j).map .int)) := by rw [← List.map_take]; exact mkTup_of' .int _
    have m2 : mkTup ((ws.map fun i => W.d (.int i)).drop (j + 1)) = .d (.tuple ((ws.drop (j + 1)).map .int)) := by rw [← List.map_drop]; exact mkTup_of' .int _
    have a1 : ∀ M, oAddG (.d (.tuple ((ws.take j).map .int))) (.d (.tuple [.int x])) M = some (.d (.tuple ((ws.take j).map .int ++ [.int x])), M) := fun M => addG_tup (by simp; omega)
    have a2 : ∀ M, oAddG (.d (.tuple ((ws.take j).map .int ++ [.int x]))) (.d (.tuple ((ws.drop (j + 1)).map .int))) M = some (.d (wsD (ws.take j ++ [x] ++ ws.drop (j + 1))), M) := fun M => by
      rw [addG_tup (by simp; omega)]
      simp [wsD]
    generalize hA : PyData.tuple ((ws.take j).map .int) = A at m1 a1
    generalize hB : PyData.tuple ((ws.take j).map .int ++ [.int x]) = B at a1 a2
    generalize hD : PyData.tuple ((ws.drop (j + 1)).map .int) = D at m2 a2
    generalize hws' : ws.take j ++ [x] ++ ws.drop (j + 1) = ws' at xl xg a2
    simp only [Function.comp_def]
    simp [aj, hx, small_size, eSlTv, pE, pN, c1', m1, a1, c2', m2, a2, Function.comp_def]
    refine (x_take (by decide) (by decide)).app hd1 (by omega) fun w M2 ⟨f, ef, f0, f1⟩ hd2 up2 => ?_
    subst ef
    have up := up1.trans up2
    have hd3 : HandX M2 h (n + 2) := hd2.mono (by omega)
    have b1 : ∀ M, oAddG (.d (.tuple [.str (Str.ofString "sum")])) (.d (.tuple [wsD ws'])) M = some (.d (.tuple [.str (Str.ofString "sum"), wsD ws']), M) := fun M => addG_tup (by simp)
    have b2 : ∀ M, oAddG (.d (.tuple [.str (Str.ofString "sum"), wsD ws'])) (.d (.tuple [.int c])) M = some (.d (.tuple [.str (Str.ofString "sum"), wsD ws', .int c]), M) := fun M => addG_tup (by simp)
    have un : ¬ (Str.ofString "sum" = Str.ofString "rest") := by decide +kernel
    by_cases z : f = 0
    · simp [z, cutG, HT.sIx, small_size, b1, b2]
      rw [hd3.norm up rfl]
      exact q _ M2 ⟨.sum ws' c, rfl, xl, xg, (fun _ _ e => by cases e; exact ⟨c0, c1⟩), (fun _ _ _ e => by cases e), k6⟩ hd3 up
    · have c2 : CMul 2 (if 0 < c then 1 else 0) := cm_left (by decide)
      simp [z, un, x_mul, c2, small_size]
      rw [hd3.norm up rfl]
      exact q _ M2 ⟨.sum ws (c + 1 - 2 * (if 0 < c then 1 else 0)), rfl, wl, g.worth, (fun _ _ e => by cases e; split <;> omega), (fun _ _ _ e => by cases e), k6⟩ hd3 up
  | rest ws r m =>
    have wl : ws.length = kk := wl
    have gr := g.rest ws r m rfl
    simp [F__law_near, nf, fnV, g__law_near, sD, wl]
    refine take_x hd (by omega) (by omega) slen fun v M1 v0 v1 hd1 up1 => ?_
    obtain ⟨j, rfl⟩ : ∃ j : Nat, v = j := ⟨v.toNat, by omega⟩
    have hj : j < ws.length := by omega
    obtain ⟨x, hx, xl, xg⟩ := chg ws j wl g.worth hj
    have aj : atI (ws.map fun i => W.d (.int i)) (j : Int) = some (.d (.int ws[j])) := atI_nat' (by simp [hj])
    have jn : ((j : Int) + 1) = ((j + 1 : Nat) : Int) := by omega
    have c1' := cut_to (ws.map fun i => W.d (.int i)) j (by simp; omega)
    have c2' := cut_from (ws.map fun i => W.d (.int i)) (j + 1) (by simp; omega)
    rw [← jn] at c2'
    have m1 : mkTup ((ws.map fun i => W.d (.int i)).take j) = .d (.tuple ((ws.take j).map .int)) := by rw [← List.map_take]; exact mkTup_of' .int _
    have m2 : mkTup ((ws.map fun i => W.d (.int i)).drop (j + 1)) = .d (.tuple ((ws.drop (j + 1)).map .int)) := by rw [← List.map_drop]; exact mkTup_of' .int _
    have a1 : ∀ M, oAddG (.d (.tuple ((ws.take j).map .int))) (.d (.tuple [.int x])) M = some (.d (.tuple ((ws.take j).map .int ++ [.int x])), M) := fun M => addG_tup (by simp; omega)
    have a2 : ∀ M, oAddG (.d (.tuple ((ws.take j).map .int ++ [.int x]))) (.d (.tuple ((ws.drop (j + 1)).map .int))) M = some (.d (wsD (ws.take j ++ [x] ++ ws.drop (j + 1))), M) := fun M => by
      rw [addG_tup (by simp; omega)]
      simp [wsD]
    generalize hA : PyData.tuple ((ws.take j).map .int) = A at m1 a1
    generalize hB : PyData.tuple ((ws.take j).map .int ++ [.int x]) = B at a1 a2
    generalize hD : PyData.tuple ((ws.drop (j + 1)).map .int) = D at m2 a2
    generalize hws' : ws.take j ++ [x] ++ ws.drop (j + 1) = ws' at xl xg a2
    simp only [Function.comp_def]
    simp [aj, hx, small_size, eSlTv, pE, pN, c1', m1, a1, c2', m2, a2, Function.comp_def]
    refine (x_take (by decide) (by decide)).app hd1 (by omega) fun w M2 ⟨f, ef, f0, f1⟩ hd2 up2 => ?_
    subst ef
    have up := up1.trans up2
    have hd3 : HandX M2 h (n + 2) := hd2.mono (by omega)
    have b1 : ∀ M, oAddG (.d (.tuple [.str (Str.ofString "rest")])) (.d (.tuple [wsD ws'])) M = some (.d (.tuple [.str (Str.ofString "rest"), wsD ws']), M) := fun M => addG_tup (by simp)
    have b2 : ∀ M, oAddG (.d (.tuple [.str (Str.ofString "rest"), wsD ws'])) (.d (.tuple [.int r, .int m])) M = some (.d (.tuple [.str (Str.ofString "rest"), wsD ws', .int r, .int m]), M) := fun M => addG_tup (by simp)
    have fin : Q (.d (sD (.rest ws' r m)), M2) := q _ M2 ⟨.rest ws' r m, rfl, xl, xg, (fun _ _ e => by cases e), (fun _ _ _ e => by cases e; exact gr), k6⟩ hd3 up
    by_cases z : f = 0
    · simp [z, cutG, HT.sIx, small_size, b1, b2]
      rw [hd3.norm up rfl]
      exact fin
    · simp [z, cutG, HT.sIx, small_size, b1, b2]
      rw [hd3.norm up rfl]
      exact fin
end
end K02

set_option Elab.async false
set_option linter.all false
set_option maxRecDepth 100000
set_option maxHeartbeats 1000000
/-! K02u: what is shown; the pool drawn -/
namespace K02
open PySem PySem.Spec PyProof.Rows L2 Sa Va Pg Lx
open Lw (Upd GoodS cm_left cm_right nodup_le Upd.refl Upd.trans Upd.split for_range)
noncomputable def B4 : EvS := (sIf (tOrE (tVal (eOp oNe (eCall fRep (aCons (eLst (aCons (eDef 1 (Pg.F_simples) (aCons (eVar 10) aNil)) (aCons (eDef 1 (Pg.F_simples) (aCons (eTup (aCons (eC (.str "not")) (aCons (eVar 10) aNil))) aNil)) aNil))) aNil)) (eCall fRep (aCons (eLst (aCons (eTup (aCons (eVar 10) aNil)) (aCons (eTup (aCons (eVar 10) aNil)) aNil))) aNil)))) (tVal (eOp oNe (eDef 1 (F_sorts_of) (aCons (eVar 10) aNil)) (eVar 3)))) (sRet (eC (.bool false))) sNil)
noncomputable def B3 : EvS := (sIf (tOrE (tVal (eOp oNe (eCall fRep (aCons (eDef 1 (Pg.F_simples) (aCons (eVar 10) aNil)) aNil)) (eVar 9))) (tVal (eOp oNe (eDef 1 (F_sorts_of) (aCons (eVar 10) aNil)) (eVar 3)))) (sRet (eC (.bool false))) sNil)
noncomputable def B2 : EvS := (sSeq (sSet 6 (eAnd (eOp oEq (eDef 2 (Lx.F__law_take) (aCons (eVar 2) (aCons (eC (.int 2)) aNil))) (eC (.int 0))) (eOp oNeL (eVar 4) (eLst aNil))))
    (sExpr (sApp (eVar 4) (eIf (tVal (eVar 6)) (eDef 2 (F__law_near) (aCons (eVar 2) (aCons (eDef 2 (Lx.F__law_of) (aCons (eVar 2) (aCons (eVar 4) aNil))) aNil))) (eDef 2 (Lx.F__law_simple) (aCons (eVar 2) (aCons (eVar 3) aNil)))))))
noncomputable def B1 (ns : List Int) : EvS := (sSeq (sSet 2 (eDef 2 (Lx.F__law_hand ns) (aCons (eVar 0) (aCons (eVar 1) aNil))))
    (sSeq (sPar 3 4 (aCons (eOp oAddG (eC (.int 1)) (eDef 2 (Lx.F__law_take) (aCons (eVar 2) (aCons (eC (.int 6)) aNil)))) (aCons (eLst aNil) aNil)))
    (sSeq (sFor (iRange1 (aCons (eOp oAddG (eC (.int 1)) (eDef 2 (Lx.F__law_take) (aCons (eVar 2) (aCons (eC (.int 6)) aNil)))) aNil)) (gN 5) B2)
    (sSeq (sSet 7 (eDef 4 (Lx.F__law_saying 8) (aCons (eVar 2) (aCons (eVar 4) (aCons (eC (.int 8)) (aCons (ePot [((eC (.str "forms")), (eC (.int 24)))]) aNil))))))
    (sSeq (sSet 8 (eCall fRep (aCons (eDef 1 (F__law_in_order) (aCons (eDef 1 (F__law_simple_ones 9) (aCons (eVar 7) aNil)) aNil)) aNil)))
    (sSeq (sIf (tOrE (tVal (eOp oNe (eCall fRep (aCons (eDef 1 (Pg.F_simples) (aCons (eVar 7) aNil)) aNil)) (eVar 8))) (tVal (eOp oNe (eCall fRep (aCons (eDef 1 (Pg.F_simples) (aCons (eDef 1 (F__law_exchanged 9) (aCons (eVar 7) aNil)) aNil)) aNil)) (eVar 8)))) (sRet (eC (.bool false))) sNil)
    (sSeq (sSet 9 (eCall fRep (aCons (eDef 1 (F__law_in_order) (aCons (eVar 4) aNil)) aNil)))
    (sSeq (sFor (iSeq (eTup (aCons (eDef 1 (F__law_in_a_row) (aCons (eVar 4) aNil)) (aCons (eDef 1 (F__law_in_a_row) (aCons (eRevL (eVar 4)) aNil)) (aCons (eTup (aCons (eC (.str "not")) (aCons (eDef 1 (F__law_in_a_row) (aCons (eOp oAddG (eVar 4) (eVar 4)) aNil)) aNil))) aNil))))) (gN 10) B3)
    (sSeq (sFor (iSeq (eVar 4)) (gN 10) B4)
    (sIf (tVal (eOp oNe (eCall fRep (aCons (eDef 1 (F_sorts_of) (aCons (eVar 7) aNil)) aNil)) (eCall fRep (aCons (eVar 3) aNil)))) (sRet (eC (.bool false))) sNil))))))))))
theorem g_law_eq (ns : List Int) : g_law ns = (sSeq (sFor (iRange1 (aCons (eOp oAddG (eC (.int 1)) (eCall fMin2 (aCons (eC (.int 3)) (aCons (eCall (fLenS ns) (aCons (eVar 0) aNil)) aNil)))) aNil)) (gN 1) (B1 ns))
    (sRet (eC (.bool true)))) := rfl

section
variable {M : Mem} {kk : Nat} {Ss : List Simple}
theorem joined_one (S : Simple) : (Say.one S).joined = false := rfl
theorem sorts_loop : ∀ (y : Say) (k : Nat), y.deep ≤ k → (∀ S ∈ y.leaves, GoodS S kk) → ∃ S, GoodS S kk ∧ whN (tVal (eDef 1 (Pg.F_is_joined) (aCons (eVar 0) aNil))) (sSet 0 (eOp oIx (eVar 0) (eC (.int 1)))) k [some (.d (yD y))] M = some (.nx [some (.d (sD S))] M)
  | .one S, 0, h, _ => by simp [Say.deep] at h
  | .one S, k + 1, h, g => ⟨S, g S (by simp [Say.leaves]), by
      have e := fun M => F_is_joined_eq (M := M) (.one S)
      simp only [yD, joined_one] at e
      simp [whN, yD, e]⟩
  | .no a, 0, h, _ => by simp [Say.deep] at h
  | .no a, k + 1, h, g => by
    obtain ⟨S, gS, e⟩ := sorts_loop a k (by simp [Say.deep] at h; omega) g
    have j := fun M => F_is_joined_eq (M := M) (.no a)
    simp only [yD] at j
    exact ⟨S, gS, by simp [whN, yD, j, Say.joined]; exact e⟩
  | .an a b, 0, h, _ => by simp [Say.deep] at h
  | .an a b, k + 1, h, g => by
    obtain ⟨S, gS, e⟩ := sorts_loop a k (by simp [Say.deep] at h; omega) fun S hS => g S (by simp [Say.leaves, hS])
    have j := fun M => F_is_joined_eq (M := M) (.an a b)
    simp only [yD] at j
    exact ⟨S, gS, by simp [whN, yD, j, Say.joined]; exact e⟩
  | .or a b, 0, h, _ => by simp [Say.deep] at h
  | .or a b, k + 1, h, g => by
    obtain ⟨S, gS, e⟩ := sorts_loop a k (by simp [Say.deep] at h; omega) fun S hS => g S (by simp [Say.leaves, hS])
    have j := fun M => F_is_joined_eq (M := M) (.or a b)
    simp only [yD] at j
    exact ⟨S, gS, by simp [whN, yD, j, Say.joined]; exact e⟩
theorem sorts_eq {y : Say} (d : y.deep ≤ 1000) (g : ∀ S ∈ y.leaves, GoodS S kk) : F_sorts_of [.d (yD y)] M = some (.d (.int (kk : Int)), M) := by
  obtain ⟨S, gS, e⟩ := sorts_loop (M := M) y 1000000 (by omega) g
  have ln := gS.many
  cases S with
  | sum ws c =>
    have ln : ws.length = kk := ln
    simp only [sD] at e
    simp [F_sorts_of, nf, fnV, g_sorts_of, e, ln]
  | rest ws r m =>
    have ln : ws.length = kk := ln
    simp only [sD] at e
    simp [F_sorts_of, nf, fnV, g_sorts_of, e, ln]
theorem shw_sum : Shw (.str "sum") 0 6 := ⟨rfl, by decide +kernel, Nat.le_refl _, by decide +kernel⟩
theorem shw_rest : Shw (.str "rest") 0 7 := ⟨rfl, by decide +kernel, Nat.le_refl _, by decide +kernel⟩
theorem shw_sD {S : Simple} (g : GoodS S kk) : Shw (sD S) 2 100 := by
  have k6 := g.few
  have wl := g.many
  have a : ∀ ws : List Int, ws.length = kk → (∀ w ∈ ws, -9 ≤ w ∧ w ≤ 9) → Shw (wsD ws) 1 40 := fun ws wl wg => (Shw.tup (ShwA.all (D := 0) (L := 4) fun d hd => by
    obtain ⟨w, hw, rfl⟩ := List.mem_map.mp hd
    have := wg w hw
    exact shw_small (by omega) (by omega))).mono (by decide) (by simp; omega)
  cases S with
  | sum ws c =>
    have := g.sum ws c rfl
    exact (Shw.tup (((ShwA.nil.cons (shw_small (i := c) (by omega) (by omega))).cons (a ws wl g.worth)).cons shw_sum)).mono (by decide) (by decide)
  | rest ws r m =>
    have := g.rest ws r m rfl
    exact (Shw.tup ((((ShwA.nil.cons (shw_small (i := m) (by omega) (by omega))).cons (shw_small (i := r) (by omega) (by omega))).cons (a ws wl g.worth)).cons shw_rest)).mono (by decide) (by decide)
theorem shw_row (g : ∀ S ∈ Ss, GoodS S kk) (l : Ss.length ≤ 20) : Shw (.tuple (Ss.map sD)) 3 3000 := (Shw.tup (ShwA.all (D := 2) (L := 100) fun d hd => by
    obtain ⟨S, hS, rfl⟩ := List.mem_map.mp hd
    exact shw_sD (g S hS))).mono (by decide) (by simp; omega)
theorem rep_row (g : ∀ S ∈ Ss, GoodS S kk) (l : Ss.length ≤ 20) : fRep [.d (.tuple (Ss.map sD))] M = some (.d (.str (PyData.tuple (Ss.map sD)).shown), M) := (shw_row g l).rep (by decide) (by decide) fun x z => by cases z
/-- a pool -/
structure Pool (M : Mem) (h l : Nat) (n : Int) (Ss : List Simple) (kk : Nat) : Prop where
  hd : HandX M h n
  at' : M[l]? = some (.lst (sW Ss))
  good : ∀ S ∈ Ss, GoodS S kk
  ne : l ≠ h
theorem Pool.app {J : Mem} {h l : Nat} {n : Int} (p : Pool M h l n Ss kk) : Pool (M ++ J) h l n Ss kk := ⟨p.hd.app, get_old p.at', p.good, p.ne⟩
theorem Pool.mono {h l : Nat} {n m : Int} (p : Pool M h l n Ss kk) (le : n ≤ m) : Pool M h l m Ss kk := ⟨p.hd.mono le, p.at', p.good, p.ne⟩
theorem Pool.upd {M1 : Mem} {h l : Nat} {n m : Int} (p : Pool M h l n Ss kk) (hd : HandX M1 h m) (up : Upd h M M1) : Pool M1 h l m Ss kk := ⟨hd, (up.2 l p.ne).trans p.at', p.good, p.ne⟩
theorem set_pool {h l : Nat} {n : Int} {S : Simple} (p : Pool M h l n Ss kk) (g : GoodS S kk) : Pool (M.set l (.lst (sW (Ss ++ [S])))) h l n (Ss ++ [S]) kk := by
  refine ⟨?_, ?_, fun T hT => ?_, p.ne⟩
  · obtain ⟨a, b, c, e, r⟩ := p.hd
    exact ⟨a, b, c, by rw [List.getElem?_set_ne p.ne]; exact e, r⟩
  · rw [List.getElem?_set_self (List.getElem?_eq_some_iff.mp p.at').1]
  · rcases List.mem_append.mp hT with h | h
    · exact p.good T h
    · rw [List.mem_singleton.mp h]; exact g
theorem b2_ok {h l : Nat} {n : Int} {v1 v5 v6 v7 v8 v9 v10 : Option W} {Q : Out → Prop} (hk : 0 < kk) (k6 : kk ≤ 6) (p : Pool M h l n Ss kk) (sm : Ss.length ≤ 100) (nb : n + 30 < 2 ^ 40)
    (q : ∀ w6 M' S, Pool M' h l (n + 30) (Ss ++ [S]) kk → Q (.nx [some .scr, v1, some (.obj h), some (.d (.int (kk : Int))), some (.obj l), v5, w6, v7, v8, v9, v10] M')) :
    Ok (B2 [some .scr, v1, some (.obj h), some (.d (.int (kk : Int))), some (.obj l), v5, v6, v7, v8, v9, v10] M) Q := by
  unfold B2
  rw [ok_seq]
  simp
  refine take_x p.hd (by omega) (by decide) (by decide) fun a M1 a0 a1 hd1 up1 => ?_
  have p1 := p.upd hd1 up1
  have ne : oNeL (.obj l) (.obj M1.length) (M1 ++ [.lst []]) = some (.d (.bool (!decide (Ss = []))), M1 ++ [.lst []]) := neL_sD (kk := kk) (As := Ss) (Bs := []) p.good (fun _ h => by simp at h) k6 (get_old p1.at') (by simp)
  have la : ∀ (M : Mem) {m : Int}, Pool M h l m Ss kk → lstAt M (.obj l) = some (l, sW Ss) := fun M m p => x_lstAt p.at'
  have fits : (sW Ss).length < sizeLine := Nat.lt_of_le_of_lt (by simpa using sm) (by decide)
  have put : ∀ (M : Mem) (S : Simple) {m : Int}, Pool M h l m Ss kk → m ≤ n + 30 → GoodS S kk → ∀ w6, Q (.nx [some .scr, v1, some (.obj h), some (.d (.int (kk : Int))), some (.obj l), v5, w6, v7, v8, v9, v10] (M.set l (.lst (sW Ss ++ [.d (sD S)])))) := fun M S m p le g w6 => by
    have e : sW Ss ++ [.d (sD S)] = sW (Ss ++ [S]) := by simp [sW]
    rw [e]
    exact q w6 _ S ((set_pool p g).mono le)
  have tail : ∀ (b : Bool) (M2 : Mem) (m : Int), Pool M2 h l m Ss kk → m + 28 ≤ n + 30 → (b = true → Ss ≠ []) → Ok (sExpr (sApp (eVar 4) (eIf (tVal (eVar 6)) (eDef 2 (F__law_near) (aCons (eVar 2) (aCons (eDef 2 (Lx.F__law_of) (aCons (eVar 2) (aCons (eVar 4) aNil))) aNil))) (eDef 2 (Lx.F__law_simple) (aCons (eVar 2) (aCons (eVar 3) aNil))))) [some .scr, v1, some (.obj h), some (.d (.int (kk : Int))), some (.obj l), v5, some (.d (.bool b)), v7, v8, v9, v10] M2) Q := by
    intro b M2 m p2 le nb2
    cases b with
    | true =>
      have pos : 0 < Ss.length := List.length_pos_iff.mpr (nb2 rfl)
      simp [la M2 p2]
      refine of_x p2.hd (by omega) p2.at' p2.ne (by simpa using pos) (by simp; omega) (all_isD sD _) fun w M3 hw hd3 up3 => ?_
      obtain ⟨S, hS, rfl⟩ := List.mem_map.mp hw
      have p3 := p2.upd hd3 up3
      simp
      refine near_x (p.good S hS) hk M3 h _ _ hd3 (by omega) fun w M4 ⟨S', e, g'⟩ hd4 up4 => ?_
      subst e
      have p4 := p3.upd hd4 up4
      simp [la M4 p4, fits]
      have f2 : Ss.length < sizeLine := by simpa using fits
      refine ⟨f2, ?_⟩
      exact put M4 S' p4 (by omega) g' _
    | false =>
      simp [la M2 p2]
      refine x_simple hk k6 M2 h _ _ p2.hd (by omega) fun w M4 ⟨S', e, g'⟩ hd4 up4 => ?_
      subst e
      have p4 := p2.upd hd4 up4
      simp [la M4 p4]
      have f2 : Ss.length < sizeLine := by simpa using fits
      refine ⟨f2, ?_⟩
      exact put M4 S' p4 (by omega) g' _
  generalize sExpr _ = st at tail ⊢
  by_cases z : a = 0
  · simp [z, small_size, ne]
    rw [thenQ_nx]
    by_cases e0 : Ss = []
    · simp [e0]
      subst e0
      exact tail false _ (n + 1) p1.app (by omega) fun z => by cases z
    · simp [e0]
      exact tail true _ (n + 1) p1.app (by omega) fun _ => e0
  · simp [z]
    rw [thenQ_nx]
    exact tail false _ (n + 1) p1 (by omega) fun z => by cases z
end
end K02

set_option Elab.async false
set_option linter.all false
set_option maxRecDepth 100000
set_option maxHeartbeats 1000000
/-! K02v: the law is true -/
namespace K02
open PySem PySem.Spec PyProof.Rows L2 Sa Va Pg Lx
open Lw (Upd GoodS cm_left cm_right nodup_le Upd.refl Upd.trans Upd.split for_range)
section
variable {M : Mem} {kk : Nat} {Ss : List Simple}
/-- a saying of the pool's, what of it is known -/
structure Of (y : Say) (Ss : List Simple) (kk : Nat) : Prop where
  deep : y.deep ≤ 9
  many : y.leaves.length ≤ 200
  sub : ∀ S ∈ y.leaves, S ∈ Ss
  good : ∀ S ∈ Ss, GoodS S kk
  few : Ss.length ≤ 6
theorem Of.good' {y : Say} (o : Of y Ss kk) : ∀ S ∈ y.leaves, GoodS S kk := fun S hS => o.good S (o.sub S hS)
theorem Of.simples {y : Say} (o : Of y Ss kk) : F_simples [.d (yD y)] M = some (.d (.tuple ((rowOf y.leaves).map sD)), M) := F_simples_eq y o.deep (Nat.le_trans o.many (by decide)) fun N nd sub => by
  have := nodup_le nd fun S hS => o.sub S (sub S hS)
  have := o.few
  omega
theorem row_few {ls : List Simple} (few : Ss.length ≤ 6) (sub : ∀ S ∈ ls, S ∈ Ss) : (rowOf ls).length ≤ 20 := by
  have := nodup_le (rowOf_nodup ls) fun S hS => sub S ((rowOf_mem _ S).mp hS)
  omega
theorem b3_loop {v0 v1 v2 v4 v5 v6 v7 v8 v10 : Option W} {X : Str} (hX : X = (PyData.tuple ((rowOf Ss).map sD)).shown) (few : Ss.length ≤ 6) (gd : ∀ S ∈ Ss, GoodS S kk) (ys : List Say) (h : ∀ y ∈ ys, Of y Ss kk ∧ ∀ S, S ∈ y.leaves ↔ S ∈ Ss) :
    ∃ w, forL [] (gN 10) B3 (ys.map fun y => .d (yD y)) [v0, v1, v2, some (.d (.int (kk : Int))), v4, v5, v6, v7, v8, some (.d (.str X)), v10] M = some (.nx [v0, v1, v2, some (.d (.int (kk : Int))), v4, v5, v6, v7, v8, some (.d (.str X)), w] M) := by
  obtain ⟨ρ', ⟨w, rfl⟩, e⟩ := for_pure (deps := []) (g := gN 10) (B := B3) (M := M) (fun y : Say => .d (yD y)) (fun ρ => ∃ w, ρ = [v0, v1, v2, some (.d (.int (kk : Int))), v4, v5, v6, v7, v8, some (.d (.str X)), w]) (by simp) ys _ ⟨v10, rfl⟩ fun y hy ρ ⟨w, er⟩ => by
    subst er
    obtain ⟨o, mem⟩ := h y hy
    have s := fun M => o.simples (M := M)
    rw [rowOf_congr mem] at s
    have rp := fun M => rep_row (M := M) (Ss := rowOf Ss) (fun S hS => gd S ((rowOf_mem _ S).mp hS)) (row_few few fun _ h => h)
    rw [← hX] at rp
    have so := fun M => sorts_eq (M := M) (Nat.le_trans o.deep (by decide)) o.good'
    have ne := fun M => ne_same (M := M) X
    exact ⟨[v0, v1, v2, some (.d (.int (kk : Int))), v4, v5, v6, v7, v8, some (.d (.str X)), some (.d (yD y))], [v0, v1, v2, some (.d (.int (kk : Int))), v4, v5, v6, v7, v8, some (.d (.str X)), some (.d (yD y))], rfl, by simp [B3, s, rp, so, ne], _, rfl⟩
  exact ⟨w, e⟩
theorem b4_loop {v0 v1 v2 v5 v6 v7 v8 v9 v10 : Option W} {l : Nat} (few : Ss.length ≤ 6) (gd : ∀ S ∈ Ss, GoodS S kk) (hl : M[l]? = some (.lst (sW Ss))) :
    ∃ w J, forL [(l, .lst (sW Ss))] (gN 10) B4 (sW Ss) [v0, v1, v2, some (.d (.int (kk : Int))), some (.obj l), v5, v6, v7, v8, v9, v10] M = some (.nx [v0, v1, v2, some (.d (.int (kk : Int))), some (.obj l), v5, v6, v7, v8, v9, w] (M ++ J)) := by
  obtain ⟨ρ', J, ⟨w, rfl⟩, e⟩ := for_grow (deps := [(l, .lst (sW Ss))]) (g := gN 10) (B := B4) (fun S : Simple => .d (sD S)) (fun (_ : Unit) ρ => ∃ w, ρ = [v0, v1, v2, some (.d (.int (kk : Int))), some (.obj l), v5, v6, v7, v8, v9, w]) (fun _ _ => ()) Ss () _ M (by simpa using hl) ⟨v10, rfl⟩ fun S hS _ ρ M hd ⟨w, er⟩ => by
    subst er
    have o1 : Of (.one S) [S] kk := ⟨by simp [Say.deep], by simp [Say.leaves], fun T hT => by simpa [Say.leaves] using hT, fun T hT => by rw [List.mem_singleton.mp hT]; exact gd S hS, by simp⟩
    have o2 : Of (.no (.one S)) [S] kk := ⟨by simp [Say.deep], by simp [Say.leaves], fun T hT => by simpa [Say.leaves] using hT, fun T hT => by rw [List.mem_singleton.mp hT]; exact gd S hS, by simp⟩
    have r1 : rowOf [S] = [S] := by
      refine rising_one (row_sorted _) (List.pairwise_singleton _ _) (rowOf_nodup _) (by simp) fun T => rowOf_mem _ T
    have s1 := fun M => o1.simples (M := M)
    have s2 := fun M => o2.simples (M := M)
    simp only [Say.leaves, r1, List.map_cons, List.map_nil, yD] at s1 s2
    have so := fun M => sorts_eq (M := M) (Nat.le_trans o1.deep (by decide)) o1.good'
    simp only [yD] at so
    have sh : Shw (.list [.tuple [sD S], .tuple [sD S]]) 4 1000 := (shwList ((ShwA.nil.cons (Shw.tup (ShwA.nil.cons (shw_sD (gd S hS))))).cons (Shw.tup (ShwA.nil.cons (shw_sD (gd S hS)))))).mono (by decide) (by decide)
    have rp := fun (M J : Mem) => rep_lst (M := M ++ .lst [W.d (.tuple [sD S]), .d (.tuple [sD S])] :: J) (i := M.length) (ds := [.tuple [sD S], .tuple [sD S]]) (by simp) sh (by decide) (by decide)
    have rp2 := fun (M : Mem) (x : MO) => rep_lst (M := M ++ [x, .lst [W.d (.tuple [sD S]), .d (.tuple [sD S])]]) (i := M.length + 1) (ds := [.tuple [sD S], .tuple [sD S]]) (by simp) sh (by decide) (by decide)
    generalize (PyData.list [.tuple [sD S], .tuple [sD S]]).shown = X at rp rp2
    have ne := fun M => ne_same (M := M) X
    exact ⟨[v0, v1, v2, some (.d (.int (kk : Int))), some (.obj l), v5, v6, v7, v8, v9, some (.d (sD S))], [v0, v1, v2, some (.d (.int (kk : Int))), some (.obj l), v5, v6, v7, v8, v9, some (.d (sD S))], [.lst [W.d (.tuple [sD S]), .d (.tuple [sD S])], .lst [W.d (.tuple [sD S]), .d (.tuple [sD S])]], rfl, by simp [B4, s1, s2, so, rp, rp2, ne, small_size], _, rfl⟩
  exact ⟨w, J, e⟩
noncomputable def E1 : EvE := (eCall fRep (aCons (eDef 1 (F__law_in_order) (aCons (eDef 1 (F__law_simple_ones 9) (aCons (eVar 7) aNil)) aNil)) aNil))
noncomputable def S2 : EvS := (sIf (tOrE (tVal (eOp oNe (eCall fRep (aCons (eDef 1 (Pg.F_simples) (aCons (eVar 7) aNil)) aNil)) (eVar 8))) (tVal (eOp oNe (eCall fRep (aCons (eDef 1 (Pg.F_simples) (aCons (eDef 1 (F__law_exchanged 9) (aCons (eVar 7) aNil)) aNil)) aNil)) (eVar 8)))) (sRet (eC (.bool false))) sNil)
noncomputable def E3 : EvE := (eCall fRep (aCons (eDef 1 (F__law_in_order) (aCons (eVar 4) aNil)) aNil))
noncomputable def E4 : EvE := (eTup (aCons (eDef 1 (F__law_in_a_row) (aCons (eVar 4) aNil)) (aCons (eDef 1 (F__law_in_a_row) (aCons (eRevL (eVar 4)) aNil)) (aCons (eTup (aCons (eC (.str "not")) (aCons (eDef 1 (F__law_in_a_row) (aCons (eOp oAddG (eVar 4) (eVar 4)) aNil)) aNil))) aNil))))
noncomputable def S6 : EvS := (sIf (tVal (eOp oNe (eCall fRep (aCons (eDef 1 (F_sorts_of) (aCons (eVar 7) aNil)) aNil)) (eCall fRep (aCons (eVar 3) aNil)))) (sRet (eC (.bool false))) sNil)
noncomputable def T1 : EvS := (sSeq (sSet 8 E1) (sSeq S2 (sSeq (sSet 9 E3) (sSeq (sFor (iSeq E4) (gN 10) B3) (sSeq (sFor (iSeq (eVar 4)) (gN 10) B4) S6)))))
noncomputable def B1' (ns : List Int) : EvS := (sSeq (sSet 2 (eDef 2 (Lx.F__law_hand ns) (aCons (eVar 0) (aCons (eVar 1) aNil))))
    (sSeq (sPar 3 4 (aCons (eOp oAddG (eC (.int 1)) (eDef 2 (Lx.F__law_take) (aCons (eVar 2) (aCons (eC (.int 6)) aNil)))) (aCons (eLst aNil) aNil)))
    (sSeq (sFor (iRange1 (aCons (eOp oAddG (eC (.int 1)) (eDef 2 (Lx.F__law_take) (aCons (eVar 2) (aCons (eC (.int 6)) aNil)))) aNil)) (gN 5) B2)
    (sSeq (sSet 7 (eDef 4 (Lx.F__law_saying 8) (aCons (eVar 2) (aCons (eVar 4) (aCons (eC (.int 8)) (aCons (ePot [((eC (.str "forms")), (eC (.int 24)))]) aNil))))))
    T1))))
theorem b1_same (ns : List Int) : B1 ns = B1' ns := rfl
theorem t1_ok {v1 v2 v5 v6 v8 v9 v10 : Option W} {l : Nat} {y : Say} {Q : Out → Prop} (o : Of y Ss kk) (pos : 0 < Ss.length) (hl : M[l]? = some (.lst (sW Ss)))
    (k : ∀ ρ' M', (∃ vs : List (Option W), vs.length = 10 ∧ ρ' = some .scr :: vs) → Q (.nx ρ' M')) :
    Ok (T1 [some .scr, v1, v2, some (.d (.int (kk : Int))), some (.obj l), v5, v6, some (.d (yD y)), v8, v9, v10] M) Q := by
  have few := o.few
  have gd := o.good
  -- the row of the saying's
  have so := simple_ones_eq 9 y M o.deep (Nat.le_trans o.many (by decide))
  have io := F__law_in_order_eq (M := M ++ [.lst (sW y.leaves)]) (l := M.length) (Ss := y.leaves) (by simp) o.good' (Nat.le_trans o.many (by decide))
  have rr := row_few few o.sub
  have rp := fun M => rep_row (M := M) (Ss := rowOf y.leaves) (fun S hS => o.good' S ((rowOf_mem _ S).mp hS)) rr
  have ox : Of (exch y) Ss kk := ⟨by rw [exch_deep]; exact o.deep, by rw [exch_len]; exact o.many, fun S hS => o.sub S ((exch_mem y S).mp hS), gd, few⟩
  have s1 := fun M => o.simples (M := M)
  have s2 := fun M => ox.simples (M := M)
  rw [rowOf_congr (exch_mem y)] at s2
  have ex := fun M => exchanged_eq 9 y M o.deep
  have sf := fun M => sorts_eq (M := M) (Nat.le_trans o.deep (by decide)) o.good'
  generalize hX : (PyData.tuple ((rowOf y.leaves).map sD)).shown = X at rp
  have ne := fun M => ne_same (M := M) X
  have e1 : E1 [some .scr, v1, v2, some (.d (.int (kk : Int))), some (.obj l), v5, v6, some (.d (yD y)), v8, v9, v10] M = some (.d (.str X), M ++ [.lst (sW y.leaves)]) := by
    simp [E1, so, io, rp]
  simp only [T1]
  rw [ok_seq]
  simp only [x_set, e1, Option.bind_some, ok_some]
  rw [thenQ_nx, ok_seq]
  have hl1 := get_old (J := [MO.lst (sW y.leaves)]) hl
  generalize M ++ [MO.lst (sW y.leaves)] = M1 at hl1 ⊢
  have e2 : ∀ ρ : Ev, ρ[7]? = some (some (.d (yD y))) → ρ[8]? = some (some (.d (.str X))) → S2 ρ M1 = some (.nx ρ M1) := fun ρ h7 h8 => by simp [S2, h7, h8, s1, s2, ex, rp, ne]
  rw [e2 _ rfl rfl, ok_some, thenQ_nx, ok_seq]
  -- the row of the pool
  have io2 := F__law_in_order_eq hl1 gd (by omega)
  have rp2 := fun M => rep_row (M := M) (Ss := rowOf Ss) (fun S hS => gd S ((rowOf_mem _ S).mp hS)) (row_few few fun _ h => h)
  generalize hX2 : (PyData.tuple ((rowOf Ss).map sD)).shown = X2 at rp2
  have e3 : ∀ ρ : Ev, ρ[4]? = some (some (.obj l)) → E3 ρ M1 = some (.d (.str X2), M1) := fun ρ h => by simp [E3, h, io2, rp2]
  simp only [x_set]
  rw [e3 _ rfl]
  simp only [Option.bind_some, ok_some]
  rw [thenQ_nx, ok_seq]
  -- three joined ones
  obtain ⟨y1, r1, d1, m1, n1⟩ := in_a_row_eq hl1 pos (by omega)
  have hrev : (M1 ++ [MO.lst (sW Ss).reverse])[M1.length]? = some (.lst (sW Ss.reverse)) := by simp [sW]
  obtain ⟨y2, r2, d2, m2, n2⟩ := in_a_row_eq hrev (by simpa using pos) (by simp; omega)
  have hcat : (M1 ++ [MO.lst (sW Ss).reverse, MO.lst (sW Ss ++ sW Ss)])[M1.length + 1]? = some (.lst (sW (Ss ++ Ss))) := by simp [sW]
  obtain ⟨y3, r3, d3, m3, n3⟩ := in_a_row_eq hcat (by simp; omega) (by simp; omega)
  have la1 := x_lstAt hl1
  have la2 := x_lstAt (get_old (J := [MO.lst (sW Ss).reverse]) hl1)
  have sz : (sW Ss).length + (sW Ss).length ≤ sizeLine := small_size (by simp; omega)
  have cat : oCat (.obj l) (.obj l) (M1 ++ [MO.lst (sW Ss).reverse]) = some (.obj (M1.length + 1), M1 ++ [MO.lst (sW Ss).reverse, .lst (sW Ss ++ sW Ss)]) := by
    simp only [oCat, la2, Option.bind_some]
    rw [if_pos sz]
    simp
  have e4 : ∀ ρ : Ev, ρ[4]? = some (some (.obj l)) → E4 ρ M1 = some (.d (.tuple ([y1, y2, .no y3].map yD)), M1 ++ [MO.lst (sW Ss).reverse, .lst (sW Ss ++ sW Ss)]) := fun ρ h => by
    simp only [E4]
    generalize sW Ss = a at *
    simp [h, r1, eRevL, la1, r2, cat, r3, small_size, mkTup, datas, yD]
  have ofs : ∀ y ∈ [y1, y2, Say.no y3], Of y Ss kk ∧ ∀ S, S ∈ y.leaves ↔ S ∈ Ss := by
    intro y hy
    simp only [List.mem_cons, List.not_mem_nil, or_false] at hy
    rcases hy with rfl | rfl | rfl
    · exact ⟨⟨by omega, by omega, fun S h => (m1 S).mp h, gd, few⟩, m1⟩
    · have m2' : ∀ S, S ∈ y.leaves ↔ S ∈ Ss := fun S => (m2 S).trans List.mem_reverse
      exact ⟨⟨by omega, by omega, fun S h => (m2' S).mp h, gd, few⟩, m2'⟩
    · have m3' : ∀ S, S ∈ (Say.no y3).leaves ↔ S ∈ Ss := fun S => (m3 S).trans (by simp)
      exact ⟨⟨by simp only [Say.deep]; omega, by simp only [Say.leaves]; omega, fun S h => (m3' S).mp h, gd, few⟩, m3'⟩
  obtain ⟨w10, l3⟩ := b3_loop (M := M1 ++ [MO.lst (sW Ss).reverse, .lst (sW Ss ++ sW Ss)]) (v0 := some .scr) (v1 := v1) (v2 := v2) (v4 := some (.obj l)) (v5 := v5) (v6 := v6) (v7 := some (.d (yD y))) (v8 := some (.d (.str X))) (v10 := v10) hX2.symm few gd [y1, y2, .no y3] ofs
  obtain ⟨u10, J, l4⟩ := b4_loop (M := M1 ++ [MO.lst (sW Ss).reverse, .lst (sW Ss ++ sW Ss)]) (v0 := some .scr) (v1 := v1) (v2 := v2) (v5 := v5) (v6 := v6) (v7 := some (.d (yD y))) (v8 := some (.d (.str X))) (v9 := some (.d (.str X2))) (v10 := w10) few gd (get_old hl1)
  have f3 : sFor (iSeq E4) (gN 10) B3 [some .scr, v1, v2, some (.d (.int (kk : Int))), some (.obj l), v5, v6, some (.d (yD y)), some (.d (.str X)), some (.d (.str X2)), v10] M1 = some (.nx [some .scr, v1, v2, some (.d (.int (kk : Int))), some (.obj l), v5, v6, some (.d (yD y)), some (.d (.str X)), some (.d (.str X2)), w10] (M1 ++ [MO.lst (sW Ss).reverse, .lst (sW Ss ++ sW Ss)])) := by
    have e4 := e4 [some .scr, v1, v2, some (.d (.int (kk : Int))), some (.obj l), v5, v6, some (.d (yD y)), some (.d (.str X)), some (.d (.str X2)), v10] rfl
    have mm : ([y1, y2, Say.no y3].map fun y => W.d (yD y)) = ([y1, y2, Say.no y3].map yD).map W.d := by simp
    rw [mm] at l3
    generalize [y1, y2, Say.no y3].map yD = ds at e4 l3
    simp only [x_for, x_iseqO, e4, Option.bind_some, tupOf]
    exact l3
  simp only [List.set_cons_succ, List.set_cons_zero]
  rw [f3, ok_some, thenQ_nx, ok_seq]
  have la3 := x_lstAt (get_old (J := [MO.lst (sW Ss).reverse, .lst (sW Ss ++ sW Ss)]) hl1)
  have f4 : sFor (iSeq (eVar 4)) (gN 10) B4 [some .scr, v1, v2, some (.d (.int (kk : Int))), some (.obj l), v5, v6, some (.d (yD y)), some (.d (.str X)), some (.d (.str X2)), w10] (M1 ++ [MO.lst (sW Ss).reverse, .lst (sW Ss ++ sW Ss)]) = some (.nx [some .scr, v1, v2, some (.d (.int (kk : Int))), some (.obj l), v5, v6, some (.d (yD y)), some (.d (.str X)), some (.d (.str X2)), u10] (M1 ++ [MO.lst (sW Ss).reverse, .lst (sW Ss ++ sW Ss)] ++ J)) := by
    simp only [x_for, x_iseqO, x_var (show ([some .scr, v1, v2, some (.d (.int (kk : Int))), some (.obj l), v5, v6, some (.d (yD y)), some (.d (.str X)), some (.d (.str X2)), w10] : Ev)[4]? = some (some (.obj l)) from rfl), Option.bind_some, la3]
    exact l4
  rw [f4, ok_some, thenQ_nx]
  have rk := fun M => rep_int (M := M) (i := (kk : Int)) (by have := (gd _ (List.getElem_mem pos)).few; omega)
  generalize (PyData.int (kk : Int)).shown = Z at rk
  have nz := fun M => ne_same (M := M) Z
  simp [S6, sf, rk, nz]
  exact k _ _ ⟨_, rfl, rfl⟩
theorem b1_ok {ns : List Int} {ρ : Ev} {M : Mem} {j : Nat} {Q : Out → Prop} (fr : ∃ vs : List (Option W), vs.length = 9 ∧ ρ = some .scr :: some (.d (.int (j : Int))) :: vs) (hj : j ≤ 4)
    (k : ∀ ρ' M', (∃ vs : List (Option W), vs.length = 10 ∧ ρ' = some .scr :: vs) → Q (.nx ρ' M')) : Ok (B1 ns ρ M) Q := by
  obtain ⟨vs, len, rfl⟩ := fr
  match vs, len with
  | [v2, v3, v4, v5, v6, v7, v8, v9, v10], _ =>
  rw [b1_same]
  unfold B1'
  rw [ok_seq]
  simp
  refine hand_x (by omega) (by omega) fun a b a0 b0 b1 => ?_
  have hd0 : HandX (M ++ [MO.lst [W.d (.int a), W.d (.int b), W.d (.int 0)]]) M.length 0 := ⟨a, b, 0, by simp, a0, b0, b1, by decide, by decide⟩
  simp
  rw [thenQ_nx, ok_seq]
  simp
  generalize M ++ [MO.lst [W.d (.int a), W.d (.int b), W.d (.int 0)]] = M0 at hd0
  generalize M.length = h at hd0 ⊢
  refine take_x hd0 (by decide) (by decide) (by decide) fun s M1 s0 s1 hd1 up1 => ?_
  obtain ⟨kk, hkk⟩ : ∃ kk : Nat, 1 + s = kk := ⟨(1 + s).toNat, by omega⟩
  have kp : 0 < kk := by omega
  have k6 : kk ≤ 6 := by omega
  simp [hkk, small_size]
  rw [thenQ_nx, ok_seq]
  simp
  refine (x_take (by decide) (by decide)).app hd1 (by decide) fun w M2 ⟨m, em, m0, m1⟩ hd2 up2 => ?_
  subst em
  have l2 : M1.length = M2.length := up2.1.symm
  obtain ⟨mm, hmm⟩ : ∃ mm : Nat, 1 + m = mm := ⟨(1 + m).toNat, by omega⟩
  simp [hmm, l2]
  refine ⟨.of (by omega) (by omega), ?_⟩
  have p2 : Pool (M2 ++ [MO.lst []]) h M2.length (0 + 1 + 1) [] kk := ⟨hd2.app, by simp, fun S hS => by simp at hS, by have := hd2.lt; omega⟩
  generalize M2 ++ [MO.lst []] = M3 at p2
  generalize M2.length = l at p2 ⊢
  generalize hB : B2 = B
  refine for_range (m := mm) (fun i ρ M' => ∃ (Ss : List Simple) (v5 v6 : Option W), ρ = [some .scr, some (.d (.int (j : Int))), some (.obj h), some (.d (.int (kk : Int))), some (.obj l), v5, v6, v7, v8, v9, v10] ∧ Ss.length = i ∧ Pool M' h l (10 + 100 * i) Ss kk)
    ⟨[], _, _, rfl, rfl, p2.mono (by omega)⟩ (fun i ρ M' hi ⟨Ss, v5, v6, er, sl, p⟩ => ?_) fun ρ M4 ⟨Ss, w5, w6, er, sl, p⟩ => ?_
  · subst er hB
    exact b2_ok kp k6 p (by omega) (by omega) fun w6 M5 S p5 => ⟨Ss ++ [S], _, w6, rfl, by simp [sl], p5.mono (by omega)⟩
  · subst er hB
    rw [thenQ_nx, ok_seq]
    have ep : ∀ ρ M, ePot [((eC (.str "forms")), (eC (.int 24)))] ρ M = some (.obj M.length, M ++ [.pot [(.inr "forms", .int 24)]]) := fun ρ M => by
      simp [ePot, aPairs, pairsW, keyW, potAt, potOf, potPut]
    simp [ep]
    have lt4 : l < M4.length := (List.getElem?_eq_some_iff.mp p.at').1
    have ht4 := p.hd.lt
    refine saying_x (Ss := Ss) (by omega) (by omega) 8 8 _ h l M4.length _ _ (by decide) (by decide) (by decide) (get_old p.at') ⟨24, by simp⟩ p.hd.app p.ne (by omega) (by omega) (by omega) fun y M5 fy hd5 pt5 up5 => ?_
    have hl5 : M5[l]? = some (.lst (sW Ss)) := (up5.2 l p.ne (by omega)).trans (get_old p.at')
    simp
    rw [thenQ_nx]
    exact t1_ok ⟨Nat.le_trans fy.deep (by decide), Nat.le_trans fy.many (by decide), fy.sub, p.good, by omega⟩ (by omega) hl5 k
theorem law_true (ns : List Int) : ∃ M', F_law ns [.scr] [] = some (.d (.bool true), M') := by
  suffices h : Ok (F_law ns [.scr] []) fun p => p.1 = .d (.bool true) by
    obtain ⟨⟨w, M'⟩, e, rfl⟩ := h
    exact ⟨M', e⟩
  have cnt : ∃ m : Nat, 1 + (if (ns.length : Int) < 3 then (ns.length : Int) else 3) = (m : Int) ∧ m ≤ 4 := by
    refine ⟨(1 + (if (ns.length : Int) < 3 then (ns.length : Int) else 3)).toNat, ?_, ?_⟩ <;> (split <;> omega)
  obtain ⟨m, hm, m3⟩ := cnt
  simp only [F_law, nf, fnV, g_law_eq, ok_map, ok_bind]
  simp [hm]
  refine ⟨InR.of (by omega) (by omega), ?_⟩
  generalize hB : B1 ns = B at *
  refine for_range (fun i ρ M' => ∃ vs : List (Option W), vs.length = 10 ∧ ρ = some .scr :: vs) ⟨[none, none, none, none, none, none, none, none, none, none], rfl, rfl⟩ (fun i ρ M' hi ⟨vs, len, er⟩ => ?_) fun ρ M' ⟨vs, len, er⟩ => ?_
  · subst er hB
    match vs, len with
    | v1 :: vs, len => exact b1_ok ⟨vs, by simpa using len, rfl⟩ (by omega) fun ρ2 M2 h => h
  · subst er
    have nm := norm_d (M := []) (M1 := []) (J := M') (w := .d (.bool true)) rfl .refl
    simp only [List.nil_append] at nm
    simp [nm]
end
end K02

set_option Elab.async false
set_option linter.all false
set_option maxRecDepth 100000
set_option maxHeartbeats 1000000
namespace K02
open PySem PySem.Spec PyProof.Rows L2 Sa Va
def topS (i : Nat) : Stmt := PySem.Challenge.pw_strangersay_k02_simples_in_order.main.body.getD i (.Pass ⟨0, 0, 0, 0⟩)
structure Bn (mg : Str → Option Value) : Prop where
  n_abs : mg "abs" = none
  n_int : mg "int" = none
  n_isinstance : mg "isinstance" = none
  n_len : mg "len" = none
  n_list : mg "list" = none
  n_min : mg "min" = none
  n_range : mg "range" = none
  n_repr : mg "repr" = none
  n_set : mg "set" = none
  n_sorted : mg "sorted" = none
  n_str : mg "str" = none
  n_tuple : mg "tuple" = none
  n_zip : mg "zip" = none

section
variable {P : Program} {w : World} {mg : Str → Option Value} {base : Heap} {C : Ck}
abbrev s__law_hand : Stmt := topS 9
abbrev N__law_hand : List Str := [("_law_script" : Str), ("_law_k" : Str), ("_law_cell" : Str), ("_law_own" : Str)]
theorem sc__law_hand : FnScope N__law_hand ["_law_script", "_law_k"] (defScope s__law_hand) := ⟨rfl, rfl, rfl, by decide +kernel, rfl, by decide +kernel, by decide +kernel⟩
theorem ok__law_hand (hw : C.w = w) (T : Bn mg) (S : Stands C.K mg "_law_hand" s__law_hand ["_law_script", "_law_k"]) : Df P w C.K mg base 1 "_law_hand" ["_law_script", "_law_k"] (spV C 2 (Lx.F__law_hand C.ns)) := by
  have sc := sc__law_hand
  subst hw
  exact Dv.nf (Dv.of (k := 0) (g := Lx.g__law_hand C.ns) S sc__law_hand rfl fun f cdv A outer s H E hr hf =>
      (qs_cons (q_set (i := 2) sc.nd rfl (Or.inl rfl) (q_ifE (qt_cmp op_lt vo_lt (qv 1) (q_callB call_len_seq vc_lenS rfl T.n_len PySem.boot_len (qa_cons (qv 0) qa_nil)) (nomark _)) (q_ixS rfl (qv 0) (qv 1) (fun _ _ => rfl)) q_int))
      (qs_cons (q_set (i := 3) sc.nd rfl (Or.inl rfl) (q_op op_mul vo_mul (q_op op_mod vo_mod (q_callB call_abs vc_abs rfl T.n_abs (by decide +kernel) (qa_cons (qv 2) qa_nil)) (q_op op_mulW vo_mulW (q_op op_mulW vo_mulW (q_op op_mulW vo_mulW (q_op op_pow vo_pow q_int q_int) (q_op op_pow vo_pow q_int q_int)) (q_op op_pow vo_pow q_int q_int)) (q_op op_pow vo_pow q_int q_int))) (q_callTy call_int1 vc_int rfl T.n_int (by decide +kernel) (qa_cons (q_cmp op_ge vo_ge (q_callB call_abs vc_abs rfl T.n_abs (by decide +kernel) (qa_cons (qv 2) qa_nil)) (q_op op_pow vo_pow q_int q_int) (nomark _)) qa_nil))))
      (qs_one (q_ret (q_lst (qa_cons (qv 3) (qa_cons (q_op op_add vo_add (q_op op_add vo_add (q_op op_mod vo_mod (qv 2) q_int) (q_op op_mul vo_mul q_int (qv 1))) q_int) (qa_cons q_int qa_nil)))))))))

abbrev s__law_take : Stmt := topS 10
abbrev N__law_take : List Str := [("_law_hand_here" : Str), ("_law_many" : Str), ("_law_digit" : Str), ("_law_primes" : Str), ("_law_prime" : Str), ("_law_drawn" : Str)]
theorem sc__law_take : FnScope N__law_take ["_law_hand_here", "_law_many"] (defScope s__law_take) := ⟨rfl, rfl, rfl, by decide +kernel, rfl, by decide +kernel, by decide +kernel⟩
theorem ok__law_take (hw : C.w = w) (T : Bn mg) (S : Stands C.K mg "_law_take" s__law_take ["_law_hand_here", "_law_many"]) : Df P w C.K mg base 1 "_law_take" ["_law_hand_here", "_law_many"] (spV C 2 (Lx.F__law_take)) := by
  have sc := sc__law_take
  subst hw
  exact Dv.nf (Dv.of (k := 0) (g := Lx.g__law_take) S sc__law_take rfl fun f cdv A outer s H E hr hf =>
      (qs_cons (q_if (qt_cmp op_gt vo_gt (q_ix rfl (qv 0) q_int (fun _ _ => rfl)) q_int (nomark _)) (qs_cons (q_set (i := 2) sc.nd rfl (Or.inl rfl) (q_op op_mod vo_mod (q_ix rfl (qv 0) q_int (fun _ _ => rfl)) (qv 1)))
      (qs_cons (q_put (q_op op_fdivW vo_div (q_ix rfl (qv 0) q_int (fun _ _ => rfl)) (qv 1)) (qv 0) q_int (pg_sub (qv 0) q_int set_list))
      (qs_one (q_ret (qv 2))))) qs_nil)
      (qs_cons (q_put (q_op op_add vo_add (q_ix rfl (qv 0) q_int (fun _ _ => rfl)) q_int) (qv 0) q_int (pg_sub (qv 0) q_int set_list))
      (qs_cons (q_set (i := 3) sc.nd rfl (Or.inl rfl) (q_lst (qa_cons q_int (qa_cons q_int (qa_cons q_int (qa_cons q_int (qa_cons q_int (qa_cons q_int (qa_cons q_int (qa_cons q_int qa_nil))))))))))
      (qs_cons (q_set (i := 4) sc.nd rfl (Or.inl rfl) (q_ix rfl (qv 3) (q_op op_mod vo_mod (q_ix rfl (qv 0) q_int (fun _ _ => rfl)) q_int) (fun _ _ => rfl)))
      (qs_cons (q_set (i := 5) sc.nd rfl (Or.inl rfl) (q_op op_mod vo_mod (q_op op_pow vo_pow (q_op op_add vo_add (q_ix rfl (qv 0) q_int (fun _ _ => rfl)) (q_op op_mul vo_mul q_int (q_ix rfl (qv 0) q_int (fun _ _ => rfl)))) q_int) (qv 4)))
      (qs_one (q_ret (q_op op_mod vo_mod (q_op op_fdivW vo_div (q_op op_mod vo_mod (q_op op_mul vo_mul (qv 5) (q_op op_add vo_add (q_op op_mod vo_mod (qv 5) q_int) (q_ix rfl (qv 0) q_int (fun _ _ => rfl)))) (qv 4)) q_int) (qv 1))))))))))

abbrev s__law_saying : Stmt := topS 13
abbrev N__law_saying : List Str := [("_law_hand_here" : Str), ("_law_pool" : Str), ("_law_deep" : Str), ("_law_pot" : Str), ("_law_way" : Str), ("_law_at" : Str), ("_law_inner" : Str)]
theorem sc__law_saying : FnScope N__law_saying ["_law_hand_here", "_law_pool", "_law_deep", "_law_pot"] (defScope s__law_saying) := ⟨rfl, rfl, rfl, by decide +kernel, rfl, by decide +kernel, by decide +kernel⟩
theorem ok__law_saying (hw : C.w = w) (T : Bn mg) (S : Stands C.K mg "_law_saying" s__law_saying ["_law_hand_here", "_law_pool", "_law_deep", "_law_pot"]) (d__law_take : Df P w C.K mg base 1 "_law_take" ["_law_hand_here", "_law_many"] (spV C 2 (Lx.F__law_take))) : ∀ k, Df P w C.K mg base (2 + k) "_law_saying" ["_law_hand_here", "_law_pool", "_law_deep", "_law_pot"] (spV C 4 (Lx.F__law_saying k))
  | 0 => Dv.never S
  | k + 1 => by
    have ih := ok__law_saying hw T S d__law_take k
    have sc := sc__law_saying
    subst hw
    exact Dv.nf (Dv.of (k := 2 + k) (g := Lx.g__law_saying (Lx.F__law_saying k)) S sc__law_saying rfl fun f cdv A outer s H E hr hf =>
      (qs_cons (q_par (i := 4) (j := 5) rfl sc.nd rfl rfl (by decide) rfl rfl (qa_cons (q_df d__law_take (hr.mono (by omega)) hf rfl (qa_cons (qv 0) (qa_cons q_int qa_nil))) (qa_cons (q_df d__law_take (hr.mono (by omega)) hf rfl (qa_cons (qv 0) (qa_cons (q_callB call_len_seq vc_len rfl T.n_len PySem.boot_len (qa_cons (qv 1) qa_nil)) qa_nil))) qa_nil)) rfl)
      (qs_cons (q_putP hr.units (q_op op_sub vo_sub (q_ixP hr.units (qv 3) q_str (fun _ _ => rfl)) q_int) (qv 3) q_str)
      (qs_cons (q_if (PW.pt (qw_or (qt_cmp op_gt vo_gt (qv 4) q_int (nomark _)) (qw_or (qt_cmp op_lt vo_lt (qv 2) q_int (nomark _)) (qw_or1 (qt_cmp op_lt vo_lt (q_ixP hr.units (qv 3) q_str (fun _ _ => rfl)) q_int (nomark _)))))) (qs_one (q_ret (q_ix rfl (qv 1) (qv 5) (fun _ _ => rfl)))) qs_nil)
      (qs_cons (q_set (i := 6) sc.nd rfl (Or.inl rfl) (q_df ih (hr.mono (by omega)) hf rfl (qa_cons (qv 0) (qa_cons (qv 1) (qa_cons (q_op op_sub vo_sub (qv 2) q_int) (qa_cons (qv 3) qa_nil))))))
      (qs_cons (q_if (qt_cmp (op_eq.or (op_eqD hr.units)) vo_eq (qv 4) q_int (nomark _)) (qs_one (q_ret (q_tup (qa_cons q_str (qa_cons (qv 6) qa_nil))))) qs_nil)
      (qs_one (q_ret (q_tup (qa_cons (q_ix rfl (q_lst (qa_cons q_str (qa_cons q_str (qa_cons q_str qa_nil)))) (q_op op_sub vo_sub (qv 4) q_int) (fun _ _ => rfl)) (qa_cons (qv 6) (qa_cons (q_df ih (hr.mono (by omega)) hf rfl (qa_cons (qv 0) (qa_cons (qv 1) (qa_cons (q_op op_sub vo_sub (qv 2) q_int) (qa_cons (qv 3) qa_nil))))) qa_nil))))))))))))

abbrev s__law_ahead : Stmt := topS 15
abbrev N__law_ahead : List Str := [("_law_one" : Str), ("_law_other" : Str), ("_law_mine" : Str), ("_law_its" : Str), ("_law_a" : Str), ("_law_b" : Str)]
theorem sc__law_ahead : FnScope N__law_ahead ["_law_one", "_law_other"] (defScope s__law_ahead) := ⟨rfl, rfl, rfl, by decide +kernel, rfl, by decide +kernel, by decide +kernel⟩
theorem ok__law_ahead (hw : C.w = w) (T : Bn mg) (S : Stands C.K mg "_law_ahead" s__law_ahead ["_law_one", "_law_other"]) : Df P w C.K mg base 1 "_law_ahead" ["_law_one", "_law_other"] (spV C 2 (F__law_ahead)) := by
  have sc := sc__law_ahead
  subst hw
  exact Dv.nf (Dv.of (k := 0) (g := g__law_ahead) S sc__law_ahead rfl fun f cdv A outer s H E hr hf =>
      (qs_cons (q_if (qt_cmp (op_ne.or (op_neD hr.units)) vo_ne (q_ix rfl (qv 0) q_int (fun _ _ => rfl)) (q_ix rfl (qv 1) q_int (fun _ _ => rfl)) (nomark _)) (qs_one (q_ret (q_cmp (op_eq.or (op_eqD hr.units)) vo_eq (q_ix rfl (qv 0) q_int (fun _ _ => rfl)) q_str (nomark _)))) qs_nil)
      (qs_cons (q_par (i := 2) (j := 3) rfl sc.nd rfl rfl (by decide) rfl rfl (qa_cons (q_op op_addG vo_addG (q_callTy call_list_of vc_list rfl T.n_list (by decide +kernel) (qa_cons (q_ix rfl (qv 0) q_int (fun _ _ => rfl)) qa_nil)) (q_callTy call_list_of vc_list rfl T.n_list (by decide +kernel) (qa_cons (q_slT rfl (qv 0) qo_int qo_none) qa_nil))) (qa_cons (q_op op_addG vo_addG (q_callTy call_list_of vc_list rfl T.n_list (by decide +kernel) (qa_cons (q_ix rfl (qv 1) q_int (fun _ _ => rfl)) qa_nil)) (q_callTy call_list_of vc_list rfl T.n_list (by decide +kernel) (qa_cons (q_slT rfl (qv 1) qo_int qo_none) qa_nil))) qa_nil)) rfl)
      (qs_cons (q_for PassesOwn.never rfl (qi_zip2 rfl (pi_zip2 rfl T.n_zip (qa_cons (qv 2) (qa_cons (qv 3) qa_nil)))) (qg_tup rfl rfl (qgs_cons (qg_name (i := 4) sc.nd rfl (Or.inl rfl)) (qgs_cons (qg_name (i := 5) sc.nd rfl (Or.inl rfl)) qgs_nil))) (qs_one (q_if (qt_cmp (op_ne.or (op_neD hr.units)) vo_ne (qv 4) (qv 5) (nomark _)) (qs_one (q_ret (q_cmp op_lt vo_lt (qv 4) (qv 5) (nomark _)))) qs_nil)))
      (qs_one (q_ret q_bl))))))

abbrev s__law_in_order : Stmt := topS 16
abbrev N__law_in_order : List Str := [("_law_some" : Str), ("_law_row" : Str), ("_law_simple_here" : Str), ("_law_at" : Str), ("_law_one" : Str)]
theorem sc__law_in_order : FnScope N__law_in_order ["_law_some"] (defScope s__law_in_order) := ⟨rfl, rfl, rfl, by decide +kernel, rfl, by decide +kernel, by decide +kernel⟩
theorem ok__law_in_order (hw : C.w = w) (T : Bn mg) (S : Stands C.K mg "_law_in_order" s__law_in_order ["_law_some"]) (d__law_ahead : Df P w C.K mg base 1 "_law_ahead" ["_law_one", "_law_other"] (spV C 2 (F__law_ahead))) : Df P w C.K mg base 2 "_law_in_order" ["_law_some"] (spV C 1 (F__law_in_order)) := by
  have sc := sc__law_in_order
  subst hw
  exact Dv.nf (Dv.of (k := 1) (g := g__law_in_order) S sc__law_in_order rfl fun f cdv A outer s H E hr hf =>
      (qs_cons (q_set (i := 1) sc.nd rfl (Or.inl rfl) (q_lst qa_nil))
      (qs_cons (q_for PassesOwn.never rfl (qi_seq rfl (qv 0)) (qg_name (i := 2) sc.nd rfl (Or.inr rfl)) (qs_cons (q_set (i := 3) sc.nd rfl (Or.inl rfl) (q_callB call_len_seq vc_len rfl T.n_len PySem.boot_len (qa_cons (q_lc (own := [("_law_one", 4)]) rfl sc.nd (qi_seq rfl (qv 1)) (blkOk_by (own := [("_law_one", 4)]) (N := N__law_in_order) (sc := defScope s__law_in_order) (by decide +kernel)) (by decide) (fun _ _ _ _ _ => (qg_name (i := 4) sc.nd rfl (Or.inl rfl))) (fun _ _ _ _ _ => (qts_one (qt_val (q_df d__law_ahead (hr.mono (by decide)) hf rfl (qa_cons (qv 4) (qa_cons (qv 2) qa_nil)))))) (fun _ _ _ _ _ => (qv 4))) qa_nil)))
      (qs_one (q_if (qt_cmp (op_neD hr.units) vo_neL (q_slLv rfl (qv 1) (qp_e (qv 3)) (qp_e (q_op op_add vo_add (qv 3) q_int))) (q_lst (qa_cons (qv 2) qa_nil)) (nomark _)) (qs_one (q_expr (q_ins (pe_bm PySem.F.plainAttrs_list PySem.F.slot_list_insert PySem.F.type_list_insert mt_insert (qv 1) (pa_cons (qv 3) (pa_cons (qv 2) pa_nil)))))) qs_nil))))
      (qs_one (q_ret (q_callTy call_tuple_of vc_tuple rfl T.n_tuple PyProof.Rows.boot_tuple (qa_cons (qv 1) qa_nil)))))))

abbrev s__law_in_a_row : Stmt := topS 19
abbrev N__law_in_a_row : List Str := [("_law_some" : Str), ("_law_row" : Str), ("_law_more" : Str), ("_law_one" : Str), ("_law_other" : Str)]
theorem sc__law_in_a_row : FnScope N__law_in_a_row ["_law_some"] (defScope s__law_in_a_row) := ⟨rfl, rfl, rfl, by decide +kernel, rfl, by decide +kernel, by decide +kernel⟩
theorem ok__law_in_a_row (hw : C.w = w) (T : Bn mg) (S : Stands C.K mg "_law_in_a_row" s__law_in_a_row ["_law_some"]) : Df P w C.K mg base 1 "_law_in_a_row" ["_law_some"] (spV C 1 (F__law_in_a_row)) := by
  have sc := sc__law_in_a_row
  subst hw
  exact Dv.nf (Dv.of (k := 0) (g := g__law_in_a_row) S sc__law_in_a_row rfl fun f cdv A outer s H E hr hf =>
      (qs_cons (q_setLc (i := 1) (own := [("_law_one", 3)]) rfl sc.nd rfl rfl (sw_true rfl rfl rfl (by decide +kernel)) (qi_seq rfl (qv 0)) (blkOk_by (own := [("_law_one", 3)]) (N := N__law_in_a_row) (sc := defScope s__law_in_a_row) (by decide +kernel)) (by decide) (fun _ _ _ _ _ => (qg_name (i := 3) sc.nd rfl (Or.inl rfl))) (fun _ _ _ _ _ => qts_nil) (fun _ _ _ _ _ => (q_tup (qa_cons q_str (qa_cons (qv 3) (qa_cons (q_tup (qa_cons q_str (qa_cons (qv 3) qa_nil))) qa_nil))))))
      (qs_cons (q_while 1000000 PassesOwn.never (qt_cmp op_gt vo_gt (q_callB call_len_seq vc_len rfl T.n_len PySem.boot_len (qa_cons (qv 1) qa_nil)) q_int (nomark _)) (qs_cons (q_setLc (i := 2) (own := [("_law_one", 3), ("_law_other", 4)]) rfl sc.nd rfl rfl (sw_true rfl rfl rfl (by decide +kernel)) (qi_zip2U rfl (pi_zip2 rfl T.n_zip (qa_cons (q_step2 rfl (qv 1) po_none step_none) (qa_cons (q_step2 rfl (qv 1) (po_some pe_int) (step_int 1)) qa_nil)))) (blkOk_by (own := [("_law_one", 3), ("_law_other", 4)]) (N := N__law_in_a_row) (sc := defScope s__law_in_a_row) (by decide +kernel)) (by decide) (fun _ _ _ _ _ => (qg_tup rfl rfl (qgs_cons (qg_name (i := 3) sc.nd rfl (Or.inl rfl)) (qgs_cons (qg_name (i := 4) sc.nd rfl (Or.inl rfl)) qgs_nil)))) (fun _ _ _ _ _ => qts_nil) (fun _ _ _ _ _ => (q_tup (qa_cons q_str (qa_cons (qv 3) (qa_cons (qv 4) qa_nil))))))
      (qs_one (q_set (i := 1) sc.nd rfl (Or.inl rfl) (q_op op_addG vo_addG (qv 2) (q_slLv rfl (qv 1) (qp_e (q_op op_sub vo_sub (q_callB call_len_seq vc_len rfl T.n_len PySem.boot_len (qa_cons (qv 1) qa_nil)) (q_op op_mod vo_mod (q_callB call_len_seq vc_len rfl T.n_len PySem.boot_len (qa_cons (qv 1) qa_nil)) q_int))) qp_none))))))
      (qs_one (q_ret (q_ix rfl (qv 1) q_int (fun _ _ => rfl)))))))

abbrev s__law_simple_ones : Stmt := topS 17
abbrev N__law_simple_ones : List Str := [("_law_saying_here" : Str), ("_law_found" : Str), ("_law_part" : Str)]
theorem sc__law_simple_ones : FnScope N__law_simple_ones ["_law_saying_here"] (defScope s__law_simple_ones) := ⟨rfl, rfl, rfl, by decide +kernel, rfl, by decide +kernel, by decide +kernel⟩
theorem ok__law_simple_ones (hw : C.w = w) (T : Bn mg) (S : Stands C.K mg "_law_simple_ones" s__law_simple_ones ["_law_saying_here"]) : ∀ k, Df P w C.K mg base (1 + k) "_law_simple_ones" ["_law_saying_here"] (spV C 1 (F__law_simple_ones k))
  | 0 => Dv.never S
  | k + 1 => by
    have ih := ok__law_simple_ones hw T S k
    have sc := sc__law_simple_ones
    subst hw
    exact Dv.nf (Dv.of (k := 1 + k) (g := g__law_simple_ones (F__law_simple_ones k)) S sc__law_simple_ones rfl fun f cdv A outer s H E hr hf =>
      (qs_cons (q_if (qt_cmp op_in_seq vo_inT (q_ix rfl (qv 0) q_int (fun _ _ => rfl)) (q_tup (qa_cons q_str (qa_cons q_str qa_nil))) rfl) (qs_one (q_ret (q_lst (qa_cons (qv 0) qa_nil)))) qs_nil)
      (qs_cons (q_set (i := 1) sc.nd rfl (Or.inl rfl) (q_lst qa_nil))
      (qs_cons (q_for PassesOwn.never rfl (qi_seq rfl (q_slT rfl (qv 0) qo_int qo_none)) (qg_name (i := 2) sc.nd rfl (Or.inl rfl)) (qs_one (q_expr (q_ext rfl (pe_bm PySem.F.plainAttrs_list PySem.F.slot_list_extend PySem.F.type_list_extend mt_extend (qv 1) (pa_cons (q_df ih (hr.mono (by omega)) hf rfl (qa_cons (qv 2) qa_nil)) pa_nil))))))
      (qs_one (q_ret (qv 1)))))))

abbrev s_is_tuple_of : Stmt := topS 1
abbrev N_is_tuple_of : List Str := [("thing" : Str), ("many" : Str)]
theorem sc_is_tuple_of : FnScope N_is_tuple_of ["thing", "many"] (defScope s_is_tuple_of) := ⟨rfl, rfl, rfl, by decide +kernel, rfl, by decide +kernel, by decide +kernel⟩
theorem ok_is_tuple_of (hw : C.w = w) (T : Bn mg) (S : Stands C.K mg "is_tuple_of" s_is_tuple_of ["thing", "many"]) : Df P w C.K mg base 1 "is_tuple_of" ["thing", "many"] (spV C 2 (Pg.F_is_tuple_of)) := by
  have sc := sc_is_tuple_of
  subst hw
  exact Dv.nf (Dv.of (k := 0) (g := Pg.g_is_tuple_of) S sc_is_tuple_of rfl fun f cdv A outer s H E hr hf =>
      (qs_one (q_ret (q_and (q_isi (T := "tuple") (by simp) rfl (pe_callB call_isi rfl T.n_isinstance (by decide +kernel) (pa_cons (qv 0) (pa_cons (pe_bltn (v := .ty "tuple") rfl T.n_tuple PyProof.Rows.boot_tuple rfl) pa_nil)))) (q_one (q_cmp (op_eq.or (op_eqD hr.units)) vo_eq (q_callB call_len_seq vc_len rfl T.n_len PySem.boot_len (qa_cons (qv 0) qa_nil)) (qv 1) (nomark _)))))))

abbrev s_is_headed : Stmt := topS 2
abbrev N_is_headed : List Str := [("thing" : Str), ("word" : Str), ("many" : Str)]
theorem sc_is_headed : FnScope N_is_headed ["thing", "word", "many"] (defScope s_is_headed) := ⟨rfl, rfl, rfl, by decide +kernel, rfl, by decide +kernel, by decide +kernel⟩
theorem ok_is_headed (hw : C.w = w) (T : Bn mg) (S : Stands C.K mg "is_headed" s_is_headed ["thing", "word", "many"]) (d_is_tuple_of : Df P w C.K mg base 1 "is_tuple_of" ["thing", "many"] (spV C 2 (Pg.F_is_tuple_of))) : Df P w C.K mg base 2 "is_headed" ["thing", "word", "many"] (spV C 3 (Pg.F_is_headed)) := by
  have sc := sc_is_headed
  subst hw
  exact Dv.nf (Dv.of (k := 1) (g := Pg.g_is_headed) S sc_is_headed rfl fun f cdv A outer s H E hr hf =>
      (qs_one (q_ret (q_and (q_df d_is_tuple_of (hr.mono (by decide)) hf rfl (qa_cons (qv 0) (qa_cons (qv 2) qa_nil))) (q_and (q_isi (T := "str") (by simp) rfl (pe_callB call_isi rfl T.n_isinstance (by decide +kernel) (pa_cons (q_ix rfl (qv 0) q_int (fun _ _ => rfl)) (pa_cons (pe_bltn (v := .ty "str") rfl T.n_str (by decide +kernel) rfl) pa_nil)))) (q_one (q_cmp (op_eq.or (op_eqD hr.units)) vo_eq (q_ix rfl (qv 0) q_int (fun _ _ => rfl)) (qv 1) (nomark _))))))))

abbrev s_is_joined : Stmt := topS 4
abbrev N_is_joined : List Str := [("thing" : Str)]
theorem sc_is_joined : FnScope N_is_joined ["thing"] (defScope s_is_joined) := ⟨rfl, rfl, rfl, by decide +kernel, rfl, by decide +kernel, by decide +kernel⟩
theorem ok_is_joined (hw : C.w = w) (T : Bn mg) (S : Stands C.K mg "is_joined" s_is_joined ["thing"]) (d_is_headed : Df P w C.K mg base 2 "is_headed" ["thing", "word", "many"] (spV C 3 (Pg.F_is_headed))) : Df P w C.K mg base 3 "is_joined" ["thing"] (spV C 1 (Pg.F_is_joined)) := by
  have sc := sc_is_joined
  subst hw
  exact Dv.nf (Dv.of (k := 2) (g := Pg.g_is_joined) S sc_is_joined rfl fun f cdv A outer s H E hr hf =>
      (qs_one (q_ret (q_or (q_df d_is_headed (hr.mono (by decide)) hf rfl (qa_cons (qv 0) (qa_cons q_str (qa_cons q_int qa_nil)))) (q_or (q_df d_is_headed (hr.mono (by decide)) hf rfl (qa_cons (qv 0) (qa_cons q_str (qa_cons q_int qa_nil)))) (q_one (q_df d_is_headed (hr.mono (by decide)) hf rfl (qa_cons (qv 0) (qa_cons q_str (qa_cons q_int qa_nil))))))))))

abbrev s_sorts_of : Stmt := topS 6
abbrev N_sorts_of : List Str := [("saying" : Str)]
theorem sc_sorts_of : FnScope N_sorts_of ["saying"] (defScope s_sorts_of) := ⟨rfl, rfl, rfl, by decide +kernel, rfl, by decide +kernel, by decide +kernel⟩
theorem ok_sorts_of (hw : C.w = w) (T : Bn mg) (S : Stands C.K mg "sorts_of" s_sorts_of ["saying"]) (d_is_joined : Df P w C.K mg base 3 "is_joined" ["thing"] (spV C 1 (Pg.F_is_joined))) : Df P w C.K mg base 4 "sorts_of" ["saying"] (spV C 1 (F_sorts_of)) := by
  have sc := sc_sorts_of
  subst hw
  exact Dv.nf (Dv.of (k := 3) (g := g_sorts_of) S sc_sorts_of rfl fun f cdv A outer s H E hr hf =>
      (qs_cons (q_while 1000000 PassesOwn.never (qt_val (q_df d_is_joined (hr.mono (by decide)) hf rfl (qa_cons (qv 0) qa_nil))) (qs_one (q_set (i := 0) sc.nd rfl (Or.inl rfl) (q_ix rfl (qv 0) q_int (fun _ _ => rfl)))))
      (qs_one (q_ret (q_callB call_len_seq vc_len rfl T.n_len PySem.boot_len (qa_cons (q_ix rfl (qv 0) q_int (fun _ _ => rfl)) qa_nil))))))

abbrev s__law_near : Stmt := topS 14
abbrev N__law_near : List Str := [("_law_hand_here" : Str), ("_law_simple_here" : Str), ("_law_at" : Str), ("_law_worth" : Str), ("_law_worths" : Str)]
theorem sc__law_near : FnScope N__law_near ["_law_hand_here", "_law_simple_here"] (defScope s__law_near) := ⟨rfl, rfl, rfl, by decide +kernel, rfl, by decide +kernel, by decide +kernel⟩
theorem ok__law_near (hw : C.w = w) (T : Bn mg) (S : Stands C.K mg "_law_near" s__law_near ["_law_hand_here", "_law_simple_here"]) (d__law_take : Df P w C.K mg base 1 "_law_take" ["_law_hand_here", "_law_many"] (spV C 2 (Lx.F__law_take))) : Df P w C.K mg base 2 "_law_near" ["_law_hand_here", "_law_simple_here"] (spV C 2 (F__law_near)) := by
  have sc := sc__law_near
  subst hw
  exact Dv.nf (Dv.of (k := 1) (g := g__law_near) S sc__law_near rfl fun f cdv A outer s H E hr hf =>
      (qs_cons (q_set (i := 2) sc.nd rfl (Or.inl rfl) (q_df d__law_take (hr.mono (by decide)) hf rfl (qa_cons (qv 0) (qa_cons (q_callB call_len_seq vc_len rfl T.n_len PySem.boot_len (qa_cons (q_ix rfl (qv 1) q_int (fun _ _ => rfl)) qa_nil)) qa_nil))))
      (qs_cons (q_set (i := 3) sc.nd rfl (Or.inl rfl) (q_ix rfl (q_lst (qa_cons (q_op op_addG vo_addG (q_ix rfl (q_ix rfl (qv 1) q_int (fun _ _ => rfl)) (qv 2) (fun _ _ => rfl)) q_int) (qa_cons (q_op op_sub vo_sub (q_ix rfl (q_ix rfl (qv 1) q_int (fun _ _ => rfl)) (qv 2) (fun _ _ => rfl)) q_int) qa_nil))) (q_callTy call_int1 vc_int rfl T.n_int (by decide +kernel) (qa_cons (q_cmp op_gt vo_gt (q_ix rfl (q_ix rfl (qv 1) q_int (fun _ _ => rfl)) (qv 2) (fun _ _ => rfl)) q_int (nomark _)) qa_nil)) (fun _ _ => rfl)))
      (qs_cons (q_set (i := 4) sc.nd rfl (Or.inl rfl) (q_op op_addG vo_addG (q_op op_addG vo_addG (q_slTv rfl (q_ix rfl (qv 1) q_int (fun _ _ => rfl)) qp_none (qp_e (qv 2))) (q_tup (qa_cons (qv 3) qa_nil))) (q_slTv rfl (q_ix rfl (qv 1) q_int (fun _ _ => rfl)) (qp_e (q_op op_addG vo_addG (qv 2) q_int)) qp_none)))
      (qs_cons (q_if (PW.pt (qw_or (qt_cmp (op_eq.or (op_eqD hr.units)) vo_eq (q_df d__law_take (hr.mono (by decide)) hf rfl (qa_cons (qv 0) (qa_cons q_int qa_nil))) q_int (nomark _)) (qw_or1 (qt_cmp (op_eq.or (op_eqD hr.units)) vo_eq (q_ix rfl (qv 1) q_int (fun _ _ => rfl)) q_str (nomark _))))) (qs_one (q_ret (q_op op_addG vo_addG (q_op op_addG vo_addG (q_slT rfl (qv 1) qo_none qo_int) (q_tup (qa_cons (qv 4) qa_nil))) (q_slT rfl (qv 1) qo_int qo_none)))) qs_nil)
      (qs_one (q_ret (q_tup (qa_cons q_str (qa_cons (q_ix rfl (qv 1) q_int (fun _ _ => rfl)) (qa_cons (q_op op_sub vo_sub (q_op op_addG vo_addG (q_ix rfl (qv 1) q_int (fun _ _ => rfl)) q_int) (q_op op_mul vo_mul q_int (q_callTy call_int1 vc_int rfl T.n_int (by decide +kernel) (qa_cons (q_cmp op_gt vo_gt (q_ix rfl (qv 1) q_int (fun _ _ => rfl)) q_int (nomark _)) qa_nil)))) qa_nil)))))))))))

abbrev s__law_of : Stmt := topS 11
abbrev N__law_of : List Str := [("_law_hand_here" : Str), ("_law_some" : Str)]
theorem sc__law_of : FnScope N__law_of ["_law_hand_here", "_law_some"] (defScope s__law_of) := ⟨rfl, rfl, rfl, by decide +kernel, rfl, by decide +kernel, by decide +kernel⟩
theorem ok__law_of (hw : C.w = w) (T : Bn mg) (S : Stands C.K mg "_law_of" s__law_of ["_law_hand_here", "_law_some"]) (d__law_take : Df P w C.K mg base 1 "_law_take" ["_law_hand_here", "_law_many"] (spV C 2 (Lx.F__law_take))) : Df P w C.K mg base 2 "_law_of" ["_law_hand_here", "_law_some"] (spV C 2 (Lx.F__law_of)) := by
  have sc := sc__law_of
  subst hw
  exact Dv.nf (Dv.of (k := 1) (g := Lx.g__law_of) S sc__law_of rfl fun f cdv A outer s H E hr hf =>
      (qs_one (q_ret (q_ix rfl (qv 1) (q_df d__law_take (hr.mono (by decide)) hf rfl (qa_cons (qv 0) (qa_cons (q_callB call_len_seq vc_len rfl T.n_len PySem.boot_len (qa_cons (qv 1) qa_nil)) qa_nil))) (fun _ _ => rfl)))))

abbrev s__law_simple : Stmt := topS 12
abbrev N__law_simple : List Str := [("_law_hand_here" : Str), ("_law_sorts" : Str), ("_law_way" : Str), ("_law_far" : Str), ("_law_worths" : Str), ("_law_m" : Str), ("_law_sort" : Str)]
theorem sc__law_simple : FnScope N__law_simple ["_law_hand_here", "_law_sorts"] (defScope s__law_simple) := ⟨rfl, rfl, rfl, by decide +kernel, rfl, by decide +kernel, by decide +kernel⟩
theorem ok__law_simple (hw : C.w = w) (T : Bn mg) (S : Stands C.K mg "_law_simple" s__law_simple ["_law_hand_here", "_law_sorts"]) (d__law_take : Df P w C.K mg base 1 "_law_take" ["_law_hand_here", "_law_many"] (spV C 2 (Lx.F__law_take))) (d__law_of : Df P w C.K mg base 2 "_law_of" ["_law_hand_here", "_law_some"] (spV C 2 (Lx.F__law_of))) : Df P w C.K mg base 3 "_law_simple" ["_law_hand_here", "_law_sorts"] (spV C 2 (Lx.F__law_simple)) := by
  have sc := sc__law_simple
  subst hw
  exact Dv.nf (Dv.of (k := 2) (g := Lx.g__law_simple) S sc__law_simple rfl fun f cdv A outer s H E hr hf =>
      (qs_cons (q_par (i := 2) (j := 3) rfl sc.nd rfl rfl (by decide) rfl rfl (qa_cons (q_df d__law_take (hr.mono (by decide)) hf rfl (qa_cons (qv 0) (qa_cons q_int qa_nil))) (qa_cons (q_df d__law_take (hr.mono (by decide)) hf rfl (qa_cons (qv 0) (qa_cons q_int qa_nil))) qa_nil)) rfl)
      (qs_cons (q_set (i := 4) sc.nd rfl (Or.inl rfl) (q_callTy call_tuple_of vc_tuple rfl T.n_tuple PyProof.Rows.boot_tuple (qa_cons (q_lc (own := [("_law_sort", 6)]) rfl sc.nd (qi_range1 rfl T.n_range (qa_cons (qv 1) qa_nil)) (blkOk_by (own := [("_law_sort", 6)]) (N := N__law_simple) (sc := defScope s__law_simple) (by decide +kernel)) (by decide) (fun _ _ _ _ _ => (qg_name (i := 6) sc.nd rfl (Or.inl rfl))) (fun _ _ _ _ _ => qts_nil) (fun _ _ _ _ _ => (q_df d__law_of (hr.mono (by decide)) hf rfl (qa_cons (qv 0) (qa_cons (q_lst (qa_cons q_int (qa_cons q_int (qa_cons (q_un un_neg vu_neg q_int) (qa_cons q_int (qa_cons q_int (qa_cons (q_un un_neg vu_neg q_int) (qa_cons (q_op op_sub vo_sub (q_df d__law_take (hr.mono (by decide)) hf rfl (qa_cons (qv 0) (qa_cons q_int qa_nil))) q_int) qa_nil)))))))) qa_nil))))) qa_nil)))
      (qs_cons (q_if (qt_cmp op_lt vo_lt (qv 2) q_int (nomark _)) (qs_one (q_ret (q_tup (qa_cons q_str (qa_cons (qv 4) (qa_cons (q_ix rfl (q_lst (qa_cons (q_op op_sub vo_sub (q_df d__law_take (hr.mono (by decide)) hf rfl (qa_cons (qv 0) (qa_cons q_int qa_nil))) q_int) (qa_cons (q_op op_sub vo_sub (q_df d__law_take (hr.mono (by decide)) hf rfl (qa_cons (qv 0) (qa_cons q_int qa_nil))) q_int) (qa_cons q_int (qa_cons (q_un un_neg vu_neg q_int) qa_nil))))) (qv 3) (fun _ _ => rfl)) qa_nil)))))) qs_nil)
      (qs_cons (q_set (i := 5) sc.nd rfl (Or.inl rfl) (q_op op_add vo_add q_int (q_df d__law_take (hr.mono (by decide)) hf rfl (qa_cons (qv 0) (qa_cons q_int qa_nil)))))
      (qs_one (q_ret (q_tup (qa_cons q_str (qa_cons (qv 4) (qa_cons (q_df d__law_take (hr.mono (by decide)) hf rfl (qa_cons (qv 0) (qa_cons (qv 5) qa_nil))) (qa_cons (qv 5) qa_nil))))))))))))

abbrev s_all_simples : Stmt := topS 5
abbrev N_all_simples : List Str := [("saying" : Str), ("found" : Str), ("part" : Str)]
theorem sc_all_simples : FnScope N_all_simples ["saying"] (defScope s_all_simples) := ⟨rfl, rfl, rfl, by decide +kernel, rfl, by decide +kernel, by decide +kernel⟩
theorem ok_all_simples (hw : C.w = w) (T : Bn mg) (S : Stands C.K mg "all_simples" s_all_simples ["saying"]) (d_is_joined : Df P w C.K mg base 3 "is_joined" ["thing"] (spV C 1 (Pg.F_is_joined))) : ∀ k, Df P w C.K mg base (4 + k) "all_simples" ["saying"] (spV C 1 (Pg.F_all_simples k))
  | 0 => Dv.never S
  | k + 1 => by
    have ih := ok_all_simples hw T S d_is_joined k
    have sc := sc_all_simples
    subst hw
    exact Dv.nf (Dv.of (k := 4 + k) (g := Pg.g_all_simples (Pg.F_all_simples k)) S sc_all_simples rfl fun f cdv A outer s H E hr hf =>
      (qs_cons (q_if (qt_not (qt_val (q_df d_is_joined (hr.mono (by omega)) hf rfl (qa_cons (qv 0) qa_nil)))) (qs_one (q_ret (q_lst (qa_cons (qv 0) qa_nil)))) qs_nil)
      (qs_cons (q_set (i := 1) sc.nd rfl (Or.inl rfl) (q_lst qa_nil))
      (qs_cons (q_for PassesOwn.never rfl (qi_seq rfl (q_slT rfl (qv 0) qo_int qo_none)) (qg_name (i := 2) sc.nd rfl (Or.inl rfl)) (qs_one (q_expr (q_ext rfl (pe_bm PySem.F.plainAttrs_list PySem.F.slot_list_extend PySem.F.type_list_extend mt_extend (qv 1) (pa_cons (q_df ih (hr.mono (by omega)) hf rfl (qa_cons (qv 2) qa_nil)) pa_nil))))))
      (qs_one (q_ret (qv 1)))))))

abbrev s_simples : Stmt := topS 7
abbrev N_simples : List Str := [("saying" : Str)]
theorem sc_simples : FnScope N_simples ["saying"] (defScope s_simples) := ⟨rfl, rfl, rfl, by decide +kernel, rfl, by decide +kernel, by decide +kernel⟩
theorem ok_simples (hw : C.w = w) (T : Bn mg) (S : Stands C.K mg "simples" s_simples ["saying"]) (d_all_simples : Df P w C.K mg base 13 "all_simples" ["saying"] (spV C 1 (Pg.F_all_simples 9))) : Df P w C.K mg base 14 "simples" ["saying"] (spV C 1 (Pg.F_simples)) := by
  have sc := sc_simples
  subst hw
  exact Dv.nf (Dv.of (k := 13) (g := Pg.g_simples) S sc_simples rfl fun f cdv A outer s H E hr hf =>
      (qs_one (q_ret (q_callTy call_tuple_of vc_tuple rfl T.n_tuple PyProof.Rows.boot_tuple (qa_cons (q_sortSet rfl rfl rfl hr.units (pe_callB (cr_sortK rfl hr.units) rfl T.n_sorted PyProof.Rows.boot_sorted (pa_cons (pe_callTy (cr_setK rfl hr.units) rfl T.n_set PyProof.Rows.boot_set (pa_cons (q_df d_all_simples (hr.mono (by decide)) hf rfl (qa_cons (qv 0) qa_nil)) pa_nil)) pa_nil))) qa_nil)))))

abbrev s__law_exchanged : Stmt := topS 18
abbrev N__law_exchanged : List Str := [("_law_saying_here" : Str), ("_law_parts" : Str), ("_law_part" : Str)]
theorem sc__law_exchanged : FnScope N__law_exchanged ["_law_saying_here"] (defScope s__law_exchanged) := ⟨rfl, rfl, rfl, by decide +kernel, rfl, by decide +kernel, by decide +kernel⟩
theorem ok__law_exchanged (hw : C.w = w) (T : Bn mg) (S : Stands C.K mg "_law_exchanged" s__law_exchanged ["_law_saying_here"]) : ∀ k, Df P w C.K mg base (1 + k) "_law_exchanged" ["_law_saying_here"] (spV C 1 (F__law_exchanged k))
  | 0 => Dv.never S
  | k + 1 => by
    have ih := ok__law_exchanged hw T S k
    have sc := sc__law_exchanged
    subst hw
    exact Dv.nf (Dv.of (k := 1 + k) (g := g__law_exchanged (F__law_exchanged k)) S sc__law_exchanged rfl fun f cdv A outer s H E hr hf =>
      (qs_cons (q_if (qt_cmp op_in_seq vo_inT (q_ix rfl (qv 0) q_int (fun _ _ => rfl)) (q_tup (qa_cons q_str (qa_cons q_str qa_nil))) rfl) (qs_one (q_ret (qv 0))) qs_nil)
      (qs_cons (q_set (i := 1) sc.nd rfl (Or.inl rfl) (q_callTy call_tuple_of vc_tuple rfl T.n_tuple PyProof.Rows.boot_tuple (qa_cons (q_lc (own := [("_law_part", 2)]) rfl sc.nd (qi_seq rfl (q_slT rfl (qv 0) qo_int qo_none)) (blkOk_by (own := [("_law_part", 2)]) (N := N__law_exchanged) (sc := defScope s__law_exchanged) (by decide +kernel)) (by decide) (fun _ _ _ _ _ => (qg_name (i := 2) sc.nd rfl (Or.inl rfl))) (fun _ _ _ _ _ => qts_nil) (fun _ _ _ _ _ => (q_df ih (hr.mono (by omega)) hf rfl (qa_cons (qv 2) qa_nil)))) qa_nil)))
      (qs_one (q_ret (q_op op_addG vo_addG (q_slT rfl (qv 0) qo_none qo_int) (q_rev rfl (qv 1))))))))

abbrev s_law : Stmt := topS 20
abbrev N_law : List Str := [("_law_script" : Str), ("_law_k" : Str), ("_law_hand_here" : Str), ("_law_sorts" : Str), ("_law_pool" : Str), ("_law_turn" : Str), ("_law_near_here" : Str), ("_law_saying_here" : Str), ("_law_due" : Str), ("_law_every" : Str), ("_law_one" : Str)]
theorem sc_law : FnScope N_law ["_law_script"] (defScope s_law) := ⟨rfl, rfl, rfl, by decide +kernel, rfl, by decide +kernel, by decide +kernel⟩
theorem ok_law (hw : C.w = w) (T : Bn mg) {f0 : Addr} {fd0 : FuncData} (S : Fun C.K "law" "law" s_law f0 fd0) (d__law_hand : Df P w C.K mg base 1 "_law_hand" ["_law_script", "_law_k"] (spV C 2 (Lx.F__law_hand C.ns))) (d__law_take : Df P w C.K mg base 1 "_law_take" ["_law_hand_here", "_law_many"] (spV C 2 (Lx.F__law_take))) (d__law_of : Df P w C.K mg base 2 "_law_of" ["_law_hand_here", "_law_some"] (spV C 2 (Lx.F__law_of))) (d__law_near : Df P w C.K mg base 2 "_law_near" ["_law_hand_here", "_law_simple_here"] (spV C 2 (F__law_near))) (d__law_simple : Df P w C.K mg base 3 "_law_simple" ["_law_hand_here", "_law_sorts"] (spV C 2 (Lx.F__law_simple))) (d__law_saying : Df P w C.K mg base 10 "_law_saying" ["_law_hand_here", "_law_pool", "_law_deep", "_law_pot"] (spV C 4 (Lx.F__law_saying 8))) (d__law_simple_ones : Df P w C.K mg base 10 "_law_simple_ones" ["_law_saying_here"] (spV C 1 (F__law_simple_ones 9))) (d__law_in_order : Df P w C.K mg base 2 "_law_in_order" ["_law_some"] (spV C 1 (F__law_in_order))) (d__law_exchanged : Df P w C.K mg base 10 "_law_exchanged" ["_law_saying_here"] (spV C 1 (F__law_exchanged 9))) (d_simples : Df P w C.K mg base 14 "simples" ["saying"] (spV C 1 (Pg.F_simples))) (d__law_in_a_row : Df P w C.K mg base 1 "_law_in_a_row" ["_law_some"] (spV C 1 (F__law_in_a_row))) (d_sorts_of : Df P w C.K mg base 4 "sorts_of" ["saying"] (spV C 1 (F_sorts_of))) : FnG P w C.K mg base 15 f0 fd0 ["_law_script"] (spV C 1 (F_law C.ns)) := by
  have sc := sc_law
  subst hw
  exact Dv.fn (k := 14) (g := g_law C.ns) S sc_law rfl fun f cdv A outer s H E hr hf =>
      (qs_cons (q_for PassesOwn.never rfl (qi_range1 rfl T.n_range (qa_cons (q_op op_addG vo_addG q_int (q_callB (call_min2 rfl) vc_min2 rfl T.n_min (by decide +kernel) (qa_cons q_int (qa_cons (q_callB call_len_seq vc_lenS rfl T.n_len PySem.boot_len (qa_cons (qv 0) qa_nil)) qa_nil)))) qa_nil)) (qg_name (i := 1) sc.nd rfl (Or.inl rfl)) (qs_cons (q_set (i := 2) sc.nd rfl (Or.inl rfl) (q_df d__law_hand (hr.mono (by decide)) hf rfl (qa_cons (qv 0) (qa_cons (qv 1) qa_nil))))
      (qs_cons (q_par (i := 3) (j := 4) rfl sc.nd rfl rfl (by decide) rfl rfl (qa_cons (q_op op_addG vo_addG q_int (q_df d__law_take (hr.mono (by decide)) hf rfl (qa_cons (qv 2) (qa_cons q_int qa_nil)))) (qa_cons (q_lst qa_nil) qa_nil)) rfl)
      (qs_cons (q_for PassesOwn.never rfl (qi_range1 rfl T.n_range (qa_cons (q_op op_addG vo_addG q_int (q_df d__law_take (hr.mono (by decide)) hf rfl (qa_cons (qv 2) (qa_cons q_int qa_nil)))) qa_nil)) (qg_name (i := 5) sc.nd rfl (Or.inl rfl)) (qs_cons (q_set (i := 6) sc.nd rfl (Or.inl rfl) (q_and (q_cmp (op_eq.or (op_eqD hr.units)) vo_eq (q_df d__law_take (hr.mono (by decide)) hf rfl (qa_cons (qv 2) (qa_cons q_int qa_nil))) q_int (nomark _)) (q_one (q_cmp (op_neD hr.units) vo_neL (qv 4) (q_lst qa_nil) (nomark _)))))
      (qs_one (q_expr (q_app rfl (pe_bm PySem.F.plainAttrs_list PySem.F.slot_list_append PySem.F.type_list_append mt_append (qv 4) (pa_cons (q_ifE (qt_val (qv 6)) (q_df d__law_near (hr.mono (by decide)) hf rfl (qa_cons (qv 2) (qa_cons (q_df d__law_of (hr.mono (by decide)) hf rfl (qa_cons (qv 2) (qa_cons (qv 4) qa_nil))) qa_nil))) (q_df d__law_simple (hr.mono (by decide)) hf rfl (qa_cons (qv 2) (qa_cons (qv 3) qa_nil)))) pa_nil)))))))
      (qs_cons (q_set (i := 7) sc.nd rfl (Or.inl rfl) (q_df d__law_saying (hr.mono (by decide)) hf rfl (qa_cons (qv 2) (qa_cons (qv 4) (qa_cons q_int (qa_cons (q_pot (pps_cons q_str q_int pps_nil) rfl rfl (by simp) (by decide)) qa_nil))))))
      (qs_cons (q_set (i := 8) sc.nd rfl (Or.inl rfl) (q_callB (call_rep hf hr.units) vc_rep rfl T.n_repr (by decide +kernel) (qa_cons (q_df d__law_in_order (hr.mono (by decide)) hf rfl (qa_cons (q_df d__law_simple_ones (hr.mono (by decide)) hf rfl (qa_cons (qv 7) qa_nil)) qa_nil)) qa_nil)))
      (qs_cons (q_if (PW.pt (qw_or (qt_cmp (op_ne.or (op_neD hr.units)) vo_ne (q_callB (call_rep hf hr.units) vc_rep rfl T.n_repr (by decide +kernel) (qa_cons (q_df d_simples (hr.mono (by decide)) hf rfl (qa_cons (qv 7) qa_nil)) qa_nil)) (qv 8) (nomark _)) (qw_or1 (qt_cmp (op_ne.or (op_neD hr.units)) vo_ne (q_callB (call_rep hf hr.units) vc_rep rfl T.n_repr (by decide +kernel) (qa_cons (q_df d_simples (hr.mono (by decide)) hf rfl (qa_cons (q_df d__law_exchanged (hr.mono (by decide)) hf rfl (qa_cons (qv 7) qa_nil)) qa_nil)) qa_nil)) (qv 8) (nomark _))))) (qs_one (q_ret q_bl)) qs_nil)
      (qs_cons (q_set (i := 9) sc.nd rfl (Or.inl rfl) (q_callB (call_rep hf hr.units) vc_rep rfl T.n_repr (by decide +kernel) (qa_cons (q_df d__law_in_order (hr.mono (by decide)) hf rfl (qa_cons (qv 4) qa_nil)) qa_nil)))
      (qs_cons (q_for PassesOwn.never rfl (qi_seq rfl (q_tup (qa_cons (q_df d__law_in_a_row (hr.mono (by decide)) hf rfl (qa_cons (qv 4) qa_nil)) (qa_cons (q_df d__law_in_a_row (hr.mono (by decide)) hf rfl (qa_cons (q_revL rfl (qv 4)) qa_nil)) (qa_cons (q_tup (qa_cons q_str (qa_cons (q_df d__law_in_a_row (hr.mono (by decide)) hf rfl (qa_cons (q_op op_addG vo_addG (qv 4) (qv 4)) qa_nil)) qa_nil))) qa_nil))))) (qg_name (i := 10) sc.nd rfl (Or.inl rfl)) (qs_one (q_if (PW.pt (qw_or (qt_cmp (op_ne.or (op_neD hr.units)) vo_ne (q_callB (call_rep hf hr.units) vc_rep rfl T.n_repr (by decide +kernel) (qa_cons (q_df d_simples (hr.mono (by decide)) hf rfl (qa_cons (qv 10) qa_nil)) qa_nil)) (qv 9) (nomark _)) (qw_or1 (qt_cmp (op_ne.or (op_neD hr.units)) vo_ne (q_df d_sorts_of (hr.mono (by decide)) hf rfl (qa_cons (qv 10) qa_nil)) (qv 3) (nomark _))))) (qs_one (q_ret q_bl)) qs_nil)))
      (qs_cons (q_for PassesOwn.never rfl (qi_seq rfl (qv 4)) (qg_name (i := 10) sc.nd rfl (Or.inl rfl)) (qs_one (q_if (PW.pt (qw_or (qt_cmp (op_ne.or (op_neD hr.units)) vo_ne (q_callB (call_rep hf hr.units) vc_rep rfl T.n_repr (by decide +kernel) (qa_cons (q_lst (qa_cons (q_df d_simples (hr.mono (by decide)) hf rfl (qa_cons (qv 10) qa_nil)) (qa_cons (q_df d_simples (hr.mono (by decide)) hf rfl (qa_cons (q_tup (qa_cons q_str (qa_cons (qv 10) qa_nil))) qa_nil)) qa_nil))) qa_nil)) (q_callB (call_rep hf hr.units) vc_rep rfl T.n_repr (by decide +kernel) (qa_cons (q_lst (qa_cons (q_tup (qa_cons (qv 10) qa_nil)) (qa_cons (q_tup (qa_cons (qv 10) qa_nil)) qa_nil))) qa_nil)) (nomark _)) (qw_or1 (qt_cmp (op_ne.or (op_neD hr.units)) vo_ne (q_df d_sorts_of (hr.mono (by decide)) hf rfl (qa_cons (qv 10) qa_nil)) (qv 3) (nomark _))))) (qs_one (q_ret q_bl)) qs_nil)))
      (qs_one (q_if (qt_cmp (op_ne.or (op_neD hr.units)) vo_ne (q_callB (call_rep hf hr.units) vc_rep rfl T.n_repr (by decide +kernel) (qa_cons (q_df d_sorts_of (hr.mono (by decide)) hf rfl (qa_cons (qv 7) qa_nil)) qa_nil)) (q_callB (call_rep hf hr.units) vc_rep rfl T.n_repr (by decide +kernel) (qa_cons (qv 3) qa_nil)) (nomark _)) (qs_one (q_ret q_bl)) qs_nil))))))))))))
      (qs_one (q_ret q_bl)))

end
end K02

set_option Elab.async false
set_option linter.all false
set_option maxRecDepth 100000
set_option maxHeartbeats 4000000
namespace K02
open PySem PySem.Spec PyProof.Rows L2 Sa Va
/-- what the top has written of a def -/
structure Wr (K : PySem.W.Frag) (x : Str) (st : Stmt) (f : Addr) (fd : FuncData) : Prop where
  ns : PySem.W.nsIn K mainGlobals x = some (some (.ref f))
  fn : Fun K x x st f fd
section
variable {l : PySem.W.OpenLaw} {w : World} {K : PySem.W.Frag} {h : Heap} {mg : Str → Option Value}
theorem Wr.stands {x : Str} {st : Stmt} {f : Addr} {fd : FuncData} {ps : List Str} (W : Wr K x st f fd) (X : K.In h) (G : h.Ns mainGlobals mg)
    (hb : ∀ (kV doc pm : Value) (an : Option Addr) (cdv ct : Value) (us : List Value), us.length = ps.length → bindArgs (PySem.W.fnOf x x (defArgs st) (defBody st) (defScope st) .none kV doc pm an cdv ct) ⟨us, []⟩ = pure (ps.zip us)) :
    Stands K mg x st ps := ⟨f, fd, W.fn, PySem.W.mg_of X G W.ns, W.fn.binds hb⟩
/-- a def's code table, empty as the law begins -/
theorem tab_of {q : Program} {x : Str} {st : Stmt} {f c Tp : Addr} {fd : FuncData} {eC : Value} {dC : Option Addr} {vC : Array Value} {sC : Array (Option Value)} (X : K.In h) (G : h.Ns mainGlobals mg) (tabs : TabsOf q mg h) (W : Wr K x st f fd) (hc : fd.code = .ref c)
    (lC : K.lookup c = some ⟨eC, dC, .fields vC, sC⟩) (v11 : vC[11]? = some (.ref Tp)) (hrec : ((recsOf q).any fun e => e.name == x) = true) : h.get? Tp = some noTab ∧ PySem.W.CodeHd h c Tp := by
  obtain ⟨dL, hm, hn1⟩ := List.any_eq_true.mp hrec
  have hn2 : dL.name = x := beq_iff_eq.mp hn1
  obtain ⟨a', o', fd', c', P', h1, h2, h3, h4, h5, h6⟩ := tabs dL hm
  rw [hn2, PySem.W.mg_of X G W.ns] at h1
  cases h1
  obtain ⟨oc, od, kV, doc, pm, an, cdv, ct, osl, rfl, lk, hcd⟩ := W.fn.ex
  rw [X _ _ lk] at h2
  cases h2
  cases h3
  rw [hc] at h4
  cases h4
  have h7 := PySem.W.CodeHd.of h5 h6
  obtain ⟨⟨o1, v1, e1, _, e3, e4⟩, hP⟩ := h6
  rw [X _ _ lC] at e1
  cases e1
  cases e3
  rw [v11] at e4
  cases e4
  exact ⟨hP, h7⟩
theorem all_mk {q : Program} {fa f9 f10 f13 f15 f16 f19 f17 f1 f2 f4 f6 f14 f11 f12 f5 f7 f18 f20  : Addr} {fd9 fd10 fd13 fd15 fd16 fd19 fd17 fd1 fd2 fd4 fd6 fd14 fd11 fd12 fd5 fd7 fd18 fd20 : FuncData}
    (X : K.In h) (G : h.Ns mainGlobals mg) (hfa : mg "law" = some (.ref fa)) (tabs : TabsOf q mg h) (T : Bn mg)
    (w9 : Wr K "_law_hand" s__law_hand f9 fd9)
    (w10 : Wr K "_law_take" s__law_take f10 fd10)
    (w13 : Wr K "_law_saying" s__law_saying f13 fd13)
    (w15 : Wr K "_law_ahead" s__law_ahead f15 fd15)
    (w16 : Wr K "_law_in_order" s__law_in_order f16 fd16)
    (w19 : Wr K "_law_in_a_row" s__law_in_a_row f19 fd19)
    (w17 : Wr K "_law_simple_ones" s__law_simple_ones f17 fd17)
    (w1 : Wr K "is_tuple_of" s_is_tuple_of f1 fd1)
    (w2 : Wr K "is_headed" s_is_headed f2 fd2)
    (w4 : Wr K "is_joined" s_is_joined f4 fd4)
    (w6 : Wr K "sorts_of" s_sorts_of f6 fd6)
    (w14 : Wr K "_law_near" s__law_near f14 fd14)
    (w11 : Wr K "_law_of" s__law_of f11 fd11)
    (w12 : Wr K "_law_simple" s__law_simple f12 fd12)
    (w5 : Wr K "all_simples" s_all_simples f5 fd5)
    (w7 : Wr K "simples" s_simples f7 fd7)
    (w18 : Wr K "_law_exchanged" s__law_exchanged f18 fd18)
    (w20 : Wr K "law" s_law f20 fd20)
    : LawSa l w K 15 63 "_law_script" mg fa h := by
  have e := hfa.symm.trans (PySem.W.mg_of X G w20.ns)
  cases e
  refine ⟨fd20, [], spLaw K w [] F_law, fun p hp => ?_, fun p hp => ?_, fun p hp => ?_, fun s u => ?_, fun H a ns hl hb hH hS => ?_, fun base KB GB TB => ?_⟩
  · simp at hp
  · simp at hp
  · simp at hp
  · obtain ⟨oc, od, kV, doc, pm, an, cdv, ct, osl, rfl, lk, hcd⟩ := w20.fn.ex
    exact .of_eq rfl
  · obtain ⟨M2, e⟩ := law_true ns
    refine law_start (fun P hP => ?_) hS e
    simp at hP
  · refine law_fn fun a ns => ?_
    generalize hC : (⟨K, w, [], a, ns⟩ : Ck) = C
    have hK : C.K = K := by rw [← hC]
    have hw : C.w = w := by rw [← hC]
    have hTs : C.T = [] := by rw [← hC]
    have hns : C.ns = ns := by rw [← hC]
    subst hK hns
    have d9 := ok__law_hand (P := l.prog) (base := base) hw T (w9.stands X G fun _ _ _ _ _ _ us hl => match us, hl with | [_, _], _ => rfl)
    have d10 := ok__law_take (P := l.prog) (base := base) hw T (w10.stands X G fun _ _ _ _ _ _ us hl => match us, hl with | [_, _], _ => rfl)
    have d13 := ok__law_saying (P := l.prog) (base := base) hw T (w13.stands X G fun _ _ _ _ _ _ us hl => match us, hl with | [_, _, _, _], _ => rfl) d10 8
    have d15 := ok__law_ahead (P := l.prog) (base := base) hw T (w15.stands X G fun _ _ _ _ _ _ us hl => match us, hl with | [_, _], _ => rfl)
    have d16 := ok__law_in_order (P := l.prog) (base := base) hw T (w16.stands X G fun _ _ _ _ _ _ us hl => match us, hl with | [_], _ => rfl) d15
    have d19 := ok__law_in_a_row (P := l.prog) (base := base) hw T (w19.stands X G fun _ _ _ _ _ _ us hl => match us, hl with | [_], _ => rfl)
    have d17 := ok__law_simple_ones (P := l.prog) (base := base) hw T (w17.stands X G fun _ _ _ _ _ _ us hl => match us, hl with | [_], _ => rfl) 9
    have d1 := ok_is_tuple_of (P := l.prog) (base := base) hw T (w1.stands X G fun _ _ _ _ _ _ us hl => match us, hl with | [_, _], _ => rfl)
    have d2 := ok_is_headed (P := l.prog) (base := base) hw T (w2.stands X G fun _ _ _ _ _ _ us hl => match us, hl with | [_, _, _], _ => rfl) d1
    have d4 := ok_is_joined (P := l.prog) (base := base) hw T (w4.stands X G fun _ _ _ _ _ _ us hl => match us, hl with | [_], _ => rfl) d2
    have d6 := ok_sorts_of (P := l.prog) (base := base) hw T (w6.stands X G fun _ _ _ _ _ _ us hl => match us, hl with | [_], _ => rfl) d4
    have d14 := ok__law_near (P := l.prog) (base := base) hw T (w14.stands X G fun _ _ _ _ _ _ us hl => match us, hl with | [_, _], _ => rfl) d10
    have d11 := ok__law_of (P := l.prog) (base := base) hw T (w11.stands X G fun _ _ _ _ _ _ us hl => match us, hl with | [_, _], _ => rfl) d10
    have d12 := ok__law_simple (P := l.prog) (base := base) hw T (w12.stands X G fun _ _ _ _ _ _ us hl => match us, hl with | [_, _], _ => rfl) d10 d11
    have d5 := ok_all_simples (P := l.prog) (base := base) hw T (w5.stands X G fun _ _ _ _ _ _ us hl => match us, hl with | [_], _ => rfl) d4 9
    have d7 := ok_simples (P := l.prog) (base := base) hw T (w7.stands X G fun _ _ _ _ _ _ us hl => match us, hl with | [_], _ => rfl) d5
    have d18 := ok__law_exchanged (P := l.prog) (base := base) hw T (w18.stands X G fun _ _ _ _ _ _ us hl => match us, hl with | [_], _ => rfl) 9
    exact ok_law hw T w20.fn d9 d10 d11 d14 d12 d13 d17 d16 d18 d7 d19 d6
end
end K02

open PySem PySem.W PyProof.Rows
set_option Elab.async false
set_option maxRecDepth 100000 in
set_option maxHeartbeats 0 in
theorem PySem.Challenge.cw_strangersay_k02_simples_in_order_holds : PySem.Challenge.rw_strangersay_k02_simples_in_order.Holds := by
  w_on; o_law; k_head; (case hw => w_witness2)
  k_fill
  refine Sa.walk_sa (l := PySem.Challenge.rw_strangersay_k02_simples_in_order) (n := 63) (k := 15) (x := "_law_script") rfl (by decide) rfl ⟨rfl, by decide, by decide⟩ (fun w h Y => PySem.W.kIn_of Y) ?F
  case F =>
    intro w mg fa h Y KX G hmg tb
    refine' K02.all_mk KX G hmg tb ⟨PySem.W.mg_none_of KX G ?z1, PySem.W.mg_none_of KX G ?z2, PySem.W.mg_none_of KX G ?z3, PySem.W.mg_none_of KX G ?z4, PySem.W.mg_none_of KX G ?z5, PySem.W.mg_none_of KX G ?z6, PySem.W.mg_none_of KX G ?z7, PySem.W.mg_none_of KX G ?z8, PySem.W.mg_none_of KX G ?z9, PySem.W.mg_none_of KX G ?z10, PySem.W.mg_none_of KX G ?z11, PySem.W.mg_none_of KX G ?z12, PySem.W.mg_none_of KX G ?z13⟩ ⟨?a9, L2.fun_mk ?l9 ?c9 ?k9⟩ ⟨?a10, L2.fun_mk ?l10 ?c10 ?k10⟩ ⟨?a13, L2.fun_mk ?l13 ?c13 ?k13⟩ ⟨?a15, L2.fun_mk ?l15 ?c15 ?k15⟩ ⟨?a16, L2.fun_mk ?l16 ?c16 ?k16⟩ ⟨?a19, L2.fun_mk ?l19 ?c19 ?k19⟩ ⟨?a17, L2.fun_mk ?l17 ?c17 ?k17⟩ ⟨?a1, L2.fun_mk ?l1 ?c1 ?k1⟩ ⟨?a2, L2.fun_mk ?l2 ?c2 ?k2⟩ ⟨?a4, L2.fun_mk ?l4 ?c4 ?k4⟩ ⟨?a6, L2.fun_mk ?l6 ?c6 ?k6⟩ ⟨?a14, L2.fun_mk ?l14 ?c14 ?k14⟩ ⟨?a11, L2.fun_mk ?l11 ?c11 ?k11⟩ ⟨?a12, L2.fun_mk ?l12 ?c12 ?k12⟩ ⟨?a5, L2.fun_mk ?l5 ?c5 ?k5⟩ ⟨?a7, L2.fun_mk ?l7 ?c7 ?k7⟩ ⟨?a18, L2.fun_mk ?l18 ?c18 ?k18⟩ ⟨?a20, L2.fun_mk ?l20 ?c20 ?k20⟩
    (case a9 => k_is); (case l9 => k_is); (case c9 => k_is); (case k9 => k_is)
    (case a10 => k_is); (case l10 => k_is); (case c10 => k_is); (case k10 => k_is)
    (case a13 => k_is); (case l13 => k_is); (case c13 => k_is); (case k13 => k_is)
    (case a15 => k_is); (case l15 => k_is); (case c15 => k_is); (case k15 => k_is)
    (case a16 => k_is); (case l16 => k_is); (case c16 => k_is); (case k16 => k_is)
    (case a19 => k_is); (case l19 => k_is); (case c19 => k_is); (case k19 => k_is)
    (case a17 => k_is); (case l17 => k_is); (case c17 => k_is); (case k17 => k_is)
    (case a1 => k_is); (case l1 => k_is); (case c1 => k_is); (case k1 => k_is)
    (case a2 => k_is); (case l2 => k_is); (case c2 => k_is); (case k2 => k_is)
    (case a4 => k_is); (case l4 => k_is); (case c4 => k_is); (case k4 => k_is)
    (case a6 => k_is); (case l6 => k_is); (case c6 => k_is); (case k6 => k_is)
    (case a14 => k_is); (case l14 => k_is); (case c14 => k_is); (case k14 => k_is)
    (case a11 => k_is); (case l11 => k_is); (case c11 => k_is); (case k11 => k_is)
    (case a12 => k_is); (case l12 => k_is); (case c12 => k_is); (case k12 => k_is)
    (case a5 => k_is); (case l5 => k_is); (case c5 => k_is); (case k5 => k_is)
    (case a7 => k_is); (case l7 => k_is); (case c7 => k_is); (case k7 => k_is)
    (case a18 => k_is); (case l18 => k_is); (case c18 => k_is); (case k18 => k_is)
    (case a20 => k_is); (case l20 => k_is); (case c20 => k_is); (case k20 => k_is)
    (case z1 => k_is); (case z2 => k_is); (case z3 => k_is); (case z4 => k_is); (case z5 => k_is); (case z6 => k_is); (case z7 => k_is); (case z8 => k_is); (case z9 => k_is); (case z10 => k_is); (case z11 => k_is); (case z12 => k_is); (case z13 => k_is)
