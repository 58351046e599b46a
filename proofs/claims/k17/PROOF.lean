import PyProof.Rows.All
import Wide.All
import OpenK.AllK
import Wide.FinOn
import HandS.Base
import HandS.Call
import HandS.List
import HandS.Ends
import HandS.Words
import PyProof.ReprRoads
import HandS.Iter
import KE.GoesEnum
import KE.GoesNew
import HandS.Comp
import HandS.AnyAll
import HandS.Lambda
import PyProof.TupleOfGen
import PyProof.Rows.MinMaxGenD
import HandS.Style
import KE.KRevSl
import HandS.TupSets
import KE.KeyNested
import KE.KDictKeyed
import KE.SortData
import PyProof.Transfer
import HandS.EndTab
import HandS.Walk
import HandS.ForMost
import HandS.IsInst
import PyProof.Rows.RegFStrParts
import HandS.TryOnly
import PySem.Challenge.RW_strangersay_k17_two_members_of_sums

set_option Elab.async false
set_option linter.all false
set_option maxRecDepth 100000
/-! Sa.G: defs that are promised where no repr is running (guards known to be none), and repr of data -/
namespace Sa
open PySem PySem.Spec PyProof.Rows L2

/-- nothing is being shown around -/
abbrev Free (A : Around) : Prop := A.guards = some []

/-- as FnOk, asked only where nothing is being shown around -/
structure FnG (P : Program) (w : World) (K : PySem.W.Frag) (mg : Str → Option Value) (base : Heap) (k : Nat) (f : Addr) (fd : FuncData) (ps : List Str) (sp : Sp) : Prop where
  many : ∀ vs H Q E, sp vs H Q E → vs.length = ps.length
  runs : ∀ (A : Around) (outer : List Env) (s : Shared) (H : Hp) (args : Args) (us : List Value) (vs : List V) (Q : VK) (E : XK), Room k A → Free A →
    Env0 P w K mg base A outer s H → BindsTo s fd args (ps.zip us) → Vals vs us → sp vs H Q E →
    codeAny (model P w) A (.call (.ref f) args) (CR CX0 outer P w H s Q E) s

theorem FnG.of {P : Program} {w : World} {K : PySem.W.Frag} {mg : Str → Option Value} {base : Heap} {k : Nat} {f : Addr} {fd : FuncData} {ps : List Str} {sp : Sp}
    (F : FnOk P w K mg base CX0 k f fd ps sp) : FnG P w K mg base k f fd ps sp :=
  ⟨F.len, fun A outer s H args us vs Q E hr _ => F.run A outer s H args us vs Q E hr⟩

section
variable {P : Program} {w : World} {K : PySem.W.Frag} {mg : Str → Option Value} {base : Heap}
/-- a def's body as a term of rules: the context's Around is free, too -/
theorem okG {x qual : Str} {st : Stmt} {f : Addr} {fd : FuncData} {N ps : List Str} {k : Nat} {sp : Sp} (F : Fun K x qual st f fd) (S : FnScope N ps (defScope st))
    (many : ∀ vs H Q E, sp vs H Q E → vs.length = ps.length)
    (walk : ∀ (cdv : Value) (A : Around) (outer : List Env) (s : Shared) (H : Hp) (vs : List V) (Q : VK) (E : XK), fd.code = cdv → Room k (A.deeper (envOfC qual (defScope st) s.heap.objs.size f cdv)) → Free A →
      sp vs H Q E → ∃ t, PSs (cxOf CX0 P w K mg base N qual (defScope st) f cdv A outer s H E).nox (defBody st) t ∧ t ⟨fun _ H' => Q .non H', Q, fun _ _ => False, fun _ _ => False⟩ (start N vs) H) :
    FnG P w K mg base (k + 1) f fd ps sp := by
  obtain ⟨oc, od, kV, doc, pm, an, cdv, ct, osl, rfl, lk, hcd⟩ := F.ex
  refine ⟨many, fun A outer s H args us vs Q E hr hfree e0 hb rel hsp => ?_⟩
  have keepB : ∀ b o, base.get? b = some o → s.heap.get? b = some o := fun b o e => (e0.bs b o e).1
  have inH : K.In s.heap := e0.mod.kin.keeps keepB
  have noLim : s.heap.NoLimit := e0.mod.nolimit.keeps keepB
  refine codeAny_call_function hr.depth (inH _ _ lk) rfl S.co S.gen rfl (PySem.W.codeRec_of inH hcd) (hb _ _ _ _ ?_)
  refine wpAny_newFunctionEnv_cells S.kind (fun y hy => ?_) fun env he s1 call => ?_
  · obtain ⟨n, v⟩ := y
    rcases S.par n (List.of_mem_zip hy).1 with isLocal | isCell
    · exact .inl isLocal
    · exact .inr ⟨isCell, PySem.W.cellsFrom_some _ _ _ (.inl isCell)⟩
  subst he
  refine ⟨noLim.keeps call.toInCall.keep, codeAny_func ?_⟩
  obtain ⟨t, body, reading⟩ := walk cdv A outer s H vs Q E rfl (hr.deeper _) hfree hsp
  have J0 : Inv (cxOf CX0 P w K mg base N qual (defScope st) f cdv A outer s H E) [] (start N vs) H s1 := inv_start S hr.hd e0 (many _ _ _ _ hsp) rel call
  refine wpAny_mono (body.nox.run [] s1 (start N vs) H _ J0 reading) (fun flow s' out => ?_) fun _ _ bad => bad
  cases flow with
  | ret u =>
    obtain ⟨v, _, H', J, rv, q⟩ := out
    exact ⟨v, H', J.os, J.bare, J.base, J.hok, rv, q⟩
  | next =>
    obtain ⟨_, H', J, q⟩ := out
    exact ⟨V.non, H', J.os, J.bare, J.base, J.hok, (rfl : Value.none = Value.none), q⟩
  | brk =>
    obtain ⟨_, _, _, q⟩ := out
    exact q.elim
  | cont =>
    obtain ⟨_, _, _, q⟩ := out
    exact q.elim
end

section
variable {X : Cx} {k : Nat} {f : Addr} {fd : FuncData} {ps : List Str} {sp : Sp} {x : Str} {p pos : Pos} {e : Expr} {es : List Expr} {t : TA}
/-- a call of such a def -/
theorem pe_callG (F : FnG X.prog X.w X.K X.mg X.base k f fd ps sp) (hr : Room k X.A) (hf : Free X.A) (hg : Gl X x) (hm : X.mg x = some (.ref f)) (kp : PySem.W.keepIn X.K (.ref f) = true)
    (hb : Binds X.K fd ps []) (args : PA X (e :: es) t) (nd : (x == ("__debug__" : Str)) = false := by decide)
    (he : starEach (e :: es) X.env = (false, eval e X.env) :: starEach es X.env := by rfl) (np : (backTo pos (starEach es X.env)).any (·.1) = false := by rfl) :
    PE X (.Call (.Name x p) (e :: es) [] pos) (tCall sp [] E0 t) := by
  refine ⟨fun pins s σ H Q I h => wpAny_Call_Name_kw (ld_glob I hg hm ?_ nd)⟩
  refine PySem.W.callWith_K (h₀ := X.base) I.ok.mod.kin kp (thn (args.run pos pins s σ H _ I h) fun us s1 ⟨vs, H1, I1, rel, q⟩ => ⟨I1.kIn, ?_⟩) he np
  have rel2 : Vals (vs ++ []) (us ++ []) := rel.append .nil
  have many : (us ++ []).length = ps.length := rel2.length.symm.trans (F.many _ _ _ _ q)
  refine wpAny_call (codeAny_mono (F.runs X.A X.stack s1 H1 ⟨us, []⟩ (us ++ []) (vs ++ []) Q E0 hr hf I1.env0 (hb s1 us I1.kIn many) rel2 q) fun res s' out => ?_)
  cases res with
  | error _ => exact out.elim
  | ok flow =>
    cases flow with
    | ret _ => exact I1.after out
    | next => exact out.elim
    | brk => exact out.elim
    | cont => exact out.elim

/-- repr(x) of data: its text -/
def rShown (K : PySem.W.Frag) : List V → Hp → VK → Prop := fun xs H Q => ∃ (a : Addr) (d : PyData), xs = [.ref a] ∧ Dp K H (.ref a) d ∧ d.showable = true ∧ d.hasDict = false ∧ d.depth ≤ 60 ∧ d.shown.length ≤ sizeLine ∧ Q (.str d.shown) H
theorem call_shown (hf : Free X.A) (hu : X.A.units + 64 < cLine) : CallR X (.builtin "repr") (rShown X.K) := by
  intro pins s σ H xs us Q I rel h
  obtain ⟨a, d, rfl, hd, shows, plain, deep, small, q⟩ := h
  cases rel with
  | cons r1 rest =>
    cases rest
    cases r1
    obtain ⟨as, reads⟩ := Dp.reads I d _ _ hd (rfl : RelV (.ref a) (.ref a))
    exact repr_of_reads' reads shows (PyData.noDict_hsm plain) hf (by omega) (fun _ _ z => z) (fun h' u tk kept => ⟨.str d.shown, H, I.kept kept, ⟨_, rfl⟩, q⟩) small
end
end Sa

set_option Elab.async false
set_option linter.all false
set_option maxRecDepth 100000
/-! Sa.Def: a def of the text by its name: where it stands, and what it promises -/
namespace Sa
open PySem PySem.Spec PyProof.Rows L2
/-- the def x of the text, as the top has left it -/
structure Stands (K : PySem.W.Frag) (mg : Str → Option Value) (x : Str) (st : Stmt) (ps : List Str) : Prop where
  ex : ∃ f fd, Fun K x x st f fd ∧ mg x = some (.ref f) ∧ Binds K fd ps []
/-- the def x keeps the promise sp, by at most k calls within one another -/
structure Df (P : Program) (w : World) (K : PySem.W.Frag) (mg : Str → Option Value) (base : Heap) (k : Nat) (x : Str) (ps : List Str) (sp : Sp) : Prop where
  ex : ∃ f fd, FnG P w K mg base k f fd ps sp ∧ mg x = some (.ref f) ∧ PySem.W.keepIn K (.ref f) = true ∧ Binds K fd ps []
section
variable {P : Program} {w : World} {K : PySem.W.Frag} {mg : Str → Option Value} {base : Heap} {k : Nat} {x : Str} {st : Stmt} {N ps : List Str} {sp : Sp}
theorem Df.mk' (S : Stands K mg x st ps) (h : ∀ f fd, Fun K x x st f fd → FnG P w K mg base k f fd ps sp) : Df P w K mg base k x ps sp := by
  obtain ⟨f, fd, F, m, b⟩ := S.ex
  exact ⟨f, fd, h f fd F, m, F.kp, b⟩
theorem Df.weak {sp' : Sp} (D : Df P w K mg base k x ps sp) (h : ∀ vs H Q E, sp' vs H Q E → sp vs H Q E) : Df P w K mg base k x ps sp' := by
  obtain ⟨f, fd, G, m, kp, b⟩ := D.ex
  exact ⟨f, fd, ⟨fun vs H Q E q => G.many vs H Q E (h _ _ _ _ q), fun A outer s H args us vs Q E r1 r2 r3 r4 r5 r6 => G.runs A outer s H args us vs Q E r1 r2 r3 r4 r5 (h _ _ _ _ r6)⟩, m, kp, b⟩
/-- the body of a def -/
theorem Df.of (S : Stands K mg x st ps) (sc : FnScope N ps (defScope st)) (many : ∀ vs H Q E, sp vs H Q E → vs.length = ps.length)
    (walk : ∀ (f : Addr) (cdv : Value) (A : Around) (outer : List Env) (s : Shared) (H : Hp) (vs : List V) (Q : VK) (E : XK), Room k (A.deeper (envOfC x (defScope st) s.heap.objs.size f cdv)) → Free A →
      sp vs H Q E → ∃ t, PSs (cxOf CX0 P w K mg base N x (defScope st) f cdv A outer s H E).nox (defBody st) t ∧ t ⟨fun _ H' => Q .non H', Q, fun _ _ => False, fun _ _ => False⟩ (start N vs) H) :
    Df P w K mg base (k + 1) x ps sp :=
  Df.mk' S fun f fd F => okG F sc many fun cdv A outer s H vs Q E _ hr hf h => walk f cdv A outer s H vs Q E hr hf h
/-- the same, the def's code object known -/
theorem Df.ofC {f0 c : Addr} {fd0 : FuncData} (F : Fun K x x st f0 fd0) (m : mg x = some (.ref f0)) (b : Binds K fd0 ps []) (hc : fd0.code = .ref c) (sc : FnScope N ps (defScope st)) (many : ∀ vs H Q E, sp vs H Q E → vs.length = ps.length)
    (walk : ∀ (A : Around) (outer : List Env) (s : Shared) (H : Hp) (vs : List V) (Q : VK) (E : XK), Room k (A.deeper (envOfC x (defScope st) s.heap.objs.size f0 (.ref c))) → Free A →
      sp vs H Q E → ∃ t, PSs (cxOf CX0 P w K mg base N x (defScope st) f0 (.ref c) A outer s H E).nox (defBody st) t ∧ t ⟨fun _ H' => Q .non H', Q, fun _ _ => False, fun _ _ => False⟩ (start N vs) H) :
    Df P w K mg base (k + 1) x ps sp :=
  ⟨f0, fd0, okG F sc many fun cdv A outer s H vs Q E e hr hf h => by
    rw [hc] at e
    subst e
    exact walk A outer s H vs Q E hr hf h, m, F.kp, b⟩
end
section
variable {X : Cx} {k : Nat} {ps : List Str} {sp : Sp} {x : Str} {p pos : Pos} {e : Expr} {es : List Expr} {t : TA}
theorem pe_df (D : Df X.prog X.w X.K X.mg X.base k x ps sp) (hr : Room k X.A) (hf : Free X.A) (hg : Gl X x) (args : PA X (e :: es) t) (nd : (x == ("__debug__" : Str)) = false := by decide)
    (he : starEach (e :: es) X.env = (false, eval e X.env) :: starEach es X.env := by rfl) (np : (backTo pos (starEach es X.env)).any (·.1) = false := by rfl) :
    PE X (.Call (.Name x p) (e :: es) [] pos) (tCall sp [] E0 t) := by
  obtain ⟨f, fd, G, m, kp, b⟩ := D.ex
  exact pe_callG G hr hf hg m kp b args nd he np
end
end Sa

set_option Elab.async false
set_option linter.all false
set_option maxRecDepth 100000
/-! Sa.It: zip of two or three, enumerate, over lists and tuples in any mix -/
namespace Sa
open PySem PySem.Spec PyProof.Rows L2

/-- what a tuple-giving walk of the library is worth to a loop -/
structure Giver (X : Cx) (it : Addr) (fp : List Addr) (i : Nat) (h : Heap) (tn : Nat → Heap → Prop) (out : List V → Prop) : Prop where
  how : ∃ fp' wr n Pt St Mid, WalksT X.prog X.w X.A it fp' wr n Pt St Mid ∧ St i h ∧ i < n ∧ (∀ b ∈ wr, b ∈ fp) ∧ (∀ h', St (i + 1) h' → tn (i + 1) h') ∧
    ∀ vals : Array Value, Pt i vals → ∃ vs : List V, Vals vs vals.toList ∧ vs.length ≤ sizeLine ∧ out vs
structure Ender (X : Cx) (it : Addr) (fp : List Addr) (h : Heap) : Prop where
  how : ∃ fp' wr n Pt St Mid, WalksT X.prog X.w X.A it fp' wr n Pt St Mid ∧ St n h ∧ ∀ b ∈ wr, b ∈ fp

theorem turn_gives {P : Program} {w : World} {K : PySem.W.Frag} {elts : List Expr} {kk : Nat} {tpos : Pos} {J : It} {fp : List Addr} {it : Addr} {tn : Nat → Heap → Prop}
    (mem : it ∈ fp) (obj : ∀ i h, tn i h → ∀ b ∈ fp, ∃ o, h.get? b = some o ∧ ∀ v, o.data ≠ .cell v)
    (keep : ∀ i h h', tn i h → (∀ b ∈ fp, ∀ o, h.get? b = some o → h'.get? b = some o) → tn i h')
    (step : ∀ X : Cx, X.prog = P → X.w = w → X.K = K → X.calm = true → ∀ i pins s σ H, Inv X pins σ H s → tn i s.heap → J.go i H →
      Giver X it fp i s.heap tn fun vs => ∀ T, H T = none → J.yld i H (.ref T) (upd H T (.tup vs)))
    (last : ∀ X : Cx, X.prog = P → X.w = w → X.K = K → X.calm = true → ∀ i pins s σ H, Inv X pins σ H s → tn i s.heap → J.stop i H → Ender X it fp s.heap)
    (self : ∀ (A : Around) (i : Nat) (s : Shared) (Q : Value → Shared → Prop) (E : Value → Shared → Prop), tn i s.heap → Q (.ref it) s → wpAny (model P w) A (pyIter (.ref it)) Q E s) :
    Turn P w K (.Tuple elts kk tpos) J fp it tn where
  mem := mem
  obj := obj
  keep := keep
  self := self
  item := by
    intro X hP hw hK hc i pins s σ H E I hf st hg
    obtain ⟨fp', wr, n, Pt, St, Mid, W, hst, hlt, hsub, hnext, hout⟩ := (step X hP hw hK hc i pins s σ H I st hg).how
    subst hP hw hK
    refine W.item i s _ _ hlt hst fun T vals h' tk hP hT hTup hm hk => ⟨.ref T, rfl, ?_⟩
    refine W.go elts kk tpos i T { s with heap := h', toks := tk } _ _ hm fun h2 hst2 hk2 => ?_
    obtain ⟨vs, rel, small, hy⟩ := hout vals hP
    have hn : H T = none := I.hok.fresh hT
    have hTup2 : h2.IsTuple T vals := hTup.at fun o e => hk2 T o (W.apart i T h' hm) e
    have fpOld : ∀ b ∈ fp, b < s.heap.objs.size := fun b hb => by
      obtain ⟨o, e, _⟩ := obj i s.heap st b hb
      exact Heap.lt_size e
    have new : ObjOk X.prog X.w (upd H T (.tup vs)) h2 T (.tup vs) := ⟨small, vals.toList, rel, by rw [Array.toArray_toList]; exact hTup2⟩
    have J1 : Inv X pins σ (upd H T (.tup vs)) { s with heap := h2, toks := tk } :=
      I.turnedNew (t' := tk) (ch := fp) (fun b o hb e => hk2 b o (fun z => hb (hsub b z)) (hk b o (fun z => hb (hsub b z)) e)) hf hT new
    refine ⟨.ref T, _, J1, rfl, hy T hn, hnext h2 hst2, fun b hb => ?_⟩
    rw [upd_ne (Nat.ne_of_lt (Nat.lt_of_lt_of_le (fpOld b hb) hT))]
    exact (hf b hb).1
  done := by
    intro X hP hw hK hc i pins s σ H E I hf st hg
    obtain ⟨fp', wr, n, Pt, St, Mid, W, hst, hsub⟩ := (last X hP hw hK hc i pins s σ H I st hg).how
    subst hP hw hK
    exact W.done s _ _ hst fun h' tk hk => ⟨rfl, I.turnedL (t' := tk) (ch := fp) (fun b o hb e => hk b o (fun z => hb (hsub b z)) e) hf⟩

/-! ### a list or a tuple, by a mark -/
def SqB (K : PySem.W.Frag) (H : Hp) (b : Bool) (a : Addr) (xs : List V) : Prop := match b with
  | true => SqL K H a xs
  | false => SqT K H a xs
def ItrB (h : Heap) (b : Bool) (it a : Addr) (i : Nat) : Prop := match b with
  | true => h.IsListIter it a i
  | false => h.IsTupleIter it a i
def HasB (h : Heap) (b : Bool) (a : Addr) (items : Array Value) : Prop := match b with
  | true => h.IsList a items
  | false => h.IsTuple a items
def objB (b : Bool) (a : Addr) : Obj := match b with
  | true => { cls := .type "list_iterator", data := .fields #[.ref a, .int 0 0] }
  | false => { cls := .type "tuple_iterator", data := .fields #[.ref a, .int 0 0] }
theorem beginsB (b : Bool) (a : Addr) (items : Array Value) : Begins (.ref a) (objB b a) fun h => HasB h b a items := by
  cases b with
  | true => exact begins_list a items
  | false => exact begins_tuple a items
theorem itrB_new {h : Heap} {b : Bool} {it a : Addr} (e : h.get? it = some (objB b a)) : ItrB h b it a 0 := by
  cases b with
  | true => exact ⟨_, e, rfl, rfl⟩
  | false => exact ⟨_, e, rfl, rfl⟩
theorem ItrB.at {h h' : Heap} {b : Bool} {it a : Addr} {i : Nat} (x : ItrB h b it a i) (k : ∀ o, h.get? it = some o → h'.get? it = some o) : ItrB h' b it a i := by
  cases b with
  | true => exact Heap.IsListIter.at x k
  | false => exact Heap.IsTupleIter.at x k
theorem ItrB.obj {h : Heap} {b : Bool} {it a : Addr} {i : Nat} (x : ItrB h b it a i) : ∃ o, h.get? it = some o ∧ ∀ v, o.data ≠ .cell v := by
  cases b with
  | true =>
    obtain ⟨o, e, _, d⟩ := (show h.IsListIter it a i from x)
    exact ⟨o, e, fun v z => by rw [d] at z; cases z⟩
  | false =>
    obtain ⟨o, e, _, d⟩ := (show h.IsTupleIter it a i from x)
    exact ⟨o, e, fun v z => by rw [d] at z; cases z⟩
theorem drawsB {P : Program} {w : World} {A : Around} (hh : A.handled = none) (b : Bool) (it a : Addr) (ne : a ≠ it) (items : Array Value) :
    Draws P w A it [it, a] items.size (fun i v => items[i]? = some v) (fun i h => ItrB h b it a i ∧ HasB h b a items) := by
  cases b with
  | true => exact .list hh it a ne items
  | false => exact .tuple hh it a ne items
section
variable {X : Cx} {pins : List (Addr × Obj)} {σ : L2.St} {H : Hp} {s : Shared}
theorem seqB (I : Inv X pins σ H s) {b : Bool} {a : Addr} {xs : List V} (h : SqB X.K H b a xs) : ∃ its : List Value, Vals xs its ∧ HasB s.heap b a its.toArray ∧ xs.length ≤ sizeLine ∧ a < s.heap.objs.size := by
  cases b with
  | true =>
    obtain ⟨its, r, p, z⟩ := I.list h
    exact ⟨its, r, p.isList, z, p.lt⟩
  | false =>
    obtain ⟨its, r, p, z⟩ := I.tuple h
    obtain ⟨o, e, _⟩ := id p
    exact ⟨its, r, p, z, Heap.lt_size e⟩
theorem injB (I : Inv X pins σ H s) {b : Bool} {a : Addr} {xs ys : List V} (h : SqB X.K H b a xs) (h2 : SqB X.K H b a ys) : xs = ys := by
  cases b with
  | true => exact I.list_inj h h2
  | false => exact I.tuple_inj h h2
end

/-! ### zip of three -/
def It3 (K : PySem.W.Frag) (b1 b2 b3 : Bool) (a1 a2 a3 : Addr) : It :=
  ⟨fun i H => ∃ xs ys zs x y z, SqB K H b1 a1 xs ∧ SqB K H b2 a2 ys ∧ SqB K H b3 a3 zs ∧ xs[i]? = some x ∧ ys[i]? = some y ∧ zs[i]? = some z,
   fun i H v H' => ∃ T x y z, v = .ref T ∧ H T = none ∧ H' = upd H T (.tup [x, y, z]) ∧ (∀ xs, SqB K H b1 a1 xs → xs[i]? = some x) ∧ (∀ ys, SqB K H b2 a2 ys → ys[i]? = some y) ∧ (∀ zs, SqB K H b3 a3 zs → zs[i]? = some z),
   fun i H => ∃ xs ys zs, SqB K H b1 a1 xs ∧ SqB K H b2 a2 ys ∧ SqB K H b3 a3 zs ∧ i ≤ xs.length ∧ i ≤ ys.length ∧ i ≤ zs.length ∧ (i = xs.length ∨ i = ys.length ∨ i = zs.length)⟩
def tn3 (b1 b2 b3 : Bool) (a1 a2 a3 z TI TO i1 i2 i3 : Addr) (i : Nat) (h : Heap) : Prop :=
  IsZip h z TI TO .none ∧ IsTupOf3 h TI (.ref i1) (.ref i2) (.ref i3) ∧ (∃ x y u, IsTupOf3 h TO x y u) ∧ ItrB h b1 i1 a1 i ∧ ItrB h b2 i2 a2 i ∧ ItrB h b3 i3 a3 i
theorem turn_zip3 {P : Program} {w : World} {K : PySem.W.Frag} {elts : List Expr} {kk : Nat} {tpos : Pos} {b1 b2 b3 : Bool} {a1 a2 a3 z TI TO i1 i2 i3 : Addr} (S : ZipSep3 z TI TO i1 i2 i3 [i1, a1] [i2, a2] [i3, a3])
    (n1 : a1 ≠ i1) (n2 : a2 ≠ i2) (n3 : a3 ≠ i3) :
    Turn P w K (.Tuple elts kk tpos) (It3 K b1 b2 b3 a1 a2 a3) [z, TI, TO, i1, i2, i3] z (tn3 b1 b2 b3 a1 a2 a3 z TI TO i1 i2 i3) := by
  refine turn_gives (by simp) (fun i h st c hc => ?_) (fun i h h' st k => ?_) (fun X hP hw hK hc i pins s σ H I st hg => ?_) (fun X hP hw hK hc i pins s σ H I st hg => ?_) (fun A i s Q E st h => wpAny_pyIter_zip st.1 h)
  · obtain ⟨hz, hTI, ⟨x, y, u, hTO⟩, q1, q2, q3⟩ := st
    have e' : c = z ∨ c = TI ∨ c = TO ∨ c = i1 ∨ c = i2 ∨ c = i3 := by simpa using hc
    rcases e' with q | q | q | q | q | q
    · rw [q]; exact ⟨_, hz, fun v => nofun⟩
    · rw [q]; exact ⟨_, hTI, fun v => nofun⟩
    · rw [q]; exact ⟨_, hTO, fun v => nofun⟩
    · rw [q]; exact q1.obj
    · rw [q]; exact q2.obj
    · rw [q]; exact q3.obj
  · obtain ⟨hz, hTI, ⟨x, y, u, hTO⟩, q1, q2, q3⟩ := st
    exact ⟨k z (by simp) _ hz, k TI (by simp) _ hTI, ⟨x, y, u, k TO (by simp) _ hTO⟩, q1.at fun o e => k i1 (by simp) o e, q2.at fun o e => k i2 (by simp) o e, q3.at fun o e => k i3 (by simp) o e⟩
  · obtain ⟨xs, ys, zs, x, y, u, s1, s2, s3, e1, e2, e3⟩ := hg
    subst hK
    obtain ⟨its1, r1, p1, z1, _⟩ := seqB I s1
    obtain ⟨its2, r2, p2, z2, _⟩ := seqB I s2
    obtain ⟨its3, r3, p3, z3, _⟩ := seqB I s3
    obtain ⟨v1, g1, rv1⟩ := r1.get e1
    obtain ⟨v2, g2, rv2⟩ := r2.get e2
    obtain ⟨v3, g3, rv3⟩ := r3.get e3
    have hh : X.A.in1.handled = none := I.ok.hd hc
    obtain ⟨hz, hTI, hTO, q1, q2, q3⟩ := st
    refine ⟨_, _, _, _, _, _, WalksT.zipD3 S (drawsB hh b1 i1 a1 n1 its1.toArray) (drawsB hh b2 i2 a2 n2 its2.toArray) (drawsB hh b3 i3 a3 n3 its3.toArray), ⟨hz, hTI, hTO, ⟨q1, p1⟩, ⟨q2, p2⟩, ⟨q3, p3⟩⟩, ?_, fun c hcm => ?_, fun h' st' => ?_, fun vals hv => ?_⟩
    · have l1 := (List.getElem?_eq_some_iff.mp g1).1
      have l2 := (List.getElem?_eq_some_iff.mp g2).1
      have l3 := (List.getElem?_eq_some_iff.mp g3).1
      simp only [List.size_toArray]
      omega
    · have e' : c = z ∨ c = TO ∨ c = i1 ∨ c = i2 ∨ c = i3 := by simpa using hcm
      rcases e' with q | q | q | q | q <;> simp [q]
    · obtain ⟨a, b, c, d1, d2, d3⟩ := st'
      exact ⟨a, b, c, d1.1, d2.1, d3.1⟩
    · obtain ⟨w1, w2, w3, h1, h2, h3, rfl⟩ := hv
      have f1 : w1 = v1 := by simp only [List.getElem?_toArray, g1] at h1; exact (Option.some.inj h1).symm
      have f2 : w2 = v2 := by simp only [List.getElem?_toArray, g2] at h2; exact (Option.some.inj h2).symm
      have f3 : w3 = v3 := by simp only [List.getElem?_toArray, g3] at h3; exact (Option.some.inj h3).symm
      subst f1 f2 f3
      refine ⟨[x, y, u], .cons rv1 (.cons rv2 (.cons rv3 .nil)), by show 3 ≤ sizeLine; decide, fun T hT => ⟨T, x, y, u, rfl, hT, rfl, fun l hl => ?_, fun l hl => ?_, fun l hl => ?_⟩⟩
      · rw [injB I hl s1]; exact e1
      · rw [injB I hl s2]; exact e2
      · rw [injB I hl s3]; exact e3
  · obtain ⟨xs, ys, zs, s1, s2, s3, k1, k2, k3, hend⟩ := hg
    subst hK
    obtain ⟨its1, r1, p1, z1, _⟩ := seqB I s1
    obtain ⟨its2, r2, p2, z2, _⟩ := seqB I s2
    obtain ⟨its3, r3, p3, z3, _⟩ := seqB I s3
    have l1 := r1.length
    have l2 := r2.length
    have l3 := r3.length
    have hh : X.A.in1.handled = none := I.ok.hd hc
    obtain ⟨hz, hTI, hTO, q1, q2, q3⟩ := st
    have en : min (min its1.toArray.size its2.toArray.size) its3.toArray.size = i := by
      simp only [List.size_toArray]
      omega
    refine ⟨_, _, _, _, _, _, WalksT.zipD3 S (drawsB hh b1 i1 a1 n1 its1.toArray) (drawsB hh b2 i2 a2 n2 its2.toArray) (drawsB hh b3 i3 a3 n3 its3.toArray), ?_, fun c hcm => ?_⟩
    · rw [en]
      exact ⟨hz, hTI, hTO, ⟨q1, p1⟩, ⟨q2, p2⟩, ⟨q3, p3⟩⟩
    · have e' : c = z ∨ c = TO ∨ c = i1 ∨ c = i2 ∨ c = i3 := by simpa using hcm
      rcases e' with q | q | q | q | q <;> simp [q]

def iZip3 (K : PySem.W.Frag) (ta : TA) : TI := fun σ H R => ta σ H fun vs H1 => ∃ a1 a2 a3 b1 b2 b3 xs ys zs, vs = [.ref a1, .ref a2, .ref a3] ∧ SqB K H1 b1 a1 xs ∧ SqB K H1 b2 a2 ys ∧ SqB K H1 b3 a3 zs ∧ R (It3 K b1 b2 b3 a1 a2 a3) H1
theorem pi_zip3 {X : Cx} {e e2 e3 : Expr} {ta : TA} {p pos tpos : Pos} {elts : List Expr} {kk : Nat} (hg : Gl X "zip") (hm : X.mg "zip" = none) (ha : PA X [e, e2, e3] ta)
    (hs : starEach [e, e2, e3] X.env = (false, eval e X.env) :: starEach [e2, e3] X.env := by rfl) (hpl : (backTo pos (starEach [e2, e3] X.env)).any (·.1) = false := by rfl) :
    PI X (.Tuple elts kk tpos) (.Call (.Name "zip" p) [e, e2, e3] [] pos) (iZip3 X.K ta) := by
  refine ⟨fun pins s σ H R I h => ?_⟩
  refine Call_ (ld_blt I hg hm PyProof.Rows.boot_zip (PyProof.Rows.callWith_type1 (thn (ha.run pos pins s σ H _ I h) fun us s1 ⟨vs, H1, I1, rel, q⟩ => ?_) hs hpl))
  obtain ⟨a1, a2, a3, b1, b2, b3, xs, ys, zs, ex, q1, q2, q3, hR⟩ := q
  subst ex
  obtain ⟨its1, _, p1, _, lt1⟩ := seqB I1 q1
  obtain ⟨its2, _, p2, _, lt2⟩ := seqB I1 q2
  obtain ⟨its3, _, p3, _, lt3⟩ := seqB I1 q3
  cases rel with
  | cons r rel =>
    cases rel with
    | cons r' rel =>
      cases rel with
      | cons r'' rel =>
        cases rel
        cases r
        cases r'
        cases r''
        refine zip_begins3 (beginsB b1 a1 its1.toArray) (beginsB b2 a2 its2.toArray) (beginsB b3 a3 its3.toArray) p1 p2 p3 fun h' hz hTI hTO o1 o2 o3 hsz hk => wpAny_pyIter_zip hz ?_
        have I2 : Inv X pins σ H1 { s1 with heap := h' } := I1.kept (t' := s1.toks) hk
        refine ⟨s1.heap.objs.size + 5, [s1.heap.objs.size + 5, s1.heap.objs.size + 3, s1.heap.objs.size + 4, s1.heap.objs.size, s1.heap.objs.size + 1, s1.heap.objs.size + 2], _, _, H1, rfl, I2,
          turn_zip3 (b1 := b1) (b2 := b2) (b3 := b3) (zip_sep3 (N := s1.heap.objs.size) (fp1 := [a1]) (fp2 := [a2]) (fp3 := [a3]) (fun b hb => by rw [List.mem_singleton.mp hb]; exact lt1) (fun b hb => by rw [List.mem_singleton.mp hb]; exact lt2) (fun b hb => by rw [List.mem_singleton.mp hb]; exact lt3))
            (Nat.ne_of_lt lt1) (Nat.ne_of_lt (Nat.lt_succ_of_lt lt2)) (Nat.ne_of_lt (Nat.lt_succ_of_lt (Nat.lt_succ_of_lt lt3))),
          ⟨hz, hTI, ⟨_, _, _, hTO⟩, itrB_new o1, itrB_new o2, itrB_new o3⟩, fun c hcm => ?_, hR⟩
        have hle : s1.heap.objs.size ≤ c := by
          have e' : c = s1.heap.objs.size + 5 ∨ c = s1.heap.objs.size + 3 ∨ c = s1.heap.objs.size + 4 ∨ c = s1.heap.objs.size ∨ c = s1.heap.objs.size + 1 ∨ c = s1.heap.objs.size + 2 := by simpa using hcm
          rcases e' with q | q | q | q | q | q <;> rw [q] <;> first | exact Nat.le_refl _ | exact Nat.le_add_right _ _
        exact I1.fpOk hle (I1.hok.fresh hle)
end Sa

set_option Elab.async false
set_option linter.all false
set_option maxRecDepth 100000
/-! Sa.En: enumerate of a list or a tuple -/
namespace Sa
open PySem PySem.Spec PyProof.Rows L2

set_option maxHeartbeats 1000000 in
theorem meets_enum1 {v : Value} {o : Obj} {Hs : Heap → Prop} (B : Begins v o Hs) :
    Meets (Builtin.«enumerate.__new__» ⟨[.type "enumerate", v], []⟩) (fun _ R s => Hs s.heap ∧
      R (.ok (.ret (.ref (s.heap.push o).objs.size))) { s with heap := (s.heap.push o).push { cls := .type "enumerate", data := .fields #[.none, .bool false, .ref s.heap.objs.size, rawInt 0, .none, .none] } }) :=
  .of_wp fun prog w A R s h => by
    obtain ⟨hp, gs, dr, tk, os⟩ := s
    obtain ⟨there, h⟩ := h
    have sub := sub_enumerate
    have begin_ : ∀ {A' : Around} {E : Value → Shared → Prop} {Q : Value → Shared → Prop}, Q (.ref hp.objs.size) ⟨hp.push o, gs, dr, tk, os⟩ → wpAny (model prog w) A' (pyIter v) Q E ⟨hp, gs, dr, tk, os⟩ :=
      fun q => B.iter prog w _ _ ⟨hp, gs, dr, tk, os⟩ _ there q
    wp_walk using begin_
    refine wpAny_stack_any fun st => wpAny_pure ?_
    split
    · rename_i c _ _ _ _ _
      cases (c == Value.type "enumerate") <;> (wp_walk using begin_) <;> exact ⟨_, rfl, h⟩
    · wp_walk using begin_
      exact ⟨_, rfl, h⟩
theorem enum1 {prog : Program} {w : World} {A : Around} {E : Value → Shared → Prop} {s : Shared} {v : Value} {o : Obj} {Hs : Heap → Prop} {Q : Value → Shared → Prop} (B : Begins v o Hs) (there : Hs s.heap)
    (h : ∀ h', IsEnum h' (s.heap.objs.size + 1) s.heap.objs.size 0 .none → h'.get? s.heap.objs.size = some o → (∀ b u, s.heap.get? b = some u → h'.get? b = some u) → Q (.ref (s.heap.objs.size + 1)) { s with heap := h' }) :
    wpAny (model prog w) A (call (.type "enumerate") [v]) Q E s := by
  refine callType_new F.called_enumerate (by decide) (F.typeCall_enumerate_1 _) (F.newCall_enumerate_1 _) (fun obj => F.args_object_init_2 obj _) F.entry_enumerate_new (meets_enum1 B) ⟨there, ?_⟩
  have size1 : (s.heap.push o).objs.size = s.heap.objs.size + 1 := Heap.size_push ..
  have made := Heap.get?_push_size (s.heap.push o) (o := { cls := .type "enumerate", data := .fields #[.none, .bool false, .ref s.heap.objs.size, rawInt 0, .none, .none] }) rfl
  show _ ∧ _
  rw [size1] at made ⊢
  exact ⟨⟨_, made, rfl⟩, h _ made (Heap.get?_push_of_some _ (Heap.get?_push_size _ B.free)) fun b u x => Heap.get?_push_of_some _ (Heap.get?_push_of_some _ x)⟩

/-- the turns of enumerate -/
def ItE (K : PySem.W.Frag) (b : Bool) (a : Addr) : It :=
  ⟨fun i H => ∃ xs x, SqB K H b a xs ∧ xs[i]? = some x,
   fun i H v H' => ∃ T x, v = .ref T ∧ H T = none ∧ H' = upd H T (.tup [.int i, x]) ∧ ∀ xs, SqB K H b a xs → xs[i]? = some x,
   fun i H => ∃ xs, SqB K H b a xs ∧ i = xs.length⟩
theorem turn_enumB {P : Program} {w : World} {K : PySem.W.Frag} {elts : List Expr} {kk : Nat} {tpos : Pos} {b : Bool} {a e it : Addr} (n1 : e ≠ it) (n2 : a ≠ it) (n3 : e ≠ a) :
    Turn P w K (.Tuple elts kk tpos) (ItE K b a) [e, it] e (fun i h => (∃ old, IsEnum h e it (0 + (i : Int)) old) ∧ ItrB h b it a i) := by
  refine turn_gives (by simp) (fun i h st c hc => ?_) (fun i h h' st k => ?_) (fun X hP hw hK hc i pins s σ H I st hg => ?_) (fun X hP hw hK hc i pins s σ H I st hg => ?_) (fun A i s Q E st h => ?_)
  · obtain ⟨⟨old, he⟩, q⟩ := st
    have e' : c = e ∨ c = it := by simpa using hc
    rcases e' with z | z
    · rw [z]; exact ⟨_, he, fun v => nofun⟩
    · rw [z]; exact q.obj
  · obtain ⟨⟨old, he⟩, q⟩ := st
    exact ⟨⟨old, k e (by simp) _ he⟩, q.at fun o x => k it (by simp) o x⟩
  · obtain ⟨xs, x, sq, ex⟩ := hg
    subst hK
    obtain ⟨its, rel, has, _, _⟩ := seqB I sq
    obtain ⟨v, g, rv⟩ := rel.get ex
    have hh : X.A.in1.handled = none := I.ok.hd hc
    obtain ⟨he, q⟩ := st
    refine ⟨_, _, _, _, _, _, WalksT.enumFrom 0 (drawsB hh b it a n2 its.toArray) e n1 (by simp [n1, n3]) (by simp), ⟨he, q, has⟩, ?_, fun c hcm => hcm, fun h' st' => ⟨st'.1, st'.2.1⟩, fun vals hv => ?_⟩
    · have l := (List.getElem?_eq_some_iff.mp g).1
      simpa using l
    · obtain ⟨t, y, hy, rfl⟩ := hv
      have f : y = v := by simp only [List.getElem?_toArray, g] at hy; exact (Option.some.inj hy).symm
      subst f
      refine ⟨[.int i, x], .cons ⟨t, by rw [Int.zero_add]⟩ (.cons rv .nil), by show 2 ≤ sizeLine; decide, fun T hT => ⟨T, x, rfl, hT, rfl, fun l hl => ?_⟩⟩
      rw [injB I hl sq]; exact ex
  · obtain ⟨xs, sq, en⟩ := hg
    subst hK
    obtain ⟨its, rel, has, _, _⟩ := seqB I sq
    have hh : X.A.in1.handled = none := I.ok.hd hc
    have l := rel.length
    obtain ⟨he, q⟩ := st
    refine ⟨_, _, _, _, _, _, WalksT.enumFrom 0 (drawsB hh b it a n2 its.toArray) e n1 (by simp [n1, n3]) (by simp), ?_, fun c hcm => hcm⟩
    have en2 : its.toArray.size = i := by
      simp only [List.size_toArray]
      omega
    rw [en2]
    exact ⟨he, q, has⟩
  · obtain ⟨⟨old, he⟩, _⟩ := st
    exact wpAny_pyIter_enum he h
def iEnB (K : PySem.W.Frag) (ta : TA) : TI := fun σ H R => ta σ H fun vs H1 => ∃ a b xs, vs = [.ref a] ∧ SqB K H1 b a xs ∧ R (ItE K b a) H1
theorem pi_enumB {X : Cx} {e : Expr} {ta : TA} {p pos tpos : Pos} {elts : List Expr} {kk : Nat} (hg : Gl X "enumerate") (hm : X.mg "enumerate" = none) (ha : PA X [e] ta)
    (hb : bootBuiltins "enumerate" = some (.type "enumerate") := by decide +kernel)
    (hs : starEach [e] X.env = (false, eval e X.env) :: starEach [] X.env := by rfl) (hpl : (backTo pos (starEach [] X.env)).any (·.1) = false := by rfl) :
    PI X (.Tuple elts kk tpos) (.Call (.Name "enumerate" p) [e] [] pos) (iEnB X.K ta) := by
  refine ⟨fun pins s σ H R I h => ?_⟩
  refine Call_ (ld_blt I hg hm hb (PyProof.Rows.callWith_type1 (thn (ha.run pos pins s σ H _ I h) fun us s1 ⟨vs, H1, I1, rel, q⟩ => ?_) hs hpl))
  obtain ⟨a, b, xs, ex, sq, hR⟩ := q
  subst ex
  obtain ⟨its, _, has, _, lt⟩ := seqB I1 sq
  cases rel with
  | cons r rel =>
    cases rel
    cases r
    refine enum1 (beginsB b a its.toArray) has fun h' he o1 hk => wpAny_pyIter_enum he ?_
    have I2 : Inv X pins σ H1 { s1 with heap := h' } := I1.kept (t' := s1.toks) hk
    refine ⟨s1.heap.objs.size + 1, [s1.heap.objs.size + 1, s1.heap.objs.size], _, _, H1, rfl, I2, turn_enumB (b := b) (a := a) (Nat.succ_ne_self _) (Nat.ne_of_lt lt) (Nat.ne_of_gt (Nat.lt_succ_of_lt lt)), ⟨⟨_, he⟩, itrB_new o1⟩, fun c hcm => ?_, hR⟩
    have hle : s1.heap.objs.size ≤ c := by
      have e' : c = s1.heap.objs.size + 1 ∨ c = s1.heap.objs.size := by simpa using hcm
      rcases e' with q | q <;> rw [q] <;> first | exact Nat.le_refl _ | exact Nat.le_add_right _ _
    exact I1.fpOk hle (I1.hok.fresh hle)
end Sa

set_option Elab.async false
set_option linter.all false
set_option maxRecDepth 100000
set_option maxHeartbeats 2000000
/-! Sa.Gen: generator expressions over a list or a tuple, with an element that calls nothing of the program -/
namespace Sa
open PySem PySem.Spec PyProof.Rows L2

theorem walksB {P : Program} {w : World} {A : Around} (hh : A.handled = none) (b : Bool) (it a : Addr) (ne : a ≠ it) (items : Array Value) :
    Walks P w A it [it, a] [it] items.size (fun i v => items[i]? = some v) (fun i h => ItrB h b it a i ∧ HasB h b a items) := by
  cases b with
  | true => exact .list hh it a ne items
  | false => exact .tuple hh it a ne items
theorem HasB.at {h h' : Heap} {b : Bool} {a : Addr} {items : Array Value} (x : HasB h b a items) (k : ∀ o, h.get? a = some o → h'.get? a = some o) : HasB h' b a items := by
  cases b with
  | true => exact Heap.IsList.at x k
  | false => exact Heap.IsTuple.at x k

/-- the table at P has its form -/
abbrev Tb (H : Hp) (P : Addr) : Prop := GxR.TabG H P
/-- H' is H but for the table at P -/
abbrev TbTo (P : Addr) (H H' : Hp) : Prop := GxR.Tabbed P H H'

/-- the element's value, sign by sign of the walked thing: ys of xs -/
def EltOf (X : Cx) (P : Addr) (scope : Scope) (x : Str) (elt : Expr) (H : Hp) (xs ys : List V) : Prop :=
  xs.length = ys.length ∧ ∀ (pins : List (Addr × Obj)) (σ : L2.St) (s1 : Shared), Inv X pins σ H s1 → ∀ (i : Nat) (v y : V) (u : Value), xs[i]? = some v → ys[i]? = some y → RelV v u →
    ∀ (cenv : Env) (A' : Around) (E' : Value → Shared → Prop) (s2 : Shared) (m2 : Str → Option Value), cenv.scope = scope → cenv.globals = X.env.globals → cenv.builtins = builtinsNs → A'.handled = none → s2.heap.Ns cenv.locals m2 → m2 x = some u →
      (∀ b o, b ≠ P → s1.heap.get? b = some o → s2.heap.get? b = some o) →
      wpAny (model X.prog X.w) A' (eval elt cenv) (fun r s3 => RelV y r ∧ Keeps s2 s3) E' s2

/-- the generator g is ready to give ys -/
def GenOk (X : Cx) (pins : List (Addr × Obj)) (σ : L2.St) (H1 : Hp) (P : Addr) (ys : List V) (g : Addr) (s5 : Shared) : Prop :=
  ∃ (fp wr : List Addr) (G : Array GenState → Array GenState → Prop) (F : Nat → Value → Prop) (St : Nat → Shared → Prop),
    WalksS X.prog X.w X.A.in4 g fp wr G ys.length F St ∧ St 0 s5 ∧ (∀ j r, F j r → ∃ y, ys[j]? = some y ∧ RelV y r) ∧ (∀ i s', St i s' → s'.TypeIs (.ref g) "generator") ∧ (∀ b ∈ fp, b < s5.heap.objs.size) ∧ g ∈ fp ∧
    ∀ s', Moved wr G s5 s' → ∃ H2, TbTo P H1 H2 ∧ Inv X pins σ H2 s'

section
variable {X : Cx} {pins : List (Addr × Obj)} {σ : L2.St} {H : Hp} {s : Shared}
theorem gen_seq {c P : Addr} {elt iter : Expr} {x : Str} {px gpos : Pos} {scope : Scope} {te : TE} {k : Nat} {Q' : Value → Shared → Prop} {R : List V → Hp → Prop}
    (hr : Room k X.A) (TB : LamX.TabB X.base X.mg c P) (hcode : X.env.code = .ref c) (S : GxR.GenS X.env scope x) (hi : PE X iter te)
    (hs : ∀ v, genFold iter X.env v = pure v) (I : Inv X pins σ H s)
    (h : te σ H fun v H1 => ∃ b a xs ys, v = .ref a ∧ SqB X.K H1 b a xs ∧ Tb H1 P ∧ EltOf X P scope x elt H1 xs ys ∧ R ys H1)
    (hQ : ∀ ys H1 g s5, R ys H1 → GenOk X pins σ H1 P ys g s5 → Q' (.ref g) s5) :
    wpAny (model X.prog X.w) X.A (eval (.GeneratorExp elt [⟨.Name x px, iter, [], 0⟩] scope gpos) X.env) Q' X.xe s := by
  refine wpAny_GeneratorExp_walksQ hr.hd S.co (closure_ok S.free) S.cell S.dot S.loc S.kind (by have := hr.dp; omega) ?_ hs
  refine thn (hi.run pins s σ H _ I h) fun xv s1 ⟨v, H1, I1, r1, q1⟩ => ?_
  obtain ⟨b, a, xs, ys, rfl, sq, ⟨ps, hP, triples⟩, ⟨same, elts⟩, goal⟩ := q1
  cases r1
  obtain ⟨its, rel, has, small, lta⟩ := seqB I1 sq
  refine (beginsB b a its.toArray).iter _ _ _ _ s1 _ has ?_
  have atP : s1.heap.get? P = some { cls := .none, data := .fields ps } := I1.hok P _ hP
  have ltP : P < s1.heap.objs.size := Heap.lt_size atP
  have atP2 : (s1.heap.push (objB b a)).get? P = some { cls := .none, data := .fields ps } := Heap.get?_push_of_some _ atP
  have codeAt : PySem.W.CodeHd (s1.heap.push (objB b a)) c P := TB.code.keeps fun d u e => Heap.get?_push_of_some _ (I1.bk d u e)
  have limit2 : (s1.heap.push (objB b a)).NoLimit := I1.nolimit.push _
  have aP : a ≠ P := by
    intro z
    rw [z] at has
    cases b with
    | true =>
      obtain ⟨o, e, cl, _⟩ := (show s1.heap.IsList P its.toArray from has)
      rw [atP] at e
      cases e
      cases cl
    | false =>
      obtain ⟨o, e, cl, _⟩ := (show s1.heap.IsTuple P its.toArray from has)
      rw [atP] at e
      cases e
      cases cl
  -- what stands behind the code object's making
  have onward : ∀ (code : Value) (h3 : Heap) (tk : Nat) (ps' : Array Value), Heap.ExtBut P (s1.heap.push (objB b a)) h3 → (s1.heap.push (objB b a)).objs.size ≤ h3.objs.size →
      h3.get? P = some { cls := .none, data := .fields ps' } → (∃ more, ps' = ps ++ more) → TriplesOk ps'.toList →
      wpAny (model X.prog X.w) X.A (builtinsFor X.env.globals X.env.builtins) (fun bi s4 =>
        ∃ It fp wr n0 Pf St0 pz F, Value.ref s1.heap.objs.size = .ref It ∧ (∀ A' : Around, A'.handled = none → Walks X.prog X.w A' It fp wr n0 Pf St0) ∧ St0 0 s4.heap ∧ (∀ d ∈ fp, d < s4.heap.objs.size) ∧ s4.heap.NoLimit ∧ cStatics ∉ wr ∧
          (∀ href : Heap, (∀ d o, s4.heap.get? d = some o → href.get? d = some o) →
            QuietGen X.prog X.w (genEnv scope (cloFrom X.env.cells scope.names []) s4.heap.objs.size code bi X.env) x [] elt (List.range s4.heap.objs.size) wr Pf pz F href) ∧
          (∀ g h5 tk5 gs, gs.bare = true → s4.heap.objs.size < g → h5.objs.size = g + 1 → (∀ d o, s4.heap.get? d = some o → h5.get? d = some o) →
            WalksS X.prog X.w X.A.in4 g (g :: s4.heap.objs.size :: List.range s4.heap.objs.size) (s4.heap.objs.size :: wr) (GenOnlyQ s4.gens.size) (passing pz n0 0).length
              (fun j y => ∃ i, (passing pz n0 0)[j]? = some i ∧ F i y) (GenAt X.prog X.w X.A.in4 g s4.gens.size s4.heap.objs.size (List.range s4.heap.objs.size) wr pz n0 F) →
            GenAt X.prog X.w X.A.in4 g s4.gens.size s4.heap.objs.size (List.range s4.heap.objs.size) wr pz n0 F 0 { s4 with gens := s4.gens.push gs, toks := tk5, heap := h5 } →
            Q' (.ref g) { s4 with gens := s4.gens.push gs, toks := tk5, heap := h5 })) X.xe { s1 with heap := h3, toks := tk } := by
    intro code h3 tk ps' grown sizes atP3 hmore triples3
    obtain ⟨bm, ob, e1, e2, e3, e4, e5, e6, e7, e8⟩ := TB.bm
    have cP : cStatics ≠ P := fun z => by
      obtain ⟨_, names, _⟩ := I1.nolimit
      obtain ⟨o', es, ep, ho, hd, _⟩ := names
      rw [z, atP] at ho
      cases ho
      cases hd
    have cLt : cStatics < s1.heap.objs.size := let ⟨_, names, _⟩ := I1.nolimit; names.lt
    have sz2 : (s1.heap.push (objB b a)).objs.size = s1.heap.objs.size + 1 := Heap.size_push ..
    have lt3 : s1.heap.objs.size < h3.objs.size := by omega
    have keep3 : ∀ d u, d ≠ P → s1.heap.get? d = some u → h3.get? d = some u := fun d u hd e => grown d u hd (Heap.get?_push_of_some _ e)
    have itNew : (s1.heap.push (objB b a)).get? s1.heap.objs.size = some (objB b a) := Heap.get?_push_size _ (by cases b <;> rfl)
    have st3 : ItrB h3 b s1.heap.objs.size a 0 ∧ HasB h3 b a its.toArray :=
      ⟨itrB_new (grown _ _ (Nat.ne_of_gt ltP) itNew), has.at fun o e => keep3 a o aP e⟩
    refine wpAny_builtinsFor (m := X.mg) (by rw [I1.ok.glob]; exact ((I1.mod.glob.keeps I1.bk).push _).extBut grown TB.gP) e1 e2 (keep3 _ _ e4 (I1.bk _ _ e5)) e6 e7 e8 ?_
    refine ⟨s1.heap.objs.size, [s1.heap.objs.size, a], [s1.heap.objs.size], its.toArray.size, (fun i v => its.toArray[i]? = some v), _, (fun _ => true), (fun i r => ∃ y, ys[i]? = some y ∧ RelV y r), rfl,
      fun A' hA => walksB hA b s1.heap.objs.size a (Nat.ne_of_lt lta) its.toArray, st3, fun d hd => ?_, limit2.extBut grown cP, ?_, fun href sub => ?_, fun g h5 tk5 gs bare lt5 sz5 keep5 W start => ?_⟩
    · have e' : d = s1.heap.objs.size ∨ d = a := by simpa using hd
      show d < h3.objs.size
      rcases e' with z | z
      · rw [z]; exact lt3
      · rw [z]; exact Nat.lt_trans lta lt3
    · intro z
      exact Nat.ne_of_lt cLt (List.mem_singleton.mp z)
    · refine ⟨fun A' E' i v s2 m2 hA hPv hn hm hk => ?_, fun A' E' i v s2 m2 hA hPv hp hn hm hk => ?_⟩
      · simp only [List.forIn_nil]
        exact wpAny_pure ⟨rfl, GxR.keeps_refl _⟩
      · have hi2 : its[i]? = some v := by simpa using hPv
        have hlt : i < its.length := (List.getElem?_eq_some_iff.mp hi2).1
        have hx : ∃ q, xs[i]? = some q := ⟨_, List.getElem?_eq_getElem (by rw [rel.length]; exact hlt)⟩
        have hy : ∃ y, ys[i]? = some y := ⟨_, List.getElem?_eq_getElem (by rw [← same, rel.length]; exact hlt)⟩
        obtain ⟨q, eq⟩ := hx
        obtain ⟨y, ey⟩ := hy
        obtain ⟨v', ev', rv⟩ := rel.get eq
        rw [hi2] at ev'
        cases ev'
        refine wpAny_mono (elts pins σ s1 I1 i q y v eq ey rv _ A' E' s2 m2 rfl rfl rfl hA hn hm (fun d o hd e => ?_)) (fun r s3 z => ⟨⟨y, ey, z.1⟩, z.2⟩) fun _ _ z => z
        have old : d < s1.heap.objs.size := Heap.lt_size e
        exact hk d (List.mem_range.mpr (Nat.lt_trans old lt3)) (fun z => Nat.ne_of_lt old (List.mem_singleton.mp z)) o (sub d o (keep3 d o hd e))
    · simp only [GxR.passing_true, List.length_range] at W
      have nEq : its.toArray.size = ys.length := by rw [List.size_toArray, ← rel.length, same]
      rw [nEq] at W start
      refine hQ ys H1 g _ goal ⟨_, _, _, _, _, W, start, fun j r hj => ?_, fun i s' q => ?_, fun d hd => ?_, List.mem_cons_self, fun s' moved => ?_⟩
      · obtain ⟨i, hij, y, hy, ry⟩ := hj
        obtain ⟨hj', ej⟩ := List.getElem?_eq_some_iff.mp hij
        rw [List.getElem_range] at ej
        subst ej
        exact ⟨y, hy, ry⟩
      · obtain ⟨isGen, _⟩ := q
        exact isGen.typeIs
      · show d < h5.objs.size
        have l5 : h3.objs.size < g := lt5
        have l7 : g < h5.objs.size := by rw [sz5]; exact Nat.lt_succ_self _
        rcases List.mem_cons.mp hd with z | z
        · rw [z]; exact l7
        · rcases List.mem_cons.mp z with z | z
          · rw [z]; exact Nat.lt_trans l5 l7
          · exact Nat.lt_trans (List.mem_range.mp z) (Nat.lt_trans l5 l7)
      · obtain ⟨more, em⟩ := hmore
        have nwr : ∀ d u, s1.heap.get? d = some u → d ∉ h3.objs.size :: [s1.heap.objs.size] := fun d u e hd => by
          have hl : d < s1.heap.objs.size := Heap.lt_size e
          rcases List.mem_cons.mp hd with z | z
          · rw [z] at hl
            have h9 : (h3.objs.size : Nat) < s1.heap.objs.size := hl
            omega
          · exact Nat.ne_of_lt hl (List.mem_singleton.mp z)
        have J := GxR.inv_tab (more := more) (h' := s'.heap) (g' := s'.gens) (d' := s'.drawn) (t' := s'.toks) I1 hP (fun d u hd e => moved.heap d u (nwr d u e) (keep5 d u (keep3 d u hd e)))
          (by rw [← em]; exact moved.heap P _ (nwr P _ atP) (keep5 P _ atP3)) (AllBare.movedS (I1.bare.push bare) moved)
        rw [GxR.sh_eta s1 s' moved.os] at J
        exact ⟨upd H1 P (.tbl (ps ++ more)), ⟨⟨ps ++ more, upd_same, by rw [← em]; exact triples3⟩, fun d hd => upd_ne hd⟩, J⟩
  refine ⟨limit2, ?_⟩
  cases found : codeAmong gpos ps.toList with
  | none =>
    refine wpAny_genexprCodeX hcode (codeAt.code atP2 triples) (codeAt.tab atP2) found fun c' h' tk grown ge lt isCode _ tab _ => ?_
    obtain ⟨o1, vs, f1, tf, fl, tg, inF, tx, tt, op, _, _, _, _, _, _, _, _, _, htr, _⟩ := isCode
    exact onward _ h' tk _ grown (Nat.le_trans ge (Nat.le_of_lt lt)) tab.2 ⟨_, rfl⟩ htr
  | some cv =>
    refine wpAny_genexprCode_hit hcode (codeAt.code atP2 triples) found ?_
    exact onward cv (s1.heap.push (objB b a)) s1.toks ps (Heap.ExtBut.refl _ _) (Nat.le_refl _) atP2 ⟨#[], by simp⟩ triples

/-- tuple(elt for x in e) -/
def tTupG (X : Cx) (P : Addr) (scope : Scope) (x : Str) (elt : Expr) (te : TE) : TE := fun σ H Q => te σ H fun v H1 => ∃ b a xs ys, v = .ref a ∧ SqB X.K H1 b a xs ∧ Tb H1 P ∧ EltOf X P scope x elt H1 xs ys ∧
  ys.length ≤ sizeLine ∧ ∀ H2 T, TbTo P H1 H2 → H2 T = none → Q (.ref T) (upd H2 T (.tup ys))
theorem pe_tupG {c P : Addr} {elt iter : Expr} {x : Str} {px p pos gpos : Pos} {scope : Scope} {te : TE} {k : Nat}
    (hr : Room k X.A) (hg : Gl X "tuple") (hm : X.mg "tuple" = none) (TB : LamX.TabB X.base X.mg c P) (hcode : X.env.code = .ref c) (S : GxR.GenS X.env scope x) (hi : PE X iter te)
    (hs : ∀ v, genFold iter X.env v = pure v)
    (he : starEach [.GeneratorExp elt [⟨.Name x px, iter, [], 0⟩] scope gpos] X.env = (false, eval (.GeneratorExp elt [⟨.Name x px, iter, [], 0⟩] scope gpos) X.env) :: starEach [] X.env := by rfl) :
    PE X (.Call (.Name "tuple" p) [.GeneratorExp elt [⟨.Name x px, iter, [], 0⟩] scope gpos] [] pos) (tTupG X P scope x elt te) := by
  refine ⟨fun pins s σ H Q I h => ?_⟩
  refine wpAny_Call_Name_kw (ld_blt I hg hm PyProof.Rows.boot_tuple ?_)
  refine PyProof.Rows.callWith_type1 ?_ he (by rfl)
  rw [he]
  show wpAny _ _ (spliced ((false, eval (.GeneratorExp elt [⟨.Name x px, iter, [], 0⟩] scope gpos) X.env) :: backTo pos (starEach [] X.env))) _ _ s
  refine Calls.spliced_cons (gen_seq (R := fun ys H1 => ys.length ≤ sizeLine ∧ ∀ H2 T, TbTo P H1 H2 → H2 T = none → Q (.ref T) (upd H2 T (.tup ys))) hr TB hcode S hi hs I h fun ys H1 g s5 goal ready => ?_)
  obtain ⟨small, goal⟩ := goal
  obtain ⟨fp, wr, G, F, St, W, start, out, isGen, below, mem, back⟩ := ready
  refine Calls.spliced_nil ?_
  refine call_tuple_gen W.in4_3 isGen start below mem (fun s' acc moved items => ?_) small
  obtain ⟨H2, tab, J⟩ := back s' moved
  have rel : Vals ys acc.toList := by
    have key : ∀ (n : Nat) (ys : List V) (rs : List Value), ys.length = n → rs.length = n → (∀ (j : Nat) (r : Value), rs[j]? = some r → ∃ y, ys[j]? = some y ∧ RelV y r) → Vals ys rs := by
      intro n
      induction n with
      | zero =>
        intro ys rs e1 e2 _
        rw [List.length_eq_zero_iff.mp e1, List.length_eq_zero_iff.mp e2]
        exact .nil
      | succ n ih =>
        intro ys rs e1 e2 f
        obtain ⟨y, ys', rfl⟩ := List.exists_cons_of_length_eq_add_one e1
        obtain ⟨r, rs', rfl⟩ := List.exists_cons_of_length_eq_add_one e2
        obtain ⟨y', ey, ry⟩ := f 0 r rfl
        cases Option.some.inj (show some y = some y' from ey)
        exact .cons ry (ih ys' rs' (by simpa using e1) (by simpa using e2) fun j r' hr' => f (j + 1) r' hr')
    refine key ys.length ys acc.toList rfl (by rw [Array.length_toList]; exact items.1) fun j r hj => ?_
    exact out j r (items.2 j r (by simpa using hj))
  have fresh : H2 s'.heap.objs.size = none := J.hok.fresh (Nat.le_refl _)
  refine ⟨.ref s'.heap.objs.size, upd H2 s'.heap.objs.size (.tup ys), J.laid (t' := s'.toks) (fun d u e => Heap.get?_push_of_some _ e) (Nat.le_refl _) ?_, rfl, goal H2 _ tab fresh⟩
  have isTup : IsTup (s'.heap.push { cls := .type "tuple", data := .seq acc }) s'.heap.objs.size acc := ⟨_, Heap.get?_push_size _ rfl, rfl, _, rfl⟩
  exact ⟨small, acc.toList, rel, by rw [Array.toArray_toList]; exact isTup⟩
end
end Sa

set_option Elab.async false
set_option linter.all false
set_option maxRecDepth 100000
set_option maxHeartbeats 2000000
/-! Sa.Elt: elements of generator expressions -/
namespace Sa
open PySem PySem.Spec PyProof.Rows L2
theorem tupNotTab {h : Heap} {t P : Addr} {items ps : Array Value} (a : IsTup h t items) (b : h.get? P = some { cls := .none, data := .fields ps }) : t ≠ P := by
  intro z
  obtain ⟨o, e, cl, _⟩ := a
  rw [z, b] at e
  cases e
  cases cl
/-- x[k], the walked things tuples -/
theorem elt_item {X : Cx} {P : Addr} {scope : Scope} {x : Str} {k : Nat} {j : Nat} {p1 p2 p3 : Pos} {H : Hp} {xs ys : List V} (hk : scope.kind = .function) (hl : scope.names.lookup x = some .local) (tab : Tb H P)
    (same : xs.length = ys.length) (h : ∀ (i : Nat) (v y : V), xs[i]? = some v → ys[i]? = some y → ∃ t zs, v = .ref t ∧ SqT X.K H t zs ∧ zs[k]? = some y) (kS : k < 1000 := by decide) (hd : (x == ("__debug__" : Str)) = false := by decide) :
    EltOf X P scope x (.Subscript (.Name x p1) (.Constant (.int k) j p2) p3) H xs ys := by
  refine ⟨same, fun pins σ s1 I i v y u e1 e2 rel cenv A' E' s2 m2 hsc _ _ hA hn hm keep => ?_⟩
  obtain ⟨t, zs, rfl, sq, ez⟩ := h i v y e1 e2
  obtain ⟨ps, hP, _⟩ := tab
  have atP : s1.heap.get? P = some { cls := .none, data := .fields ps } := I.hok P _ hP
  obtain ⟨its, rv, isT, small⟩ := I.tuple sq
  cases (show u = Value.ref t from rel)
  obtain ⟨w, ew, rw'⟩ := rv.get ez
  have ne : t ≠ P := tupNotTab isT atP
  have isT2 : IsTup s2.heap t its.toArray := let ⟨o, e, r⟩ := isT; ⟨o, keep t o ne e, r⟩
  refine Subscript_ ?_
  refine wpAny_Name (wpAny_loadName_local (by rw [hsc]; exact hk) (show cenv.scope.names.lookup x = some .local by rw [hsc]; exact hl) hn hm ?_) hd
  refine wpAny_Constant_int ?_
  have hlt : k < its.length := (List.getElem?_eq_some_iff.mp ew).1
  have big : k < 2 ^ 63 := Nat.lt_trans kS (by decide)
  refine subscriptTail_builtinR (x := w) (s := { s2 with toks := s2.toks + 1 }) (T := "tuple") (show Shared.TypeIs _ (.ref t) "tuple" from let ⟨o, e, c, _⟩ := isT2; ⟨o, e, c⟩) slot_tuple_getitem.lookup
    (PyProof.Rows.getItem_tuple (j := k) (Q := fun r s' => r = w ∧ RelV y r ∧ Keeps s2 s') isT2 (by omega) (by exact_mod_cast big) ?_ (by simpa using ew) ⟨rfl, rw', GxR.keeps_tok _ _⟩) rfl
  rw [seqIndex_of (Int.natCast_nonneg k) (by simp; omega)]
  simp
end Sa

set_option Elab.async false
set_option linter.all false
set_option maxRecDepth 100000
set_option maxHeartbeats 2000000
/-! Sa.Max: max(elt for x in e), elements that call abs -/
namespace Sa
open PySem PySem.Spec PyProof.Rows L2
/-- a namespace that stands ahead of the generator's making stands in it, too -/
theorem nsKeep {X : Cx} {P b : Addr} {pins : List (Addr × Obj)} {σ : L2.St} {H : Hp} {s1 s2 : Shared} {m : Str → Option Value} {ps : Array Value} (I : Inv X pins σ H s1) (hP : H P = some (.tbl ps)) (keep : ∀ d o, d ≠ P → s1.heap.get? d = some o → s2.heap.get? d = some o)
    (n : X.base.Ns b m) : s2.heap.Ns b m := by
  have atP : s1.heap.get? P = some { cls := .none, data := .fields ps } := I.hok P _ hP
  obtain ⟨o, es, ep, e, d, r⟩ := n.keeps I.bk
  refine ⟨o, es, ep, keep b o (fun z => ?_) e, d, r⟩
  rw [z, atP] at e
  cases e
  cases d
/-- abs(x), the walked things ints -/
theorem elt_abs {X : Cx} {P : Addr} {scope : Scope} {x : Str} {p1 p2 p3 : Pos} {H : Hp} {ns : List Int} (hk : scope.kind = .function) (hl : scope.names.lookup x = some .local) (ha : scope.names.lookup ("abs" : Str) = some .globalImplicit) (hm : X.mg "abs" = none) (tab : Tb H P)
    (hd : (x == ("__debug__" : Str)) = false := by decide) :
    EltOf X P scope x (.Call (.Name "abs" p1) [.Name x p2] [] p3) H (ns.map V.int) ((ns.map fun n => if n < 0 then -n else n).map V.int) := by
  refine ⟨by simp, fun pins σ s1 I i v y u e1 e2 rel cenv A' E' s2 m2 hsc hgl hbl hA hn hmx keep => ?_⟩
  obtain ⟨ps, hP, _⟩ := tab
  obtain ⟨n, en, rfl⟩ : ∃ n, ns[i]? = some n ∧ v = .int n := by
    rw [List.getElem?_map] at e1
    cases q : ns[i]? with
    | none => rw [q] at e1; cases e1
    | some n => rw [q] at e1; cases e1; exact ⟨n, rfl, rfl⟩
  rw [List.getElem?_map, List.getElem?_map, en] at e2
  cases e2
  obtain ⟨t, rfl⟩ := (show ∃ t, u = .int n t from rel)
  obtain ⟨mb, h1, h2⟩ := I.mod.blt
  have gl : s2.heap.Ns cenv.globals X.mg := by
    rw [hgl, I.ok.glob]
    exact nsKeep I hP keep I.mod.glob
  have bl : s2.heap.Ns cenv.builtins mb := by
    rw [hbl]
    exact nsKeep I hP keep h1
  refine wpAny_Call_Name_kw ?_
  refine Calls.Name_function_global (by rw [hsc]; exact hk) (show cenv.scope.names.lookup ("abs" : Str) = some .globalImplicit by rw [hsc]; exact ha) (Calls.loadGlobal_builtin gl hm bl ((h2 _ (by decide)).trans PyProof.Rows.boot_abs) ?_)
  refine PyProof.Rows.callWith_builtin1 ?_ (by rfl) (by rfl)
  show wpAny _ _ (spliced ((false, eval (.Name x p2) cenv) :: backTo p3 (starEach [] cenv))) _ _ s2
  refine Calls.spliced_cons ?_
  refine wpAny_Name (wpAny_loadName_local (by rw [hsc]; exact hk) (show cenv.scope.names.lookup x = some .local by rw [hsc]; exact hl) hn hmx ?_) hd
  refine Calls.spliced_nil ?_
  exact call_abs_int fun u tk => ⟨⟨_, rfl⟩, GxR.keeps_tok _ _⟩
section
variable {X : Cx}
/-- max(elt for x in e), ints -/
def tMaxG (X : Cx) (P : Addr) (scope : Scope) (x : Str) (elt : Expr) (te : TE) : TE := fun σ H Q => te σ H fun v H1 => ∃ b a xs ys, v = .ref a ∧ SqB X.K H1 b a xs ∧ Tb H1 P ∧ EltOf X P scope x elt H1 xs ys ∧
  ∃ ns : List Int, ys = ns.map V.int ∧ 0 < ns.length ∧ ∀ m H2, TbTo P H1 H2 → m ∈ ns → (∀ y ∈ ns, y ≤ m) → Q (.int m) H2
theorem pe_maxG {c P : Addr} {elt iter : Expr} {x : Str} {px p pos gpos : Pos} {scope : Scope} {te : TE} {k : Nat}
    (hr : Room k X.A) (hg : Gl X "max") (hm : X.mg "max" = none) (TB : LamX.TabB X.base X.mg c P) (hcode : X.env.code = .ref c) (S : GxR.GenS X.env scope x) (hi : PE X iter te)
    (hs : ∀ v, genFold iter X.env v = pure v)
    (he : starEach [.GeneratorExp elt [⟨.Name x px, iter, [], 0⟩] scope gpos] X.env = (false, eval (.GeneratorExp elt [⟨.Name x px, iter, [], 0⟩] scope gpos) X.env) :: starEach [] X.env := by rfl) :
    PE X (.Call (.Name "max" p) [.GeneratorExp elt [⟨.Name x px, iter, [], 0⟩] scope gpos] [] pos) (tMaxG X P scope x elt te) := by
  refine ⟨fun pins s σ H Q I h => ?_⟩
  refine wpAny_Call_Name_kw (ld_blt (u := .builtin "max") I hg hm (by decide +kernel) ?_)
  refine PyProof.Rows.callWith_builtin1 ?_ he (by rfl)
  rw [he]
  show wpAny _ _ (spliced ((false, eval (.GeneratorExp elt [⟨.Name x px, iter, [], 0⟩] scope gpos) X.env) :: backTo pos (starEach [] X.env))) _ _ s
  refine Calls.spliced_cons (gen_seq (R := fun ys H1 => ∃ ns : List Int, ys = ns.map V.int ∧ 0 < ns.length ∧ ∀ m H2, TbTo P H1 H2 → m ∈ ns → (∀ y ∈ ns, y ≤ m) → Q (.int m) H2) hr TB hcode S hi hs I h fun ys H1 g s5 goal ready => ?_)
  obtain ⟨ns, rfl, many, goal⟩ := goal
  obtain ⟨fp, wr, G, F, St, W, start, out, isGen, below, mem, back⟩ := ready
  refine Calls.spliced_nil ?_
  have W := W.in4_1
  have hval : ∀ j v, F j v → ∃ t, v = Value.int (ns.getD j 0) t := fun j v hv => by
    obtain ⟨y, ey, ry⟩ := out j v hv
    rw [List.getElem?_map] at ey
    cases q : ns[j]? with
    | none => rw [q] at ey; cases ey
    | some n =>
      rw [q] at ey
      cases ey
      obtain ⟨t, e⟩ := (show ∃ t, v = Value.int n t from ry)
      exact ⟨t, by rw [e, List.getD_eq_getElem?_getD, q]; rfl⟩
  refine call_max_walkS (W.self 0 _ _ _ start ⟨g, _, _, _, _, _, _, _, rfl, W, start, below, by rw [List.length_map]; exact many, CmpOf.ints_gt (fun j => ns.getD j 0) hval, fun v s' hv hm => ?_⟩)
  obtain ⟨t, rfl⟩ := hval _ v hv
  obtain ⟨H2, tab, J⟩ := back s' hm
  obtain ⟨hb1, hb2⟩ := argBest_gt (fun j => ns.getD j 0) ((ns.map V.int).length - 1)
  rw [List.length_map] at hb1 hb2
  have lt : argBest (fun i j => decide (ns.getD i 0 > ns.getD j 0)) (ns.length - 1) < ns.length := Nat.lt_of_le_of_lt hb1 (by omega)
  have at' : ∀ j, j < ns.length → ns.getD j 0 = ns[j]! := fun j hj => by simp [List.getD_eq_getElem?_getD, hj]
  refine ⟨.int _, H2, J, ⟨t, rfl⟩, goal _ H2 tab ?_ fun y hy => ?_⟩
  · rw [List.length_map, List.getD_eq_getElem?_getD, List.getElem?_eq_getElem lt]
    exact List.getElem_mem lt
  · obtain ⟨i, hi', rfl⟩ := List.getElem_of_mem hy
    have z := hb2 i (by omega)
    rw [List.length_map]
    rw [List.getD_eq_getElem?_getD, List.getElem?_eq_getElem hi'] at z
    exact z
end
end Sa

set_option Elab.async false
set_option linter.all false
set_option maxRecDepth 100000
set_option maxHeartbeats 2000000
/-! Sa.Rev: t[::-1] of a tuple -/
namespace Sa
open PySem PySem.Spec PyProof.Rows L2
section
variable {prog : Program} {w : World} {A : Around} {E : Value → Shared → Prop} {s : Shared}
theorem adjustBack (n : Nat) : Builtin.Slice.sliceAdjust none none (-1) (n : Int) = ((n : Int) - 1, -1) := by
  unfold Builtin.Slice.sliceAdjust
  simp
theorem placesBack (n : Nat) : Builtin.Slice.slicePlaces ((n : Int) - 1) (-1) (-1) = n := by
  unfold Builtin.Slice.slicePlaces
  simp
  try omega
theorem appliedBack {sl : Addr} {v3 : Value} {n : Nat} {Q : Int × Int × Nat → Shared → Prop} (isSl : s.heap.IsSliceOf sl .none .none v3) (p3 : IsPart v3 (some (-1)))
    (h : Q ((n : Int) - 1, -1, n) s) : wpAny (model prog w) A (Builtin.Slice.sliceApplied (.ref sl) (pure (n : Int))) Q E s := by
  obtain ⟨ob, at', cl, dt⟩ := id isSl
  unfold Builtin.Slice.sliceApplied Builtin.Slice.sliceFields
  refine wpAny_bind (wpAny_bind (wpAny_field at' dt (x := .none) rfl (wpAny_bind (wpAny_field at' dt (x := .none) rfl (wpAny_bind (wpAny_field at' dt (x := v3) rfl (wpAny_pure ?_)))))))
  refine wpAny_bind (HT.slicePart_ p3 ?_)
  show wpAny _ _ (if ((-1 : Int) == 0) = true then _ else _) _ _ s
  rw [if_neg (by decide)]
  refine wpAny_bind (HT.slicePart_ .none (wpAny_bind (HT.slicePart_ .none (wpAny_bind (wpAny_pure ?_)))))
  show wpAny _ _ (match Builtin.Slice.sliceAdjust none none (-1) (n : Int) with | (lo, hi) => pure (lo, (-1 : Int), Builtin.Slice.slicePlaces lo hi (-1))) _ _ s
  rw [adjustBack n]
  show wpAny _ _ (pure ((n : Int) - 1, (-1 : Int), Builtin.Slice.slicePlaces ((n : Int) - 1) (-1) (-1))) _ _ s
  rw [placesBack]
  exact wpAny_pure h
theorem fmCongr {α β : Type} {f g : α → Option β} : ∀ {l : List α}, (∀ x ∈ l, f x = g x) → l.filterMap f = l.filterMap g
  | [], _ => rfl
  | x :: l, h => by
    rw [List.filterMap_cons, List.filterMap_cons, h x List.mem_cons_self, fmCongr fun y hy => h y (List.mem_cons_of_mem _ hy)]
theorem pickBack (xs : Array Value) : ((List.range xs.size).filterMap fun (m : Nat) => xs[(((xs.size : Int) - 1) + (m : Int) * -1).toNat]?).toArray = xs.toList.reverse.toArray := by
  have e : ((List.range xs.size).filterMap fun (m : Nat) => xs[(((xs.size : Int) - 1) + (m : Int) * -1).toNat]?) = ((List.range xs.size).map fun k => xs.size - 1 - k).filterMap (xs[·]?) := by
    rw [List.filterMap_map]
    refine fmCongr fun k hk => ?_
    have lt := List.mem_range.mp hk
    have q : (((xs.size : Int) - 1) + (k : Int) * -1).toNat = xs.size - 1 - k := by omega
    show xs[(((xs.size : Int) - 1) + (k : Int) * -1).toNat]? = xs[xs.size - 1 - k]?
    rw [q]
  rw [e, PySem.W.krv_range, List.filterMap_reverse, PySem.W.krv_all]
theorem item_back {t sl : Addr} {items : Array Value} {v3 : Value} {Q : Value → Shared → Prop} (isT : IsTup s.heap t items) (isSl : s.heap.IsSliceOf sl .none .none v3) (p3 : IsPart v3 (some (-1)))
    (h : Q (.ref s.heap.objs.size) { s with heap := s.heap.push { cls := .type "tuple", data := .seq items.toList.reverse.toArray } }) (small : items.size ≤ sizeLine) : wpAny (model prog w) A (getItem (.ref t) (.ref sl)) Q E s := by
  have fits : sizeOk (.seq items.toList.reverse.toArray) := by
    show items.toList.reverse.toArray.size ≤ sizeLine
    simpa using small
  obtain ⟨ob, at', cl, dt⟩ := id isSl
  have isS : s.TypeIs (.ref sl) "slice" := ⟨ob, at', cl⟩
  unfold getItem
  try with_reducible refine wpAny_holding ?_
  first | refine wpAny_bind (wpAny_pure ?_) | skip
  refine wpAny_bind (wpAny_sequenceKey isT.typeIs (by decide) ?_)
  refine wpAny_bind (wpAny_callSpecial?_slot (name := Str.ofString "__getitem__") isT.typeIs PyProof.Rows.slot_tuple_getitem
    (wpAny_call_entry PyProof.Rows.slot_tuple_getitem isT.typeIs entry_tuple_getitem ?_ (args_tuple_getitem _ _)))
  show wpAny _ _ (Builtin.Tuple.tupleItemsOf (.ref t) >>= _) _ _ s
  refine wpAny_bind (tupleItemsOf_ isT ?_)
  refine wpAny_bind (wpAny_typeOf isS ?_)
  rw [if_pos (by decide)]
  refine wpAny_bind (appliedBack isSl p3 ?_)
  have no : ¬ ((((items.size : Int) - 1) == 0 && (-1 : Int) == 1 && items.size == items.size) = true) := by simp
  show wpAny _ _ (if ((((items.size : Int) - 1) == 0 && (-1 : Int) == 1 && items.size == items.size) = true) then _ else _) _ _ s
  rw [if_neg no, pickBack]
  first
    | exact wpAny_bind (m := Builtin.Tuple.tupleExact _) (wpAny_newObj_type (wpAny_pure ⟨_, rfl, wpAny_pure h⟩) fits)
    | exact wpAny_bind (m := Builtin.Tuple.tupleExact _) (wpAny_newObj_type (wpAny_bind (wpAny_pure (wpAny_pure ⟨_, rfl, wpAny_pure h⟩))) fits)
    | exact wpAny_bind (wpAny_bind (m := Builtin.Tuple.tupleExact _) (wpAny_newObj_type (wpAny_pure (wpAny_pure ⟨_, rfl, wpAny_pure h⟩)) fits))
    | exact wpAny_bind (wpAny_bind (m := Builtin.Tuple.tupleExact _) (wpAny_newObj_type (wpAny_pure ⟨_, rfl, wpAny_pure h⟩) fits))
end
section
variable {X : Cx}
/-- t[::-1], a tuple -/
def tRevT (K : PySem.W.Frag) (te : TE) : TE := fun σ H Q => te σ H fun x H1 => ∃ a xs, x = .ref a ∧ SqT K H1 a xs ∧ ∀ p, H1 p = none → Q (.ref p) (upd H1 p (.tup xs.reverse))
theorem pe_revT {e : Expr} {te : TE} {k : Nat} {p1 p2 p3 pos : Pos} (he : PE X e te) : PE X (.Subscript e (.Slice none none (some (.UnaryOp .USub (.Constant (.int 1) k p1) p2)) p3) pos) (tRevT X.K te) := by
  refine ⟨fun pins s σ H Q I h => Subscript_ (thn (he.run pins s σ H _ I h) fun v s1 ⟨x, H1, I1, r1, q1⟩ => ?_)⟩
  obtain ⟨a, xs, rfl, hx, q⟩ := q1
  cases r1
  have step : PO X (some (.UnaryOp .USub (.Constant (.int 1) k p1) p2)) (tPart (tUn (rU fun i => .int (-i)) (tC (.int 1)))) := po_some (pe_un un_neg pe_int)
  refine wpAny_Slice (thn (po_none.run pins s1 σ H1 (fun o H2 => o = none ∧ H2 = H1) I1 ⟨rfl, rfl⟩) fun va s2 ⟨l, H2, I2, pa', el, e2⟩ => ?_)
  subst el e2
  refine thn (po_none.run pins s2 σ H2 (fun o H3 => o = none ∧ H3 = H2) I2 ⟨rfl, rfl⟩) fun vb s3 ⟨u, H3, I3, pb', eu, e3⟩ => ?_
  subst eu e3
  refine thn (step.run pins s3 σ H3 (fun o H4 => o = some (-1) ∧ H4 = H3) I3 ⟨1, rfl, -1, rfl, rfl, rfl⟩) fun vc s4 ⟨o, H4, I4, pc', eo, e4⟩ => ?_
  subst eo e4
  cases pa'
  cases pb'
  have I5 : Inv X pins σ H4 { s4 with heap := s4.heap.push { cls := .type "slice", data := .fields #[.none, .none, vc] } } := I4.kept (t' := s4.toks) fun b ob q => Heap.get?_push_of_some _ q
  obtain ⟨its, r, isT, small⟩ := I5.tuple hx
  have len := r.length
  show wpAny (model X.prog X.w) X.A (subscriptTail e (.Slice none none (some (.UnaryOp .USub (.Constant (.int 1) k p1) p2)) p3) (.ref a) (.ref s4.heap.objs.size)) (EP X pins σ Q) X.xe { s4 with heap := s4.heap.push { cls := .type "slice", data := .fields #[.none, .none, vc] } }
  refine tail_any (ops := [.ref a, .ref s4.heap.objs.size]) isT.typeIs PyProof.Rows.slot_tuple_getitem.lookup ?_ (by with_unfolding_all rfl)
  refine item_back isT (Heap.IsSliceOf.new _ .none .none vc) pc' ?_ (by rw [List.size_toArray]; omega)
  refine ⟨.ref _, _, I5.laid (t' := s4.toks) (o := .tup xs.reverse) (fun b ob q => Heap.get?_push_of_some _ q) (Nat.le_refl _) ?_, rfl, q _ (I5.hok.fresh (Nat.le_refl _))⟩
  exact ⟨by rw [List.length_reverse]; exact small, _, r.reverse, IsTup.new _ _⟩
end
end Sa

set_option Elab.async false
set_option linter.all false
set_option maxRecDepth 100000
set_option maxHeartbeats 2000000
/-! Sa.Key: data of None, truths, ints, texts, tuples as keys -/
namespace Sa
open PySem PySem.Spec PyProof.Rows L2

mutual
/-- the key that such data is -/
def nk : PyData → NestedKey
  | .bool b => .num (if b = true then 1 else 0)
  | .int i => .num i
  | .str x => .text x
  | .tuple ds => .tup (nks ds)
  | _ => .none
def nks : List PyData → List NestedKey
  | [] => []
  | d :: ds => nk d :: nks ds
end
mutual
/-- no list, no dict in it -/
def flat : PyData → Bool
  | .none => true
  | .bool _ => true
  | .int _ => true
  | .str _ => true
  | .tuple ds => flats ds
  | _ => false
def flats : List PyData → Bool
  | [] => true
  | d :: ds => flat d && flats ds
end
mutual
theorem nk_is {h : Heap} : ∀ (d : PyData) (v : Value) (as : List Addr), Reads h v d as → flat d = true → NestedIs h (nk d) v
  | .none, _, _, r, _ => by cases r; exact .none
  | .bool b, _, _, r, _ => by cases r; exact .bool rfl
  | .int i, _, _, r, _ => by cases r; exact .int i _
  | .str x, _, _, r, _ => by cases r; exact .text x _
  | .tuple ds, _, _, r, f => by
    cases r with
    | tuple ho hc hd hr => exact .tup ho hc hd (nks_are ds _ _ hr f)
  | .list ds, _, _, _, f => by cases f
  | .dict ds, _, _, _, f => by cases f
theorem nks_are {h : Heap} : ∀ (ds : List PyData) (vs : List Value) (as : List Addr), ReadsAll h vs ds as → flats ds = true → NestedAll h (nks ds) vs
  | [], _, _, r, _ => by cases r; exact .nil
  | d :: ds, _, _, r, f => by
    have f' : (flat d && flats ds) = true := f
    rw [Bool.and_eq_true] at f'
    cases r with
    | cons r1 r2 => exact .cons (nk_is d _ _ r1 f'.1) (nks_are ds _ _ r2 f'.2)
end

section
variable {P : Program} {w : World} {E : Value → Shared → Prop}
mutual
/-- whether a hash goes by value: some answer, nothing changed -/
theorem hashBy_key : ∀ (k : NestedKey) (v : Value) (n : Nat) (A : Around) (s : Shared) (Q : Bool → Shared → Prop), NestedIs s.heap k v → (∀ b, Q b s) → wpAny (model P w) A (hashByValue n v) Q E s
  | .none, _, n, A, s, Q, x, h => by
    cases x
    rw [show hashByValue n Value.none = pure true by cases n <;> rfl]
    exact wpAny_pure (h true)
  | .num i, _, n, A, s, Q, x, h => by
    cases x with
    | bool _ =>
      rw [show ∀ b, hashByValue n (Value.bool b) = pure true by intro b; cases n <;> rfl]
      exact wpAny_pure (h true)
    | int _ t =>
      rw [show hashByValue n (Value.int i t) = pure true by cases n <;> rfl]
      exact wpAny_pure (h true)
  | .text y, _, n, A, s, Q, x, h => by
    cases x with
    | text _ t =>
      rw [show hashByValue n (Value.str y t) = pure false by cases n <;> rfl]
      exact wpAny_pure (h false)
  | .tup ks, v, 0, A, s, Q, x, h => by
    cases x with
    | @tup a o vs m _ ho hc hd hall =>
      rw [show hashByValue 0 (Value.ref a) = pure false from rfl]
      exact wpAny_pure (h false)
  | .tup ks, v, n + 1, A, s, Q, x, h => by
    cases x with
    | @tup a o vs m _ ho hc hd hall =>
      unfold hashByValue
      refine wpAny_bind (wpAny_specialOf (T := "tuple") ⟨o, ho, hc⟩ F.slot_tuple_hash.lookup ?_)
      show wpAny _ _ (seqItems? (.ref a) >>= _) _ _ s
      refine wpAny_bind (wpAny_seqItems ho hd ?_)
      refine wpAny_bind ?_
      show wpAny _ _ (forIn vs _ _) _ _ s
      rw [← Array.forIn_toList]
      refine wpAny_forIn_list _ (fun rest r s' => s' = s ∧ ∀ u ∈ rest, ∀ Q' : Bool → Shared → Prop, (∀ b, Q' b s) → wpAny (model P w) A (hashByValue n u) Q' E s) _ ?_ ?_ _ _ ⟨rfl, hashBy_keys ks _ n A s hall⟩
      · rintro u rest r s' ⟨rfl, each⟩
        refine wpAny_bind (each u List.mem_cons_self _ fun b => ?_)
        cases b with
        | true =>
          simp only [Bool.not_true, Bool.false_eq_true, if_false]
          exact wpAny_pure ⟨rfl, fun y hy => each y (List.mem_cons_of_mem _ hy)⟩
        | false =>
          simp only [Bool.not_false, if_true]
          exact wpAny_pure (wpAny_pure (h false))
      · rintro ⟨r1, r2⟩ s' hr
        obtain ⟨rfl, _⟩ := hr
        cases r1 with
        | none => exact wpAny_pure (h _)
        | some b => exact wpAny_pure (h _)
theorem hashBy_keys : ∀ (ks : List NestedKey) (vs : List Value) (n : Nat) (A : Around) (s : Shared), NestedAll s.heap ks vs → ∀ u ∈ vs, ∀ Q : Bool → Shared → Prop, (∀ b, Q b s) → wpAny (model P w) A (hashByValue n u) Q E s
  | [], _, n, A, s, x, u, hu => by cases x; cases hu
  | k :: ks, _, n, A, s, x, u, hu => by
    cases x with
    | cons x1 x2 =>
      intro Q h
      rcases List.mem_cons.mp hu with z | z
      · rw [z]; exact hashBy_key k _ n A s Q x1 h
      · exact hashBy_keys ks _ n A s x2 u z Q h
end
end
end Sa

set_option Elab.async false
set_option linter.all false
set_option maxRecDepth 100000
set_option maxHeartbeats 3200000
/-! Sa.Set1: set([x]) and sorted of it, x a tuple of data -/
namespace Sa
open PySem PySem.Spec PyProof.Rows L2

/-- the set at a has x alone in it -/
structure One (w : World) (h : Heap) (a x : Addr) : Prop where
  ex : ∃ (o : Obj) (es : Array (Int × Value)) (ep : Nat) (t : SetTable) (hs : Int), h.get? a = some o ∧ o.ExactSet ∧ o.data = .set es ep t ∧ es.toList = [(hs, Value.ref x)] ∧ TabOk t [hs] ∧ (w.params.followText "set-order" = true ∨ t.led = true) ∧ 5 < t.mask * 3

abbrev emptySet (w : World) : Obj := { cls := .type "set", dict := none, data := .set #[] 0 (.fresh 0 0 (!w.params.followText "set-order")) }

section
variable {P : Program} {w : World} {A : Around} {E : Value → Shared → Prop} {s : Shared}

theorem freshTab (w : World) : TabOk (.fresh 0 0 (!w.params.followText "set-order")) [] where
  ris := .nil
  dm := rfl
  sz := rfl
  mok := .inl rfl
  bd := fun x hx => nomatch hx
  reach := fun i h j hi => by simp at hi
theorem freshFits (w : World) : (SetTable.fresh 0 0 (!w.params.followText "set-order")).fits (#[] : Array (Int × Value)).size = true := by
  cases w.params.followText "set-order" <;> decide +kernel

/-- adding to the empty set -/
theorem add_first {a x : Addr} {k : NestedKey} (ho : s.heap.get? a = some (emptySet w)) (hx : NestedIs s.heap k (.ref x)) {Q : Bool → Shared → Prop}
    (hQ : ∀ b h', Heap.SameBut a s.heap h' → One w h' a x → Q b { s with heap := h' }) :
    wpAny (model P w) A (setAddHashed a (.ref x) (k.hash w)) Q E s := by
  have T := freshTab w
  have fits := freshFits w
  have gw : ¬ (SetTable.fresh 0 0 (!w.params.followText "set-order")).gaveWay = true := by
    cases w.params.followText "set-order" <;> decide +kernel
  have plain : (SetTable.fresh 0 0 (!w.params.followText "set-order")).plain = true := rfl
  have led : w.params.followText "set-order" = true ∨ (SetTable.fresh 0 0 (!w.params.followText "set-order")).led = true := by
    show _ ∨ (!w.params.followText "set-order") = true
    cases w.params.followText "set-order"
    · exact .inr rfl
    · exact .inl rfl
  have mask : (SetTable.fresh 0 0 (!w.params.followText "set-order")).mask = 7 := rfl
  generalize htab : SetTable.fresh 0 0 (!w.params.followText "set-order") = t at T fits gw plain led mask ho
  have hob : s.heap.get? a = some { cls := .type "set", dict := none, data := .set #[] 0 t } := by
    rw [ho, ← htab]
  have empty0 : way t.mask (k.hash w) 0 ∉ t.place.toList := by
    have z : t.place.size = 0 := T.sz
    have z2 : t.place = #[] := Array.size_eq_zero_iff.mp z
    rw [z2]
    intro q
    cases q
  unfold setAddHashed
  refine wpAny_holding ?_
  rw [show (100000 : Nat) = 99999 + 1 from rfl, setAddHashedIn_succ]
  refine wpAny_bind (wpAny_setState_of hob rfl fits ?_)
  dsimp only
  refine wp_if_neg (by simp [byScan, Value.scannable]) ?_
  try refine wpAny_bind (wpAny_pure ?_)
  refine wpAny_bind ?_
  unfold setSearch
  rw [show (100000 : Nat) = 99999 + 1 from rfl, setSearchFrom_succ]
  refine wpAny_bind (wpAny_setState_of hob rfl fits ?_)
  dsimp only
  refine wp_if_neg gw ?_
  try refine wpAny_bind (wpAny_pure ?_)
  have met : t.probe (fun i => ((#[] : Array (Int × Value))[i]?.map (·.1)).getD 0) (k.hash w) ((none : Option SetTable.Probe).getD (t.probeStart (k.hash w))) = some (.empty (way t.mask (k.hash w) 0) none) := by
    rcases go_spec t T.ris T.dm (fun i => ((#[] : Array (Int × Value))[i]?.map (·.1)).getD 0) (k.hash w) (10 * SetTable.turns t.mask) 0 (t.probeStart (k.hash w)) rfl (by rw [mask]; decide) (fun q hq => absurd hq (Nat.not_lt_zero _)) empty0 with ⟨q, i, hq, _⟩ | ⟨_, hp⟩
    · exact absurd hq (Nat.not_lt_zero _)
    · exact hp
  rw [met]
  dsimp only
  refine wpAny_pure ?_
  dsimp only
  refine wpAny_bind (wpAny_setState_of hob rfl fits ?_)
  dsimp only
  obtain ⟨q1, q2, q3, q4, q5, q6, q7, q8, q9⟩ := T.put (h := k.hash w) (K := 0) empty0 (fun q hq => absurd hq (Nat.not_lt_zero _))
  generalize hput : t.put (way t.mask (k.hash w) 0) = pt at q1 q3 q4 q5 q6 q7 q8 q9 ⊢
  obtain ⟨t1, p⟩ := pt
  dsimp only at q1 q3 q4 q5 q6 q7 q8 q9 ⊢
  subst q1
  have below0 : SetTable.below t.place (way t.mask (k.hash w) 0) = 0 := Nat.le_zero.mp q2
  rw [below0] at q3 ⊢
  have q3' : TabOk t1 [k.hash w] := q3
  have goOn : ∀ b : Bool, wpAny (model P w) A (do
      let t := if b = true then t1 else { t1 with plain := false }
      storeSet a (SetTable.insertAt #[] 0 (k.hash w, Value.ref x)) t
      if (!false && t.tooFull) = true then setRelay a (SetTable.grown ((#[] : Array (Int × Value)).size + 1))
      return true) Q E s := by
    intro b
    generalize ht2 : (if b = true then t1 else { t1 with plain := false }) = t2
    have m2 : t2.mask = 7 ∧ t2.led = t.led ∧ TabOk t2 [k.hash w] ∧ t2.fill = 1 := by
      rw [← ht2]
      cases b with
      | true => exact ⟨q4.trans mask, q5, q3', q9⟩
      | false => exact ⟨q4.trans mask, q5, ⟨q3'.ris, q3'.dm, q3'.sz, q3'.mok, q3'.bd, q3'.reach⟩, q9⟩
    obtain ⟨mk2, ld2, tab2, fill2⟩ := m2
    have notFull : t2.tooFull = false := by
      unfold SetTable.tooFull
      rw [fill2, mk2]
      decide
    have size1 : (SetTable.insertAt (#[] : Array (Int × Value)) 0 (k.hash w, Value.ref x)).size = 1 := by
      have e := congrArg List.length (SetTable.toList_insertAt (#[] : Array (Int × Value)) 0 (k.hash w, Value.ref x))
      simpa using e
    dsimp only
    refine wpAny_bind (wpAny_storeSet_of hob rfl ?_ (by rw [size1]; decide))
    have sb : Heap.SameBut a s.heap (s.heap.update a (Obj.putSet (SetTable.insertAt #[] 0 (k.hash w, Value.ref x)) t2)) := Heap.SameBut.update ..
    have ho2 := store_at (es' := SetTable.insertAt #[] 0 (k.hash w, Value.ref x)) (t' := t2) hob rfl
    have fin : wpAny (model P w) A (pure true : Sem Bool) Q E { s with heap := s.heap.update a (Obj.putSet (SetTable.insertAt #[] 0 (k.hash w, Value.ref x)) t2) } := by
      refine wpAny_pure (hQ true _ sb ⟨_, _, _, t2, k.hash w, ho2, ⟨rfl, rfl, rfl⟩, rfl, ?_, tab2, by rw [ld2]; exact led, by rw [mk2]; decide⟩)
      rw [SetTable.toList_insertAt]
      rfl
    first
      | (refine wp_if_neg (by simp [notFull]) ?_; exact fin)
      | (refine wpAny_bind ?_; refine wp_if_neg (by simp [notFull]) ?_; refine wpAny_pure ?_; exact fin)
  have plain1 : t1.plain = true := q6.trans plain
  first
    | (refine wpAny_bind ?_; refine wp_if_pos plain1 ?_; exact hashBy_key k _ 8 A s _ hx goOn)
    | exact wp_if_pos plain1 (wpAny_bind (hashBy_key k _ 8 A s _ hx goOn))
end
end Sa

set_option Elab.async false
set_option linter.all false
set_option maxRecDepth 100000
set_option maxHeartbeats 3200000
/-! Sa.Set2: the calls set([x]), sorted(set) -/
namespace Sa
open PySem PySem.Spec PyProof.Rows L2
section
variable {P : Program} {w : World} {A : Around} {E : Value → Shared → Prop} {s : Shared}
theorem One.at {h h' : Heap} {a x : Addr} (o : One w h a x) (k : ∀ ob, h.get? a = some ob → h'.get? a = some ob) : One w h' a x := by
  obtain ⟨ob, es, ep, t, hs, ho, rest⟩ := o.ex
  exact ⟨ob, es, ep, t, hs, k ob ho, rest⟩
/-- set.update's loop over one item -/
theorem update_one {I S x : Addr} {k : NestedKey} {fp wr : List Addr} {G : Array GenState → Array GenState → Prop} {Pv : Nat → Value → Prop} {St : Nat → Shared → Prop} {R : Result → Shared → Prop}
    (W : WalksS P w A.in1 I fp wr G 1 Pv St) (hSf : S ∉ fp) (value : ∀ v, Pv 0 v → v = .ref x) (start : St 0 s) (hS : s.heap.get? S = some (emptySet w))
    (hk : ∀ s', Moved wr G s s' → NestedIs s'.heap k (.ref x)) (room : A.units + 1 + k.depth < cLine)
    (hR : ∀ s', Moved (S :: wr) G s s' → One w s'.heap S x → R (.ok (.ret .none)) s') :
    codeAny (model P w) A (.builtin "set.update.loop" ⟨[.ref S, .ref I], []⟩) R s := by
  have hSw : S ∉ wr := fun z => hSf (W.sub _ z)
  have wider : ∀ b ∈ wr, b ∈ S :: wr := fun b hb => List.mem_cons_of_mem _ hb
  refine codeAny_builtin F.entry_set_update_loop ?_
  rw [Around.under_plainId F.plain_set_update_loop _]
  show wpAny _ A.in1 (pyNext (.ref I) >>= _) _ _ s
  refine wpAny_bind (W.item 0 s _ _ Nat.zero_lt_one start fun v s1 hv st1 m1 => ?_)
  cases value v hv
  show wpAny _ A.in1 (holding [Value.ref x] (setAdd S (.ref x)) >>= _) _ _ s1
  refine wpAny_bind (wpAny_holding ?_)
  unfold setAdd
  refine wpAny_holding ?_
  have hx := hk s1 m1
  refine wpAny_bind (pyHash_key k _ A.in1 s1 _ hx room ?_)
  refine add_first (s := { s1 with toks := s1.toks + k.draws }) (k := k) (m1.heap S _ hSw hS) hx fun b h2 same one => ?_
  refine wpAny_pure ⟨plainId_quiet F.plain_set_update_loop _, ?_⟩
  have st2 : St 1 { s1 with heap := h2, toks := s1.toks + k.draws } := W.frame 1 s1 h2 _ st1 (Nat.le_add_right _ _) fun d hd o e => (same.2 d (fun z => hSf (by rw [← z]; exact hd))).trans e
  have m2 : Moved (S :: wr) G s { s1 with heap := h2, toks := s1.toks + k.draws } := (m1.mono wider).then_heap (Nat.le_add_right _ _) fun d o hd e => (same.2 d (fun z => hd (by rw [z]; exact List.mem_cons_self))).trans e
  refine codeAny_builtin F.entry_set_update_loop ?_
  rw [Around.under_plainId F.plain_set_update_loop _]
  show wpAny _ A.in1 (pyNext (.ref I) >>= _) _ _ _
  refine wpAny_bind (W.done _ _ _ st2 fun s3 m3 => ?_)
  show wpAny _ A.in1 (ret Value.none) _ _ s3
  exact wpAny_pure (hR s3 (Moved.trans W.gtrans m2 (m3.mono wider)) (one.at fun ob e => m3.heap S ob hSw e))

/-- set(xs), xs a list of one tuple -/
theorem call_set_one {l x : Addr} {k : NestedKey} {Q : Value → Shared → Prop} (calm : A.handled = none) (hl : s.heap.IsList l #[.ref x]) (hx : NestedIs s.heap k (.ref x)) (room : A.units + 4 + k.depth < cLine)
    (h : ∀ (h' : Heap) (tk : Nat), One w h' s.heap.objs.size x → (∀ b o, s.heap.get? b = some o → h'.get? b = some o) → Q (.ref s.heap.objs.size) { s with heap := h', toks := tk }) :
    wpAny (model P w) A (call (.type "set") [.ref l]) Q E s := by
  obtain ⟨c, tl, hmro⟩ := F.called_set.mro
  have made := F.called_set.made
  have sub := F.called_set.sub
  refine wpAny_call (codeAny_of_tree ?_)
  show wpAny _ _ (callAny (.type "set") _) _ _ _
  refine wpAny_pure ⟨Code.quiet_builtin _ (by decide +kernel), codeAny_builtin F.entry_type_call ?_⟩
  rw [Around.under_plain (weight_type_call_type "set" [.ref l] []) rfl]
  have noType := F.called_set.notType
  have canMake := F.called_set.canCreate
  have checked := F.typeCall_set_1 (.ref l)
  repeat (any_goals (first | assumption | wp_step))
  refine codeAny_mono (code_set_led1 (.ref l) (E := E) (Q₁ := fun obj s1 => obj = .ref s.heap.objs.size ∧ s1 = { s with heap := s.heap.push (emptySet w) }) ⟨rfl, rfl⟩) fun r s1 hr => ?_
  cases r with
  | error e => exact hr
  | ok fl =>
    cases fl with
    | ret obj =>
      obtain ⟨rfl, rfl⟩ := hr
      have hS : (s.heap.push (emptySet w)).get? s.heap.objs.size = some (emptySet w) := Heap.get?_push_size _ rfl
      have isSet : Shared.TypeIs { s with heap := s.heap.push (emptySet w) } (.ref s.heap.objs.size) "set" := ⟨_, hS, rfl⟩
      have lookInit := F.called_set.init.lookup
      have bindInit := F.called_set.init.bind (.ref s.heap.objs.size)
      repeat (any_goals (first | assumption | wp_step))
      refine codeAny_mono (codeAny_call_builtin (R := wants (fun r s2 => r = .none ∧ ∃ h' tk, s2 = { s with heap := h', toks := tk } ∧ One w h' s.heap.objs.size x ∧ (∀ b o, s.heap.get? b = some o → h'.get? b = some o)) E)
        F.called_set.init.plain F.entry_set_init (check_set_init_1 isSet ?_)) fun r2 s2 hr2 => ?_
      · obtain ⟨ol, hol, hcl, nl, hdl⟩ := hl
        obtain ⟨ocls, odict, odata, oslots⟩ := ol
        simp only at hcl hdl
        subst hcl
        subst hdl
        have atL : (s.heap.push (emptySet w)).get? l = some { cls := .type "list", dict := odict, data := .seq #[.ref x] nl, slots := oslots } := Heap.get?_push_of_some _ hol
        have notSet := F.sub_list_set
        have notFrozen := F.sub_list_frozenset
        have notDict : (Value.type "list" == Value.type "dict") = false := by decide
        have isL : (s.heap.push (emptySet w)).IsList l #[.ref x] := ⟨_, atL, rfl, nl, rfl⟩
        unfold Builtin.«set.__init__» noKeywords Builtin.Frozenset.updateFrom
        generalize itDef : pyIter = PI
        wp_walk
        subst itDef
        refine wpAny_pyIter_list isL ?_
        refine wpAny_bind (wpAny_runValue ?_)
        have ltL : l < s.heap.objs.size := Heap.lt_size hol
        have size1 : (s.heap.push (emptySet w)).objs.size = s.heap.objs.size + 1 := Heap.size_push ..
        have calm3 : A.in1.in1.in1.handled = none := calm
        have neI : l ≠ (s.heap.push (emptySet w)).objs.size := by
          rw [size1]
          exact Nat.ne_of_lt (Nat.lt_succ_of_lt ltL)
        have notIn : s.heap.objs.size ∉ [(s.heap.push (emptySet w)).objs.size, l] := by
          rw [size1]
          simp only [List.mem_cons, List.not_mem_nil, or_false, not_or]
          exact ⟨Nat.ne_of_lt (Nat.lt_succ_self _), Nat.ne_of_gt ltL⟩
        have keepAll : ∀ {s' : Shared}, Moved [(s.heap.push (emptySet w)).objs.size] (fun a b => b = a) { s with heap := (s.heap.push (emptySet w)).push { cls := .type "list_iterator", data := .fields #[.ref l, .int 0 0] } } s' → ∀ b o, s.heap.get? b = some o → s'.heap.get? b = some o :=
          fun m b o e => m.heap b o (fun z => by
            have z2 : b = s.heap.objs.size + 1 := by rw [← size1]; exact List.mem_singleton.mp z
            exact absurd (Heap.lt_size e) (by rw [z2]; exact Nat.not_lt.mpr (Nat.le_succ _))) (Heap.get?_push_of_some _ (Heap.get?_push_of_some _ e))
        refine update_one (x := x) (k := k) ((Walks.list calm3 _ l neI #[.ref x]).toS) notIn (fun v hv => ?_) ⟨⟨_, Heap.get?_push_size _ rfl, rfl, rfl⟩, isL.push _⟩ (Heap.get?_push_of_some _ hS)
          (fun s' m => NestedIs.at (fun b o vs n e _ => keepAll m b o e) k _ hx) (by show A.units + 1 + 1 + 1 + k.depth < cLine; omega) fun s' m one => ?_
        · exact (Option.some.inj hv).symm
        · obtain ⟨h', g2, d', tk', os'⟩ := s'
          have eg : g2 = s.gens := m.gens
          have ed : d' = s.drawn := m.drawn
          have eo : os' = s.os := m.os
          subst eg
          subst ed
          subst eo
          show wpAny _ _ _ _ _ _
          refine wpAny_pure ?_
          show wpAny _ _ (ret Value.none) _ _ _
          refine wpAny_pure ⟨rfl, h', tk', rfl, one, fun b o e => m.heap b o (fun z => ?_) (Heap.get?_push_of_some _ (Heap.get?_push_of_some _ e))⟩
          have lt : b < s.heap.objs.size := Heap.lt_size e
          rcases List.mem_cons.mp z with z | z
          · exact Nat.ne_of_lt lt z
          · have z2 : b = s.heap.objs.size + 1 := by rw [← size1]; exact List.mem_singleton.mp z
            exact Nat.ne_of_lt (Nat.lt_succ_of_lt lt) z2
      · cases r2 with
        | error e => exact hr2
        | ok fl2 =>
          cases fl2 with
          | ret r =>
            obtain ⟨rfl, h', tk, rfl, one, kept⟩ := hr2
            repeat (any_goals (first | assumption | wp_step))
            exact h _ _ one kept
          | _ => exact hr2.elim
    | _ => exact hr.elim

end
end Sa

set_option Elab.async false
set_option linter.all false
set_option maxRecDepth 100000
set_option maxHeartbeats 3200000
/-! Sa.Set3: sorted(set) of one, and both as rules of the hand layer -/
namespace Sa
open PySem PySem.Spec PyProof.Rows L2
section
variable {P : Program} {w : World} {A : Around} {E : Value → Shared → Prop} {s : Shared}
/-- sorted(set) of one -/
theorem sorted_one {a x : Addr} {d : PyData} {as : List Addr} {Q : Value → Shared → Prop} (calm : A.handled = none) (one : One w s.heap a x) (hx : Reads s.heap (.ref x) d as) (tupd : ∃ y r, d = .tuple (y :: r)) (al : PySem.W.alike d d = true) (room : A.units + 2 + d.depth < cLine)
    (hQ : ∀ s' p (c : Nat), (∀ b o, s.heap.get? b = some o → s'.heap.get? b = some o) → s'.gens = s.gens → s'.os = s.os → s.heap.objs.size ≤ p → s'.heap.get? p = some (seqObj "list" #[.ref x] c) → Q (.ref p) s') :
    wpAny (model P w) A (call (.builtin "sorted") [.ref a]) Q E s := by
  obtain ⟨o, es, ep, t, hs, ho, exact_, hd, rows, tab, led, wide⟩ := one.ex
  have size1 : es.size = 1 := by
    have e := congrArg List.length rows
    simpa using e
  have fits : t.fits es.size = true := by
    have psz : t.place.size = 1 := tab.sz
    unfold SetTable.fits SetTable.fill
    rw [tab.dm, Bool.and_eq_true, beq_iff_eq, decide_eq_true_eq]
    show t.place.size = es.size ∧ t.place.size + 0 ≤ t.mask
    omega
  refine Calls.call_function_entry kind_sorted plain_sorted entry_sorted (args_sorted1 _) ?_
  unfold Builtin.«sorted»
  refine wpAny_bind (m := checkCount "sorted" 1 1 _) (wpAny_pure ?_)
  refine wpAny_bind (collect_set (A := A.in1) calm ⟨o, ho, exact_.1, hd⟩ fits (by rw [size1]; decide) tab.ris led fun s1 vs kept hz g1 o1 perm => ?_)
  rw [rows] at perm
  have evs : vs = [.ref x] := List.perm_singleton.mp perm
  subst evs
  refine wpAny_bind (wpAny_newList ?_ (by show 1 ≤ sizeLine; decide))
  have atL : (s1.heap.push (seqObj "list" [Value.ref x].toArray 0)).get? s1.heap.objs.size = some (seqObj "list" [Value.ref x].toArray 0) := Heap.get?_push_size _ rfl
  have rd : Reads (s1.heap.push (seqObj "list" [Value.ref x].toArray 0)) (.ref x) d as := PyProof.Rows.Reads.keeps (fun b ob e => Heap.get?_push_of_some _ (kept b ob e)) hx
  have newAddr : s1.heap.objs.size ∉ as := fun z => by
    obtain ⟨ob, e⟩ := PyProof.On.reads_mem_get hx _ z
    exact absurd (Nat.lt_of_lt_of_le (Heap.lt_size e) hz) (Nat.lt_irrefl _)
  refine wpAny_bind (wpAny_holding (PySem.W.list_sort_data (R := fun v b => v = Value.ref x) (enc := fun b : PyData => b) (bs := [d]) (s := { s1 with heap := s1.heap.push (seqObj "list" [Value.ref x].toArray 0) }) atL (.cons rfl .nil) (.cons ⟨as, rd, newAddr⟩ .nil)
    (fun d1 h1 d2 h2 => ?_) (.inl fun d1 h1 => ?_) (by show 1 ≤ sizeLine; decide) (fun b hb => ?_) fun out len each => ?_))
  · rw [List.mem_singleton.mp h1, List.mem_singleton.mp h2]; exact al
  · rw [List.mem_singleton.mp h1]; exact tupd
  · rw [List.mem_singleton.mp hb]; show A.units + 1 + 1 + d.depth < cLine; omega
  · have eo : out = [.ref x] := by
      rw [List.mergeSort_singleton] at each
      cases each with
      | cons e rest =>
        subst e
        cases rest
        rfl
    subst eo
    obtain ⟨c, hc⟩ := sortedHeap_at (vs := [Value.ref x]) (out := [Value.ref x].toArray) atL
    refine wpAny_pure ⟨_, rfl, hQ _ s1.heap.objs.size c (fun b ob e => ?_) g1 o1 hz hc⟩
    have q := kept b ob e
    have lt := Heap.lt_size q
    show (sortedHeap (s1.heap.push (seqObj "list" [Value.ref x].toArray 0)) s1.heap.objs.size [Value.ref x] [Value.ref x].toArray).get? b = some ob
    rw [sortedHeap_old (Nat.ne_of_lt lt) (by rw [size_push']; exact Nat.lt_succ_of_lt lt)]
    exact Heap.get?_push_of_some _ q
end

/-- the set of x alone, as a tracked thing -/
def OneO (w : World) (a x : Addr) : HO := .ext fun h => One w h a x
theorem oneO_new {P : Program} {w : World} {H : Hp} {h : Heap} {a x : Addr} (one : One w h a x) : ObjOk P w H h a (OneO w a x) := by
  obtain ⟨o, _, _, _, _, ho, _⟩ := one.ex
  exact ⟨one, ⟨o, ho⟩, fun h1 h2 q k => One.at q k⟩
section
variable {X : Cx}
/-- set(xs), xs a list of one tuple -/
def rSet1 (K : PySem.W.Frag) (w : World) : List V → Hp → VK → Prop := fun vs H Q => ∃ (l x : Addr) (d : PyData), vs = [.ref l] ∧ SqL K H l [.ref x] ∧ Dp K H (.ref x) d ∧ flat d = true ∧ (nk d).depth ≤ 20 ∧ ∀ a, H a = none → Q (.ref a) (upd H a (OneO w a x))
theorem cr_set1 (calm : X.calm = true) (hu : X.A.units + 64 < cLine) : CallR X (.type "set") (rSet1 X.K X.w) := by
  intro pins s σ H vs us Q I rel h
  obtain ⟨l, x, d, rfl, hl, hd, fl, deep, q⟩ := h
  rw [Vals.ref1 rel]
  obtain ⟨its, rv, pl, _⟩ := I.list hl
  have ei : its = [.ref x] := by
    cases rv with
    | cons r rest =>
      cases rest
      cases r
      rfl
  subst ei
  obtain ⟨as, reads⟩ := Dp.reads I d _ _ hd (rfl : RelV (.ref x) (.ref x))
  refine call_set_one (k := nk d) (I.ok.hd calm) pl.isList (nk_is d _ _ reads fl) (by omega) fun h' tk one kept => ?_
  exact ⟨.ref s.heap.objs.size, _, I.laid (t' := tk) kept (Nat.le_refl _) (oneO_new one), rfl, q _ (I.hok.fresh (Nat.le_refl _))⟩
/-- sorted of it -/
def rSort1 (K : PySem.W.Frag) (w : World) : List V → Hp → VK → Prop := fun vs H Q => ∃ (a x : Addr) (d : PyData), vs = [.ref a] ∧ H a = some (OneO w a x) ∧ Dp K H (.ref x) d ∧ (∃ y r, d = .tuple (y :: r)) ∧ PySem.W.alike d d = true ∧ d.depth ≤ 60 ∧ ∀ p, H p = none → Q (.ref p) (upd H p (.lst [.ref x]))
theorem cr_sort1 (calm : X.calm = true) (hu : X.A.units + 64 < cLine) : CallR X (.builtin "sorted") (rSort1 X.K X.w) := by
  intro pins s σ H vs us Q I rel h
  obtain ⟨a, x, d, rfl, ha, hd, tupd, al, deep, q⟩ := h
  rw [Vals.ref1 rel]
  have one : One X.w s.heap a x := (I.hok a _ ha).1
  obtain ⟨as, reads⟩ := Dp.reads I d _ _ hd (rfl : RelV (.ref x) (.ref x))
  refine sorted_one (I.ok.hd calm) one reads tupd al (by omega) fun s' p c kept g o old at_ => ?_
  have fresh : H p = none := I.hok.fresh old
  have J : Inv X pins σ (upd H p (.lst [.ref x])) { s with heap := s'.heap, gens := s'.gens, drawn := s'.drawn, toks := s'.toks } :=
    I.call (ch := []) (Un.laid kept old fresh) (I.hok.laid kept old ⟨by show 1 ≤ sizeLine; decide, [.ref x], c, .cons rfl .nil, at_⟩) (by rw [g]; exact I.bare) (fun _ z => nomatch z)
  have e : s' = { s with heap := s'.heap, gens := s'.gens, drawn := s'.drawn, toks := s'.toks } := by
    cases s'
    cases s
    cases o
    rfl
  rw [e]
  exact ⟨.ref p, _, J, rfl, q p fresh⟩
end
end Sa

set_option Elab.async false
set_option linter.all false
set_option maxRecDepth 100000
set_option maxHeartbeats 2000000
/-! Sa.End: the end of a law's row: the law's def is asked where nothing is shown; the tables of all defs are handed on -/
namespace Sa
open PySem PySem.Spec PyProof.Rows L2

/-- the script is to be read at a, whatever is done -/
def Scr (K : PySem.W.Frag) (H : Hp) (a : Addr) (xs : List V) : Prop := (∃ o, H a = some (.frz o (.lst xs))) ∨ ∀ H' : Hp, SqL K H' a xs
theorem Scr.sq {K : PySem.W.Frag} {H : Hp} {a : Addr} {xs : List V} (h : Scr K H a xs) : SqL K H a xs := by
  rcases h with ⟨o, e⟩ | h
  · exact .inl (.inr ⟨o, e⟩)
  · exact h H
theorem Scr.keep {K : PySem.W.Frag} {H H' : Hp} {a : Addr} {xs : List V} (h : Scr K H a xs) (e : ∀ o, H a = some (.frz o (.lst xs)) → H' a = some (.frz o (.lst xs))) : Scr K H' a xs := by
  rcases h with ⟨o, q⟩ | h
  · exact .inl ⟨o, e o q⟩
  · exact .inr h
abbrev noTab : Obj := { cls := .none, data := .fields #[] }
abbrev scriptO (vs : List Value) : Obj := { cls := .type "list", data := .seq vs.toArray }

section
variable {P : Program} {w : World} {K : PySem.W.Frag} {mg mb : Str → Option Value} {k : Nat} {fa a : Addr} {cs : List (Addr × Addr)} {fd : FuncData} {x : Str} {sp : Sp} {s1 : Shared} {vs : List Value} {ns : List Int}
open Classical in
/-- what is tracked as the law begins: the tables, and the script if the top didn't write it -/
noncomputable def begun (K : PySem.W.Frag) (cs : List (Addr × Addr)) (a : Addr) (vs : List Value) (ns : List Int) : Hp := fun b =>
  if b ∈ cs.map (·.2) then some (.tbl #[]) else if b = a ∧ K.lookup a = none then some (.frz (scriptO vs) (.lst (ns.map V.int))) else none

theorem law_run (inH : K.In s1.heap) (names : s1.heap.Ns mainGlobals mg) (blt : s1.heap.Ns builtinsNs mb) (isBoot : ∀ x : Str, x ≠ "__name__" → mb x = bootBuiltins x) (noLim : s1.heap.NoLimit) (noGen : s1.gens = #[])
    (hT : ∀ p ∈ cs, s1.heap.get? p.2 = some noTab) (nT : ∀ p ∈ cs, K.lookup p.2 = none) (code : ∀ p ∈ cs, PySem.W.CodeHd s1.heap p.1 p.2)
    (hbm : ∃ (bm : Addr) (ob : Obj), mg "__builtins__" = some (.ref bm) ∧ bm ≠ builtinsNs ∧ s1.heap.get? bm = some ob ∧ ob.cls = .type "module" ∧ ob.dict = some builtinsNs ∧ ob.data = .plain)
    (ha : s1.heap.get? a = some (scriptO vs)) (isInts : IntsAre vs ns) (short : ns.length ≤ sizeLine) (hr : Room k callerA)
    (F : ∀ base : Heap, K.In base → base.Ns mainGlobals mg → (∀ p ∈ cs, LamX.TabB base mg p.1 p.2) → FnG P w K mg base k fa fd [x] sp) (bind : ∀ (s : Shared) (u : Value), BindsTo s fd ⟨[u], []⟩ [(x, u)])
    (hsp : ∀ H : Hp, (∀ p ∈ cs, H p.2 = some (.tbl #[])) → Scr K H a (ns.map V.int) → sp [.ref a] H (fun v _ => v = .bl true) fun _ _ _ => False) :
    codeAny (model P w) callerA (.call (.ref fa) ⟨[.ref a], []⟩) (fun r s' => r = .ok (.ret (.bool true)) ∧ OldK s1.heap s'.heap ∧ s'.os = s1.os ∧ AllBare s'.gens) s1 := by
  have rel := vals_ints isInts
  have tabAt : ∀ b ∈ cs.map (·.2), s1.heap.get? b = some noTab := fun b hb => by
    obtain ⟨p, hp, e⟩ := List.mem_map.mp hb
    rw [← e]
    exact hT p hp
  have scriptNoTab : a ∉ cs.map (·.2) := fun z => by
    have q := tabAt a z
    rw [ha] at q
    have d := congrArg Obj.data (Option.some.inj q)
    cases d
  obtain ⟨H, hH⟩ : ∃ H, H = begun K cs a vs ns := ⟨_, rfl⟩
  have onTab : ∀ b ∈ cs.map (·.2), H b = some (.tbl #[]) := fun b hb => by rw [hH]; exact if_pos hb
  have onScript : K.lookup a = none → H a = some (.frz (scriptO vs) (.lst (ns.map V.int))) := fun z => by
    rw [hH]
    exact (if_neg scriptNoTab).trans (if_pos ⟨rfl, z⟩)
  have offAll : ∀ b, b ∉ cs.map (·.2) → ¬ (b = a ∧ K.lookup a = none) → H b = none := fun b h1 h2 => by
    rw [hH]
    exact (if_neg h1).trans (if_neg h2)
  have isOne : ∀ b, H b = none ∨ b ∈ cs.map (·.2) ∨ (b = a ∧ K.lookup a = none) := fun b => by
    by_cases h1 : b ∈ cs.map (·.2)
    · exact .inr (.inl h1)
    · by_cases h2 : b = a ∧ K.lookup a = none
      · exact .inr (.inr h2)
      · exact .inl (offAll b h1 h2)
  -- an object of another form is not tracked
  have other : ∀ {b : Addr} {o : Obj}, s1.heap.get? b = some o → (∀ us n, o.data ≠ .seq us n) → o.data ≠ .fields #[] → H b = none := fun {b o} e n1 n2 => by
    rcases isOne b with z | z | ⟨z, _⟩
    · exact z
    · rw [tabAt b z] at e
      cases e
      exact (n2 rfl).elim
    · rw [z, ha] at e
      cases e
      exact (n1 _ _ rfl).elim
  have dictFree : ∀ {b : Addr} {o : Obj} {es : Array DictEntry} {ep : Nat}, s1.heap.get? b = some o → o.data = .dict es ep → H b = none := fun {b o es ep} e d => by
    refine other e (fun us n z => ?_) fun z => ?_ <;> (rw [d] at z; cases z)
  have nsBase : ∀ {b : Addr} {m : Str → Option Value}, s1.heap.Ns b m → (hidT s1.heap H).Ns b m := fun {b m} ⟨o, es, ep, e, d, r⟩ => ⟨o, es, ep, hidT_get e (dictFree e d), d, r⟩
  have keepK : K.In (hidT s1.heap H) := fun b o e => hidT_get (inH b o e) (by
    rcases isOne b with z | z | ⟨z, z2⟩
    · exact z
    · obtain ⟨p, hp, ep⟩ := List.mem_map.mp z
      rw [← ep, nT p hp] at e
      cases e
    · rw [z, z2] at e
      cases e)
  have modOk : L2.Mod K mg (hidT s1.heap H) := ⟨keepK, nsBase names, ⟨mb, nsBase blt, isBoot⟩, let ⟨mc, h1, h2⟩ := noLim; ⟨mc, nsBase h1, h2⟩⟩
  have tabs : ∀ p ∈ cs, LamX.TabB (hidT s1.heap H) mg p.1 p.2 := fun p hp => by
    have hTp := hT p hp
    refine ⟨?_, ?_, fun z => ?_⟩
    · obtain ⟨o, us, file, tf, flags, tg, inF, text, tt, e1, r1, r2, r3, r4, r5, r6, r7, r8, hne⟩ := code p hp
      refine ⟨o, us, file, tf, flags, tg, inF, text, tt, hidT_get e1 (other e1 (fun us' n z => ?_) fun z => ?_), r1, r2, r3, r4, r5, r6, r7, r8, hne⟩
      · rw [r2] at z; cases z
      · rw [r2] at z
        cases z
        simp at r3
    · obtain ⟨bm, ob, b1, b2, b3, b4, b5, b6⟩ := hbm
      refine ⟨bm, ob, b1, b2, fun q => ?_, fun q => ?_, hidT_get b3 (other b3 (fun us n z => ?_) fun z => ?_), b4, b5, b6⟩
      · obtain ⟨o, es, ep, e, d, _⟩ := names
        rw [q, e] at b3
        cases b3
        rw [d] at b6
        cases b6
      · rw [q, hTp] at b3
        cases b3
        cases b6
      · rw [b6] at z; cases z
      · rw [b6] at z; cases z
    · obtain ⟨o, es, ep, e, d, _⟩ := names
      rw [z, hTp] at e
      cases e
      cases d
  have hok : HOk P w H s1.heap := fun b u e => by
    rcases isOne b with z | z | ⟨z, z2⟩
    · rw [z] at e; cases e
    · rw [onTab b z] at e
      cases e
      exact tabAt b z
    · rw [z, onScript z2] at e
      cases e
      rw [z]
      exact ⟨ha, by rw [List.length_map]; exact short, vs, _, rel, ha⟩
  have seen : Scr K H a (ns.map V.int) := by
    cases q : K.lookup a with
    | none => exact .inl ⟨_, onScript q⟩
    | some o =>
      have e := inH a o q
      rw [ha] at e
      cases e
      exact .inr fun H' => .inr ⟨_, vs.toArray, _, q, rfl, rfl, rfl, by rw [List.size_toArray, isInts.length]; exact short, by simpa using rel⟩
  have env : Env0 P w K mg (hidT s1.heap H) callerA [] s1 H :=
    ⟨rfl, modOk, fun b o e => of_hidT e, Nat.le_of_eq (hidT_size _ _), trivial, fun b hb => absurd (show b ∈ ([] : List Addr) from hb) (by simp), hok, .of_eq noGen⟩
  have ready := hsp H (fun p hp => onTab _ (List.mem_map.mpr ⟨p, hp, rfl⟩)) seen
  refine codeAny_mono ((F _ keepK (nsBase names) tabs).runs callerA [] s1 H ⟨[.ref a], []⟩ [.ref a] [.ref a] _ _ hr rfl env (bind s1 (.ref a)) (.cons rfl .nil) ready) fun r s' out => ?_
  cases r with
  | error e => exact out.elim
  | ok fl =>
    cases fl with
    | next => exact out.elim
    | brk => exact out.elim
    | cont => exact out.elim
    | ret u =>
      obtain ⟨v, H', os, bare, un, hok', rv, q⟩ := out
      cases (show v = .bl true from q)
      cases (show u = Value.bool true from rv)
      have same : ∀ b o, b ∉ cs.map (·.2) → s1.heap.get? b = some o → s'.heap.get? b = some o := fun b o nb e => by
        rcases isOne b with z | z | ⟨z, z2⟩
        · exact un.keep b o e z (fun y => absurd (show b ∈ ([] : List Addr) from y) (by simp)) (by simp)
        · exact absurd z nb
        · rw [z] at e ⊢
          have q2 := un.frzs a _ _ (onScript z2)
          obtain ⟨e2, _⟩ := hok' a _ q2
          rw [ha] at e
          cases e
          exact e2
      have grown : ∀ p ∈ cs, ∃ more : Array Value, s'.heap.get? p.2 = some { cls := .none, data := .fields more } := fun p hp => by
        obtain ⟨more, z⟩ := un.tbls p.2 #[] (onTab _ (List.mem_map.mpr ⟨p, hp, rfl⟩))
        exact ⟨_, hok' p.2 _ z⟩
      refine ⟨rfl, ⟨fun b o e => ?_, fun b o e => ?_⟩, os, bare⟩
      · by_cases hb : b ∈ cs.map (·.2)
        · obtain ⟨p, hp, rfl⟩ := List.mem_map.mp hb
          obtain ⟨more, hm⟩ := grown p hp
          rw [hT p hp] at e
          cases e
          exact .inr (.inl ⟨((code p hp).tab (hT p hp)).isCodeTable, rfl, #[], more, rfl, by rw [Array.empty_append]; exact hm⟩)
        · exact .inl (same b o hb e)
      · by_cases hb : b ∈ cs.map (·.2)
        · obtain ⟨p, hp, rfl⟩ := List.mem_map.mp hb
          obtain ⟨more, hm⟩ := grown p hp
          exact ⟨_, hm⟩
        · exact ⟨o, same b o hb e⟩
end

/-- the tables of the top's defs -/
def TabsOf (q : Program) (mg : Str → Option Value) (h : Heap) : Prop := ∀ e ∈ recsOf q, ∃ a o fd c T, mg e.name = some (.ref a) ∧ h.get? a = some o ∧ o.data = .func fd ∧ fd.code = .ref c ∧ h.IsCode c T #[] ∧ h.TableAt c T #[]
/-- what is to be known of the law at the head's heap -/
def LawSa (l : PySem.W.OpenLaw) (w : World) (K : PySem.W.Frag) (k n : Nat) (x : Str) (mg : Str → Option Value) (fa : Addr) (h : Heap) : Prop :=
  ∃ (fd : FuncData) (cs : List (Addr × Addr)) (sp : Sp), (∀ p ∈ cs, h.get? p.2 = some noTab) ∧ (∀ p ∈ cs, K.lookup p.2 = none) ∧ (∀ p ∈ cs, PySem.W.CodeHd h p.1 p.2) ∧ (∀ (s : Shared) (u : Value), BindsTo s fd ⟨[u], []⟩ [(x, u)]) ∧
    (∀ (H : Hp) (a : Addr) (ns : List Int), ns.length ≤ n → (∀ z ∈ ns, Builtin.Int.intBits z ≤ 1048576) → (∀ p ∈ cs, H p.2 = some (.tbl #[])) → Scr K H a (ns.map V.int) → sp [.ref a] H (fun v _ => v = .bl true) fun _ _ _ => False) ∧
    ∀ base : Heap, K.In base → base.Ns mainGlobals mg → (∀ p ∈ cs, LamX.TabB base mg p.1 p.2) → FnG l.prog w K mg base k fa fd [x] sp
theorem walk_sa {l : PySem.W.OpenLaw} {n k : Nat} {q : Program} {loose : List Str} {XP : (Str → Option Value) → Heap → Prop} {YP : World → Heap → Prop} {d : DefRec} {K : Params → PySem.W.Frag} {x : Str}
    (hn : l.most = some n) (hn2 : n ≤ sizeLine) (hdf : d.params.defaults = []) (hr : Room k callerA) (hY : ∀ (w : World) (h : Heap), YP w h → (K w.params).In h)
    (F : ∀ (w : World) (mg : Str → Option Value) (fa : Addr) (h : Heap), YP w h → (K w.params).In h → h.Ns mainGlobals mg → mg d.name = some (.ref fa) → TabsOf q mg h → LawSa l w (K w.params) k n x mg fa h) :
    PySem.W.WalkO q loose XP YP l.row.toRowW d [] (fun f vs => PySem.call f vs) := by
  refine Att.attach_callB hn hdf fun w s0 s1 mg mb fa o pm cd doc a vs ns G Y ho hd hcd hmg hobj hints hlen hbits hg => ?_
  have inH := hY w _ Y
  obtain ⟨fd, cs, sp, hT, nT, code, bind, hsp, hF⟩ := F w mg fa _ Y inH G.T.g hmg G.T.tab
  exact law_run inH G.T.g G.T.b G.T.builtins G.T.nolimit hg hT nT code G.T.bmain hobj hints (Nat.le_trans hlen hn2) hr hF bind fun H hH hS => hsp H a ns hlen hbits hH hS
end Sa

set_option Elab.async false
set_option linter.all false
set_option maxRecDepth 100000
/-! Sa.Walk: zip of three and enumerate as walks; the scope of a generator expression -/
namespace Sa
open PySem PySem.Spec PyProof.Rows L2
theorem walk_zip3 {K : PySem.W.Frag} {b1 b2 b3 : Bool} {a1 a2 a3 : Addr} {xs ys zs : List V} (e2 : xs.length = ys.length) (e3 : xs.length = zs.length) :
    Walk (It3 K b1 b2 b3 a1 a2 a3) xs.length (fun H => SqB K H b1 a1 xs ∧ SqB K H b2 a2 ys ∧ SqB K H b3 a3 zs)
      (fun i H v H' => ∃ T x y z, v = .ref T ∧ H T = none ∧ H' = upd H T (.tup [x, y, z]) ∧ xs[i]? = some x ∧ ys[i]? = some y ∧ zs[i]? = some z) where
  goes := fun i H hi ⟨q1, q2, q3⟩ => ⟨xs, ys, zs, _, _, _, q1, q2, q3, List.getElem?_eq_getElem hi, List.getElem?_eq_getElem (by omega), List.getElem?_eq_getElem (by omega)⟩
  stops := fun H ⟨q1, q2, q3⟩ => ⟨xs, ys, zs, q1, q2, q3, Nat.le_refl _, by omega, by omega, .inl rfl⟩
  yields := fun i H v H' hi ⟨q1, q2, q3⟩ ⟨T, x, y, z, ev, nT, eH, f1, f2, f3⟩ => ⟨T, x, y, z, ev, nT, eH, f1 xs q1, f2 ys q2, f3 zs q3⟩
theorem walk_enumB {K : PySem.W.Frag} {b : Bool} {a : Addr} {xs : List V} :
    Walk (ItE K b a) xs.length (fun H => SqB K H b a xs) (fun i H v H' => ∃ T x, v = .ref T ∧ H T = none ∧ H' = upd H T (.tup [.int i, x]) ∧ xs[i]? = some x) where
  goes := fun i H hi q => ⟨xs, _, q, List.getElem?_eq_getElem hi⟩
  stops := fun H q => ⟨xs, q, rfl⟩
  yields := fun i H v H' hi q ⟨T, x, ev, nT, eH, f⟩ => ⟨T, x, ev, nT, eH, f xs q⟩

/-- a generator expression's own scope, without captured names -/
def genC (scope : Scope) (x : Str) : Bool :=
  (match scope.kind with | .function => true | _ => false) && !scope.isCoroutine && (scope.names.all fun y => match y.2 with | .cell => false | .free => false | _ => true) &&
    (match scope.names.lookup (".0" : Str) with | some .local => true | _ => false) && (match scope.names.lookup x with | some .local => true | _ => false)
theorem genS_mk {env : Env} {scope : Scope} {x : Str} (h : genC scope x = true) : GxR.GenS env scope x := by
  unfold genC at h
  simp only [Bool.and_eq_true, List.all_eq_true] at h
  obtain ⟨⟨⟨⟨h1, h2⟩, h3⟩, h4⟩, h5⟩ := h
  refine ⟨?_, by simpa using h2, fun y hy e => ?_, ?_, ?_, fun y hy e => ?_⟩
  · split at h1
    · assumption
    · cases h1
  · have q := h3 y hy
    rw [e] at q
    cases q
  · split at h4
    · assumption
    · cases h4
  · split at h5
    · assumption
    · cases h5
  · have q := h3 y hy
    rw [e] at q
    cases q
end Sa

set_option Elab.async false
set_option linter.all false
set_option maxRecDepth 100000
set_option maxHeartbeats 1000000
namespace K17
open PySem PySem.Spec PyProof.Rows L2 Sa
def topS (i : Nat) : Stmt := PySem.Challenge.pw_strangersay_k17_two_members_of_sums.main.body.getD i (.Pass ⟨0, 0, 0, 0⟩)

/-- the built-in names are as they were -/
structure Bn (mg : Str → Option Value) : Prop where
  n_len : mg "len" = none
  n_isinstance : mg "isinstance" = none
  n_tuple : mg "tuple" = none
  n_str : mg "str" = none
  n_set : mg "set" = none
  n_sorted : mg "sorted" = none
  n_zip : mg "zip" = none
  n_range : mg "range" = none
  n_enumerate : mg "enumerate" = none
  n_repr : mg "repr" = none
  n_max : mg "max" = none
  n_min : mg "min" = none
  n_abs : mg "abs" = none
  n_int : mg "int" = none

section
variable {P : Program} {w : World} {K : PySem.W.Frag} {mg : Str → Option Value} {base : Heap}

/-! is_tuple_of -/
abbrev s_is_tuple_of : Stmt := topS 1
abbrev N_is_tuple_of : List Str := ["thing", "many"]
theorem sc_is_tuple_of : FnScope N_is_tuple_of ["thing", "many"] (defScope s_is_tuple_of) := ⟨rfl, rfl, rfl, by decide +kernel, rfl, by decide +kernel, by decide +kernel⟩
def sp_is_tuple_of (K : PySem.W.Frag) : Sp := fun vs H Q _ => ∃ (a : Addr) (xs : List V) (n : Int), vs = [.ref a, .int n] ∧ H a = some (.tup xs) ∧ Q (.bl (decide ((xs.length : Int) = n))) H
theorem ok_is_tuple_of (T : Bn mg) (S : Stands K mg "is_tuple_of" s_is_tuple_of ["thing", "many"]) : Df P w K mg base 1 "is_tuple_of" ["thing", "many"] (sp_is_tuple_of K) := by
  refine Df.of (k := 0) S sc_is_tuple_of (fun vs H Q E h => ?_) (fun f cdv A outer s H vs Q E hr hf h => ?_)
  · obtain ⟨a, xs, n, rfl, _⟩ := h
    rfl
  · obtain ⟨a, xs, n, rfl, ha, q⟩ := h
    refine ⟨_, (pss_one (ps_ret (pe_and (pe_callB call_isi rfl T.n_isinstance (by decide +kernel) (pa_cons (pv 0) (pa_cons (pe_bltn (v := .ty "tuple") rfl T.n_tuple PyProof.Rows.boot_tuple rfl) pa_nil)))
      (pe_one (pe_cmpR op_eq (pe_callB call_len_seq rfl T.n_len PySem.boot_len (pa_cons (pv 0) pa_nil)) (pv 1) (nomark _)))))), ?_⟩
    refine ⟨.ref a, rfl, .ref a, .ty "tuple", .type "tuple", .type "tuple", true, rfl, .ty "tuple", .base (.tup ha), kit_ty (by decide +kernel), true, rfl, iteT ?_⟩
    refine ⟨.ref a, rfl, a, xs, rfl, .inr (SqT.of ha), .int n, rfl, rfl, ?_⟩
    have e : decide (V.int (xs.length : Int) = V.int n) = decide ((xs.length : Int) = n) := by
      by_cases z : (xs.length : Int) = n
      · rw [z]; simp
      · rw [decide_eq_false z, decide_eq_false fun q => z (V.int.inj q)]
    rw [e]
    exact q

theorem decStr (x y : Str) : decide (V.str x = V.str y) = decide (x = y) := by
  by_cases z : x = y
  · rw [z]; simp
  · rw [decide_eq_false z, decide_eq_false fun q => z (V.str.inj q)]
theorem decInt (x y : Int) : decide (V.int x = V.int y) = decide (x = y) := by
  by_cases z : x = y
  · rw [z]; simp
  · rw [decide_eq_false z, decide_eq_false fun q => z (V.int.inj q)]

theorem andF {b c : Bool} (h : c = false) : (b && c) = false := by rw [h, Bool.and_false]

/-! is_headed -/
abbrev s_is_headed : Stmt := topS 2
abbrev N_is_headed : List Str := ["thing", "word", "many"]
theorem sc_is_headed : FnScope N_is_headed ["thing", "word", "many"] (defScope s_is_headed) := ⟨rfl, rfl, rfl, by decide +kernel, rfl, by decide +kernel, by decide +kernel⟩
def sp_is_headed : Sp := fun vs H Q _ => ∃ (a : Addr) (z wd : Str) (xs : List V) (n : Int), vs = [.ref a, .str wd, .int n] ∧ H a = some (.tup (.str z :: xs)) ∧ Q (.bl (decide (((.str z :: xs : List V).length : Int) = n) && decide (z = wd))) H
theorem ok_is_headed (T : Bn mg) (S : Stands K mg "is_headed" s_is_headed ["thing", "word", "many"]) (d1 : Df P w K mg base 1 "is_tuple_of" ["thing", "many"] (sp_is_tuple_of K)) :
    Df P w K mg base 2 "is_headed" ["thing", "word", "many"] sp_is_headed := by
  refine Df.of (k := 1) S sc_is_headed (fun vs H Q E h => ?_) (fun f cdv A outer s H vs Q E hr hf h => ?_)
  · obtain ⟨a, z, wd, xs, n, rfl, _⟩ := h
    rfl
  · obtain ⟨a, z, wd, xs, n, rfl, ha, q⟩ := h
    refine ⟨_, (pss_one (ps_ret (pe_and (pe_df d1 (hr.mono (by decide)) hf rfl (pa_cons (pv 0) (pa_cons (pv 2) pa_nil)))
      (pe_and (pe_callB call_isi rfl T.n_isinstance (by decide +kernel) (pa_cons (pe_ix ix_tup (pv 0) pe_int (fun _ _ => rfl)) (pa_cons (pe_bltn (v := .ty "str") rfl T.n_str (by decide +kernel) rfl) pa_nil)))
        (pe_one (pe_cmpR op_eq (pe_ix ix_tup (pv 0) pe_int (fun _ _ => rfl)) (pv 1) (nomark _))))))), ?_⟩
    refine ⟨.ref a, rfl, .int n, rfl, a, _, n, rfl, ha, _, rfl, ite2 (fun e => ?_) (fun e => ?_)⟩
    · refine ⟨.ref a, rfl, a, _, 0, .str z, rfl, rfl, SqT.of ha, atI_nat (j := 0) rfl, .str z, .ty "str", .type "str", .type "str", true, rfl, .ty "str", .base (.str z), kit_ty (by decide +kernel), true, rfl, iteT ?_⟩
      refine ⟨.ref a, rfl, a, _, 0, .str z, rfl, rfl, SqT.of ha, atI_nat (j := 0) rfl, .str wd, rfl, rfl, ?_⟩
      rw [decStr]
      rw [e, Bool.true_and] at q
      exact q
    · have e' : decide (((.str z :: xs : List V).length : Int) = n) = false := Bool.eq_false_iff.mpr e
      rw [e', Bool.false_and] at q
      exact q

/-! simple sayings -/
inductive Simple where
  | sum (ws : List Int) (c : Int)
  | rest (ws : List Int) (r m : Int)
/-- the tuple at a is this simple saying -/
def IsS (H : Hp) (a : Addr) : Simple → Prop
  | .sum ws c => ∃ wa, H a = some (.tup [.str "sum", .ref wa, .int c]) ∧ H wa = some (.tup (ws.map V.int))
  | .rest ws r m => ∃ wa, H a = some (.tup [.str "rest", .ref wa, .int r, .int m]) ∧ H wa = some (.tup (ws.map V.int))
theorem IsS.same {H H' : Hp} {a : Addr} {S : Simple} (e : ∀ b xs, H b = some (.tup xs) → H' b = some (.tup xs)) (h : IsS H a S) : IsS H' a S := by
  cases S with
  | sum ws c => exact let ⟨wa, h1, h2⟩ := h; ⟨wa, e _ _ h1, e _ _ h2⟩
  | rest ws r m => exact let ⟨wa, h1, h2⟩ := h; ⟨wa, e _ _ h1, e _ _ h2⟩

/-! is_joined -/
abbrev s_is_joined : Stmt := topS 4
abbrev N_is_joined : List Str := ["thing"]
theorem sc_is_joined : FnScope N_is_joined ["thing"] (defScope s_is_joined) := ⟨rfl, rfl, rfl, by decide +kernel, rfl, by decide +kernel, by decide +kernel⟩
def sp_is_joined : Sp := fun vs H Q _ => ∃ (a : Addr) (S : Simple), vs = [.ref a] ∧ IsS H a S ∧ Q (.bl false) H
theorem ok_is_joined (S : Stands K mg "is_joined" s_is_joined ["thing"]) (d1 : Df P w K mg base 2 "is_headed" ["thing", "word", "many"] sp_is_headed) :
    Df P w K mg base 3 "is_joined" ["thing"] sp_is_joined := by
  refine Df.of (k := 2) S sc_is_joined (fun vs H Q E h => ?_) (fun f cdv A outer s H vs Q E hr hf h => ?_)
  · obtain ⟨a, S', rfl, _⟩ := h
    rfl
  · obtain ⟨a, S', rfl, ha, q⟩ := h
    refine ⟨_, (pss_one (ps_ret (pe_or (pe_df d1 (hr.mono (by decide)) hf rfl (pa_cons (pv 0) (pa_cons pe_str (pa_cons pe_int pa_nil)))) (pe_or (pe_df d1 (hr.mono (by decide)) hf rfl (pa_cons (pv 0) (pa_cons pe_str (pa_cons pe_int pa_nil)))) (pe_one (pe_df d1 (hr.mono (by decide)) hf rfl (pa_cons (pv 0) (pa_cons pe_str (pa_cons pe_int pa_nil))))))))), ?_⟩
    obtain ⟨z, xs, h0, e1, e2, e3⟩ : ∃ (z : Str) (xs : List V), H a = some (.tup (.str z :: xs)) ∧ (decide (((.str z :: xs : List V).length : Int) = 2) && decide (z = "not")) = false ∧
        (decide (((.str z :: xs : List V).length : Int) = 3) && decide (z = "and")) = false ∧ (decide (((.str z :: xs : List V).length : Int) = 3) && decide (z = "or")) = false := by
      cases S' with
      | sum ws c =>
        obtain ⟨wa, h1, _⟩ := ha
        exact ⟨_, _, h1, andF (by decide +kernel), andF (by decide +kernel), andF (by decide +kernel)⟩
      | rest ws r m =>
        obtain ⟨wa, h1, _⟩ := ha
        exact ⟨_, _, h1, andF (by decide +kernel), andF (by decide +kernel), andF (by decide +kernel)⟩
    refine ⟨.ref a, rfl, a, z, "not", xs, 2, rfl, h0, _, rfl, ?_⟩
    rw [e1]
    refine iteF ⟨.ref a, rfl, a, z, "and", xs, 3, rfl, h0, _, rfl, ?_⟩
    rw [e2]
    refine iteF ⟨.ref a, rfl, a, z, "or", xs, 3, rfl, h0, ?_⟩
    rw [e3]
    exact q

/-! all_simples, of a simple saying -/
abbrev s_all_simples : Stmt := topS 5
abbrev N_all_simples : List Str := ["saying", "found", "part"]
theorem sc_all_simples : FnScope N_all_simples ["saying"] (defScope s_all_simples) := ⟨rfl, rfl, rfl, by decide +kernel, rfl, by decide +kernel, by decide +kernel⟩
def sp_all_simples : Sp := fun vs H Q _ => ∃ (a : Addr) (S : Simple), vs = [.ref a] ∧ IsS H a S ∧ ∀ p, H p = none → Q (.ref p) (upd H p (.lst [.ref a]))
theorem ok_all_simples (S : Stands K mg "all_simples" s_all_simples ["saying"]) (d1 : Df P w K mg base 3 "is_joined" ["thing"] sp_is_joined) :
    Df P w K mg base 4 "all_simples" ["saying"] sp_all_simples := by
  refine Df.of (k := 3) S sc_all_simples (fun vs H Q E h => ?_) (fun f cdv A outer s H vs Q E hr hf h => ?_)
  · obtain ⟨a, S', rfl, _⟩ := h
    rfl
  · obtain ⟨a, S', rfl, ha, q⟩ := h
    refine ⟨_, (pss_cons (ps_if (pt_not (pt_val (pe_df d1 (hr.mono (by decide)) hf rfl (pa_cons (pv 0) pa_nil)))) (pss_one (ps_ret (pe_lst (pa_cons (pv 0) pa_nil)))) pss_nil) pss_never), ?_⟩
    refine ⟨.ref a, rfl, a, S', rfl, ha, false, rfl, iteT ⟨.ref a, rfl, by show 1 ≤ sizeLine; decide, q⟩⟩

/-! simples, of a simple saying -/
def sData : Simple → PyData
  | .sum ws c => .tuple [.str "sum", .tuple (ws.map .int), .int c]
  | .rest ws r m => .tuple [.str "rest", .tuple (ws.map .int), .int r, .int m]
theorem dpInts {K : PySem.W.Frag} {H : Hp} : ∀ ws : List Int, DpAll K H (ws.map V.int) (ws.map PyData.int)
  | [] => .nil
  | n :: ws => .cons (.int n) (dpInts ws)
theorem IsS.dp {K : PySem.W.Frag} {H : Hp} {a : Addr} {S : Simple} (h : IsS H a S) : Dp K H (.ref a) (sData S) := by
  cases S with
  | sum ws c => exact let ⟨wa, h1, h2⟩ := h; .tup (SqT.of h1) (.cons (.str _) (.cons (.tup (SqT.of h2) (dpInts ws)) (.cons (.int c) .nil)))
  | rest ws r m => exact let ⟨wa, h1, h2⟩ := h; .tup (SqT.of h1) (.cons (.str _) (.cons (.tup (SqT.of h2) (dpInts ws)) (.cons (.int r) (.cons (.int m) .nil))))
theorem flatInts : ∀ ws : List Int, flats (ws.map PyData.int) = true
  | [] => rfl
  | n :: ws => by
    show (flat (.int n) && flats (ws.map PyData.int)) = true
    rw [flatInts ws]
    rfl
theorem depthInts : ∀ ws : List Int, NestedKey.depthAll (nks (ws.map PyData.int)) = 0
  | [] => rfl
  | n :: ws => by
    show max (NestedKey.depth (.num n)) (NestedKey.depthAll (nks (ws.map PyData.int))) = 0
    rw [depthInts ws]
    rfl
theorem alikeInts : ∀ ws : List Int, PySem.W.alikeAll (ws.map PyData.int) (ws.map PyData.int) = true
  | [] => rfl
  | n :: ws => by
    show (PySem.W.alike (.int n) (.int n) && PySem.W.alikeAll (ws.map PyData.int) (ws.map PyData.int)) = true
    rw [alikeInts ws]
    rfl
theorem depthDInts : ∀ ws : List Int, PyData.depthAll (ws.map PyData.int) = 0
  | [] => rfl
  | n :: ws => by
    show max (PyData.depth (.int n)) (PyData.depthAll (ws.map PyData.int)) = 0
    rw [depthDInts ws]
    rfl
theorem sData_flat (S : Simple) : flat (sData S) = true := by
  cases S <;> (show (true && (flats _ && _)) = true; rw [flatInts]; rfl)
theorem sData_key (S : Simple) : (nk (sData S)).depth ≤ 20 := by
  cases S with
  | sum ws c =>
    show max 0 (max (NestedKey.depthAll (nks (ws.map PyData.int)) + 1) (max 0 0)) + 1 ≤ 20
    rw [depthInts]
    decide
  | rest ws r m =>
    show max 0 (max (NestedKey.depthAll (nks (ws.map PyData.int)) + 1) (max 0 (max 0 0))) + 1 ≤ 20
    rw [depthInts]
    decide
theorem sData_depth (S : Simple) : (sData S).depth ≤ 60 := by
  cases S with
  | sum ws c =>
    show max 0 (max (PyData.depthAll (ws.map PyData.int) + 1) (max 0 0)) + 1 ≤ 60
    rw [depthDInts]
    decide
  | rest ws r m =>
    show max 0 (max (PyData.depthAll (ws.map PyData.int) + 1) (max 0 (max 0 0))) + 1 ≤ 60
    rw [depthDInts]
    decide
theorem sData_alike (S : Simple) : PySem.W.alike (sData S) (sData S) = true := by
  cases S <;> (show (true && (PySem.W.alikeAll _ _ && _)) = true; rw [alikeInts]; rfl)

abbrev s_simples : Stmt := topS 6
abbrev N_simples : List Str := ["saying"]
theorem sc_simples : FnScope N_simples ["saying"] (defScope s_simples) := ⟨rfl, rfl, rfl, by decide +kernel, rfl, by decide +kernel, by decide +kernel⟩
def sp_simples : Sp := fun vs H Q _ => ∃ (a : Addr) (S : Simple), vs = [.ref a] ∧ IsS H a S ∧ ∀ H' p, Same H H' → H' p = some (.tup [.ref a]) → Q (.ref p) H'
theorem sameUpd {H : Hp} {p : Addr} {o : HO} (h : H p = none) : Same H (upd H p o) := fun b x e => by
  rw [upd_ne (ne_of_none e h)]
  exact e
theorem ok_simples (T : Bn mg) (S : Stands K mg "simples" s_simples ["saying"]) (d1 : Df P w K mg base 4 "all_simples" ["saying"] sp_all_simples) :
    Df P w K mg base 5 "simples" ["saying"] sp_simples := by
  refine Df.of (k := 4) S sc_simples (fun vs H Q E h => ?_) (fun f cdv A outer s H vs Q E hr hf h => ?_)
  · obtain ⟨a, S', rfl, _⟩ := h
    rfl
  · obtain ⟨a, S', rfl, ha, q⟩ := h
    refine ⟨_, (pss_one (ps_ret (pe_callTy call_tuple_of rfl T.n_tuple PyProof.Rows.boot_tuple (pa_cons (pe_callB (cr_sort1 rfl hr.units) rfl T.n_sorted PyProof.Rows.boot_sorted (pa_cons (pe_callTy (cr_set1 rfl hr.units) rfl T.n_set PyProof.Rows.boot_set (pa_cons (pe_df d1 (hr.mono (by decide)) hf rfl (pa_cons (pv 0) pa_nil)) pa_nil)) pa_nil)) pa_nil)))), ?_⟩
    have tups : ∀ {H' : Hp}, Same H H' → ∀ b xs, H b = some (.tup xs) → H' b = some (.tup xs) := fun e b xs z => e _ _ z
    refine ⟨.ref a, rfl, a, S', rfl, ha, fun p1 n1 => ?_⟩
    have e1 : Same H (upd H p1 (.lst [.ref a])) := sameUpd n1
    refine ⟨p1, a, sData S', rfl, SqL.of upd_same, (ha.same (tups e1)).dp, sData_flat S', sData_key S', fun p2 n2 => ?_⟩
    have e2 := e1.trans (sameUpd (o := OneO w p2 a) n2)
    refine ⟨p2, a, sData S', rfl, upd_same, (ha.same (tups e2)).dp, ?_, sData_alike S', sData_depth S', fun p3 n3 => ?_⟩
    · cases S' <;> exact ⟨_, _, rfl⟩
    have e3 := e2.trans (sameUpd (o := .lst [.ref a]) n3)
    refine ⟨p3, [.ref a], rfl, .inl ⟨SqL.of upd_same, fun p4 n4 => ?_⟩⟩
    exact q _ p4 (e3.trans (sameUpd n4)) upd_same
end
end K17

set_option Elab.async false
set_option linter.all false
set_option maxRecDepth 100000
set_option maxHeartbeats 1000000
namespace K17
open PySem PySem.Spec PyProof.Rows L2 Sa
/-- all stays but the tables, which stay tables -/
structure Grow (H H' : Hp) : Prop where
  keep : ∀ b o, H b = some o → (∀ ps, o ≠ .tbl ps) → H' b = some o
  tabs : ∀ P, Tb H P → Tb H' P
theorem Grow.trans {H H1 H2 : Hp} (a : Grow H H1) (b : Grow H1 H2) : Grow H H2 := ⟨fun d o h n => b.keep d o (a.keep d o h n) n, fun P t => b.tabs P (a.tabs P t)⟩
theorem Grow.same {H H' : Hp} (e : Same H H') : Grow H H' := ⟨fun b o h _ => e b o h, fun P ⟨ps, h, r⟩ => ⟨ps, e _ _ h, r⟩⟩
theorem Grow.tab {P : Addr} {H H' : Hp} (t : Tb H P) (e : TbTo P H H') : Grow H H' := by
  obtain ⟨ps, h, _⟩ := t
  refine ⟨fun b o hb n => ?_, fun R tR => ?_⟩
  · by_cases z : b = P
    · rw [z, h] at hb
      exact absurd (Option.some.inj hb).symm (n ps)
    · rw [e.2 b z]; exact hb
  · by_cases z : R = P
    · rw [z]; exact e.1
    · obtain ⟨qs, h', r'⟩ := tR
      exact ⟨qs, by rw [e.2 R z]; exact h', r'⟩
theorem Grow.tup {H H' : Hp} (e : Grow H H') {b : Addr} {xs : List V} (h : H b = some (.tup xs)) : H' b = some (.tup xs) := e.keep b _ h fun _ z => nomatch z
theorem Grow.lst {H H' : Hp} (e : Grow H H') {b : Addr} {xs : List V} (h : H b = some (.lst xs)) : H' b = some (.lst xs) := e.keep b _ h fun _ z => nomatch z

abbrev absI (n : Int) : Int := if n < 0 then -n else n
theorem absI_nn (n : Int) : 0 ≤ absI n := by
  unfold absI
  split <;> omega
def topA : List Int → Int
  | [] => 0
  | w :: ws => if absI w < topA ws then topA ws else absI w
theorem topA_nn : ∀ ws, 0 ≤ topA ws
  | [] => Int.le_refl _
  | w :: ws => by
    have a := topA_nn ws
    have b := absI_nn w
    unfold topA
    split
    · exact a
    · exact b
theorem topA_le : ∀ ws y, y ∈ ws.map absI → y ≤ topA ws
  | [], y, h => by simp at h
  | w :: ws, y, h => by
    rcases List.mem_cons.mp h with rfl | h
    · show absI w ≤ if absI w < topA ws then topA ws else absI w
      split <;> omega
    · have a := topA_le ws y h
      show y ≤ if absI w < topA ws then topA ws else absI w
      split <;> omega
theorem topA_mem : ∀ ws, 0 < ws.length → topA ws ∈ ws.map absI
  | [], h => absurd h (by simp)
  | w :: ws, _ => by
    show (if absI w < topA ws then topA ws else absI w) ∈ absI w :: ws.map absI
    split
    · rename_i lt
      cases ws with
      | nil =>
        have a := absI_nn w
        have b : topA [] = 0 := rfl
        omega
      | cons v vs => exact List.mem_cons_of_mem _ (topA_mem (v :: vs) (by simp))
    · exact List.mem_cons_self
theorem topA_of {ws : List Int} {m : Int} (h : 0 < ws.length) (mem : m ∈ ws.map absI) (top : ∀ y ∈ ws.map absI, y ≤ m) : m = topA ws := Int.le_antisymm (topA_le ws m mem) (top _ (topA_mem ws h))
def sizeM : Simple → Int
  | .sum ws c => if topA ws > 1 + absI c then topA ws else 1 + absI c
  | .rest _ _ m => m - 1
def WfS : Simple → Prop
  | .sum ws _ => 0 < ws.length
  | .rest _ _ m => 0 < m
def clampI (s n : Int) : Int := if (if n < s then n else s) > -s then (if n < s then n else s) else -s
def cutM : Simple → Int → Int × Int
  | .sum ws c, n => (clampI (sizeM (.sum ws c)) n, n - clampI (sizeM (.sum ws c)) n)
  | .rest _ _ m, n => (n % m, 0)
section
variable {P : Program} {w : World} {K : PySem.W.Frag} {mg : Str → Option Value} {base : Heap} {cs Ts : Addr}
/-! says -/
abbrev s_says : Stmt := topS 9
abbrev N_says : List Str := ["simple", "number"]
theorem sc_says : FnScope N_says ["simple", "number"] (defScope s_says) := ⟨rfl, rfl, rfl, by decide +kernel, rfl, by decide +kernel, by decide +kernel⟩
def saysM : Simple → Int → Bool
  | .sum _ c, n => decide (c ≤ n)
  | .rest _ r _, n => decide (n = r)
def sp_says : Sp := fun vs H Q _ => ∃ (a : Addr) (S : Simple) (n : Int), vs = [.ref a, .int n] ∧ IsS H a S ∧ Q (.bl (saysM S n)) H
theorem ok_says (S : Stands K mg "says" s_says ["simple", "number"]) : Df P w K mg base 1 "says" ["simple", "number"] sp_says := by
  refine Df.of (k := 0) S sc_says (fun vs H Q E h => ?_) (fun f cdv A outer s H vs Q E hr hf h => ?_)
  · obtain ⟨a, S', n, rfl, _⟩ := h
    rfl
  · obtain ⟨a, S', n, rfl, ha, q⟩ := h
    refine ⟨_, (pss_cons (ps_if (pt_cmpR op_eq (pe_ix ix_tup (pv 0) pe_int (fun _ _ => rfl)) pe_str (nomark _)) (pss_one (ps_ret (pe_cmpR op_eq (pv 1) (pe_ix ix_tup (pv 0) pe_int (fun _ _ => rfl)) (nomark _)))) pss_nil)
      (pss_one (ps_ret (pe_cmpR op_ge (pv 1) (pe_ix ix_tup (pv 0) pe_int (fun _ _ => rfl)) (nomark _))))), ?_⟩
    cases S' with
    | sum ws c =>
      obtain ⟨wa, h1, _⟩ := ha
      refine ⟨.ref a, rfl, a, _, 0, _, rfl, rfl, SqT.of h1, atI_nat (j := 0) rfl, rfl, _, rfl, ?_⟩
      rw [decStr, show decide ((Str.ofString "sum") = Str.ofString "rest") = false by decide +kernel]
      refine iteF ⟨.int n, rfl, .ref a, rfl, a, _, 2, _, rfl, rfl, SqT.of h1, atI_nat (j := 2) rfl, n, c, rfl, rfl, q⟩
    | rest ws r m =>
      obtain ⟨wa, h1, _⟩ := ha
      refine ⟨.ref a, rfl, a, _, 0, _, rfl, rfl, SqT.of h1, atI_nat (j := 0) rfl, rfl, _, rfl, ?_⟩
      rw [decStr, decide_eq_true rfl]
      refine iteT ⟨.int n, rfl, .ref a, rfl, a, _, 2, _, rfl, rfl, SqT.of h1, atI_nat (j := 2) rfl, rfl, ?_⟩
      rw [decInt]
      exact q

/-! size_of -/
abbrev s_size_of : Stmt := topS 8
abbrev N_size_of : List Str := ["simple"]
theorem sc_size_of : FnScope N_size_of ["simple"] (defScope s_size_of) := ⟨rfl, rfl, rfl, by decide +kernel, rfl, by decide +kernel, by decide +kernel⟩
def sp_size_of (Ts : Addr) : Sp := fun vs H Q _ => ∃ (a : Addr) (S : Simple), vs = [.ref a] ∧ IsS H a S ∧ WfS S ∧ Tb H Ts ∧ ∀ H', Grow H H' → Q (.int (sizeM S)) H'
theorem ok_size_of (T : Bn mg) {f0 : Addr} {fd0 : FuncData} (F : Fun K "size_of" "size_of" s_size_of f0 fd0) (fm : mg "size_of" = some (.ref f0)) (fb : Binds K fd0 ["simple"] []) (hc : fd0.code = .ref cs) (TB : LamX.TabB base mg cs Ts) :
    Df P w K mg base 1 "size_of" ["simple"] (sp_size_of Ts) := by
  refine Df.ofC (k := 0) F fm fb hc sc_size_of (fun vs H Q E h => ?_) (fun A outer s H vs Q E hr hf h => ?_)
  · obtain ⟨a, S', rfl, _⟩ := h
    rfl
  · obtain ⟨a, S', rfl, ha, wf, tb, q⟩ := h
    refine ⟨_, (pss_cons (ps_if (pt_cmpR op_eq (pe_ix ix_tup (pv 0) pe_int (fun _ _ => rfl)) pe_str (nomark _)) (pss_one (ps_ret (pe_op op_sub (pe_ix ix_tup (pv 0) pe_int (fun _ _ => rfl)) pe_int))) pss_nil)
      (pss_one (ps_ret (pe_callB (call_max2 rfl) rfl T.n_max (by decide +kernel) (pa_cons (pe_op op_add pe_int (pe_callB call_abs rfl T.n_abs (by decide +kernel) (pa_cons (pe_ix ix_tup (pv 0) pe_int (fun _ _ => rfl)) pa_nil))) (pa_cons (pe_maxG hr rfl T.n_max TB rfl (genS_mk (by decide +kernel)) (pe_ix ix_tup (pv 0) pe_int (fun _ _ => rfl)) (fun _ => rfl)) pa_nil)))))), ?_⟩
    cases S' with
    | sum ws c =>
      obtain ⟨wa, h1, h2⟩ := ha
      refine ⟨.ref a, rfl, a, _, 0, _, rfl, rfl, SqT.of h1, atI_nat (j := 0) rfl, rfl, _, rfl, ?_⟩
      rw [decStr, show decide ((Str.ofString "sum") = Str.ofString "rest") = false by decide +kernel]
      refine iteF ⟨.ref a, rfl, a, _, 2, _, rfl, rfl, SqT.of h1, atI_nat (j := 2) rfl, c, rfl, 1, absI c, rfl, rfl, .ref a, rfl, a, _, 1, _, rfl, rfl, SqT.of h1, atI_nat (j := 1) rfl, false, wa, _, _, rfl, SqT.of h2, tb, elt_abs rfl rfl (by decide +kernel) T.n_abs tb, _, rfl, ?_, fun m H2 tab mem top => ?_⟩
      · rw [List.length_map]; exact wf
      · have e := topA_of wf mem top
        refine ⟨1 + absI c, m, rfl, ?_⟩
        rw [e]
        exact q _ (.tab tb tab)
    | rest ws r m =>
      obtain ⟨wa, h1, h2⟩ := ha
      refine ⟨.ref a, rfl, a, _, 0, _, rfl, rfl, SqT.of h1, atI_nat (j := 0) rfl, rfl, _, rfl, ?_⟩
      rw [decStr, decide_eq_true rfl]
      exact iteT ⟨.ref a, rfl, a, _, 3, _, rfl, rfl, SqT.of h1, atI_nat (j := 3) rfl, m, 1, rfl, rfl, q _ (.same fun _ _ h => h)⟩

/-! left_by, of a rest -/
abbrev s_left_by : Stmt := topS 10
abbrev N_left_by : List Str := ["simple", "number"]
theorem sc_left_by : FnScope N_left_by ["simple", "number"] (defScope s_left_by) := ⟨rfl, rfl, rfl, by decide +kernel, rfl, by decide +kernel, by decide +kernel⟩
def sp_left_by : Sp := fun vs H Q _ => ∃ (a : Addr) (ws : List Int) (r m n : Int), vs = [.ref a, .int n] ∧ IsS H a (.rest ws r m) ∧ 0 < m ∧ Q (.int (n % m)) H
theorem ok_left_by (S : Stands K mg "left_by" s_left_by ["simple", "number"]) : Df P w K mg base 1 "left_by" ["simple", "number"] sp_left_by := by
  refine Df.of (k := 0) S sc_left_by (fun vs H Q E h => ?_) (fun f cdv A outer s H vs Q E hr hf h => ?_)
  · obtain ⟨a, ws, r, m, n, rfl, _⟩ := h
    rfl
  · obtain ⟨a, ws, r, m, n, rfl, ⟨wa, h1, _⟩, pos, q⟩ := h
    refine ⟨_, (pss_cons (ps_if (pt_cmpR op_eq (pe_ix ix_tup (pv 0) pe_int (fun _ _ => rfl)) pe_str (nomark _)) (pss_one (ps_ret (pe_op op_mod (pv 1) (pe_ix ix_tup (pv 0) pe_int (fun _ _ => rfl))))) pss_nil) pss_never), ?_⟩
    refine ⟨.ref a, rfl, a, _, 0, _, rfl, rfl, SqT.of h1, atI_nat (j := 0) rfl, rfl, _, rfl, ?_⟩
    rw [decStr, decide_eq_true rfl]
    exact iteT ⟨.int n, rfl, .ref a, rfl, a, _, 3, _, rfl, rfl, SqT.of h1, atI_nat (j := 3) rfl, n, m, rfl, rfl, pos, q⟩

/-! cut -/
abbrev s_cut : Stmt := topS 11
abbrev N_cut : List Str := ["simple", "number", "size", "kept"]
theorem sc_cut : FnScope N_cut ["simple", "number"] (defScope s_cut) := ⟨rfl, rfl, rfl, by decide +kernel, rfl, by decide +kernel, by decide +kernel⟩
def sp_cut (Ts : Addr) : Sp := fun vs H Q _ => ∃ (a : Addr) (S : Simple) (n : Int), vs = [.ref a, .int n] ∧ IsS H a S ∧ WfS S ∧ Tb H Ts ∧ ∀ H' p, Grow H H' → H' p = some (.tup [.int (cutM S n).1, .int (cutM S n).2]) → Q (.ref p) H'
theorem ok_cut (T : Bn mg) (S : Stands K mg "cut" s_cut ["simple", "number"]) (d1 : Df P w K mg base 1 "left_by" ["simple", "number"] sp_left_by) (d2 : Df P w K mg base 1 "size_of" ["simple"] (sp_size_of Ts)) : Df P w K mg base 2 "cut" ["simple", "number"] (sp_cut Ts) := by
  have sc := sc_cut
  refine Df.of (k := 1) S sc_cut (fun vs H Q E h => ?_) (fun f cdv A outer s H vs Q E hr hf h => ?_)
  · obtain ⟨a, S', n, rfl, _⟩ := h
    rfl
  · obtain ⟨a, S', n, rfl, ha, wf, tb, q⟩ := h
    refine ⟨_, (pss_cons (ps_if (pt_cmpR op_eq (pe_ix ix_tup (pv 0) pe_int (fun _ _ => rfl)) pe_str (nomark _)) (pss_one (ps_ret (pe_tup (pa_cons (pe_df d1 (hr.mono (by decide)) hf rfl (pa_cons (pv 0) (pa_cons (pv 1) pa_nil))) (pa_cons pe_int pa_nil))))) pss_nil)
      (pss_cons (ps_set (i := 2) sc.nd rfl (Or.inl rfl) (pe_df d2 (hr.mono (by decide)) hf rfl (pa_cons (pv 0) pa_nil)))
      (pss_cons (ps_set (i := 3) sc.nd rfl (Or.inl rfl) (pe_callB (call_max2 rfl) rfl T.n_max (by decide +kernel) (pa_cons (pe_un un_neg (pv 2)) (pa_cons (pe_callB (call_min2 rfl) rfl T.n_min (by decide +kernel) (pa_cons (pv 2) (pa_cons (pv 1) pa_nil))) pa_nil))))
      (pss_one (ps_ret (pe_tup (pa_cons (pv 3) (pa_cons (pe_op op_sub (pv 1) (pv 3)) pa_nil)))))))), ?_⟩
    cases S' with
    | sum ws c =>
      have hs := ha
      obtain ⟨wa, h1, h2⟩ := ha
      refine ⟨.ref a, rfl, a, _, 0, _, rfl, rfl, SqT.of h1, atI_nat (j := 0) rfl, rfl, _, rfl, ?_⟩
      rw [decStr, show decide ((Str.ofString "sum") = Str.ofString "rest") = false by decide +kernel]
      refine iteF ⟨.ref a, rfl, a, _, rfl, hs, wf, tb, fun H1 g1 => ?_⟩
      refine ⟨.int (sizeM (.sum ws c)), rfl, sizeM (.sum ws c), rfl, .int (sizeM (.sum ws c)), rfl, .int n, rfl, _, n, rfl, _, _, rfl, ?_⟩
      refine ⟨.int (clampI (sizeM (.sum ws c)) n), rfl, .int n, rfl, .int (clampI (sizeM (.sum ws c)) n), rfl, n, _, rfl, rfl, by show 2 ≤ sizeLine; decide, fun p np => ?_⟩
      exact q _ p (g1.trans (.same (sameUpd np))) upd_same
    | rest ws r m =>
      have hs := ha
      obtain ⟨wa, h1, h2⟩ := ha
      refine ⟨.ref a, rfl, a, _, 0, _, rfl, rfl, SqT.of h1, atI_nat (j := 0) rfl, rfl, _, rfl, ?_⟩
      rw [decStr, decide_eq_true rfl]
      exact iteT ⟨.ref a, rfl, .int n, rfl, a, ws, r, m, n, rfl, hs, wf, by show 2 ≤ sizeLine; decide, fun p np => q _ p (.same (sameUpd np)) upd_same⟩

/-! is_note -/
abbrev s_is_note : Stmt := topS 13
abbrev N_is_note : List Str := ["state"]
theorem sc_is_note : FnScope N_is_note ["state"] (defScope s_is_note) := ⟨rfl, rfl, rfl, by decide +kernel, rfl, by decide +kernel, by decide +kernel⟩
def sp_is_note : Sp := fun vs H Q _ => ∃ (a : Addr) (z : Str) (xs : List V), vs = [.ref a] ∧ H a = some (.tup (.str z :: xs)) ∧ Q (.bl (decide (z = "note"))) H
theorem ok_is_note (S : Stands K mg "is_note" s_is_note ["state"]) : Df P w K mg base 1 "is_note" ["state"] sp_is_note := by
  refine Df.of (k := 0) S sc_is_note (fun vs H Q E h => ?_) (fun f cdv A outer s H vs Q E hr hf h => ?_)
  · obtain ⟨a, z, xs, rfl, _⟩ := h
    rfl
  · obtain ⟨a, z, xs, rfl, ha, q⟩ := h
    refine ⟨_, (pss_one (ps_ret (pe_cmpR op_eq (pe_ix ix_tup (pv 0) pe_int (fun _ _ => rfl)) pe_str (nomark _)))), ?_⟩
    refine ⟨.ref a, rfl, a, _, 0, _, rfl, rfl, SqT.of ha, atI_nat (j := 0) rfl, rfl, ?_⟩
    rw [decStr]
    exact q
end
end K17

set_option Elab.async false
set_option linter.all false
set_option maxRecDepth 100000
set_option maxHeartbeats 1000000
namespace K17
open PySem PySem.Spec PyProof.Rows L2 Sa
/-! holds -/
structure Hold where
  leads : Bool
  number : Int
  word : Bool
/-- the tuple at a is this hold -/
def IsH (H : Hp) (a : Addr) (h : Hold) : Prop := H a = some (.tup [.bl h.leads, .int h.number, .bl h.word])
/-- what two members' holds are behind their meeting -/
def metG (S : Simple) (a b : Hold) : Hold × Hold :=
  if a.leads = false ∧ b.leads = false then (a, b)
  else if a.leads = true then (⟨true, (cutM S (a.number + b.number)).1, saysM S (cutM S (a.number + b.number)).1⟩, ⟨false, (cutM S (a.number + b.number)).2, saysM S (cutM S (a.number + b.number)).1⟩)
  else (⟨false, (cutM S (a.number + b.number)).2, saysM S (cutM S (a.number + b.number)).1⟩, ⟨true, (cutM S (a.number + b.number)).1, saysM S (cutM S (a.number + b.number)).1⟩)
theorem IsS.grow {H H' : Hp} {a : Addr} {S : Simple} (e : Grow H H') (h : IsS H a S) : IsS H' a S := h.same fun _ _ z => e.tup z
section
variable {P : Program} {w : World} {K : PySem.W.Frag} {mg : Str → Option Value} {base : Heap} {cm Tp cs Ts : Addr}
/-! members_met -/
abbrev s_members_met : Stmt := topS 16
abbrev N_members_met : List Str := ["simple", "one", "other", "kept", "over", "word", "leading", "following"]
theorem sc_members_met : FnScope N_members_met ["simple", "one", "other"] (defScope s_members_met) := ⟨rfl, rfl, rfl, by decide +kernel, rfl, by decide +kernel, by decide +kernel⟩
def sp_members_met (Ts : Addr) : Sp := fun vs H Q _ => ∃ (a h1 h2 : Addr) (S : Simple) (x y : Hold), vs = [.ref a, .ref h1, .ref h2] ∧ IsS H a S ∧ WfS S ∧ Tb H Ts ∧ IsH H h1 x ∧ IsH H h2 y ∧
  ∀ H' p g1 g2, Grow H H' → H' p = some (.tup [.ref g1, .ref g2]) → IsH H' g1 (metG S x y).1 → IsH H' g2 (metG S x y).2 → Q (.ref p) H'
theorem ok_members_met (S : Stands K mg "members_met" s_members_met ["simple", "one", "other"]) (d1 : Df P w K mg base 2 "cut" ["simple", "number"] (sp_cut Ts)) (d2 : Df P w K mg base 1 "says" ["simple", "number"] sp_says) :
    Df P w K mg base 3 "members_met" ["simple", "one", "other"] (sp_members_met Ts) := by
  have sc := sc_members_met
  refine Df.of (k := 2) S sc (fun vs H Q E h => ?_) (fun f cdv A outer s H vs Q E hr hf h => ?_)
  · obtain ⟨a, h1, h2, S', x, y, rfl, _⟩ := h
    rfl
  · obtain ⟨a, h1, h2, S', x, y, rfl, ha, wf, tb, hx, hy, q⟩ := h
    refine ⟨_, (pss_cons (ps_if (PW.pt (pw_and (pt_not (pt_val (pe_ix ix_tup (pv 1) pe_int (fun _ _ => rfl)))) (pw_and1 (pt_not (pt_val (pe_ix ix_tup (pv 2) pe_int (fun _ _ => rfl))))))) (pss_one (ps_ret (pe_tup (pa_cons (pv 1) (pa_cons (pv 2) pa_nil))))) pss_nil)
      (pss_cons (ps_asg (pe_df d1 (hr.mono (by decide)) hf rfl (pa_cons (pv 0) (pa_cons (pe_op op_add (pe_ix ix_tup (pv 1) pe_int (fun _ _ => rfl)) (pe_ix ix_tup (pv 2) pe_int (fun _ _ => rfl))) pa_nil))) (pg_tup rfl (pgs_cons (pg_name (i := 3) sc.nd rfl (Or.inl rfl)) (pgs_cons (pg_name (i := 4) sc.nd rfl (Or.inl rfl)) pgs_nil))))
      (pss_cons (ps_set (i := 5) sc.nd rfl (Or.inl rfl) (pe_df d2 (hr.mono (by decide)) hf rfl (pa_cons (pv 0) (pa_cons (pv 3) pa_nil))))
      (pss_cons (ps_set (i := 6) sc.nd rfl (Or.inl rfl) (pe_tup (pa_cons pe_bl (pa_cons (pv 3) (pa_cons (pv 5) pa_nil)))))
      (pss_cons (ps_set (i := 7) sc.nd rfl (Or.inl rfl) (pe_tup (pa_cons pe_bl (pa_cons (pv 4) (pa_cons (pv 5) pa_nil)))))
      (pss_cons (ps_if (pt_val (pe_ix ix_tup (pv 1) pe_int (fun _ _ => rfl))) (pss_one (ps_ret (pe_tup (pa_cons (pv 6) (pa_cons (pv 7) pa_nil))))) pss_nil)
      (pss_one (ps_ret (pe_tup (pa_cons (pv 7) (pa_cons (pv 6) pa_nil))))))))))), ?_⟩
    obtain ⟨xl, xn, xw⟩ := x
    obtain ⟨yl, yn, yw⟩ := y
    -- where none leads
    have still : xl = false → yl = false → (metG S' ⟨xl, xn, xw⟩ ⟨yl, yn, yw⟩) = (⟨xl, xn, xw⟩, ⟨yl, yn, yw⟩) := fun e1 e2 => if_pos ⟨e1, e2⟩
    -- behind the test: the cut, the word, both holds
    have back : ∀ {H1 : Hp} {p1 : Addr}, Grow H H1 → H1 p1 = some (.tup [.int (cutM S' (xn + yn)).1, .int (cutM S' (xn + yn)).2]) → IsS H1 a S' := fun e _ => ha.grow e
    obtain ⟨k, ek⟩ : ∃ k, k = (cutM S' (xn + yn)).1 := ⟨_, rfl⟩
    obtain ⟨o, eo⟩ : ∃ o, o = (cutM S' (xn + yn)).2 := ⟨_, rfl⟩
    cases xl with
    | true =>
      have em : metG S' ⟨true, xn, xw⟩ ⟨yl, yn, yw⟩ = (⟨true, k, saysM S' k⟩, ⟨false, o, saysM S' k⟩) := by rw [ek, eo]; exact (if_neg fun z => nomatch z.1).trans (if_pos rfl)
      rw [em] at q
      refine ⟨.ref h1, rfl, h1, _, 0, _, rfl, rfl, SqT.of hx, atI_nat (j := 0) rfl, true, rfl, iteF (iteF ?_)⟩
      refine ⟨.ref a, rfl, .ref h1, rfl, h1, _, 1, _, rfl, rfl, SqT.of hx, atI_nat (j := 1) rfl, .ref h2, rfl, h2, _, 1, _, rfl, rfl, SqT.of hy, atI_nat (j := 1) rfl, xn, yn, rfl, rfl, a, S', xn + yn, rfl, ha, wf, tb, fun H1 p1 e1 hp1 => ?_⟩
      rw [← ek, ← eo] at hp1
      refine ⟨p1, _, rfl, SqT.of hp1, rfl, _, _, rfl, _, _, rfl, rfl, ?_⟩
      refine ⟨.ref a, rfl, .int k, rfl, a, S', k, rfl, ha.grow e1, ?_⟩
      refine ⟨.int k, rfl, _, rfl, by show 3 ≤ sizeLine; decide, fun p2 n2 => ?_⟩
      have e2 : Same H1 _ := sameUpd (o := .tup [.bl true, .int k, .bl (saysM S' k)]) n2
      refine ⟨.int o, rfl, _, rfl, by show 3 ≤ sizeLine; decide, fun p3 n3 => ?_⟩
      have e3 : Same _ _ := sameUpd (o := .tup [.bl false, .int o, .bl (saysM S' k)]) n3
      have g3 := e1.trans (.same (e2.trans e3))
      refine ⟨.ref h1, rfl, h1, _, 0, _, rfl, rfl, SqT.of (g3.tup hx), atI_nat (j := 0) rfl, true, rfl, iteT ?_⟩
      refine ⟨.ref p2, rfl, .ref p3, rfl, by show 2 ≤ sizeLine; decide, fun p4 n4 => ?_⟩
      have e4 : Same _ _ := sameUpd (o := .tup [.ref p2, .ref p3]) n4
      exact q _ p4 p2 p3 (g3.trans (.same e4)) upd_same ((e3.trans e4) _ _ upd_same) (e4 _ _ upd_same)
    | false =>
      refine ⟨.ref h1, rfl, h1, _, 0, _, rfl, rfl, SqT.of hx, atI_nat (j := 0) rfl, false, rfl, iteT ?_⟩
      cases yl with
      | true =>
        have em : metG S' ⟨false, xn, xw⟩ ⟨true, yn, yw⟩ = (⟨false, o, saysM S' k⟩, ⟨true, k, saysM S' k⟩) := by rw [ek, eo]; exact (if_neg fun z => nomatch z.2).trans (if_neg fun z => nomatch z)
        rw [em] at q
        refine ⟨.ref h2, rfl, h2, _, 0, _, rfl, rfl, SqT.of hy, atI_nat (j := 0) rfl, true, rfl, iteF ?_⟩
        refine ⟨.ref a, rfl, .ref h1, rfl, h1, _, 1, _, rfl, rfl, SqT.of hx, atI_nat (j := 1) rfl, .ref h2, rfl, h2, _, 1, _, rfl, rfl, SqT.of hy, atI_nat (j := 1) rfl, xn, yn, rfl, rfl, a, S', xn + yn, rfl, ha, wf, tb, fun H1 p1 e1 hp1 => ?_⟩
        rw [← ek, ← eo] at hp1
        refine ⟨p1, _, rfl, SqT.of hp1, rfl, _, _, rfl, _, _, rfl, rfl, ?_⟩
        refine ⟨.ref a, rfl, .int k, rfl, a, S', k, rfl, ha.grow e1, ?_⟩
        refine ⟨.int k, rfl, _, rfl, by show 3 ≤ sizeLine; decide, fun p2 n2 => ?_⟩
        have e2 : Same H1 _ := sameUpd (o := .tup [.bl true, .int k, .bl (saysM S' k)]) n2
        refine ⟨.int o, rfl, _, rfl, by show 3 ≤ sizeLine; decide, fun p3 n3 => ?_⟩
        have e3 : Same _ _ := sameUpd (o := .tup [.bl false, .int o, .bl (saysM S' k)]) n3
        have g3 := e1.trans (.same (e2.trans e3))
        refine ⟨.ref h1, rfl, h1, _, 0, _, rfl, rfl, SqT.of (g3.tup hx), atI_nat (j := 0) rfl, false, rfl, iteF ?_⟩
        refine ⟨.ref p3, rfl, .ref p2, rfl, by show 2 ≤ sizeLine; decide, fun p4 n4 => ?_⟩
        have e4 : Same _ _ := sameUpd (o := .tup [.ref p3, .ref p2]) n4
        exact q _ p4 p3 p2 (g3.trans (.same e4)) upd_same (e4 _ _ upd_same) ((e3.trans e4) _ _ upd_same)
      | false =>
        refine ⟨.ref h2, rfl, h2, _, 0, _, rfl, rfl, SqT.of hy, atI_nat (j := 0) rfl, false, rfl, iteT ?_⟩
        refine ⟨.ref h1, rfl, .ref h2, rfl, by show 2 ≤ sizeLine; decide, fun p4 n4 => ?_⟩
        have e4 : Same _ _ := sameUpd (o := .tup [.ref h1, .ref h2]) n4
        rw [still rfl rfl] at q
        exact q _ p4 h1 h2 (.same e4) upd_same (e4 _ _ hx) (e4 _ _ hy)

/-- the tuple at a is a member of this sort with one hold -/
def IsM (H : Hp) (a : Addr) (sort : Int) (h : Hold) : Prop := ∃ ha hh, H a = some (.tup [.str "member", .int sort, .ref ha]) ∧ H ha = some (.tup [.ref hh]) ∧ IsH H hh h
theorem IsM.ext {H H' : Hp} {a : Addr} {sort : Int} {h : Hold} (e : ∀ b xs, H b = some (.tup xs) → H' b = some (.tup xs)) (m : IsM H a sort h) : IsM H' a sort h :=
  let ⟨ha, hh, h1, h2, h3⟩ := m; ⟨ha, hh, e _ _ h1, e _ _ h2, e _ _ h3⟩
theorem IsM.grow {H H' : Hp} {a : Addr} {sort : Int} {h : Hold} (e : Grow H H') (m : IsM H a sort h) : IsM H' a sort h := m.ext fun _ _ z => e.tup z
theorem one_item {K : PySem.W.Frag} {H : Hp} {p : Addr} {zs : List V} {k : Nat} {g : V} (hp : H p = some (.tup zs)) (hk : zs[k]? = some g) {n : Nat} {v u : V} (e1 : [V.ref p][n]? = some v) (e2 : [g][n]? = some u) : ∃ t ys, v = .ref t ∧ SqT K H t ys ∧ ys[k]? = some u := by
  cases n with
  | zero =>
    cases e1
    cases e2
    exact ⟨p, zs, rfl, SqT.of hp, hk⟩
  | succ n => simp at e1

/-! meet_member -/
abbrev s_meet_member : Stmt := topS 18
abbrev N_meet_member : List Str := ["saying", "one", "other", "pairs", "first", "second", "simple", "mine", "yours"]
theorem sc_meet_member : FnScope N_meet_member ["saying", "one", "other"] (defScope s_meet_member) := ⟨rfl, rfl, rfl, by decide +kernel, rfl, by decide +kernel, by decide +kernel⟩
def sp_meet_member (Tp Ts : Addr) : Sp := fun vs H Q _ => ∃ (a m1 m2 : Addr) (S : Simple) (i j : Int) (x y : Hold), vs = [.ref a, .ref m1, .ref m2] ∧ Tb H Tp ∧ Tb H Ts ∧ IsS H a S ∧ WfS S ∧ IsM H m1 i x ∧ IsM H m2 j y ∧
  ∀ H' p g1 g2, Grow H H' → H' p = some (.tup [.ref g1, .ref g2]) → IsM H' g1 i (metG S x y).1 → IsM H' g2 j (metG S x y).2 → Q (.ref p) H'
theorem ok_meet_member (T : Bn mg) {f0 : Addr} {fd0 : FuncData} (F : Fun K "meet_member" "meet_member" s_meet_member f0 fd0) (fm : mg "meet_member" = some (.ref f0)) (fb : Binds K fd0 ["saying", "one", "other"] []) (hc : fd0.code = .ref cm) (TB : LamX.TabB base mg cm Tp)
    (d1 : Df P w K mg base 5 "simples" ["saying"] sp_simples) (d2 : Df P w K mg base 3 "members_met" ["simple", "one", "other"] (sp_members_met Ts)) :
    Df P w K mg base 6 "meet_member" ["saying", "one", "other"] (sp_meet_member Tp Ts) := by
  have sc := sc_meet_member
  refine Df.ofC (k := 5) F fm fb hc sc (fun vs H Q E h => ?_) (fun A outer s H vs Q E hr hf h => ?_)
  · obtain ⟨a, m1, m2, S', i, j, x, y, rfl, _⟩ := h
    rfl
  · obtain ⟨a, m1, m2, S', i, j, x, y, rfl, tb, ts, ha, wf, hx, hy, q⟩ := h
    refine ⟨_, (pss_cons (ps_setLc (i := 3) (own := [("simple", 6), ("mine", 7), ("yours", 8)]) (g := gTup K 3 (gCons (gName 6) (gCons (gName 7) (gCons (gName 8) gNil)))) (tt := tYes) rfl sc.nd rfl rfl (sw_true rfl rfl rfl (by decide +kernel)) (pi_zip3 rfl T.n_zip (pa_cons (pe_df d1 (hr.mono (by decide)) hf rfl (pa_cons (pv 0) pa_nil)) (pa_cons (pe_ix ix_tup (pv 1) pe_int (fun _ _ => rfl)) (pa_cons (pe_ix ix_tup (pv 2) pe_int (fun _ _ => rfl)) pa_nil)))) (blkOk_by (own := [("simple", 6), ("mine", 7), ("yours", 8)]) (N := N_meet_member) (sc := defScope s_meet_member) (by decide +kernel)) (fun _ _ _ _ _ => (pg_tup rfl (pgs_cons (pg_name (i := 6) sc.nd rfl (Or.inl rfl)) (pgs_cons (pg_name (i := 7) sc.nd rfl (Or.inl rfl)) (pgs_cons (pg_name (i := 8) sc.nd rfl (Or.inl rfl)) pgs_nil))))) (fun _ _ _ _ _ => pts_nil) (fun _ _ _ _ _ => (pe_df d2 (hr.mono (by decide)) hf rfl (pa_cons (pv 6) (pa_cons (pv 7) (pa_cons (pv 8) pa_nil))))))
      (pss_cons (ps_set (i := 4) sc.nd rfl (Or.inl rfl) (pe_tup (pa_cons pe_str (pa_cons (pe_ix ix_tup (pv 1) pe_int (fun _ _ => rfl)) (pa_cons (pe_tupG hr rfl T.n_tuple TB rfl (genS_mk (by decide +kernel)) (pv 3) (fun _ => rfl)) pa_nil)))))
      (pss_cons (ps_set (i := 5) sc.nd rfl (Or.inl rfl) (pe_tup (pa_cons pe_str (pa_cons (pe_ix ix_tup (pv 2) pe_int (fun _ _ => rfl)) (pa_cons (pe_tupG hr rfl T.n_tuple TB rfl (genS_mk (by decide +kernel)) (pv 3) (fun _ => rfl)) pa_nil)))))
      (pss_one (ps_ret (pe_tup (pa_cons (pv 4) (pa_cons (pv 5) pa_nil)))))))), ?_⟩
    obtain ⟨ha1, hh1, x1, x2, x3⟩ := hx
    obtain ⟨ha2, hh2, y1, y2, y3⟩ := hy
    refine ⟨.ref a, rfl, a, S', rfl, ha, fun H1 t1 e1 ht1 => ?_⟩
    refine ⟨.ref m1, rfl, m1, _, 2, _, rfl, rfl, SqT.of (e1 _ _ x1), atI_nat (j := 2) rfl, .ref m2, rfl, m2, _, 2, _, rfl, rfl, SqT.of (e1 _ _ y1), atI_nat (j := 2) rfl,
      t1, ha1, ha2, false, false, false, [.ref a], [.ref hh1], [.ref hh2], rfl, SqT.of ht1, SqT.of (e1 _ _ x2), SqT.of (e1 _ _ y2), fun D nD => ?_⟩
    refine lc_it (walk_zip3 (xs := [.ref a]) (ys := [.ref hh1]) (zs := [.ref hh2]) rfl rfl) (fun n Hx => Grow H1 Hx ∧ (n = 0 → Hx D = some (.lst [])) ∧ (n = 1 → ∃ p g1 g2, Hx D = some (.lst [.ref p]) ∧ Hx p = some (.tup [.ref g1, .ref g2]) ∧ IsH Hx g1 (metG S' x y).1 ∧ IsH Hx g2 (metG S' x y).2))
      ⟨.same (sameUpd nD), fun _ => upd_same, fun z => absurd z (by decide)⟩ (fun n Hx _ p => ⟨SqT.of (p.1.tup ht1), SqT.of (p.1.tup (e1 _ _ x2)), SqT.of (p.1.tup (e1 _ _ y2))⟩) (fun n v Hx Hy hn p yld => ?_) (fun Hx p => ?_)
    · have n0 : n = 0 := by
        have : n < 1 := hn
        omega
      subst n0
      obtain ⟨s1, z0, _⟩ := p
      obtain ⟨Tt, u1, u2, u3, rfl, nT, rfl, f1, f2, f3⟩ := yld
      cases (Option.some.inj f1)
      cases (Option.some.inj f2)
      cases (Option.some.inj f3)
      have s2 : Grow H1 _ := s1.trans (.same (sameUpd (o := .tup [.ref a, .ref hh1, .ref hh2]) nT))
      have s3 : Grow H _ := (Grow.same e1).trans s2
      refine ⟨Tt, _, rfl, SqT.of upd_same, rfl, _, _, rfl, _, _, rfl, _, _, rfl, rfl, rfl, ?_⟩
      refine ⟨.ref a, rfl, .ref hh1, rfl, .ref hh2, rfl, a, hh1, hh2, S', x, y, rfl, ha.grow s3, wf, s3.tabs _ ts, s3.tup x3, s3.tup y3, fun H4 p g1 g2 e4 hp k1 k2 => ?_⟩
      have hD : H4 D = some (.lst []) := e4.lst (by rw [upd_ne (fun z => by rw [← z, z0 rfl] at nT; cases nT)]; exact z0 rfl)
      have keep : ∀ b o, b ≠ D → H4 b = some o → upd H4 D (.lst ([] ++ [.ref p])) b = some o := fun b o n h => by rw [upd_ne n]; exact h
      have nTup : ∀ {b : Addr} {xs : List V}, H4 b = some (.tup xs) → b ≠ D := fun h z => by rw [z, hD] at h; cases h
      refine ⟨[], hD, by show 0 < sizeLine; decide, ⟨fun b o h nt => ?_, fun R tR => ?_⟩, fun z => absurd z (by decide), fun _ => ⟨p, g1, g2, upd_same, keep _ _ (nTup hp) hp, keep _ _ (nTup k1) k1, keep _ _ (nTup k2) k2⟩⟩
      · exact keep b o (fun z => by rw [z, nD] at h; cases h) (e4.keep _ _ (s2.keep _ _ h nt) nt)
      · obtain ⟨ps, hR, r⟩ := e4.tabs R (s2.tabs R tR)
        exact ⟨ps, keep _ _ (fun z => by rw [z, hD] at hR; cases hR) hR, r⟩
    · obtain ⟨s1, _, z1⟩ := p
      obtain ⟨p, g1, g2, hD, hp, k1, k2⟩ := z1 rfl
      have s2 : Grow H Hx := (Grow.same e1).trans s1
      have tb1 : Tb Hx Tp := s2.tabs _ tb
      -- first = ("member", one[1], tuple(pair[0] for pair in pairs))
      refine ⟨.ref m1, rfl, m1, _, 1, _, rfl, rfl, SqT.of (s2.tup x1), atI_nat (j := 1) rfl, .ref D, rfl, true, D, [.ref p], [.ref g1], rfl, SqL.of hD, tb1, ?_, by show 1 ≤ sizeLine; decide, fun H2 t2 tab n2 => ?_⟩
      · exact elt_item (k := 0) rfl rfl tb1 rfl fun n v u e1 e2 => one_item hp rfl e1 e2
      have x1' : Grow Hx H2 := .tab tb1 tab
      refine ⟨by show 3 ≤ sizeLine; decide, fun t3 n3 => ?_⟩
      have e3 : Same (upd H2 t2 (.tup [.ref g1])) _ := sameUpd (o := .tup [.str "member", .int i, .ref t2]) n3
      have x2' : Grow H2 _ := .same ((sameUpd (o := .tup [.ref g1]) n2).trans e3)
      have x3' := x1'.trans x2'
      have tb2 := x3'.tabs _ tb1
      -- second = ("member", other[1], tuple(pair[1] for pair in pairs))
      refine ⟨.ref m2, rfl, m2, _, 1, _, rfl, rfl, SqT.of (x3'.tup (s2.tup y1)), atI_nat (j := 1) rfl, .ref D, rfl, true, D, [.ref p], [.ref g2], rfl, SqL.of (x3'.lst hD), tb2, ?_, by show 1 ≤ sizeLine; decide, fun H5 t5 tab5 n5 => ?_⟩
      · exact elt_item (k := 1) rfl rfl tb2 rfl fun n v u e1 e2 => one_item (x3'.tup hp) rfl e1 e2
      have x5 : Grow _ H5 := .tab tb2 tab5
      refine ⟨by show 3 ≤ sizeLine; decide, fun t6 n6 => ?_⟩
      refine ⟨.ref t3, rfl, .ref t6, rfl, by show 2 ≤ sizeLine; decide, fun t7 n7 => ?_⟩
      have e5 : Same H5 _ := (sameUpd (o := .tup [.ref g2]) n5).trans ((sameUpd (o := .tup [.str "member", .int j, .ref t5]) n6).trans (sameUpd (o := .tup [.ref t3, .ref t6]) n7))
      have f6 : Same (upd H5 t5 (.tup [.ref g2])) _ := (sameUpd (o := .tup [.str "member", .int j, .ref t5]) n6).trans (sameUpd (o := .tup [.ref t3, .ref t6]) n7)
      have f7 : Same (upd (upd H5 t5 (.tup [.ref g2])) t6 (.tup [.str "member", .int j, .ref t5])) _ := sameUpd (o := .tup [.ref t3, .ref t6]) n7
      have x8 := x5.trans (.same e5)
      refine q _ t7 t3 t6 (s2.trans (x3'.trans x8)) upd_same ⟨t2, g1, x8.tup upd_same, x8.tup (e3 _ _ upd_same), (x3'.trans x8).tup k1⟩ ⟨t5, g2, f7 _ _ upd_same, f6 _ _ upd_same, (x3'.trans x8).tup k2⟩

/-! meet, of two members -/
abbrev s_meet : Stmt := topS 20
abbrev N_meet : List Str := ["saying", "one", "other", "member", "note"]
theorem sc_meet : FnScope N_meet ["saying", "one", "other"] (defScope s_meet) := ⟨rfl, rfl, rfl, by decide +kernel, rfl, by decide +kernel, by decide +kernel⟩
theorem ok_meet (S : Stands K mg "meet" s_meet ["saying", "one", "other"]) (d1 : Df P w K mg base 1 "is_note" ["state"] sp_is_note) (d2 : Df P w K mg base 6 "meet_member" ["saying", "one", "other"] (sp_meet_member Tp Ts)) :
    Df P w K mg base 7 "meet" ["saying", "one", "other"] (sp_meet_member Tp Ts) := by
  refine Df.of (k := 6) S sc_meet (fun vs H Q E h => ?_) (fun f cdv A outer s H vs Q E hr hf h => ?_)
  · obtain ⟨a, m1, m2, S', i, j, x, y, rfl, _⟩ := h
    rfl
  · obtain ⟨a, m1, m2, S', i, j, x, y, rfl, tb, ts, ha, wf, hx, hy, q⟩ := h
    refine ⟨_, (pss_cons (ps_if (PW.pt (pw_and (pt_val (pe_df d1 (hr.mono (by decide)) hf rfl (pa_cons (pv 1) pa_nil))) (pw_and1 (pt_val (pe_df d1 (hr.mono (by decide)) hf rfl (pa_cons (pv 2) pa_nil)))))) (pss_one (ps_ret (pe_tup (pa_cons (pv 1) (pa_cons (pv 2) pa_nil))))) pss_nil)
      (pss_cons (ps_if (pt_val (pe_df d1 (hr.mono (by decide)) hf rfl (pa_cons (pv 1) pa_nil))) pss_never pss_nil)
      (pss_cons (ps_if (pt_val (pe_df d1 (hr.mono (by decide)) hf rfl (pa_cons (pv 2) pa_nil))) pss_never pss_nil)
      (pss_one (ps_ret (pe_df d2 (hr.mono (by decide)) hf rfl (pa_cons (pv 0) (pa_cons (pv 1) (pa_cons (pv 2) pa_nil))))))))), ?_⟩
    have no : decide (Str.ofString "member" = Str.ofString "note") = false := by decide +kernel
    have hx0 := hx
    have hy0 := hy
    obtain ⟨ha1, hh1, x1, x2, x3⟩ := hx
    obtain ⟨ha2, hh2, y1, y2, y3⟩ := hy
    refine ⟨.ref m1, rfl, m1, _, _, rfl, x1, _, rfl, ?_⟩
    rw [no]
    refine ⟨.ref m1, rfl, m1, _, _, rfl, x1, _, rfl, ?_⟩
    rw [no]
    refine ⟨.ref m2, rfl, m2, _, _, rfl, y1, _, rfl, ?_⟩
    rw [no]
    exact ⟨.ref a, rfl, .ref m1, rfl, .ref m2, rfl, a, m1, m2, S', i, j, x, y, rfl, tb, ts, ha, wf, hx0, hy0, q⟩
end
end K17

set_option Elab.async false
set_option linter.all false
set_option maxRecDepth 100000
set_option maxHeartbeats 1000000
namespace K17
open PySem PySem.Spec PyProof.Rows L2 Sa
section
variable {P : Program} {w : World} {K : PySem.W.Frag} {mg : Str → Option Value} {base : Heap} {c Tp : Addr}
/-! the law's own hand of numbers: three ints -/
structure Hand where
  own : Int
  seed : Int
  turn : Int
/-- bounds that all draws keep: at most so many draws -/
structure HandOk (h : Hand) (n : Int) : Prop where
  o0 : 0 ≤ h.own
  s0 : 0 ≤ h.seed
  sb : h.seed < 2 ^ 61
  t0 : 0 ≤ h.turn
  tb : h.turn ≤ n
abbrev hnd (h : Hand) : HO := .lst [.int h.own, .int h.seed, .int h.turn]

theorem prime_at (k : Int) (h0 : 0 ≤ k) (h1 : k < 4) : ∃ pr : Int, atI [V.int 2305843009213693921, .int 999999999989, .int 2305843009213693907, .int 67280421310721] k = some (.int pr) ∧ 999999999989 ≤ pr ∧ pr ≤ 2305843009213693921 := by
  have c : k = 0 ∨ k = 1 ∨ k = 2 ∨ k = 3 := by omega
  rcases c with rfl | rfl | rfl | rfl
  · exact ⟨_, atI_nat (j := 0) rfl, by decide, by decide⟩
  · exact ⟨_, atI_nat (j := 1) rfl, by decide, by decide⟩
  · exact ⟨_, atI_nat (j := 2) rfl, by decide, by decide⟩
  · exact ⟨_, atI_nat (j := 3) rfl, by decide, by decide⟩

/-! _law_take -/
abbrev s__law_take : Stmt := topS 23
abbrev N__law_take : List Str := ["_law_hand_here", "_law_many", "_law_digit", "_law_prime", "_law_mixed"]
theorem sc__law_take : FnScope N__law_take ["_law_hand_here", "_law_many"] (defScope s__law_take) := ⟨rfl, rfl, rfl, by decide +kernel, rfl, by decide +kernel, by decide +kernel⟩
def sp__law_take : Sp := fun vs H Q _ => ∃ (a : Addr) (h : Hand) (n : Int) (many : Int), vs = [.ref a, .int many] ∧ H a = some (hnd h) ∧ HandOk h n ∧ n < 2 ^ 30 ∧ 0 < many ∧ many < 2 ^ 29 ∧
  ∀ H' h' d, (∀ b o, b ≠ a → H b = some o → H' b = some o) → H' a = some (hnd h') → HandOk h' (n + 1) → 0 ≤ d → d < many → Q (.int d) H'
theorem ok__law_take (S : Stands K mg "_law_take" s__law_take ["_law_hand_here", "_law_many"]) : Df P w K mg base 1 "_law_take" ["_law_hand_here", "_law_many"] sp__law_take := by
  have sc := sc__law_take
  refine Df.of (k := 0) S sc (fun vs H Q E h => ?_) (fun f cdv A outer s H vs Q E hr hf h => ?_)
  · obtain ⟨a, h, n, many, rfl, _⟩ := h
    rfl
  · obtain ⟨a, ⟨o, sd, tn⟩, n, many, rfl, ha, ⟨o0, s0, sb, t0, tb⟩, nb, mp, mb, q⟩ := h
    dsimp only at o0 s0 sb t0 tb ha
    refine ⟨_, (pss_cons (ps_if (pt_cmpR op_gt (pe_ix ix_list (pv 0) pe_int (fun _ _ => rfl)) pe_int (nomark _)) (pss_cons (ps_set (i := 2) sc.nd rfl (Or.inl rfl) (pe_op op_mod (pe_ix ix_list (pv 0) pe_int (fun _ _ => rfl)) (pv 1)))
      (pss_cons (ps_asg (pe_op op_fdiv (pe_ix ix_list (pv 0) pe_int (fun _ _ => rfl)) (pv 1)) (pg_sub (pv 0) pe_int set_list))
      (pss_one (ps_ret (pv 2))))) pss_nil)
      (pss_cons (ps_asg (pe_op op_add (pe_ix ix_list (pv 0) pe_int (fun _ _ => rfl)) pe_int) (pg_sub (pv 0) pe_int set_list))
      (pss_cons (ps_set (i := 3) sc.nd rfl (Or.inl rfl) (pe_ix ix_list (pe_lst (pa_cons pe_int (pa_cons pe_int (pa_cons pe_int (pa_cons pe_int pa_nil))))) (pe_op op_mod (pe_ix ix_list (pv 0) pe_int (fun _ _ => rfl)) pe_int) (fun _ _ => rfl)))
      (pss_cons (ps_set (i := 4) sc.nd rfl (Or.inl rfl) (pe_op op_add (pe_ix ix_list (pv 0) pe_int (fun _ _ => rfl)) (pe_op op_mul (pe_op op_mul pe_int (pe_ix ix_list (pv 0) pe_int (fun _ _ => rfl))) (pe_ix ix_list (pv 0) pe_int (fun _ _ => rfl)))))
      (pss_cons (ps_set (i := 4) sc.nd rfl (Or.inl rfl) (pe_op op_mod (pe_op op_add (pv 4) (pe_op op_mul pe_int (pe_ix ix_list (pv 0) pe_int (fun _ _ => rfl)))) (pv 3)))
      (pss_cons (ps_set (i := 4) sc.nd rfl (Or.inl rfl) (pe_op op_mod (pe_op op_mul (pv 4) (pe_op op_add (pe_op op_mod (pv 4) pe_int) (pe_op op_mul pe_int (pe_ix ix_list (pv 0) pe_int (fun _ _ => rfl))))) (pv 3)))
      (pss_one (ps_ret (pe_op op_mod (pe_op op_add (pe_op op_fdiv (pv 4) pe_int) (pe_op op_fdiv (pv 4) pe_int)) (pv 1)))))))))), ?_⟩
    have at0 : ∀ {x y z : V}, atI [x, y, z] 0 = some x := atI_nat (j := 0) rfl
    have at1 : ∀ {x y z : V}, atI [x, y, z] 1 = some y := atI_nat (j := 1) rfl
    have at2 : ∀ {x y z : V}, atI [x, y, z] 2 = some z := atI_nat (j := 2) rfl
    refine ⟨.ref a, rfl, a, _, 0, _, rfl, rfl, SqL.of ha, at0, o, 0, rfl, rfl, _, rfl, ite2 (fun e => ?_) (fun e => ?_)⟩
    · have op : 0 < o := of_decide_eq_true e
      refine ⟨.ref a, rfl, a, _, 0, _, rfl, rfl, SqL.of ha, at0, .int many, rfl, o, many, rfl, rfl, mp, ?_⟩
      refine ⟨.ref a, rfl, a, _, 0, _, rfl, rfl, SqL.of ha, at0, .int many, rfl, o, many, rfl, rfl, ⟨mp, by omega⟩, ?_⟩
      refine ⟨.ref a, rfl, a, _, 0, 0, rfl, rfl, ha, rfl, ?_⟩
      refine ⟨.int (o % many), rfl, ?_⟩
      refine q _ ⟨o / many, sd, tn⟩ (o % many) (fun b u nb h => by rw [upd_ne nb]; exact h) upd_same ⟨Int.ediv_nonneg o0 (by omega), s0, sb, t0, Int.le_trans tb (by omega)⟩ (Int.emod_nonneg _ (by omega)) (Int.emod_lt_of_pos _ mp)
    · refine ⟨.ref a, rfl, a, _, 2, _, rfl, rfl, SqL.of ha, at2, tn, 1, rfl, rfl, ?_⟩
      refine ⟨.ref a, rfl, a, _, 2, 2, rfl, rfl, ha, rfl, ?_⟩
      have h1 : upd H a (.lst ([V.int o, .int sd, .int tn].set 2 (.int (tn + 1)))) a = some (hnd ⟨o, sd, tn + 1⟩) := upd_same
      have k1 : ∀ b u, b ≠ a → H b = some u → upd H a (.lst ([V.int o, .int sd, .int tn].set 2 (.int (tn + 1)))) b = some u := fun b u nb h => by rw [upd_ne nb]; exact h
      generalize upd H a (.lst ([V.int o, .int sd, .int tn].set 2 (.int (tn + 1)))) = H1 at h1 k1 ⊢
      generalize et : tn + 1 = t at h1 ⊢
      have tb0 : 0 ≤ t := by omega
      have tb1 : t ≤ 1073741824 := by omega
      have tb2 : t ≤ n + 1 := by omega
      refine ⟨by show 4 ≤ sizeLine; decide, fun p np => ?_⟩
      have h2 : upd H1 p (.lst [.int 2305843009213693921, .int 999999999989, .int 2305843009213693907, .int 67280421310721]) a = some (hnd ⟨o, sd, t⟩) := by rw [upd_ne (ne_of_none h1 np)]; exact h1
      have k2 : ∀ b u, b ≠ a → H b = some u → upd H1 p (.lst [.int 2305843009213693921, .int 999999999989, .int 2305843009213693907, .int 67280421310721]) b = some u := fun b u nb h => by
        rw [upd_ne (ne_of_none (k1 b u nb h) np)]
        exact k1 b u nb h
      have hp : upd H1 p (.lst [.int 2305843009213693921, .int 999999999989, .int 2305843009213693907, .int 67280421310721]) p = some _ := upd_same
      generalize upd H1 p (.lst [.int 2305843009213693921, .int 999999999989, .int 2305843009213693907, .int 67280421310721]) = H2 at h2 k2 hp ⊢
      obtain ⟨pr, epr, plo, phi⟩ := prime_at (t % 4) (Int.emod_nonneg _ (by decide)) (Int.emod_lt_of_pos _ (by decide))
      refine ⟨.ref a, rfl, a, _, 2, _, rfl, rfl, SqL.of h2, at2, t, 4, rfl, rfl, (by decide : (0 : Int) < 4), p, _, t % 4, _, rfl, rfl, SqL.of hp, epr, ?_⟩
      -- mixed = seed + 15485863 * turn * turn
      refine ⟨.ref a, rfl, a, _, 1, _, rfl, rfl, SqL.of h2, at1, .ref a, rfl, a, _, 2, _, rfl, rfl, SqL.of h2, at2, 15485863, t, rfl, rfl, .inl (by decide), .ref a, rfl, a, _, 2, _, rfl, rfl, SqL.of h2, at2, _, t, rfl, rfl, .inr ⟨by omega, by omega⟩, sd, _, rfl, rfl, ?_⟩
      -- mixed = (mixed + 32452843 * turn) % prime
      refine ⟨_, rfl, .ref a, rfl, a, _, 2, _, rfl, rfl, SqL.of h2, at2, 32452843, t, rfl, rfl, .inl (by decide), _, _, rfl, rfl, .int pr, rfl, _, pr, rfl, rfl, (by omega : 0 < pr), ?_⟩
      have x0 : 0 ≤ (sd + 15485863 * t * t + 32452843 * t) % pr := Int.emod_nonneg _ (by omega)
      have x1 : (sd + 15485863 * t * t + 32452843 * t) % pr < pr := Int.emod_lt_of_pos _ (by omega)
      obtain ⟨x, ex⟩ : ∃ x, x = (sd + 15485863 * t * t + 32452843 * t) % pr := ⟨_, rfl⟩
      rw [← ex] at x0 x1
      -- mixed = mixed * (mixed % 1000003 + 7919 * turn) % prime
      refine ⟨.int x, by rw [ex]; rfl, .int x, by rw [ex]; rfl, x, 1000003, rfl, rfl, (by decide : (0 : Int) < 1000003), .ref a, rfl, a, _, 2, _, rfl, rfl, SqL.of h2, at2, 7919, t, rfl, rfl, .inl (by decide), _, _, rfl, rfl, x, _, rfl, rfl, .inl ⟨by omega, by omega⟩, .int pr, rfl, _, pr, rfl, rfl, (by omega : 0 < pr), ?_⟩
      -- return
      refine ⟨_, rfl, _, 4099, rfl, rfl, ⟨by decide, by decide⟩, _, rfl, _, 1000033, rfl, rfl, ⟨by decide, by decide⟩, _, _, rfl, rfl, .int many, rfl, _, many, rfl, rfl, mp, ?_⟩
      exact q _ ⟨o, sd, t⟩ _ k2 h2 ⟨o0, s0, sb, tb0, tb2⟩ (Int.emod_nonneg _ (by omega)) (Int.emod_lt_of_pos _ mp)
theorem cut_int {ns : List Int} {lo hi : Option Int} {i : Nat} {x : V} (h : (cutV (ns.map V.int) lo hi)[i]? = some x) : ∃ n, x = .int n := by
  have hm : x ∈ cutV (ns.map V.int) lo hi := List.mem_of_getElem? h
  unfold cutV at hm
  obtain ⟨n, _, e⟩ := List.mem_map.mp (List.mem_of_mem_drop (List.mem_of_mem_take hm))
  exact ⟨n, e.symm⟩
theorem abs_nn (n : Int) : 0 ≤ (if n < 0 then -n else n) := by
  split <;> omega
/-! _law_hand -/
abbrev s__law_hand : Stmt := topS 22
abbrev N__law_hand : List Str := ["_law_script", "_law_k", "_law_cell", "_law_seed", "_law_one"]
theorem sc__law_hand : FnScope N__law_hand ["_law_script", "_law_k"] (defScope s__law_hand) := ⟨rfl, rfl, rfl, by decide +kernel, rfl, by decide +kernel, by decide +kernel⟩
def sp__law_hand (K : PySem.W.Frag) : Sp := fun vs H Q _ => ∃ (a : Addr) (ns : List Int) (k : Int), vs = [.ref a, .int k] ∧ SqL K H a (ns.map V.int) ∧ ns.length ≤ 63 ∧ 0 ≤ k ∧ k < 10 ∧
  ∀ H' p h, Same H H' → H p = none → H' p = some (hnd h) → HandOk h 0 → Q (.ref p) H'
theorem ok__law_hand (T : Bn mg) (S : Stands K mg "_law_hand" s__law_hand ["_law_script", "_law_k"]) : Df P w K mg base 1 "_law_hand" ["_law_script", "_law_k"] (sp__law_hand K) := by
  have sc := sc__law_hand
  refine Df.of (k := 0) S sc (fun vs H Q E h => ?_) (fun f cdv A outer s H vs Q E hr hf h => ?_)
  · obtain ⟨a, ns, k, rfl, _⟩ := h
    rfl
  · obtain ⟨a, ns, k, rfl, hs, short, k0, k1, q⟩ := h
    refine ⟨_, (pss_cons (ps_set (i := 2) sc.nd rfl (Or.inl rfl) (pe_ifExp (pt_cmpR op_lt (pv 1) (pe_callB call_len_seq rfl T.n_len PySem.boot_len (pa_cons (pv 0) pa_nil)) (nomark _)) (pe_ix ix_list (pv 0) (pv 1) (fun _ _ => rfl)) pe_int))
      (pss_cons (ps_set (i := 3) sc.nd rfl (Or.inl rfl) (pe_op op_add pe_int (pe_op op_mul pe_int (pv 1))))
      (pss_cons (ps_for PassesOwn.never rfl (pi_list (pe_slice sl_list (pv 0) po_none (po_some pe_int))) (pg_name (i := 4) sc.nd rfl (Or.inl rfl)) (pss_one (ps_set (i := 3) sc.nd rfl (Or.inl rfl) (pe_op op_mod (pe_op op_add (pe_op op_add (pe_op op_mul (pv 3) pe_int) (pe_op op_mul pe_int (pe_callB call_abs rfl T.n_abs (by decide +kernel) (pa_cons (pv 4) pa_nil)))) (pe_callTy call_int1 rfl T.n_int (by decide +kernel) (pa_cons (pe_cmpR op_lt (pv 4) pe_int (nomark _)) pa_nil))) pe_int))))
      (pss_one (ps_ret (pe_lst (pa_cons (pe_ifExp (pt_cmpR op_ge (pe_callB call_abs rfl T.n_abs (by decide +kernel) (pa_cons (pv 2) pa_nil)) (pe_op op_pow pe_int pe_int) (nomark _)) (pe_callB call_abs rfl T.n_abs (by decide +kernel) (pa_cons (pv 2) pa_nil)) pe_int) (pa_cons (pv 3) (pa_cons pe_int pa_nil))))))))), ?_⟩
    have hat : k < ((ns.map V.int).length : Int) → atI (ns.map V.int) k = some (.int (ns.getD k.toNat 0)) := fun e => by
      rw [List.length_map] at e
      have hlt : k.toNat < ns.length := by omega
      have g : (ns.map V.int)[k.toNat]? = some (.int (ns.getD k.toNat 0)) := by
        rw [List.getElem?_map, List.getElem?_eq_getElem hlt, List.getD_eq_getElem?_getD, List.getElem?_eq_getElem hlt]
        rfl
      have z := atI_nat (j := k.toNat) g
      rw [Int.toNat_of_nonneg k0] at z
      exact z
    refine ⟨.int k, rfl, .ref a, rfl, a, _, rfl, .inl hs, k, _, rfl, rfl, _, rfl, ite2 (fun e => ⟨.ref a, rfl, .int k, rfl, a, _, k, _, rfl, rfl, hs, hat (of_decide_eq_true e), ?_⟩) (fun e => ?_)⟩
    all_goals
      refine ⟨.int k, rfl, 104729, k, rfl, rfl, .inl (by decide), 700001, _, rfl, rfl, ?_⟩
      refine ⟨.ref a, rfl, 60, rfl, a, _, rfl, hs, fun c nc => ?_⟩
      have e1 : Same H _ := sameUpd (o := .lst (cutV (ns.map V.int) none (some 60))) nc
      refine ⟨c, rfl, ⟨_, SqL.of upd_same⟩, for_list (xs := cutV (ns.map V.int) none (some 60)) (fun i σ Hx => Hx = upd H c (.lst (cutV (ns.map V.int) none (some 60))) ∧ ∃ (cell sd : Int) (y : Option V), σ = [some (.ref a), some (.int k), some (.int cell), some (.int sd), y] ∧ 0 ≤ sd ∧ sd < 2 ^ 61)
        ⟨rfl, _, 700001 + 104729 * k, none, rfl, by omega, by omega⟩ (fun i σ Hx _ p => by rw [p.1]; exact SqL.of upd_same) (fun i x σ Hx hx p => ?_) (fun σ Hx p => ?_)⟩
      · obtain ⟨rfl, cell, sd, y, rfl, d0, d1⟩ := p
        obtain ⟨n, rfl⟩ := cut_int hx
        refine ⟨.int sd, rfl, sd, 69621, rfl, rfl, .inl ⟨by omega, by omega⟩, .int n, rfl, n, rfl, 2, _, rfl, rfl, .inl (by decide), _, _, rfl, rfl, .int n, rfl, n, 0, rfl, rfl, .inr ⟨_, rfl, _, _, rfl, rfl, _, 2305843009213693951, rfl, rfl, (by decide : (0 : Int) < 2305843009213693951), rfl, cell, _, _, rfl, Int.emod_nonneg _ (by decide), ?_⟩⟩
        exact Int.lt_trans (Int.emod_lt_of_pos _ (by decide)) (by decide)
      · obtain ⟨rfl, cell, sd, y, rfl, d0, d1⟩ := p
        refine ⟨.int cell, rfl, cell, rfl, 10, 18, rfl, rfl, ⟨by decide, by decide, by decide⟩, _, _, rfl, rfl, _, rfl, ite2 (fun e => ⟨.int cell, rfl, cell, rfl, ?_⟩) (fun e => ?_)⟩
        · refine ⟨.int sd, rfl, by show 3 ≤ sizeLine; decide, fun p np => ?_⟩
          have e2 : Same _ _ := sameUpd (o := hnd ⟨if cell < 0 then -cell else cell, sd, 0⟩) np
          exact q _ p ⟨if cell < 0 then -cell else cell, sd, 0⟩ (e1.trans e2) (e1.free np) upd_same ⟨abs_nn cell, d0, d1, Int.le_refl _, Int.le_refl _⟩
        · refine ⟨.int sd, rfl, by show 3 ≤ sizeLine; decide, fun p np => ?_⟩
          have e2 : Same _ _ := sameUpd (o := hnd ⟨0, sd, 0⟩) np
          exact q _ p ⟨0, sd, 0⟩ (e1.trans e2) (e1.free np) upd_same ⟨Int.le_refl _, d0, d1, Int.le_refl _, Int.le_refl _⟩
/-- all but what stands at a is as it was -/
def But (a : Addr) (H H' : Hp) : Prop := ∀ b o, b ≠ a → H b = some o → H' b = some o
theorem But.trans {a : Addr} {H H1 H2 : Hp} (e : But a H H1) (f : But a H1 H2) : But a H H2 := fun b o n h => f b o n (e b o n h)
theorem But.of {a : Addr} {H H' : Hp} (e : Same H H') : But a H H' := fun b o _ h => e b o h
theorem HandOk.mono {h : Hand} {n m : Int} (x : HandOk h n) (e : n ≤ m) : HandOk h m := ⟨x.o0, x.s0, x.sb, x.t0, Int.le_trans x.tb e⟩
/-! _law_of -/
abbrev s__law_of : Stmt := topS 24
abbrev N__law_of : List Str := ["_law_hand_here", "_law_some"]
theorem sc__law_of : FnScope N__law_of ["_law_hand_here", "_law_some"] (defScope s__law_of) := ⟨rfl, rfl, rfl, by decide +kernel, rfl, by decide +kernel, by decide +kernel⟩
def sp__law_of : Sp := fun vs H Q _ => ∃ (a l : Addr) (h : Hand) (n : Int) (xs : List V), vs = [.ref a, .ref l] ∧ H a = some (hnd h) ∧ H l = some (.lst xs) ∧ a ≠ l ∧ HandOk h n ∧ n < 2 ^ 30 ∧ 0 < xs.length ∧ xs.length < 2 ^ 29 ∧
  ∀ H' h' v, But a H H' → H' a = some (hnd h') → HandOk h' (n + 1) → v ∈ xs → Q v H'
theorem ok__law_of (T : Bn mg) (S : Stands K mg "_law_of" s__law_of ["_law_hand_here", "_law_some"]) (d1 : Df P w K mg base 1 "_law_take" ["_law_hand_here", "_law_many"] sp__law_take) :
    Df P w K mg base 2 "_law_of" ["_law_hand_here", "_law_some"] sp__law_of := by
  refine Df.of (k := 1) S sc__law_of (fun vs H Q E h => ?_) (fun f cdv A outer s H vs Q E hr hf h => ?_)
  · obtain ⟨a, l, h, n, xs, rfl, _⟩ := h
    rfl
  · obtain ⟨a, l, h, n, xs, rfl, ha, hl, ne, ok, nb, x0, x1, q⟩ := h
    refine ⟨_, (pss_one (ps_ret (pe_ix ix_list (pv 1) (pe_df d1 (hr.mono (by decide)) hf rfl (pa_cons (pv 0) (pa_cons (pe_callB call_len_seq rfl T.n_len PySem.boot_len (pa_cons (pv 1) pa_nil)) pa_nil))) (fun _ _ => rfl)))), ?_⟩
    refine ⟨.ref l, rfl, .ref a, rfl, .ref l, rfl, l, xs, rfl, .inl (SqL.of hl), a, h, n, xs.length, rfl, ha, ok, nb, by omega, by omega, fun H' h' d e ha' ok' d0 d1 => ?_⟩
    have hlt : d.toNat < xs.length := by omega
    have g := atI_nat (j := d.toNat) (List.getElem?_eq_getElem hlt)
    rw [Int.toNat_of_nonneg d0] at g
    exact ⟨l, xs, d, _, rfl, rfl, SqL.of (e _ _ ne.symm hl), g, q H' h' _ e ha' ok' (List.getElem_mem hlt)⟩

end
end K17

set_option Elab.async false
set_option linter.all false
set_option maxRecDepth 100000
set_option maxHeartbeats 1000000
namespace K17
open PySem PySem.Spec PyProof.Rows L2 Sa
section
variable {P : Program} {w : World} {K : PySem.W.Frag} {mg : Str → Option Value} {base : Heap} {c Tp : Addr}
/-! _law_worth -/
abbrev s__law_worth : Stmt := topS 25
abbrev N__law_worth : List Str := ["_law_hand_here", "_law_near"]
theorem sc__law_worth : FnScope N__law_worth ["_law_hand_here"] (defScope s__law_worth) := ⟨rfl, rfl, rfl, by decide +kernel, rfl, by decide +kernel, by decide +kernel⟩
def sp__law_worth : Sp := fun vs H Q _ => ∃ (a : Addr) (h : Hand) (n : Int), vs = [.ref a] ∧ H a = some (hnd h) ∧ HandOk h n ∧ n < 2 ^ 29 ∧
  ∀ H' h' v, But a H H' → H' a = some (hnd h') → HandOk h' (n + 2) → -9 ≤ v → v ≤ 9 → Q (.int v) H'
theorem ok__law_worth (S : Stands K mg "_law_worth" s__law_worth ["_law_hand_here"]) (d1 : Df P w K mg base 1 "_law_take" ["_law_hand_here", "_law_many"] sp__law_take)
    (d2 : Df P w K mg base 2 "_law_of" ["_law_hand_here", "_law_some"] sp__law_of) : Df P w K mg base 3 "_law_worth" ["_law_hand_here"] sp__law_worth := by
  have sc := sc__law_worth
  refine Df.of (k := 2) S sc (fun vs H Q E h => ?_) (fun f cdv A outer s H vs Q E hr hf h => ?_)
  · obtain ⟨a, h, n, rfl, _⟩ := h
    rfl
  · obtain ⟨a, h, n, rfl, ha, ok, nb, q⟩ := h
    refine ⟨_, (pss_cons (ps_set (i := 1) sc.nd rfl (Or.inl rfl) (pe_op op_sub (pe_df d1 (hr.mono (by decide)) hf rfl (pa_cons (pv 0) (pa_cons pe_int pa_nil))) pe_int))
      (pss_one (ps_ret (pe_df d2 (hr.mono (by decide)) hf rfl (pa_cons (pv 0) (pa_cons (pe_lst (pa_cons pe_int (pa_cons pe_int (pa_cons (pe_un un_neg pe_int) (pa_cons pe_int (pa_cons (pe_un un_neg pe_int) (pa_cons pe_int (pa_cons (pe_un un_neg pe_int) (pa_cons (pv 1) pa_nil))))))))) pa_nil)))))), ?_⟩
    refine ⟨.ref a, rfl, a, h, n, 19, rfl, ha, ok, by omega, by decide, by decide, fun H1 h1 d e1 ha1 ok1 d0 d1 => ?_⟩
    refine ⟨d, 9, rfl, rfl, .ref a, rfl, 1, rfl, 3, rfl, 9, rfl, .int (d - 9), rfl, by show 8 ≤ sizeLine; decide, fun l nl => ?_⟩
    have e2 : Same H1 _ := sameUpd (o := .lst [.int 0, .int 1, .int (-1), .int 2, .int (-3), .int 9, .int (-9), .int (d - 9)]) nl
    refine ⟨a, l, h1, n + 1, _, rfl, e2 _ _ ha1, upd_same, ne_of_none ha1 nl, ok1, by omega, by show 0 < 8; decide, by show 8 < 2 ^ 29; decide, fun H3 h3 v e3 ha3 ok3 hv => ?_⟩
    obtain ⟨z, rfl, z0, z1⟩ : ∃ z : Int, v = .int z ∧ -9 ≤ z ∧ z ≤ 9 := by
      simp only [List.mem_cons, List.not_mem_nil, or_false] at hv
      rcases hv with rfl | rfl | rfl | rfl | rfl | rfl | rfl | rfl <;> exact ⟨_, rfl, by omega, by omega⟩
    exact q _ h3 z (But.trans e1 (But.trans (.of e2) e3)) ha3 (ok3.mono (by omega)) z0 z1

/-! _law_sum -/
abbrev s__law_sum : Stmt := topS 26
abbrev N__law_sum : List Str := ["_law_hand_here", "_law_sorts", "_law_worths", "_law_near", "_law_sort"]
theorem sc__law_sum : FnScope N__law_sum ["_law_hand_here", "_law_sorts"] (defScope s__law_sum) := ⟨rfl, rfl, rfl, by decide +kernel, rfl, by decide +kernel, by decide +kernel⟩
/-- what the law's sums are like -/
structure Small (ws : List Int) (c : Int) : Prop where
  some : 0 < ws.length
  few : ws.length ≤ 6
  near : ∀ w ∈ ws, -9 ≤ w ∧ w ≤ 9
  c0 : -20 ≤ c
  c1 : c ≤ 20
def sp__law_sum : Sp := fun vs H Q _ => ∃ (a : Addr) (h : Hand) (n sorts : Int), vs = [.ref a, .int sorts] ∧ H a = some (hnd h) ∧ HandOk h n ∧ n < 2 ^ 28 ∧ 1 ≤ sorts ∧ sorts ≤ 6 ∧
  ∀ H' h' p ws c, But a H H' → H' a = some (hnd h') → HandOk h' (n + 20) → IsS H' p (.sum ws c) → Small ws c → Q (.ref p) H'
theorem ok__law_sum (T : Bn mg) (S : Stands K mg "_law_sum" s__law_sum ["_law_hand_here", "_law_sorts"]) (d1 : Df P w K mg base 1 "_law_take" ["_law_hand_here", "_law_many"] sp__law_take)
    (d2 : Df P w K mg base 2 "_law_of" ["_law_hand_here", "_law_some"] sp__law_of) (d3 : Df P w K mg base 3 "_law_worth" ["_law_hand_here"] sp__law_worth) :
    Df P w K mg base 4 "_law_sum" ["_law_hand_here", "_law_sorts"] sp__law_sum := by
  have sc := sc__law_sum
  refine Df.of (k := 3) S sc (fun vs H Q E h => ?_) (fun f cdv A outer s H vs Q E hr hf h => ?_)
  · obtain ⟨a, h, n, sorts, rfl, _⟩ := h
    rfl
  · obtain ⟨a, h, n, sorts, rfl, ha, ok, n1, s1, s2, q⟩ := h
    refine ⟨_, (pss_cons (ps_set (i := 2) sc.nd rfl (Or.inl rfl) (pe_callTy call_tuple_of rfl T.n_tuple PyProof.Rows.boot_tuple (pa_cons (pe_lc (own := [("_law_sort", 4)]) (g := gName 4) (tt := tYes) rfl sc.nd (pi_range1 rfl T.n_range (pa_cons (pv 1) pa_nil)) (blkOk_by (own := [("_law_sort", 4)]) (N := N__law_sum) (sc := defScope s__law_sum) (by decide +kernel)) (fun _ _ _ _ _ => (pg_name (i := 4) sc.nd rfl (Or.inl rfl))) (fun _ _ _ _ _ => pts_nil) (fun _ _ _ _ _ => (pe_df d3 (hr.mono (by decide)) hf rfl (pa_cons (pv 0) pa_nil)))) pa_nil)))
      (pss_cons (ps_set (i := 3) sc.nd rfl (Or.inl rfl) (pe_op op_sub (pe_df d1 (hr.mono (by decide)) hf rfl (pa_cons (pv 0) (pa_cons pe_int pa_nil))) pe_int))
      (pss_one (ps_ret (pe_tup (pa_cons pe_str (pa_cons (pv 2) (pa_cons (pe_df d2 (hr.mono (by decide)) hf rfl (pa_cons (pv 0) (pa_cons (pe_lst (pa_cons pe_int (pa_cons pe_int (pa_cons (pe_un un_neg pe_int) (pa_cons pe_int (pa_cons pe_int (pa_cons (pe_un un_neg pe_int) (pa_cons pe_int (pa_cons (pe_un un_neg pe_int) (pa_cons (pv 3) pa_nil)))))))))) pa_nil))) pa_nil)))))))), ?_⟩
    refine ⟨.int sorts, rfl, sorts, rfl, by omega, by omega, fun D nD => ?_⟩
    have neD : D ≠ a := (ne_of_none ha nD).symm
    refine lc_range (lo := 0) (n := sorts.toNat) (fun i Hx => But a H Hx ∧ (∃ h', Hx a = some (hnd h') ∧ HandOk h' (n + 2 * i)) ∧ ∃ ws : List Int, ws.length = i ∧ Hx D = some (.lst (ws.map V.int)) ∧ ∀ w ∈ ws, -9 ≤ w ∧ w ≤ 9)
      ⟨.of (sameUpd nD), ⟨h, by rw [upd_ne neD.symm]; exact ha, ok.mono (by omega)⟩, [], rfl, upd_same, fun w hw => absurd hw (by simp)⟩ (fun i Hx hi p => ?_) (fun Hx p => ?_)
    · obtain ⟨b1, ⟨h2, ha2, ok2⟩, ws, len, hD, near⟩ := p
      refine ⟨rfl, ?_⟩
      refine ⟨.ref a, rfl, a, h2, n + 2 * i, rfl, ha2, ok2, by omega, fun H3 h3 v e3 ha3 ok3 v0 v1 => ?_⟩
      have hD3 : H3 D = some (.lst (ws.map V.int)) := e3 _ _ neD hD
      refine ⟨_, hD3, ?_, ?_, ⟨h3, by rw [upd_ne neD.symm]; exact ha3, ok3.mono (by push_cast; omega)⟩, ws ++ [v], by rw [List.length_append, len]; rfl, ?_, fun w hw => ?_⟩
      · rw [List.length_map, len]
        exact Nat.lt_of_lt_of_le hi (Nat.le_trans (show sorts.toNat ≤ 6 by omega) (by decide))
      · intro b o nb hb
        have nbD : b ≠ D := fun z => by
          rw [z, nD] at hb
          cases hb
        rw [upd_ne nbD]
        exact e3 b o nb (b1 b o nb hb)
      · rw [upd_same, List.map_append]
        rfl
      · rcases List.mem_append.mp hw with hw | hw
        · exact near w hw
        · rw [List.mem_singleton.mp hw]
          exact ⟨v0, v1⟩
    · obtain ⟨b1, ⟨h2, ha2, ok2⟩, ws, len, hD, near⟩ := p
      refine ⟨D, _, rfl, .inl ⟨SqL.of hD, fun t nt => ?_⟩⟩
      have e2 : Same Hx _ := sameUpd (o := .tup (ws.map V.int)) nt
      have nta : t ≠ a := (ne_of_none ha2 nt).symm
      refine ⟨.ref a, rfl, a, h2, n + 2 * sorts.toNat, 41, rfl, e2 _ _ ha2, ok2, by omega, by decide, by decide, fun H3 h3 d e3 ha3 ok3 r0 r1 => ?_⟩
      refine ⟨d, 20, rfl, rfl, .ref t, rfl, .ref a, rfl, 1, rfl, 7, rfl, 20, rfl, .int (d - 20), rfl, by show 9 ≤ sizeLine; decide, fun l nl => ?_⟩
      have e4 : Same H3 _ := sameUpd (o := .lst [.int 0, .int 1, .int (-1), .int 2, .int 5, .int (-7), .int 20, .int (-20), .int (d - 20)]) nl
      refine ⟨a, l, h3, n + 2 * sorts.toNat + 1, _, rfl, e4 _ _ ha3, upd_same, ne_of_none ha3 nl, ok3, by omega, by show 0 < 9; decide, by show 9 < 2 ^ 29; decide, fun H5 h5 v e5 ha5 ok5 hv => ?_⟩
      obtain ⟨z, rfl, z0, z1⟩ : ∃ z : Int, v = .int z ∧ -20 ≤ z ∧ z ≤ 20 := by
        simp only [List.mem_cons, List.not_mem_nil, or_false] at hv
        rcases hv with rfl | rfl | rfl | rfl | rfl | rfl | rfl | rfl | rfl <;> exact ⟨_, rfl, by omega, by omega⟩
      refine ⟨by show 3 ≤ sizeLine; decide, fun p np => ?_⟩
      have e6 : Same H5 _ := sameUpd (o := .tup [.str "sum", .ref t, .int z]) np
      refine q _ h5 p ws z (b1.trans ((But.of e2).trans (But.trans e3 ((But.of e4).trans (But.trans e5 (.of e6)))))) (e6 _ _ ha5) (ok5.mono (by omega)) ⟨t, upd_same, e6 _ _ (e5 _ _ nta (e4 _ _ (e3 _ _ nta upd_same)))⟩ ⟨by omega, by omega, near, z0, z1⟩

/-! _law_size, of a sum -/
theorem size_max {ws : List Int} {cc m : Int} (some : 0 < ws.length) (mem : m ∈ ws.map absI ++ [absI cc + 1]) (top : ∀ y, y ∈ ws.map absI ++ [absI cc + 1] → y ≤ m) : m = sizeM (.sum ws cc) := by
  have t1 := top _ (List.mem_append_left _ (topA_mem ws some))
  have t2 := top _ (List.mem_append_right _ List.mem_cons_self)
  have up : m ≤ topA ws ∨ m = absI cc + 1 := by
    rcases List.mem_append.mp mem with h | h
    · exact .inl (topA_le ws m h)
    · exact .inr (List.mem_singleton.mp h)
  show m = if topA ws > 1 + absI cc then topA ws else 1 + absI cc
  split <;> omega
abbrev s__law_size : Stmt := topS 27
abbrev N__law_size : List Str := ["_law_simple", "_law_worths", "_law_worth_here"]
theorem sc__law_size : FnScope N__law_size ["_law_simple"] (defScope s__law_size) := ⟨rfl, rfl, rfl, by decide +kernel, rfl, by decide +kernel, by decide +kernel⟩
def sp__law_size : Sp := fun vs H Q _ => ∃ (a : Addr) (ws : List Int) (cc : Int), vs = [.ref a] ∧ IsS H a (.sum ws cc) ∧ 0 < ws.length ∧ ws.length ≤ 6 ∧ ∀ H', Same H H' → Q (.int (sizeM (.sum ws cc))) H'
theorem ok__law_size (T : Bn mg) (S : Stands K mg "_law_size" s__law_size ["_law_simple"]) : Df P w K mg base 1 "_law_size" ["_law_simple"] sp__law_size := by
  have sc := sc__law_size
  refine Df.of (k := 0) S sc (fun vs H Q E h => ?_) (fun f cdv A outer s H vs Q E hr hf h => ?_)
  · obtain ⟨a, ws, cc, rfl, _⟩ := h
    rfl
  · obtain ⟨a, ws, cc, rfl, ⟨wa, h1, h2⟩, has, few, q⟩ := h
    refine ⟨_, (pss_cons (ps_if (pt_cmpR op_eq (pe_ix ix_tup (pv 0) pe_int (fun _ _ => rfl)) pe_str (nomark _)) pss_never pss_nil)
      (pss_cons (ps_setLc (i := 1) (own := [("_law_worth_here", 2)]) (g := gName 2) (tt := tYes) rfl sc.nd rfl rfl (sw_true rfl rfl rfl (by decide +kernel)) (pi_tup (pe_ix ix_tup (pv 0) pe_int (fun _ _ => rfl))) (blkOk_by (own := [("_law_worth_here", 2)]) (N := N__law_size) (sc := defScope s__law_size) (by decide +kernel)) (fun _ _ _ _ _ => (pg_name (i := 2) sc.nd rfl (Or.inl rfl))) (fun _ _ _ _ _ => pts_nil) (fun _ _ _ _ _ => (pe_callB call_abs rfl T.n_abs (by decide +kernel) (pa_cons (pv 2) pa_nil))))
      (pss_one (ps_ret (pe_callB (cr_max rfl) rfl T.n_max (by decide +kernel) (pa_cons (pe_op op_cat (pv 1) (pe_lst (pa_cons (pe_op op_add (pe_callB call_abs rfl T.n_abs (by decide +kernel) (pa_cons (pe_ix ix_tup (pv 0) pe_int (fun _ _ => rfl)) pa_nil)) pe_int) pa_nil))) pa_nil)))))), ?_⟩
    refine ⟨.ref a, rfl, a, _, 0, _, rfl, rfl, SqT.of h1, atI_nat (j := 0) rfl, rfl, _, rfl, ?_⟩
    rw [decStr, show decide ((Str.ofString "sum") = Str.ofString "rest") = false by decide +kernel]
    refine iteF ⟨.ref a, rfl, a, _, 1, _, rfl, rfl, SqT.of h1, atI_nat (j := 1) rfl, wa, rfl, ⟨_, SqT.of h2⟩, fun D nD => ?_⟩
    refine lc_it (walk_tup (xs := ws.map V.int)) (fun i Hx => Same H Hx ∧ Hx D = some (.lst (((ws.map absI).take i).map V.int)))
      ⟨sameUpd nD, upd_same⟩ (fun i Hx _ p => SqT.of (p.1 _ _ h2)) (fun i v Hx Hy hi p yld => ?_) (fun Hx p => ?_)
    · obtain ⟨s1, hD⟩ := p
      obtain ⟨rfl, ev⟩ := yld
      rw [List.length_map] at hi
      have ez : ws[i]? = some ws[i] := List.getElem?_eq_getElem hi
      rw [List.getElem?_map, ez] at ev
      cases ev
      refine ⟨rfl, .int ws[i], rfl, ws[i], rfl, _, hD, ?_, ?_, ?_⟩
      · rw [List.length_map, List.length_take, List.length_map]
        exact Nat.lt_of_le_of_lt (Nat.min_le_right _ _) (Nat.lt_of_le_of_lt few (by decide))
      · intro b o hb
        rw [upd_ne (fun z => by rw [z, nD] at hb; cases hb)]
        exact s1 b o hb
      · rw [upd_same, List.take_add_one, List.getElem?_map, ez, List.map_append]
        rfl
    · obtain ⟨s1, hD⟩ := p
      have eD : Hx D = some (.lst ((ws.map absI).map V.int)) := by
        rw [hD, List.length_map, List.take_of_length_le (by rw [List.length_map]; exact Nat.le_refl _)]
      refine ⟨.ref D, rfl, .ref a, rfl, a, _, 2, _, rfl, rfl, SqT.of (s1 _ _ h1), atI_nat (j := 2) rfl, cc, rfl, absI cc, 1, rfl, rfl, by show 1 ≤ sizeLine; decide, fun l nl => ?_⟩
      have e2 : Same Hx _ := sameUpd (o := .lst [.int (absI cc + 1)]) nl
      refine ⟨D, l, _, _, rfl, rfl, e2 _ _ eD, upd_same, ?_, fun l2 n2 => ?_⟩
      · rw [List.length_map, List.length_map]
        exact Nat.le_trans (Nat.add_le_add_right few 1) (by decide)
      have e3 : Same _ _ := sameUpd (o := .lst ((ws.map absI).map V.int ++ [.int (absI cc + 1)])) n2
      refine ⟨l2, ws.map absI ++ [absI cc + 1], rfl, SqL.of (by rw [List.map_append]; exact upd_same), by simp, fun m mem top => ?_⟩
      rw [size_max has mem top]
      exact q _ (s1.trans (e2.trans e3))
end
end K17

set_option Elab.async false
set_option linter.all false
set_option maxRecDepth 100000
set_option maxHeartbeats 1000000
namespace K17
open PySem PySem.Spec PyProof.Rows L2 Sa
section
variable {P : Program} {w : World} {K : PySem.W.Frag} {mg : Str → Option Value} {base : Heap} {c Tp : Addr}
/-! _law_says, of a sum -/
abbrev s__law_says : Stmt := topS 28
abbrev N__law_says : List Str := ["_law_simple", "_law_number"]
theorem sc__law_says : FnScope N__law_says ["_law_simple", "_law_number"] (defScope s__law_says) := ⟨rfl, rfl, rfl, by decide +kernel, rfl, by decide +kernel, by decide +kernel⟩
def sp__law_says : Sp := fun vs H Q _ => ∃ (a : Addr) (ws : List Int) (cc n : Int), vs = [.ref a, .int n] ∧ IsS H a (.sum ws cc) ∧ Q (.bl (saysM (.sum ws cc) n)) H
theorem ok__law_says (S : Stands K mg "_law_says" s__law_says ["_law_simple", "_law_number"]) : Df P w K mg base 1 "_law_says" ["_law_simple", "_law_number"] sp__law_says := by
  refine Df.of (k := 0) S sc__law_says (fun vs H Q E h => ?_) (fun f cdv A outer s H vs Q E hr hf h => ?_)
  · obtain ⟨a, ws, cc, n, rfl, _⟩ := h
    rfl
  · obtain ⟨a, ws, cc, n, rfl, ⟨wa, h1, h2⟩, q⟩ := h
    refine ⟨_, (pss_cons (ps_if (pt_cmpR op_eq (pe_ix ix_tup (pv 0) pe_int (fun _ _ => rfl)) pe_str (nomark _)) pss_never pss_nil)
      (pss_one (ps_ret (pe_cmpR op_ge (pv 1) (pe_ix ix_tup (pv 0) pe_int (fun _ _ => rfl)) (nomark _))))), ?_⟩
    refine ⟨.ref a, rfl, a, _, 0, _, rfl, rfl, SqT.of h1, atI_nat (j := 0) rfl, rfl, _, rfl, ?_⟩
    rw [decStr, show decide ((Str.ofString "sum") = Str.ofString "rest") = false by decide +kernel]
    exact iteF ⟨.int n, rfl, .ref a, rfl, a, _, 2, _, rfl, rfl, SqT.of h1, atI_nat (j := 2) rfl, n, cc, rfl, rfl, q⟩

/-! _law_poured, of a sum -/
theorem size_pos (ws : List Int) (cc : Int) : 1 ≤ sizeM (.sum ws cc) := by
  have a := absI_nn cc
  show 1 ≤ if topA ws > 1 + absI cc then topA ws else 1 + absI cc
  split <;> omega
theorem clamp_full {s o t : Int} (s1 : 1 ≤ s) (o0 : -s ≤ o) (o1 : o ≤ s) (f1 : 0 < t → o = s) (f2 : t < 0 → o = -s) : clampI s (o + t) = o := by
  unfold clampI
  split <;> split <;> omega
theorem and_if {c : Bool} {M A B : Prop} (hB : c = false → B) (hM : c = true → M) : if c = true then M else (if false = true then A else B) := by
  cases c with
  | true => exact iteT (hM rfl)
  | false => exact iteF (iteF (hB rfl))
abbrev s__law_poured : Stmt := topS 29
abbrev N__law_poured : List Str := ["_law_simple", "_law_one", "_law_other", "_law_size_here"]
theorem sc__law_poured : FnScope N__law_poured ["_law_simple", "_law_one", "_law_other"] (defScope s__law_poured) := ⟨rfl, rfl, rfl, by decide +kernel, rfl, by decide +kernel, by decide +kernel⟩
def sp__law_poured : Sp := fun vs H Q _ => ∃ (a : Addr) (ws : List Int) (cc x y : Int), vs = [.ref a, .int x, .int y] ∧ IsS H a (.sum ws cc) ∧ 0 < ws.length ∧ ws.length ≤ 6 ∧ -sizeM (.sum ws cc) ≤ x ∧ x ≤ sizeM (.sum ws cc) ∧
  ∀ H' p, Same H H' → H' p = some (.tup [.int (cutM (.sum ws cc) (x + y)).1, .int (cutM (.sum ws cc) (x + y)).2]) → Q (.ref p) H'
theorem ok__law_poured (S : Stands K mg "_law_poured" s__law_poured ["_law_simple", "_law_one", "_law_other"]) (d1 : Df P w K mg base 1 "_law_size" ["_law_simple"] sp__law_size) :
    Df P w K mg base 2 "_law_poured" ["_law_simple", "_law_one", "_law_other"] sp__law_poured := by
  have sc := sc__law_poured
  refine Df.of (k := 1) S sc (fun vs H Q E h => ?_) (fun f cdv A outer s H vs Q E hr hf h => ?_)
  · obtain ⟨a, ws, cc, x, y, rfl, _⟩ := h
    rfl
  · obtain ⟨a, ws, cc, x, y, rfl, hs, has, few, x0, x1, q⟩ := h
    refine ⟨_, (pss_cons (ps_if (pt_cmpR op_eq (pe_ix ix_tup (pv 0) pe_int (fun _ _ => rfl)) pe_str (nomark _)) pss_never pss_nil)
      (pss_cons (ps_set (i := 3) sc.nd rfl (Or.inl rfl) (pe_df d1 (hr.mono (by decide)) hf rfl (pa_cons (pv 0) pa_nil)))
      (pss_cons (ps_while PassesOwn.never (PW.pt (pw_and (pt_cmpR op_gt (pv 2) pe_int (nomark _)) (pw_and1 (pt_cmpR op_lt (pv 1) (pv 3) (nomark _))))) (pss_one (ps_par (i := 1) (j := 2) rfl sc.nd rfl rfl (by decide) rfl rfl (pa_cons (pe_op op_add (pv 1) pe_int) (pa_cons (pe_op op_sub (pv 2) pe_int) pa_nil)) rfl)))
      (pss_cons (ps_while PassesOwn.never (PW.pt (pw_and (pt_cmpR op_lt (pv 2) pe_int (nomark _)) (pw_and1 (pt_cmpR op_gt (pv 1) (pe_un un_neg (pv 3)) (nomark _))))) (pss_one (ps_par (i := 1) (j := 2) rfl sc.nd rfl rfl (by decide) rfl rfl (pa_cons (pe_op op_sub (pv 1) pe_int) (pa_cons (pe_op op_add (pv 2) pe_int) pa_nil)) rfl)))
      (pss_one (ps_ret (pe_tup (pa_cons (pv 1) (pa_cons (pv 2) pa_nil))))))))), ?_⟩
    have hs0 := hs
    obtain ⟨wa, h1, h2⟩ := hs
    refine ⟨.ref a, rfl, a, _, 0, _, rfl, rfl, SqT.of h1, atI_nat (j := 0) rfl, rfl, _, rfl, ?_⟩
    rw [decStr, show decide ((Str.ofString "sum") = Str.ofString "rest") = false by decide +kernel]
    refine iteF ⟨.ref a, rfl, a, ws, cc, rfl, hs0, has, few, fun H1 e1 => ?_⟩
    have s1 := size_pos ws cc
    have ecut : ∀ o t : Int, o + t = x + y → clampI (sizeM (.sum ws cc)) (o + t) = o → (cutM (.sum ws cc) (x + y)).1 = o ∧ (cutM (.sum ws cc) (x + y)).2 = t := fun o t et ec => by
      show clampI (sizeM (.sum ws cc)) (x + y) = o ∧ x + y - clampI (sizeM (.sum ws cc)) (x + y) = t
      rw [← et, ec]
      exact ⟨rfl, by omega⟩
    generalize sizeM (.sum ws cc) = z at x0 x1 s1 ecut ⊢
    refine ⟨fun m σ Hx => Hx = H1 ∧ ∃ o t : Int, m = t.toNat ∧ σ = [some (.ref a), some (.int o), some (.int t), some (.int z)] ∧ o + t = x + y ∧ -z ≤ o ∧ o ≤ z, ⟨y.toNat, rfl, x, y, rfl, rfl, rfl, x0, x1⟩, fun m σ Hx p => ?_⟩
    obtain ⟨rfl, o, t, rfl, rfl, et, o0, o1⟩ := p
    refine ⟨.int t, rfl, t, 0, rfl, rfl, _, rfl, and_if (fun ec => ?_) (fun ec => ⟨.int o, rfl, .int z, rfl, o, z, rfl, rfl, _, rfl, ite2 (fun e2 => ?_) (fun e2 => ?_)⟩)⟩
    rotate_left
    · have t0 : 0 < t := of_decide_eq_true ec
      have oz : o < z := of_decide_eq_true e2
      refine ⟨fun σ' H' => H' = Hx ∧ σ' = [some (.ref a), some (.int (o + 1)), some (.int (t - 1)), some (.int z)], fun σ' H' nx => ⟨(t - 1).toNat, by omega, nx.1, o + 1, t - 1, rfl, nx.2, by omega, by omega, by omega⟩, ?_⟩
      exact ⟨.int o, rfl, o, 1, rfl, rfl, .int t, rfl, t, 1, rfl, rfl, _, _, rfl, rfl, rfl⟩
    all_goals
      have f1 : 0 < t → o = z := fun t0 => by
        first
        | exact absurd t0 (of_decide_eq_false ec)
        | (have oz : ¬ o < z := fun z' => e2 (decide_eq_true z'); omega)
      refine ⟨fun m σ Hy => Hy = Hx ∧ ∃ o t : Int, m = (-t).toNat ∧ σ = [some (.ref a), some (.int o), some (.int t), some (.int z)] ∧ o + t = x + y ∧ -z ≤ o ∧ o ≤ z ∧ (0 < t → o = z), ⟨_, rfl, o, t, rfl, rfl, et, o0, o1, f1⟩, fun m σ Hy p => ?_⟩
      obtain ⟨rfl, o, t, rfl, rfl, et, o0, o1, f1⟩ := p
      refine ⟨.int t, rfl, t, 0, rfl, rfl, _, rfl, and_if (fun ec => ?_) (fun ec => ⟨.int o, rfl, .int z, rfl, z, rfl, o, -z, rfl, rfl, _, rfl, ite2 (fun e2 => ?_) (fun e2 => ?_)⟩)⟩
      rotate_left
      · have t0 : t < 0 := of_decide_eq_true ec
        have oz : -z < o := of_decide_eq_true e2
        refine ⟨fun σ' H' => H' = Hy ∧ σ' = [some (.ref a), some (.int (o - 1)), some (.int (t + 1)), some (.int z)], fun σ' H' nx => ⟨(-(t + 1)).toNat, by omega, nx.1, o - 1, t + 1, rfl, nx.2, by omega, by omega, by omega, by omega⟩, ?_⟩
        exact ⟨.int o, rfl, o, 1, rfl, rfl, .int t, rfl, t, 1, rfl, rfl, _, _, rfl, rfl, rfl⟩
      all_goals
        have f2 : t < 0 → o = -z := fun t0 => by
          first
          | exact absurd t0 (of_decide_eq_false ec)
          | (have oz : ¬ -z < o := fun z' => e2 (decide_eq_true z'); omega)
        obtain ⟨c1, c2⟩ := ecut o t et (clamp_full s1 o0 o1 f1 f2)
        refine ⟨.int o, rfl, .int t, rfl, by show 2 ≤ sizeLine; decide, fun p np => q _ p (e1.trans (sameUpd np)) ?_⟩
        rw [c1, c2]
        exact upd_same
end
end K17

set_option Elab.async false
set_option linter.all false
set_option maxRecDepth 100000
set_option maxHeartbeats 1000000
namespace K17
open PySem PySem.Spec PyProof.Rows L2 Sa
section
variable {P : Program} {w : World} {K : PySem.W.Frag} {mg : Str → Option Value} {base : Heap} {c Tp : Addr}
theorem and_two {xl yl : Bool} {A B M : Prop} (hM : (if (!yl) = true then A else B) → M) (f : xl = false → yl = false → A) (g : ¬ (xl = false ∧ yl = false) → B) : if (!xl) = true then M else (if false = true then A else B) := by
  cases xl with
  | true => exact iteF (iteF (g fun z => nomatch z.1))
  | false =>
    refine iteT (hM ?_)
    cases yl with
    | true => exact iteF (g fun z => nomatch z.2)
    | false => exact iteT (f rfl rfl)
/-! _law_pair, of a sum -/
abbrev s__law_pair : Stmt := topS 30
abbrev N__law_pair : List Str := ["_law_simple", "_law_here", "_law_there", "_law_lead", "_law_follower", "_law_number", "_law_rest_of_it", "_law_word", "_law_both"]
theorem sc__law_pair : FnScope N__law_pair ["_law_simple", "_law_here", "_law_there"] (defScope s__law_pair) := ⟨rfl, rfl, rfl, by decide +kernel, rfl, by decide +kernel, by decide +kernel⟩
/-- a number that a member of the saying may have -/
def Fits (ws : List Int) (cc : Int) (h : Hold) : Prop := -sizeM (.sum ws cc) ≤ h.number ∧ h.number ≤ sizeM (.sum ws cc)
def sp__law_pair : Sp := fun vs H Q _ => ∃ (a h1 h2 : Addr) (ws : List Int) (cc : Int) (x y : Hold), vs = [.ref a, .ref h1, .ref h2] ∧ IsS H a (.sum ws cc) ∧ 0 < ws.length ∧ ws.length ≤ 6 ∧ IsH H h1 x ∧ IsH H h2 y ∧ Fits ws cc x ∧ Fits ws cc y ∧
  ∀ H' p g1 g2, Same H H' → H' p = some (.tup [.ref g1, .ref g2]) → IsH H' g1 (metG (.sum ws cc) x y).1 → IsH H' g2 (metG (.sum ws cc) x y).2 → Q (.ref p) H'
theorem ok__law_pair (S : Stands K mg "_law_pair" s__law_pair ["_law_simple", "_law_here", "_law_there"]) (d1 : Df P w K mg base 2 "_law_poured" ["_law_simple", "_law_one", "_law_other"] sp__law_poured)
    (d2 : Df P w K mg base 1 "_law_says" ["_law_simple", "_law_number"] sp__law_says) : Df P w K mg base 3 "_law_pair" ["_law_simple", "_law_here", "_law_there"] sp__law_pair := by
  have sc := sc__law_pair
  refine Df.of (k := 2) S sc (fun vs H Q E h => ?_) (fun f cdv A outer s H vs Q E hr hf h => ?_)
  · obtain ⟨a, h1, h2, ws, cc, x, y, rfl, _⟩ := h
    rfl
  · obtain ⟨a, h1, h2, ws, cc, x, y, rfl, hs, has, few, hx, hy, fx, fy, q⟩ := h
    refine ⟨_, (pss_cons (ps_if (PW.pt (pw_and (pt_not (pt_val (pe_ix ix_tup (pv 1) pe_int (fun _ _ => rfl)))) (pw_and1 (pt_not (pt_val (pe_ix ix_tup (pv 2) pe_int (fun _ _ => rfl))))))) (pss_one (ps_ret (pe_tup (pa_cons (pv 1) (pa_cons (pv 2) pa_nil))))) pss_nil)
      (pss_cons (ps_asg (pe_ifExp (pt_val (pe_ix ix_tup (pv 1) pe_int (fun _ _ => rfl))) (pe_tup (pa_cons (pv 1) (pa_cons (pv 2) pa_nil))) (pe_tup (pa_cons (pv 2) (pa_cons (pv 1) pa_nil)))) (pg_tup rfl (pgs_cons (pg_name (i := 3) sc.nd rfl (Or.inl rfl)) (pgs_cons (pg_name (i := 4) sc.nd rfl (Or.inl rfl)) pgs_nil))))
      (pss_cons (ps_asg (pe_df d1 (hr.mono (by decide)) hf rfl (pa_cons (pv 0) (pa_cons (pe_ix ix_tup (pv 3) pe_int (fun _ _ => rfl)) (pa_cons (pe_ix ix_tup (pv 4) pe_int (fun _ _ => rfl)) pa_nil)))) (pg_tup rfl (pgs_cons (pg_name (i := 5) sc.nd rfl (Or.inl rfl)) (pgs_cons (pg_name (i := 6) sc.nd rfl (Or.inl rfl)) pgs_nil))))
      (pss_cons (ps_set (i := 7) sc.nd rfl (Or.inl rfl) (pe_df d2 (hr.mono (by decide)) hf rfl (pa_cons (pv 0) (pa_cons (pv 5) pa_nil))))
      (pss_cons (ps_set (i := 8) sc.nd rfl (Or.inl rfl) (pe_tup (pa_cons (pe_tup (pa_cons pe_bl (pa_cons (pv 5) (pa_cons (pv 7) pa_nil)))) (pa_cons (pe_tup (pa_cons pe_bl (pa_cons (pv 6) (pa_cons (pv 7) pa_nil)))) pa_nil))))
      (pss_one (ps_ret (pe_ifExp (pt_val (pe_ix ix_tup (pv 1) pe_int (fun _ _ => rfl))) (pv 8) (pe_revT (pv 8)))))))))), ?_⟩
    obtain ⟨xl, xn, xw⟩ := x
    obtain ⟨yl, yn, yw⟩ := y
    obtain ⟨fx0, fx1⟩ := fx
    obtain ⟨fy0, fy1⟩ := fy
    dsimp only at fx0 fx1 fy0 fy1
    refine ⟨.ref h1, rfl, h1, _, 0, _, rfl, rfl, SqT.of hx, atI_nat (j := 0) rfl, xl, rfl, and_two (fun z => ⟨.ref h2, rfl, h2, _, 0, _, rfl, rfl, SqT.of hy, atI_nat (j := 0) rfl, yl, rfl, z⟩) (fun e1 e2 => ?_) (fun hn => ?_)⟩
    · refine ⟨.ref h1, rfl, .ref h2, rfl, by show 2 ≤ sizeLine; decide, fun p4 n4 => ?_⟩
      have e4 : Same H _ := sameUpd (o := .tup [.ref h1, .ref h2]) n4
      rw [show metG (.sum ws cc) ⟨xl, xn, xw⟩ ⟨yl, yn, yw⟩ = (⟨xl, xn, xw⟩, ⟨yl, yn, yw⟩) from if_pos ⟨e1, e2⟩] at q
      exact q _ p4 h1 h2 e4 upd_same (e4 _ _ hx) (e4 _ _ hy)
    · obtain ⟨k, ek⟩ : ∃ k, k = (cutM (.sum ws cc) (xn + yn)).1 := ⟨_, rfl⟩
      obtain ⟨o, eo⟩ : ∃ o, o = (cutM (.sum ws cc) (xn + yn)).2 := ⟨_, rfl⟩
      -- behind the pouring: the word, both, in the order told
      refine ⟨.ref h1, rfl, h1, _, 0, _, rfl, rfl, SqT.of hx, atI_nat (j := 0) rfl, xl, rfl, ite2 (fun el => ⟨.ref h1, rfl, .ref h2, rfl, by show 2 ≤ sizeLine; decide, fun t0 n0 => ?_⟩) (fun el => ⟨.ref h2, rfl, .ref h1, rfl, by show 2 ≤ sizeLine; decide, fun t0 n0 => ?_⟩)⟩
      · have e0 : Same H _ := sameUpd (o := .tup [.ref h1, .ref h2]) n0
        have em : metG (.sum ws cc) ⟨xl, xn, xw⟩ ⟨yl, yn, yw⟩ = (⟨true, k, saysM (.sum ws cc) k⟩, ⟨false, o, saysM (.sum ws cc) k⟩) := by rw [ek, eo]; exact (if_neg hn).trans (if_pos el)
        rw [em] at q
        refine ⟨t0, _, rfl, SqT.of upd_same, rfl, _, _, rfl, _, _, rfl, rfl, ?_⟩
        refine ⟨.ref a, rfl, .ref h1, rfl, h1, _, 1, _, rfl, rfl, SqT.of (e0 _ _ hx), atI_nat (j := 1) rfl, .ref h2, rfl, h2, _, 1, _, rfl, rfl, SqT.of (e0 _ _ hy), atI_nat (j := 1) rfl, a, ws, cc, xn, yn, rfl, hs.same (fun b xs z => e0 _ _ z), has, few, fx0, fx1, fun H1 p1 e1 hp1 => ?_⟩
        rw [← ek, ← eo] at hp1
        have s1 := e0.trans e1
        refine ⟨p1, _, rfl, SqT.of hp1, rfl, _, _, rfl, _, _, rfl, rfl, ?_⟩
        refine ⟨.ref a, rfl, .int k, rfl, a, ws, cc, k, rfl, hs.same (fun b xs z => s1 _ _ z), ?_⟩
        refine ⟨.int k, rfl, _, rfl, by show 3 ≤ sizeLine; decide, fun p2 n2 => ?_⟩
        have e2 : Same H1 _ := sameUpd (o := .tup [.bl true, .int k, .bl (saysM (.sum ws cc) k)]) n2
        refine ⟨.int o, rfl, _, rfl, by show 3 ≤ sizeLine; decide, fun p3 n3 => ?_⟩
        have e3 : Same _ _ := sameUpd (o := .tup [.bl false, .int o, .bl (saysM (.sum ws cc) k)]) n3
        refine ⟨by show 2 ≤ sizeLine; decide, fun p4 n4 => ?_⟩
        have e4 : Same _ _ := sameUpd (o := .tup [.ref p2, .ref p3]) n4
        have s4 := s1.trans (e2.trans (e3.trans e4))
        refine ⟨.ref h1, rfl, h1, _, 0, _, rfl, rfl, SqT.of (s4 _ _ hx), atI_nat (j := 0) rfl, xl, rfl, ?_⟩
        rw [el]
        exact iteT ⟨.ref p4, rfl, q _ p4 p2 p3 s4 upd_same ((e3.trans e4) _ _ upd_same) (e4 _ _ upd_same)⟩
      · have e0 : Same H _ := sameUpd (o := .tup [.ref h2, .ref h1]) n0
        have em : metG (.sum ws cc) ⟨xl, xn, xw⟩ ⟨yl, yn, yw⟩ = (⟨false, o, saysM (.sum ws cc) k⟩, ⟨true, k, saysM (.sum ws cc) k⟩) := by rw [ek, eo]; exact (if_neg hn).trans (if_neg el)
        rw [em] at q
        refine ⟨t0, _, rfl, SqT.of upd_same, rfl, _, _, rfl, _, _, rfl, rfl, ?_⟩
        refine ⟨.ref a, rfl, .ref h2, rfl, h2, _, 1, _, rfl, rfl, SqT.of (e0 _ _ hy), atI_nat (j := 1) rfl, .ref h1, rfl, h1, _, 1, _, rfl, rfl, SqT.of (e0 _ _ hx), atI_nat (j := 1) rfl, a, ws, cc, yn, xn, rfl, hs.same (fun b xs z => e0 _ _ z), has, few, fy0, fy1, fun H1 p1 e1 hp1 => ?_⟩
        rw [Int.add_comm yn xn, ← ek, ← eo] at hp1
        have s1 := e0.trans e1
        refine ⟨p1, _, rfl, SqT.of hp1, rfl, _, _, rfl, _, _, rfl, rfl, ?_⟩
        refine ⟨.ref a, rfl, .int k, rfl, a, ws, cc, k, rfl, hs.same (fun b xs z => s1 _ _ z), ?_⟩
        refine ⟨.int k, rfl, _, rfl, by show 3 ≤ sizeLine; decide, fun p2 n2 => ?_⟩
        have e2 : Same H1 _ := sameUpd (o := .tup [.bl true, .int k, .bl (saysM (.sum ws cc) k)]) n2
        refine ⟨.int o, rfl, _, rfl, by show 3 ≤ sizeLine; decide, fun p3 n3 => ?_⟩
        have e3 : Same _ _ := sameUpd (o := .tup [.bl false, .int o, .bl (saysM (.sum ws cc) k)]) n3
        refine ⟨by show 2 ≤ sizeLine; decide, fun p4 n4 => ?_⟩
        have e4 : Same _ _ := sameUpd (o := .tup [.ref p2, .ref p3]) n4
        have s4 := s1.trans (e2.trans (e3.trans e4))
        refine ⟨.ref h1, rfl, h1, _, 0, _, rfl, rfl, SqT.of (s4 _ _ hx), atI_nat (j := 0) rfl, xl, rfl, ?_⟩
        rw [Bool.eq_false_iff.mpr el]
        refine iteF ⟨.ref p4, rfl, p4, _, rfl, SqT.of upd_same, fun p5 n5 => ?_⟩
        have e5 : Same _ _ := sameUpd (o := .tup [V.ref p2, .ref p3].reverse) n5
        exact q _ p5 p3 p2 (s4.trans e5) upd_same ((e4.trans e5) _ _ upd_same) ((e3.trans (e4.trans e5)) _ _ upd_same)

/-! _law_met, of one sum and two members -/
abbrev s__law_met : Stmt := topS 32
abbrev N__law_met : List Str := ["_law_singles", "_law_one", "_law_other", "_law_found", "_law_others", "_law_noted_here", "_law_simple", "_law_here", "_law_there", "_law_pair_here", "_law_member_here", "_law_hold"]
theorem sc__law_met : FnScope N__law_met ["_law_singles", "_law_one", "_law_other"] (defScope s__law_met) := ⟨rfl, rfl, rfl, by decide +kernel, rfl, by decide +kernel, by decide +kernel⟩
def sp__law_met : Sp := fun vs H Q _ => ∃ (l a m1 m2 : Addr) (ws : List Int) (cc i j : Int) (x y : Hold), vs = [.ref l, .ref m1, .ref m2] ∧ H l = some (.lst [.ref a]) ∧ IsS H a (.sum ws cc) ∧ 0 < ws.length ∧ ws.length ≤ 6 ∧ IsM H m1 i x ∧ IsM H m2 j y ∧ Fits ws cc x ∧ Fits ws cc y ∧
  ∀ H' p g1 g2, Same H H' → H' p = some (.tup [.ref g1, .ref g2]) → IsM H' g1 i (metG (.sum ws cc) x y).1 → IsM H' g2 j (metG (.sum ws cc) x y).2 → Q (.ref p) H'
theorem ok__law_met (T : Bn mg) (S : Stands K mg "_law_met" s__law_met ["_law_singles", "_law_one", "_law_other"]) (d1 : Df P w K mg base 3 "_law_pair" ["_law_simple", "_law_here", "_law_there"] sp__law_pair) :
    Df P w K mg base 4 "_law_met" ["_law_singles", "_law_one", "_law_other"] sp__law_met := by
  have sc := sc__law_met
  refine Df.of (k := 3) S sc (fun vs H Q E h => ?_) (fun f cdv A outer s H vs Q E hr hf h => ?_)
  · obtain ⟨l, a, m1, m2, ws, cc, i, j, x, y, rfl, _⟩ := h
    rfl
  · obtain ⟨l, a, m1, m2, ws, cc, i, j, x, y, rfl, hl, hs, has, few, hx, hy, fx, fy, q⟩ := h
    refine ⟨_, (pss_cons (ps_if (pt_cmpR op_eq (pe_ix ix_tup (pv 1) pe_int (fun _ _ => rfl)) pe_str (nomark _)) pss_never pss_nil)
      (pss_cons (ps_par3 (i := 3) (j := 4) (l := 5) rfl sc.nd rfl rfl rfl (by decide) (by decide) (by decide) rfl rfl rfl (pa_cons (pe_lst pa_nil) (pa_cons (pe_lst pa_nil) (pa_cons (pe_cmpR op_eq (pe_ix ix_tup (pv 2) pe_int (fun _ _ => rfl)) pe_str (nomark _)) pa_nil))) rfl)
      (pss_cons (ps_for PassesOwn.never rfl (pi_zip3 rfl T.n_zip (pa_cons (pv 0) (pa_cons (pe_ix ix_tup (pv 1) pe_int (fun _ _ => rfl)) (pa_cons (pe_ix ix_tup (pv 2) (pe_un un_neg pe_int) (fun _ _ => rfl)) pa_nil)))) (pg_tup rfl (pgs_cons (pg_name (i := 6) sc.nd rfl (Or.inl rfl)) (pgs_cons (pg_name (i := 7) sc.nd rfl (Or.inl rfl)) (pgs_cons (pg_name (i := 8) sc.nd rfl (Or.inl rfl)) pgs_nil)))) (pss_cons (ps_set (i := 9) sc.nd rfl (Or.inl rfl) (pe_df d1 (hr.mono (by decide)) hf rfl (pa_cons (pv 6) (pa_cons (pv 7) (pa_cons (pv 8) pa_nil)))))
      (pss_cons (ps_if (pt_val (pv 5)) pss_never pss_nil)
      (pss_cons (ps_expr (pe_bm PySem.F.plainAttrs_list PySem.F.slot_list_append PySem.F.type_list_append mt_append (pv 3) (pa_cons (pe_ix ix_tup (pv 9) pe_int (fun _ _ => rfl)) pa_nil)))
      (pss_one (ps_expr (pe_bm PySem.F.plainAttrs_list PySem.F.slot_list_append PySem.F.type_list_append mt_append (pv 4) (pa_cons (pe_ix ix_tup (pv 9) pe_int (fun _ _ => rfl)) pa_nil))))))))
      (pss_cons (ps_set (i := 10) sc.nd rfl (Or.inl rfl) (pe_tup (pa_cons pe_str (pa_cons (pe_ix ix_tup (pv 1) pe_int (fun _ _ => rfl)) (pa_cons (pe_callTy call_tuple_of rfl T.n_tuple PyProof.Rows.boot_tuple (pa_cons (pv 3) pa_nil)) pa_nil)))))
      (pss_cons (ps_if (pt_not (pt_val (pv 5))) (pss_one (ps_ret (pe_tup (pa_cons (pv 10) (pa_cons (pe_tup (pa_cons pe_str (pa_cons (pe_ix ix_tup (pv 2) pe_int (fun _ _ => rfl)) (pa_cons (pe_callTy call_tuple_of rfl T.n_tuple PyProof.Rows.boot_tuple (pa_cons (pv 4) pa_nil)) pa_nil)))) pa_nil))))) pss_nil) pss_never))))), ?_⟩
    obtain ⟨ha1, hh1, x1, x2, x3⟩ := hx
    obtain ⟨ha2, hh2, y1, y2, y3⟩ := hy
    have no : decide (V.str (Str.ofString "member") = V.str (Str.ofString "note")) = false := by rw [decStr]; decide +kernel
    refine ⟨.ref m1, rfl, m1, _, 0, _, rfl, rfl, SqT.of x1, atI_nat (j := 0) rfl, rfl, _, rfl, ?_⟩
    rw [no]
    refine iteF ⟨by show 0 ≤ sizeLine; decide, fun L1 n1 => ⟨by show 0 ≤ sizeLine; decide, fun L2 n2 => ?_⟩⟩
    have e1 : Same H _ := sameUpd (o := .lst []) n1
    have e2 : Same _ _ := sameUpd (o := .lst []) n2
    have s2 := e1.trans e2
    refine ⟨.ref m2, rfl, m2, _, 0, _, rfl, rfl, SqT.of (s2 _ _ y1), atI_nat (j := 0) rfl, rfl, ?_⟩
    rw [no]
    refine ⟨_, _, _, rfl, ?_⟩
    have hL1 := e2 _ _ (upd_same (H := H) (a := L1) (o := .lst []))
    have hL2 := upd_same (H := upd H L1 (.lst [])) (a := L2) (o := .lst [])
    have nL : L1 ≠ L2 := fun z => by
      rw [← z, upd_same] at n2
      cases n2
    have f1 : H L1 = none := n1
    have f2 : H L2 = none := e1.free n2
    generalize upd (upd H L1 (.lst [])) L2 (.lst []) = H3 at s2 hL1 hL2 ⊢
    refine ⟨.ref l, rfl, .ref m1, rfl, m1, _, 2, _, rfl, rfl, SqT.of (s2 _ _ x1), atI_nat (j := 2) rfl, .ref m2, rfl, 1, rfl, m2, _, -1, _, rfl, rfl, SqT.of (s2 _ _ y1), (show atI ([V.str "member", .int j] ++ [.ref ha2]) (-1) = some (.ref ha2) from atI_last _ _),
      l, ha1, ha2, true, false, false, [.ref a], [.ref hh1], [.ref hh2], rfl, SqL.of (s2 _ _ hl), SqT.of (s2 _ _ x2), SqT.of (s2 _ _ y2), ?_⟩
    refine for_it (walk_zip3 (xs := [.ref a]) (ys := [.ref hh1]) (zs := [.ref hh2]) rfl rfl)
      (fun e σ Hx => Same H Hx ∧ (∃ y6 y7 y8 y9 y10 y11, σ = [some (.ref l), some (.ref m1), some (.ref m2), some (.ref L1), some (.ref L2), some (.bl false), y6, y7, y8, y9, y10, y11]) ∧ (e = 0 → Hx L1 = some (.lst []) ∧ Hx L2 = some (.lst [])) ∧
        (e = 1 → ∃ g1 g2, Hx L1 = some (.lst [.ref g1]) ∧ Hx L2 = some (.lst [.ref g2]) ∧ IsH Hx g1 (metG (.sum ws cc) x y).1 ∧ IsH Hx g2 (metG (.sum ws cc) x y).2))
      ⟨s2, ⟨_, _, _, _, _, _, rfl⟩, fun _ => ⟨hL1, hL2⟩, fun z => absurd z (by decide)⟩ (fun e σ Hx _ p => ⟨SqL.of (p.1 _ _ hl), SqT.of (p.1 _ _ x2), SqT.of (p.1 _ _ y2)⟩) (fun e v σ Hx Hy he p yld => ?_) (fun σ Hx p => ?_)
    · have n0 : e = 0 := by
        have : e < 1 := he
        omega
      subst n0
      obtain ⟨sx, ⟨y6, y7, y8, y9, y10, y11, rfl⟩, z0, _⟩ := p
      obtain ⟨z1, z2⟩ := z0 rfl
      obtain ⟨Tt, u1, u2, u3, rfl, nT, rfl, g1, g2, g3⟩ := yld
      cases (Option.some.inj g1)
      cases (Option.some.inj g2)
      cases (Option.some.inj g3)
      have e4 : Same Hx _ := sameUpd (o := .tup [.ref a, .ref hh1, .ref hh2]) nT
      have s4 := sx.trans e4
      refine ⟨Tt, _, rfl, SqT.of upd_same, rfl, _, _, rfl, _, _, rfl, _, _, rfl, rfl, ?_⟩
      refine ⟨.ref a, rfl, .ref hh1, rfl, .ref hh2, rfl, a, hh1, hh2, ws, cc, x, y, rfl, hs.same (fun b xs z => s4 _ _ z), has, few, s4 _ _ x3, s4 _ _ y3, fx, fy, fun H5 p g1 g2 e5 hp k1 k2 => ?_⟩
      have s5 := s4.trans e5
      have l1 := (e4.trans e5) _ _ z1
      have l2 := (e4.trans e5) _ _ z2
      refine ⟨.bl false, rfl, false, rfl, iteF ?_⟩
      refine ⟨.ref L1, rfl, .inl ⟨rfl, _, .inl (.inl l1)⟩, .ref p, rfl, p, _, 0, _, rfl, rfl, SqT.of hp, atI_nat (j := 0) rfl, L1, _, _, rfl, rfl, l1, by show 0 < sizeLine; decide, ?_⟩
      have nt1 : ∀ {b : Addr} {xs : List V}, H5 b = some (.tup xs) → b ≠ L1 ∧ b ≠ L2 := fun h => ⟨(fun z => by rw [z, l1] at h; cases h), (fun z => by rw [z, l2] at h; cases h)⟩
      have up1 : ∀ b o o', b ≠ L1 → H5 b = some o → upd H5 L1 o' b = some o := fun b o o' n h => by rw [upd_ne n]; exact h
      refine ⟨.ref L2, rfl, .inl ⟨rfl, _, .inl (.inl (up1 _ _ _ nL.symm l2))⟩, .ref p, rfl, p, _, 1, _, rfl, rfl, SqT.of (up1 _ _ _ (nt1 hp).1 hp), atI_nat (j := 1) rfl, L2, _, _, rfl, rfl, up1 _ _ _ nL.symm l2, by show 0 < sizeLine; decide, ?_⟩
      have up2 : ∀ b o o' o'', b ≠ L1 → b ≠ L2 → H5 b = some o → upd (upd H5 L1 o') L2 o'' b = some o := fun b o o' o'' n n' h => by rw [upd_ne n', upd_ne n]; exact h
      refine ⟨fun b o hb => up2 _ _ _ _ (fun z => by rw [z, f1] at hb; cases hb) (fun z => by rw [z, f2] at hb; cases hb) (s5 _ _ hb), ⟨_, _, _, _, _, _, rfl⟩, fun z => absurd z (by decide), fun _ => ⟨g1, g2, by rw [upd_ne nL, upd_same]; rfl, upd_same, up2 _ _ _ _ (nt1 k1).1 (nt1 k1).2 k1, up2 _ _ _ _ (nt1 k2).1 (nt1 k2).2 k2⟩⟩
    · obtain ⟨sx, ⟨y6, y7, y8, y9, y10, y11, rfl⟩, _, z1⟩ := p
      obtain ⟨g1, g2, l1, l2, k1, k2⟩ := z1 rfl
      refine ⟨.ref m1, rfl, m1, _, 1, _, rfl, rfl, SqT.of (sx _ _ x1), atI_nat (j := 1) rfl, .ref L1, rfl, L1, _, rfl, .inl ⟨SqL.of l1, fun t1 n1 => ?_⟩⟩
      have e4 : Same Hx _ := sameUpd (o := .tup [.ref g1]) n1
      refine ⟨by show 3 ≤ sizeLine; decide, fun t2 n2 => ?_⟩
      have e5 : Same _ _ := sameUpd (o := .tup [.str "member", .int i, .ref t1]) n2
      have s5 := e4.trans e5
      refine ⟨.bl false, rfl, false, rfl, iteT ?_⟩
      refine ⟨.ref t2, rfl, .ref m2, rfl, m2, _, 1, _, rfl, rfl, SqT.of (s5 _ _ (sx _ _ y1)), atI_nat (j := 1) rfl, .ref L2, rfl, L2, _, rfl, .inl ⟨SqL.of (s5 _ _ l2), fun t3 n3 => ?_⟩⟩
      have e6 : Same _ _ := sameUpd (o := .tup [.ref g2]) n3
      refine ⟨by show 3 ≤ sizeLine; decide, fun t4 n4 => ?_⟩
      have e7 : Same _ _ := sameUpd (o := .tup [.str "member", .int j, .ref t3]) n4
      refine ⟨by show 2 ≤ sizeLine; decide, fun t5 n5 => ?_⟩
      have e8 : Same _ _ := sameUpd (o := .tup [.ref t2, .ref t4]) n5
      have s8 := e6.trans (e7.trans e8)
      exact q _ t5 t2 t4 (sx.trans (s5.trans s8)) upd_same ⟨t1, g1, s8 _ _ upd_same, (e5.trans s8) _ _ upd_same, (s5.trans s8) _ _ k1⟩ ⟨t3, g2, e8 _ _ upd_same, (e7.trans e8) _ _ upd_same, (s5.trans s8) _ _ k2⟩
end
end K17

set_option Elab.async false
set_option linter.all false
set_option maxRecDepth 100000
set_option maxHeartbeats 1000000
namespace K17
open PySem PySem.Spec PyProof.Rows L2 Sa
theorem topA_small : ∀ ws : List Int, (∀ w ∈ ws, -9 ≤ w ∧ w ≤ 9) → topA ws ≤ 9
  | [], _ => by decide
  | w :: ws, h => by
    have a := topA_small ws fun v hv => h v (List.mem_cons_of_mem _ hv)
    have b := h w List.mem_cons_self
    have d : absI w ≤ 9 := by
      unfold absI
      split <;> omega
    show (if absI w < topA ws then topA ws else absI w) ≤ 9
    split <;> omega
theorem size_le {ws : List Int} {cc : Int} (h : Small ws cc) : sizeM (.sum ws cc) ≤ 21 := by
  have a := topA_small ws h.near
  have b0 := h.c0
  have b1 := h.c1
  have d : absI cc ≤ 20 := by
    unfold absI
    split <;> omega
  show (if topA ws > 1 + absI cc then topA ws else 1 + absI cc) ≤ 21
  split <;> omega
section
variable {P : Program} {w : World} {K : PySem.W.Frag} {mg : Str → Option Value} {base : Heap} {c Tp Ts : Addr}
theorem But.tup {a : Addr} {H H' : Hp} {h : Hand} (e : But a H H') (ha : H a = some (hnd h)) {b : Addr} {xs : List V} (z : H b = some (.tup xs)) : H' b = some (.tup xs) := e b _ (fun y => by
  rw [y, ha] at z
  cases z) z
/-! _law_member, of one sum -/
abbrev s__law_member : Stmt := topS 33
abbrev N__law_member : List Str := ["_law_hand_here", "_law_singles", "_law_sort", "_law_holds", "_law_simple", "_law_size_here", "_law_leads", "_law_low", "_law_any_one", "_law_number", "_law_word"]
theorem sc__law_member : FnScope N__law_member ["_law_hand_here", "_law_singles", "_law_sort"] (defScope s__law_member) := ⟨rfl, rfl, rfl, by decide +kernel, rfl, by decide +kernel, by decide +kernel⟩
def sp__law_member : Sp := fun vs H Q _ => ∃ (p l a : Addr) (h : Hand) (n sort : Int) (ws : List Int) (cc : Int), vs = [.ref p, .ref l, .int sort] ∧ H p = some (hnd h) ∧ HandOk h n ∧ n < 2 ^ 28 ∧ H l = some (.lst [.ref a]) ∧ IsS H a (.sum ws cc) ∧ Small ws cc ∧
  ∀ H' h' m x, But p H H' → H' p = some (hnd h') → HandOk h' (n + 4) → IsM H' m sort x → Fits ws cc x → Q (.ref m) H'
theorem ok__law_member (T : Bn mg) (S : Stands K mg "_law_member" s__law_member ["_law_hand_here", "_law_singles", "_law_sort"]) (d1 : Df P w K mg base 1 "_law_take" ["_law_hand_here", "_law_many"] sp__law_take)
    (d2 : Df P w K mg base 2 "_law_of" ["_law_hand_here", "_law_some"] sp__law_of) (d3 : Df P w K mg base 1 "_law_size" ["_law_simple"] sp__law_size) (d4 : Df P w K mg base 1 "_law_says" ["_law_simple", "_law_number"] sp__law_says) :
    Df P w K mg base 3 "_law_member" ["_law_hand_here", "_law_singles", "_law_sort"] sp__law_member := by
  have sc := sc__law_member
  refine Df.of (k := 2) S sc (fun vs H Q E h => ?_) (fun f cdv A outer s H vs Q E hr hf h => ?_)
  · obtain ⟨p, l, a, h, n, sort, ws, cc, rfl, _⟩ := h
    rfl
  · obtain ⟨p, l, a, h, n, sort, ws, cc, rfl, hp, ok, nb, hl, hs, sm, q⟩ := h
    refine ⟨_, (pss_cons (ps_set (i := 3) sc.nd rfl (Or.inl rfl) (pe_lst pa_nil))
      (pss_cons (ps_for PassesOwn.never rfl (pi_list (pv 1)) (pg_name (i := 4) sc.nd rfl (Or.inl rfl)) (pss_cons (ps_par (i := 5) (j := 6) rfl sc.nd rfl rfl (by decide) rfl rfl (pa_cons (pe_df d3 (hr.mono (by decide)) hf rfl (pa_cons (pv 4) pa_nil)) (pa_cons (pe_cmpR op_eq (pe_df d1 (hr.mono (by decide)) hf rfl (pa_cons (pv 0) (pa_cons pe_int pa_nil))) pe_int (nomark _)) pa_nil)) rfl)
      (pss_cons (ps_set (i := 7) sc.nd rfl (Or.inl rfl) (pe_ifExp (pt_cmpR op_eq (pe_ix ix_tup (pv 4) pe_int (fun _ _ => rfl)) pe_str (nomark _)) pe_int (pe_un un_neg (pv 5))))
      (pss_cons (ps_set (i := 8) sc.nd rfl (Or.inl rfl) (pe_op op_add (pv 7) (pe_df d1 (hr.mono (by decide)) hf rfl (pa_cons (pv 0) (pa_cons (pe_op op_add (pe_op op_sub (pv 5) (pv 7)) pe_int) pa_nil)))))
      (pss_cons (ps_set (i := 9) sc.nd rfl (Or.inl rfl) (pe_df d2 (hr.mono (by decide)) hf rfl (pa_cons (pv 0) (pa_cons (pe_lst (pa_cons (pv 7) (pa_cons (pv 5) (pa_cons pe_int (pa_cons (pv 8) (pa_cons (pv 8) pa_nil)))))) pa_nil))))
      (pss_cons (ps_set (i := 10) sc.nd rfl (Or.inl rfl) (pe_cmpR op_eq (pe_df d1 (hr.mono (by decide)) hf rfl (pa_cons (pv 0) (pa_cons pe_int pa_nil))) pe_int (nomark _)))
      (pss_cons (ps_set (i := 10) sc.nd rfl (Or.inl rfl) (pe_ifExp (pt_val (pv 6)) (pe_df d4 (hr.mono (by decide)) hf rfl (pa_cons (pv 4) (pa_cons (pv 9) pa_nil))) (pv 10)))
      (pss_one (ps_expr (pe_bm PySem.F.plainAttrs_list PySem.F.slot_list_append PySem.F.type_list_append mt_append (pv 3) (pa_cons (pe_tup (pa_cons (pv 6) (pa_cons (pv 9) (pa_cons (pv 10) pa_nil)))) pa_nil)))))))))))
      (pss_one (ps_ret (pe_tup (pa_cons pe_str (pa_cons (pv 2) (pa_cons (pe_callTy call_tuple_of rfl T.n_tuple PyProof.Rows.boot_tuple (pa_cons (pv 3) pa_nil)) pa_nil)))))))), ?_⟩
    have npl : l ≠ p := fun z => by
      rw [z, hp] at hl
      cases hl
    have s1 := size_pos ws cc
    have s21 := size_le sm
    obtain ⟨z, ez⟩ : ∃ z, z = sizeM (.sum ws cc) := ⟨_, rfl⟩
    rw [← ez] at s1 s21
    refine ⟨by show 0 ≤ sizeLine; decide, fun D nD => ?_⟩
    have nDp : D ≠ p := (ne_of_none hp nD).symm
    have e0 : Same H _ := sameUpd (o := .lst []) nD
    refine ⟨.ref l, rfl, l, rfl, ⟨_, SqL.of (e0 _ _ hl)⟩, for_list (xs := [.ref a]) (fun e σ Hx => But p H Hx ∧ (∃ h', Hx p = some (hnd h') ∧ HandOk h' (n + 4 * e)) ∧
        (∃ y4 y5 y6 y7 y8 y9 y10, σ = [some (.ref p), some (.ref l), some (.int sort), some (.ref D), y4, y5, y6, y7, y8, y9, y10]) ∧ (e = 0 → Hx D = some (.lst [])) ∧ (e = 1 → ∃ g x, Hx D = some (.lst [.ref g]) ∧ IsH Hx g x ∧ Fits ws cc x))
      ⟨.of e0, ⟨h, e0 _ _ hp, ok.mono (by omega)⟩, ⟨_, _, _, _, _, _, _, rfl⟩, fun _ => upd_same, fun z => absurd z (by decide)⟩ (fun e σ Hx _ pv => SqL.of (pv.1 _ _ npl hl)) (fun e v σ Hx hv pv => ?_) (fun σ Hx pv => ?_)⟩
    · have n0 : e = 0 := by
        cases e with
        | zero => rfl
        | succ e => simp at hv
      subst n0
      cases (Option.some.inj hv)
      obtain ⟨b1, ⟨h1, hp1, ok1⟩, ⟨y4, y5, y6, y7, y8, y9, y10, rfl⟩, z0, _⟩ := pv
      have hD1 := z0 rfl
      have hsx : IsS Hx a (.sum ws cc) := hs.same fun b xs y => b1.tup hp y
      -- size_here, leads
      refine ⟨.ref a, rfl, a, ws, cc, rfl, hsx, sm.some, sm.few, fun H2 e2 => ?_⟩
      refine ⟨.ref p, rfl, p, h1, _, 2, rfl, e2 _ _ hp1, ok1, by omega, by decide, by decide, fun H3 h3 dl b3 hp3 ok3 _ _ => ⟨rfl, _, _, rfl, ?_⟩⟩
      have c3 : But p Hx H3 := But.trans (.of e2) b3
      have hs3 : IsS H3 a (.sum ws cc) := hsx.same fun b xs y => c3.tup hp1 y
      have hs3' := hs3
      obtain ⟨wa, k1, k2⟩ := hs3'
      -- low
      refine ⟨.ref a, rfl, a, _, 0, _, rfl, rfl, SqT.of k1, atI_nat (j := 0) rfl, rfl, _, rfl, ?_⟩
      rw [decStr, show decide ((Str.ofString "sum") = Str.ofString "rest") = false by decide +kernel]
      refine iteF ⟨.int z, by rw [ez]; rfl, z, rfl, ?_⟩
      -- any_one
      refine ⟨.int (-z), rfl, .ref p, rfl, .int z, by rw [ez]; rfl, .int (-z), rfl, z, -z, rfl, rfl, _, 1, rfl, rfl, p, h3, _, _, rfl, hp3, ok3, by omega, by omega, by omega, fun H4 h4 d b4 hp4 ok4 u0 u1 => ?_⟩
      refine ⟨-z, d, rfl, rfl, ?_⟩
      -- number
      refine ⟨.ref p, rfl, .int (-z), rfl, .int z, by rw [ez]; rfl, .int (-z + d), rfl, .int (-z + d), rfl, by show 5 ≤ sizeLine; decide, fun t nt => ?_⟩
      have e5 : Same H4 _ := sameUpd (o := .lst [.int (-z), .int z, .int 0, .int (-z + d), .int (-z + d)]) nt
      refine ⟨p, t, h4, _, _, rfl, e5 _ _ hp4, upd_same, ne_of_none hp4 nt, ok4, by omega, by show 0 < 5; decide, by show 5 < 2 ^ 29; decide, fun H6 h6 v b6 hp6 ok6 hv => ?_⟩
      obtain ⟨num, rfl, m0, m1⟩ : ∃ num : Int, v = .int num ∧ -z ≤ num ∧ num ≤ z := by
        simp only [List.mem_cons, List.not_mem_nil, or_false] at hv
        rcases hv with rfl | rfl | rfl | rfl | rfl <;> exact ⟨_, rfl, by omega, by omega⟩
      -- word, drawn
      refine ⟨.ref p, rfl, p, h6, _, 2, rfl, hp6, ok6, by omega, by decide, by decide, fun H7 h7 dw b7 hp7 ok7 _ _ => ⟨rfl, ?_⟩⟩
      have c7 : But p H3 H7 := But.trans b4 (But.trans (.of e5) (But.trans b6 b7))
      have hs7 : IsS H7 a (.sum ws cc) := hs3.same fun b xs y => c7.tup hp3 y
      have hD7 := c7 _ _ nDp (c3 _ _ nDp hD1)
      have c8 : But p H H7 := b1.trans (c3.trans c7)
      -- word, told
      refine ⟨.bl _, rfl, _, rfl, ite2 (fun el => ⟨.ref a, rfl, .int num, rfl, a, ws, cc, num, rfl, hs7, ?_⟩) (fun el => ⟨.bl _, rfl, ?_⟩)⟩
      all_goals
        refine ⟨.ref D, rfl, .inl ⟨rfl, _, .inl (.inl hD7)⟩, .bl _, rfl, .int num, rfl, .bl _, rfl, by show 3 ≤ sizeLine; decide, fun g ng => ?_⟩
        have e9 : ∀ o, Same H7 (upd H7 g o) := fun o => sameUpd ng
        have neg : g ≠ D := fun y => by
          rw [y, hD7] at ng
          cases ng
        refine ⟨D, _, _, rfl, rfl, e9 _ _ _ hD7, by show 0 < sizeLine; decide, fun b o nb hb => ?_, ⟨h7, by rw [upd_ne nDp.symm]; exact e9 _ _ _ hp7, ok7.mono (by push_cast; omega)⟩, ⟨_, _, _, _, _, _, _, rfl⟩, fun y => absurd y (by decide), fun _ => ⟨g, ⟨_, num, _⟩, upd_same, by unfold IsH; rw [upd_ne neg]; exact upd_same, by rw [← ez]; exact m0, by rw [← ez]; exact m1⟩⟩
        rw [upd_ne (fun y => by rw [y, nD] at hb; cases hb)]
        exact e9 _ _ _ (c8 b o nb hb)
    · obtain ⟨b1, ⟨h1, hp1, ok1⟩, ⟨y4, y5, y6, y7, y8, y9, y10, rfl⟩, _, z1⟩ := pv
      obtain ⟨g, x, hD, hg, fx⟩ := z1 rfl
      refine ⟨.int sort, rfl, .ref D, rfl, D, _, rfl, .inl ⟨SqL.of hD, fun t nt => ?_⟩⟩
      have e2 : Same Hx _ := sameUpd (o := .tup [.ref g]) nt
      refine ⟨by show 3 ≤ sizeLine; decide, fun m nm => ?_⟩
      have e3 : Same _ _ := sameUpd (o := .tup [.str "member", .int sort, .ref t]) nm
      exact q _ h1 m x (b1.trans (.of (e2.trans e3))) ((e2.trans e3) _ _ hp1) ok1 ⟨t, g, upd_same, e3 _ _ upd_same, (e2.trans e3) _ _ hg⟩ fx
end
end K17

set_option Elab.async false
set_option linter.all false
set_option maxRecDepth 100000
set_option maxHeartbeats 1000000
namespace K17
open PySem PySem.Spec PyProof.Rows L2 Sa
/-! the text of two members -/
def mD (i : Int) (h : Hold) : PyData := .tuple [.str "member", .int i, .tuple [.tuple [.bool h.leads, .int h.number, .bool h.word]]]
def pairD (i j : Int) (x y : Hold) : PyData := .tuple [mD i x, mD j y]
theorem small_all : ∀ k : Fin 201, PyData.weight (.int ((k.val : Int) - 100)) ≤ 50 ∧ ((k.val : Int) - 100).natAbs.log2 < 1920 := by decide +kernel
theorem small_int {i : Int} (h0 : -100 ≤ i) (h1 : i ≤ 100) : PyData.weight (.int i) ≤ 50 ∧ (PyData.shown (.int i)).length ≤ 13 ∧ i.natAbs.log2 < 1920 := by
  have q := small_all ⟨(i + 100).toNat, by omega⟩
  have e : (((i + 100).toNat : Nat) : Int) - 100 = i := by omega
  dsimp only at q
  rw [e] at q
  exact ⟨q.1, PyData.shown_int_le2 (by omega) (by omega), q.2⟩
theorem pairD_ok {i j : Int} {x y : Hold} (i0 : -100 ≤ i) (i1 : i ≤ 100) (j0 : -100 ≤ j) (j1 : j ≤ 100) (x0 : -100 ≤ x.number) (x1 : x.number ≤ 100) (y0 : -100 ≤ y.number) (y1 : y.number ≤ 100) :
    (pairD i j x y).showable = true ∧ (pairD i j x y).hasDict = false ∧ (pairD i j x y).depth ≤ 60 ∧ (pairD i j x y).shown.length ≤ sizeLine := by
  obtain ⟨a1, a2, a3⟩ := small_int i0 i1
  obtain ⟨b1, b2, b3⟩ := small_int j0 j1
  obtain ⟨c1, c2, c3⟩ := small_int x0 x1
  obtain ⟨d1, d2, d3⟩ := small_int y0 y1
  have deep : (pairD i j x y).depth = 4 := by simp [pairD, mD, PyData.depth, PyData.depthAll]
  have str1 : PyData.canLay0 (.str "member") = true := by decide +kernel
  have wstr : PyData.weight (.str "member") = 6 := by decide +kernel
  refine ⟨?_, rfl, by rw [deep]; decide, ?_⟩
  · simp only [pairD, mD, PyData.showable, PyData.showableAll, decide_eq_true a3, decide_eq_true b3, decide_eq_true c3, decide_eq_true d3, Bool.and_true]
  · refine Nat.le_trans (shown_le13 ?_ ?_) (by decide)
    · have lay : (pairD i j x y).canLay0 = true := by
        simp only [pairD, mD, PyData.canLay0, PyData.canLayAll0, Bool.and_true]
        exact by first | rfl | (have := str1; simpa [PyData.canLay0] using this)
      have wt : (pairD i j x y).weight ≤ 2 ^ 20 := by
        have e : (pairD i j x y).weight = (PyData.weight (.str "member") + 1 + (PyData.weight (.int i) + 1 + ((0 + 1 + (PyData.weight (.int x.number) + 1 + (0 + 1 + 0)) + 1 + 0) + 1 + 0))) + 1 + ((PyData.weight (.str "member") + 1 + (PyData.weight (.int j) + 1 + ((0 + 1 + (PyData.weight (.int y.number) + 1 + (0 + 1 + 0)) + 1 + 0) + 1 + 0))) + 1 + 0) := rfl
        rw [e, wstr]
        omega
      unfold PyData.layable0
      rw [lay, deep, decide_eq_true wt]
      rfl
    · simp only [pairD, mD, PyData.intsShort, PyData.intsShortAll, decide_eq_true a2, decide_eq_true b2, decide_eq_true c2, decide_eq_true d2, Bool.and_true]
theorem IsM.dp {K : PySem.W.Frag} {H : Hp} {a : Addr} {i : Int} {h : Hold} (m : IsM H a i h) : Dp K H (.ref a) (mD i h) :=
  let ⟨ha, hh, h1, h2, h3⟩ := m
  .tup (SqT.of h1) (.cons (.str _) (.cons (.int i) (.cons (.tup (SqT.of h2) (.cons (.tup (SqT.of h3) (.cons (.bl _) (.cons (.int _) (.cons (.bl _) .nil)))) .nil)) .nil)))
theorem pair_dp {K : PySem.W.Frag} {H : Hp} {p g1 g2 : Addr} {i j : Int} {x y : Hold} (h : H p = some (.tup [.ref g1, .ref g2])) (m1 : IsM H g1 i x) (m2 : IsM H g2 j y) : Dp K H (.ref p) (pairD i j x y) :=
  .tup (SqT.of h) (.cons m1.dp (.cons m2.dp .nil))
theorem clamp_in {s n : Int} (s1 : 1 ≤ s) : -s ≤ clampI s n ∧ clampI s n ≤ s := by
  unfold clampI
  split <;> split <;> omega
theorem met_small {ws : List Int} {cc : Int} {x y : Hold} (sm : Small ws cc) (fx : Fits ws cc x) (fy : Fits ws cc y) :
    (-100 ≤ (metG (.sum ws cc) x y).1.number ∧ (metG (.sum ws cc) x y).1.number ≤ 100) ∧ -100 ≤ (metG (.sum ws cc) x y).2.number ∧ (metG (.sum ws cc) x y).2.number ≤ 100 := by
  have s21 := size_le sm
  have s1 := size_pos ws cc
  have e1 : (cutM (.sum ws cc) (x.number + y.number)).1 = clampI (sizeM (.sum ws cc)) (x.number + y.number) := rfl
  have e2 : (cutM (.sum ws cc) (x.number + y.number)).2 = x.number + y.number - clampI (sizeM (.sum ws cc)) (x.number + y.number) := rfl
  obtain ⟨x0, x1⟩ := fx
  obtain ⟨y0, y1⟩ := fy
  have cl := clamp_in (n := x.number + y.number) s1
  generalize clampI (sizeM (.sum ws cc)) (x.number + y.number) = k at e1 e2 cl
  generalize sizeM (.sum ws cc) = z at s21 s1 x0 x1 y0 y1 cl
  obtain ⟨k0, k1⟩ := cl
  unfold metG
  split
  · exact ⟨⟨by show -100 ≤ x.number; omega, by show x.number ≤ 100; omega⟩, by show -100 ≤ y.number; omega, by show y.number ≤ 100; omega⟩
  · split <;> (dsimp only; rw [e1, e2]; exact ⟨⟨by omega, by omega⟩, by omega, by omega⟩)
section
variable {P : Program} {w : World} {K : PySem.W.Frag} {mg : Str → Option Value} {base : Heap} {c Tp Ts : Addr}
/-! _law_is_right -/
abbrev s__law_is_right : Stmt := topS 35
abbrev N__law_is_right : List Str := ["_law_simple", "_law_one", "_law_other", "_law_held", "_law_due"]
theorem sc__law_is_right : FnScope N__law_is_right ["_law_simple", "_law_one", "_law_other"] (defScope s__law_is_right) := ⟨rfl, rfl, rfl, by decide +kernel, rfl, by decide +kernel, by decide +kernel⟩
def sp__law_is_right (Tp Ts : Addr) : Sp := fun vs H Q _ => ∃ (a m1 m2 : Addr) (ws : List Int) (cc i j : Int) (x y : Hold), vs = [.ref a, .ref m1, .ref m2] ∧ Tb H Tp ∧ Tb H Ts ∧ IsS H a (.sum ws cc) ∧ Small ws cc ∧ IsM H m1 i x ∧ IsM H m2 j y ∧ (0 ≤ i ∧ i < 10) ∧ (0 ≤ j ∧ j < 10) ∧ Fits ws cc x ∧ Fits ws cc y ∧
  ∀ H', Grow H H' → Q (.bl true) H'
theorem ok__law_is_right (T : Bn mg) (S : Stands K mg "_law_is_right" s__law_is_right ["_law_simple", "_law_one", "_law_other"]) (d1 : Df P w K mg base 4 "_law_met" ["_law_singles", "_law_one", "_law_other"] sp__law_met)
    (d2 : Df P w K mg base 7 "meet" ["saying", "one", "other"] (sp_meet_member Tp Ts)) : Df P w K mg base 8 "_law_is_right" ["_law_simple", "_law_one", "_law_other"] (sp__law_is_right Tp Ts) := by
  have sc := sc__law_is_right
  refine Df.of (k := 7) S sc (fun vs H Q E h => ?_) (fun f cdv A outer s H vs Q E hr hf h => ?_)
  · obtain ⟨a, m1, m2, ws, cc, i, j, x, y, rfl, _⟩ := h
    rfl
  · obtain ⟨a, m1, m2, ws, cc, i, j, x, y, rfl, tp, ts, hs, sm, hx, hy, ⟨i0, i1⟩, ⟨j0, j1⟩, fx, fy, q⟩ := h
    refine ⟨_, (pss_cons (ps_par (i := 3) (j := 4) rfl sc.nd rfl rfl (by decide) rfl rfl (pa_cons (pe_callB (call_shown hf hr.units) rfl T.n_repr (by decide +kernel) (pa_cons (pe_tup (pa_cons (pv 1) (pa_cons (pv 2) pa_nil))) pa_nil)) (pa_cons (pe_callB (call_shown hf hr.units) rfl T.n_repr (by decide +kernel) (pa_cons (pe_df d1 (hr.mono (by decide)) hf rfl (pa_cons (pe_lst (pa_cons (pv 0) pa_nil)) (pa_cons (pv 1) (pa_cons (pv 2) pa_nil)))) pa_nil)) pa_nil)) rfl)
      (pss_one (ps_ret (pe_and (pe_cmpR op_eq (pe_callB (call_shown hf hr.units) rfl T.n_repr (by decide +kernel) (pa_cons (pe_df d2 (hr.mono (by decide)) hf rfl (pa_cons (pv 0) (pa_cons (pv 1) (pa_cons (pv 2) pa_nil)))) pa_nil)) (pv 4) (nomark _)) (pe_one (pe_cmpR op_eq (pe_callB (call_shown hf hr.units) rfl T.n_repr (by decide +kernel) (pa_cons (pe_tup (pa_cons (pv 1) (pa_cons (pv 2) pa_nil))) pa_nil)) (pv 3) (nomark _))))))), ?_⟩
    have s21 := size_le sm
    have ox := fx
    have oy := fy
    obtain ⟨x0, x1⟩ := ox
    obtain ⟨y0, y1⟩ := oy
    obtain ⟨sh1, pl1, dp1, sz1⟩ := pairD_ok (i := i) (j := j) (x := x) (y := y) (by omega) (by omega) (by omega) (by omega) (by omega) (by omega) (by omega) (by omega)
    obtain ⟨⟨u0, u1⟩, u2, u3⟩ := met_small sm fx fy
    obtain ⟨sh2, pl2, dp2, sz2⟩ := pairD_ok (i := i) (j := j) (x := (metG (.sum ws cc) x y).1) (y := (metG (.sum ws cc) x y).2) (by omega) (by omega) (by omega) (by omega) u0 u1 u2 u3
    obtain ⟨da, eda⟩ : ∃ d, d = pairD i j x y := ⟨_, rfl⟩
    obtain ⟨db, edb⟩ : ∃ d, d = pairD i j (metG (.sum ws cc) x y).1 (metG (.sum ws cc) x y).2 := ⟨_, rfl⟩
    rw [← eda] at sh1 pl1 dp1 sz1
    rw [← edb] at sh2 pl2 dp2 sz2
    -- held, due
    refine ⟨.ref m1, rfl, .ref m2, rfl, by show 2 ≤ sizeLine; decide, fun t0 n0 => ?_⟩
    have e0 : Same H _ := sameUpd (o := .tup [.ref m1, .ref m2]) n0
    refine ⟨t0, da, rfl, eda ▸ pair_dp upd_same (hx.ext fun b xs z => e0 _ _ z) (hy.ext fun b xs z => e0 _ _ z), sh1, pl1, dp1, sz1, ?_⟩
    refine ⟨.ref a, rfl, by show 1 ≤ sizeLine; decide, fun l nl => ?_⟩
    have e1 : Same _ _ := sameUpd (o := .lst [.ref a]) nl
    have s1 := e0.trans e1
    refine ⟨.ref m1, rfl, .ref m2, rfl, l, a, m1, m2, ws, cc, i, j, x, y, rfl, upd_same, hs.same (fun b xs z => s1 _ _ z), sm.some, sm.few, hx.ext (fun b xs z => s1 _ _ z), hy.ext (fun b xs z => s1 _ _ z), fx, fy, fun H2 p2 g1 g2 e2 hp2 k1 k2 => ?_⟩
    have s2 := s1.trans e2
    refine ⟨p2, db, rfl, edb ▸ pair_dp hp2 k1 k2, sh2, pl2, dp2, sz2, _, _, rfl, ?_⟩
    -- meet
    have g2' : Grow H H2 := .same s2
    refine ⟨.ref a, rfl, .ref m1, rfl, .ref m2, rfl, a, m1, m2, .sum ws cc, i, j, x, y, rfl, g2'.tabs _ tp, g2'.tabs _ ts, hs.grow g2', sm.some, hx.grow g2', hy.grow g2', fun H3 p3 k3 k4 g3 hp3 a1 a2 => ?_⟩
    refine ⟨p3, db, rfl, edb ▸ pair_dp hp3 a1 a2, sh2, pl2, dp2, sz2, ?_⟩
    refine ⟨.str db.shown, rfl, rfl, decide (V.str db.shown = V.str db.shown), rfl, ?_⟩
    rw [decide_eq_true rfl]
    have g4 := g2'.trans g3
    refine iteT ⟨.ref m1, rfl, .ref m2, rfl, by show 2 ≤ sizeLine; decide, fun t5 n5 => ?_⟩
    have e5 : Same H3 _ := sameUpd (o := .tup [.ref m1, .ref m2]) n5
    have g5 := g4.trans (.same e5)
    refine ⟨t5, da, rfl, eda ▸ pair_dp upd_same (hx.grow g5) (hy.grow g5), sh1, pl1, dp1, sz1, ?_⟩
    refine ⟨.str da.shown, rfl, rfl, ?_⟩
    rw [decide_eq_true rfl]
    exact q _ g5
end
end K17

set_option Elab.async false
set_option linter.all false
set_option maxRecDepth 100000
set_option maxHeartbeats 2000000
namespace K17
open PySem PySem.Spec PyProof.Rows L2 Sa
theorem frzNe {a p : Addr} {H : Hp} {o : Obj} {u v : HO} (h : H a = some (.frz o u)) (g : H p = some v) (n : ∀ o u, v ≠ .frz o u) : a ≠ p := fun z => by
  rw [z, g] at h
  exact n o u (Option.some.inj h)
/-- what stands through the inner loops: the script, the tables, the hand at p with at most n draws done, the saying at sa -/
structure Stay (K : PySem.W.Frag) (Tp Ts a p sa : Addr) (ns ws : List Int) (cc n : Int) (H : Hp) : Prop where
  script : Scr K H a (ns.map V.int)
  tp : Tb H Tp
  ts : Tb H Ts
  hand : ∃ h, H p = some (hnd h) ∧ HandOk h n
  simple : IsS H sa (.sum ws cc)
section
variable {K : PySem.W.Frag} {Tp Ts a p sa : Addr} {ns ws : List Int} {cc n n' : Int} {H H' : Hp} {h' : Hand}
theorem tbBut {R : Addr} {h : Hand} (t : Tb H R) (hp : H p = some (hnd h)) (e : But p H H') : Tb H' R := let ⟨ps, x, r⟩ := t; ⟨ps, e _ _ (fun z => by
  rw [z, hp] at x
  cases x) x, r⟩
/-- the hand may have changed -/
theorem Stay.but (x : Stay K Tp Ts a p sa ns ws cc n H) (e : But p H H') (hh : H' p = some (hnd h')) (ok : HandOk h' n') : Stay K Tp Ts a p sa ns ws cc n' H' := by
  obtain ⟨h0, hp0, _⟩ := id x.hand
  exact ⟨x.script.keep fun o q => e _ _ (frzNe q hp0 fun _ _ z => nomatch z) q, tbBut x.tp hp0 e, tbBut x.ts hp0 e, ⟨h', hh, ok⟩, x.simple.same fun b xs z => e.tup hp0 z⟩
/-- the tables may have changed -/
theorem Stay.grow (x : Stay K Tp Ts a p sa ns ws cc n H) (e : Grow H H') : Stay K Tp Ts a p sa ns ws cc n H' :=
  ⟨x.script.keep (fun o q => e.keep _ _ q (fun _ z => nomatch z)), e.tabs _ x.tp, e.tabs _ x.ts, let ⟨h, e', ok⟩ := x.hand; ⟨h, e.lst e', ok⟩, x.simple.grow e⟩
theorem Stay.same (x : Stay K Tp Ts a p sa ns ws cc n H) (e : Same H H') : Stay K Tp Ts a p sa ns ws cc n H' := x.grow (.same e)
theorem Stay.mono (x : Stay K Tp Ts a p sa ns ws cc n H) (e : n ≤ n') : Stay K Tp Ts a p sa ns ws cc n' H := ⟨x.script, x.tp, x.ts, let ⟨h, e', ok⟩ := x.hand; ⟨h, e', ok.mono e⟩, x.simple⟩
/-- a list of its own may have changed -/
theorem Stay.put {D : Addr} {us : List V} {o : HO} (x : Stay K Tp Ts a p sa ns ws cc n H) (hD : H D = some (.lst us)) (nD : D ≠ p) : Stay K Tp Ts a p sa ns ws cc n (upd H D o) := by
  have tabs : ∀ R, Tb H R → Tb (upd H D o) R := fun R t => by
    obtain ⟨ps, y, r⟩ := t
    exact ⟨ps, by rw [upd_ne (fun z => by rw [z, hD] at y; cases y)]; exact y, r⟩
  refine ⟨x.script.keep fun o q => by rw [upd_ne (frzNe q hD fun _ _ z => nomatch z)]; exact q, tabs _ x.tp, tabs _ x.ts, let ⟨h, e', ok⟩ := x.hand; ⟨h, by rw [upd_ne nD.symm]; exact e', ok⟩, x.simple.same fun b xs z => ?_⟩
  rw [upd_ne (fun y => by rw [y, hD] at z; cases z)]
  exact z
/-- what is a tuple stays one -/
theorem Stay.tup (x : Stay K Tp Ts a p sa ns ws cc n H) (e : But p H H') {b : Addr} {xs : List V} (z : H b = some (.tup xs)) : H' b = some (.tup xs) := by
  obtain ⟨h0, hp0, _⟩ := id x.hand
  exact e.tup hp0 z
end
/-- a member that the law may ask of -/
def IsOk (H : Hp) (ws : List Int) (cc : Int) (m : Addr) : Prop := ∃ (i : Int) (x : Hold), IsM H m i x ∧ (0 ≤ i ∧ i < 10) ∧ Fits ws cc x
theorem IsOk.ext {H H' : Hp} {ws : List Int} {cc : Int} {m : Addr} (h : IsOk H ws cc m) (e : ∀ b xs, H b = some (.tup xs) → H' b = some (.tup xs)) : IsOk H' ws cc m := let ⟨i, x, a, b, d⟩ := h; ⟨i, x, a.ext e, b, d⟩
theorem IsOk.grow {H H' : Hp} {ws : List Int} {cc : Int} {m : Addr} (h : IsOk H ws cc m) (e : Grow H H') : IsOk H' ws cc m := h.ext fun _ _ z => e.tup z
section
variable {P : Program} {w : World} {K : PySem.W.Frag} {mg : Str → Option Value} {base : Heap} {Tp Ts : Addr}
abbrev s_law : Stmt := topS 36
abbrev N_law : List Str := ["_law_script", "_law_k", "_law_hand_here", "_law_sorts", "_law_simple", "_law_size_here", "_law_turn", "_law_one", "_law_other", "_law_member_here", "_law_number", "_law_lead", "_law_follower", "_law_place"]
theorem sc_law : FnScope N_law ["_law_script"] (defScope s_law) := ⟨rfl, rfl, rfl, by decide +kernel, rfl, by decide +kernel, by decide +kernel⟩
def sp_law (K : PySem.W.Frag) (Tp Ts : Addr) : Sp := fun vs H Q _ => ∃ (a : Addr) (ns : List Int), vs = [.ref a] ∧ Scr K H a (ns.map V.int) ∧ ns.length ≤ 63 ∧ Tb H Tp ∧ Tb H Ts ∧ ∀ H', Q (.bl true) H'
theorem ok_law (T : Bn mg) {f0 : Addr} {fd0 : FuncData} (F : Fun K "law" "law" s_law f0 fd0) (dh : Df P w K mg base 1 "_law_hand" ["_law_script", "_law_k"] (sp__law_hand K)) (dt : Df P w K mg base 1 "_law_take" ["_law_hand_here", "_law_many"] sp__law_take)
    (du : Df P w K mg base 4 "_law_sum" ["_law_hand_here", "_law_sorts"] sp__law_sum) (dz : Df P w K mg base 1 "_law_size" ["_law_simple"] sp__law_size) (dy : Df P w K mg base 1 "_law_says" ["_law_simple", "_law_number"] sp__law_says)
    (dm : Df P w K mg base 3 "_law_member" ["_law_hand_here", "_law_singles", "_law_sort"] sp__law_member) (dr : Df P w K mg base 8 "_law_is_right" ["_law_simple", "_law_one", "_law_other"] (sp__law_is_right Tp Ts)) :
    FnG P w K mg base 9 f0 fd0 ["_law_script"] (sp_law K Tp Ts) := by
  have sc := sc_law
  refine okG (k := 8) F sc (fun vs H Q E h => ?_) (fun cdv A outer s H vs Q E _ hr hf h => ?_)
  · obtain ⟨a, ns, rfl, _⟩ := h
    rfl
  · obtain ⟨a, ns, rfl, hs, short, tp, ts, q⟩ := h
    refine ⟨_, (pss_cons (ps_for PassesOwn.never rfl (pi_range1 rfl T.n_range (pa_cons (pe_callB (call_max2 rfl) rfl T.n_max (by decide +kernel) (pa_cons pe_int (pa_cons (pe_callB (call_min2 rfl) rfl T.n_min (by decide +kernel) (pa_cons pe_int (pa_cons (pe_callB call_len_seq rfl T.n_len PySem.boot_len (pa_cons (pv 0) pa_nil)) pa_nil))) pa_nil))) pa_nil)) (pg_name (i := 1) sc.nd rfl (Or.inl rfl)) (pss_cons (ps_set (i := 2) sc.nd rfl (Or.inr rfl) (pe_df dh (hr.mono (by decide)) hf rfl (pa_cons (pv 0) (pa_cons (pv 1) pa_nil))))
      (pss_cons (ps_set (i := 3) sc.nd rfl (Or.inr rfl) (pe_op op_add pe_int (pe_df dt (hr.mono (by decide)) hf rfl (pa_cons (pv 2) (pa_cons pe_int pa_nil)))))
      (pss_cons (ps_set (i := 4) sc.nd rfl (Or.inr rfl) (pe_df du (hr.mono (by decide)) hf rfl (pa_cons (pv 2) (pa_cons (pv 3) pa_nil))))
      (pss_cons (ps_set (i := 5) sc.nd rfl (Or.inl rfl) (pe_df dz (hr.mono (by decide)) hf rfl (pa_cons (pv 4) pa_nil)))
      (pss_cons (ps_for PassesOwn.never rfl (pi_range1 rfl T.n_range (pa_cons pe_int pa_nil)) (pg_name (i := 6) sc.nd rfl (Or.inl rfl)) (pss_cons (ps_asg (pe_lc (own := [("_law_place", 13)]) (g := gName 13) (tt := tYes) rfl sc.nd (pi_range1 rfl T.n_range (pa_cons pe_int pa_nil)) (blkOk_by (own := [("_law_place", 13)]) (N := N_law) (sc := defScope s_law) (by decide +kernel)) (fun _ _ _ _ _ => (pg_name (i := 13) sc.nd rfl (Or.inl rfl))) (fun _ _ _ _ _ => pts_nil) (fun _ _ _ _ _ => (pe_df dm (hr.mono (by decide)) hf rfl (pa_cons (pv 2) (pa_cons (pe_lst (pa_cons (pv 4) pa_nil)) (pa_cons (pe_df dt (hr.mono (by decide)) hf rfl (pa_cons (pv 2) (pa_cons (pv 3) pa_nil))) pa_nil)))))) (pg_lst rfl (pgs_cons (pg_name (i := 7) sc.nd rfl (Or.inl rfl)) (pgs_cons (pg_name (i := 8) sc.nd rfl (Or.inl rfl)) pgs_nil))))
      (pss_one (ps_if (PW.pt (pw_or (pt_not (pt_val (pe_df dr (hr.mono (by decide)) hf rfl (pa_cons (pv 4) (pa_cons (pv 7) (pa_cons (pv 8) pa_nil)))))) (pw_or1 (pt_not (pt_val (pe_df dr (hr.mono (by decide)) hf rfl (pa_cons (pv 4) (pa_cons (pv 8) (pa_cons (pv 7) pa_nil))))))))) (pss_one (ps_ret pe_bl)) pss_nil))))
      (pss_cons (ps_set (i := 9) sc.nd rfl (Or.inl rfl) (pe_df dm (hr.mono (by decide)) hf rfl (pa_cons (pv 2) (pa_cons (pe_lst (pa_cons (pv 4) pa_nil)) (pa_cons (pe_df dt (hr.mono (by decide)) hf rfl (pa_cons (pv 2) (pa_cons (pv 3) pa_nil))) pa_nil)))))
      (pss_one (ps_for PassesOwn.never rfl (pi_range2 rfl T.n_range (pa_cons (pe_un un_neg (pv 5)) (pa_cons (pe_op op_add (pv 5) pe_int) pa_nil))) (pg_name (i := 10) sc.nd rfl (Or.inl rfl)) (pss_cons (ps_set (i := 11) sc.nd rfl (Or.inl rfl) (pe_tup (pa_cons pe_str (pa_cons (pe_df dt (hr.mono (by decide)) hf rfl (pa_cons (pv 2) (pa_cons (pv 3) pa_nil))) (pa_cons (pe_tup (pa_cons (pe_tup (pa_cons pe_bl (pa_cons (pv 10) (pa_cons (pe_df dy (hr.mono (by decide)) hf rfl (pa_cons (pv 4) (pa_cons (pv 10) pa_nil))) pa_nil)))) pa_nil)) pa_nil)))))
      (pss_cons (ps_set (i := 12) sc.nd rfl (Or.inl rfl) (pe_tup (pa_cons pe_str (pa_cons (pe_df dt (hr.mono (by decide)) hf rfl (pa_cons (pv 2) (pa_cons (pv 3) pa_nil))) (pa_cons (pe_tup (pa_cons (pe_tup (pa_cons pe_bl (pa_cons (pv 10) (pa_cons (pe_cmpR op_eq (pe_df dt (hr.mono (by decide)) hf rfl (pa_cons (pv 2) (pa_cons pe_int pa_nil))) pe_int (nomark _)) pa_nil)))) pa_nil)) pa_nil)))))
      (pss_one (ps_for PassesOwn.never rfl (pi_tup (pe_tup (pa_cons (pv 11) (pa_cons (pv 12) pa_nil)))) (pg_name (i := 8) sc.nd rfl (Or.inl rfl)) (pss_one (ps_if (PW.pt (pw_or (pt_not (pt_val (pe_df dr (hr.mono (by decide)) hf rfl (pa_cons (pv 4) (pa_cons (pv 9) (pa_cons (pv 8) pa_nil)))))) (pw_or1 (pt_not (pt_val (pe_df dr (hr.mono (by decide)) hf rfl (pa_cons (pv 4) (pa_cons (pv 8) (pa_cons (pv 9) pa_nil))))))))) (pss_one (ps_ret pe_bl)) pss_nil)))))))))))))))
      (pss_one (ps_ret pe_bl))), ?_⟩
    -- range(max(1, min(3, len(script))))
    refine ⟨.ref a, rfl, a, _, rfl, .inl hs.sq, 3, _, rfl, 1, _, rfl, _, rfl, ?_, ?_, for_range (lo := 0) (n := _) (fun i σ Hx => Scr K Hx a (ns.map V.int) ∧ Tb Hx Tp ∧ Tb Hx Ts ∧ ∃ y1 y2 y3 y4 y5 y6 y7 y8 y9 y10 y11 y12 y13, σ = [some (.ref a), y1, y2, y3, y4, y5, y6, y7, y8, y9, y10, y11, y12, y13])
      ⟨hs, tp, ts, _, _, _, _, _, _, _, _, _, _, _, _, _, rfl⟩ (fun i σ Hx hi pv => ?_) (fun σ Hx pv => q Hx)⟩
    · split <;> split <;> omega
    · split <;> split <;> omega
    have i3 : i < 3 := by
      revert hi
      split <;> (try split) <;> omega
    obtain ⟨hsx, tpx, tsx, y1, y2, y3, y4, y5, y6, y7, y8, y9, y10, y11, y12, y13, rfl⟩ := pv
    -- the hand, the sorts, the saying, its size
    refine ⟨.ref a, rfl, .int (0 + i), rfl, a, ns, 0 + i, rfl, hsx.sq, short, by omega, by omega, fun H1 p h e1 np hp ok => ?_⟩
    refine ⟨.ref p, rfl, p, h, 0, 6, rfl, hp, ok, by decide, by decide, by decide, fun H2 h2 d e2 hp2 ok2 d0 d6 => ?_⟩
    refine ⟨1, d, rfl, rfl, ?_⟩
    refine ⟨.ref p, rfl, .int (1 + d), rfl, p, h2, 1, 1 + d, rfl, hp2, ok2, by decide, by omega, by omega, fun H3 h3 sa ws cc e3 hp3 ok3 hS sm => ?_⟩
    refine ⟨.ref sa, rfl, sa, ws, cc, rfl, hS, sm.some, sm.few, fun H4 e4 => ?_⟩
    have b12 : But p H1 H3 := But.trans e2 e3
    have st : Stay K Tp Ts a p sa ns ws cc 40 H4 := Stay.same ⟨hsx.keep fun o z => (fun h1 => b12 _ _ (frzNe h1 hp fun _ _ z => nomatch z) h1) (e1 _ _ z), tbBut ((Grow.same e1).tabs _ tpx) hp b12, tbBut ((Grow.same e1).tabs _ tsx) hp b12, ⟨h3, hp3, ok3.mono (by decide)⟩, hS⟩ e4
    have s21 := size_le sm
    have s1 := size_pos ws cc
    have fits : ∀ k : Int, -sizeM (.sum ws cc) ≤ k → k ≤ sizeM (.sum ws cc) → ∀ b u, Fits ws cc ⟨b, k, u⟩ := fun k k0 k1 b u => ⟨k0, k1⟩
    -- for turn in range(30)
    refine ⟨30, rfl, by decide, by decide, for_range (lo := 0) (n := 30)
      (fun i1 σ Hx => Stay K Tp Ts a p sa ns ws cc (40 + 10 * i1) Hx ∧ ∃ y6 y7 y8 y9 y10 y11 y12 y13, σ = [some (.ref a), some (.int (0 + i)), some (.ref p), some (.int (1 + d)), some (.ref sa), some (.int (sizeM (.sum ws cc))), y6, y7, y8, y9, y10, y11, y12, y13])
      ⟨st.mono (by omega), _, _, _, _, _, _, _, _, rfl⟩ (fun i1 σ Hx hi1 pv => ?_) (fun σ Hx pv => ?_)⟩
    · obtain ⟨st5, z6, z7, z8, z9, z10, z11, z12, z13, rfl⟩ := pv
      -- one, other = [..]
      refine ⟨2, rfl, by decide, by decide, fun D nD => ?_⟩
      have nDp : D ≠ p := fun z => by
        obtain ⟨h', e, _⟩ := st5.hand
        rw [z, e] at nD
        cases nD
      refine lc_range (lo := 0) (n := 2) (fun e Hy => Stay K Tp Ts a p sa ns ws cc (40 + 10 * i1 + 5 * e) Hy ∧ ∃ L : List Addr, L.length = e ∧ Hy D = some (.lst (L.map V.ref)) ∧ ∀ u ∈ L, IsOk Hy ws cc u)
        ⟨(st5.same (sameUpd nD)).mono (by omega), [], rfl, upd_same, fun u hu => absurd hu (by simp)⟩ (fun e Hy he pv => ?_) (fun Hy pv => ?_)
      · obtain ⟨st6, L, len, hD, each⟩ := pv
        refine ⟨rfl, ?_⟩
        refine ⟨.ref p, rfl, .ref sa, rfl, by show 1 ≤ sizeLine; decide, fun l nl => ?_⟩
        have e7 : Same Hy _ := sameUpd (o := .lst [.ref sa]) nl
        have st7 := st6.same e7
        obtain ⟨h7, hp7, ok7⟩ := id st7.hand
        have nlp : l ≠ p := fun z => by
          obtain ⟨h', e, _⟩ := st6.hand
          rw [z, e] at nl
          cases nl
        refine ⟨.ref p, rfl, .int (1 + d), rfl, p, h7, _, 1 + d, rfl, hp7, ok7, by omega, by omega, by omega, fun H8 h8 so b8 hp8 ok8 so0 so1 => ?_⟩
        have st8 := st7.but b8 hp8 ok8
        refine ⟨p, l, sa, h8, _, so, ws, cc, rfl, hp8, ok8, by omega, b8 _ _ nlp upd_same, st8.simple, sm, fun H9 h9 m x b9 hp9 ok9 hm fx => ?_⟩
        have st9 := st8.but b9 hp9 ok9
        have b10 : But p Hy H9 := But.trans (.of e7) (But.trans b8 b9)
        have hD9 := b10 _ _ nDp hD
        have put : ∀ b xs o, H9 b = some (.tup xs) → upd H9 D o b = some (.tup xs) := fun b xs o h => by
          rw [upd_ne (fun z => by rw [z, hD9] at h; cases h)]
          exact h
        refine ⟨_, hD9, ?_, (st9.put hD9 nDp).mono (by push_cast; omega), L ++ [m], by rw [List.length_append, len]; rfl, ?_, fun u hu => ?_⟩
        · rw [List.length_map, len]
          exact Nat.lt_of_lt_of_le he (by decide)
        · rw [upd_same, List.map_append]
          rfl
        · rcases List.mem_append.mp hu with hu | hu
          · exact (each u hu).ext fun b xs z => put _ _ _ (st6.tup b10 z)
          · rw [List.mem_singleton.mp hu]
            exact ⟨so, x, hm.ext (fun b xs z => put _ _ _ z), ⟨so0, by omega⟩, fx⟩
      · obtain ⟨st6, L, len, hD, each⟩ := pv
        obtain ⟨m1, m2, rfl⟩ : ∃ m1 m2, L = [m1, m2] := by
          match L, len with
          | [m1, m2], _ => exact ⟨m1, m2, rfl⟩
        obtain ⟨j1, x, hx, jx, fx⟩ := each m1 List.mem_cons_self
        obtain ⟨j2, y, hy, jy, fy⟩ := each m2 (List.mem_cons_of_mem _ List.mem_cons_self)
        refine ⟨D, _, rfl, SqL.of hD, rfl, _, _, rfl, _, _, rfl, rfl, ?_⟩
        refine ⟨.ref sa, rfl, .ref m1, rfl, .ref m2, rfl, sa, m1, m2, ws, cc, j1, j2, x, y, rfl, st6.tp, st6.ts, st6.simple, sm, hx, hy, jx, jy, fx, fy, fun H7 g7 => ⟨true, rfl, iteF ?_⟩⟩
        have st7 := st6.grow g7
        refine ⟨.ref sa, rfl, .ref m2, rfl, .ref m1, rfl, sa, m2, m1, ws, cc, j2, j1, y, x, rfl, st7.tp, st7.ts, st7.simple, sm, hy.grow g7, hx.grow g7, jy, jx, fy, fx, fun H8 g8 => ⟨true, rfl, iteF ?_⟩⟩
        exact ⟨(st7.grow g8).mono (by push_cast; omega), _, _, _, _, _, _, _, _, rfl⟩
    · obtain ⟨st5, z6, z7, z8, z9, z10, z11, z12, z13, rfl⟩ := pv
      -- member = ..
      refine ⟨.ref p, rfl, .ref sa, rfl, by show 1 ≤ sizeLine; decide, fun l nl => ?_⟩
      have e7 : Same Hx _ := sameUpd (o := .lst [.ref sa]) nl
      have st7 := st5.same e7
      obtain ⟨h7, hp7, ok7⟩ := id st7.hand
      have nlp : l ≠ p := fun z => by
        obtain ⟨h', e, _⟩ := st5.hand
        rw [z, e] at nl
        cases nl
      refine ⟨.ref p, rfl, .int (1 + d), rfl, p, h7, _, 1 + d, rfl, hp7, ok7, by omega, by omega, by omega, fun H8 h8 so b8 hp8 ok8 so0 so1 => ?_⟩
      have st8 := st7.but b8 hp8 ok8
      refine ⟨p, l, sa, h8, _, so, ws, cc, rfl, hp8, ok8, by omega, b8 _ _ nlp upd_same, st8.simple, sm, fun H9 h9 mm x b9 hp9 ok9 hm fx => ?_⟩
      have st9 := st8.but b9 hp9 ok9
      have okm : IsOk H9 ws cc mm := ⟨so, x, hm, ⟨so0, by omega⟩, fx⟩
      -- for number in range(-size, size + 1)
      refine ⟨.int (sizeM (.sum ws cc)), rfl, sizeM (.sum ws cc), rfl, .int (sizeM (.sum ws cc)), rfl, sizeM (.sum ws cc), 1, rfl, rfl, _, _, rfl, ⟨by omega, by omega, by omega, by omega⟩, for_range
        (fun i1 σ Hx => Stay K Tp Ts a p sa ns ws cc (1000 + 10 * i1) Hx ∧ IsOk Hx ws cc mm ∧ ∃ y6 y7 y8 y10 y11 y12 y13, σ = [some (.ref a), some (.int (0 + i)), some (.ref p), some (.int (1 + d)), some (.ref sa), some (.int (sizeM (.sum ws cc))), y6, y7, y8, some (.ref mm), y10, y11, y12, y13])
        ⟨st9.mono (by push_cast <;> omega), okm, _, _, _, _, _, _, _, rfl⟩ (fun i1 σ Hy hi1 pv => ?_) (fun σ Hy pv => ?_)⟩
      rotate_left
      · obtain ⟨st6, _, w6, w7, w8, w10, w11, w12, w13, rfl⟩ := pv
        exact ⟨st6.script, st6.tp, st6.ts, _, _, _, _, _, _, _, _, _, _, _, _, _, rfl⟩
      obtain ⟨st6, okm, w6, w7, w8, w10, w11, w12, w13, rfl⟩ := pv
      have hi2 : i1 < (sizeM (.sum ws cc) + 1 - -sizeM (.sum ws cc)).toNat := hi1
      have i43 : i1 < 43 := by omega
      obtain ⟨k, ek⟩ : ∃ k : Int, k = -sizeM (.sum ws cc) + i1 := ⟨_, rfl⟩
      have k0 : -sizeM (.sum ws cc) ≤ k := by omega
      have k1 : k ≤ sizeM (.sum ws cc) := by omega
      rw [← ek]
      -- lead
      obtain ⟨h6, hp6, ok6⟩ := id st6.hand
      refine ⟨.ref p, rfl, .int (1 + d), rfl, p, h6, _, 1 + d, rfl, hp6, ok6, by omega, by omega, by omega, fun Ha ha sa1 ba hpa oka l0 l1 => ?_⟩
      have sta := st6.but ba hpa oka
      refine ⟨.int k, rfl, .ref sa, rfl, .int k, rfl, sa, ws, cc, k, rfl, sta.simple, by show 3 ≤ sizeLine; decide, fun t1 n1 => ⟨by show 1 ≤ sizeLine; decide, fun t2 n2 => ⟨by show 3 ≤ sizeLine; decide, fun t3 n3 => ?_⟩⟩⟩
      have q1 : Same Ha _ := sameUpd (o := .tup [.bl true, .int k, .bl (saysM (.sum ws cc) k)]) n1
      have q2 : Same _ _ := sameUpd (o := .tup [.ref t1]) n2
      have q3 : Same _ _ := sameUpd (o := .tup [.str "member", .int sa1, .ref t2]) n3
      have qs := q1.trans (q2.trans q3)
      have okl : IsOk _ ws cc t3 := ⟨sa1, ⟨true, k, saysM (.sum ws cc) k⟩, ⟨t2, t1, upd_same, q3 _ _ upd_same, (q2.trans q3) _ _ upd_same⟩, ⟨l0, by omega⟩, k0, k1⟩
      have stb := sta.same qs
      have okb : IsOk _ ws cc mm := okm.ext fun b xs z => qs _ _ (st6.tup ba z)
      generalize upd (upd (upd Ha t1 (.tup [.bl true, .int k, .bl (saysM (.sum ws cc) k)])) t2 (.tup [.ref t1])) t3 (.tup [.str "member", .int sa1, .ref t2]) = Hb at okl stb okb ⊢
      -- follower
      obtain ⟨hb, hpb, okhb⟩ := id stb.hand
      refine ⟨.ref p, rfl, .int (1 + d), rfl, p, hb, _, 1 + d, rfl, hpb, okhb, by omega, by omega, by omega, fun Hc hc sa2 bc hpc okc r0 r1 => ?_⟩
      have stc := stb.but bc hpc okc
      refine ⟨.int k, rfl, .ref p, rfl, p, hc, _, 2, rfl, hpc, okc, by omega, by decide, by decide, fun Hd hd dw bd hpd okd _ _ => ⟨rfl, by show 3 ≤ sizeLine; decide, fun t4 n4 => ⟨by show 1 ≤ sizeLine; decide, fun t5 n5 => ⟨by show 3 ≤ sizeLine; decide, fun t6 n6 => ?_⟩⟩⟩⟩
      have std := stc.but bd hpd okd
      obtain ⟨wd, ewd⟩ : ∃ wd, wd = decide (V.int dw = V.int 0) := ⟨_, rfl⟩
      rw [← ewd] at n5 n6 ⊢
      have q4 : Same Hd _ := sameUpd (o := .tup [.bl false, .int k, .bl wd]) n4
      have q5 : Same _ _ := sameUpd (o := .tup [.ref t4]) n5
      have q6 : Same _ _ := sameUpd (o := .tup [.str "member", .int sa2, .ref t5]) n6
      have qt := q4.trans (q5.trans q6)
      have okf : IsOk _ ws cc t6 := ⟨sa2, ⟨false, k, wd⟩, ⟨t5, t4, upd_same, q6 _ _ upd_same, (q5.trans q6) _ _ upd_same⟩, ⟨r0, by omega⟩, k0, k1⟩
      have ste := std.same qt
      have tups : ∀ b xs, Hb b = some (.tup xs) → _ := fun b xs z => qt _ _ (stc.tup bd (stb.tup bc z))
      have okl := okl.ext tups
      have okb := okb.ext tups
      generalize upd (upd (upd Hd t4 (.tup [.bl false, .int k, .bl wd])) t5 (.tup [.ref t4])) t6 (.tup [.str "member", .int sa2, .ref t5]) = He at okf ste okl okb ⊢
      -- for other in (lead, follower)
      refine ⟨.ref t3, rfl, .ref t6, rfl, by show 2 ≤ sizeLine; decide, fun t7 n7 => ?_⟩
      have q7 : Same He _ := sameUpd (o := .tup [.ref t3, .ref t6]) n7
      have st7' := ste.same q7
      have ex7 : ∀ b xs, He b = some (.tup xs) → upd He t7 (.tup [.ref t3, .ref t6]) b = some (.tup xs) := fun b xs z => q7 _ _ z
      have okf := okf.ext ex7
      have okl := okl.ext ex7
      have okb := okb.ext ex7
      have ht7 : upd He t7 (.tup [.ref t3, .ref t6]) t7 = some (.tup [.ref t3, .ref t6]) := upd_same
      generalize upd He t7 (.tup [.ref t3, .ref t6]) = Hf at st7' okf okl okb ht7 ⊢
      refine ⟨t7, rfl, ⟨_, SqT.of ht7⟩, for_tup (xs := [.ref t3, .ref t6])
        (fun e σ Hx => Stay K Tp Ts a p sa ns ws cc (1000 + 10 * i1 + 10) Hx ∧ IsOk Hx ws cc mm ∧ IsOk Hx ws cc t3 ∧ IsOk Hx ws cc t6 ∧ Hx t7 = some (.tup [.ref t3, .ref t6]) ∧ ∃ y6 y7 y8 y10 y11 y12 y13, σ = [some (.ref a), some (.int (0 + i)), some (.ref p), some (.int (1 + d)), some (.ref sa), some (.int (sizeM (.sum ws cc))), y6, y7, y8, some (.ref mm), y10, y11, y12, y13])
        ⟨st7'.mono (by omega), okb, okl, okf, ht7, _, _, _, _, _, _, _, rfl⟩ (fun e σ Hx _ pv => SqT.of pv.2.2.2.2.1) (fun e v σ Hx hv pv => ?_) (fun σ Hx pv => ?_)⟩
      · obtain ⟨st8, okm8, ok3, ok6', ht8, v6, v7, v8, v10, v11, v12, v13, rfl⟩ := pv
        obtain ⟨o, rfl, oko⟩ : ∃ o, v = .ref o ∧ IsOk Hx ws cc o := by
          have cs : e = 0 ∨ e = 1 := by
            have lt := (List.getElem?_eq_some_iff.mp hv).1
            have lt' : e < 2 := lt
            omega
          rcases cs with rfl | rfl
          · cases (Option.some.inj hv); exact ⟨_, rfl, ok3⟩
          · cases (Option.some.inj hv); exact ⟨_, rfl, ok6'⟩
        obtain ⟨j1, x, hx, jx, fx⟩ := id okm8
        obtain ⟨j2, y, hy, jy, fy⟩ := oko
        refine ⟨.ref sa, rfl, .ref mm, rfl, .ref o, rfl, sa, mm, o, ws, cc, j1, j2, x, y, rfl, st8.tp, st8.ts, st8.simple, sm, hx, hy, jx, jy, fx, fy, fun H7 g7 => ⟨true, rfl, iteF ?_⟩⟩
        have st9 := st8.grow g7
        refine ⟨.ref sa, rfl, .ref o, rfl, .ref mm, rfl, sa, o, mm, ws, cc, j2, j1, y, x, rfl, st9.tp, st9.ts, st9.simple, sm, hy.grow g7, hx.grow g7, jy, jx, fy, fx, fun H8 g8 => ⟨true, rfl, iteF ?_⟩⟩
        have g := g7.trans g8
        exact ⟨st8.grow g, okm8.grow g, ok3.grow g, ok6'.grow g, g.tup ht8, _, _, _, _, _, _, _, rfl⟩
      · obtain ⟨st8, okm8, ok3, ok6', ht8, v6, v7, v8, v10, v11, v12, v13, rfl⟩ := pv
        exact ⟨st8.mono (by push_cast; omega), okm8, _, _, _, _, _, _, _, rfl⟩
end
end K17

set_option Elab.async false
set_option linter.all false
set_option maxRecDepth 100000
set_option maxHeartbeats 4000000
namespace K17
open PySem PySem.Spec PyProof.Rows L2 Sa
/-- what the top has written of a def -/
structure Wr (K : PySem.W.Frag) (x : Str) (st : Stmt) (f : Addr) (fd : FuncData) : Prop where
  ns : PySem.W.nsIn K mainGlobals x = some (some (.ref f))
  fn : Fun K x x st f fd
section
variable {l : PySem.W.OpenLaw} {w : World} {K : PySem.W.Frag} {h : Heap} {mg : Str → Option Value}
theorem Wr.stands {x : Str} {st : Stmt} {f : Addr} {fd : FuncData} {ps : List Str} (W : Wr K x st f fd) (X : K.In h) (G : h.Ns mainGlobals mg)
    (hb : ∀ (kV doc pm : Value) (an : Option Addr) (cdv ct : Value) (us : List Value), us.length = ps.length → bindArgs (PySem.W.fnOf x x (defArgs st) (defBody st) (defScope st) .none kV doc pm an cdv ct) ⟨us, []⟩ = pure (ps.zip us)) :
    Stands K mg x st ps := ⟨f, fd, W.fn, PySem.W.mg_of X G W.ns, W.fn.binds hb⟩
/-- a def's code table, empty as the law begins -/
theorem tab_of {q : Program} {x : Str} {st : Stmt} {f c Tp : Addr} {fd : FuncData} {eC : Value} {dC : Option Addr} {vC : Array Value} {sC : Array (Option Value)} (X : K.In h) (G : h.Ns mainGlobals mg) (tabs : TabsOf q mg h) (W : Wr K x st f fd) (hc : fd.code = .ref c)
    (lC : K.lookup c = some ⟨eC, dC, .fields vC, sC⟩) (v11 : vC[11]? = some (.ref Tp)) (hrec : ((recsOf q).any fun e => e.name == x) = true) : h.get? Tp = some noTab ∧ PySem.W.CodeHd h c Tp := by
  obtain ⟨dL, hm, hn1⟩ := List.any_eq_true.mp hrec
  have hn2 : dL.name = x := beq_iff_eq.mp hn1
  obtain ⟨a', o', fd', c', P', h1, h2, h3, h4, h5, h6⟩ := tabs dL hm
  rw [hn2, PySem.W.mg_of X G W.ns] at h1
  cases h1
  obtain ⟨oc, od, kV, doc, pm, an, cdv, ct, osl, rfl, lk, hcd⟩ := W.fn.ex
  rw [X _ _ lk] at h2
  cases h2
  cases h3
  rw [hc] at h4
  cases h4
  have h7 := PySem.W.CodeHd.of h5 h6
  obtain ⟨⟨o1, v1, e1, _, e3, e4⟩, hP⟩ := h6
  rw [X _ _ lC] at e1
  cases e1
  cases e3
  rw [v11] at e4
  cases e4
  exact ⟨hP, h7⟩
theorem all_mk {q : Program} {fa f1 f2 f4 f5 f6 f8 f9 f10 f11 f13 f16 f18 f20 f22 f23 f24 f25 f26 f27 f28 f29 f30 f32 f33 f35 f36 c18 T18 c8 T8 : Addr} {fd1 fd2 fd4 fd5 fd6 fd8 fd9 fd10 fd11 fd13 fd16 fd18 fd20 fd22 fd23 fd24 fd25 fd26 fd27 fd28 fd29 fd30 fd32 fd33 fd35 fd36 : FuncData}
    (X : K.In h) (G : h.Ns mainGlobals mg) (hfa : mg "law" = some (.ref fa)) (tabs : TabsOf q mg h) (T : Bn mg)
    (w1 : Wr K "is_tuple_of" s_is_tuple_of f1 fd1)
    (w2 : Wr K "is_headed" s_is_headed f2 fd2)
    (w4 : Wr K "is_joined" s_is_joined f4 fd4)
    (w5 : Wr K "all_simples" s_all_simples f5 fd5)
    (w6 : Wr K "simples" s_simples f6 fd6)
    (w8 : Wr K "size_of" s_size_of f8 fd8) (hc8 : fd8.code = .ref c8)
    (w9 : Wr K "says" s_says f9 fd9)
    (w10 : Wr K "left_by" s_left_by f10 fd10)
    (w11 : Wr K "cut" s_cut f11 fd11)
    (w13 : Wr K "is_note" s_is_note f13 fd13)
    (w16 : Wr K "members_met" s_members_met f16 fd16)
    (w18 : Wr K "meet_member" s_meet_member f18 fd18) (hc18 : fd18.code = .ref c18)
    (w20 : Wr K "meet" s_meet f20 fd20)
    (w22 : Wr K "_law_hand" s__law_hand f22 fd22)
    (w23 : Wr K "_law_take" s__law_take f23 fd23)
    (w24 : Wr K "_law_of" s__law_of f24 fd24)
    (w25 : Wr K "_law_worth" s__law_worth f25 fd25)
    (w26 : Wr K "_law_sum" s__law_sum f26 fd26)
    (w27 : Wr K "_law_size" s__law_size f27 fd27)
    (w28 : Wr K "_law_says" s__law_says f28 fd28)
    (w29 : Wr K "_law_poured" s__law_poured f29 fd29)
    (w30 : Wr K "_law_pair" s__law_pair f30 fd30)
    (w32 : Wr K "_law_met" s__law_met f32 fd32)
    (w33 : Wr K "_law_member" s__law_member f33 fd33)
    (w35 : Wr K "_law_is_right" s__law_is_right f35 fd35)
    (w36 : Wr K "law" s_law f36 fd36)
    {eC18 : Value} {dC18 : Option Addr} {vC18 : Array Value} {sC18 : Array (Option Value)} (lC18 : K.lookup c18 = some ⟨eC18, dC18, .fields vC18, sC18⟩) (v18 : vC18[11]? = some (.ref T18)) (nT18 : K.lookup T18 = none) (rec18 : ((recsOf q).any fun e => e.name == ("meet_member" : Str)) = true)
    {eC8 : Value} {dC8 : Option Addr} {vC8 : Array Value} {sC8 : Array (Option Value)} (lC8 : K.lookup c8 = some ⟨eC8, dC8, .fields vC8, sC8⟩) (v8 : vC8[11]? = some (.ref T8)) (nT8 : K.lookup T8 = none) (rec8 : ((recsOf q).any fun e => e.name == ("size_of" : Str)) = true) :
    LawSa l w K 9 63 "_law_script" mg fa h := by
  have e := hfa.symm.trans (PySem.W.mg_of X G w36.ns)
  cases e
  obtain ⟨hT18, hd18⟩ := tab_of X G tabs w18 hc18 lC18 v18 rec18
  obtain ⟨hT8, hd8⟩ := tab_of X G tabs w8 hc8 lC8 v8 rec8
  refine ⟨fd36, [(c18, T18), (c8, T8)], sp_law K T18 T8, fun p hp => ?_, fun p hp => ?_, fun p hp => ?_, fun s u => ?_, fun H a ns hl _ hH hS => ⟨a, ns, rfl, hS, hl, ⟨#[], hH _ List.mem_cons_self, trivial⟩, ⟨#[], hH _ (List.mem_cons_of_mem _ List.mem_cons_self), trivial⟩, fun _ => rfl⟩, fun base KB GB TB => ?_⟩
  · simp only [List.mem_cons, List.not_mem_nil, or_false] at hp
    rcases hp with rfl | rfl
    · exact hT18
    · exact hT8
  · simp only [List.mem_cons, List.not_mem_nil, or_false] at hp
    rcases hp with rfl | rfl
    · exact nT18
    · exact nT8
  · simp only [List.mem_cons, List.not_mem_nil, or_false] at hp
    rcases hp with rfl | rfl
    · exact hd18
    · exact hd8
  · obtain ⟨oc, od, kV, doc, pm, an, cdv, ct, osl, rfl, lk, hcd⟩ := w36.fn.ex
    exact .of_eq rfl
  · have TB18 := TB _ List.mem_cons_self
    have TB8 := TB _ (List.mem_cons_of_mem _ List.mem_cons_self)
    have d1 : Df l.prog w K mg base 1 _ _ _ := ok_is_tuple_of T (w1.stands X G fun _ _ _ _ _ _ us hl => match us, hl with | [_, _], _ => rfl)
    have d2 : Df l.prog w K mg base 2 _ _ _ := ok_is_headed T (w2.stands X G fun _ _ _ _ _ _ us hl => match us, hl with | [_, _, _], _ => rfl) d1
    have d4 : Df l.prog w K mg base 3 _ _ _ := ok_is_joined (w4.stands X G fun _ _ _ _ _ _ us hl => match us, hl with | [_], _ => rfl) d2
    have d5 : Df l.prog w K mg base 4 _ _ _ := ok_all_simples (w5.stands X G fun _ _ _ _ _ _ us hl => match us, hl with | [_], _ => rfl) d4
    have d6 : Df l.prog w K mg base 5 _ _ _ := ok_simples T (w6.stands X G fun _ _ _ _ _ _ us hl => match us, hl with | [_], _ => rfl) d5
    have d8 : Df l.prog w K mg base 1 _ _ _ := ok_size_of T w8.fn (PySem.W.mg_of X G w8.ns) (w8.fn.binds fun _ _ _ _ _ _ us hl => match us, hl with | [_], _ => rfl) hc8 TB8
    have d9 : Df l.prog w K mg base 1 _ _ _ := ok_says (w9.stands X G fun _ _ _ _ _ _ us hl => match us, hl with | [_, _], _ => rfl)
    have d10 : Df l.prog w K mg base 1 _ _ _ := ok_left_by (w10.stands X G fun _ _ _ _ _ _ us hl => match us, hl with | [_, _], _ => rfl)
    have d11 : Df l.prog w K mg base 2 _ _ _ := ok_cut T (w11.stands X G fun _ _ _ _ _ _ us hl => match us, hl with | [_, _], _ => rfl) d10 d8
    have d13 : Df l.prog w K mg base 1 _ _ _ := ok_is_note (w13.stands X G fun _ _ _ _ _ _ us hl => match us, hl with | [_], _ => rfl)
    have d16 : Df l.prog w K mg base 3 _ _ _ := ok_members_met (w16.stands X G fun _ _ _ _ _ _ us hl => match us, hl with | [_, _, _], _ => rfl) d11 d9
    have d18 : Df l.prog w K mg base 6 _ _ _ := ok_meet_member T w18.fn (PySem.W.mg_of X G w18.ns) (w18.fn.binds fun _ _ _ _ _ _ us hl => match us, hl with | [_, _, _], _ => rfl) hc18 TB18 d6 d16
    have d20 : Df l.prog w K mg base 7 _ _ _ := ok_meet (w20.stands X G fun _ _ _ _ _ _ us hl => match us, hl with | [_, _, _], _ => rfl) d13 d18
    have d22 : Df l.prog w K mg base 1 _ _ _ := ok__law_hand T (w22.stands X G fun _ _ _ _ _ _ us hl => match us, hl with | [_, _], _ => rfl)
    have d23 : Df l.prog w K mg base 1 _ _ _ := ok__law_take (w23.stands X G fun _ _ _ _ _ _ us hl => match us, hl with | [_, _], _ => rfl)
    have d24 : Df l.prog w K mg base 2 _ _ _ := ok__law_of T (w24.stands X G fun _ _ _ _ _ _ us hl => match us, hl with | [_, _], _ => rfl) d23
    have d25 : Df l.prog w K mg base 3 _ _ _ := ok__law_worth (w25.stands X G fun _ _ _ _ _ _ us hl => match us, hl with | [_], _ => rfl) d23 d24
    have d26 : Df l.prog w K mg base 4 _ _ _ := ok__law_sum T (w26.stands X G fun _ _ _ _ _ _ us hl => match us, hl with | [_, _], _ => rfl) d23 d24 d25
    have d27 : Df l.prog w K mg base 1 _ _ _ := ok__law_size T (w27.stands X G fun _ _ _ _ _ _ us hl => match us, hl with | [_], _ => rfl)
    have d28 : Df l.prog w K mg base 1 _ _ _ := ok__law_says (w28.stands X G fun _ _ _ _ _ _ us hl => match us, hl with | [_, _], _ => rfl)
    have d29 : Df l.prog w K mg base 2 _ _ _ := ok__law_poured (w29.stands X G fun _ _ _ _ _ _ us hl => match us, hl with | [_, _, _], _ => rfl) d27
    have d30 : Df l.prog w K mg base 3 _ _ _ := ok__law_pair (w30.stands X G fun _ _ _ _ _ _ us hl => match us, hl with | [_, _, _], _ => rfl) d29 d28
    have d32 : Df l.prog w K mg base 4 _ _ _ := ok__law_met T (w32.stands X G fun _ _ _ _ _ _ us hl => match us, hl with | [_, _, _], _ => rfl) d30
    have d33 : Df l.prog w K mg base 3 _ _ _ := ok__law_member T (w33.stands X G fun _ _ _ _ _ _ us hl => match us, hl with | [_, _, _], _ => rfl) d23 d24 d27 d28
    have d35 : Df l.prog w K mg base 8 _ _ _ := ok__law_is_right T (w35.stands X G fun _ _ _ _ _ _ us hl => match us, hl with | [_, _, _], _ => rfl) d32 d20
    exact ok_law T w36.fn d22 d23 d26 d27 d28 d33 d35
end
end K17

open PySem PySem.W PyProof.Rows
set_option Elab.async false
set_option maxRecDepth 100000 in
set_option maxHeartbeats 0 in
theorem PySem.Challenge.cw_strangersay_k17_two_members_of_sums_holds : PySem.Challenge.rw_strangersay_k17_two_members_of_sums.Holds := by
  w_on; o_law; k_head; (case hw => w_witness2)
  k_fill
  refine Sa.walk_sa (l := PySem.Challenge.rw_strangersay_k17_two_members_of_sums) (n := 63) (k := 9) (x := "_law_script") rfl (by decide) rfl ⟨rfl, by decide, by decide⟩ (fun w h Y => PySem.W.kIn_of Y) ?F
  case F =>
    intro w mg fa h Y KX G hmg tb
    refine' K17.all_mk KX G hmg tb ⟨PySem.W.mg_none_of KX G ?z1, PySem.W.mg_none_of KX G ?z2, PySem.W.mg_none_of KX G ?z3, PySem.W.mg_none_of KX G ?z4, PySem.W.mg_none_of KX G ?z5, PySem.W.mg_none_of KX G ?z6, PySem.W.mg_none_of KX G ?z7, PySem.W.mg_none_of KX G ?z8, PySem.W.mg_none_of KX G ?z9, PySem.W.mg_none_of KX G ?z10, PySem.W.mg_none_of KX G ?z11, PySem.W.mg_none_of KX G ?z12, PySem.W.mg_none_of KX G ?z13, PySem.W.mg_none_of KX G ?z14⟩ ⟨?a1, L2.fun_mk ?l1 ?c1 ?k1⟩ ⟨?a2, L2.fun_mk ?l2 ?c2 ?k2⟩ ⟨?a4, L2.fun_mk ?l4 ?c4 ?k4⟩ ⟨?a5, L2.fun_mk ?l5 ?c5 ?k5⟩ ⟨?a6, L2.fun_mk ?l6 ?c6 ?k6⟩ ⟨?a8, L2.fun_mk ?l8 ?c8 ?k8⟩ ?code8 ⟨?a9, L2.fun_mk ?l9 ?c9 ?k9⟩ ⟨?a10, L2.fun_mk ?l10 ?c10 ?k10⟩ ⟨?a11, L2.fun_mk ?l11 ?c11 ?k11⟩ ⟨?a13, L2.fun_mk ?l13 ?c13 ?k13⟩ ⟨?a16, L2.fun_mk ?l16 ?c16 ?k16⟩ ⟨?a18, L2.fun_mk ?l18 ?c18 ?k18⟩ ?code18 ⟨?a20, L2.fun_mk ?l20 ?c20 ?k20⟩ ⟨?a22, L2.fun_mk ?l22 ?c22 ?k22⟩ ⟨?a23, L2.fun_mk ?l23 ?c23 ?k23⟩ ⟨?a24, L2.fun_mk ?l24 ?c24 ?k24⟩ ⟨?a25, L2.fun_mk ?l25 ?c25 ?k25⟩ ⟨?a26, L2.fun_mk ?l26 ?c26 ?k26⟩ ⟨?a27, L2.fun_mk ?l27 ?c27 ?k27⟩ ⟨?a28, L2.fun_mk ?l28 ?c28 ?k28⟩ ⟨?a29, L2.fun_mk ?l29 ?c29 ?k29⟩ ⟨?a30, L2.fun_mk ?l30 ?c30 ?k30⟩ ⟨?a32, L2.fun_mk ?l32 ?c32 ?k32⟩ ⟨?a33, L2.fun_mk ?l33 ?c33 ?k33⟩ ⟨?a35, L2.fun_mk ?l35 ?c35 ?k35⟩ ⟨?a36, L2.fun_mk ?l36 ?c36 ?k36⟩ ?lC18 ?v18 ?nT18 ?rec18 ?lC8 ?v8 ?nT8 ?rec8
    (case a1 => k_is); (case l1 => k_is); (case c1 => k_is); (case k1 => k_is)
    (case a2 => k_is); (case l2 => k_is); (case c2 => k_is); (case k2 => k_is)
    (case a4 => k_is); (case l4 => k_is); (case c4 => k_is); (case k4 => k_is)
    (case a5 => k_is); (case l5 => k_is); (case c5 => k_is); (case k5 => k_is)
    (case a6 => k_is); (case l6 => k_is); (case c6 => k_is); (case k6 => k_is)
    (case a8 => k_is); (case l8 => k_is); (case c8 => k_is); (case k8 => k_is)
    (case a9 => k_is); (case l9 => k_is); (case c9 => k_is); (case k9 => k_is)
    (case a10 => k_is); (case l10 => k_is); (case c10 => k_is); (case k10 => k_is)
    (case a11 => k_is); (case l11 => k_is); (case c11 => k_is); (case k11 => k_is)
    (case a13 => k_is); (case l13 => k_is); (case c13 => k_is); (case k13 => k_is)
    (case a16 => k_is); (case l16 => k_is); (case c16 => k_is); (case k16 => k_is)
    (case a18 => k_is); (case l18 => k_is); (case c18 => k_is); (case k18 => k_is)
    (case a20 => k_is); (case l20 => k_is); (case c20 => k_is); (case k20 => k_is)
    (case a22 => k_is); (case l22 => k_is); (case c22 => k_is); (case k22 => k_is)
    (case a23 => k_is); (case l23 => k_is); (case c23 => k_is); (case k23 => k_is)
    (case a24 => k_is); (case l24 => k_is); (case c24 => k_is); (case k24 => k_is)
    (case a25 => k_is); (case l25 => k_is); (case c25 => k_is); (case k25 => k_is)
    (case a26 => k_is); (case l26 => k_is); (case c26 => k_is); (case k26 => k_is)
    (case a27 => k_is); (case l27 => k_is); (case c27 => k_is); (case k27 => k_is)
    (case a28 => k_is); (case l28 => k_is); (case c28 => k_is); (case k28 => k_is)
    (case a29 => k_is); (case l29 => k_is); (case c29 => k_is); (case k29 => k_is)
    (case a30 => k_is); (case l30 => k_is); (case c30 => k_is); (case k30 => k_is)
    (case a32 => k_is); (case l32 => k_is); (case c32 => k_is); (case k32 => k_is)
    (case a33 => k_is); (case l33 => k_is); (case c33 => k_is); (case k33 => k_is)
    (case a35 => k_is); (case l35 => k_is); (case c35 => k_is); (case k35 => k_is)
    (case a36 => k_is); (case l36 => k_is); (case c36 => k_is); (case k36 => k_is)
    (case z1 => k_is); (case z2 => k_is); (case z3 => k_is); (case z4 => k_is); (case z5 => k_is); (case z6 => k_is); (case z7 => k_is); (case z8 => k_is); (case z9 => k_is); (case z10 => k_is); (case z11 => k_is); (case z12 => k_is); (case z13 => k_is); (case z14 => k_is)
    (case code18 => rfl); (case lC18 => k_is); (case v18 => rfl); (case nT18 => rfl); (case rec18 => rfl)
    (case code8 => rfl); (case lC8 => k_is); (case v8 => rfl); (case nT8 => rfl); (case rec8 => rfl)
