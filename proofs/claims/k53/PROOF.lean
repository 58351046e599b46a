import PyProof.Rows.All
import Wide.All
import OpenK.AllK
import Wide.FinOn
import HandS.TupSets
import KE.KeyNested
import HandS.Base
import HandS.Call
import HandS.List
import HandS.Ends
import HandS.Words
import PyProof.ReprRoads
import KE.KDictKeyed
import KE.SortData
import HandS.Dict
import KE.LtData
import KE.SortCalls
import PyProof.P3Eq
import KE.DataEq
import HandS.DictTup
import KE.KDictSum
import KE.KDictCopyH
import HandS.ExcValue
import KE.KDictList
import PyProof.Rows.TupTab
import PyProof.DictRoadsH
import HandS.TupLen
import PyProof.ListCopy
import HandS.Comp
import HandS.AnyAll
import HandS.GenOver
import HandS.Lambda
import PyProof.TupleOfGen
import PyProof.GenCompD
import HandS.GenBody
import PyProof.MinMaxWalk
import PyProof.Rows.MinMaxGenD
import HandS.EndTab
import HandS.ForMost
import HandS.Walk
import HandS.Zip
import HandS.Iter
import KE.GoesEnum
import KE.GoesNew
import HandS.Style
import HandS.TupAny
import HandS.TupLe
import HandS.IsInst
import HandS.Wide
import HandS.TupMul
import HandS.TryOnly
import HandS.Deep
import HandS.RaiseMore
import PyProof.SumAny
import PyProof.Rows.SumGenD
import HandS.DictComp
import KE.KDictWalk
import KE.KIndexOf
import PyProof.DictMoreH
import HandS.Conv
import KE.DataFind
import HandS.More
import HandS.SortInts
import PyProof.SliceList
import HandS.MakeKwOnly
import KE.KDictZip
import PyProof.ListNew
import PyProof.SetRoads
import KE.KDictItemsList
import HandS.ExcCtx
import HandS.Star
import PyProof.Rows.RegFStrParts
import PyProof.FitsInt
import PyProof.ReprLen
import KE.RegKTryMore
import PySem.Challenge.RW_strangersay_k53_holds_of_made_tables
set_option Elab.async false
set_option linter.all false
set_option maxRecDepth 100000
set_option maxHeartbeats 1600000
namespace Sa
open PySem PySem.Spec PyProof.Rows L2
/-- the tuple at a is this key, not too deep -/
abbrev KeyAt (h : Heap) (k : NestedKey) (a : Addr) : Prop := NestedIs h k (.ref a) /\ k.depth <= 8
/-- asked in s, m answers b and leaves all as it is -/
def Says (P : Program) (w : World) (A : Around) (s : Shared) (m : Sem Bool) (b : Bool) : Prop := ∀ (Q : Bool -> Shared -> Prop) (E : Value -> Shared -> Prop), Q b s -> wpAny (model P w) A m Q E s
theorem each_key {h : Heap} : ∀ (ks : List NestedKey) (vs : List Value), NestedAll h ks vs -> ∀ u ∈ vs, ∃ k, NestedIs h k u /\ k.depth <= NestedKey.depthAll ks
  | [], _, all, u, hu => by cases all; cases hu
  | k :: ks, _, all, u, hu => by
    cases all with
    | cons one more =>
      unfold NestedKey.depthAll
      rcases List.mem_cons.mp hu with e | hu
      · exact ⟨k, by rw [e]; exact one, by omega⟩
      · obtain ⟨k', is', le⟩ := each_key ks _ more u hu
        exact ⟨k', is', by omega⟩
section
variable {P : Program} {w : World} {A : Around} {s : Shared}
/-- a loop whose turns leave all as it is -/
theorem turns_idle {α β : Type} {f : α -> β -> Sem (ForInStep β)} {b : β} {Q : β -> Shared -> Prop} {E : Value -> Shared -> Prop} :
    ∀ (l : List α), (∀ x ∈ l, ∀ R : ForInStep β -> Shared -> Prop, R (.yield b) s -> wpAny (model P w) A (f x b) R E s) -> Q b s -> wpAny (model P w) A (forIn l b f) Q E s
  | [], _, q => by rw [List.forIn_nil]; exact wpAny_pure q
  | x :: l, turn, q => by
    rw [List.forIn_cons]
    exact wpAny_bind (turn x List.mem_cons_self _ (turns_idle l (fun y hy => turn y (List.mem_cons_of_mem _ hy)) q))
/-- no key is of a class that the text makes -/
theorem no_class : ∀ (n : Nat) (k : NestedKey) (v : Value), NestedIs s.heap k v -> k.depth <= n -> Says P w A s (ofAClassStatement n v) false := by
  intro n
  induction n with
  | zero =>
    intro k v is' le Q E q
    cases is' with
    | tup => unfold NestedKey.depth at le; omega
    | _ => exact wpAny_pure q
  | succ n ih =>
    intro k v is' le Q E q
    cases is' with
    | @tup a o vs m ks at' cl dt all =>
      have le' : NestedKey.depthAll ks <= n := by unfold NestedKey.depth at le; omega
      rw [ofAClassStatement]
      refine wpAny_bind (wpAny_typeOf ⟨o, at', cl⟩ ?_)
      dsimp only
      rw [if_pos (by decide)]
      refine wpAny_bind (wpAny_pure ?_)
      rw [if_neg (by decide)]
      refine wpAny_bind (wpAny_seqItems at' dt ?_)
      dsimp only
      refine wpAny_bind ?_
      show wpAny _ _ (forIn vs _ _) _ _ s
      rw [<- Array.forIn_toList]
      refine turns_idle _ (fun u hu R r => ?_) (wpAny_pure q)
      obtain ⟨k', is', le''⟩ := each_key ks _ all u hu
      exact wpAny_bind (ih k' u is' (by omega) _ _ (wpAny_pure r))
    | _ => exact wpAny_pure q
/-- looking for a key among keys shows nothing -/
theorem unseen {x : Addr} {k : NestedKey} {ys : List Value} (hx : KeyAt s.heap k x) (all : ∀ y ∈ ys, ∃ c k', y = Value.ref c /\ KeyAt s.heap k' c) : Says P w A s (searchCouldBeSeen (.ref x) ys) false := by
  intro Q E q
  unfold searchCouldBeSeen
  refine wpAny_bind (turns_idle _ (fun y hy R r => ?_) (wpAny_pure q))
  obtain ⟨c, k', rfl, hc⟩ := all y hy
  dsimp only
  split
  · exact wpAny_pure r
  · refine wpAny_bind (quiet_key k _ 8 s hx.1 hx.2 _ _ _ ?_)
    refine wpAny_bind (quiet_key k' _ 8 s hc.1 hc.2 _ _ _ ?_)
    refine wpAny_bind (no_class 8 k _ hx.1 hx.2 _ _ ?_)
    exact wpAny_bind (no_class 8 k' _ hc.1 hc.2 _ _ (wpAny_pure r))
end
end Sa
namespace Sa
open PySem PySem.Spec PyProof.Rows L2
abbrev Keys := List (Addr × NestedKey)
/-- an entry of a set -/
abbrev entOf (w : World) (p : Addr × NestedKey) : Int × Value := (p.2.hash w, .ref p.1)
/-- the set at a has just L in its table t, in the table's order -/
structure Bears (w : World) (h : Heap) (a : Addr) (L : Keys) (ep : Nat) (t : SetTable) : Prop where
  obj : ∃ o, h.get? a = some o /\ o.ExactSet /\ o.data = .set (L.map (entOf w)).toArray ep t
  tab : TabOk t (L.map fun p => p.2.hash w)
  led : w.params.followText "set-order" = true ∨ t.led = true
  wide : L.length * 5 < t.mask * 3
/-- the c-th stand of the way of a hash -/
abbrev standAt' (t : SetTable) (g : Int) (c : Nat) : SetTable.Probe := nth t.mask (runAt t.mask (SetTable.bits g % (t.mask + 1)) (SetTable.bits g)) c
/-- what stands in the c-th slot of the way of g -/
def Met (t : SetTable) (L : Keys) (g : Int) (c : Nat) (p : Addr × NestedKey) : Prop := ∃ i : Nat, t.place.toList[i]? = some (way t.mask g c) /\ L[i]? = some p
theorem Met.one {t : SetTable} {L : Keys} {g : Int} {c i : Nat} {p q : Addr × NestedKey} (r : Ris t.place.toList) (m : Met t L g c p) (e1 : t.place.toList[i]? = some (way t.mask g c)) (e2 : L[i]? = some q) : p = q := by
  obtain ⟨j, f1, f2⟩ := m
  have a1 := slot_live r f1
  rw [slot_live r e1] at a1
  cases a1
  exact Option.some.inj (f2.symm.trans e2)
/-- no dummy is on the way -/
theorem way_clean (m : Nat) (p : SetTable.Probe) (h : p.dummy = none) (c : Nat) : (nth m p c).dummy = none := by
  induction c with
  | zero => exact h
  | succ c ih =>
    rw [nth_succ]
    unfold adv
    split <;> exact ih
section
variable {w : World} {h : Heap} {a : Addr} {L : Keys} {ep : Nat} {t : SetTable}
theorem Bears.many (B : Bears w h a L ep t) : t.place.size = L.length := by simpa using B.tab.sz
theorem Bears.fits (B : Bears w h a L ep t) : t.fits (L.map (entOf w)).toArray.size = true := by
  have := B.many
  have := B.wide
  simp [SetTable.fits, SetTable.fill, B.tab.dm]
  omega
theorem Bears.odd (B : Bears w h a L ep t) : t.gaveWay = false := by simp [SetTable.gaveWay, mask_odd B.tab.mok]
theorem ent_at {i : Nat} {p : Addr × NestedKey} (e : L[i]? = some p) : (L.map (entOf w)).toArray[i]? = some (entOf w p) := by simp [e]
/-- one look along the way: the next thing with this hash, or the free slot -/
theorem next_of (B : Bears w h a L ep t) (g : Int) {K c : Nat} (le : c <= K) (fuel : K < 10 * SetTable.turns t.mask) (free : way t.mask g K ∉ t.place.toList) (full : ∀ c, c < K -> way t.mask g c ∈ t.place.toList) :
    (∃ (d i : Nat) (p : Addr × NestedKey), c <= d /\ d < K /\ t.place.toList[i]? = some (way t.mask g d) /\ L[i]? = some p /\ (∀ c' p', c <= c' -> c' < d -> Met t L g c' p' -> p'.2.hash w ≠ g) /\
      t.probe (fun i => ((L.map (entOf w)).toArray[i]?.map (·.1)).getD 0) g (standAt' t g c) = some (.candidate (way t.mask g d) i (standAt' t g (d + 1)))) ∨
    ((∀ c' p', c <= c' -> c' < K -> Met t L g c' p' -> p'.2.hash w ≠ g) /\ t.probe (fun i => ((L.map (entOf w)).toArray[i]?.map (·.1)).getD 0) g (standAt' t g c) = some (.empty (way t.mask g K) none)) := by
  have shift : ∀ n, nth t.mask (standAt' t g c) n = standAt' t g (c + n) := fun n => (nth_add t.mask c _ n).symm
  have shiftJ : ∀ n, (nth t.mask (standAt' t g c) n).j = way t.mask g (c + n) := fun n => by rw [shift]
  have passed : ∀ (N : Nat), (∀ n i : Nat, n < N -> t.place.toList[i]? = some (nth t.mask (standAt' t g c) n).j -> ((L.map (entOf w)).toArray[i]?.map (·.1)).getD 0 ≠ g) -> ∀ c' p', c <= c' -> c' < c + N -> Met t L g c' p' -> p'.2.hash w ≠ g := by
    intro N no c' p' l1 l2 ⟨i, e1, e2⟩
    have z := no (c' - c) i (by omega) (by rw [shiftJ, Nat.add_sub_cancel' l1]; exact e1)
    rw [ent_at e2] at z
    exact z
  have ans := go_spec t B.tab.ris B.tab.dm (fun i => ((L.map (entOf w)).toArray[i]?.map (·.1)).getD 0) g (10 * SetTable.turns t.mask) (K - c) (standAt' t g c) (way_clean _ _ rfl _) (by omega)
    (fun n hn => by rw [shiftJ]; exact full _ (by omega)) (by rw [shiftJ, Nat.add_sub_cancel' le]; exact free)
  rcases ans with ⟨n, i, lt, slot, _, before, probe⟩ | ⟨before, probe⟩
  · rw [shiftJ] at slot probe
    rw [shift] at probe
    have il : i < L.length := by
      have := (List.getElem?_eq_some_iff.mp slot).1
      rw [Array.length_toList, B.many] at this
      exact this
    exact .inl ⟨c + n, i, L[i], by omega, by omega, slot, List.getElem?_eq_getElem il, passed n before, probe⟩
  · rw [shiftJ, Nat.add_sub_cancel' le] at probe
    refine .inr ⟨fun c' p' l1 l2 => passed (K - c) before c' p' l1 (by omega), probe⟩
end
section
variable {P : Program} {w : World} {A : Around} {E : Value -> Shared -> Prop} {s : Shared} {a x : Addr} {L : Keys} {ep : Nat} {t : SetTable} {k : NestedKey} {Q : SetFound -> Shared -> Prop}
/-- the search from the c-th slot of the way on, where nothing ahead of it is the key -/
theorem search_on (B : Bears w s.heap a L ep t) (keys : ∀ p ∈ L, KeyAt s.heap p.2 p.1) (hx : KeyAt s.heap k x) (room : A.units + 8 < cLine) {K : Nat} (fuel : K < 10 * SetTable.turns t.mask) (free : way t.mask (k.hash w) K ∉ t.place.toList)
    (full : ∀ c, c < K -> way t.mask (k.hash w) c ∈ t.place.toList) (isIn : k ∈ L.map (·.2) -> Q (.there none) s) (isOut : (∀ c p, c < K -> Met t L (k.hash w) c p -> p.2 ≠ k) -> Q (.free (way t.mask (k.hash w) K) false) s) :
    ∀ (n c f : Nat) (stand : Option SetTable.Probe), c + n = K -> n < f -> stand.getD (t.probeStart (k.hash w)) = standAt' t (k.hash w) c -> (∀ c' p, c' < c -> Met t L (k.hash w) c' p -> p.2 ≠ k) ->
      wpAny (model P w) A (setSearchFrom a (.ref x) (k.hash w) true f stand) Q E s := by
  intro n
  induction n using Nat.strongRecOn with
  | ind n ih =>
    intro c f stand sum lt here past
    obtain ⟨o, at', _, dt⟩ := B.obj
    cases f with
    | zero => omega
    | succ f =>
      rw [setSearchFrom_succ]
      refine wpAny_bind (wpAny_setState_of at' dt B.fits ?_)
      simp only [B.odd, here, Bool.false_eq_true, if_false]
      rcases next_of B (k.hash w) (c := c) (by omega) fuel free full with ⟨d, i, p, l1, l2, slot, ei, between, probe⟩ | ⟨between, probe⟩
      · rw [probe]
        simp only
        have goOn : wpAny (model P w) A (searchRest a (.ref x) (k.hash w) true f (L.map (entOf w)).toArray t (way t.mask (k.hash w) d) i (standAt' t (k.hash w) (d + 1))) Q E s := by
          unfold searchRest
          rw [ent_at ei]
          refine wpAny_bind (wpAny_holding ((nestedKind P w).eqBool (x := p.2) (y := k) room (keys p (List.mem_of_getElem? ei)) hx ?_))
          refine wpAny_bind (wpAny_setState_of at' dt B.fits ?_)
          by_cases same : p.2 = k
          · simp only [same, decide_true, Bool.and_self, if_true]
            exact wpAny_pure (isIn (List.mem_map.mpr ⟨p, List.mem_of_getElem? ei, same⟩))
          · simp only [same, decide_false, Bool.and_false, Bool.false_eq_true, if_false, sameMem, if_true, slot_live B.tab.ris slot, ent_at ei]
            refine wpAny_bind (wpAny_isSame_ref_self (wpAny_bind (wpAny_pure ?_)))
            simp only [if_true]
            refine ih (K - (d + 1)) (by omega) (d + 1) f _ (by omega) (by omega) rfl fun c' q lt' met => ?_
            by_cases old : c' < c
            · exact past c' q old met
            · by_cases mid : c' < d
              · exact fun e => between c' q (by omega) mid met (by rw [e])
              · have : c' = d := by omega
                subst this
                rw [met.one B.tab.ris slot ei]
                exact same
        cases led : t.led with
        | true =>
          simp only [Bool.not_true, Bool.false_eq_true, if_false]
          exact goOn
        | false =>
          simp only [Bool.not_false, if_true]
          refine wpAny_bind (unseen hx (fun y hy => ?_) _ _ ?_)
          · simp only [List.mem_map, Array.mem_toList_iff, Array.mem_filter, List.mem_toArray] at hy
            obtain ⟨e, ⟨⟨q, hq, rfl⟩, _⟩, rfl⟩ := hy
            exact ⟨q.1, q.2, rfl, keys q hq⟩
          · simp only [Bool.false_eq_true, if_false]
            exact goOn
      · rw [probe]
        refine wpAny_pure (isOut fun c' q lt' met => ?_)
        by_cases old : c' < c
        · exact past c' q old met
        · exact fun e => between c' q (by omega) lt' met (by rw [e])
/-- the whole search, as adding asks for it -/
theorem search (B : Bears w s.heap a L ep t) (keys : ∀ p ∈ L, KeyAt s.heap p.2 p.1) (hx : KeyAt s.heap k x) (room : A.units + 8 < cLine) (isIn : k ∈ L.map (·.2) -> Q (.there none) s)
    (isOut : ∀ K, k ∉ L.map (·.2) -> way t.mask (k.hash w) K ∉ t.place.toList -> (∀ c, c < K -> way t.mask (k.hash w) c ∈ t.place.toList) -> Q (.free (way t.mask (k.hash w) K) false) s) :
    wpAny (model P w) A (setSearch a (.ref x) (k.hash w) true) Q E s := by
  have wide := B.wide
  obtain ⟨K, fuel, free, full⟩ := B.tab.first (by rw [List.length_map]; omega) (k.hash w)
  have short : K < 100000 := by
    refine Nat.lt_of_lt_of_le fuel ?_
    rcases B.tab.mok with e | e | e <;> rw [e] <;> decide
  refine search_on B keys hx room fuel free full isIn (fun none' => isOut K (fun mem => ?_) free full) K 0 100000 none (Nat.zero_add _) short rfl fun _ _ no => absurd no (Nat.not_lt_zero _)
  obtain ⟨p, hp, e⟩ := List.mem_map.mp mem
  obtain ⟨i, il, ei⟩ := List.getElem_of_mem hp
  have at' : L[i]? = some p := by rw [List.getElem?_eq_getElem il, ei]
  have il' : i < t.place.toList.length := by rw [Array.length_toList, B.many]; exact il
  obtain ⟨c, lt, ec⟩ := B.tab.before free (i := i) (j := t.place.toList[i]) (by rw [List.getElem?_map, at', <- e]; rfl) (List.getElem?_eq_getElem il')
  exact none' c p lt ⟨i, by rw [ec]; exact List.getElem?_eq_getElem il', at'⟩ e
end
end Sa
namespace Sa
open PySem PySem.Spec PyProof.Rows L2
/-- nothing is being shown around -/
abbrev Free (A : Around) : Prop := A.guards = some []
/-- as FnOk, asked only where nothing is being shown around -/
structure FnG (P : Program) (w : World) (K : PySem.W.Frag) (mg : Str -> Option Value) (base : Heap) (k : Nat) (f : Addr) (fd : FuncData) (ps : List Str) (sp : Sp) : Prop where
  many : ∀ vs H Q E, sp vs H Q E -> vs.length = ps.length
  runs : ∀ (A : Around) (outer : List Env) (s : Shared) (H : Hp) (args : Args) (us : List Value) (vs : List V) (Q : VK) (E : XK), Room k A -> Free A ->
    Env0 P w K mg base A outer s H -> BindsTo s fd args (ps.zip us) -> Vals vs us -> sp vs H Q E ->
    codeAny (model P w) A (.call (.ref f) args) (CR CX0 outer P w H s Q E) s
theorem FnG.of {P : Program} {w : World} {K : PySem.W.Frag} {mg : Str -> Option Value} {base : Heap} {k : Nat} {f : Addr} {fd : FuncData} {ps : List Str} {sp : Sp}
    (F : FnOk P w K mg base CX0 k f fd ps sp) : FnG P w K mg base k f fd ps sp :=
  ⟨F.len, fun A outer s H args us vs Q E hr _ => F.run A outer s H args us vs Q E hr⟩
section
variable {P : Program} {w : World} {K : PySem.W.Frag} {mg : Str -> Option Value} {base : Heap}
/-- a def's body as a term of rules: the context's Around is free, too -/
theorem okG {x qual : Str} {st : Stmt} {f : Addr} {fd : FuncData} {N ps : List Str} {k : Nat} {sp : Sp} (F : Fun K x qual st f fd) (S : FnScope N ps (defScope st))
    (many : ∀ vs H Q E, sp vs H Q E -> vs.length = ps.length)
    (walk : ∀ (cdv : Value) (A : Around) (outer : List Env) (s : Shared) (H : Hp) (vs : List V) (Q : VK) (E : XK), fd.code = cdv -> Room k (A.deeper (envOfC qual (defScope st) s.heap.objs.size f cdv)) -> Free A ->
      sp vs H Q E -> ∃ t, PSs (cxOf CX0 P w K mg base N qual (defScope st) f cdv A outer s H E).nox (defBody st) t /\ t ⟨fun _ H' => Q .non H', Q, fun _ _ => False, fun _ _ => False⟩ (start N vs) H) :
    FnG P w K mg base (k + 1) f fd ps sp := by
  obtain ⟨oc, od, kV, doc, pm, an, cdv, ct, osl, rfl, lk, hcd⟩ := F.ex
  refine ⟨many, fun A outer s H args us vs Q E hr hfree e0 hb rel hsp => ?_⟩
  have keepB : ∀ b o, base.get? b = some o -> s.heap.get? b = some o := fun b o e => (e0.bs b o e).1
  have inH : K.In s.heap := e0.mod.kin.keeps keepB
  have noLim : s.heap.NoLimit := e0.mod.nolimit.keeps keepB
  refine codeAny_call_function hr.depth (inH _ _ lk) rfl S.co S.gen rfl (PySem.W.codeRec_of inH hcd) (hb _ _ _ _ ?_)
  refine wpAny_newFunctionEnv_cells S.kind (fun y hy => ?_) fun env he s1 call => ?_
  · obtain ⟨n, v⟩ := y
    rcases S.par n (List.of_mem_zip hy).1 with isLocal | isCell
    · exact .inl isLocal
    · exact .inr ⟨isCell, PySem.W.cellsFrom_some _ _ _ (.inl isCell)⟩
  subst he
  refine ⟨noLim.keeps call.toInCall.keep, codeAny_func ?_⟩
  obtain ⟨t, body, reading⟩ := walk cdv A outer s H vs Q E rfl (hr.deeper _) hfree hsp
  have J0 : Inv (cxOf CX0 P w K mg base N qual (defScope st) f cdv A outer s H E) [] (start N vs) H s1 := inv_start S hr.hd e0 (many _ _ _ _ hsp) rel call
  refine wpAny_mono (body.nox.run [] s1 (start N vs) H _ J0 reading) (fun flow s' out => ?_) fun _ _ bad => bad
  cases flow with
  | ret u =>
    obtain ⟨v, _, H', J, rv, q⟩ := out
    exact ⟨v, H', J.os, J.bare, J.base, J.hok, rv, q⟩
  | next =>
    obtain ⟨_, H', J, q⟩ := out
    exact ⟨V.non, H', J.os, J.bare, J.base, J.hok, (rfl : Value.none = Value.none), q⟩
  | brk =>
    obtain ⟨_, _, _, q⟩ := out
    exact q.elim
  | cont =>
    obtain ⟨_, _, _, q⟩ := out
    exact q.elim
end
section
variable {X : Cx} {k : Nat} {f : Addr} {fd : FuncData} {ps : List Str} {sp : Sp} {x : Str} {p pos : Pos} {e : Expr} {es : List Expr} {t : TA}
/-- a call of such a def -/
theorem pe_callG (F : FnG X.prog X.w X.K X.mg X.base k f fd ps sp) (hr : Room k X.A) (hf : Free X.A) (hg : Gl X x) (hm : X.mg x = some (.ref f)) (kp : PySem.W.keepIn X.K (.ref f) = true)
    (hb : Binds X.K fd ps []) (args : PA X (e :: es) t) (nd : (x == ("__debug__" : Str)) = false := by decide)
    (he : starEach (e :: es) X.env = (false, eval e X.env) :: starEach es X.env := by rfl) (np : (backTo pos (starEach es X.env)).any (·.1) = false := by rfl) :
    PE X (.Call (.Name x p) (e :: es) [] pos) (tCall sp [] E0 t) := by
  refine ⟨fun pins s σ H Q I h => wpAny_Call_Name_kw (ld_glob I hg hm ?_ nd)⟩
  refine PySem.W.callWith_K (h₀ := X.base) I.ok.mod.kin kp (thn (args.run pos pins s σ H _ I h) fun us s1 ⟨vs, H1, I1, rel, q⟩ => ⟨I1.kIn, ?_⟩) he np
  have rel2 : Vals (vs ++ []) (us ++ []) := rel.append .nil
  have many : (us ++ []).length = ps.length := rel2.length.symm.trans (F.many _ _ _ _ q)
  refine wpAny_call (codeAny_mono (F.runs X.A X.stack s1 H1 ⟨us, []⟩ (us ++ []) (vs ++ []) Q E0 hr hf I1.env0 (hb s1 us I1.kIn many) rel2 q) fun res s' out => ?_)
  cases res with
  | error _ => exact out.elim
  | ok flow =>
    cases flow with
    | ret _ => exact I1.after out
    | next => exact out.elim
    | brk => exact out.elim
    | cont => exact out.elim
/-- repr(x) of data: its text -/
def rShown (K : PySem.W.Frag) : List V -> Hp -> VK -> Prop := fun xs H Q => ∃ (a : Addr) (d : PyData), xs = [.ref a] /\ Dp K H (.ref a) d /\ d.showable = true /\ d.hasDict = false /\ d.depth <= 60 /\ d.shown.length <= sizeLine /\ Q (.str d.shown) H
theorem call_shown (hf : Free X.A) (hu : X.A.units + 64 < cLine) : CallR X (.builtin "repr") (rShown X.K) := by
  intro pins s σ H xs us Q I rel h
  obtain ⟨a, d, rfl, hd, shows, plain, deep, small, q⟩ := h
  cases rel with
  | cons r1 rest =>
    cases rest
    cases r1
    obtain ⟨as, reads⟩ := Dp.reads I d _ _ hd (rfl : RelV (.ref a) (.ref a))
    exact repr_of_reads' reads shows (PyData.noDict_hsm plain) hf (by omega) (fun _ _ z => z) (fun h' u tk kept => ⟨.str d.shown, H, I.kept kept, ⟨_, rfl⟩, q⟩) small
end
end Sa
set_option maxHeartbeats 2000000
namespace Sa
open PySem PySem.Spec PyProof.Rows L2
mutual
/-- the key that such data is -/
def nk : PyData -> NestedKey
  | .bool b => .num (if b = true then 1 else 0)
  | .int i => .num i
  | .str x => .text x
  | .tuple ds => .tup (nks ds)
  | _ => .none
def nks : List PyData -> List NestedKey
  | [] => []
  | d :: ds => nk d :: nks ds
end
mutual
/-- no list, no dict in it -/
def flat : PyData -> Bool
  | .none => true
  | .bool _ => true
  | .int _ => true
  | .str _ => true
  | .tuple ds => flats ds
  | _ => false
def flats : List PyData -> Bool
  | [] => true
  | d :: ds => flat d && flats ds
end
mutual
theorem nk_is {h : Heap} : ∀ (d : PyData) (v : Value) (as : List Addr), Reads h v d as -> flat d = true -> NestedIs h (nk d) v
  | .none, _, _, r, _ => by cases r; exact .none
  | .bool b, _, _, r, _ => by cases r; exact .bool rfl
  | .int i, _, _, r, _ => by cases r; exact .int i _
  | .str x, _, _, r, _ => by cases r; exact .text x _
  | .tuple ds, _, _, r, f => by
    cases r with
    | tuple ho hc hd hr => exact .tup ho hc hd (nks_are ds _ _ hr f)
  | .list ds, _, _, _, f => by cases f
  | .dict ds, _, _, _, f => by cases f
theorem nks_are {h : Heap} : ∀ (ds : List PyData) (vs : List Value) (as : List Addr), ReadsAll h vs ds as -> flats ds = true -> NestedAll h (nks ds) vs
  | [], _, _, r, _ => by cases r; exact .nil
  | d :: ds, _, _, r, f => by
    have f' : (flat d && flats ds) = true := f
    rw [Bool.and_eq_true] at f'
    cases r with
    | cons r1 r2 => exact .cons (nk_is d _ _ r1 f'.1) (nks_are ds _ _ r2 f'.2)
end
section
variable {P : Program} {w : World} {E : Value -> Shared -> Prop}
mutual
/-- whether a hash goes by value: some answer, nothing changed -/
theorem hashBy_key : ∀ (k : NestedKey) (v : Value) (n : Nat) (A : Around) (s : Shared) (Q : Bool -> Shared -> Prop), NestedIs s.heap k v -> (∀ b, Q b s) -> wpAny (model P w) A (hashByValue n v) Q E s
  | .none, _, n, A, s, Q, x, h => by
    cases x
    rw [show hashByValue n Value.none = pure true by cases n <;> rfl]
    exact wpAny_pure (h true)
  | .num i, _, n, A, s, Q, x, h => by
    cases x with
    | bool _ =>
      rw [show ∀ b, hashByValue n (Value.bool b) = pure true by intro b; cases n <;> rfl]
      exact wpAny_pure (h true)
    | int _ t =>
      rw [show hashByValue n (Value.int i t) = pure true by cases n <;> rfl]
      exact wpAny_pure (h true)
  | .text y, _, n, A, s, Q, x, h => by
    cases x with
    | text _ t =>
      rw [show hashByValue n (Value.str y t) = pure false by cases n <;> rfl]
      exact wpAny_pure (h false)
  | .tup ks, v, 0, A, s, Q, x, h => by
    cases x with
    | @tup a o vs m _ ho hc hd hall =>
      rw [show hashByValue 0 (Value.ref a) = pure false from rfl]
      exact wpAny_pure (h false)
  | .tup ks, v, n + 1, A, s, Q, x, h => by
    cases x with
    | @tup a o vs m _ ho hc hd hall =>
      unfold hashByValue
      refine wpAny_bind (wpAny_specialOf (T := "tuple") ⟨o, ho, hc⟩ F.slot_tuple_hash.lookup ?_)
      show wpAny _ _ (seqItems? (.ref a) >>= _) _ _ s
      refine wpAny_bind (wpAny_seqItems ho hd ?_)
      refine wpAny_bind ?_
      show wpAny _ _ (forIn vs _ _) _ _ s
      rw [<- Array.forIn_toList]
      refine wpAny_forIn_list _ (fun rest r s' => s' = s /\ ∀ u ∈ rest, ∀ Q' : Bool -> Shared -> Prop, (∀ b, Q' b s) -> wpAny (model P w) A (hashByValue n u) Q' E s) _ ?_ ?_ _ _ ⟨rfl, hashBy_keys ks _ n A s hall⟩
      · rintro u rest r s' ⟨rfl, each⟩
        refine wpAny_bind (each u List.mem_cons_self _ fun b => ?_)
        cases b with
        | true =>
          simp only [Bool.not_true, Bool.false_eq_true, if_false]
          exact wpAny_pure ⟨rfl, fun y hy => each y (List.mem_cons_of_mem _ hy)⟩
        | false =>
          simp only [Bool.not_false, if_true]
          exact wpAny_pure (wpAny_pure (h false))
      · rintro ⟨r1, r2⟩ s' hr
        obtain ⟨rfl, _⟩ := hr
        cases r1 with
        | none => exact wpAny_pure (h _)
        | some b => exact wpAny_pure (h _)
theorem hashBy_keys : ∀ (ks : List NestedKey) (vs : List Value) (n : Nat) (A : Around) (s : Shared), NestedAll s.heap ks vs -> ∀ u ∈ vs, ∀ Q : Bool -> Shared -> Prop, (∀ b, Q b s) -> wpAny (model P w) A (hashByValue n u) Q E s
  | [], _, n, A, s, x, u, hu => by cases x; cases hu
  | k :: ks, _, n, A, s, x, u, hu => by
    cases x with
    | cons x1 x2 =>
      intro Q h
      rcases List.mem_cons.mp hu with z | z
      · rw [z]; exact hashBy_key k _ n A s Q x1 h
      · exact hashBy_keys ks _ n A s x2 u z Q h
end
end
end Sa
set_option maxHeartbeats 1600000
namespace Sa
open PySem PySem.Spec PyProof.Rows L2
theorem all_places {α : Type} : ∀ l : List α, (List.range l.length).filterMap (l[·]?) = l
  | [] => rfl
  | x :: l => by
    rw [List.length_cons, List.range_succ_eq_map, List.filterMap_cons]
    show x :: _ = _
    rw [List.filterMap_map]
    exact congrArg _ (all_places l)
theorem at_places {α β : Type} (l : List α) (f : α -> β) (d : β) : ∀ is : List Nat, (∀ i ∈ is, i < l.length) -> (is.filterMap (l[·]?)).map f = is.map fun i => ((l.map f).toArray).getD i d
  | [], _ => rfl
  | i :: is, h => by
    have lt := h i List.mem_cons_self
    rw [List.filterMap_cons, List.getElem?_eq_getElem lt, List.map_cons, List.map_cons, at_places l f d is fun j hj => h j (List.mem_cons_of_mem _ hj)]
    congr 1
    simp [lt]
section
variable {P : Program} {w : World} {A : Around} {E : Value -> Shared -> Prop} {s : Shared} {a x : Addr} {L : Keys} {ep : Nat} {t : SetTable} {k : NestedKey}
/-- the table laid anew -/
theorem laid_anew {o : Obj} {wanted M : Nat} {Q : Unit -> Shared -> Prop} (at' : s.heap.get? a = some o) (ex : o.ExactSet) (dt : o.data = .set (L.map (entOf w)).toArray ep t) (tab : TabOk t (L.map fun p => p.2.hash w)) (led : w.params.followText "set-order" = true ∨ t.led = true)
    (le : L.length <= t.mask) (size : SetTable.sizeAbove wanted = M + 1) (hM : MaskOk M) (wide : L.length * 5 < M * 3) (few : L.length < 64)
    (hQ : ∀ (h' : Heap) (L' : Keys) (ep' : Nat) (t' : SetTable), Heap.SameBut a s.heap h' -> Bears w h' a L' ep' t' -> L'.Perm L -> Q () { s with heap := h' }) :
    wpAny (model P w) A (setRelay a wanted) Q E s := by
  have count : t.place.size = L.length := by simpa using tab.sz
  have fits : t.fits (L.map (entOf w)).toArray.size = true := by
    simp [SetTable.fits, SetTable.fill, tab.dm]
    omega
  have hs : (L.map (entOf w)).toArray.map (·.1) = (L.map fun p => p.2.hash w).toArray := by simp
  obtain ⟨t', order, eq, perm, tab', mask', led', _, _⟩ := relaid_ok t (hs := (L.map (entOf w)).toArray.map (·.1)) (wanted := wanted) (M := M) (by omega) hM (by simp; omega)
  have n : ((L.map (entOf w)).toArray.map (·.1)).size = L.length := by simp
  rw [n] at perm
  rw [hs] at tab'
  have es : (order.filterMap ((L.map (entOf w)).toArray[·]?)) = ((order.toList.filterMap (L[·]?)).map (entOf w)).toArray := by
    apply Array.ext'
    rw [Array.toList_filterMap, List.map_filterMap]
    congr 1
    funext i
    simp
  have permL : (order.toList.filterMap (L[·]?)).Perm L := by
    have z := perm.filterMap (L[·]?)
    rwa [all_places] at z
  have len := permL.length_eq
  have line : SetTable.sizeAbove wanted <= sizeLine := by
    rw [size]
    rcases hM with e | e | e <;> rw [e] <;> decide
  rw [setRelay_eq]
  refine wpAny_bind (wpAny_setState_of at' dt fits ?_)
  simp only [Nat.not_lt.mpr line, gt_iff_lt, if_false, eq, es]
  have same : ((((order.toList.filterMap (L[·]?)).map (entOf w)).toArray.size != (L.map (entOf w)).toArray.size)) = false := by simp [len]
  simp only [same, Bool.false_eq_true, if_false]
  refine wpAny_bind (wpAny_pure ?_)
  refine wpAny_storeSet_of at' dt (hQ _ (order.toList.filterMap (L[·]?)) (ep + 1) t' (Heap.SameBut.update ..) ⟨⟨_, store_at at' dt, ⟨ex.1, ex.2.1, ex.2.2⟩, rfl⟩, ?_, by rw [led']; exact led, by rw [len, mask']; exact wide⟩ permL) ?_
  · rw [at_places L (fun p => p.2.hash w) 0 _ fun i hi => List.mem_range.mp (perm.mem_iff.mp hi)]
    exact tab'
  · rw [List.size_toArray, List.length_map, len]
    exact Nat.le_trans (Nat.le_of_lt few) (by decide)
/-- a key put in: it is there, or it comes to the others -/
theorem put_key {Q : Bool -> Shared -> Prop} (B : Bears w s.heap a L ep t) (keys : ∀ p ∈ L, KeyAt s.heap p.2 p.1) (hx : KeyAt s.heap k x) (room : A.units + 8 < cLine) (few : L.length + 1 < 64)
    (old : k ∈ L.map (·.2) -> Q false s)
    (new : k ∉ L.map (·.2) -> ∀ (h' : Heap) (L' : Keys) (ep' : Nat) (t' : SetTable), Heap.SameBut a s.heap h' -> Bears w h' a L' ep' t' -> L'.Perm ((x, k) :: L) -> Q true { s with heap := h' }) :
    wpAny (model P w) A (setAddHashed a (.ref x) (k.hash w)) Q E s := by
  obtain ⟨o, at', ex, dt⟩ := B.obj
  have wide := B.wide
  unfold setAddHashed
  refine wpAny_holding ?_
  rw [show (100000 : Nat) = 99999 + 1 from rfl, setAddHashedIn_succ]
  refine wpAny_bind (wpAny_setState_of at' dt B.fits ?_)
  have noScan : byScan (.ref x) (L.map (entOf w)).toArray = false := rfl
  simp only [noScan, Bool.false_eq_true, if_false]
  refine wpAny_bind (search B keys hx room (fun mem => wpAny_pure (old mem)) fun K out free full => ?_)
  simp only
  refine wpAny_bind (wpAny_setState_of at' dt B.fits ?_)
  obtain ⟨place, le, tab1, mask1, led1, _, _, _, fill1⟩ := B.tab.put free full
  have new := new out
  rw [List.length_map] at le fill1
  generalize SetTable.below t.place (way t.mask (k.hash w) K) = n at place le tab1
  generalize t.put (way t.mask (k.hash w) K) = tp at place tab1 mask1 led1 fill1
  obtain ⟨t1, n1⟩ := tp
  simp only at place tab1 mask1 led1 fill1 ⊢
  subst place
  -- the keys behind it, in the table's order
  have order : (L.map fun p => p.2.hash w).take n1 ++ k.hash w :: (L.map fun p => p.2.hash w).drop n1 = (L.take n1 ++ (x, k) :: L.drop n1).map fun p => p.2.hash w := by simp
  have entries : SetTable.insertAt (L.map (entOf w)).toArray n1 (k.hash w, Value.ref x) = ((L.take n1 ++ (x, k) :: L.drop n1).map (entOf w)).toArray := by
    apply Array.ext'
    rw [SetTable.toList_insertAt]
    simp
  have perm : (L.take n1 ++ (x, k) :: L.drop n1).Perm ((x, k) :: L) := by
    refine List.perm_middle.trans ?_
    rw [List.take_append_drop]
  have len := perm.length_eq
  rw [order] at tab1
  generalize L.take n1 ++ (x, k) :: L.drop n1 = L1 at *
  rw [List.length_cons] at len
  -- what is left to do, whether the hash goes by value or not
  have rest : ∀ t2 : SetTable, t2.mask = t1.mask -> t2.led = t1.led -> t2.fill = t1.fill -> TabOk t2 (L1.map fun p => p.2.hash w) -> wpAny (model P w) A (do
      storeSet a (SetTable.insertAt (L.map (entOf w)).toArray n1 (k.hash w, Value.ref x)) t2
      if (!false && t2.tooFull) = true then setRelay a (SetTable.grown ((L.map (entOf w)).toArray.size + 1))
      return true) Q E s := by
    intro t2 m2 l2 f2 tab2
    rw [entries]
    refine wpAny_bind (wpAny_storeSet_of at' dt ?_ (by rw [List.size_toArray, List.length_map, len]; exact Nat.le_trans (Nat.le_of_lt few) (by decide)))
    have at2 := store_at (es' := (L1.map (entOf w)).toArray) (t' := t2) at' dt
    have but : Heap.SameBut a s.heap (s.heap.update a (Obj.putSet (L1.map (entOf w)).toArray t2)) := Heap.SameBut.update ..
    generalize s.heap.update a (Obj.putSet (L1.map (entOf w)).toArray t2) = h2 at at2 but
    have led2 : w.params.followText "set-order" = true ∨ t2.led = true := by rw [l2, led1]; exact B.led
    cases full2 : t2.tooFull with
    | false =>
      simp only [Bool.and_false, Bool.false_eq_true, if_false]
      refine wpAny_pure (new h2 L1 (ep + 1) t2 but ⟨⟨_, at2, ⟨ex.1, ex.2.1, ex.2.2⟩, rfl⟩, tab2, led2, ?_⟩ perm)
      unfold SetTable.tooFull at full2
      rw [decide_eq_false_iff_not, f2, fill1] at full2
      rw [len]
      omega
    | true =>
      simp only [Bool.not_false, Bool.and_self, if_true]
      unfold SetTable.tooFull at full2
      rw [decide_eq_true_eq, f2, fill1, m2, mask1] at full2
      have size : ∃ M, SetTable.sizeAbove (SetTable.grown ((L.map (entOf w)).toArray.size + 1)) = M + 1 /\ MaskOk M /\ (L.length + 1) * 5 < M * 3 := by
        rw [List.size_toArray, List.length_map]
        rcases B.tab.mok with e | e | e <;> rw [e] at full2 wide
        · have : L.length = 4 := by omega
          rw [this]
          exact ⟨31, size_20, .inr (.inl rfl), by decide⟩
        · have : L.length = 18 := by omega
          rw [this]
          exact ⟨127, size_76, .inr (.inr rfl), by decide⟩
        · omega
      obtain ⟨M, z1, z2, z3⟩ := size
      refine wpAny_bind (laid_anew (s := { s with heap := h2 }) (o := { o with data := .set (L1.map (entOf w)).toArray (ep + 1) t2 }) at2 ⟨ex.1, ex.2.1, ex.2.2⟩ rfl tab2 led2 (by rw [len, m2, mask1]; omega) z1 z2 (by rw [len]; exact z3) (by omega) fun h3 L3 ep3 t3 but3 B3 perm3 => ?_)
      exact wpAny_pure (new h3 L3 ep3 t3 (but.trans but3) B3 (perm3.trans perm))
  have both : ∀ b : Bool, wpAny (model P w) A (do
      let t2 := if b = true then t1 else { t1 with plain := false }
      storeSet a (SetTable.insertAt (L.map (entOf w)).toArray n1 (k.hash w, Value.ref x)) t2
      if (!false && t2.tooFull) = true then setRelay a (SetTable.grown ((L.map (entOf w)).toArray.size + 1))
      return true) Q E s := fun b => by
    cases b with
    | true => exact rest t1 rfl rfl rfl tab1
    | false => exact rest { t1 with plain := false } rfl rfl rfl ⟨tab1.ris, tab1.dm, tab1.sz, tab1.mok, tab1.bd, tab1.reach⟩
  split
  · exact wpAny_bind (hashBy_key k _ 8 A s _ hx.1 both)
  · exact wpAny_bind (wpAny_pure (both true))
end
end Sa
set_option maxHeartbeats 3200000
namespace Sa
open PySem PySem.Spec PyProof.Rows L2
/-- few unlike keys -/
def FewKeys (ks : Keys) : Prop := ∀ M : List NestedKey, M.Nodup -> (∀ k ∈ M, k ∈ ks.map (·.2)) -> M.length + 1 < 64
/-- L has what the first i of ks are, each key once -/
structure Once (ks : Keys) (i : Nat) (L : Keys) : Prop where
  some' : ∀ p ∈ L, ∃ j, j < i /\ ks[j]? = some p
  all : ∀ j p, j < i -> ks[j]? = some p -> p.2 ∈ L.map (·.2)
  dif : (L.map (·.2)).Nodup
theorem Once.zero (ks : Keys) : Once ks 0 [] := ⟨fun _ h => (nomatch h), fun _ _ h => absurd h (Nat.not_lt_zero _), List.nodup_nil⟩
theorem Once.same {ks L : Keys} {i : Nat} {p : Addr × NestedKey} (o : Once ks i L) (e : ks[i]? = some p) (old : p.2 ∈ L.map (·.2)) : Once ks (i + 1) L where
  some' := fun q hq => let ⟨j, lt, ej⟩ := o.some' q hq; ⟨j, Nat.lt_succ_of_lt lt, ej⟩
  all := fun j q lt ej => by
    rcases Nat.lt_succ_iff_lt_or_eq.mp lt with lt | rfl
    · exact o.all j q lt ej
    · cases e.symm.trans ej
      exact old
  dif := o.dif
theorem Once.more {ks L L' : Keys} {i : Nat} {p : Addr × NestedKey} (o : Once ks i L) (e : ks[i]? = some p) (new : p.2 ∉ L.map (·.2)) (pm : L'.Perm (p :: L)) : Once ks (i + 1) L' where
  some' := fun q hq => by
    rcases List.mem_cons.mp (pm.mem_iff.mp hq) with rfl | hq
    · exact ⟨i, Nat.lt_succ_self _, e⟩
    · obtain ⟨j, lt, ej⟩ := o.some' q hq
      exact ⟨j, Nat.lt_succ_of_lt lt, ej⟩
  all := fun j q lt ej => by
    refine (pm.map (·.2)).mem_iff.mpr ?_
    rcases Nat.lt_succ_iff_lt_or_eq.mp lt with lt | rfl
    · exact List.mem_cons_of_mem _ (o.all j q lt ej)
    · cases e.symm.trans ej
      exact List.mem_cons_self
  dif := (pm.map (·.2)).nodup_iff.mpr (List.nodup_cons.mpr ⟨new, o.dif⟩)
theorem Once.few {ks L : Keys} {i : Nat} (o : Once ks i L) (few : FewKeys ks) : L.length + 1 < 64 := by
  have z := few (L.map (·.2)) o.dif fun k hk => by
    obtain ⟨q, hq, rfl⟩ := List.mem_map.mp hk
    obtain ⟨j, _, ej⟩ := o.some' q hq
    exact List.mem_map.mpr ⟨q, List.mem_of_getElem? ej, rfl⟩
  simpa using z
/-- the new set -/
abbrev emptySet (w : World) : Obj := { cls := .type "set", dict := none, data := .set #[] 0 (.fresh 0 0 (!w.params.followText "set-order")) }
theorem bears_none {w : World} {h : Heap} {a : Addr} (at' : h.get? a = some (emptySet w)) : Bears w h a [] 0 (.fresh 0 0 (!w.params.followText "set-order")) where
  obj := ⟨_, at', ⟨rfl, rfl, rfl⟩, rfl⟩
  tab := ⟨.nil, rfl, rfl, .inl rfl, fun _ h => (nomatch h), fun i _ _ h => by simp at h⟩
  led := by
    cases e : w.params.followText "set-order" with
    | true => exact .inl rfl
    | false => exact .inr rfl
  wide := (by decide : 0 * 5 < 7 * 3)
section
variable {P : Program} {w : World} {A : Around} {s : Shared}
/-- set.update's loop by an invariant -/
theorem update_by {I S : Addr} {fp wr : List Addr} {G : Array GenState -> Array GenState -> Prop} {n : Nat} {Pv : Nat -> Value -> Prop} {St : Nat -> Shared -> Prop} {R : Result -> Shared -> Prop} {J : Nat -> Shared -> Prop} (W : WalksS P w A.in1 I fp wr G n Pv St)
    (keep : ∀ i s s', J i s -> Moved wr G s s' -> J i s') (step : ∀ i v s, i < n -> Pv i v -> J i s -> St (i + 1) s -> ∀ Q : Bool -> Shared -> Prop, (∀ b s', J (i + 1) s' -> St (i + 1) s' -> Q b s') -> wpAny (model P w) A.in1 (setAdd S v) Q (fun e s' => R (.error e) s') s)
    (fin : ∀ s, J n s -> R (.ok (.ret .none)) s) : ∀ (m i : Nat) (s : Shared), i + m = n -> St i s -> J i s -> codeAny (model P w) A (.builtin "set.update.loop" ⟨[.ref S, .ref I], []⟩) R s := by
  intro m
  induction m with
  | zero =>
    intro i s e st j
    cases (show i = n from e)
    refine codeAny_builtin F.entry_set_update_loop ?_
    rw [Around.under_plainId F.plain_set_update_loop _]
    unfold Builtin.«set.update.loop»
    exact wpAny_bind (W.done s _ _ st fun s' mv => wpAny_pure (fin s' (keep _ s s' j mv)))
  | succ m ih =>
    intro i s e st j
    refine codeAny_builtin F.entry_set_update_loop ?_
    rw [Around.under_plainId F.plain_set_update_loop _]
    unfold Builtin.«set.update.loop»
    refine wpAny_bind (W.item i s _ _ (by omega) st fun v s1 hv st1 mv => ?_)
    exact wpAny_bind (wpAny_holding (step i v s1 (by omega) hv (keep i s s1 j mv) st1 _ fun b s2 j2 st2 => wpAny_pure ⟨plainId_quiet F.plain_set_update_loop _, ih (i + 1) s2 (by omega) st2 j2⟩))
/-- calling a type with one thing: what __new__ makes, __init__ fills -/
theorem type_call1 {T newId initId : String} {v : Value} {Q Q1 : Value -> Shared -> Prop} {E : Value -> Shared -> Prop} (ft : TypeCalled T newId initId) (args : checkTypeCall T ⟨[v], []⟩ = pure ())
    (new : codeAny (model P w) A.in1 (.call (.builtin newId) ⟨[.type T, v], []⟩) (wants Q1 E) s)
    (init : ∀ obj s1, Q1 obj s1 -> s1.TypeIs obj T /\ codeAny (model P w) A.in1 (.call (.builtin initId) ⟨[obj, v], []⟩) (wants (fun r s2 => r = .none /\ Q obj s2) E) s1) :
    wpAny (model P w) A (call (.type T) [v]) Q E s := by
  obtain ⟨c, tl, mro⟩ := ft.mro
  have n1 := ft.notType
  have n2 := ft.canCreate
  have made := ft.made
  have sub := ft.sub
  refine wpAny_call (codeAny_of_tree (show wpAny _ _ (callAny (.type T) _) _ _ _ from ?_))
  refine wpAny_pure ⟨Code.quiet_builtin _ (by decide +kernel), codeAny_builtin F.entry_type_call ?_⟩
  rw [Around.under_plain (weight_type_call_type T [v] []) (units_type_call_type T [v] [])]
  unfold Builtin.«type.__call__»
  simp only [n1, n2, Bool.false_eq_true, if_false]
  refine wpAny_bind (wpAny_of_eq args (wpAny_bind (wpAny_of_eq mro ?_)))
  simp only [List.isEmpty_cons, Bool.false_eq_true, if_false]
  refine wpAny_bind (wpAny_of_eq made (wpAny_bind (wpAny_pure (wpAny_bind (wpAny_holding (wpAny_call (codeAny_mono new fun r s1 out => ?_)))))))
  match r, out with
  | .ok (.ret obj), out =>
    obtain ⟨isT, fill⟩ := init obj s1 out
    refine wpAny_bind (wpAny_isInstance isT sub ?_)
    simp only [Bool.not_true, Bool.false_eq_true, if_false]
    refine wpAny_bind (wpAny_holding (wpAny_callSpecial?_slot isT ft.init (wpAny_call (codeAny_mono fill fun r2 s2 out2 => ?_))))
    match r2, out2 with
    | .ok (.ret _), ⟨rfl, q⟩ => exact wpAny_pure q
    | .error e, out2 => exact out2
    | .ok .next, out2 => exact out2.elim
    | .ok .brk, out2 => exact out2.elim
    | .ok .cont, out2 => exact out2.elim
  | .error e, out => exact out
  | .ok .next, out => exact out.elim
  | .ok .brk, out => exact out.elim
  | .ok .cont, out => exact out.elim
/-- some name for a type of the builtins -/
theorem named {T : String} {v : Value} {n : Nat} {Q : String -> Shared -> Prop} {E : Value -> Shared -> Prop} (isT : s.TypeIs v T) (other : (Value.type T == Value.type "builtin_function_or_method") = false) (q : ∀ x, Q x s) : wpAny (model P w) A (typeNameOfCut n v) Q E s := by
  unfold typeNameOfCut shownTypeOf
  refine wpAny_bind (wpAny_bind (wpAny_typeOf isT ?_))
  rw [other]
  exact wpAny_pure (wpAny_pure (q _))
/-- __init__ of a new set, from a list -/
theorem init_set {S l : Addr} {items : Array Value} {Q : Value -> Shared -> Prop} {E : Value -> Shared -> Prop} (at' : s.heap.get? S = some (emptySet w)) (isL : s.heap.IsList l items)
    (loop : codeAny (model P w) A.in1 (.builtin "set.update.loop" ⟨[.ref S, .ref s.heap.objs.size], []⟩) (wants (fun r s' => Q .none s') E) { s with heap := s.heap.push { cls := .type "list_iterator", data := .fields #[.ref l, .int 0 0] } }) :
    codeAny (model P w) A (.call (.builtin "set.__init__") ⟨[.ref S, .ref l], []⟩) (wants Q E) s := by
  have isS : s.TypeIs (.ref S) "set" := ⟨_, at', rfl⟩
  refine codeAny_call_builtin F.called_set.init.plain F.entry_set_init (check_set_init_1 isS ?_)
  unfold Builtin.«set.__init__» Builtin.Frozenset.updateFrom
  refine wpAny_bind (m := noKeywords _ _) (wpAny_pure (wpAny_bind (named isS (by decide) fun x => wpAny_bind (m := checkCount _ _ _ _) (wpAny_pure (wpAny_bind (m := Builtin.Frozenset.addrOf _) (wpAny_pure ?_))))))
  have isNew : (SetTable.fresh 0 0 (!w.params.followText "set-order")).fits (#[] : Array (Int × Value)).size = true := by cases w.params.followText "set-order" <;> decide +kernel
  refine wpAny_bind (wpAny_bind (m := setState _) (wpAny_setState_of at' rfl isNew (wpAny_pure ?_)))
  rw [if_neg (by simp [SetTable.fill, SetTable.fresh])]
  refine wpAny_bind (wpAny_bind (m := Builtin.Frozenset.isAnySet _) (wpAny_bind (wpAny_isInstance isL.typeIs F.sub_list_set ?_)))
  refine wpAny_isInstance isL.typeIs F.sub_list_frozenset ?_
  rw [if_neg (by decide)]
  refine wpAny_bind (wpAny_typeOf isL.typeIs ?_)
  rw [if_neg (by decide)]
  refine wpAny_bind (wpAny_pyIter_list isL (wpAny_bind (wpAny_runValue (codeAny_mono loop fun r s' out => ?_))))
  match r, out with
  | .ok (.ret _), out => exact wpAny_pure (wpAny_pure out)
  | .error e, out => exact out
  | .ok .next, out => exact out.elim
  | .ok .brk, out => exact out.elim
  | .ok .cont, out => exact out.elim
/-- set(xs), xs a list of keys: each once -/
theorem call_set_keys {E : Value -> Shared -> Prop} {l : Addr} {items : Array Value} {ks : Keys} {Q : Value -> Shared -> Prop} (calm : A.handled = none) (isL : s.heap.IsList l items) (isK : items.toList = ks.map fun p => Value.ref p.1) (keys : ∀ p ∈ ks, KeyAt s.heap p.2 p.1)
    (few : FewKeys ks) (room : A.units + 16 < cLine)
    (hQ : ∀ (h' : Heap) (tk : Nat) (L : Keys) (ep : Nat) (t : SetTable), Bears w h' s.heap.objs.size L ep t -> Once ks ks.length L -> (∀ b o, s.heap.get? b = some o -> h'.get? b = some o) -> Q (.ref s.heap.objs.size) { s with heap := h', toks := tk }) :
    wpAny (model P w) A (call (.type "set") [.ref l]) Q E s := by
  have many : items.size = ks.length := by simpa using congrArg List.length isK
  have lt : l < s.heap.objs.size := let ⟨_, at', _⟩ := isL; Heap.lt_size at'
  refine type_call1 F.called_set (F.typeCall_set_1 _) (code_set_led1 (.ref l) (Q₁ := fun obj s1 => obj = .ref s.heap.objs.size /\ s1 = { s with heap := s.heap.push (emptySet w) }) ⟨rfl, rfl⟩) fun obj s1 made => ?_
  obtain ⟨rfl, rfl⟩ := made
  have atS : (s.heap.push (emptySet w)).get? s.heap.objs.size = some (emptySet w) := Heap.get?_push_size _ rfl
  have two : (s.heap.push (emptySet w)).objs.size = s.heap.objs.size + 1 := Heap.size_push ..
  refine ⟨⟨_, atS, rfl⟩, init_set (A := A.in1) (s := { s with heap := s.heap.push (emptySet w) }) atS (isL.push _) ?_⟩
  have W := (Walks.list (prog := P) (w := w) (A := A.in1.in1.in1) calm (s.heap.push (emptySet w)).objs.size l (by rw [two]; exact Nat.ne_of_lt (Nat.lt_succ_of_lt lt)) items).toS
  -- behind i things: what stood ahead of it stands, and the set has these
  refine update_by W (J := fun i s' => (∀ b o, s.heap.get? b = some o -> s'.heap.get? b = some o) /\ (∃ tk, s' = { s with heap := s'.heap, toks := tk }) /\ ∃ L ep t, Bears w s'.heap s.heap.objs.size L ep t /\ Once ks i L) ?_ ?_ ?_ items.size 0 _ (Nat.zero_add _) ⟨⟨_, Heap.get?_push_size _ rfl, rfl, rfl⟩, (isL.push _).push _⟩
    ⟨fun b o e => Heap.get?_push_of_some _ (Heap.get?_push_of_some _ e), ⟨s.toks, rfl⟩, [], 0, _, bears_none (Heap.get?_push_of_some _ atS), Once.zero ks⟩
  · rintro i s1 s2 ⟨old, ⟨tk, es⟩, L, ep, t, B, once⟩ mv
    have notI : ∀ b, b < s.heap.objs.size + 1 -> b ∉ [(s.heap.push (emptySet w)).objs.size] := fun b hb z => by
      rw [List.mem_singleton.mp z, two] at hb
      exact Nat.lt_irrefl _ hb
    refine ⟨fun b o e => mv.heap b o (notI b (Nat.lt_succ_of_lt (Heap.lt_size e))) (old b o e), ⟨s2.toks, ?_⟩, L, ep, t, ?_, once⟩
    · have e1 : s2.gens = s1.gens := mv.gens
      have e2 := mv.drawn
      have e3 := mv.os
      rw [es] at e1 e2 e3
      cases s2
      cases e1; cases e2; cases e3
      rfl
    · obtain ⟨o, at', r⟩ := B.obj
      exact ⟨⟨o, mv.heap _ _ (notI _ (Nat.lt_succ_self _)) at', r⟩, B.tab, B.led, B.wide⟩
  · rintro i v s1 hi hv ⟨old, ⟨tk, es⟩, L, ep, t, B, once⟩ st1 R hR
    obtain ⟨p, ep', rfl⟩ : ∃ p, ks[i]? = some p /\ v = .ref p.1 := by
      have z : items.toList[i]? = some v := by simpa using hv
      rw [isK, List.getElem?_map] at z
      obtain ⟨p, e1, e2⟩ := Option.map_eq_some_iff.mp z
      exact ⟨p, e1, e2.symm⟩
    have key : ∀ q ∈ ks, KeyAt s1.heap q.2 q.1 := fun q hq => ⟨NestedIs.at (fun b o _ _ e _ => old b o e) _ _ (keys q hq).1, (keys q hq).2⟩
    have hp := key p (List.mem_of_getElem? ep')
    have own : ∀ q ∈ L, KeyAt s1.heap q.2 q.1 := fun q hq => let ⟨_, _, e⟩ := once.some' q hq; key q (List.mem_of_getElem? e)
    unfold setAdd
    refine wpAny_holding (wpAny_bind (pyHash_key p.2 _ _ s1 _ hp.1 (by have := hp.2; show A.units + 1 + 1 + 1 + p.2.depth < cLine; omega) ?_))
    refine put_key (s := { s1 with toks := s1.toks + p.2.draws }) B own hp (by show A.units + 1 + 1 + 1 + 8 < cLine; omega) (once.few few) (fun mem => ?_) fun out h' L' ep2 t2 but B' pm => ?_
    · refine hR _ _ ⟨old, ⟨s1.toks + p.2.draws, by rw [es]⟩, L, ep, t, B, once.same ep' mem⟩ (W.frame _ s1 _ _ st1 (Nat.le_add_right _ _) fun _ _ _ e => e)
    · have ne : ∀ b o, s.heap.get? b = some o -> b ≠ s.heap.objs.size := fun b o e => Nat.ne_of_lt (Heap.lt_size e)
      refine hR _ _ ⟨fun b o e => (but.2 b (ne b o e)).trans (old b o e), ⟨s1.toks + p.2.draws, by rw [es]⟩, L', ep2, t2, B', once.more ep' out pm⟩ (W.frame _ s1 _ _ st1 (Nat.le_add_right _ _) fun b hb o e => (but.2 b fun z => ?_).trans e)
      rw [z, two] at hb
      simp only [List.mem_cons, List.not_mem_nil, or_false] at hb
      rcases hb with z | z
      · exact Nat.ne_of_lt (Nat.lt_succ_self _) z
      · exact Nat.ne_of_gt lt z
  · rintro s1 ⟨old, ⟨tk, es⟩, L, ep, t, B, once⟩
    rw [many] at once
    rw [es]
    exact ⟨rfl, hQ s1.heap tk L ep t B once old⟩
end
end Sa
set_option maxHeartbeats 1600000
namespace Sa
open PySem PySem.Spec PyProof.Rows L2
/-- data as keys -/
abbrev keyOf (p : Addr × PyData) : Addr × NestedKey := (p.1, nk p.2)
/-- the set at a has L, in some table -/
def Held (w : World) (h : Heap) (a : Addr) (L : Keys) : Prop := ∃ ep t, Bears w h a L ep t
/-- such a set, as a tracked thing -/
def KsO (w : World) (a : Addr) (L : Keys) : HO := .ext fun h => Held w h a L
theorem Bears.few {w : World} {h : Heap} {a : Addr} {L : Keys} {ep : Nat} {t : SetTable} (B : Bears w h a L ep t) : L.length < 100 := by
  have := B.wide
  rcases B.tab.mok with e | e | e <;> rw [e] at this <;> omega
theorem Held.tracked {P : Program} {w : World} {H : Hp} {h : Heap} {a : Addr} {L : Keys} (x : Held w h a L) : ObjOk P w H h a (KsO w a L) := by
  refine ⟨x, ?_, fun h1 h2 ⟨ep, t, B⟩ kept => ?_⟩
  · obtain ⟨ep, t, B⟩ := x
    exact B.obj.imp fun o r => r.1
  · obtain ⟨o, at', r⟩ := B.obj
    exact ⟨ep, t, ⟨o, kept o at', r⟩, B.tab, B.led, B.wide⟩
/-- the refs of some pairs in another order: the pairs in another order -/
theorem reorder {α : Type} {f : α -> Value} : ∀ {vs : List Value} {L : List α}, vs.Perm (L.map f) -> ∃ L' : List α, L'.Perm L /\ vs = L'.map f := by
  intro vs L pm
  generalize e : L.map f = us at pm
  induction pm generalizing L with
  | nil => exact ⟨[], by rw [List.map_eq_nil_iff.mp e], rfl⟩
  | cons x _ ih =>
    cases L with
    | nil => cases e
    | cons p L =>
      cases e
      obtain ⟨L', pm, rfl⟩ := ih rfl
      exact ⟨p :: L', pm.cons p, rfl⟩
  | swap x y l =>
    match L, e with
    | p :: q :: L, e =>
      cases e
      exact ⟨q :: p :: L, .swap p q L, rfl⟩
  | trans _ _ ih1 ih2 =>
    obtain ⟨L2, pm2, e2⟩ := ih2 e
    obtain ⟨L1, pm1, e1⟩ := ih1 e2.symm
    exact ⟨L1, pm1.trans pm2, e1⟩
theorem each_refs {α β : Type} {R : α -> β -> Prop} {f : β -> α} : ∀ (L : List β), (∀ p ∈ L, R (f p) p) -> PySem.W.EachIs R (L.map f) L
  | [], _ => .nil
  | p :: L, h => .cons (h p List.mem_cons_self) (each_refs L fun q hq => h q (List.mem_cons_of_mem _ hq))
theorem refs_each : ∀ {out : List Value} {L : List (Addr × PyData)}, PySem.W.EachIs (fun v b => v = Value.ref b.1) out L -> out = L.map fun p => Value.ref p.1
  | [], [], _ => rfl
  | v :: out, p :: L, .cons e r => by
    rw [e, refs_each r]
    rfl
theorem refs_of : ∀ {L : List (Addr × PyData)} {us : List Value}, Vals (L.map fun p => V.ref p.1) us -> us = L.map fun p => Value.ref p.1
  | [], us, r => by cases r; rfl
  | p :: L, us, r => by
    cases r with
    | cons r1 r2 =>
      cases r1
      rw [refs_of r2]
      rfl
theorem vals_of : ∀ (L : List (Addr × PyData)), Vals (L.map fun p => V.ref p.1) (L.map fun p => Value.ref p.1)
  | [] => .nil
  | _ :: L => .cons rfl (vals_of L)
section
variable {P : Program} {w : World} {A : Around} {E : Value -> Shared -> Prop} {s : Shared}
/-- sorted(set): the things of the set as data say -/
theorem sorted_held {a : Addr} {L : List (Addr × PyData)} {Q : Value -> Shared -> Prop} (calm : A.handled = none) (hK : Held w s.heap a (L.map keyOf)) (reads : ∀ p ∈ L, ∃ as, Reads s.heap (.ref p.1) p.2 as) (alike : PySem.W.AllAlike (L.map (·.2))) (tups : ∀ p ∈ L, ∃ y r, p.2 = .tuple (y :: r))
    (deep : ∀ p ∈ L, A.units + 2 + p.2.depth < cLine)
    (hQ : ∀ s' l (c : Nat) (L' : List (Addr × PyData)), (∀ b o, s.heap.get? b = some o -> s'.heap.get? b = some o) -> s'.gens = s.gens -> s'.os = s.os -> s.heap.objs.size <= l -> L'.Perm L ->
      s'.heap.get? l = some (seqObj "list" ((L'.mergeSort (PySem.W.dataLe false (·.2))).map fun q => Value.ref q.1).toArray c) -> Q (.ref l) s') :
    wpAny (model P w) A (call (.builtin "sorted") [.ref a]) Q E s := by
  obtain ⟨ep, t, B⟩ := hK
  have few := B.few
  obtain ⟨o, at', ex, dt⟩ := B.obj
  rw [List.length_map] at few
  have vals : ((L.map keyOf).map (entOf w)).toArray.toList.map (·.2) = L.map fun p => Value.ref p.1 := by simp
  have line : ∀ n, n < 100 -> n <= sizeLine := fun n h => Nat.le_trans (Nat.le_of_lt h) (by decide)
  refine Calls.call_function_entry kind_sorted plain_sorted entry_sorted (args_sorted1 _) ?_
  refine wpAny_bind (m := checkCount "sorted" 1 1 _) (wpAny_pure (wpAny_bind (collect_set (A := A.in1) calm ⟨o, at', ex.1, dt⟩ B.fits (by simp only [List.size_toArray, List.length_map]; unfold scanBound; omega) B.tab.ris B.led fun s1 vs kept grown gens os pm => ?_)))
  rw [vals] at pm
  obtain ⟨L1, pm1, rfl⟩ := reorder pm
  have len := pm1.length_eq
  refine wpAny_bind (wpAny_newList ?_ (by rw [List.length_map, len]; exact line _ few))
  have atL : (s1.heap.push (seqObj "list" (L1.map fun p => Value.ref p.1).toArray 0)).get? s1.heap.objs.size = some (seqObj "list" (L1.map fun p => Value.ref p.1).toArray 0) := Heap.get?_push_size _ rfl
  have old : ∀ b ob, s.heap.get? b = some ob -> b < s1.heap.objs.size := fun b ob e => Heap.lt_size (kept b ob e)
  refine wpAny_bind (wpAny_holding (PySem.W.list_sort_data (R := fun v b => v = Value.ref b.1) (enc := fun b : Addr × PyData => b.2) (bs := L1) (s := { s1 with heap := s1.heap.push (seqObj "list" (L1.map fun p => Value.ref p.1).toArray 0) }) atL
    (each_refs L1 fun _ _ => rfl) (each_refs L1 fun p hp => ?_) (fun d1 h1 d2 h2 => alike d1 ((pm1.map (·.2)).mem_iff.mp h1) d2 ((pm1.map (·.2)).mem_iff.mp h2)) (.inl fun d hd => ?_) (by rw [len]; exact line _ few) (fun b hb => deep b (pm1.mem_iff.mp hb)) fun out _ each => ?_))
  · obtain ⟨as, r⟩ := reads p (pm1.mem_iff.mp hp)
    refine ⟨as, PyProof.Rows.Reads.keeps (fun b ob e => Heap.get?_push_of_some _ (kept b ob e)) r, fun z => ?_⟩
    obtain ⟨ob, e⟩ := PyProof.On.reads_mem_get r _ z
    exact Nat.lt_irrefl _ (old _ ob e)
  · obtain ⟨p, hp, rfl⟩ := List.mem_map.mp hd
    exact tups p (pm1.mem_iff.mp hp)
  · cases refs_each each
    obtain ⟨c, at2⟩ := sortedHeap_at (vs := L1.map fun p => Value.ref p.1) (out := ((L1.mergeSort (PySem.W.dataLe false (·.2))).map fun q => Value.ref q.1).toArray) atL
    refine wpAny_pure ⟨_, rfl, hQ _ s1.heap.objs.size c L1 (fun b ob e => ?_) gens os grown pm1 at2⟩
    refine (sortedHeap_old (Nat.ne_of_lt (old b ob e)) (by rw [size_push']; exact Nat.lt_succ_of_lt (old b ob e))).trans ?_
    exact Heap.get?_push_of_some _ (kept b ob e)
end
section
variable {X : Cx}
/-- what a key of a set has to be -/
def KeyOk (K : PySem.W.Frag) (H : Hp) (p : Addr × PyData) : Prop := Dp K H (.ref p.1) p.2 /\ flat p.2 = true /\ (nk p.2).depth <= 8
/-- set(xs), xs a list of nested tuples: its keys once each -/
def rSetK (K : PySem.W.Frag) (w : World) : List V -> Hp -> VK -> Prop := fun vs H Q => ∃ (l : Addr) (ds : List (Addr × PyData)), vs = [.ref l] /\ SqL K H l (ds.map fun p => V.ref p.1) /\ (∀ p ∈ ds, KeyOk K H p) /\ FewKeys (ds.map keyOf) /\
  ∀ a (L : List (Addr × PyData)), H a = none -> (∀ p ∈ L, p ∈ ds) -> (∀ p ∈ ds, nk p.2 ∈ L.map fun q => nk q.2) -> (L.map fun q => nk q.2).Nodup -> Q (.ref a) (upd H a (KsO w a (L.map keyOf)))
theorem cr_setK (calm : X.calm = true) (hu : X.A.units + 64 < cLine) : CallR X (.type "set") (rSetK X.K X.w) := by
  intro pins s σ H vs us Q I rel ⟨l, ds, ev, hl, keys, few, q⟩
  subst ev
  rw [Vals.ref1 rel]
  obtain ⟨its, rv, isL, _⟩ := I.list hl
  cases refs_of rv
  refine call_set_keys (ks := ds.map keyOf) (I.ok.hd calm) isL.isList (by simp) (fun p hp => ?_) few (by omega) fun h' tk M ep t B once kept => ?_
  · obtain ⟨d, hd, rfl⟩ := List.mem_map.mp hp
    obtain ⟨dp, fl, deep⟩ := keys d hd
    obtain ⟨as, r⟩ := Dp.reads I d.2 _ _ dp (rfl : RelV (.ref d.1) (.ref d.1))
    exact ⟨nk_is d.2 _ _ r fl, deep⟩
  · have from' : ∀ p ∈ M, ∃ d ∈ ds, keyOf d = p := fun p hp => by
      obtain ⟨j, _, ej⟩ := once.some' p hp
      exact List.mem_map.mp (List.mem_of_getElem? ej)
    obtain ⟨L, rfl, sub⟩ : ∃ L : List (Addr × PyData), M = L.map keyOf /\ ∀ p ∈ L, p ∈ ds := by
      clear B once kept q
      induction M with
      | nil => exact ⟨[], rfl, fun _ no => (nomatch no)⟩
      | cons m M ih =>
        obtain ⟨L, e, sub⟩ := ih fun p hp => from' p (List.mem_cons_of_mem _ hp)
        obtain ⟨d, hd, ed⟩ := from' m List.mem_cons_self
        exact ⟨d :: L, by rw [e, <- ed]; rfl, List.forall_mem_cons.mpr ⟨hd, sub⟩⟩
    refine ⟨.ref s.heap.objs.size, _, I.laid (t' := tk) kept (Nat.le_refl _) (Held.tracked ⟨ep, t, B⟩), rfl, q _ L (I.hok.fresh (Nat.le_refl _)) sub (fun p hp => ?_) ?_⟩
    rotate_left
    · have z := once.dif
      rwa [List.map_map] at z
    obtain ⟨j, jl, ej⟩ := List.getElem_of_mem hp
    have z := once.all j (keyOf p) (by simpa using jl) (by rw [List.getElem?_map, List.getElem?_eq_getElem jl, ej]; rfl)
    simpa using z
/-- sorted of it -/
def rSortK (K : PySem.W.Frag) (w : World) : List V -> Hp -> VK -> Prop := fun vs H Q => ∃ (a : Addr) (L : List (Addr × PyData)), vs = [.ref a] /\ H a = some (KsO w a (L.map keyOf)) /\ (∀ p ∈ L, Dp K H (.ref p.1) p.2) /\ PySem.W.AllAlike (L.map (·.2)) /\ (∀ p ∈ L, ∃ y r, p.2 = .tuple (y :: r)) /\ (∀ p ∈ L, p.2.depth <= 60) /\ L.length < 64 /\
  ∀ p (L' : List (Addr × PyData)), H p = none -> L'.Perm L -> Q (.ref p) (upd H p (.lst ((L'.mergeSort (PySem.W.dataLe false (·.2))).map fun q => V.ref q.1)))
theorem cr_sortK (calm : X.calm = true) (hu : X.A.units + 64 < cLine) : CallR X (.builtin "sorted") (rSortK X.K X.w) := by
  intro pins s σ H vs us Q I rel ⟨a, L, ev, ha, hd, alike, tups, deep, few, q⟩
  subst ev
  rw [Vals.ref1 rel]
  have held : Held X.w s.heap a (L.map keyOf) := (I.hok a _ ha).1
  refine sorted_held (I.ok.hd calm) held (fun p hp => Dp.reads I p.2 _ _ (hd p hp) (rfl : RelV (.ref p.1) (.ref p.1))) alike tups (fun p hp => by have := deep p hp; omega) fun s' l c L' kept gens os new pm at' => ?_
  have fresh : H l = none := I.hok.fresh new
  have small : ((L'.mergeSort (PySem.W.dataLe false (·.2))).map fun q => V.ref q.1).length <= sizeLine := by
    rw [List.length_map, List.length_mergeSort, pm.length_eq]
    exact Nat.le_trans (Nat.le_of_lt few) (by decide)
  obtain ⟨h2, g2, d2, t2, os2⟩ := s'
  cases (show os2 = s.os from os)
  exact ⟨.ref l, _, I.call (ch := []) (g' := g2) (d' := d2) (t' := t2) (Un.laid kept new fresh) (I.hok.laid (o := .lst ((L'.mergeSort (PySem.W.dataLe false (·.2))).map fun q => V.ref q.1)) kept new ⟨small, _, c, vals_of _, at'⟩) (by rw [show g2 = s.gens from gens]; exact I.bare) (fun _ no => (nomatch no)), rfl, q l L' fresh pm⟩
end
end Sa
set_option maxHeartbeats 3200000
namespace Sa
open PySem PySem.Spec PyProof.Rows L2
/-- an entry: the key's place, the key, the value -/
abbrev KEnt := Addr × NestedKey × V
abbrev kdRel (p : KEnt) (q : NestedKey × Addr × Value) : Prop := q.1 = p.2.1 /\ q.2.1 = p.1 /\ RelV p.2.2 q.2.2
/-- the dict at a, its keys left out of sight -/
def Kd0 (w : World) (h : Heap) (a : Addr) (L : List KEnt) : Prop := (a == sysModules) = false /\ L.length <= sizeLine /\ ∃ xs : List (NestedKey × Addr × Value), Paired kdRel L xs /\
  (∃ o es ep, h.get? a = some o /\ o.ExactDict /\ o.data = .dict es ep /\ es.toList = xs.map fun x => (⟨x.1.hash w, .ref x.2.1, x.2.2⟩ : DictEntry)) /\ (xs.map (·.1)).Nodup
/-- such a dict, as a tracked thing -/
def KdO (w : World) (a : Addr) (L : List KEnt) : HO := .ext fun h => Kd0 w h a L
/-- what is tracked at a says that such a dict is there -/
def KdAt (w : World) (H : Hp) (a : Addr) (L : List KEnt) : Prop := ∃ p, H a = some (.ext p) /\ ∀ h, p h -> Kd0 w h a L
theorem KdAt.of {w : World} {H : Hp} {a : Addr} {L : List KEnt} (e : H a = some (KdO w a L)) : KdAt w H a L := ⟨_, e, fun _ h => h⟩
theorem kdO_ok {P : Program} {w : World} {H : Hp} {h : Heap} {a : Addr} {L : List KEnt} (x : Kd0 w h a L) : ObjOk P w H h a (KdO w a L) := by
  obtain ⟨z, sm, xs, pr, ⟨o, es, ep, ho, r⟩, nd⟩ := id x
  exact ⟨x, ⟨o, ho⟩, fun h1 h2 q k => let ⟨z, sm, xs, pr, ⟨o, es, ep, ho, r⟩, nd⟩ := q; ⟨z, sm, xs, pr, ⟨o, es, ep, k o ho, r⟩, nd⟩⟩
theorem Kd0.full {P : Program} {w : World} {h : Heap} {a : Addr} {L : List KEnt} (x : Kd0 w h a L) (key : ∀ p ∈ L, KeyAt h p.2.1 p.1) : ∃ xs, Paired kdRel L xs /\ h.DictOfH (nestedKind P w) a xs := by
  obtain ⟨_, sm, xs, pr, ⟨o, es, ep, ho, ex, hd, he⟩, nd⟩ := x
  refine ⟨xs, pr, o, es, ep, ho, ex, hd, he, ?_, nd⟩
  clear he nd sm
  induction pr with
  | nil => intro x hx; cases hx
  | @cons p q L xs r _ ih =>
    intro x hx
    rcases List.mem_cons.mp hx with z | z
    · rw [z]
      obtain ⟨e1, e2, _⟩ := r
      rw [e1, e2]
      exact key p List.mem_cons_self
    · exact ih (fun p hp => key p (List.mem_cons_of_mem _ hp)) x z
theorem Kd0.of {P : Program} {w : World} {h : Heap} {a : Addr} {L : List KEnt} {xs : List (NestedKey × Addr × Value)} (z : (a == sysModules) = false) (sm : L.length <= sizeLine) (pr : Paired kdRel L xs) (hm : h.DictOfH (nestedKind P w) a xs) : Kd0 w h a L := by
  obtain ⟨o, es, ep, ho, ex, hd, he, _, nd⟩ := hm
  exact ⟨z, sm, xs, pr, ⟨o, es, ep, ho, ex, hd, he⟩, nd⟩
/-- what stands at a key; a key stored -/
def kdGet (L : List KEnt) (k : NestedKey) : Option V := (L.find? fun p => decide (p.2.1 = k)).map (·.2.2)
def kdPut (L : List KEnt) (a : Addr) (k : NestedKey) (v : V) : List KEnt := if (kdGet L k).isSome then L.map fun p => if p.2.1 = k then (p.1, p.2.1, v) else p else L ++ [(a, k, v)]
theorem kd_find {k : NestedKey} : ∀ {L : List KEnt} {xs : List (NestedKey × Addr × Value)}, Paired kdRel L xs -> (kdGet L k = none /\ atKey xs k = none) ∨ ∃ v p, kdGet L k = some v /\ atKey xs k = some p /\ RelV v p.2
  | _, _, .nil => .inl ⟨rfl, rfl⟩
  | p :: L, q :: xs, .cons ⟨e1, e2, r⟩ t => by
    by_cases h : p.2.1 = k
    · have h' : q.1 = k := e1.trans h
      exact .inr ⟨p.2.2, q.2, by simp [kdGet, h], by simp [atKey, h'], r⟩
    · have h' : ¬ q.1 = k := fun z => h (e1.symm.trans z)
      rcases kd_find t (k := k) with ⟨a, b⟩ | ⟨v, p', a, b, c⟩
      · refine .inl ⟨?_, ?_⟩
        · simpa [kdGet, h] using a
        · simpa [atKey, h'] using b
      · refine .inr ⟨v, p', ?_, ?_, c⟩
        · simpa [kdGet, h] using a
        · simpa [atKey, h'] using b
theorem kd_maps {k : NestedKey} {v : V} {u : Value} (rv : RelV v u) : ∀ {L : List KEnt} {xs : List (NestedKey × Addr × Value)}, Paired kdRel L xs -> Paired kdRel (L.map fun p => if p.2.1 = k then (p.1, p.2.1, v) else p) (xs.map (putAt k u))
  | _, _, .nil => .nil
  | p :: L, q :: xs, .cons ⟨e1, e2, r⟩ t => by
    refine .cons ?_ (kd_maps rv t)
    unfold putAt
    dsimp only
    by_cases h : p.2.1 = k
    · rw [if_pos h, if_pos (e1.trans h)]
      exact ⟨e1, e2, rv⟩
    · rw [if_neg h, if_neg (fun z => h (e1.symm.trans z))]
      exact ⟨e1, e2, r⟩
theorem kd_app {L L' : List KEnt} {xs xs' : List (NestedKey × Addr × Value)} (a : Paired kdRel L xs) (b : Paired kdRel L' xs') : Paired kdRel (L ++ L') (xs ++ xs') := by
  induction a with
  | nil => exact b
  | cons r _ ih => exact .cons r ih
theorem kd_stored {L : List KEnt} {xs : List (NestedKey × Addr × Value)} {k : NestedKey} {a : Addr} {v : V} {u : Value} (pr : Paired kdRel L xs) (rv : RelV v u) : Paired kdRel (kdPut L a k v) (storedH xs k a u) := by
  rcases kd_find pr (k := k) with ⟨h1, h2⟩ | ⟨v', p, h1, h2, _⟩
  · rw [storedH_new h2]
    unfold kdPut
    rw [h1, if_neg (by simp)]
    exact kd_app pr (.cons ⟨rfl, rfl, rv⟩ .nil)
  · rw [storedH_old h2]
    unfold kdPut
    rw [h1, if_pos (by rfl)]
    exact kd_maps rv pr
theorem kdPut_len (L : List KEnt) (a : Addr) (k : NestedKey) (v : V) : (kdPut L a k v).length <= L.length + 1 := by
  unfold kdPut
  split <;> simp
section
variable {X : Cx} {pins : List (Addr × Obj)} {σ : L2.St} {H : Hp} {s : Shared}
theorem kd_at {a : Addr} {L : List KEnt} (I : Inv X pins σ H s) (e : KdAt X.w H a L) : Kd0 X.w s.heap a L := let ⟨_, h, i⟩ := e; i _ (I.hok a _ h).1
/-- the keys stand -/
def KeysAt (K : PySem.W.Frag) (H : Hp) (L : List KEnt) : Prop := ∀ p ∈ L, ∃ d, Dp K H (.ref p.1) d /\ flat d = true /\ nk d = p.2.1 /\ (nk d).depth <= 8
theorem key_is {a : Addr} {d : PyData} (I : Inv X pins σ H s) (hd : Dp X.K H (.ref a) d) (f : flat d = true) (dp : (nk d).depth <= 8) : KeyAt s.heap (nk d) a := by
  obtain ⟨as, r⟩ := Dp.reads I d _ _ hd (rfl : RelV (.ref a) (.ref a))
  exact ⟨nk_is d _ as r f, dp⟩
theorem KeysAt.all {L : List KEnt} (I : Inv X pins σ H s) (h : KeysAt X.K H L) : ∀ p ∈ L, KeyAt s.heap p.2.1 p.1 := fun p hp => by
  obtain ⟨d, h1, h2, h3, h4⟩ := h p hp
  rw [<- h3]
  exact key_is I h1 h2 h4
theorem not_mods (I : Inv X pins σ H s) : (s.heap.objs.size == sysModules) = false := (dk_empty (P := X.prog) (w := X.w) (H := H) s.heap I.big).2.1
/-- {} -/
def tKdNew (w : World) : TE := fun _ H Q => ∀ p, H p = none -> Q (.ref p) (upd H p (KdO w p []))
theorem pe_kdNew {pos : Pos} : PE X (.Dict [] [] pos) (tKdNew X.w) := ⟨fun pins s σ H Q I h => by
  refine wpAny_Dict_empty ⟨.ref s.heap.objs.size, _, I.laid (a := s.heap.objs.size) (o := KdO X.w s.heap.objs.size []) (t' := s.toks) (fun _ _ q => Heap.get?_push_of_some _ q) (Nat.le_refl _) ?_, rfl, h _ (I.hok.fresh (Nat.le_refl _))⟩
  exact kdO_ok (Kd0.of (P := X.prog) (not_mods I) (Nat.zero_le _) .nil (Heap.DictOfH.new _))⟩
/-- d[k] = v -/
def rKdSet (K : PySem.W.Frag) (w : World) : TSet := fun o i v H Q => ∃ a L b d, o = .ref a /\ i = .ref b /\ KdAt w H a L /\ KeysAt K H L /\ Dp K H (.ref b) d /\ flat d = true /\ (nk d).depth <= 8 /\ L.length < sizeLine /\ Q (upd H a (KdO w a (kdPut L b (nk d) v)))
theorem kd_put {A : Around} {E : Value -> Shared -> Prop} {Q : Unit -> Shared -> Prop} {a b : Addr} {L : List KEnt} {d : PyData} {v : V} {u : Value} (hu : A.units + 64 < cLine) (I : Inv X pins σ H s) (ha : KdAt X.w H a L) (ks : KeysAt X.K H L) (hd : Dp X.K H (.ref b) d) (f : flat d = true) (dp : (nk d).depth <= 8) (sm : L.length < sizeLine) (rv : RelV v u)
    (q : ∀ s', Inv X pins σ (upd H a (KdO X.w a (kdPut L b (nk d) v))) s' -> Q () s') : wpAny (model X.prog X.w) A (setItem (.ref a) (.ref b) u) Q E s := by
  have k0 := kd_at I ha
  obtain ⟨xs, pr, hm⟩ := k0.full (P := X.prog) (ks.all I)
  have key := key_is I hd f dp
  have room : (nestedKind X.prog X.w).room A.in1 := by show A.units + 1 + 8 < cLine; omega
  refine wpAny_setItem_heap (hsz := by rw [<- Paired.length pr]; exact k0.2.1) room key hm fun h' hm' sb => q _ ?_
  have pl := kdPut_len L b (nk d) v
  refine I.write (by obtain ⟨_, z, _⟩ := ha; rw [z]; trivial) (.inl rfl) (fun c o hc e => (sb.2 c hc).trans e) ?_ (kdO_ok (Kd0.of (P := X.prog) k0.1 (by omega) (kd_stored pr rv) hm'))
  obtain ⟨o, _, _, e, _⟩ := hm'
  exact ⟨o, e⟩
theorem set_kd (hu : X.A.units + 64 < cLine) : PSet X (rKdSet X.K X.w) := by
  intro pins s σ H o i v ov iv u Q I ro ri rv h
  obtain ⟨a, L, b, d, rfl, rfl, ha, ks, hd, f, dp, sm, q⟩ := h
  cases ro
  cases ri
  exact kd_put hu I ha ks hd f dp sm rv fun s' I' => ⟨_, I', q⟩
end
end Sa
set_option maxHeartbeats 1600000
namespace Sa
open PySem PySem.Spec PyProof.Rows L2 PySem.W PySem.SeqAt
mutual
/-- x < y can be asked: down to the first place where they differ they are alike -/
def near : PyData -> PyData -> Bool
  | .tuple xs, .tuple ys => nearAll xs ys
  | x, y => alike x y
def nearAll : List PyData -> List PyData -> Bool
  | x :: xs, y :: ys => if PyData.eqv x y = true then nearAll xs ys else near x y
  | _, _ => true
end
/-- the first pair that differs decides -/
def Lex (A : Around) (s : Shared) (fin k : Bool) : List (Value × Value) -> Prop
  | [] => k = fin
  | p :: r => ∃ e, EqAt A s p.1 p.2 e /\ (e = true -> Lex A s fin k r) /\ (e = false -> RcLt A s p.1 p.2 k)
theorem lt_tuples {A : Around} {s : Shared} {l b : Addr} {us vs : Array Value} {k : Bool} (h1 : s.heap.IsTuple l us) (h2 : s.heap.IsTuple b vs) (hu : A.units < cLine) (h : Lex A.in1 s (decide (us.size < vs.size)) k (us.toList.zip vs.toList)) : RcLt A s (.ref l) (.ref b) k := by
  intro prog w E Q q
  have meets : Meets (Builtin.«tuple.__lt__» ⟨[.ref l, .ref b], []⟩) fun A R s => s.heap.IsTuple l us /\ s.heap.IsTuple b vs /\ Lex A.in1 s (decide (us.size < vs.size)) k (us.toList.zip vs.toList) /\ R (.ok (.ret (.bool k))) s :=
    .of_wp fun prog w A R s ⟨t1, t2, lex, r⟩ => by
      refine wpAny_bind (m := slotArgs "__lt__" 1 _) (wpAny_pure ?_)
      refine wpAny_bind (wpAny_isInstance t2.typeIs AutoSeq1.sub_tuple_tuple ?_)
      rw [if_neg (by decide)]
      refine wpAny_bind (m := Builtin.Tuple.tupleItemsOf _) (tupleItemsOf_ (t := l) t1 (wpAny_bind (m := Builtin.Tuple.tupleItemsOf _) (tupleItemsOf_ (t := b) t2 ?_)))
      refine wpAny_bind (wpAny_forIn_list _ (fun rest acc s' => acc = (none, ()) /\ s' = s /\ Lex A.in1 s (decide (us.size < vs.size)) k rest) _ ?_ ?_ _ _ ⟨rfl, rfl, lex⟩)
      · rintro p rest acc s' ⟨rfl, rfl, e, eq, yes, no⟩
        refine wpAny_bind (eq _ _ _ _ ?_)
        cases e with
        | true => exact wpAny_pure ⟨rfl, rfl, yes rfl⟩
        | false => exact wpAny_bind (wpAny_rule (wpAny_bind (no rfl _ _ _ _ (wpAny_bind (wpAny_pure (wpAny_pure (wpAny_pure ⟨_, rfl, r⟩)))))))
      · rintro acc s' ⟨rfl, rfl, e⟩
        cases e
        refine wpAny_pure ⟨_, rfl, ?_⟩
        exact r
  exact richCompare_meets_room (op := .Lt) h1.typeIs h2.typeIs F.slot_tuple_lt F.entry_tuple_lt (F.args_tuple_lt_2 _ _) meets ⟨h1, h2, h, fun z => (nomatch z), q⟩ hu
mutual
theorem toks_same : ∀ (x y : PyData), flat x = true -> flat y = true -> PyData.eqv x y = true -> keyToks x = keyToks y
  | .tuple xs, y, fx, fy, e => by
    cases y with
    | tuple ys =>
      rw [keyToks, keyToks]
      exact toksAll_same xs ys fx fy (by rw [PyData.eqv] at e; exact e)
    | _ => simp [PyData.eqv] at e
  | .none, y, fx, fy, e => by cases y <;> simp_all [PyData.eqv, keyToks]
  | .bool p, y, fx, fy, e => by cases y <;> simp_all [PyData.eqv, keyToks]
  | .int p, y, fx, fy, e => by cases y <;> simp_all [PyData.eqv, keyToks]
  | .str p, y, fx, fy, e => by cases y <;> simp_all [PyData.eqv, keyToks]
  | .list _, _, fx, _, _ => by cases fx
  | .dict _, _, fx, _, _ => by cases fx
theorem toksAll_same : ∀ (xs ys : List PyData), flats xs = true -> flats ys = true -> PyData.eqvAll xs ys = true -> keyToksAll xs = keyToksAll ys
  | [], [], _, _, _ => rfl
  | [], _ :: _, _, _, e => by simp [PyData.eqvAll] at e
  | _ :: _, [], _, _, e => by simp [PyData.eqvAll] at e
  | x :: xs, y :: ys, fx, fy, e => by
    rw [eqv_all_cons, Bool.and_eq_true] at e
    simp only [flats, Bool.and_eq_true] at fx fy
    rw [toks_all_cons, toks_all_cons, toks_same x y fx.1 fy.1 e.1, toksAll_same xs ys fx.2 fy.2 e.2]
end
end Sa
namespace Sa
open PySem PySem.Spec PyProof.Rows L2 PySem.W PySem.SeqAt
abbrev lx (p q : List (Int ⊕ List Nat)) : Bool := PyProof.Rows.lexLt itemOrd p q
/-- two atoms that differ -/
theorem atom_off {p q : Int ⊕ List Nat} (ne : p ≠ q) (l m : List (Int ⊕ List Nat)) : lx ([p] ++ l) ([q] ++ m) = lx [p] [q] := lex_atom ne l m
mutual
theorem toks_off : ∀ (x y : PyData), near x y = true -> flat x = true -> flat y = true -> PyData.eqv x y = false -> ∀ l m, lx (keyToks x ++ l) (keyToks y ++ m) = lx (keyToks x) (keyToks y)
  | .tuple xs, y, n, fx, fy, e => by
    cases y with
    | tuple ys =>
      intro l m
      rw [keyToks, keyToks]
      exact toksAll_off xs ys (by rw [near] at n; exact n) fx fy (by rw [PyData.eqv] at e; exact e) l m
    | _ => simp [near, alike] at n
  | .none, y, n, fx, fy, e => by cases y <;> simp_all [near, alike, PyData.eqv]
  | .bool p, y, n, fx, fy, e => by
    cases y with
    | bool q =>
      intro l m
      rw [keyToks, keyToks]
      exact atom_off (fun z => by cases p <;> cases q <;> simp_all [PyData.eqv]) l m
    | _ => simp [near, alike] at n
  | .int p, y, n, fx, fy, e => by
    cases y with
    | int q =>
      intro l m
      rw [keyToks, keyToks]
      exact atom_off (fun z => by cases z; simp [PyData.eqv] at e) l m
    | _ => simp [near, alike] at n
  | .str p, y, n, fx, fy, e => by
    cases y with
    | str q =>
      intro l m
      rw [keyToks, keyToks]
      exact atom_off (fun z => by cases str_of_cps (Sum.inr.inj z); simp [PyData.eqv] at e) l m
    | _ => simp [near, alike] at n
  | .list _, _, _, fx, _, _ => by cases fx
  | .dict _, _, _, fx, _, _ => by cases fx
theorem toksAll_off : ∀ (xs ys : List PyData), nearAll xs ys = true -> flats xs = true -> flats ys = true -> PyData.eqvAll xs ys = false -> ∀ l m, lx (keyToksAll xs ++ l) (keyToksAll ys ++ m) = lx (keyToksAll xs) (keyToksAll ys)
  | [], [], _, _, _, e => by simp [PyData.eqvAll] at e
  | [], y :: ys, _, _, _, _ => by
    intro l m
    rw [toks_all_cons]
    exact lex_atom (by simp) l _ |>.trans (lex_atom (by simp) [] _).symm
  | x :: xs, [], _, _, _, _ => by
    intro l m
    rw [toks_all_cons]
    exact lex_atom (by simp) _ m |>.trans (lex_atom (by simp) _ []).symm
  | x :: xs, y :: ys, n, fx, fy, e => by
    intro l m
    simp only [flats, Bool.and_eq_true] at fx fy
    rw [toks_all_cons, toks_all_cons]
    simp only [List.cons_append, List.append_assoc, lx]
    rw [lex_self (O := itemOrd), lex_self (O := itemOrd)]
    rw [nearAll] at n
    by_cases eq : PyData.eqv x y = true
    · rw [if_pos eq] at n
      rw [eqv_all_cons, eq, Bool.true_and] at e
      rw [toks_same x y fx.1 fy.1 eq, lex_pre, lex_pre]
      exact toksAll_off xs ys n fx.2 fy.2 e l m
    · rw [if_neg eq] at n
      have off := toks_off x y n fx.1 fy.1 (by simpa using eq)
      exact (off _ _).trans (off _ _).symm
end
/-- how two rows of data stand: by the first place that differs -/
theorem toksAll_lt {x y : PyData} {xs ys : List PyData} (n : nearAll (x :: xs) (y :: ys) = true) (fx : flats (x :: xs) = true) (fy : flats (y :: ys) = true) :
    lx (keyToksAll (x :: xs)) (keyToksAll (y :: ys)) = if PyData.eqv x y = true then lx (keyToksAll xs) (keyToksAll ys) else dataLt x y := by
  simp only [flats, Bool.and_eq_true] at fx fy
  rw [toks_all_cons, toks_all_cons]
  unfold lx
  rw [lex_self (O := itemOrd)]
  split
  · rename_i eq
    rw [toks_same x y fx.1 fy.1 eq, lex_pre]
  · rename_i eq
    rw [nearAll, if_neg eq] at n
    exact toks_off x y n fx.1 fy.1 (by simpa using eq) _ _
mutual
theorem flat_plain : ∀ d : PyData, flat d = true -> d.plain = true
  | .tuple ds, f => by rw [PyData.plain]; exact flats_plain ds f
  | .none, _ => rfl
  | .bool _, _ => rfl
  | .int _, _ => rfl
  | .str _, _ => rfl
  | .list _, f => by cases f
  | .dict _, f => by cases f
theorem flats_plain : ∀ ds : List PyData, flats ds = true -> PyData.plainAll ds = true
  | [], _ => rfl
  | d :: ds, f => by
    simp only [flats, Bool.and_eq_true] at f
    rw [PyData.plainAll, flat_plain d f.1, flats_plain ds f.2]
    rfl
end
mutual
/-- x < y, asked -/
theorem rcLt_near : ∀ (x y : PyData) (A : Around) (s : Shared) (a b : Value) (as bs : List Addr), Reads s.heap a x as -> Reads s.heap b y bs -> flat x = true -> flat y = true -> near x y = true -> x ≠ .none -> A.units + min x.depth y.depth < cLine -> RcLt A s a b (dataLt x y)
  | .tuple xs, y, A, s, a, b, as, bs, ra, rb, fx, fy, n, _, hu => by
    cases y with
    | tuple ys =>
      cases ra with
      | @tuple l o vs k1 _ as' ho hc hd ra' =>
        cases rb with
        | @tuple l2 o2 vs2 k2 _ bs' ho2 hc2 hd2 rb' =>
          rw [dataLt_tuple]
          rw [near] at n
          have dep : A.in1.units + min (PyData.depthAll xs) (PyData.depthAll ys) < cLine := by
            simp only [PyData.depth] at hu
            show A.units + 1 + _ < _
            omega
          refine lt_tuples ⟨o, ho, hc, _, hd⟩ ⟨o2, ho2, hc2, _, hd2⟩ (by omega) ?_
          have l1 : vs.size = xs.length := by simpa using ReadsAll.length _ _ _ ra'
          have l2 : vs2.size = ys.length := by simpa using ReadsAll.length _ _ _ rb'
          rw [l1, l2]
          exact lex_near xs ys A.in1 s vs.toList vs2.toList _ _ ra' rb' fx fy n dep
    | _ => simp [near, alike] at n
  | .none, _, _, _, _, _, _, _, _, _, _, _, _, z, _ => absurd rfl z
  | .bool p, y, A, s, a, b, as, bs, ra, rb, fx, fy, n, z, hu => rcLt_alike _ _ A s a b as bs ra rb (by cases y <;> simp_all [near]) z hu
  | .int p, y, A, s, a, b, as, bs, ra, rb, fx, fy, n, z, hu => rcLt_alike _ _ A s a b as bs ra rb (by cases y <;> simp_all [near]) z hu
  | .str p, y, A, s, a, b, as, bs, ra, rb, fx, fy, n, z, hu => rcLt_alike _ _ A s a b as bs ra rb (by cases y <;> simp_all [near]) z hu
  | .list _, _, _, _, _, _, _, _, _, _, fx, _, _, _, _ => by cases fx
  | .dict _, _, _, _, _, _, _, _, _, _, fx, _, _, _, _ => by cases fx
theorem lex_near : ∀ (xs ys : List PyData) (A : Around) (s : Shared) (vs ws : List Value) (as bs : List Addr), ReadsAll s.heap vs xs as -> ReadsAll s.heap ws ys bs -> flats xs = true -> flats ys = true -> nearAll xs ys = true -> A.units + min (PyData.depthAll xs) (PyData.depthAll ys) < cLine ->
    Lex A s (decide (xs.length < ys.length)) (lx (keyToksAll xs) (keyToksAll ys)) (vs.zip ws)
  | [], [], A, s, _, _, _, _, ra, rb, _, _, _, _ => by
    cases ra
    exact lex_irrefl (O := itemOrd) _
  | [], y :: ys, A, s, _, _, _, _, ra, rb, _, _, _, _ => by
    cases ra
    rw [toks_all_cons]
    exact (lex_atom (by simp) [] _).trans rfl
  | x :: xs, [], A, s, _, _, _, _, ra, rb, _, _, _, _ => by
    cases ra
    cases rb
    rw [toks_all_cons]
    exact (lex_atom (by simp) _ []).trans rfl
  | x :: xs, y :: ys, A, s, _, _, _, _, ra, rb, fx, fy, n, hu => by
    cases ra with
    | @cons v d as' vs ds as'' r1 r2 =>
      cases rb with
      | @cons v2 d2 bs' vs2 ds2 bs'' q1 q2 =>
        have lt := toksAll_lt n fx fy
        simp only [flats, Bool.and_eq_true] at fx fy
        rw [nearAll] at n
        simp only [PyData.depthAll] at hu
        refine ⟨PyData.eqv x y, eqAt_plain x y A s _ _ _ _ r1 q1 (flat_plain x fx.1) (flat_plain y fy.1) (by omega), fun e => ?_, fun e => ?_⟩
        · rw [if_pos e] at n lt
          rw [lt]
          have := lex_near xs ys A s _ _ _ _ r2 q2 fx.2 fy.2 n (by omega)
          have e2 : decide ((x :: xs).length < (y :: ys).length) = decide (xs.length < ys.length) := by simp
          rw [e2]
          exact this
        · rw [if_neg (by simp [e])] at n lt
          rw [lt]
          refine rcLt_near x y A s _ _ _ _ r1 q1 fx.1 fy.1 n (fun z => ?_) (by omega)
          subst z
          cases y <;> simp_all [near, alike, PyData.eqv]
end
end Sa
namespace Sa
open PySem PySem.Spec PyProof.Rows L2 PySem.W PySem.SeqAt
mutual
/-- a value reads as one datum -/
theorem reads_one {h : Heap} : ∀ (x y : PyData) (v : Value) (as bs : List Addr), flat x = true -> flat y = true -> Reads h v x as -> Reads h v y bs -> x = y
  | .tuple xs, y, v, as, bs, fx, fy, a, b => by
    cases a with
    | @tuple l o vs k _ _ ho hc hd ra =>
      cases b with
      | @tuple _ o2 vs2 k2 _ _ ho2 hc2 hd2 rb =>
        rw [ho] at ho2
        cases ho2
        rw [hd] at hd2
        cases hd2
        rw [readsAll_one xs _ _ _ _ fx fy ra rb]
      | list => cases fy
      | dict => cases fy
  | .none, y, v, as, bs, fx, fy, a, b => by cases a; cases b; rfl
  | .bool _, y, v, as, bs, fx, fy, a, b => by cases a; cases b; rfl
  | .int _, y, v, as, bs, fx, fy, a, b => by cases a; cases b; rfl
  | .str _, y, v, as, bs, fx, fy, a, b => by cases a; cases b; rfl
  | .list _, _, _, _, _, fx, _, _, _ => by cases fx
  | .dict _, _, _, _, _, fx, _, _, _ => by cases fx
theorem readsAll_one {h : Heap} : ∀ (xs ys : List PyData) (vs : List Value) (as bs : List Addr), flats xs = true -> flats ys = true -> ReadsAll h vs xs as -> ReadsAll h vs ys bs -> xs = ys
  | [], _, _, _, _, _, _, a, b => by cases a; cases b; rfl
  | x :: xs, ys, _, _, _, fx, fy, a, b => by
    cases a with
    | cons a1 a2 =>
      cases b with
      | cons b1 b2 =>
        simp only [flats, Bool.and_eq_true] at fx fy
        rw [reads_one x _ _ _ _ fx.1 fy.1 a1 b1, readsAll_one xs _ _ _ _ fx.2 fy.2 a2 b2]
end
/-- what a list must be to be sorted: tuples of flat data, near one another, the first items of one type -/
structure Rows (ds : List PyData) : Prop where
  fl : ∀ d ∈ ds, flat d = true
  nr : ∀ d ∈ ds, ∀ d' ∈ ds, near d d' = true
  tup : ∀ d ∈ ds, ∃ x r, d = .tuple (x :: r)
  one : ∃ T, (T == T) = true /\ ∀ x r, PyData.tuple (x :: r) ∈ ds -> dataType x = T
open Classical in
theorem Rows.key {h : Heap} {ds : List PyData} (R : Rows ds) {v : Value} {d : PyData} {as : List Addr} (hd : d ∈ ds) (r : Reads h v d as) : (dataKind h ds).keyOf v = some (keyToks d) := by
  have q : ∃ d, d ∈ ds /\ ∃ as, Reads h v d as := ⟨d, hd, as, r⟩
  show (if q : ∃ d, d ∈ ds /\ ∃ as, Reads h v d as then some (keyToks q.choose) else none) = _
  rw [dif_pos q]
  obtain ⟨m, bs, r2⟩ := q.choose_spec
  rw [reads_one _ _ v _ _ (R.fl _ m) (R.fl _ hd) r2 r]
theorem near_atom {x y : PyData} (no : ∀ t, x ≠ .tuple t) (n : near x y = true) : alike x y = true := by
  unfold near at n
  split at n
  · exact absurd rfl (no _)
  · exact n
section
variable {prog : Program} {w : World} {A : Around} {s : Shared}
/-- the first pair that differs decides, as list.sort asks it -/
theorem kat_near {b fin : Bool} {Q : Bool -> Shared -> Prop} : ∀ (xs ys : List PyData) (i : Nat) (vs ws : List Value) (as bs : List Addr), ReadsAll s.heap vs xs as -> ReadsAll s.heap ws ys bs -> flats xs = true -> flats ys = true -> nearAll xs ys = true -> A.units + min (PyData.depthAll xs) (PyData.depthAll ys) < cLine ->
    (b = true -> i = 0 -> ∀ x r y q, xs = x :: r -> ys = y :: q -> (∀ t, x ≠ .tuple t)) -> fin = decide (xs.length < ys.length) -> Q (lx (keyToksAll xs) (keyToksAll ys)) s -> KatLex prog w A b fin Q (vs.zip ws) i s
  | [], [], i, _, _, _, _, ra, rb, _, _, _, _, _, hf, q => by
    cases ra
    subst hf
    have e : lx (keyToksAll []) (keyToksAll []) = false := lex_irrefl (O := itemOrd) _
    rw [e] at q
    exact q
  | [], y :: ys, i, _, _, _, _, ra, rb, _, _, _, _, _, hf, q => by
    cases ra
    subst hf
    have e : lx (keyToksAll []) (keyToksAll (y :: ys)) = true := by rw [toks_all_cons]; exact (lex_atom (by simp) [] _).trans rfl
    rw [e] at q
    exact q
  | x :: xs, [], i, _, _, _, _, ra, rb, _, _, _, _, _, hf, q => by
    cases ra
    cases rb
    subst hf
    have e : lx (keyToksAll (x :: xs)) (keyToksAll []) = false := by rw [toks_all_cons]; exact (lex_atom (by simp) _ []).trans rfl
    rw [e] at q
    exact q
  | x :: xs, y :: ys, i, _, _, _, _, ra, rb, fx, fy, n, hu, first, hf, q => by
    cases ra with
    | @cons v d as' vs ds as'' r1 r2 =>
      cases rb with
      | @cons v2 d2 bs' vs2 ds2 bs'' q1 q2 =>
        rw [toksAll_lt n fx fy] at q
        simp only [flats, Bool.and_eq_true] at fx fy
        rw [nearAll] at n
        simp only [PyData.depthAll] at hu
        refine kat_cons (eqAt_plain x y A s _ _ _ _ r1 q1 (flat_plain x fx.1) (flat_plain y fy.1) (by omega) prog w _ _ (kat_go (fun e => ?_) fun e => ?_))
        · rw [if_pos e] at n q
          refine kat_yes (kat_near xs ys (i + 1) _ _ _ _ r2 q2 fx.2 fy.2 n (by omega) (fun _ z => by omega) ?_ q)
          rw [hf]
          simp
        · rw [if_neg (by simp [e])] at n q
          have nn : x ≠ .none := fun z => by
            subst z
            cases y <;> simp_all [near, alike, PyData.eqv]
          refine kat_no ?_
          by_cases f : (b && i == 0) = true
          · rw [f]
            simp only [Bool.and_eq_true, beq_iff_eq] at f
            have no := first f.1 f.2 x xs y ys rfl rfl
            exact oneLt_alike (fun _ => no) r1 q1 (near_atom no n) nn (by omega) q
          · rw [show (b && i == 0) = false by simpa using f]
            exact kat_one _ _ (rcLt_near x y A s _ _ _ _ r1 q1 fx.1 fy.1 n nn (by omega) prog w _ (PySem.W.BoolBack Q) q)
theorem Rows.sorts {vs : List Value} {ds : List PyData} (R : Rows ds) (e : EachIs (fun v d => ∃ as, Reads s.heap v d as) vs ds) (hu : ∀ d ∈ ds, A.units + d.depth < cLine) : SortsAt prog w A s (dataKind s.heap ds) vs := by
  obtain ⟨T, TT, one⟩ := R.one
  refine ⟨fun v hv => ?_, tuples' (T != Value.type "tuple"), fun E x y a b Q ex ey q => ?_, fun two E Q q => ?_⟩
  · obtain ⟨d, hd, as, r⟩ := e.left v hv
    exact ⟨_, R.key hd r⟩
  · obtain ⟨d, as, hd, r, rfl⟩ := dataKind_inv ex
    obtain ⟨d', bs, hd', r', rfl⟩ := dataKind_inv ey
    obtain ⟨x0, xr, rfl⟩ := R.tup d hd
    obtain ⟨y0, yr, rfl⟩ := R.tup d' hd'
    cases r with
    | @tuple l o us k _ _ ho hc hd1 ra =>
      cases r' with
      | @tuple l2 o2 us2 k2 _ _ ho2 hc2 hd2 rb =>
        have n := R.nr _ hd _ hd'
        rw [near] at n
        have dep := hu _ hd
        simp only [PyData.depth] at dep
        refine kat_lt ho hd1 ho2 hd2 (kat_near _ _ 0 _ _ _ _ ra rb (R.fl _ hd) (R.fl _ hd') n (by omega) (fun tt _ x r y q' e1 e2 t z => ?_) ?_ ?_)
        · cases e1
          subst z
          rw [<- one _ _ hd] at tt
          simp [dataType] at tt
        · have l1 := ReadsAll.length _ _ _ ra
          have l2 := ReadsAll.length _ _ _ rb
          rw [Array.length_toList] at l1 l2
          rw [l1, l2]
        · have : lx (keyToksAll (x0 :: xr)) (keyToksAll (y0 :: yr)) = (dataKind s.heap ds).blt (keyToks (.tuple (x0 :: xr))) (keyToks (.tuple (y0 :: yr))) := by
            rw [keyToks, keyToks]
            rfl
          rw [this]
          exact q
  · obtain ⟨fs, kt, len, each⟩ := each_katTups e R.tup
    refine kat_kind kt (by omega) (fun f hf => ?_) TT q
    obtain ⟨x, r, as, m, rd⟩ := each f hf
    have := looks_reads (M := model prog w) rd
    rwa [one x r m] at this
/-- list.sort of such a list -/
theorem Rows.list_sort {β : Type} {R : Value -> β -> Prop} {enc : β -> PyData} {bs : List β} {vs : List Value} {a : Addr} {n : Nat} {Q : Value -> Shared -> Prop} {E : Value -> Shared -> Prop} (rows : Rows (bs.map enc)) (ho : s.heap.get? a = some (seqObj "list" vs.toArray n)) (e : EachIs R vs bs)
    (er : EachIs (fun v b => ∃ as, Reads (sortingHeap s.heap a vs) v (enc b) as) vs bs) (hL : bs.length <= sizeLine) (hu : ∀ b ∈ bs, A.units + 1 + (enc b).depth < cLine)
    (h : ∀ out, out.length = bs.length -> EachIs R out (bs.mergeSort (dataLe false enc)) -> Q .none { s with heap := sortedHeap s.heap a vs (List.toArray out) }) :
    wpAny (model prog w) A (call (.builtin "list.sort") [.ref a]) Q E s := by
  have em := each_map (R := fun v d => ∃ as, Reads (sortingHeap s.heap a vs) v d as) enc er
  have keys : EachIs (fun v b => (dataKind (sortingHeap s.heap a vs) (bs.map enc)).keyOf v = some (keyToks (enc b))) vs bs := each_of_map enc ((each_mem em).mono fun _ _ ⟨⟨_, r⟩, hd⟩ => rows.key hd r)
  have sorts : SortsAt prog w A.in1 { s with heap := sortingHeap s.heap a vs } (dataKind (sortingHeap s.heap a vs) (bs.map enc)) vs := rows.sorts (s := { s with heap := sortingHeap s.heap a vs }) em fun d hd => by
    obtain ⟨b, hb, rfl⟩ := List.mem_map.mp hd
    exact hu b hb
  refine wpAny_call_entry slot_list_sort ⟨_, ho, rfl⟩ entry_list_sort (list_sort_vals ho sorts (by rw [e.length]; exact hL) ⟨.none, rfl, ?_⟩) (args_list_sort _)
  exact h _ (by rw [sortVals_length false rfl]; exact e.length) (sortVals_each (κ := dataKind (sortingHeap s.heap a vs) (bs.map enc)) (fun b => keyToks (enc b)) e keys)
end
end Sa
namespace Sa
open PySem PySem.Spec PyProof.Rows L2 PySem.W DT L2.DX
/-- the datum of an entry -/
abbrev itD (e : PyData × PyData) : PyData := .tuple [e.1, e.2]
/-- an entry, its key and its value as data -/
abbrev KItem := KEnt × PyData × PyData
/-- what is known of an entry -/
structure ItemOk (K : PySem.W.Frag) (H : Hp) (z : KItem) : Prop where
  key : Dp K H (.ref z.1.1) z.2.1
  val : Dp K H z.1.2.2 z.2.2
  fl : flat z.2.1 = true
  nk : nk z.2.1 = z.1.2.1
section
variable {X : Cx} {pins : List (Addr × Obj)} {σ : L2.St} {H : Hp} {s : Shared}
theorem kd_raw {a : Addr} {L : List KEnt} (I : Inv X pins σ H s) (e : KdAt X.w H a L) :
    (a == sysModules) = false /\ L.length <= sizeLine /\ ∃ es ep, DT.Raw s.heap a es ep /\ es.size = L.length /\ ∀ (j : Nat) (p : KEnt), L[j]? = some p -> ∃ u h, es[j]? = some (⟨h, .ref p.1, u⟩ : DictEntry) /\ RelV p.2.2 u := by
  obtain ⟨no, small, xs, pr, ⟨o, es, ep, at', ex, dt, each⟩, _⟩ := kd_at I e
  refine ⟨no, small, es, ep, ⟨o, at', ex, dt⟩, ?_, fun j p ej => ?_⟩
  · have := congrArg List.length each
    rw [Array.length_toList, List.length_map, <- Paired.length pr] at this
    exact this
  · have find : ∀ {L : List KEnt} {xs : List (NestedKey × Addr × Value)}, Paired kdRel L xs -> ∀ j : Nat, L[j]? = some p -> ∃ q, xs[j]? = some q /\ kdRel p q := by
      intro L xs pr
      induction pr with
      | nil => intro j h; simp at h
      | @cons p' q L xs r _ ih =>
        intro j h
        cases j with
        | zero =>
          cases (show some p' = some p from h)
          exact ⟨q, rfl, r⟩
        | succ j => exact ih j (by simpa using h)
    obtain ⟨q, eq, k1, k2, rv⟩ := find pr j ej
    refine ⟨q.2.2, q.1.hash X.w, ?_, rv⟩
    rw [<- Array.getElem?_toList, each, List.getElem?_map, eq, <- k2]
    rfl
end
end Sa
namespace Sa
open PySem PySem.Spec PySem.Calls PyProof.Rows L2 PySem.W DT L2.DX
section
variable {X : Cx} {pins : List (Addr × Obj)} {σ : L2.St} {H : Hp} {s : Shared}
/-- sorted(d): the keys, rising -/
def rKdKeys (K : PySem.W.Frag) (w : World) : List V -> Hp -> VK -> Prop := fun vs H Q => ∃ (a : Addr) (L : List KEnt) (Z : List (Addr × PyData)), vs = [.ref a] /\ KdAt w H a L /\ L.map (·.1) = Z.map (·.1) /\ (∀ z ∈ Z, Dp K H (.ref z.1) z.2) /\ Rows (Z.map (·.2)) /\ (∀ z ∈ Z, z.2.depth <= 60) /\
  ∀ l, H l = none -> Q (.ref l) (upd H l (.lst ((Z.mergeSort (dataLe false (·.2))).map fun z => V.ref z.1)))
theorem cr_kdKeys (calm : X.calm = true) (hu : X.A.units + 128 < cLine) : CallR X (.builtin "sorted") (rKdKeys X.K X.w) := by
  intro pins s σ H vs us Q I rel ⟨a, L, Z, ev, ha, keq, data, rows, deep, q⟩
  subst ev
  rw [Vals.ref1 rel]
  obtain ⟨no, small, es, ep, raw, size, each⟩ := kd_raw I ha
  have lenZ : Z.length = L.length := by have := congrArg List.length keq; simpa using this.symm
  refine call_function_entry kind_sorted plain_sorted entry_sorted (args_sorted1 _) ?_
  unfold Builtin.«sorted»
  refine wpAny_bind (m := checkCount "sorted" 1 1 _) (wpAny_pure ?_)
  refine wpAny_bind (kdu_collect (A := X.A.in1) (KdlSrc.rawDict (d := a) (es := es) (ep := ep) no) (I.ok.hd calm) (show s.heap.DictRaw a es ep from raw) (by rw [size]; exact small) fun h' tk acc kept got => ?_)
  -- what came are the keys
  have keys : acc.toList = Z.map fun z => Value.ref z.1 := by
    refine List.ext_getElem? fun j => ?_
    by_cases hj : j < Z.length
    · have hz : Z[j]? = some Z[j] := List.getElem?_eq_getElem hj
      have hL : (L.map (·.1))[j]? = some Z[j].1 := by rw [keq, List.getElem?_map, hz]; rfl
      rw [List.getElem?_map] at hL
      obtain ⟨p, hp, e1⟩ := Option.map_eq_some_iff.mp hL
      obtain ⟨u, hh, ee, _⟩ := each j p hp
      have la : j < acc.size := by rw [got.1, size]; omega
      obtain ⟨lt, ek⟩ := got.2 j acc[j] (Array.getElem?_eq_getElem la)
      rw [Array.getElem?_toList, Array.getElem?_eq_getElem la, ek, List.getElem?_map, hz]
      have e3 := Array.getElem?_eq_getElem lt
      rw [ee] at e3
      have e4 := Option.some.inj e3
      rw [<- e4]
      simp only [Option.map_some, e1]
    · rw [List.getElem?_eq_none (by rw [Array.length_toList, got.1, size]; omega), List.getElem?_eq_none (by rw [List.length_map]; omega)]
  refine wpAny_bind (wpAny_newList ?_ (by rw [Array.length_toList, got.1, size]; exact small))
  rw [keys]
  have at1 : (h'.push (seqObj "list" (Z.map fun z => Value.ref z.1).toArray 0)).get? h'.objs.size = some (seqObj "list" (Z.map fun z => Value.ref z.1).toArray 0) := Heap.get?_push_size _ rfl
  refine wpAny_bind (wpAny_holding (wpAny_mono ?_ (fun _ s' x => (x : _)) fun _ _ e => e))
  refine rows.list_sort (A := X.A.in1) (s := { s with heap := h'.push (seqObj "list" (Z.map fun z => Value.ref z.1).toArray 0), toks := tk }) (R := fun v z => v = Value.ref z.1) (enc := (·.2)) (bs := Z) at1 (each_refs Z fun _ _ => rfl)
    (each_refs Z fun z hz => ?_) (by rw [lenZ]; exact small) (fun z hz => by have := deep z hz; show X.A.units + 1 + 1 + z.2.depth < cLine; omega) fun out _ each2 => ?_
  · obtain ⟨xs, r⟩ := Dp.reads I z.2 _ _ (data z hz) (rfl : RelV (.ref z.1) (.ref z.1))
    have up : ∀ c o, s.heap.get? c = some o -> (sortingHeap (h'.push (seqObj "list" (Z.map fun z => Value.ref z.1).toArray 0)) h'.objs.size (Z.map fun z => Value.ref z.1)).get? c = some o := fun c o e => sortingHeap_old (Nat.ne_of_lt (Heap.lt_size (kept c o e))) (Heap.get?_push_of_some _ (kept c o e))
    exact ⟨xs, PyProof.Rows.Reads.keeps up r⟩
  · have outs : out = (Z.mergeSort (dataLe false (·.2))).map fun z => Value.ref z.1 := by
      have all : ∀ {xs : List Value} {ys : List (Addr × PyData)}, EachIs (fun v z => v = Value.ref z.1) xs ys -> xs = ys.map fun z => Value.ref z.1 := by
        intro xs ys h
        induction h with
        | nil => rfl
        | cons e _ ih => rw [e, ih]; rfl
      exact all each2
    subst outs
    have pm : (Z.mergeSort (dataLe false (·.2))).Perm Z := List.mergeSort_perm ..
    generalize Z.mergeSort (dataLe false (·.2)) = ts at pm q
    obtain ⟨c, at2⟩ := sortedHeap_at (out := (ts.map fun z => Value.ref z.1).toArray) at1
    generalize hh2 : sortedHeap (h'.push (seqObj "list" (Z.map fun z => Value.ref z.1).toArray 0)) h'.objs.size (Z.map fun z => Value.ref z.1) (ts.map fun z => Value.ref z.1).toArray = h2 at at2
    have up : ∀ b o, s.heap.get? b = some o -> h2.get? b = some o := fun b o e => by
      have lt := Heap.lt_size (kept b o e)
      rw [<- hh2, sortedHeap_old (Nat.ne_of_lt lt) (by rw [size_push']; exact Nat.lt_succ_of_lt lt)]
      exact Heap.get?_push_of_some _ (kept b o e)
    have none1 : s.heap.get? h'.objs.size = none := by
      cases e : s.heap.get? h'.objs.size with
      | none => rfl
      | some o => exact absurd (Heap.lt_size (kept _ _ e)) (Nat.lt_irrefl _)
    have none2 : H h'.objs.size = none := (I.hok.kept kept).fresh (Nat.le_refl _)
    have valsT : ∀ ts : List (Addr × PyData), Vals (ts.map fun t => V.ref t.1) (ts.map fun t => Value.ref t.1) := fun ts => by
      induction ts with
      | nil => exact .nil
      | cons t ts ih => exact .cons rfl ih
    have I1 : Inv X pins σ (upd H h'.objs.size (.lst (ts.map fun t => V.ref t.1))) { s with heap := h2, toks := tk } :=
      I.laidN (t' := tk) (o := .lst (ts.map fun t => V.ref t.1)) (fun b o e => up b o e) none1 none2 ⟨by rw [List.length_map, pm.length_eq, lenZ]; exact small, _, c, valsT ts, at2⟩
    exact wpAny_pure ⟨_, rfl, .ref _, _, I1, rfl, q _ none2⟩
end
end Sa
namespace Sa
open PySem PySem.Spec PySem.Calls PyProof.Rows L2 PySem.W DT L2.DX
section
variable {X : Cx} {pins : List (Addr × Obj)} {σ : L2.St} {H : Hp} {s : Shared}
/-- list(d): the keys in their order -/
def rKdAll (K : PySem.W.Frag) (w : World) : List V -> Hp -> VK -> Prop := fun vs H Q => ∃ (a : Addr) (L : List KEnt), vs = [.ref a] /\ KdAt w H a L /\
  ∀ l, H l = none -> Q (.ref l) (upd H l (.lst (L.map fun p => V.ref p.1)))
theorem cr_kdAll (calm : X.calm = true) : CallR X (.type "list") (rKdAll X.K X.w) := by
  intro pins s σ H vs us Q I rel ⟨a, L, ev, ha, q⟩
  subst ev
  rw [Vals.ref1 rel]
  obtain ⟨no, small, es, ep, raw, size, each⟩ := kd_raw I ha
  refine kdl_call (KdlSrc.rawDict (d := a) (es := es) (ep := ep) no) (I.ok.hd calm) (show s.heap.DictRaw a es ep from raw) (by rw [size]; exact small) fun h' tk acc c' kept at1 got => ?_
  have keys : acc = (L.map fun p => Value.ref p.1).toArray := by
    refine Array.ext' (List.ext_getElem? fun j => ?_)
    by_cases hj : j < L.length
    · have hz : L[j]? = some L[j] := List.getElem?_eq_getElem hj
      obtain ⟨u, hh, ee, _⟩ := each j L[j] hz
      have la : j < acc.size := by rw [got.1, size]; exact hj
      obtain ⟨lt, ek⟩ := got.2 j acc[j] (Array.getElem?_eq_getElem la)
      rw [Array.getElem?_toList, Array.getElem?_eq_getElem la, ek]
      have e3 := Array.getElem?_eq_getElem lt
      rw [ee] at e3
      have e4 := Option.some.inj e3
      rw [<- e4]
      simp [hj]
    · rw [List.getElem?_eq_none (by rw [Array.length_toList, got.1, size]; omega), List.getElem?_eq_none (by simp; omega)]
  rw [keys] at at1
  have none1 : s.heap.get? s.heap.objs.size = none := by
    cases e : s.heap.get? s.heap.objs.size with
    | none => rfl
    | some o => exact absurd (Heap.lt_size e) (Nat.lt_irrefl _)
  have none2 : H s.heap.objs.size = none := I.hok.fresh (Nat.le_refl _)
  have valsT : ∀ ts : List KEnt, Vals (ts.map fun t => V.ref t.1) (ts.map fun t => Value.ref t.1) := fun ts => by
    induction ts with
    | nil => exact .nil
    | cons t ts ih => exact .cons rfl ih
  have I1 : Inv X pins σ (upd H s.heap.objs.size (.lst (L.map fun t => V.ref t.1))) { s with heap := h', toks := tk } :=
    I.laidN (t' := tk) (o := .lst (L.map fun t => V.ref t.1)) (fun b o e => kept b o e) none1 none2 ⟨by rw [List.length_map]; exact small, _, c', valsT L, at1⟩
  exact ⟨.ref _, _, I1, rfl, q _ none2⟩
end
end Sa
namespace Sa
open PySem PySem.Spec PySem.Calls PyProof.Rows L2 PySem.W DT L2.DX
section
variable {X : Cx}
def rKdIn (K : PySem.W.Frag) (w : World) (neg : Bool) : R2 := fun x y H Q => ∃ a L b d, x = .ref b /\ y = .ref a /\ KdAt w H a L /\ KeysAt K H L /\ Dp K H (.ref b) d /\ flat d = true /\ (nk d).depth <= 8 /\ Q (.bl (if neg then !(kdGet L (nk d)).isSome else (kdGet L (nk d)).isSome)) H
theorem kd_some {k : NestedKey} {L : List KEnt} {xs : List (NestedKey × Addr × Value)} (pr : Paired kdRel L xs) : (atKey xs k).isSome = (kdGet L k).isSome := by
  rcases kd_find pr (k := k) with ⟨z, y⟩ | ⟨v, p, z, y, _⟩
  · rw [z, y]
    rfl
  · rw [z, y]
    rfl
theorem op_inKd (hu : X.A.units + 64 < cLine) : OpR X (compareOp .In) (rKdIn X.K X.w false) := by
  intro pins s σ H x y v u Q I rx ry h
  obtain ⟨a, L, b, d, rfl, rfl, ha, ks, hd, f, dp, q⟩ := h
  cases rx
  cases ry
  obtain ⟨xs, pr, hm⟩ := (kd_at I ha).full (P := X.prog) (ks.all I)
  have key := key_is I hd f dp
  have room : (nestedKind X.prog X.w).room X.A.in1 := by show X.A.units + 1 + 8 < cLine; omega
  exact wpAny_in_heap room key (kd_at I ha).1 hm ⟨.bl _, H, I.tok _, (by rw [kd_some pr]; rfl), q⟩
theorem op_notInKd (hu : X.A.units + 64 < cLine) : OpR X (compareOp .NotIn) (rKdIn X.K X.w true) := by
  intro pins s σ H x y v u Q I rx ry h
  obtain ⟨a, L, b, d, rfl, rfl, ha, ks, hd, f, dp, q⟩ := h
  cases rx
  cases ry
  obtain ⟨xs, pr, hm⟩ := (kd_at I ha).full (P := X.prog) (ks.all I)
  have key := key_is I hd f dp
  have room : (nestedKind X.prog X.w).room X.A.in1 := by show X.A.units + 1 + 8 < cLine; omega
  exact wpAny_notIn_heap room key (kd_at I ha).1 hm ⟨.bl _, H, I.tok _, (by rw [kd_some pr]; rfl), q⟩
/-- len(d) -/
def rKdLen (K : PySem.W.Frag) (w : World) : List V -> Hp -> VK -> Prop := fun xs H Q => ∃ a L, xs = [.ref a] /\ KdAt w H a L /\ KeysAt K H L /\ Q (.int (L.length : Int)) H
theorem call_lenKd : CallR X (.builtin "len") (rKdLen X.K X.w) := by
  intro pins s σ H xs us Q I r h
  obtain ⟨a, L, rfl, ha, ks, q⟩ := h
  rw [Vals.ref1 r]
  obtain ⟨ys, pr, hm⟩ := (kd_at I ha).full (P := X.prog) (ks.all I)
  have hl : L.length = ys.length := Paired.length pr
  have sm := (kd_raw I ha).2.1
  refine call_len_dictH (kd_at I ha).1 hm (by rw [<- hl]; rw [sizeLine_eq] at sm; omega) ?_
  rw [<- hl]
  exact ⟨.int (L.length : Int), H, I.tok _, ⟨_, rfl⟩, q⟩
end
end Sa
namespace Sa
open PySem PySem.Spec PySem.Calls PyProof.Rows L2 PySem.W
theorem list_ext_tup (l : Addr) (items : Array Value) (n : Nat) (b : Addr) (items2 : Array Value) (hs0 : ¬(!items.isEmpty && Builtin.List.listTooLong (items.size + items2.size)) = true) (hs1 : items.size <= sizeLine) (hs2 : items.size + items2.size <= sizeLine + 1) :
    Meets (Builtin.«list.extend» ⟨[.ref l, .ref b], []⟩) (fun _ R s => s.heap.get? l = some { cls := .type "list", dict := none, data := .seq items n, slots := #[] } /\ IsTup s.heap b items2 /\ R (.ok (.ret Value.none)) { s with heap := s.heap.update l (Obj.mapSeq fun x => x ++ items2), toks := s.toks }) :=
  .of_wp fun prog w A R s h => by
    obtain ⟨hl, ⟨o, ho, hc, m, hd⟩, hR⟩ := h
    show wpAny _ _ (Builtin.List.listExtendWith (.ref l) (.ref b) .none) _ _ s
    unfold Builtin.List.listExtendWith
    refine wpAny_bind (wpAny_typeOf ⟨o, ho, hc⟩ ?_)
    have h1 : (Builtin.List.listSameRef (.ref l) (.ref b) || Value.type "tuple" == Value.type "list" || Value.type "tuple" == Value.type "tuple") = true := by simp
    simp only [h1, if_true]
    refine wpAny_bind ?_
    unfold Builtin.List.listItems
    refine wpAny_bind (wpAny_seqItems ho hd (wpAny_pure ?_))
    refine wpAny_bind ?_
    refine wpAny_bind (wpAny_seqItems hl rfl (wpAny_pure ?_))
    rw [if_neg hs0]
    have hz' : (items ++ items2).size <= sizeLine + 1 := by rw [Array.size_append]; exact hs2
    show wpAny _ _ (updateSeq l (· ++ items2) >>= fun _ => ret Value.none) _ _ s
    refine wpAny_bind (wpAny_updateSeq hl rfl (hz := hs1) (_hz' := hz') ?_)
    exact wpAny_pure ⟨_, rfl, hR⟩
section
variable {X : Cx}
def rExtendT (K : PySem.W.Frag) : V -> List V -> Hp -> VK -> Prop := fun x vs H Q => ∃ l b xs zs, x = .ref l /\ vs = [.ref b] /\ H l = some (.lst xs) /\ SqT K H b zs /\ xs.length + zs.length <= sizeLine /\ Q .non (upd H l (.lst (xs ++ zs)))
theorem mt_extendT : MtM X "list.extend" (rExtendT X.K) := by
  intro pins s σ H x xs v us Q I rx rv h
  obtain ⟨l, b, xs, zs, rfl, rfl, hH, hB, hz, q⟩ := h
  cases rx
  obtain ⟨u, rfl, ru⟩ := rv.one
  cases ru
  obtain ⟨z, its, n, r, hl, e⟩ := I.lstM hH
  obtain ⟨its2, r2, e2, z2⟩ := I.tuple hB
  have hl2 := r2.length
  have hsz : its.toArray.size + its2.toArray.size <= sizeLine := by rw [List.size_toArray, List.size_toArray]; omega
  have hlong : ¬ (!its.toArray.isEmpty && Builtin.List.listTooLong (its.toArray.size + its2.toArray.size)) = true := by
    rw [notLongL hsz, Bool.and_false]
    exact Bool.false_ne_true
  refine call_meets F.slot_list_extend ⟨_, e, rfl⟩ F.entry_list_extend (F.args_list_extend_2 _ _)
    (list_ext_tup l its.toArray n b its2.toArray hlong (by rw [List.size_toArray]; omega) (by omega)) ⟨e, e2, ?_⟩
  refine ⟨.non, _, I.lset (its' := its ++ its2) hH e (by simp) (r.append r2) ?_, rfl, q⟩
  rw [List.length_append]
  exact hz
end
end Sa
namespace Sa
open PySem PySem.Spec PyProof.Rows L2
/-- the table at P has its form -/
abbrev Tb (H : Hp) (P : Addr) : Prop := GxR.TabG H P
/-- H' is H but for the table at P -/
abbrev TbTo (P : Addr) (H H' : Hp) : Prop := GxR.Tabbed P H H'
end Sa
set_option maxHeartbeats 3200000
namespace Gn
open PySem PySem.Spec PyProof.Rows L2 Sa
/-- the context of the generator's frame: begun at s, its iterator's objects at fp, woken in A' -/
abbrev gx (X : Cx) (s : Shared) (H : Hp) (ev : Env) (fp : List Addr) (A' : Around) : Cx :=
  { X with s_0 := s, H_0 := H, env := ev, A := A', outer := X.stack, stack := ev :: X.stack, ex := fp, fn := fun _ => false, pn := [], xe := fun _ _ => False }
theorem cells_none : ∀ (l : List (Str × NameKind)) (n : Nat) (acc : List (Str × Addr)), (∀ y ∈ l, y.2 ≠ .cell) -> cellsFrom n l acc = acc
  | [], _, _, _ => rfl
  | (x, k) :: l, n, acc, h => by
    have hk : (k == NameKind.cell) = false := by simpa using h _ List.mem_cons_self
    simp only [cellsFrom, hk, Bool.false_eq_true, if_false]
    exact cells_none l n acc fun y hy => h y (List.mem_cons_of_mem _ hy)
theorem push_none : ∀ (l : List (Str × NameKind)) (h : Heap), (∀ y ∈ l, y.2 ≠ .cell) -> pushCells h l = h
  | [], _, _ => rfl
  | (x, k) :: l, h, no => by
    have hk : (k == NameKind.cell) = false := by simpa using no _ List.mem_cons_self
    simp only [pushCells, hk, Bool.false_eq_true, if_false]
    exact push_none l h fun y hy => no y (List.mem_cons_of_mem _ hy)
/-- the kind of a name in a block that is a block's of env -/
def kindIn (env : Env) (x : Str) (k : NameKind) : NameKind := if k == .free && env.scope.kind == .function && env.kindOf x == some .cell then .cell else k
theorem lookup_kinds (f : Str -> NameKind -> NameKind) (x : Str) : ∀ l : List (Str × NameKind), (l.map fun p => (p.1, f p.1 p.2)).lookup x = (l.lookup x).map (f x)
  | [] => rfl
  | (n, k) :: l => by
    simp only [List.map_cons, List.lookup_cons]
    cases e : x == n with
    | true => rw [eq_of_beq e]; rfl
    | false => exact lookup_kinds f x l
theorem kind_relabel (scope : Scope) (env : Env) (x : Str) : (relabel scope env).names.lookup x = (scope.names.lookup x).map (kindIn env x) := by
  rw [<- lookup_kinds]
  show (scope.names.map _).lookup x = _
  congr 2
  funext p
  unfold kindIn
  dsimp only
  split <;> rfl
theorem kindIn_out {env : Env} {x : Str} {k : NameKind} : (kindIn env x k = .local ↔ k = .local) /\ (kindIn env x k = .cell ∨ kindIn env x k = .free ↔ k = .cell ∨ k = .free) := by
  unfold kindIn
  split
  · rename_i h
    simp only [Bool.and_eq_true, beq_iff_eq] at h
    simp [h.1.1]
  · simp
section
variable {X : Cx} {σ : L2.St} {H : Hp} {s : Shared} {pins : List (Addr × Obj)}
theorem gen_start {scope : Scope} {own : List (Str × Nat)} {fp : List Addr} {code : Value} {A' : Around} {h' : Heap} {mm : Str -> Option Value} {g' : Array GenState} {tk : Nat}
    (I : Inv X pins σ H s) (ok : BlkOk X.N X.env.scope scope own) (hN : X.N.Nodup) (hcell : ∀ y ∈ scope.names, y.2 ≠ .cell) (hfp : ∀ b ∈ fp, FpOk X pins H b /\ b < s.heap.objs.size)
    (hA1 : A'.handled = none) (hA2 : A'.frames = some (genEnv scope (cloFrom X.env.cells scope.names []) s.heap.objs.size code builtinsNs X.env :: X.stack))
    (ns : h'.Ns s.heap.objs.size mm) (same : Heap.SameBut s.heap.objs.size (s.heap.push { cls := .type "frame", data := .dict #[] }) h') (hg : AllBare g') :
    Inv (gx X s H (genEnv scope (cloFrom X.env.cells scope.names []) s.heap.objs.size code builtinsNs X.env) fp A') [] (wipe σ (own.map (·.2))) H { s with heap := h', gens := g', toks := tk } := by
  have B := block_start I ok hN hfp
  rw [cells_none _ _ _ hcell, push_none _ _ hcell] at B
  have old : ∀ b o, s.heap.get? b = some o -> h'.get? b = some o := fun b o e => by
    rw [same.2 b (Nat.ne_of_lt (Heap.lt_size e))]
    exact Heap.get?_push_of_some _ e
  -- a cell of the block stands ahead of it
  have cellOld : ∀ c v, (s.heap.push { cls := .type "dict", data := .dict #[] }).IsCell c v -> h'.IsCell c v := fun c v ⟨o, at', isC⟩ => by
    rcases Heap.get?_push_cases at' with ⟨_, z⟩ | z
    · rw [z] at isC
      cases isC
    · exact ⟨o, old c o z, isC⟩
  have kinds := fun x => kind_relabel scope X.env x
  refine
    { ok :=
        { mod := B.ok.mod, kind := ok.kind, glob := I.ok.glob, blt := rfl, above := Nat.le_refl _, inj := B.ok.inj, has := fun x hx => ?_, cab := fun _ _ no => (nomatch no), hd := fun _ => hA1, frames := hA2, stk := .inr ⟨rfl, rfl⟩,
          exf := B.ok.exf, bs := B.ok.bs, bsz := B.ok.bsz, noex := B.ok.noex, exfs := B.ok.exfs, funs := B.ok.funs, frf := B.ok.frf }
      os := rfl, bare := hg, base := Un.kept old, loc := ?_, cell := fun x c e => (B.cell x c e).imp (cellOld c), free := B.free, freeC := B.freeC, pin := fun p no => (nomatch no), hok := I.hok.kept old, len := B.len }
  · have hx : scope.names.lookup x = some .cell ∨ scope.names.lookup x = some .free := hx
    refine B.ok.has x ?_
    show (relabel scope X.env).names.lookup x = _ ∨ (relabel scope X.env).names.lookup x = _
    rw [kinds]
    rcases hx with hx | hx <;> rw [hx]
    · simpa using (kindIn_out (env := X.env) (x := x) (k := .cell)).2.mpr (.inl rfl)
    · simpa using (kindIn_out (env := X.env) (x := x) (k := .free)).2.mpr (.inr rfl)
  · obtain ⟨m, nsB, look⟩ := B.loc
    refine ⟨mm, ns, fun i x v hi hv vis => ?_⟩
    have none' : m x = none := nsB.agree (Heap.Ns.new s.heap _) x
    have visB : Vis (relabel scope X.env) x := by
      unfold Vis
      rw [kinds]
      have vis : Vis scope x := vis
      rcases vis with e | e | e <;> rw [e]
      · exact .inl (congrArg some (kindIn_out.1.mpr rfl))
      · exact .inr (by simpa using (kindIn_out (env := X.env) (x := x) (k := .cell)).2.mpr (.inl rfl))
      · exact .inr (by simpa using (kindIn_out (env := X.env) (x := x) (k := .free)).2.mpr (.inr rfl))
    obtain ⟨u, rel, ⟨_, inM⟩ | ⟨kind, c, hc, isC⟩⟩ := look i x v hi hv visB
    · rw [none'] at inM
      cases inM
    · refine ⟨u, rel, .inr ⟨?_, c, hc, cellOld c _ isC⟩⟩
      show scope.names.lookup x = _ ∨ scope.names.lookup x = _
      have kind : (relabel scope X.env).names.lookup x = some .cell ∨ (relabel scope X.env).names.lookup x = some .free := kind
      rw [kinds] at kind
      cases e : scope.names.lookup x with
      | none => rw [e] at kind; simp at kind
      | some k =>
        rw [e] at kind
        simpa using (kindIn_out (env := X.env) (x := x) (k := k)).2.mp (by simpa using kind)
end
end Gn
namespace Gn
open PySem PySem.Spec PyProof.Rows L2 Sa
abbrev gexp (elt tg iter : Expr) (ifs : List Expr) (scope : Scope) (pos : Pos) : Expr := .GeneratorExp elt [⟨tg, iter, ifs, 0⟩] scope pos
/-- the around of the generator's frame, woken in A -/
abbrev ovr (A : Around) (elt tg iter : Expr) (ifs : List Expr) (scope : Scope) (pos : Pos) (it : Addr) (cenv : Env) : Around := A.over (.compLoop (gexp elt tg iter ifs scope pos) 0 (.ref it) .none cenv) []
section
variable {A : Around} {elt tg iter : Expr} {ifs : List Expr} {scope : Scope} {pos : Pos} {it : Addr} {cenv : Env}
theorem ovr_fr {l : List Env} (h : A.frames = some l) : (ovr A elt tg iter ifs scope pos it cenv).frames = some (cenv :: l) := by
  obtain ⟨hdd, d, fr, gd0, u⟩ := A
  cases h
  simp [Around.over, marksOver, frameCount, unitsOf, envsOf, guardsOf, pushEnvs, pushGuards, Code.envs, Code.env?, Code.isFrame]
theorem ovr_gd {l : List Code} (h : A.guards = some l) : (ovr A elt tg iter ifs scope pos it cenv).guards = some l := by
  obtain ⟨hdd, d, fr, gd0, u⟩ := A
  cases h
  simp [Around.over, marksOver, frameCount, unitsOf, envsOf, guardsOf, pushEnvs, pushGuards, Code.guards, Code.isGuard]
end
abbrev Pins := List (Addr × Obj)
/-- the generator sleeps (or is about to run): i of the walked things are gone; gp its own object, ps the consumer's -/
structure GG (Xg : Cx) (σw : L2.St) (fp : List Addr) (tn : Nat -> Heap -> Prop) (gp : Addr × Obj) (ps : Pins) (i : Nat) (H : Hp) (s : Shared) : Prop where
  inv : Inv Xg (gp :: ps) σw H s
  tn : tn i s.heap
  nf : ∀ b ∈ fp, H b = none
  ap : ∀ p ∈ gp :: ps, p.1 ∉ fp
abbrev GP := Pins -> Nat -> Hp -> Shared -> Prop
abbrev NX := List V -> Hp -> Prop
def GYx (G : GP) (Pn : Pins -> List V -> Prop) (Yv : NX -> List V -> V -> Hp -> Prop) : Protocol := fun n s0 v s kap =>
  ∃ (ps : Pins) (ys : List V) (i : Nat) (y : V) (H : Hp) (Nx : NX), n + 1 + ys.length = sizeLine + 1 /\ ys.length < sizeLine /\ RelV y v /\ (∀ p ∈ ps, s0.heap.get? p.1 = some p.2) /\ Pn ps ys /\ G ps i H s /\ Yv Nx ys y H /\
    ∀ ps' s', Pn ps' (ys ++ [y]) -> G ps' i H s' -> Nx (ys ++ [y]) H -> kap (.send .none) s'
def GPx (Xg : Cx) (σw : L2.St) (gp : Addr × Obj) (Pn : Pins -> List V -> Prop) (Qe : NX) : Nat -> Shared -> Shared -> Prop := fun _ s0 s => ∃ (ps : Pins) (ys : List V) (H : Hp), (∀ p ∈ ps, s0.heap.get? p.1 = some p.2) /\ Pn ps ys /\ Inv Xg (gp :: ps) σw H s /\ Qe ys H
abbrev GRx (Xg : Cx) (σw : L2.St) (gp : Addr × Obj) (Pn : Pins -> List V -> Prop) (Qe : NX) : GenEnd := fun n s0 r s => r = .ok .next /\ GPx Xg σw gp Pn Qe n s0 s
/-- what is asked of a turn -/
def Turns (J : It) (g : TG) (tt : TT) (te : TE) (vs : List Nat) (σw : L2.St) (Yv : NX -> List V -> V -> Hp -> Prop) (Qe : NX) (W : Nat -> Nat -> List V -> Hp -> Prop) : Prop := ∀ i m ys H, W i m ys H ->
  (J.stop i H /\ Qe ys H) ∨ (J.go i H /\ ∃ Nx : NX, (∀ ys' H', Nx ys' H' -> ∃ m', m' < m /\ W (i + 1) m' ys' H') /\ ∀ x H', J.yld i H x H' -> g x σw H' fun σ2 H2 => wipe σ2 vs = σw /\ tt σ2 H2 fun b H3 =>
    if b = true then te σ2 H3 fun y H4 => ys.length < sizeLine /\ Yv Nx ys y H4 else Nx ys H3)
section
variable {Xg : Cx} {A : Around} {elt tg iter : Expr} {ifs : List Expr} {scope : Scope} {pos : Pos} {it : Addr} {J : It} {fp : List Addr} {tn : Nat -> Heap -> Prop} {g : TG} {tt : TT} {te : TE} {vs : List Nat} {σw : L2.St} {gp : Addr × Obj} {Pn : Pins -> List V -> Prop} {Yv : NX -> List V -> V -> Hp -> Prop} {Qe : NX} {W : Nat -> Nat -> List V -> Hp -> Prop}
theorem segG (hA : ovr A elt tg iter ifs scope pos it Xg.env = Xg.A) (T : Turn Xg.prog Xg.w Xg.K tg J fp it tn) (pg : PG Xg tg g) (pt : PTs Xg ifs tt) (pe : PE Xg elt te) (hx : Xg.xe = fun _ _ => False) (calm : Xg.calm = true) (ex : Xg.ex = fp) (pn : Xg.pn = [])
    (hco : Xg.env.scope.isCoroutine = false) (hw : ∃ σ0, σw = wipe σ0 vs)
    (turn : Turns J g tt te vs σw Yv Qe W) :
    ∀ (m n i : Nat) (ys : List V) (ps : Pins) (s0 s : Shared) (H : Hp), n + ys.length = sizeLine + 1 -> W i m ys H -> (∀ p ∈ ps, s0.heap.get? p.1 = some p.2) -> Pn ps ys -> GG Xg σw fp tn gp ps i H s ->
      Seg (model Xg.prog Xg.w) A (GRx Xg σw gp Pn Qe) (GYx (GG Xg σw fp tn gp) Pn Yv) n s0 (.compLoop (gexp elt tg iter ifs scope pos) 0 (.ref it) .none Xg.env)
        ((model Xg.prog Xg.w).den (.compLoop (gexp elt tg iter ifs scope pos) 0 (.ref it) .none Xg.env)) [] s := by
  obtain ⟨σ0, hσ0⟩ := hw
  intro m
  induction m using Nat.strongRecOn with
  | ind m ih =>
    intro n i ys ps s0 s H hn w hs0 hPn G
    have stat : ∀ {σ' : L2.St} {H' : Hp} {s' : Shared}, Inv Xg (gp :: ps) σ' H' s' -> (∀ b ∈ fp, H' b = none) -> ∀ b ∈ fp, FpOk Xg (gp :: ps) H' b := fun {σ' H' s'} I' hn b hb =>
      ⟨hn b hb, (I'.ok.exf b (by rw [ex]; exact hb)).1, I'.ok.exfs b (by rw [ex]; exact hb), .inl (by rw [ex]; exact hb), fun x c eb => (I'.ok.exf b (by rw [ex]; exact hb)).2 x c eb, fun p hp z => by
        rw [pn, List.nil_append] at hp
        exact G.ap p hp (by rw [z]; exact hb)⟩
    show Seg _ A _ _ _ s0 _ ((compTurn (gexp elt tg iter ifs scope pos) 0 (.ref it) .none Xg.env).onRaise (leaving Xg.env)) [] s
    rw [compTurn_gen, Sem.onRaise_eq_wrap]
    refine seg_bind_wrap (wpAny_standAt (seg_bind_wrap ?_))
    show wpAny _ (ovr A elt tg iter ifs scope pos it Xg.env) _ _ _ _
    rw [hA]
    rcases turn i m ys H w with ⟨stop, qq⟩ | ⟨go, Nx, hNx, step⟩
    · refine thnF (T.done Xg rfl rfl rfl calm i _ s _ H (fun _ _ => False) G.inv (stat G.inv G.nf) G.tn stop) fun r s6 ⟨hr, I6⟩ => ?_
      subst hr
      exact seg_end (.ok .next) ⟨rfl, ps, ys, H, hs0, hPn, I6, qq⟩
    · refine thnF (T.item Xg rfl rfl rfl calm i _ s _ H (fun _ _ => False) G.inv (stat G.inv G.nf) G.tn go) fun r s6 ⟨u, hr, h6a⟩ => ?_
      subst hr
      refine seg_bind_wrap ?_
      show wpAny _ (ovr A elt tg iter ifs scope pos it Xg.env) _ _ _ _
      rw [hA]
      refine thnF h6a fun _ s7a ⟨x, H7, I7a, r7a, y7a, st7a, n7a⟩ => ?_
      have P7 := I7a.pinned (stat I7a n7a) (T.obj _ _ st7a)
      refine seg_bind_wrap ?_
      show wpAny _ (ovr A elt tg iter ifs scope pos it Xg.env) _ _ _ _
      rw [hA]
      have pgr := pg.run _ s7a _ H7 x u _ P7 r7a (step x H7 y7a)
      rw [hx] at pgr
      refine thnF pgr fun _ s8 ⟨σ8, H8, I8, hw8, q8⟩ => ?_
      have fin : ∀ {s' : Shared} {H' : Hp}, Inv Xg ((gp :: ps) ++ pinsAt fp s7a.heap) σ8 H' s' -> GG Xg σw fp tn gp ps (i + 1) H' s' := fun {s' H'} I' => by
        have pinF : ∀ b ∈ fp, ∀ o, s7a.heap.get? b = some o -> s'.heap.get? b = some o /\ H' b = none := fun b hb o eb =>
          let z := I'.pin (b, o) (List.mem_append_right _ (List.mem_append_right _ (mem_pinsAt hb eb)))
          ⟨z.1, z.2.1⟩
        have hl : σw.length = σ8.length := by rw [<- hw8, wipe_length]
        refine ⟨(I'.unpinned (pins := gp :: ps)).weak hl (fun j v eb => ?_), T.keep _ _ _ st7a fun b hb o eb => (pinF b hb o eb).1, fun b hb => ?_, G.ap⟩
        · rw [<- hw8] at eb
          exact (wipe_some eb).1
        · obtain ⟨o, eb, _⟩ := T.obj _ _ st7a b hb
          exact (pinF b hb o eb).2
      refine seg_bind_wrap ?_
      show wpAny _ (ovr A elt tg iter ifs scope pos it Xg.env) _ _ _ _
      rw [hA]
      have ptr := pt.run _ s8 σ8 H8 _ I8 q8
      rw [hx] at ptr
      refine thnF ptr fun b s9 ⟨H9, I9, q9⟩ => ?_
      cases b with
      | false =>
        simp only [Bool.false_eq_true, if_false] at q9 ⊢
        obtain ⟨m', lt, w'⟩ := hNx ys H9 q9
        exact seg_again rfl (ih m' lt n (i + 1) ys ps s0 s9 H9 hn w' hs0 hPn (fin I9))
      | true =>
        simp only [if_true] at q9 ⊢
        have hy : ∀ u, yieldOut Xg.env u = yieldValue u := fun u => by simp only [yieldOut, hco, Bool.false_eq_true, if_false]
        simp only [hy]
        rw [Sem.bind_eq_wrap', Sem.bind_eq_wrap', Sem.wrap_wrap, Sem.wrap_wrap]
        refine seg_wrap ?_
        show wpAny _ (ovr A elt tg iter ifs scope pos it Xg.env) _ _ _ _
        rw [hA]
        have per := pe.run _ s9 σ8 H9 _ I9 q9
        rw [hx] at per
        refine thnF per fun z s10 ⟨yv, H10, I10, r10, small, q10⟩ => ?_
        obtain ⟨n', rfl⟩ : ∃ n', n = n' + 1 := ⟨n - 1, by omega⟩
        refine seg_at (seg_yield rfl rfl rfl ⟨ps, ys, i + 1, yv, H10, Nx, hn, small, r10, hs0, hPn, fin I10, q10, fun ps' s' pn' G' nx => ?_⟩)
        obtain ⟨m', lt, w'⟩ := hNx _ H10 nx
        exact seg_again rfl (ih m' lt n' (i + 1) (ys ++ [yv]) ps' s' s' H10 (by rw [List.length_append]; simp; omega) w' (fun p hp => (G'.inv.pin p (List.mem_append_right _ (List.mem_cons_of_mem _ hp))).1) pn' G')
end
end Gn
namespace Gn
open PySem PySem.Spec PyProof.Rows L2 Sa
theorem bare_set {g : Array GenState} {x : GenState} (i : Nat) (h : AllBare g) (hx : x.bare = true) : AllBare (g.setIfInBounds i x) := fun y hy => by
  rcases Array.mem_or_eq_of_mem_setIfInBounds hy with z | z
  · exact h y z
  · rw [z]; exact hx
section
variable {X : Cx} {pins : Pins} {σ : L2.St} {H : Hp} {s : Shared}
theorem inv_gens {g' : Array GenState} (I : Inv X pins σ H s) (h : AllBare g') : Inv X pins σ H { s with gens := g' } :=
  ⟨I.ok, I.os, h, I.base, I.loc, I.cell, I.free, I.freeC, I.pin, I.hok, I.len⟩
theorem inv_heap {h' : Heap} {t : Nat} (I : Inv X pins σ H s) (k : ∀ b u, s.heap.get? b = some u -> h'.get? b = some u) : Inv X pins σ H { s with heap := h', toks := t } := I.kept k
end
section
variable {Xg : Cx} {A : Around} {elt tg iter : Expr} {ifs : List Expr} {scope : Scope} {pos : Pos} {it : Addr} {J : It} {fp : List Addr} {tn : Nat -> Heap -> Prop} {g : TG} {tt : TT} {te : TE} {vs : List Nat} {σw : L2.St} {gp : Addr × Obj} {Pn : Pins -> List V -> Prop} {Yv : NX -> List V -> V -> Hp -> Prop} {Qe : NX} {W : Nat -> Nat -> List V -> Hp -> Prop}
theorem GG.gens {ps : Pins} {i : Nat} {H : Hp} {s : Shared} {g' : Array GenState} (G : GG Xg σw fp tn gp ps i H s) (h : AllBare g') : GG Xg σw fp tn gp ps i H { s with gens := g' } :=
  ⟨inv_gens G.inv h, G.tn, G.nf, G.ap⟩
theorem GG.setGen {ps : Pins} {i : Nat} {H : Hp} {s : Shared} {x : GenState} (k : Nat) (G : GG Xg σw fp tn gp ps i H s) (h : x.bare = true) : GG Xg σw fp tn gp ps i H (s.setGen k x) := G.gens (bare_set k G.inv.bare h)
/-- the first turn -/
theorem segG0 (hA : ovr A elt tg iter ifs scope pos it Xg.env = Xg.A) (T : Turn Xg.prog Xg.w Xg.K tg J fp it tn) (pg : PG Xg tg g) (pt : PTs Xg ifs tt) (pe : PE Xg elt te) (hx : Xg.xe = fun _ _ => False) (calm : Xg.calm = true) (ex : Xg.ex = fp) (pn : Xg.pn = [])
    (hco : Xg.env.scope.isCoroutine = false) (hw : ∃ σ0, σw = wipe σ0 vs)
    (turn : Turns J g tt te vs σw Yv Qe W) (m n : Nat) (ps : Pins) (s0 s : Shared) (H : Hp) (hn : n = sizeLine + 1) (w : W 0 m [] H) (hs0 : ∀ p ∈ ps, s0.heap.get? p.1 = some p.2) (hP : Pn ps []) (G : GG Xg σw fp tn gp ps 0 H s) :
      Seg (model Xg.prog Xg.w) A (GRx Xg σw gp Pn Qe) (GYx (GG Xg σw fp tn gp) Pn Yv) n s0 (.compStart (gexp elt tg iter ifs scope pos) 0 (.ref it) .none Xg.env)
        ((model Xg.prog Xg.w).den (.compStart (gexp elt tg iter ifs scope pos) 0 (.ref it) .none Xg.env)) [] s := by
  have go := segG (Pn := Pn) (gp := gp) hA T pg pt pe hx calm ex pn hco hw turn m n 0 [] ps s0 s H hn w hs0 hP G
  show Seg _ A _ _ _ s0 _ ((compStart (gexp elt tg iter ifs scope pos) 0 (.ref it) .none Xg.env).onRaise (leaving Xg.env)) [] s
  unfold compStart
  rw [Sem.onRaise_eq_wrap]
  show Seg _ A _ _ _ s0 _ ((ask >>= _).wrap _ _ _ _) [] s
  refine seg_bind_wrap (wpAny_askSetting ?_)
  split
  · exact seg_again rfl go
  · refine seg_bind_wrap (wpAny_rule ?_)
    show Seg _ A _ _ _ s0 _ ((standAt iter.pos >>= _).wrap _ _ _ _) [] s
    exact seg_bind_wrap (wpAny_standAt (seg_bind_wrap (T.self _ 0 s _ _ G.tn (seg_again rfl go))))
/-- ready to go on: the generator of number gi, n more at most -/
def GT (Xg : Cx) (σw : L2.St) (fp : List Addr) (tn : Nat -> Heap -> Prop) (gp : Addr × Obj) (Pn : Pins -> List V -> Prop) (Yv : NX -> List V -> V -> Hp -> Prop) (Qe : NX) (A : Around) (gi n : Nat) (ps : Pins) (ys : List V) (s : Shared) : Prop :=
  n + ys.length = sizeLine + 1 /\ ys.length <= sizeLine /\ Pn ps ys /\ ∃ (i : Nat) (H : Hp) (gs : GenState), GG Xg σw fp tn gp ps i H s /\ s.gens[gi]? = some gs /\
    ∀ ps' s', Pn ps' ys -> GG Xg σw fp tn gp ps' i H s' -> gs.Goes (model Xg.prog Xg.w) A.in1 (GRx Xg σw gp Pn Qe) (GYx (GG Xg σw fp tn gp) Pn Yv) n (.send .none) s'
theorem next_GT {gi n : Nat} {ps : Pins} {ys : List V} {s : Shared} {Q : Option Value -> Shared -> Prop} {E : Value -> Shared -> Prop} (hh : A.handled = none) (room : A.depth < recursionLimit) (isg : ∀ h : Heap, h.get? gp.1 = some gp.2 -> h.IsGen gp.1 gi)
    (st : GT Xg σw fp tn gp Pn Yv Qe A gi n ps ys s)
    (item : ∀ m ps ys y v H i Nx s', n = m + 1 -> ys.length < sizeLine -> RelV y v -> (∀ p ∈ ps, s.heap.get? p.1 = some p.2) -> Pn ps ys -> GG Xg σw fp tn gp ps i H s' -> Yv Nx ys y H ->
      (Nx (ys ++ [y]) H -> ∀ ps' s'', Pn ps' (ys ++ [y]) -> GG Xg σw fp tn gp ps' i H s'' -> s''.gens = s'.gens -> GT Xg σw fp tn gp Pn Yv Qe A gi m ps' (ys ++ [y]) s'') -> Q (some v) s')
    (done : ∀ ps ys H s', (∀ p ∈ ps, s.heap.get? p.1 = some p.2) -> Pn ps ys -> Inv Xg (gp :: ps) σw H s' -> Qe ys H -> Q none s') :
    wpAny (model Xg.prog Xg.w) A (pyNext (.ref gp.1)) Q E s := by
  obtain ⟨hn, hl, hP, i, H, gs, G, hgs, go⟩ := st
  have lt : gi + 1 <= s.gens.size := (Array.getElem?_eq_some_iff.mp hgs).1
  have at0 : s.heap.get? gp.1 = some gp.2 := (G.inv.pin gp (List.mem_append_right _ List.mem_cons_self)).1
  refine GenW.wpAny_gsz lt ?_
  refine wpAny_pyNext_genexpQ (P := GPx Xg σw gp Pn Qe) hh G.inv.nolimit room (isg _ at0) hgs (go ps _ hP (G.setGen gi rfl)) (fun v s1 gs' bare hv => ?_) (fun s1 hp h' k => ?_)
  · intro size
    obtain ⟨ps1, ys1, i1, y, H1, Nx, hn1, sm1, rv, hs1, hP1, G1, yv, kap⟩ := hv
    cases n with
    | zero => omega
    | succ m =>
      simp only [Nat.add_sub_cancel] at hn1
      have sz1 : gi < s1.gens.size := by
        have : gi + 1 <= (s1.setGen gi gs').gens.size := size
        rw [GenW.setGen_size] at this
        exact this
      refine item m ps1 ys1 y v H1 i1 Nx _ rfl sm1 rv hs1 hP1 (G1.setGen gi bare) yv fun nx ps' s'' pn' G'' eg => ?_
      refine ⟨by rw [List.length_append]; simp; omega, by rw [List.length_append]; simp; omega, pn', i1, H1, gs', G'', ?_, fun ps2 s2 p2 G2 => kap ps2 s2 p2 G2 nx⟩
      rw [eg]
      exact setGen_self (gs := s1.gens[gi]) (Array.getElem?_eq_getElem sz1)
  · intro size
    obtain ⟨ps1, ys1, H1, hs1, hP1, I1, q⟩ := hp
    refine done ps1 ys1 H1 _ hs1 hP1 ?_ q
    have I2 := inv_gens I1 (bare_set gi I1.bare (x := .finished) rfl)
    exact inv_heap (t := s1.toks) I2 k
end
end Gn
namespace Gn
open PySem PySem.Spec PyProof.Rows L2 Sa
section
variable {Xg : Cx} {fp : List Addr} {tn : Nat -> Heap -> Prop} {σw : L2.St} {gp : Addr × Obj} {ps : Pins} {i : Nat} {H : Hp} {s : Shared}
/-- the consumer lays an object of its own -/
theorem GG.lay {S : Addr} {obj : Obj} {h' : Heap} {t : Nat} (keep : ∀ i h h', tn i h -> (∀ b ∈ fp, ∀ o, h.get? b = some o -> h'.get? b = some o) -> tn i h') (lo : ∀ b ∈ fp, b < s.heap.objs.size) (G : GG Xg σw fp tn gp ps i H s)
    (k : ∀ b u, s.heap.get? b = some u -> h'.get? b = some u) (hS : h'.get? S = some obj) (new : s.heap.objs.size <= S) (nc : ∀ v, obj.data ≠ .cell v) : GG Xg σw fp tn gp ((S, obj) :: ps) i H { s with heap := h', toks := t } := by
  have I1 : Inv Xg (gp :: ps) σw H { s with heap := h', toks := t } := G.inv.kept k
  refine ⟨I1.pins_of fun p hpp => ?_, keep _ _ _ G.tn fun b _ o e => k b o e, G.nf, fun p hpp => ?_⟩
  · rcases List.mem_cons.mp hpp with zq | hpp
    · rw [zq]; exact I1.pin gp (List.mem_append_right _ List.mem_cons_self)
    · rcases List.mem_cons.mp hpp with zq | hpp
      · rw [zq]
        exact ⟨hS, G.inv.hok.fresh new, Nat.ne_of_gt (Nat.lt_of_lt_of_le G.inv.lt new), G.inv.nofs new, nc⟩
      · exact I1.pin p (List.mem_append_right _ (List.mem_cons_of_mem _ hpp))
  · rcases List.mem_cons.mp hpp with zq | hpp
    · rw [zq]; exact G.ap gp List.mem_cons_self
    · rcases List.mem_cons.mp hpp with zq | hpp
      · rw [zq]; exact fun q => Nat.lt_irrefl _ (Nat.lt_of_lt_of_le (lo S q) new)
      · exact G.ap p (List.mem_cons_of_mem _ hpp)
/-- the consumer writes its object -/
theorem GG.write {S : Addr} {obj ob' : Obj} {h' : Heap} {t : Nat} (keep : ∀ i h h', tn i h -> (∀ b ∈ fp, ∀ o, h.get? b = some o -> h'.get? b = some o) -> tn i h') (G : GG Xg σw fp tn gp ((S, obj) :: ps) i H s) (hpn : Xg.pn = []) (hg : gp.1 ≠ S) (hps : ∀ p ∈ ps, p.1 ≠ S) (old : Xg.s_0.heap.objs.size <= S)
    (k : ∀ b u, b ≠ S -> s.heap.get? b = some u -> h'.get? b = some u) (hS : h'.get? S = some ob') (nc : ∀ v, ob'.data ≠ .cell v) : GG Xg σw fp tn gp ((S, ob') :: ps) i H { s with heap := h', toks := t } := by
  obtain ⟨z1, z2, z3, z4, z5⟩ := G.inv.pin (S, obj) (List.mem_append_right _ (List.mem_cons_of_mem _ List.mem_cons_self))
  have nt : ∀ b u, H b = some u -> b ≠ S := fun b u q hbb => by rw [hbb, z2] at q; cases q
  have I0 : Inv Xg (gp :: ps) σw H s := G.inv.pins_of fun p hpp => G.inv.pin p (List.mem_append_right _ (by
    rcases List.mem_cons.mp hpp with zq | zq
    · rw [zq]; exact List.mem_cons_self
    · exact List.mem_cons_of_mem _ (List.mem_cons_of_mem _ zq)))
  have nS : ∀ b, b ∉ [S] -> b ≠ S := fun b hbb e => hbb (by rw [e]; exact List.mem_singleton.mpr rfl)
  have J : Inv Xg (gp :: ps) σw H { s with heap := h', toks := t } := by
    refine I0.step (g' := s.gens) (t' := t) (d' := s.drawn) (ch := [S]) (fun b hbb => ?_)
      (fun b obj _ _ hc q _ => k b obj (nS b hc) q) (fun b obj _ _ hc q _ => ⟨obj.slots, k b obj (nS b hc) q⟩) (fun _ _ _ _ n => n) (fun b obj hc q => ⟨obj, k b obj (nS b hc) q⟩)
      (fun _ _ q => q) (fun _ _ _ q => q) (fun b ps q => ⟨#[], by rw [q]; simp⟩) (fun m hmm => ?_) (fun b u q => ?_) G.inv.bare
    · rw [List.mem_singleton.mp hbb]
      refine ⟨.inr old, z3, fun x c e y => ?_, fun p hpp => ?_⟩
      · obtain ⟨v, o, ho, hd⟩ := I0.cell x c e
        rw [y, z1] at ho
        cases ho
        exact z5 _ hd
      · rw [hpn, List.nil_append] at hpp
        rcases List.mem_cons.mp hpp with zq | zq
        · rw [zq]; exact hg
        · exact hps p zq
    · obtain ⟨obj, es, ep, ho, r⟩ := hmm
      exact ⟨obj, es, ep, k _ obj (Ne.symm z3) ho, r⟩
    · refine (I0.hok b u q).stay (fun c v hc y => k c v ?_ y) (fun _ y => y) fun _ _ y => y
      rcases hc with y | y
      · rw [y]; exact nt b u q
      · exact nt c _ y
  have SF : S ∉ fp := G.ap (S, obj) (List.mem_cons_of_mem _ List.mem_cons_self)
  refine ⟨J.pins_of fun p hpp => ?_, keep _ _ _ G.tn fun b hbb o e => k b o (fun zq => SF (by rw [<- zq]; exact hbb)) e, G.nf, fun p hpp => ?_⟩
  · rcases List.mem_cons.mp hpp with zq | hpp
    · rw [zq]; exact J.pin gp (List.mem_append_right _ List.mem_cons_self)
    · rcases List.mem_cons.mp hpp with zq | hpp
      · rw [zq]; exact ⟨hS, z2, z3, z4, nc⟩
      · exact J.pin p (List.mem_append_right _ (List.mem_cons_of_mem _ hpp))
  · rcases List.mem_cons.mp hpp with zq | hpp
    · rw [zq]; exact G.ap gp List.mem_cons_self
    · rcases List.mem_cons.mp hpp with zq | hpp
      · rw [zq]; exact SF
      · exact G.ap p (List.mem_cons_of_mem _ (List.mem_cons_of_mem _ hpp))
/-- nothing but new things -/
theorem GG.more {h' : Heap} {t : Nat} (keep : ∀ i h h', tn i h -> (∀ b ∈ fp, ∀ o, h.get? b = some o -> h'.get? b = some o) -> tn i h') (G : GG Xg σw fp tn gp ps i H s) (k : ∀ b u, s.heap.get? b = some u -> h'.get? b = some u) : GG Xg σw fp tn gp ps i H { s with heap := h', toks := t } :=
  ⟨G.inv.kept k, keep _ _ _ G.tn fun b _ o e => k b o e, G.nf, G.ap⟩
theorem GG.at {S : Addr} {obj : Obj} (G : GG Xg σw fp tn gp ((S, obj) :: ps) i H s) : s.heap.get? S = some obj := (G.inv.pin (S, obj) (List.mem_append_right _ (List.mem_cons_of_mem _ List.mem_cons_self))).1
end
/-- a generator just made: what its consumer has of it -/
structure Src (X : Cx) (pins : Pins) (σ : L2.St) (J : It) (g : TG) (tt : TT) (te : TE) (vs : List Nat) (H4 : Hp) (a : Addr) (s5 : Shared) (Xg : Cx) (fp : List Addr) (tn : Nat -> Heap -> Prop) (gob : Obj) (gi : Nat) : Prop where
  prog : Xg.prog = X.prog
  w : Xg.w = X.w
  pn : Xg.pn = []
  G0 : GG Xg (wipe σ vs) fp tn (a, gob) [] 0 H4 s5
  isg : ∀ h : Heap, h.get? a = some gob -> h.IsGen a gi
  keep : ∀ i h h', tn i h -> (∀ b ∈ fp, ∀ o, h.get? b = some o -> h'.get? b = some o) -> tn i h'
  lo : ∀ b ∈ fp, b < Xg.s_0.heap.objs.size
  sz : Xg.s_0.heap.objs.size <= s5.heap.objs.size
  alt : a < s5.heap.objs.size
  back : ∀ ps H s', Inv Xg ((a, gob) :: ps) (wipe σ vs) H s' -> Inv X pins σ H s'
  start : ∀ (Pn : Pins -> List V -> Prop) (Yv : NX -> List V -> V -> Hp -> Prop) (Qe : NX) (W : Nat -> Nat -> List V -> Hp -> Prop), Turns J g tt te vs (wipe σ vs) Yv Qe W -> (∃ m, W 0 m [] H4) -> ∀ ps s', Pn ps [] -> GG Xg (wipe σ vs) fp tn (a, gob) ps 0 H4 s' -> s'.gens = s5.gens ->
    GT Xg (wipe σ vs) fp tn (a, gob) Pn Yv Qe X.A.in4 gi (sizeLine + 1) ps [] s'
/-- what a generator's scope asks -/
structure GSc (scope : Scope) : Prop where
  co : scope.isCoroutine = false
  cell : ∀ y ∈ scope.names, y.2 ≠ .cell
  dot : scope.names.lookup (".0" : Str) = some NameKind.local
section
variable {X : Cx} {pins : Pins} {σ : L2.St} {H : Hp} {s : Shared}
theorem gen_make {c P : Addr} {elt tg iter : Expr} {ifs : List Expr} {gpos : Pos} {scope : Scope} {own : List (Str × Nat)} {wi : TI} {g : TG} {tt : TT} {te : TE} {k : Nat} {Q' : Value -> Shared -> Prop} {R : It -> Hp -> Prop}
    (hr : Room (k + 1) X.A) (hf : Free X.A) (hc : X.calm = true) (hN : X.N.Nodup) (TB : LamX.TabB X.base X.mg c P) (hcode : X.env.code = .ref c) (S : GSc scope) (ok : BlkOk X.N X.env.scope scope own) (hi : PI X tg iter wi)
    (hg : ∀ (s : Shared) (H : Hp) (C : Addr) (cl : List (Str × Addr)) (code : Value) (fp : List Addr) (A' : Around), Room k A' -> Free A' -> PG (gx X s H (genEnv scope cl C code builtinsNs X.env) fp A') tg g)
    (ht : ∀ (s : Shared) (H : Hp) (C : Addr) (cl : List (Str × Addr)) (code : Value) (fp : List Addr) (A' : Around), Room k A' -> Free A' -> PTs (gx X s H (genEnv scope cl C code builtinsNs X.env) fp A') ifs tt)
    (he : ∀ (s : Shared) (H : Hp) (C : Addr) (cl : List (Str × Addr)) (code : Value) (fp : List Addr) (A' : Around), Room k A' -> Free A' -> PE (gx X s H (genEnv scope cl C code builtinsNs X.env) fp A') elt te)
    (hs : ∀ v, genFold iter X.env v = pure v) (I : Inv X pins σ H s)
    (h : wi σ H fun J H1 => Tb H1 P /\ ∀ H2, TbTo P H1 H2 -> R J H2)
    (hQ : ∀ J H4 a s5 Xg fp tn gob gi, R J H4 -> Src X pins σ J g tt te (own.map (·.2)) H4 a s5 Xg fp tn gob gi -> Q' (.ref a) s5) :
    wpAny (model X.prog X.w) X.A (eval (gexp elt tg iter ifs scope gpos) X.env) Q' X.xe s := by
  have capt : ∀ y ∈ scope.names, y.2 = .free -> ∃ c, X.env.cells.lookup y.1 = some c := fun y hy e => by
    rcases ok.free y hy e with k | k
    · exact I.ok.has _ (.inl k)
    · exact I.ok.has _ (.inr k)
  refine wpAny_GeneratorExp_make S.co (closure_ok capt) S.cell S.dot ok.kind hr.depth ?_ hs
  refine thn (hi.run pins s σ H _ I h) fun xv s1 hx => thn hx fun itv s2 h2 => ?_
  obtain ⟨it, fp, tn, J, H2, e, I2, T, st2, f2, ⟨pt0, hP, triples⟩, q⟩ := h2
  subst e
  have atP : s2.heap.get? P = some { cls := .none, data := .fields pt0 } := I2.hok P _ hP
  have codeAt : PySem.W.CodeHd s2.heap c P := TB.code.keeps fun d u e => I2.bk d u e
  refine ⟨I2.nolimit, ?_⟩
  -- what stands behind the code object's making
  have onward : ∀ (code : Value) (h3 : Heap) (tk : Nat) (ps' : Array Value), Heap.ExtBut P s2.heap h3 -> s2.heap.objs.size <= h3.objs.size ->
      h3.get? P = some { cls := .none, data := .fields ps' } -> (∃ more, ps' = pt0 ++ more) -> TriplesOk ps'.toList ->
      wpAny (model X.prog X.w) X.A (builtinsFor X.env.globals X.env.builtins) (fun bi s4 =>
        ∀ h', h'.Ns s4.heap.objs.size (fun y => if y = ".0" then some (.ref it) else none) -> Heap.SameBut s4.heap.objs.size (s4.heap.push { cls := .type "frame", data := .dict #[] }) h' ->
          Q' (.ref h'.objs.size) { s4 with
            gens := s4.gens.push (.fresh (.compStart (gexp elt tg iter ifs scope gpos) 0 (.ref it) .none (genEnv scope (cloFrom X.env.cells scope.names []) s4.heap.objs.size code bi X.env))),
            toks := s4.toks + 1 + 1 + 1,
            heap := h'.push { cls := .type "generator", data := .fields #[.int s4.gens.size 0, .str "<genexpr>" (s4.toks + 1), .str (X.env.qual ++ "<genexpr>") (s4.toks + 1 + 1)] } }) X.xe { s2 with heap := h3, toks := tk } := by
    intro code h3 tk ps' grown sizes atP3 ⟨more, em⟩ triples3
    obtain ⟨bm, obj, g1, g2, g3, g4, g5, g6, g7, g8⟩ := TB.bm
    have I4 : Inv X pins σ (upd H2 P (.tbl (pt0 ++ more))) { s2 with heap := h3, toks := tk } :=
      GxR.inv_tab (g' := s2.gens) (d' := s2.drawn) I2 hP (fun b o hbb e => grown b o hbb e) (by rw [<- em]; exact atP3) I2.bare
    have ne : ∀ b ∈ fp, b ≠ P := fun b hbb zq => by
      have := (f2 b hbb).1
      rw [zq, hP] at this
      cases this
    refine wpAny_builtinsFor (m := X.mg) (by rw [I2.ok.glob]; exact (I2.mod.glob.keeps I2.bk).extBut grown TB.gP) g1 g2 (grown _ _ g4 (I2.bk _ _ g5)) g6 g7 g8 ?_
    intro h' ns same
    have goal := q (upd H2 P (.tbl (pt0 ++ more))) ⟨⟨pt0 ++ more, upd_same, by rw [<- em]; exact triples3⟩, fun d hd => upd_ne hd⟩
    generalize hs4 : ({ s2 with heap := h3, toks := tk } : Shared) = s4 at I4 ns same ⊢
    generalize hH4 : upd H2 P (.tbl (pt0 ++ more)) = H4 at I4 goal
    have g4 : s4.gens = s2.gens := by rw [<- hs4]
    have st4 : tn 0 s4.heap := T.keep _ _ _ st2 fun b hbb o e => by rw [<- hs4]; exact grown b o (ne b hbb) e
    have f4 : ∀ b ∈ fp, FpOk X pins H4 b /\ b < s4.heap.objs.size := fun b hbb => by
      obtain ⟨o, e, _⟩ := T.obj _ _ st4 b hbb
      refine ⟨⟨?_, (f2 b hbb).2⟩, Heap.lt_size e⟩
      rw [<- hH4, upd_ne (ne b hbb)]
      exact (f2 b hbb).1
    generalize hcenv : genEnv scope (cloFrom X.env.cells scope.names []) s4.heap.objs.size code builtinsNs X.env = cenv
    have fr : (ovr X.A.in4.in1 elt tg iter ifs scope gpos it cenv).frames = some (cenv :: X.stack) := ovr_fr (A := X.A.in4.in1) I4.ok.frames
    have I5 := gen_start (g' := s4.gens.push (.fresh (.compStart (gexp elt tg iter ifs scope gpos) 0 (.ref it) .none cenv))) (tk := s4.toks + 1 + 1 + 1) (A' := ovr X.A.in4.in1 elt tg iter ifs scope gpos it cenv) (code := code)
      I4 ok hN S.cell f4 hr.hd (by rw [hcenv]; exact fr) ns same (I4.bare.push rfl)
    rw [hcenv] at I5
    have room : Room k (ovr X.A.in4.in1 elt tg iter ifs scope gpos it cenv) := ⟨hr.hd, by
      have := hr.dp
      show X.A.depth + 1 + 3 * k + 5 < _
      omega, by
      have := hr.un
      show X.A.units + 1 + 1 + 1 + 1 + 1 + 3 + 16 * k + 200 < _
      omega⟩
    have free : Free (ovr X.A.in4.in1 elt tg iter ifs scope gpos it cenv) := ovr_gd (A := X.A.in4.in1) hf
    have pg := hg s4 H4 s4.heap.objs.size (cloFrom X.env.cells scope.names []) code fp _ room free
    have pt := ht s4 H4 s4.heap.objs.size (cloFrom X.env.cells scope.names []) code fp _ room free
    have pe := he s4 H4 s4.heap.objs.size (cloFrom X.env.cells scope.names []) code fp _ room free
    rw [hcenv] at pg pt pe
    have cS : cenv.scope.isCoroutine = false := by rw [<- hcenv]; exact S.co
    have szh : h'.objs.size = s4.heap.objs.size + 1 := by rw [same.1, Heap.size_push]
    generalize hgob : ({ cls := .type "generator", data := .fields #[.int s4.gens.size 0, .str "<genexpr>" (s4.toks + 1), .str (X.env.qual ++ "<genexpr>") (s4.toks + 1 + 1)] } : Obj) = gob
    have hnc : ∀ v, gob.data ≠ .cell v := fun v zq => by rw [<- hgob] at zq; cases zq
    have nfr : gob.isFreed = false := by rw [<- hgob]; rfl
    have I6 : Inv (gx X s4 H4 cenv fp (ovr X.A.in4.in1 elt tg iter ifs scope gpos it cenv)) [(h'.objs.size, gob)] (wipe σ (own.map (·.2))) H4
        { s4 with gens := s4.gens.push (.fresh (.compStart (gexp elt tg iter ifs scope gpos) 0 (.ref it) .none cenv)), toks := s4.toks + 1 + 1 + 1, heap := h'.push gob } := by
      have J := inv_heap (t := s4.toks + 1 + 1 + 1) I5 (h' := h'.push gob) fun b o e => Heap.get?_push_of_some _ e
      refine J.pins_of fun p hpp => ?_
      rw [List.mem_singleton.mp hpp]
      have new : ({ s4 with heap := h', gens := s4.gens.push (.fresh (.compStart (gexp elt tg iter ifs scope gpos) 0 (.ref it) .none cenv)), toks := s4.toks + 1 + 1 + 1 } : Shared).heap.objs.size <= h'.objs.size := Nat.le_refl _
      exact ⟨Heap.get?_push_size _ nfr, I5.hok.fresh new, Nat.ne_of_gt (Nat.lt_of_lt_of_le I5.lt new), I5.nofs new, hnc⟩
    refine hQ J H4 h'.objs.size _ (gx X s4 H4 cenv fp (ovr X.A.in4.in1 elt tg iter ifs scope gpos it cenv)) fp tn gob s4.gens.size goal ⟨rfl, rfl, rfl, ⟨I6, ?_, fun b hbb => (f4 b hbb).1.1, fun p hpp => ?_⟩, fun hh e => ?_, T.keep, fun b hbb => (f4 b hbb).2, ?_, ?_, fun ps H' s' I' => ?_, fun Pn Yv Qe W turns hmm ps s' hPn G eg => ?_⟩
    · exact T.keep _ _ _ st4 fun b _ o e => Heap.get?_push_of_some _ (same.extBut b o (Nat.ne_of_lt (Heap.lt_size e)) (Heap.get?_push_of_some _ e))
    · rw [List.mem_singleton.mp hpp]
      intro zq
      have := (f4 _ zq).2
      have e9 : h'.objs.size < s4.heap.objs.size := this
      omega
    · rw [<- hgob] at e
      exact ⟨_, _, _, e, rfl, rfl, rfl⟩
    · show s4.heap.objs.size <= (h'.push gob).objs.size
      rw [Heap.size_push, szh]
      omega
    · show h'.objs.size < (h'.push gob).objs.size
      rw [Heap.size_push]
      exact Nat.lt_succ_self _
    · exact I4.call' (ch := fp) I'.os I'.base I'.hok I'.bare fun b hbb => ⟨(f4 b hbb).1.2.2.2.1, (f4 b hbb).1.2.1, (f4 b hbb).1.2.2.2.2.1, (f4 b hbb).1.2.2.2.2.2⟩
    · obtain ⟨m, w⟩ := hmm
      refine ⟨by simp, by simp, hPn, 0, H4, .fresh (.compStart (gexp elt tg iter ifs scope gpos) 0 (.ref it) .none cenv), G, by rw [eg]; exact Array.getElem?_push_size .., fun ps2 s2 p2 G2 => ⟨rfl, ?_⟩⟩
      exact segG0 (Xg := gx X s4 H4 cenv fp (ovr X.A.in4.in1 elt tg iter ifs scope gpos it cenv)) (A := X.A.in4.in1) rfl T pg pt pe rfl hc rfl rfl cS ⟨σ, rfl⟩ turns m _ ps2 s2 s2 H4 rfl w (fun p hp => (G2.inv.pin p (List.mem_append_right _ (List.mem_cons_of_mem _ hp))).1) p2 G2
  cases found : codeAmong gpos pt0.toList with
  | none =>
    refine wpAny_genexprCodeX hcode (codeAt.code atP triples) (codeAt.tab atP) found fun c' h' tk grown ge lt isCode _ tab _ => ?_
    obtain ⟨o1, vs, f1, tf, fl, tg, inF, tx, tt, op, _, _, _, _, _, _, _, _, _, htr, _⟩ := isCode
    exact onward _ h' tk _ grown (Nat.le_trans ge (Nat.le_of_lt lt)) tab.2 ⟨_, rfl⟩ htr
  | some cv =>
    refine wpAny_genexprCode_hit hcode (codeAt.code atP triples) found ?_
    exact onward cv s2.heap s2.toks pt0 (Heap.ExtBut.refl _ _) (Nat.le_refl _) atP ⟨#[], by simp⟩ triples
end
end Gn
namespace Gn
open PySem PySem.Spec PyProof.Rows L2 Sa
section
variable {X Xg : Cx} {pins : Pins} {σ : L2.St} {J : It} {g : TG} {tt : TT} {te : TE} {vs : List Nat} {H4 : Hp} {a : Addr} {s5 : Shared} {fp : List Addr} {tn : Nat -> Heap -> Prop} {gob : Obj} {gi : Nat}
/-- a wake in A -/
def Wakes (Xg : Cx) (σw : L2.St) (fp : List Addr) (tn : Nat -> Heap -> Prop) (gp : Addr × Obj) (gi : Nat) (A0 A : Around) : Prop :=
  ∀ (Pn : Pins -> List V -> Prop) (Yv : NX -> List V -> V -> Hp -> Prop) (Qe : NX) (n : Nat) (ps : Pins) (ys : List V) (s : Shared) (Q : Option Value -> Shared -> Prop) (E : Value -> Shared -> Prop), GT Xg σw fp tn gp Pn Yv Qe A0 gi n ps ys s ->
    (∀ m ps ys y v H i Nx s', n = m + 1 -> ys.length < sizeLine -> RelV y v -> (∀ p ∈ ps, s.heap.get? p.1 = some p.2) -> Pn ps ys -> GG Xg σw fp tn gp ps i H s' -> Yv Nx ys y H ->
      (Nx (ys ++ [y]) H -> ∀ ps' s'', Pn ps' (ys ++ [y]) -> GG Xg σw fp tn gp ps' i H s'' -> s''.gens = s'.gens -> GT Xg σw fp tn gp Pn Yv Qe A0 gi m ps' (ys ++ [y]) s'') -> Q (some v) s') ->
    (∀ ps ys H s', (∀ p ∈ ps, s.heap.get? p.1 = some p.2) -> Pn ps ys -> Inv Xg (gp :: ps) σw H s' -> Qe ys H -> Q none s') -> wpAny (model Xg.prog Xg.w) A (pyNext (.ref gp.1)) Q E s
theorem Wakes.up {σw : L2.St} {gp : Addr × Obj} {A0 A : Around} (w : Wakes Xg σw fp tn gp gi A0 A.in1) : Wakes Xg σw fp tn gp gi A0 A :=
  fun Pn Yv Qe n ps ys s Q E st i d => wpAny_of_in1 (w Pn Yv Qe n ps ys s Q E st i d)
theorem Src.wakes (D : Src X pins σ J g tt te vs H4 a s5 Xg fp tn gob gi) (hh : X.A.handled = none) (room : X.A.depth < recursionLimit) : Wakes Xg (wipe σ vs) fp tn (a, gob) gi X.A.in4 X.A.in4 :=
  fun Pn Yv Qe n ps ys s Q E st i d => next_GT (A := X.A.in4) hh room D.isg st i d
end
end Gn
namespace Gn
open PySem PySem.Spec PyProof.Rows L2 Sa
section
variable {X Xg : Cx} {pins : Pins} {σ : L2.St} {J : It} {g : TG} {tt : TT} {te : TE} {vs : List Nat} {H4 : Hp} {a : Addr} {s5 : Shared} {fp : List Addr} {tn : Nat -> Heap -> Prop} {gob : Obj} {gi : Nat}
/-- the consumer's list holds what came -/
def pLst (S : Addr) : Pins -> List V -> Prop := fun ps ys => ∃ acc c, ps = [(S, lstObj acc c)] /\ Vals ys acc.toList
def yMore : NX -> List V -> V -> Hp -> Prop := fun Nx ys y H => Nx (ys ++ [y]) H
theorem fill_loop {σw : L2.St} {gp : Addr × Obj} {A0 A : Around} {R : Result -> Shared -> Prop} {Qe : NX} {S : Addr} {res : Value} (W : Wakes Xg σw fp tn gp gi A0 A.in1) (keep : ∀ i h h', tn i h -> (∀ b ∈ fp, ∀ o, h.get? b = some o -> h'.get? b = some o) -> tn i h')
    (hpn : Xg.pn = []) (hg : gp.1 ≠ S) (old : Xg.s_0.heap.objs.size <= S)
    (fin : ∀ acc c ys H s', Inv Xg (gp :: [(S, lstObj acc c)]) σw H s' -> Vals ys acc.toList -> Qe ys H -> R (.ok (.ret res)) s') :
    ∀ (n : Nat) (ps : Pins) (ys : List V) (s : Shared), GT Xg σw fp tn gp (pLst S) yMore Qe A0 gi n ps ys s -> codeAny (model Xg.prog Xg.w) A (.builtin "list.extend.loop" ⟨[.ref S, .ref gp.1, res], []⟩) R s := by
  intro n
  induction n with
  | zero =>
    intro ps ys s st
    have := st.1; have := st.2.1
    omega
  | succ n ih =>
    intro ps ys s st
    refine codeAny_builtin F.entry_extend_loop ?_; rw [Around.under_plainId F.plain_extend_loop _]
    show wpAny _ A.in1 (pyNext (.ref gp.1) >>= _) _ _ s
    refine wpAny_bind (W _ _ _ _ _ _ _ _ _ st (fun m ps ys y v H i Nx s' em sm rv hse hp G yv kap => ?_) fun ps ys H s' hse hp I q => ?_)
    · cases em
      obtain ⟨acc, c, rfl, rel⟩ := hp
      have at1 : s'.heap.get? S = some (lstObj acc c) := G.at
      have len : ys.length = acc.size := by rw [rel.length, Array.length_toList]
      show wpAny _ A.in1 (updateSeq S (·.push v) >>= _) _ _ _
      refine wpAny_bind (wpAny_updateSeq at1 rfl (wpAny_pure ⟨plainId_quiet F.plain_extend_loop _, ?_⟩) (by omega) (by show (acc.push v).size <= sizeLine + 1; rw [Array.size_push]; omega))
      have at2 := Heap.get?_update_self (Obj.mapSeq (·.push v)) at1 rfl
      obtain ⟨c2, e2⟩ : ∃ c2, (Obj.mapSeq (·.push v) (lstObj acc c)) = lstObj (acc.push v) c2 := ⟨_, rfl⟩
      have G2 : GG Xg σw fp tn gp [(S, lstObj (acc.push v) c2)] i H { s' with heap := s'.heap.update S (Obj.mapSeq (·.push v)) } :=
        GG.write (t := s'.toks) keep G hpn hg (fun p hp => nomatch hp) old (fun b u hb e => (Heap.get?_update_other _ _ (Ne.symm hb)).trans e) (by rw [<- e2]; exact at2) (fun v z => by cases z)
      exact ih _ (ys ++ [y]) _ (kap yv _ _ ⟨acc.push v, c2, rfl, by rw [Array.toList_push]; exact rel.append (.cons rv .nil)⟩ G2 rfl)
    · obtain ⟨acc, c, rfl, rel⟩ := hp
      exact wpAny_pure (fin acc c ys H s' I rel q)
/-- collect: all that the generator gives, as a list of values -/
theorem collectG {A : Around} {Qe : NX} {E : Value -> Shared -> Prop} {Q : List Value -> Shared -> Prop} {W : Nat -> Nat -> List V -> Hp -> Prop} (D : Src X pins σ J g tt te vs H4 a s5 Xg fp tn gob gi) (K : Wakes Xg (wipe σ vs) fp tn (a, gob) gi X.A.in4 A.in1)
    (turns : Turns J g tt te vs (wipe σ vs) yMore Qe W) (hm : ∃ m, W 0 m [] H4)
    (q : ∀ ys us H s', Inv X pins σ H s' -> Vals ys us -> Qe ys H -> Q us s') : wpAny (model Xg.prog Xg.w) A (collect (.ref a)) Q E s5 := by
  have isG : s5.heap.IsGen a gi := D.isg _ (D.G0.inv.pin (a, gob) (List.mem_append_right _ List.mem_cons_self)).1
  have ty : ∀ {h : Heap} {t : Nat}, (∀ b u, s5.heap.get? b = some u -> h.get? b = some u) -> Shared.TypeIs { s5 with heap := h, toks := t } (.ref a) "generator" := fun k => (isG.keeps k).typeIs
  have nS : s5.heap.objs.size ≠ a := Nat.ne_of_gt D.alt
  unfold collect
  refine wpAny_bind (wpAny_runValue (codeAny_builtin F.entry_proto_collect ?_)); rw [Around.under_plainId F.plain_proto_collect _]
  show wpAny _ A.in1 (newList [] >>= fun l => again (.builtin "list.__iadd__" ⟨[l, .ref a], []⟩)) _ _ s5
  refine wpAny_bind (wpAny_newObj_type (wpAny_pure ⟨plainId_quiet F.plain_list_iadd _, codeAny_builtin F.entry_list_iadd ?_⟩)); rw [Around.under_plainId F.plain_list_iadd _]
  let h1 := s5.heap.push { cls := .type "list", data := .seq ([] : List Value).toArray }
  have k1 : ∀ b u, s5.heap.get? b = some u -> h1.get? b = some u := fun b u e => Heap.get?_push_of_some _ e
  have ty1 := ty (h := h1) (t := s5.toks) k1
  show wpAny _ A.in1 (Builtin.List.listExtendWith (.ref s5.heap.objs.size) (.ref a) (.ref s5.heap.objs.size)) _ _ _
  unfold Builtin.List.listExtendWith
  refine wpAny_bind (wpAny_typeOf ty1 ?_)
  have n1 : Builtin.List.listSameRef (.ref s5.heap.objs.size) (.ref a) = false := by simp [Builtin.List.listSameRef, nS]
  simp only [n1, (by decide : (Value.type "generator" == Value.type "list") = false), (by decide : (Value.type "generator" == Value.type "tuple") = false), Bool.or_false, Bool.false_eq_true, if_false]
  refine wpAny_bind (wpAny_pyIter_gen (isG.keeps k1) (wpAny_bind (wpAny_holding ?_)))
  unfold Builtin.List.listLengthHint
  refine wpAny_bind (wpAny_specialOf ty1 F.gen_no_len ?_)
  show wpAny _ A.in1 (specialOf (Value.ref a) (Str.ofString "__length_hint__") >>= _) _ _ _
  refine wpAny_bind (wpAny_specialOf ty1 F.gen_no_hint (wpAny_pure ?_))
  show wpAny _ A.in1 (rule "list.extend.makes-room" >>= fun _ => Builtin.List.listTouch (.ref s5.heap.objs.size) >>= fun _ =>
    again (.builtin "list.extend.loop" ⟨[.ref s5.heap.objs.size, .ref a, .ref s5.heap.objs.size], []⟩)) _ _ _
  refine wpAny_bind (wpAny_rule (wpAny_bind ?_))
  have a1 : h1.get? s5.heap.objs.size = some { cls := .type "list", data := .seq ([] : List Value).toArray } := Heap.get?_push_size _ rfl
  show wpAny _ A.in1 (updateSeq s5.heap.objs.size (·.push .none) >>= fun _ => updateSeq s5.heap.objs.size (·.pop)) _ _ _
  refine wpAny_bind (wpAny_updateSeq a1 rfl ?_)
  have a2 := Heap.get?_update_self (Obj.mapSeq (·.push Value.none)) a1 rfl
  refine wpAny_updateSeq a2 rfl ?_
  have a3 := Heap.get?_update_self (Obj.mapSeq (·.pop)) a2 rfl
  have kk : ∀ b u, s5.heap.get? b = some u -> ((h1.update s5.heap.objs.size (Obj.mapSeq (·.push Value.none))).update s5.heap.objs.size (Obj.mapSeq (·.pop))).get? b = some u := fun b u e => by
    have nb : s5.heap.objs.size ≠ b := Nat.ne_of_gt (Heap.lt_size e)
    exact (Heap.get?_update_other _ _ nb).trans ((Heap.get?_update_other _ _ nb).trans (k1 b u e))
  obtain ⟨c3, e3⟩ : ∃ c3, Obj.mapSeq (·.pop) (Obj.mapSeq (·.push Value.none) ({ cls := .type "list", data := .seq ([] : List Value).toArray } : Obj)) = lstObj #[] c3 := ⟨_, rfl⟩
  have G3 := D.G0.lay (obj := lstObj #[] c3) (t := s5.toks) D.keep (fun b hb => Nat.lt_of_lt_of_le (D.lo b hb) D.sz) kk (by rw [<- e3]; exact a3) (Nat.le_refl _) (fun v z => by cases z)
  refine wpAny_pure ⟨plainId_quiet F.plain_extend_loop _, ?_⟩
  refine fill_loop (S := s5.heap.objs.size) (Qe := Qe) K D.keep D.pn nS.symm D.sz (fun acc c ys H s' I rel qe => ?_) _ _ _ _ (D.start (pLst s5.heap.objs.size) yMore Qe W turns hm _ _ ⟨#[], c3, rfl, .nil⟩ G3 rfl)
  show wpAny _ A (load s5.heap.objs.size >>= _) _ _ s'
  refine wpAny_bind (wpAny_load (I.pin (s5.heap.objs.size, lstObj acc c) (List.mem_append_right _ (List.mem_cons_of_mem _ List.mem_cons_self))).1 ?_)
  exact wpAny_pure (q ys acc.toList H s' (D.back _ H s' I) rel qe)
/-- tuple(generator) -/
theorem tupleG {A : Around} {Qe : NX} {E : Value -> Shared -> Prop} {Q : Value -> Shared -> Prop} {W : Nat -> Nat -> List V -> Hp -> Prop} (D : Src X pins σ J g tt te vs H4 a s5 Xg fp tn gob gi) (K : Wakes Xg (wipe σ vs) fp tn (a, gob) gi X.A.in4 A.in1.in1.in1)
    (turns : Turns J g tt te vs (wipe σ vs) yMore Qe W) (hm : ∃ m, W 0 m [] H4) (few : ∀ ys H, Qe ys H -> ys.length <= sizeLine)
    (q : ∀ ys us H s', Inv X pins σ H s' -> Vals ys us -> Qe ys H -> Q (.ref s'.heap.objs.size) { s' with heap := s'.heap.push { cls := .type "tuple", data := .seq us.toArray } }) : wpAny (model Xg.prog Xg.w) A (call (.type "tuple") [.ref a]) Q E s5 := by
  have isG : s5.heap.IsGen a gi := D.isg _ (D.G0.inv.pin (a, gob) (List.mem_append_right _ List.mem_cons_self)).1
  refine callType_codes (Q₁ := fun obj s1 => s1.TypeIs obj "tuple" /\ Q obj s1) F.called_tuple (F.typeCall_tuple_1 _) F.entry_object_init ?_ fun obj s1 z => ?_
  · refine codeAny_of_tree ?_
    show wpAny _ A.in1.in1 (do checkBuiltinCall "tuple.__new__" ⟨[.type "tuple", .ref a], []⟩; again (.builtin "tuple.__new__" ⟨[.type "tuple", .ref a], []⟩)) _ _ s5
    refine wpAny_bind (wpAny_of_eq (F.newCall_tuple_1 _) (wpAny_pure ⟨plainId_quiet F.plain_tuple_new _, codeAny_builtin F.entry_tuple_new ?_⟩)); rw [Around.under_plainId F.plain_tuple_new _]
    have z1 := sub_tuple_self; have z2 := init_tuple_lookup; have z3 := madeHere_tuple
    have z4 := isG.typeIs
    wp_walk using wpAny_typeOf z4, collectG D K turns hm
    intro ys us H s' I rel qe
    show wpAny _ _ (Builtin.Tuple.tupleExact us.toArray >>= fun v => ret v) _ _ _
    unfold Builtin.Tuple.tupleExact
    refine wpAny_bind (wpAny_newObj_type (wpAny_pure ?_) (by show us.toArray.size <= sizeLine; rw [List.size_toArray, <- rel.length]; exact few ys H qe))
    exact ⟨⟨_, Heap.get?_push_size _ rfl, rfl⟩, q ys us H s' I rel qe⟩
  · exact ⟨z.1, F.args_object_init_2 obj _, object_init_meets F.called_tuple.init.lookup F.called_tuple.made (by decide) _ _ A.in1 _ s1 ⟨z.1, rfl, z.2⟩⟩
end
end Gn
namespace Gn
open PySem PySem.Spec PyProof.Rows L2 Sa
/-- what the consumer wants of the generator: U by the iterator, the slots, the heap -/
def tGx (P : Addr) (wi : TI) (U : It -> L2.St -> Hp -> VK -> Prop) : TE := fun σ H Q => wi σ H fun J H1 => Tb H1 P /\ ∀ H2, TbTo P H1 H2 -> U J σ H2 Q
def uTup (g : TG) (tt : TT) (te : TE) (vs : List Nat) : It -> L2.St -> Hp -> VK -> Prop := fun J σ H Q => ∃ W, Turns J g tt te vs (wipe σ vs) yMore (fun ys H => ys.length <= sizeLine /\ ∀ T, H T = none -> Q (.ref T) (upd H T (.tup ys))) W /\ ∃ m, W 0 m [] H
section
variable {X : Cx} {c P : Addr} {elt tg iter : Expr} {ifs : List Expr} {gpos p pos : Pos} {scope : Scope} {own : List (Str × Nat)} {wi : TI} {g : TG} {tt : TT} {te : TE} {k : Nat}
/-- the frame's parts, whatever frame -/
abbrev InG (X : Cx) (scope : Scope) (k : Nat) (J : Cx -> Prop) : Prop :=
  ∀ (s : Shared) (H : Hp) (C : Addr) (cl : List (Str × Addr)) (code : Value) (fp : List Addr) (A' : Around), Room k A' -> Free A' -> J (gx X s H (genEnv scope cl C code builtinsNs X.env) fp A')
theorem pe_tupX (hr : Room (k + 1) X.A) (hf : Free X.A) (hc : X.calm = true) (hN : X.N.Nodup) (hgl : Gl X "tuple") (hm : X.mg "tuple" = none) (TB : LamX.TabB X.base X.mg c P) (hcode : X.env.code = .ref c) (S : GSc scope) (ok : BlkOk X.N X.env.scope scope own) (hi : PI X tg iter wi)
    (hg : InG X scope k fun Y => PG Y tg g) (ht : InG X scope k fun Y => PTs Y ifs tt) (he : InG X scope k fun Y => PE Y elt te) (hs : ∀ v, genFold iter X.env v = pure v)
    (hz : starEach [gexp elt tg iter ifs scope gpos] X.env = (false, eval (gexp elt tg iter ifs scope gpos) X.env) :: starEach [] X.env := by rfl) :
    PE X (.Call (.Name "tuple" p) [gexp elt tg iter ifs scope gpos] [] pos) (tGx P wi (uTup g tt te (own.map (·.2)))) := by
  refine ⟨fun pins s σ H Q I h => ?_⟩
  refine wpAny_Call_Name_kw (ld_blt I hgl hm PyProof.Rows.boot_tuple ?_)
  refine PyProof.Rows.callWith_type1 ?_ hz (by rfl); rw [hz]
  show wpAny _ _ (spliced ((false, eval (gexp elt tg iter ifs scope gpos) X.env) :: backTo pos (starEach [] X.env))) _ _ s
  refine Calls.spliced_cons (gen_make (R := fun J H2 => uTup g tt te (own.map fun q : Str × Nat => q.2) J σ H2 Q) hr hf hc hN TB hcode S ok hi hg ht he hs I h fun J H4 a s5 Xg fp tn gob gi ⟨W, turns, hm⟩ D => Calls.spliced_nil ?_)
  have go := tupleG (A := X.A) (E := X.xe) (Q := EP X pins σ Q) D ((D.wakes hr.hd hr.depth).up) turns hm (fun ys H q => q.1) fun ys us H s' J' rel q => ?_
  · rw [D.prog, D.w] at go
    exact go
  · have fresh : H s'.heap.objs.size = none := J'.hok.fresh (Nat.le_refl _)
    refine ⟨.ref s'.heap.objs.size, upd H s'.heap.objs.size (.tup ys), J'.laid (t' := s'.toks) (fun d u e => Heap.get?_push_of_some _ e) (Nat.le_refl _) ?_, rfl, q.2 _ fresh⟩
    exact ⟨q.1, us, rel, ⟨_, Heap.get?_push_size _ rfl, rfl, _, rfl⟩⟩
end
end Gn
namespace Gn
open PySem PySem.Spec PyProof.Rows L2 Sa
/-- what max's list holds behind ys: nothing, or the greatest of them, twice -/
def Best (ys : List V) (arr : Array Value) : Prop := (ys = [] /\ arr = #[]) ∨ ∃ (is : List Int) (m : Int) (t : Tok), ys = is.map V.int /\ arr = #[.int m t, .int m t] /\ m ∈ is /\ ∀ i ∈ is, i <= m
def pMax (S : Addr) : Pins -> List V -> Prop := fun ps ys => ∃ arr c, ps = [(S, lstObj arr c)] /\ Best ys arr
def yMax : NX -> List V -> V -> Hp -> Prop := fun Nx ys y H => (∃ i, y = .int i) /\ Nx (ys ++ [y]) H
theorem Best.first (i : Int) (t : Tok) : Best [.int i] #[.int i t, .int i t] := .inr ⟨[i], i, t, rfl, rfl, List.mem_singleton.mpr rfl, fun j hj => by rw [List.mem_singleton.mp hj]; exact Int.le_refl _⟩
theorem Best.greater {is : List Int} {m i : Int} (t : Tok) (top : ∀ j ∈ is, j <= m) (gt : m < i) : Best (is.map V.int ++ [.int i]) #[.int i t, .int i t] :=
  .inr ⟨is ++ [i], i, t, by simp, rfl, by simp, fun j hj => by
    rcases List.mem_append.mp hj with h | h
    · have := top j h; omega
    · rw [List.mem_singleton.mp h]; exact Int.le_refl _⟩
theorem Best.kept {is : List Int} {m i : Int} {t : Tok} (mem : m ∈ is) (top : ∀ j ∈ is, j <= m) (le : i <= m) : Best (is.map V.int ++ [.int i]) #[.int m t, .int m t] :=
  .inr ⟨is ++ [i], m, t, by simp, rfl, List.mem_append_left _ mem, fun j hj => by
    rcases List.mem_append.mp hj with h | h
    · exact top j h
    · rw [List.mem_singleton.mp h]; exact le⟩
section
variable {Xg : Cx} {fp : List Addr} {tn : Nat -> Heap -> Prop} {gi : Nat}
theorem max_loop {σw : L2.St} {gp : Addr × Obj} {A0 A : Around} {R : Result -> Shared -> Prop} {Qe : NX} {S : Addr} (W : Wakes Xg σw fp tn gp gi A0 A.in1) (keep : ∀ i h h', tn i h -> (∀ b ∈ fp, ∀ o, h.get? b = some o -> h'.get? b = some o) -> tn i h')
    (hpn : Xg.pn = []) (hg : gp.1 ≠ S) (old : Xg.s_0.heap.objs.size <= S) (some' : ∀ H, ¬ Qe [] H)
    (fin : ∀ (is : List Int) (m : Int) (t : Tok) (c : Nat) (ys : List V) (H : Hp) (s' : Shared), Inv Xg (gp :: [(S, lstObj #[] c)]) σw H s' -> ys = is.map V.int -> m ∈ is -> (∀ j ∈ is, j <= m) -> Qe ys H -> R (.ok (.ret (.int m t))) s') :
    ∀ (n : Nat) (ps : Pins) (ys : List V) (s : Shared), GT Xg σw fp tn gp (pMax S) yMax Qe A0 gi n ps ys s -> codeAny (model Xg.prog Xg.w) A (.builtin "max.loop" ⟨[.ref gp.1, .none, .ref S], []⟩) R s := by
  intro n
  induction n with
  | zero =>
    intro ps ys s st
    have := st.1
    have := st.2.1
    omega
  | succ n ih =>
    intro ps ys s st
    obtain ⟨arr0, c0, e0, best0⟩ := st.2.2.1
    have at0 : s.heap.get? S = some (lstObj arr0 c0) := by
      obtain ⟨_, _, _, i, H, gs, G, _⟩ := st
      rw [e0] at G
      exact G.at
    refine codeAny_builtin F.entry_max_loop ?_
    rw [Around.under_plainId F.plain_max_loop _]
    show wpAny _ A.in1 (seqItems? (.ref S) >>= _) _ _ s
    refine wpAny_bind (wpAny_seqItems at0 rfl ?_)
    refine wpAny_bind (wpAny_tryCatch (W _ _ _ _ _ _ _ _ _ st (fun m ps ys y v H i Nx s' em sm rv hse hp G yv kap => ?_) fun ps ys H s' hse hp I q => ?_))
    · cases em
      obtain ⟨arr, c, rfl, best⟩ := hp
      obtain ⟨⟨k, rfl⟩, nx⟩ := yv
      obtain ⟨t, rfl⟩ := rv
      cases Option.some.inj ((hse _ List.mem_cons_self).symm.trans at0)
      have few : arr0.size <= sizeLine := by
        rcases best with ⟨_, rfl⟩ | ⟨_, _, _, _, rfl, _⟩
        · exact Nat.zero_le _
        · exact (by decide : 2 <= sizeLine)
      -- on, the list holding what it should
      have again' : ∀ (s2 : Shared) (arr2 : Array Value) (c2 : Nat), Best (ys ++ [.int k]) arr2 -> GG Xg σw fp tn gp [(S, lstObj arr2 c2)] i H s2 -> s2.gens = s'.gens ->
          codeAny (model Xg.prog Xg.w) A (.builtin "max.loop" ⟨[.ref gp.1, .none, .ref S], []⟩) R s2 := fun s2 arr2 c2 best2 G2 eg => ih _ (ys ++ [.int k]) s2 (kap nx _ s2 ⟨arr2, c2, rfl, best2⟩ G2 eg)
      have put : ∀ (f : Array Value -> Array Value), f = (fun _ => #[Value.int k t, Value.int k t]) -> Best (ys ++ [.int k]) #[.int k t, .int k t] -> ∀ Q : Unit -> Shared -> Prop, (∀ s2, codeAny (model Xg.prog Xg.w) A (.builtin "max.loop" ⟨[.ref gp.1, .none, .ref S], []⟩) R s2 -> Q () s2) ->
          wpAny (model Xg.prog Xg.w) A.in1 (updateSeq S f) Q (fun e s' => R (.error e) s') s' := by
        rintro _ rfl best2 Q hQ
        refine wpAny_updateSeq G.at rfl (hQ _ ?_) few
        exact again' _ _ _ best2 (GG.write (t := s'.toks) keep G hpn hg (fun p no => (nomatch no)) old (fun b u hb e => (Heap.get?_update_other _ _ (Ne.symm hb)).trans e) (Heap.get?_update_self (Obj.mapSeq fun _ => #[Value.int k t, Value.int k t]) G.at rfl) (fun v z => by cases z)) rfl
      rcases best with ⟨rfl, rfl⟩ | ⟨is, m, u, rfl, rfl, mem, top⟩
      · exact wpAny_bind (wpAny_pure (wpAny_bind (put _ rfl (.first k t) _ fun s2 go => wpAny_pure ⟨plainId_quiet F.plain_max_loop _, go⟩)))
      · refine wpAny_bind (wpAny_pure (wpAny_bind (wpAny_tryCatch (wpAny_holding (wpAny_bind ?_)))))
        refine CmpOf.ints_gt (fun n : Nat => if n = 0 then k else m) (P := fun n v => (n = 0 /\ v = .int k t) ∨ (n = 1 /\ v = .int m u)) (fun n v hv => ?_) 0 1 _ _ _ _ _ (.inl ⟨rfl, rfl⟩) (.inr ⟨rfl, rfl⟩) ?_
        · rcases hv with ⟨rfl, rfl⟩ | ⟨rfl, rfl⟩
          · exact ⟨t, rfl⟩
          · exact ⟨u, rfl⟩
        refine wpAny_bind (wpAny_holding (wpAny_truthy_bool (wpAny_bind (wpAny_letGo (wpAny_pure ?_)))))
        by_cases gt : m < k
        · rw [if_pos (by simpa using gt)]
          exact wpAny_bind (put _ rfl (.greater t top gt) _ fun s2 go => wpAny_bind (wpAny_letGo (wpAny_pure ⟨plainId_quiet F.plain_max_loop _, go⟩)))
        · rw [if_neg (by simpa using gt)]
          exact wpAny_bind (wpAny_letGo (wpAny_pure ⟨plainId_quiet F.plain_max_loop _, again' _ _ _ (.kept mem top (by omega)) G rfl⟩))
    · obtain ⟨arr, c, rfl, best⟩ := hp
      cases Option.some.inj ((hse _ List.mem_cons_self).symm.trans at0)
      rcases best with ⟨rfl, rfl⟩ | ⟨is, m, u, rfl, rfl, mem, top⟩
      · exact absurd q (some' H)
      · have G : GG Xg σw [] (fun _ _ => True) gp [(S, lstObj #[.int m u, .int m u] c0)] 0 H s' := ⟨I, trivial, fun b no => (nomatch no), fun p _ no => (nomatch no)⟩
        have G2 := GG.write (t := s'.toks) (fun _ _ _ _ _ => trivial) G hpn hg (fun p no => (nomatch no)) old (h' := s'.heap.update S (Obj.mapSeq fun _ => #[])) (fun b x hb e => (Heap.get?_update_other _ _ (Ne.symm hb)).trans e) (Heap.get?_update_self (Obj.mapSeq fun _ => #[]) G.at rfl) (fun v z => by cases z)
        exact wpAny_bind (wpAny_updateSeq G.at rfl (wpAny_bind (wpAny_letGo (wpAny_pure (fin is m u _ _ H _ G2.inv rfl mem top q)))))
end
def uMax (g : TG) (tt : TT) (te : TE) (vs : List Nat) : It -> L2.St -> Hp -> VK -> Prop := fun J σ H Q => ∃ W, Turns J g tt te vs (wipe σ vs) yMax (fun ys H => ys ≠ [] /\ ∀ (is : List Int) (m : Int), ys = is.map V.int -> m ∈ is -> (∀ j ∈ is, j <= m) -> Q (.int m) H) W /\ ∃ m, W 0 m [] H
section
variable {X : Cx} {c P : Addr} {elt tg iter : Expr} {ifs : List Expr} {gpos p pos : Pos} {scope : Scope} {own : List (Str × Nat)} {wi : TI} {g : TG} {tt : TT} {te : TE} {k : Nat}
theorem pe_maxX (hr : Room (k + 1) X.A) (hf : Free X.A) (hc : X.calm = true) (hN : X.N.Nodup) (hgl : Gl X "max") (hm : X.mg "max" = none) (TB : LamX.TabB X.base X.mg c P) (hcode : X.env.code = .ref c) (S : GSc scope) (ok : BlkOk X.N X.env.scope scope own) (hi : PI X tg iter wi)
    (hg : InG X scope k fun Y => PG Y tg g) (ht : InG X scope k fun Y => PTs Y ifs tt) (he : InG X scope k fun Y => PE Y elt te) (hs : ∀ v, genFold iter X.env v = pure v)
    (hz : starEach [gexp elt tg iter ifs scope gpos] X.env = (false, eval (gexp elt tg iter ifs scope gpos) X.env) :: starEach [] X.env := by rfl) :
    PE X (.Call (.Name "max" p) [gexp elt tg iter ifs scope gpos] [] pos) (tGx P wi (uMax g tt te (own.map (·.2)))) := by
  refine ⟨fun pins s σ H Q I h => ?_⟩
  refine wpAny_Call_Name_kw (ld_blt (u := .builtin "max") I hgl hm (by decide +kernel) (PyProof.Rows.callWith_builtin1 ?_ hz (by rfl)))
  rw [hz]
  refine Calls.spliced_cons (gen_make (R := fun J H2 => uMax g tt te (own.map fun q : Str × Nat => q.2) J σ H2 Q) hr hf hc hN TB hcode S ok hi hg ht he hs I h fun J H4 a s5 Xg fp tn gob gi ⟨W, turns, hm⟩ D => Calls.spliced_nil ?_)
  have isG : s5.heap.IsGen a gi := D.isg _ (D.G0.inv.pin (a, gob) (List.mem_append_right _ List.mem_cons_self)).1
  refine call_function_tree F.kind_max F.plain_max F.entry_max (F.args_max1 _) ?_
  refine wpAny_bind (wpAny_of_eq (show Builtin.Builtins.bindParams "max" ["key", "default"] 0 { } = pure [none, none] from rfl) (wpAny_bind (wpAny_pure (wpAny_bind (wpAny_pyIter_gen isG (wpAny_bind (wpAny_newList ?_)))))))
  have G1 := D.G0.lay (obj := lstObj #[] 0) (t := s5.toks) D.keep (fun b hb => Nat.lt_of_lt_of_le (D.lo b hb) D.sz) (fun _ _ e => Heap.get?_push_of_some _ e) (Heap.get?_push_size _ rfl) (Nat.le_refl _) (fun v z => by cases z)
  have go := max_loop (A := X.A) (R := fun r s' => match r with | .ok (.ret u) => EP X pins σ Q u s' | _ => False) (S := s5.heap.objs.size) ((((D.wakes hr.hd hr.depth).up).up).up) D.keep D.pn (Nat.ne_of_lt D.alt) D.sz (fun _ q => q.1 rfl)
    (fun is m t c ys H s' I' ey mem top q => ⟨.int m, H, D.back _ H s' I', ⟨t, rfl⟩, q.2 is m ey mem top⟩) (sizeLine + 1) _ _ _ (D.start (pMax s5.heap.objs.size) yMax _ W turns hm _ _ ⟨#[], 0, rfl, .inl ⟨rfl, rfl⟩⟩ G1 rfl)
  rw [D.prog, D.w] at go
  refine wpAny_pure ⟨plainId_quiet F.plain_max_loop _, codeAny_mono go fun r s' q => ?_⟩
  match r, q with
  | .ok (.ret u), q => exact q
end
end Gn
namespace Gn
open PySem PySem.Spec PyProof.Rows L2 Sa
end Gn
namespace Sa
open PySem PySem.Spec PyProof.Rows L2
/-- the def x of the text, as the top has left it -/
structure Stands (K : PySem.W.Frag) (mg : Str -> Option Value) (x : Str) (st : Stmt) (ps : List Str) : Prop where
  ex : ∃ f fd, Fun K x x st f fd /\ mg x = some (.ref f) /\ Binds K fd ps []
/-- the def x keeps the promise sp, by at most k calls within one another -/
structure Df (P : Program) (w : World) (K : PySem.W.Frag) (mg : Str -> Option Value) (base : Heap) (k : Nat) (x : Str) (ps : List Str) (sp : Sp) : Prop where
  ex : ∃ f fd, FnG P w K mg base k f fd ps sp /\ mg x = some (.ref f) /\ PySem.W.keepIn K (.ref f) = true /\ Binds K fd ps []
section
variable {P : Program} {w : World} {K : PySem.W.Frag} {mg : Str -> Option Value} {base : Heap} {k : Nat} {x : Str} {st : Stmt} {N ps : List Str} {sp : Sp}
theorem Df.mk' (S : Stands K mg x st ps) (h : ∀ f fd, Fun K x x st f fd -> FnG P w K mg base k f fd ps sp) : Df P w K mg base k x ps sp := by
  obtain ⟨f, fd, F, m, b⟩ := S.ex
  exact ⟨f, fd, h f fd F, m, F.kp, b⟩
theorem Df.weak {sp' : Sp} (D : Df P w K mg base k x ps sp) (h : ∀ vs H Q E, sp' vs H Q E -> sp vs H Q E) : Df P w K mg base k x ps sp' := by
  obtain ⟨f, fd, G, m, kp, b⟩ := D.ex
  exact ⟨f, fd, ⟨fun vs H Q E q => G.many vs H Q E (h _ _ _ _ q), fun A outer s H args us vs Q E r1 r2 r3 r4 r5 r6 => G.runs A outer s H args us vs Q E r1 r2 r3 r4 r5 (h _ _ _ _ r6)⟩, m, kp, b⟩
/-- the body of a def -/
theorem Df.of (S : Stands K mg x st ps) (sc : FnScope N ps (defScope st)) (many : ∀ vs H Q E, sp vs H Q E -> vs.length = ps.length)
    (walk : ∀ (f : Addr) (cdv : Value) (A : Around) (outer : List Env) (s : Shared) (H : Hp) (vs : List V) (Q : VK) (E : XK), Room k (A.deeper (envOfC x (defScope st) s.heap.objs.size f cdv)) -> Free A ->
      sp vs H Q E -> ∃ t, PSs (cxOf CX0 P w K mg base N x (defScope st) f cdv A outer s H E).nox (defBody st) t /\ t ⟨fun _ H' => Q .non H', Q, fun _ _ => False, fun _ _ => False⟩ (start N vs) H) :
    Df P w K mg base (k + 1) x ps sp :=
  Df.mk' S fun f fd F => okG F sc many fun cdv A outer s H vs Q E _ hr hf h => walk f cdv A outer s H vs Q E hr hf h
/-- the same, the def's code object known -/
theorem Df.ofC {f0 c : Addr} {fd0 : FuncData} (F : Fun K x x st f0 fd0) (m : mg x = some (.ref f0)) (b : Binds K fd0 ps []) (hc : fd0.code = .ref c) (sc : FnScope N ps (defScope st)) (many : ∀ vs H Q E, sp vs H Q E -> vs.length = ps.length)
    (walk : ∀ (A : Around) (outer : List Env) (s : Shared) (H : Hp) (vs : List V) (Q : VK) (E : XK), Room k (A.deeper (envOfC x (defScope st) s.heap.objs.size f0 (.ref c))) -> Free A ->
      sp vs H Q E -> ∃ t, PSs (cxOf CX0 P w K mg base N x (defScope st) f0 (.ref c) A outer s H E).nox (defBody st) t /\ t ⟨fun _ H' => Q .non H', Q, fun _ _ => False, fun _ _ => False⟩ (start N vs) H) :
    Df P w K mg base (k + 1) x ps sp :=
  ⟨f0, fd0, okG F sc many fun cdv A outer s H vs Q E e hr hf h => by
    rw [hc] at e
    subst e
    exact walk A outer s H vs Q E hr hf h, m, F.kp, b⟩
end
section
variable {X : Cx} {k : Nat} {ps : List Str} {sp : Sp} {x : Str} {p pos : Pos} {e : Expr} {es : List Expr} {t : TA}
theorem pe_df (D : Df X.prog X.w X.K X.mg X.base k x ps sp) (hr : Room k X.A) (hf : Free X.A) (hg : Gl X x) (args : PA X (e :: es) t) (nd : (x == ("__debug__" : Str)) = false := by decide)
    (he : starEach (e :: es) X.env = (false, eval e X.env) :: starEach es X.env := by rfl) (np : (backTo pos (starEach es X.env)).any (·.1) = false := by rfl) :
    PE X (.Call (.Name x p) (e :: es) [] pos) (tCall sp [] E0 t) := by
  obtain ⟨f, fd, G, m, kp, b⟩ := D.ex
  exact pe_callG G hr hf hg m kp b args nd he np
end
end Sa
set_option maxHeartbeats 2000000
namespace Sa
open PySem PySem.Spec PyProof.Rows L2
/-- the script is to be read at a, whatever is done -/
def Scr (K : PySem.W.Frag) (H : Hp) (a : Addr) (xs : List V) : Prop := (∃ o, H a = some (.frz o (.lst xs))) ∨ ∀ H' : Hp, SqL K H' a xs
theorem Scr.sq {K : PySem.W.Frag} {H : Hp} {a : Addr} {xs : List V} (h : Scr K H a xs) : SqL K H a xs := by
  rcases h with ⟨o, e⟩ | h
  · exact .inl (.inr ⟨o, e⟩)
  · exact h H
theorem Scr.keep {K : PySem.W.Frag} {H H' : Hp} {a : Addr} {xs : List V} (h : Scr K H a xs) (e : ∀ o, H a = some (.frz o (.lst xs)) -> H' a = some (.frz o (.lst xs))) : Scr K H' a xs := by
  rcases h with ⟨o, q⟩ | h
  · exact .inl ⟨o, e o q⟩
  · exact .inr h
abbrev noTab : Obj := { cls := .none, data := .fields #[] }
abbrev scriptO (vs : List Value) : Obj := { cls := .type "list", data := .seq vs.toArray }
section
variable {P : Program} {w : World} {K : PySem.W.Frag} {mg mb : Str -> Option Value} {k : Nat} {fa a : Addr} {cs : List (Addr × Addr)} {fd : FuncData} {x : Str} {sp : Sp} {s1 : Shared} {vs : List Value} {ns : List Int}
open Classical in
/-- what is tracked as the law begins: the tables, and the script if the top didn't write it -/
noncomputable def begun (K : PySem.W.Frag) (cs : List (Addr × Addr)) (a : Addr) (vs : List Value) (ns : List Int) : Hp := fun b =>
  if b ∈ cs.map (·.2) then some (.tbl #[]) else if b = a /\ K.lookup a = none then some (.frz (scriptO vs) (.lst (ns.map V.int))) else none
theorem law_run (inH : K.In s1.heap) (names : s1.heap.Ns mainGlobals mg) (blt : s1.heap.Ns builtinsNs mb) (isBoot : ∀ x : Str, x ≠ "__name__" -> mb x = bootBuiltins x) (noLim : s1.heap.NoLimit) (noGen : s1.gens = #[])
    (hT : ∀ p ∈ cs, s1.heap.get? p.2 = some noTab) (nT : ∀ p ∈ cs, K.lookup p.2 = none) (code : ∀ p ∈ cs, PySem.W.CodeHd s1.heap p.1 p.2)
    (hbm : ∃ (bm : Addr) (ob : Obj), mg "__builtins__" = some (.ref bm) /\ bm ≠ builtinsNs /\ s1.heap.get? bm = some ob /\ ob.cls = .type "module" /\ ob.dict = some builtinsNs /\ ob.data = .plain)
    (ha : s1.heap.get? a = some (scriptO vs)) (isInts : IntsAre vs ns) (short : ns.length <= sizeLine) (hr : Room k callerA)
    (F : ∀ base : Heap, K.In base -> base.Ns mainGlobals mg -> (∀ p ∈ cs, LamX.TabB base mg p.1 p.2) -> FnG P w K mg base k fa fd [x] sp) (bind : ∀ (s : Shared) (u : Value), BindsTo s fd ⟨[u], []⟩ [(x, u)])
    (hsp : ∀ H : Hp, (∀ p ∈ cs, H p.2 = some (.tbl #[])) -> Scr K H a (ns.map V.int) -> sp [.ref a] H (fun v _ => v = .bl true) fun _ _ _ => False) :
    codeAny (model P w) callerA (.call (.ref fa) ⟨[.ref a], []⟩) (fun r s' => r = .ok (.ret (.bool true)) /\ OldK s1.heap s'.heap /\ s'.os = s1.os /\ AllBare s'.gens) s1 := by
  have rel := vals_ints isInts
  have tabAt : ∀ b ∈ cs.map (·.2), s1.heap.get? b = some noTab := fun b hb => by
    obtain ⟨p, hp, e⟩ := List.mem_map.mp hb
    rw [<- e]
    exact hT p hp
  have scriptNoTab : a ∉ cs.map (·.2) := fun z => by
    have q := tabAt a z
    rw [ha] at q
    have d := congrArg Obj.data (Option.some.inj q)
    cases d
  obtain ⟨H, hH⟩ : ∃ H, H = begun K cs a vs ns := ⟨_, rfl⟩
  have onTab : ∀ b ∈ cs.map (·.2), H b = some (.tbl #[]) := fun b hb => by rw [hH]; exact if_pos hb
  have onScript : K.lookup a = none -> H a = some (.frz (scriptO vs) (.lst (ns.map V.int))) := fun z => by
    rw [hH]
    exact (if_neg scriptNoTab).trans (if_pos ⟨rfl, z⟩)
  have offAll : ∀ b, b ∉ cs.map (·.2) -> ¬ (b = a /\ K.lookup a = none) -> H b = none := fun b h1 h2 => by
    rw [hH]
    exact (if_neg h1).trans (if_neg h2)
  have isOne : ∀ b, H b = none ∨ b ∈ cs.map (·.2) ∨ (b = a /\ K.lookup a = none) := fun b => by
    by_cases h1 : b ∈ cs.map (·.2)
    · exact .inr (.inl h1)
    · by_cases h2 : b = a /\ K.lookup a = none
      · exact .inr (.inr h2)
      · exact .inl (offAll b h1 h2)
  -- an object of another form is not tracked
  have other : ∀ {b : Addr} {o : Obj}, s1.heap.get? b = some o -> (∀ us n, o.data ≠ .seq us n) -> o.data ≠ .fields #[] -> H b = none := fun {b o} e n1 n2 => by
    rcases isOne b with z | z | ⟨z, _⟩
    · exact z
    · rw [tabAt b z] at e
      cases e
      exact (n2 rfl).elim
    · rw [z, ha] at e
      cases e
      exact (n1 _ _ rfl).elim
  have dictFree : ∀ {b : Addr} {o : Obj} {es : Array DictEntry} {ep : Nat}, s1.heap.get? b = some o -> o.data = .dict es ep -> H b = none := fun {b o es ep} e d => by
    refine other e (fun us n z => ?_) fun z => ?_ <;> (rw [d] at z; cases z)
  have nsBase : ∀ {b : Addr} {m : Str -> Option Value}, s1.heap.Ns b m -> (hidT s1.heap H).Ns b m := fun {b m} ⟨o, es, ep, e, d, r⟩ => ⟨o, es, ep, hidT_get e (dictFree e d), d, r⟩
  have keepK : K.In (hidT s1.heap H) := fun b o e => hidT_get (inH b o e) (by
    rcases isOne b with z | z | ⟨z, z2⟩
    · exact z
    · obtain ⟨p, hp, ep⟩ := List.mem_map.mp z
      rw [<- ep, nT p hp] at e
      cases e
    · rw [z, z2] at e
      cases e)
  have modOk : L2.Mod K mg (hidT s1.heap H) := ⟨keepK, nsBase names, ⟨mb, nsBase blt, isBoot⟩, let ⟨mc, h1, h2⟩ := noLim; ⟨mc, nsBase h1, h2⟩⟩
  have tabs : ∀ p ∈ cs, LamX.TabB (hidT s1.heap H) mg p.1 p.2 := fun p hp => by
    have hTp := hT p hp
    refine ⟨?_, ?_, fun z => ?_⟩
    · obtain ⟨o, us, file, tf, flags, tg, inF, text, tt, e1, r1, r2, r3, r4, r5, r6, r7, r8, hne⟩ := code p hp
      refine ⟨o, us, file, tf, flags, tg, inF, text, tt, hidT_get e1 (other e1 (fun us' n z => ?_) fun z => ?_), r1, r2, r3, r4, r5, r6, r7, r8, hne⟩
      · rw [r2] at z; cases z
      · rw [r2] at z
        cases z
        simp at r3
    · obtain ⟨bm, ob, b1, b2, b3, b4, b5, b6⟩ := hbm
      refine ⟨bm, ob, b1, b2, fun q => ?_, fun q => ?_, hidT_get b3 (other b3 (fun us n z => ?_) fun z => ?_), b4, b5, b6⟩
      · obtain ⟨o, es, ep, e, d, _⟩ := names
        rw [q, e] at b3
        cases b3
        rw [d] at b6
        cases b6
      · rw [q, hTp] at b3
        cases b3
        cases b6
      · rw [b6] at z; cases z
      · rw [b6] at z; cases z
    · obtain ⟨o, es, ep, e, d, _⟩ := names
      rw [z, hTp] at e
      cases e
      cases d
  have hok : HOk P w H s1.heap := fun b u e => by
    rcases isOne b with z | z | ⟨z, z2⟩
    · rw [z] at e; cases e
    · rw [onTab b z] at e
      cases e
      exact tabAt b z
    · rw [z, onScript z2] at e
      cases e
      rw [z]
      exact ⟨ha, by rw [List.length_map]; exact short, vs, _, rel, ha⟩
  have seen : Scr K H a (ns.map V.int) := by
    cases q : K.lookup a with
    | none => exact .inl ⟨_, onScript q⟩
    | some o =>
      have e := inH a o q
      rw [ha] at e
      cases e
      exact .inr fun H' => .inr ⟨_, vs.toArray, _, q, rfl, rfl, rfl, by rw [List.size_toArray, isInts.length]; exact short, by simpa using rel⟩
  have env : Env0 P w K mg (hidT s1.heap H) callerA [] s1 H :=
    ⟨rfl, modOk, fun b o e => of_hidT e, Nat.le_of_eq (hidT_size _ _), trivial, fun b hb => absurd (show b ∈ ([] : List Addr) from hb) (by simp), hok, .of_eq noGen⟩
  have ready := hsp H (fun p hp => onTab _ (List.mem_map.mpr ⟨p, hp, rfl⟩)) seen
  refine codeAny_mono ((F _ keepK (nsBase names) tabs).runs callerA [] s1 H ⟨[.ref a], []⟩ [.ref a] [.ref a] _ _ hr rfl env (bind s1 (.ref a)) (.cons rfl .nil) ready) fun r s' out => ?_
  cases r with
  | error e => exact out.elim
  | ok fl =>
    cases fl with
    | next => exact out.elim
    | brk => exact out.elim
    | cont => exact out.elim
    | ret u =>
      obtain ⟨v, H', os, bare, un, hok', rv, q⟩ := out
      cases (show v = .bl true from q)
      cases (show u = Value.bool true from rv)
      have same : ∀ b o, b ∉ cs.map (·.2) -> s1.heap.get? b = some o -> s'.heap.get? b = some o := fun b o nb e => by
        rcases isOne b with z | z | ⟨z, z2⟩
        · exact un.keep b o e z (fun y => absurd (show b ∈ ([] : List Addr) from y) (by simp)) (by simp)
        · exact absurd z nb
        · rw [z] at e ⊢
          have q2 := un.frzs a _ _ (onScript z2)
          obtain ⟨e2, _⟩ := hok' a _ q2
          rw [ha] at e
          cases e
          exact e2
      have grown : ∀ p ∈ cs, ∃ more : Array Value, s'.heap.get? p.2 = some { cls := .none, data := .fields more } := fun p hp => by
        obtain ⟨more, z⟩ := un.tbls p.2 #[] (onTab _ (List.mem_map.mpr ⟨p, hp, rfl⟩))
        exact ⟨_, hok' p.2 _ z⟩
      refine ⟨rfl, ⟨fun b o e => ?_, fun b o e => ?_⟩, os, bare⟩
      · by_cases hb : b ∈ cs.map (·.2)
        · obtain ⟨p, hp, rfl⟩ := List.mem_map.mp hb
          obtain ⟨more, hm⟩ := grown p hp
          rw [hT p hp] at e
          cases e
          exact .inr (.inl ⟨((code p hp).tab (hT p hp)).isCodeTable, rfl, #[], more, rfl, by rw [Array.empty_append]; exact hm⟩)
        · exact .inl (same b o hb e)
      · by_cases hb : b ∈ cs.map (·.2)
        · obtain ⟨p, hp, rfl⟩ := List.mem_map.mp hb
          obtain ⟨more, hm⟩ := grown p hp
          exact ⟨_, hm⟩
        · exact ⟨o, same b o hb e⟩
end
/-- the tables of the top's defs -/
def TabsOf (q : Program) (mg : Str -> Option Value) (h : Heap) : Prop := ∀ e ∈ recsOf q, ∃ a o fd c T, mg e.name = some (.ref a) /\ h.get? a = some o /\ o.data = .func fd /\ fd.code = .ref c /\ h.IsCode c T #[] /\ h.TableAt c T #[]
/-- what is to be known of the law at the head's heap -/
def LawSa (l : PySem.W.OpenLaw) (w : World) (K : PySem.W.Frag) (k n : Nat) (x : Str) (mg : Str -> Option Value) (fa : Addr) (h : Heap) : Prop :=
  ∃ (fd : FuncData) (cs : List (Addr × Addr)) (sp : Sp), (∀ p ∈ cs, h.get? p.2 = some noTab) /\ (∀ p ∈ cs, K.lookup p.2 = none) /\ (∀ p ∈ cs, PySem.W.CodeHd h p.1 p.2) /\ (∀ (s : Shared) (u : Value), BindsTo s fd ⟨[u], []⟩ [(x, u)]) /\
    (∀ (H : Hp) (a : Addr) (ns : List Int), ns.length <= n -> (∀ z ∈ ns, Builtin.Int.intBits z <= 1048576) -> (∀ p ∈ cs, H p.2 = some (.tbl #[])) -> Scr K H a (ns.map V.int) -> sp [.ref a] H (fun v _ => v = .bl true) fun _ _ _ => False) /\
    ∀ base : Heap, K.In base -> base.Ns mainGlobals mg -> (∀ p ∈ cs, LamX.TabB base mg p.1 p.2) -> FnG l.prog w K mg base k fa fd [x] sp
theorem walk_sa {l : PySem.W.OpenLaw} {n k : Nat} {q : Program} {loose : List Str} {XP : (Str -> Option Value) -> Heap -> Prop} {YP : World -> Heap -> Prop} {d : DefRec} {K : Params -> PySem.W.Frag} {x : Str}
    (hn : l.most = some n) (hn2 : n <= sizeLine) (hdf : d.params.defaults = []) (hr : Room k callerA) (hY : ∀ (w : World) (h : Heap), YP w h -> (K w.params).In h)
    (F : ∀ (w : World) (mg : Str -> Option Value) (fa : Addr) (h : Heap), YP w h -> (K w.params).In h -> h.Ns mainGlobals mg -> mg d.name = some (.ref fa) -> TabsOf q mg h -> LawSa l w (K w.params) k n x mg fa h) :
    PySem.W.WalkO q loose XP YP l.row.toRowW d [] (fun f vs => PySem.call f vs) := by
  refine Att.attach_callB hn hdf fun w s0 s1 mg mb fa o pm cd doc a vs ns G Y ho hd hcd hmg hobj hints hlen hbits hg => ?_
  have inH := hY w _ Y
  obtain ⟨fd, cs, sp, hT, nT, code, bind, hsp, hF⟩ := F w mg fa _ Y inH G.T.g hmg G.T.tab
  exact law_run inH G.T.g G.T.b G.T.builtins G.T.nolimit hg hT nT code G.T.bmain hobj hints (Nat.le_trans hlen hn2) hr hF bind fun H hH hS => hsp H a ns hlen hbits hH hS
end Sa
set_option maxHeartbeats 1000000
namespace Va
open PySem PySem.Spec PyProof.Rows L2 Sa
/-- a value: data that never changes, a thing of the memory, the script, a tuple that holds such -/
inductive W where
  | d (x : PyData) | obj (i : Nat) | scr | pack (ws : List W) | fn
/-- a thing of the memory: a list, a set of data, a dict of data by tuples, a dict of data by numbers and texts -/
inductive MO where
  | lst (ws : List W) | kset (ds : List PyData) | dic (es : List (PyData × PyData)) (stamp : Nat) | pot (es : List (Key × PyData))
abbrev Mem := List MO
abbrev Ev := List (Option W)
abbrev EvE := Ev -> Mem -> Option (W × Mem)
abbrev EvT := Ev -> Mem -> Option (Bool × Mem)
abbrev EvA := Ev -> Mem -> Option (List W × Mem)
inductive Out where
  | nx (ρ : Ev) (M : Mem) | rt (w : W) (M : Mem) | bk (ρ : Ev) (M : Mem) | ct (ρ : Ev) (M : Mem)
abbrev EvS := Ev -> Mem -> Option Out
abbrev EvG := W -> Ev -> Option Ev
abbrev EvI := Ev -> Mem -> Option ((List W × List (Nat × MO)) × Mem)
abbrev Fn := List W -> Mem -> Option (W × Mem)
/-- what is fixed through the law -/
structure Ck where
  K : PySem.W.Frag
  w : World
  T : List Addr
  sa : Addr
  ns : List Int
  /-- tables of lambdas, and the lambda that is handed about -/
  TL : List (Addr × Str)
  fa : Option Addr
mutual
inductive Rp (K : PySem.W.Frag) (H : Hp) : V -> PyData -> Prop
  | non : Rp K H .non .none
  | bl (b : Bool) : Rp K H (.bl b) (.bool b)
  | int (i : Int) : Rp K H (.int i) (.int i)
  | str (x : Str) : Rp K H (.str x) (.str x)
  | tup {a : Addr} {vs : List V} {ds : List PyData} : SqT K H a vs -> RpAll K H vs ds -> Rp K H (.ref a) (.tuple ds)
inductive RpAll (K : PySem.W.Frag) (H : Hp) : List V -> List PyData -> Prop
  | nil : RpAll K H [] []
  | cons {v : V} {vs : List V} {d : PyData} {ds : List PyData} : Rp K H v d -> RpAll K H vs ds -> RpAll K H (v :: vs) (d :: ds)
end
/-- tuples stay -/
def Keep (K : PySem.W.Frag) (H H' : Hp) : Prop := ∀ a vs, SqT K H a vs -> SqT K H' a vs
theorem Keep.refl {K : PySem.W.Frag} {H : Hp} : Keep K H H := fun _ _ h => h
theorem Keep.trans {K : PySem.W.Frag} {H H1 H2 : Hp} (a : Keep K H H1) (b : Keep K H1 H2) : Keep K H H2 := fun c vs h => b c vs (a c vs h)
mutual
theorem Rp.keep {K : PySem.W.Frag} {H H' : Hp} (k : Keep K H H') : ∀ {v : V} {d : PyData}, Rp K H v d -> Rp K H' v d
  | _, _, .non => .non
  | _, _, .bl b => .bl b
  | _, _, .int i => .int i
  | _, _, .str x => .str x
  | _, _, .tup s r => .tup (k _ _ s) (RpAll.keep k r)
theorem RpAll.keep {K : PySem.W.Frag} {H H' : Hp} (k : Keep K H H') : ∀ {vs : List V} {ds : List PyData}, RpAll K H vs ds -> RpAll K H' vs ds
  | _, _, .nil => .nil
  | _, _, .cons a r => .cons (Rp.keep k a) (RpAll.keep k r)
end
mutual
theorem Rp.dp {K : PySem.W.Frag} {H : Hp} : ∀ {v : V} {d : PyData}, Rp K H v d -> Dp K H v d
  | _, _, .non => .non
  | _, _, .bl b => .bl b
  | _, _, .int i => .int i
  | _, _, .str x => .str x
  | _, _, .tup s r => .tup s (RpAll.dp r)
theorem RpAll.dp {K : PySem.W.Frag} {H : Hp} : ∀ {vs : List V} {ds : List PyData}, RpAll K H vs ds -> DpAll K H vs ds
  | _, _, .nil => .nil
  | _, _, .cons a r => .cons (Rp.dp a) (RpAll.dp r)
end
theorem RpAll.length {K : PySem.W.Frag} {H : Hp} : ∀ {vs : List V} {ds : List PyData}, RpAll K H vs ds -> vs.length = ds.length
  | _, _, .nil => rfl
  | _, _, .cons _ r => congrArg (· + 1) (RpAll.length r)
mutual
inductive Rw (C : Ck) (φ : Nat -> Addr) (n : Nat) (H : Hp) : V -> W -> Prop
  | d {v : V} {x : PyData} : Rp C.K H v x -> Rw C φ n H v (.d x)
  | obj {i : Nat} : i < n -> Rw C φ n H (.ref (φ i)) (.obj i)
  | scr : Rw C φ n H (.ref C.sa) .scr
  | pack {a : Addr} {vs : List V} {ws : List W} : SqT C.K H a vs -> RwAll C φ n H vs ws -> Rw C φ n H (.ref a) (.pack ws)
  | fn {a : Addr} : C.fa = some a -> Rw C φ n H (.ref a) .fn
inductive RwAll (C : Ck) (φ : Nat -> Addr) (n : Nat) (H : Hp) : List V -> List W -> Prop
  | nil : RwAll C φ n H [] []
  | cons {v : V} {vs : List V} {w : W} {ws : List W} : Rw C φ n H v w -> RwAll C φ n H vs ws -> RwAll C φ n H (v :: vs) (w :: ws)
end
mutual
theorem Rw.move {C : Ck} {φ φ' : Nat -> Addr} {n n' : Nat} {H H' : Hp} (k : Keep C.K H H') (e : ∀ i, i < n -> φ' i = φ i) (l : n <= n') : ∀ {v : V} {w : W}, Rw C φ n H v w -> Rw C φ' n' H' v w
  | _, _, .d r => .d (r.keep k)
  | _, _, .obj (i := i) h => by rw [<- e i h]; exact .obj (Nat.lt_of_lt_of_le h l)
  | _, _, .scr => .scr
  | _, _, .pack s r => .pack (k _ _ s) (RwAll.move k e l r)
  | _, _, .fn h => .fn h
theorem RwAll.move {C : Ck} {φ φ' : Nat -> Addr} {n n' : Nat} {H H' : Hp} (k : Keep C.K H H') (e : ∀ i, i < n -> φ' i = φ i) (l : n <= n') : ∀ {vs : List V} {ws : List W}, RwAll C φ n H vs ws -> RwAll C φ' n' H' vs ws
  | _, _, .nil => .nil
  | _, _, .cons a r => .cons (Rw.move k e l a) (RwAll.move k e l r)
end
theorem RwAll.length {C : Ck} {φ : Nat -> Addr} {n : Nat} {H : Hp} : ∀ {vs : List V} {ws : List W}, RwAll C φ n H vs ws -> vs.length = ws.length
  | _, _, .nil => rfl
  | _, _, .cons _ r => congrArg (· + 1) (RwAll.length r)
theorem RwAll.get {C : Ck} {φ : Nat -> Addr} {n : Nat} {H : Hp} : ∀ {vs : List V} {ws : List W}, RwAll C φ n H vs ws -> ∀ {i : Nat} {w : W}, ws[i]? = some w -> ∃ v, vs[i]? = some v /\ Rw C φ n H v w
  | _, _, .nil, i, d, e => by simp at e
  | _, _, .cons a r, 0, d, e => by simp at e; subst e; exact ⟨_, rfl, a⟩
  | _, _, .cons a r, i + 1, d, e => by
    obtain ⟨v, h1, h2⟩ := RwAll.get r (i := i) (w := d) (by simpa using e)
    exact ⟨v, by simpa using h1, h2⟩
theorem RwAll.get' {C : Ck} {φ : Nat -> Addr} {n : Nat} {H : Hp} : ∀ {vs : List V} {ws : List W}, RwAll C φ n H vs ws -> ∀ {i : Nat} {v : V}, vs[i]? = some v -> ∃ w, ws[i]? = some w /\ Rw C φ n H v w
  | _, _, .nil, i, d, e => by simp at e
  | _, _, .cons a r, 0, d, e => by simp at e; subst e; exact ⟨_, rfl, a⟩
  | _, _, .cons a r, i + 1, d, e => by
    obtain ⟨v, h1, h2⟩ := RwAll.get' r (i := i) (v := d) (by simpa using e)
    exact ⟨v, by simpa using h1, h2⟩
theorem RwAll.append {C : Ck} {φ : Nat -> Addr} {n : Nat} {H : Hp} : ∀ {vs vs' : List V} {ws ws' : List W}, RwAll C φ n H vs ws -> RwAll C φ n H vs' ws' -> RwAll C φ n H (vs ++ vs') (ws ++ ws')
  | _, _, _, _, .nil, s => s
  | _, _, _, _, .cons a r, s => .cons a (RwAll.append r s)
theorem RwAll.set {C : Ck} {φ : Nat -> Addr} {n : Nat} {H : Hp} {v : V} {w : W} (h : Rw C φ n H v w) : ∀ {vs : List V} {ws : List W} (i : Nat), RwAll C φ n H vs ws -> RwAll C φ n H (vs.set i v) (ws.set i w)
  | _, _, _, .nil => .nil
  | _, _, 0, .cons _ r => .cons h r
  | _, _, i + 1, .cons a r => .cons a (RwAll.set h i r)
theorem RwAll.take {C : Ck} {φ : Nat -> Addr} {n : Nat} {H : Hp} : ∀ {vs : List V} {ws : List W} (k : Nat), RwAll C φ n H vs ws -> RwAll C φ n H (vs.take k) (ws.take k)
  | _, _, 0, _ => by simp; exact .nil
  | _, _, k + 1, .nil => .nil
  | _, _, k + 1, .cons a r => .cons a (RwAll.take k r)
theorem RwAll.drop {C : Ck} {φ : Nat -> Addr} {n : Nat} {H : Hp} : ∀ {vs : List V} {ws : List W} (k : Nat), RwAll C φ n H vs ws -> RwAll C φ n H (vs.drop k) (ws.drop k)
  | _, _, 0, r => r
  | _, _, k + 1, .nil => .nil
  | _, _, k + 1, .cons a r => RwAll.drop k r
theorem RwAll.reverse {C : Ck} {φ : Nat -> Addr} {n : Nat} {H : Hp} : ∀ {vs : List V} {ws : List W}, RwAll C φ n H vs ws -> RwAll C φ n H vs.reverse ws.reverse
  | _, _, .nil => .nil
  | _, _, .cons a r => by simp only [List.reverse_cons]; exact (RwAll.reverse r).append (.cons a .nil)
theorem RpAll.rw {C : Ck} {φ : Nat -> Addr} {n : Nat} {H : Hp} : ∀ {vs : List V} {ds : List PyData}, RpAll C.K H vs ds -> RwAll C φ n H vs (ds.map W.d)
  | _, _, .nil => .nil
  | _, _, .cons a r => .cons (.d a) (RpAll.rw r)
/-- the data of values, where all are data -/
def datas : List W -> Option (List PyData)
  | [] => some []
  | .d x :: ws => (datas ws).map (x :: ·)
  | _ :: _ => none
theorem datas_map : ∀ (ds : List PyData), datas (ds.map W.d) = some ds
  | [] => rfl
  | d :: ds => by
    show (datas (ds.map W.d)).map (d :: ·) = _
    rw [datas_map ds]; rfl
theorem datas_eq : ∀ {ws : List W} {ds : List PyData}, datas ws = some ds -> ws = ds.map W.d
  | [], ds, e => by cases e; rfl
  | .d x :: ws, ds, e => by
    simp only [datas, Option.map_eq_some_iff] at e
    obtain ⟨ds', h, rfl⟩ := e
    rw [datas_eq h]; rfl
  | .obj i :: ws, ds, e => by cases e
  | .scr :: ws, ds, e => by cases e
  | .pack _ :: ws, ds, e => by cases e
  | .fn :: ws, ds, e => by cases e
theorem RwAll.rp {C : Ck} {φ : Nat -> Addr} {n : Nat} {H : Hp} : ∀ {vs : List V} {ds : List PyData}, RwAll C φ n H vs (ds.map W.d) -> RpAll C.K H vs ds
  | [], [], _ => .nil
  | _ :: _, d :: ds, .cons (.d a) r => .cons a (RwAll.rp r)
/-- a tuple of values -/
def mkTup (ws : List W) : W := match datas ws with
  | some ds => .d (.tuple ds)
  | none => .pack ws
/-- the items of a tuple -/
def tupOf : W -> Option (List W)
  | .d (.tuple ds) => some (ds.map W.d)
  | .pack ws => some ws
  | _ => none
@[simp] theorem tupOf_mk (ds : List PyData) : tupOf (.d (.tuple ds)) = some (ds.map W.d) := rfl
theorem Rw.tup {C : Ck} {φ : Nat -> Addr} {n : Nat} {H : Hp} {a : Addr} {vs : List V} {ws : List W} (s : SqT C.K H a vs) (r : RwAll C φ n H vs ws) : Rw C φ n H (.ref a) (mkTup ws) := by
  unfold mkTup
  split
  · rename_i ds e
    rw [datas_eq e] at r
    exact .d (.tup s r.rp)
  · exact .pack s r
theorem Rw.un {C : Ck} {φ : Nat -> Addr} {n : Nat} {H : Hp} {v : V} {w : W} {ws : List W} (r : Rw C φ n H v w) (e : tupOf w = some ws) : ∃ a vs, v = .ref a /\ SqT C.K H a vs /\ RwAll C φ n H vs ws := by
  cases r with
  | d r =>
    cases r with
    | tup s r => cases e; exact ⟨_, _, rfl, s, r.rw⟩
    | non => cases e
    | bl b => cases e
    | int i => cases e
    | str x => cases e
  | obj h => cases e
  | scr => cases e
  | pack s r => cases e; exact ⟨_, _, rfl, s, r⟩
  | fn h => cases e
/-- the entries of a dict stand for these -/
inductive DicR (K : PySem.W.Frag) (H : Hp) : List KEnt -> List (PyData × PyData) -> Prop
  | nil : DicR K H [] []
  | cons {a : Addr} {v : V} {L : List KEnt} {k d : PyData} {es : List (PyData × PyData)} : Rp K H (.ref a) k -> flat k = true -> (nk k).depth <= 8 -> Rp K H v d -> DicR K H L es -> DicR K H ((a, nk k, v) :: L) ((k, d) :: es)
theorem DicR.keep {K : PySem.W.Frag} {H H' : Hp} (k : Keep K H H') {L : List KEnt} {es : List (PyData × PyData)} (h : DicR K H L es) : DicR K H' L es := by
  induction h with
  | nil => exact .nil
  | cons a f d v _ ih => exact .cons (a.keep k) f d (v.keep k) ih
/-- the same by numbers and texts -/
inductive PotR (K : PySem.W.Frag) (H : Hp) : List (Key × V) -> List (Key × PyData) -> Prop
  | nil : PotR K H [] []
  | cons {k : Key} {v : V} {L : List (Key × V)} {d : PyData} {es : List (Key × PyData)} : Rp K H v d -> PotR K H L es -> PotR K H ((k, v) :: L) ((k, d) :: es)
theorem PotR.keep {K : PySem.W.Frag} {H H' : Hp} (k : Keep K H H') {L : List (Key × V)} {es : List (Key × PyData)} (h : PotR K H L es) : PotR K H' L es := by
  induction h with
  | nil => exact .nil
  | cons a _ ih => exact .cons (a.keep k) ih
/-- the thing of the memory stands at a -/
def RO (C : Ck) (φ : Nat -> Addr) (n : Nat) (H : Hp) (a : Addr) : MO -> Prop
  | .lst ws => ∃ vs, H a = some (.lst vs) /\ RwAll C φ n H vs ws
  | .kset ds => ∃ L : List (Addr × PyData), H a = some (KsO C.w a (L.map keyOf)) /\ L.map (·.2) = ds /\ ∀ p ∈ L, Rp C.K H (.ref p.1) p.2
  | .dic es _ => ∃ L : List KEnt, KdAt C.w H a L /\ DicR C.K H L es
  | .pot es => ∃ L : List (Key × V), H a = some (.dK L) /\ PotR C.K H L es
/-- the table of a lambda: what it tells are code objects of its name, none of them a thing of the memory -/
def LamAt (φ : Nat -> Addr) (n : Nat) (H : Hp) (p : Addr × Str) : Prop := ∃ ps : Array Value, H p.1 = some (.tbl ps) /\ TriplesOk ps.toList /\
  ∀ (pos : Pos) (cv : Value), codeAmong pos ps.toList = some cv -> ∃ c, cv = .ref c /\ H c = some (LamX.CodeO c p.2) /\ ∀ i, i < n -> φ i ≠ c
theorem LamAt.move {φ φ' : Nat -> Addr} {n n' : Nat} {H H' : Hp} {p : Addr × Str} (h : LamAt φ n H p) (tb : ∀ ps, H p.1 = some (.tbl ps) -> H' p.1 = some (.tbl ps))
    (cd : ∀ c, H c = some (LamX.CodeO c p.2) -> (∀ i, i < n -> φ i ≠ c) -> H' c = some (LamX.CodeO c p.2) /\ ∀ i, i < n' -> φ' i ≠ c) : LamAt φ' n' H' p := by
  obtain ⟨ps, h1, h2, h3⟩ := h
  refine ⟨ps, tb _ h1, h2, fun pos cv hc => ?_⟩
  obtain ⟨c, e1, e2, e3⟩ := h3 pos cv hc
  obtain ⟨e4, e5⟩ := cd c e2 e3
  exact ⟨c, e1, e4, e5⟩
structure Sim (C : Ck) (φ : Nat -> Addr) (M : Mem) (H : Hp) : Prop where
  ob : ∀ i mo, M[i]? = some mo -> RO C φ M.length H (φ i) mo
  inj : ∀ i j, i < M.length -> j < M.length -> φ i = φ j -> i = j
  tab : ∀ P ∈ C.T, Tb H P
  scr : Scr C.K H C.sa (C.ns.map V.int)
  lam : ∀ p ∈ C.TL, p.1 ∉ C.T /\ LamAt φ M.length H p
theorem RO.some {C : Ck} {φ : Nat -> Addr} {n : Nat} {H : Hp} {a : Addr} {mo : MO} (h : RO C φ n H a mo) : ∃ o, H a = some o /\ ((∃ vs, o = .lst vs) ∨ (∃ p, o = .ext p) ∨ ∃ L, o = .dK L) := by
  cases mo with
  | lst ws => obtain ⟨vs, h, _⟩ := h; exact ⟨_, h, .inl ⟨_, rfl⟩⟩
  | kset ds => obtain ⟨L, h, _⟩ := h; exact ⟨_, h, .inr (.inl ⟨_, rfl⟩)⟩
  | dic es n => obtain ⟨L, ⟨p, h, _⟩, _⟩ := h; exact ⟨_, h, .inr (.inl ⟨_, rfl⟩)⟩
  | pot es => obtain ⟨L, h, _⟩ := h; exact ⟨_, h, .inr (.inr ⟨_, rfl⟩)⟩
theorem RO.move {C : Ck} {φ φ' : Nat -> Addr} {n n' : Nat} {H H' : Hp} {a : Addr} {mo : MO} (k : Keep C.K H H') (e : ∀ i, i < n -> φ' i = φ i) (l : n <= n') (same : H' a = H a) (h : RO C φ n H a mo) : RO C φ' n' H' a mo := by
  cases mo with
  | lst ws => obtain ⟨vs, h, r⟩ := h; exact ⟨vs, by rw [same]; exact h, r.move k e l⟩
  | kset ds => obtain ⟨L, h, r, q⟩ := h; exact ⟨L, by rw [same]; exact h, r, fun p hp => (q p hp).keep k⟩
  | dic es n => obtain ⟨L, ⟨p, h, q⟩, r⟩ := h; exact ⟨L, ⟨p, by rw [same]; exact h, q⟩, r.keep k⟩
  | pot es => obtain ⟨L, h, r⟩ := h; exact ⟨L, by rw [same]; exact h, r.keep k⟩
/-- dicts stay dicts; where the stamp is the same, nothing happened to one -/
def DicsOn (φ : Nat -> Addr) (M : Mem) (H : Hp) (M' : Mem) (H' : Hp) : Prop := ∀ i es n, M[i]? = some (.dic es n) -> ∃ es' n', M'[i]? = some (.dic es' n') /\ n <= n' /\ (n' = n -> es' = es /\ H' (φ i) = H (φ i))
theorem DicsOn.same {φ : Nat -> Addr} {M M' : Mem} {H H' : Hp} (hM : ∀ i es n, M[i]? = some (.dic es n) -> M'[i]? = some (.dic es n) /\ H' (φ i) = H (φ i)) : DicsOn φ M H M' H' := fun i es n e => ⟨es, n, (hM i es n e).1, Nat.le_refl _, fun _ => ⟨rfl, (hM i es n e).2⟩⟩
/-- from one state on to another -/
structure Step (C : Ck) (φ : Nat -> Addr) (M : Mem) (H : Hp) (φ' : Nat -> Addr) (M' : Mem) (H' : Hp) : Prop where
  ext : ∀ i, i < M.length -> φ' i = φ i
  le : M.length <= M'.length
  keep : Keep C.K H H'
  sim : Sim C φ' M' H'
  dics : DicsOn φ M H M' H'
section
variable {C : Ck} {φ φ' φ2 : Nat -> Addr} {M M' M2 : Mem} {H H' H2 : Hp}
theorem Step.refl (s : Sim C φ M H) : Step C φ M H φ M H := ⟨fun _ _ => rfl, Nat.le_refl _, .refl, s, .same fun _ _ _ e => ⟨e, rfl⟩⟩
theorem Step.trans (a : Step C φ M H φ' M' H') (b : Step C φ' M' H' φ2 M2 H2) : Step C φ M H φ2 M2 H2 :=
  ⟨fun i h => (b.ext i (Nat.lt_of_lt_of_le h a.le)).trans (a.ext i h), Nat.le_trans a.le b.le, a.keep.trans b.keep, b.sim, fun i es n e => by
    obtain ⟨es1, n1, e1, l1, s1⟩ := a.dics i es n e
    obtain ⟨es2, n2, e2, l2, s2⟩ := b.dics i es1 n1 e1
    refine ⟨es2, n2, e2, Nat.le_trans l1 l2, fun z => ?_⟩
    obtain ⟨p1, p2⟩ := s1 (by omega)
    obtain ⟨q1, q2⟩ := s2 (by omega)
    have hi : i < M.length := (List.getElem?_eq_some_iff.mp e).1
    rw [a.ext i hi] at q2
    exact ⟨q1.trans p1, q2.trans p2⟩⟩
theorem Rw.step {v : V} {w : W} (r : Rw C φ M.length H v w) (s : Step C φ M H φ' M' H') : Rw C φ' M'.length H' v w := r.move s.keep s.ext s.le
theorem RwAll.step {vs : List V} {ws : List W} (r : RwAll C φ M.length H vs ws) (s : Step C φ M H φ' M' H') : RwAll C φ' M'.length H' vs ws := r.move s.keep s.ext s.le
/-- a new place beside what is there -/
theorem keep_new {p : Addr} {o : HO} (np : H p = none) : Keep C.K H (upd H p o) := fun a vs h => by
  rcases h with (h | ⟨ob, h⟩) | h
  · exact .inl (.inl (by rw [upd_ne (ne_of_none h np)]; exact h))
  · exact .inl (.inr ⟨ob, by rw [upd_ne (ne_of_none h np)]; exact h⟩)
  · exact .inr h
theorem scr_new {a p : Addr} {o : HO} {xs : List V} (np : H p = none) (h : Scr C.K H a xs) : Scr C.K (upd H p o) a xs := h.keep fun ob e => by
  rw [upd_ne (ne_of_none e np)]; exact e
theorem tab_new {P p : Addr} {o : HO} (np : H p = none) (h : Tb H P) : Tb (upd H p o) P := by
  obtain ⟨ps, e, r⟩ := h
  exact ⟨ps, by rw [upd_ne (ne_of_none e np)]; exact e, r⟩
theorem Sim.at (S : Sim C φ M H) {i : Nat} {mo : MO} (e : M[i]? = some mo) : RO C φ M.length H (φ i) mo := S.ob i mo e
theorem Sim.tracked (S : Sim C φ M H) {i : Nat} (h : i < M.length) : ∃ o, H (φ i) = some o /\ ((∃ vs, o = .lst vs) ∨ (∃ p, o = .ext p) ∨ ∃ L, o = .dK L) := (S.ob i _ (List.getElem?_eq_getElem h)).some
/-- the heap grows by something that isn't of the memory -/
theorem Step.tup (S : Sim C φ M H) {p : Addr} {o : HO} (np : H p = none) : Step C φ M H φ M (upd H p o) := by
  refine ⟨fun _ _ => rfl, Nat.le_refl _, keep_new np, ⟨fun i mo e => ?_, S.inj, fun P hP => tab_new np (S.tab P hP), scr_new np S.scr, fun q hq => ⟨(S.lam q hq).1, (S.lam q hq).2.move (fun ps h => by rw [upd_ne (ne_of_none h np)]; exact h) fun c h n => ⟨by rw [upd_ne (ne_of_none h np)]; exact h, n⟩⟩⟩, .same fun i es n e => ⟨e, upd_ne (let ⟨_, h, _⟩ := (S.ob i _ e).some; ne_of_none h np)⟩⟩
  have r := S.ob i mo e
  obtain ⟨o', h, _⟩ := r.some
  exact r.move (keep_new np) (fun _ _ => rfl) (Nat.le_refl _) (upd_ne (ne_of_none h np))
def phi (φ : Nat -> Addr) (n : Nat) (p : Addr) : Nat -> Addr := fun i => if i = n then p else φ i
theorem phi_at {n : Nat} {p : Addr} : phi φ n p n = p := if_pos rfl
theorem phi_lt {n : Nat} {p : Addr} {i : Nat} (h : i < n) : phi φ n p i = φ i := if_neg (Nat.ne_of_lt h)
theorem lam_new {n : Nat} {p c : Addr} {q : Str} (np : H p = none) (h : H c = some (LamX.CodeO c q)) (k : ∀ i, i < n -> φ i ≠ c) {i : Nat} (hi : i < n + 1) : phi φ n p i ≠ c := by
  by_cases z : i = n
  · subst z
    rw [phi_at]
    exact fun e => by rw [e, h] at np; cases np
  · rw [phi_lt (by omega)]
    exact k i (by omega)
/-- a new thing of the memory -/
theorem Step.new (S : Sim C φ M H) {p : Addr} {o : HO} {mo : MO} (np : H p = none) (hr : ∀ φ', (∀ i, i < M.length -> φ' i = φ i) -> RO C φ' (M.length + 1) (upd H p o) p mo) : Step C φ M H (phi φ M.length p) (M ++ [mo]) (upd H p o) := by
  refine ⟨fun i h => phi_lt h, by simp, keep_new np, ⟨fun i mo' e => ?_, fun i j hi hj e => ?_, fun P hP => tab_new np (S.tab P hP), scr_new np S.scr, fun q hq => ⟨(S.lam q hq).1, (S.lam q hq).2.move (fun ps h => by rw [upd_ne (ne_of_none h np)]; exact h) fun c h n => ⟨by rw [upd_ne (ne_of_none h np)]; exact h, fun i hi => lam_new np h n (by simpa using hi)⟩⟩⟩, .same fun i es n e => ⟨by rw [List.getElem?_append_left (List.getElem?_eq_some_iff.mp e).1]; exact e, upd_ne (let ⟨_, h, _⟩ := (S.ob i _ e).some; ne_of_none h np)⟩⟩
  · have hl : (M ++ [mo]).length = M.length + 1 := by simp
    rw [hl]
    by_cases h : i < M.length
    · rw [List.getElem?_append_left h] at e
      have r := S.ob i mo' e
      obtain ⟨o', ho, _⟩ := r.some
      rw [phi_lt h]
      exact r.move (keep_new np) (fun k hk => phi_lt hk) (Nat.le_succ _) (upd_ne (ne_of_none ho np))
    · have hi : i = M.length := by
        have := (List.getElem?_eq_some_iff.mp e).1
        simp at this
        omega
      subst hi
      rw [List.getElem?_append_right (Nat.le_refl _)] at e
      simp at e
      subst e
      rw [phi_at]
      exact hr _ fun k hk => phi_lt hk
  · simp at hi hj
    by_cases h1 : i < M.length <;> by_cases h2 : j < M.length
    · rw [phi_lt h1, phi_lt h2] at e; exact S.inj i j h1 h2 e
    · have : j = M.length := by omega
      subst this
      rw [phi_lt h1, phi_at] at e
      obtain ⟨o', ho, _⟩ := S.tracked h1
      rw [e, np] at ho; cases ho
    · have : i = M.length := by omega
      subst this
      rw [phi_lt h2, phi_at] at e
      obtain ⟨o', ho, _⟩ := S.tracked h2
      rw [<- e, np] at ho; cases ho
    · omega
theorem Step.list (S : Sim C φ M H) {p : Addr} {vs : List V} {ws : List W} (np : H p = none) (r : RwAll C φ M.length H vs ws) : Step C φ M H (phi φ M.length p) (M ++ [.lst ws]) (upd H p (.lst vs)) :=
  Step.new S np fun φ' e => ⟨vs, upd_same, r.move (keep_new np) e (Nat.le_succ _)⟩
theorem Rw.new {p : Addr} {mo : MO} : Rw C (phi φ M.length p) (M ++ [mo]).length H (.ref p) (.obj M.length) := by
  have h : Rw C (phi φ M.length p) (M ++ [mo]).length H (.ref (phi φ M.length p M.length)) (.obj M.length) := .obj (by simp)
  rw [phi_at] at h
  exact h
/-- a list of the memory is another one from now on -/
theorem Step.set (S : Sim C φ M H) {i : Nat} {ws ws' : List W} {vs' : List V} (e : M[i]? = some (.lst ws)) (r : RwAll C φ M.length H vs' ws') : Step C φ M H φ (M.set i (.lst ws')) (upd H (φ i) (.lst vs')) := by
  obtain ⟨vs, hv, _⟩ := S.ob i _ e
  have hi : i < M.length := (List.getElem?_eq_some_iff.mp e).1
  have kp : Keep C.K H (upd H (φ i) (.lst vs')) := fun a us h => by
    rcases h with (h | ⟨ob, h⟩) | h
    · exact .inl (.inl (by rw [upd_ne (ne_of h hv (by intro z; cases z))]; exact h))
    · exact .inl (.inr ⟨ob, by rw [upd_ne (ne_of h hv (by intro z; cases z))]; exact h⟩)
    · exact .inr h
  refine ⟨fun _ _ => rfl, by simp, kp, ⟨fun j mo ej => ?_, fun j k hj hk ejk => S.inj j k (by simpa using hj) (by simpa using hk) ejk, fun P hP => ?_, S.scr.keep fun ob e2 => ?_, fun q hq => ⟨(S.lam q hq).1, (S.lam q hq).2.move (fun ps h => by rw [upd_ne (ne_of h hv (by intro z; cases z))]; exact h) fun c h n => ⟨by rw [upd_ne (Ne.symm (n i hi))]; exact h, fun j hj => n j (by simpa using hj)⟩⟩⟩, .same fun j es n ej => ?_⟩
  · rw [List.length_set]
    by_cases h : j = i
    · subst h
      rw [List.getElem?_set_self hi] at ej
      cases ej
      exact ⟨vs', upd_same, r.move kp (fun _ _ => rfl) (Nat.le_refl _)⟩
    · rw [List.getElem?_set_ne (Ne.symm h)] at ej
      have hj : j < M.length := (List.getElem?_eq_some_iff.mp ej).1
      exact (S.ob j mo ej).move kp (fun _ _ => rfl) (Nat.le_refl _) (upd_ne fun z => h (S.inj j i hj hi z))
  · obtain ⟨ps, h, q⟩ := S.tab P hP
    exact ⟨ps, by rw [upd_ne (ne_of h hv (by intro z; cases z))]; exact h, q⟩
  · rw [upd_ne (ne_of e2 hv (by intro z; cases z))]; exact e2
  · have ne : j ≠ i := fun z => by rw [z, e] at ej; cases ej
    have hj : j < M.length := (List.getElem?_eq_some_iff.mp ej).1
    exact ⟨by rw [List.getElem?_set_ne (Ne.symm ne)]; exact ej, upd_ne fun z => ne (S.inj j i hj hi z)⟩
/-- a table grew -/
theorem Step.tab (S : Sim C φ M H) {P : Addr} (hP : P ∈ C.T) (t : TbTo P H H') : Step C φ M H φ M H' := by
  obtain ⟨ps, hp, _⟩ := S.tab P hP
  have off : ∀ {b : Addr} {o : HO}, H b = some o -> (∀ ps, o ≠ .tbl ps) -> H' b = some o := fun {b o} h n => by
    by_cases z : b = P
    · rw [z, hp] at h
      exact absurd (Option.some.inj h).symm (n ps)
    · rw [t.2 b z]; exact h
  have kp : Keep C.K H H' := fun a us h => by
    rcases h with (h | ⟨ob, h⟩) | h
    · exact .inl (.inl (off h fun _ z => nomatch z))
    · exact .inl (.inr ⟨ob, off h fun _ z => nomatch z⟩)
    · exact .inr h
  have same : ∀ {j : Nat} {mo : MO}, RO C φ M.length H (φ j) mo -> H' (φ j) = H (φ j) := fun {j mo} r => by
    obtain ⟨o, ho, hk⟩ := r.some
    rw [ho]
    refine off ho fun ps z => ?_
    rcases hk with ⟨vs, rfl⟩ | ⟨p, rfl⟩ | ⟨L, rfl⟩ <;> cases z
  refine ⟨fun _ _ => rfl, Nat.le_refl _, kp, ⟨fun j mo ej => ?_, S.inj, fun R hR => ?_, S.scr.keep fun ob e2 => off e2 (fun _ z => nomatch z), fun q hq => ⟨(S.lam q hq).1, (S.lam q hq).2.move (fun ps h => by rw [t.2 q.1 fun z => (S.lam q hq).1 (by rw [z]; exact hP)]; exact h) fun c h n => ⟨off h fun ps z => LamX.codeO_ne ps z, n⟩⟩⟩, .same fun j es n ej => ⟨ej, same (S.ob j _ ej)⟩⟩
  · have r := S.ob j mo ej
    have e := same r
    exact r.move kp (fun _ _ => rfl) (Nat.le_refl _) e
  · by_cases z : R = P
    · rw [z]; exact t.1
    · obtain ⟨qs, h', r'⟩ := S.tab R hR
      exact ⟨qs, by rw [t.2 R z]; exact h', r'⟩
end
end Va
namespace Sa
open PySem PySem.Spec PyProof.Rows L2
/-- what a tuple-giving walk of the library is worth to a loop -/
structure Giver (X : Cx) (it : Addr) (fp : List Addr) (i : Nat) (h : Heap) (tn : Nat -> Heap -> Prop) (out : List V -> Prop) : Prop where
  how : ∃ fp' wr n Pt St Mid, WalksT X.prog X.w X.A it fp' wr n Pt St Mid /\ St i h /\ i < n /\ (∀ b ∈ wr, b ∈ fp) /\ (∀ h', St (i + 1) h' -> tn (i + 1) h') /\
    ∀ vals : Array Value, Pt i vals -> ∃ vs : List V, Vals vs vals.toList /\ vs.length <= sizeLine /\ out vs
structure Ender (X : Cx) (it : Addr) (fp : List Addr) (h : Heap) : Prop where
  how : ∃ fp' wr n Pt St Mid, WalksT X.prog X.w X.A it fp' wr n Pt St Mid /\ St n h /\ ∀ b ∈ wr, b ∈ fp
theorem turn_gives {P : Program} {w : World} {K : PySem.W.Frag} {elts : List Expr} {kk : Nat} {tpos : Pos} {J : It} {fp : List Addr} {it : Addr} {tn : Nat -> Heap -> Prop}
    (mem : it ∈ fp) (obj : ∀ i h, tn i h -> ∀ b ∈ fp, ∃ o, h.get? b = some o /\ ∀ v, o.data ≠ .cell v)
    (keep : ∀ i h h', tn i h -> (∀ b ∈ fp, ∀ o, h.get? b = some o -> h'.get? b = some o) -> tn i h')
    (step : ∀ X : Cx, X.prog = P -> X.w = w -> X.K = K -> X.calm = true -> ∀ i pins s σ H, Inv X pins σ H s -> tn i s.heap -> J.go i H ->
      Giver X it fp i s.heap tn fun vs => ∀ T, H T = none -> J.yld i H (.ref T) (upd H T (.tup vs)))
    (last : ∀ X : Cx, X.prog = P -> X.w = w -> X.K = K -> X.calm = true -> ∀ i pins s σ H, Inv X pins σ H s -> tn i s.heap -> J.stop i H -> Ender X it fp s.heap)
    (self : ∀ (A : Around) (i : Nat) (s : Shared) (Q : Value -> Shared -> Prop) (E : Value -> Shared -> Prop), tn i s.heap -> Q (.ref it) s -> wpAny (model P w) A (pyIter (.ref it)) Q E s) :
    Turn P w K (.Tuple elts kk tpos) J fp it tn where
  mem := mem
  obj := obj
  keep := keep
  self := self
  item := by
    intro X hP hw hK hc i pins s σ H E I hf st hg
    obtain ⟨fp', wr, n, Pt, St, Mid, W, hst, hlt, hsub, hnext, hout⟩ := (step X hP hw hK hc i pins s σ H I st hg).how
    subst hP hw hK
    refine W.item i s _ _ hlt hst fun T vals h' tk hP hT hTup hm hk => ⟨.ref T, rfl, ?_⟩
    refine W.go elts kk tpos i T { s with heap := h', toks := tk } _ _ hm fun h2 hst2 hk2 => ?_
    obtain ⟨vs, rel, small, hy⟩ := hout vals hP
    have hn : H T = none := I.hok.fresh hT
    have hTup2 : h2.IsTuple T vals := hTup.at fun o e => hk2 T o (W.apart i T h' hm) e
    have fpOld : ∀ b ∈ fp, b < s.heap.objs.size := fun b hb => by
      obtain ⟨o, e, _⟩ := obj i s.heap st b hb
      exact Heap.lt_size e
    have new : ObjOk X.prog X.w (upd H T (.tup vs)) h2 T (.tup vs) := ⟨small, vals.toList, rel, by rw [Array.toArray_toList]; exact hTup2⟩
    have J1 : Inv X pins σ (upd H T (.tup vs)) { s with heap := h2, toks := tk } :=
      I.turnedNew (t' := tk) (ch := fp) (fun b o hb e => hk2 b o (fun z => hb (hsub b z)) (hk b o (fun z => hb (hsub b z)) e)) hf hT new
    refine ⟨.ref T, _, J1, rfl, hy T hn, hnext h2 hst2, fun b hb => ?_⟩
    rw [upd_ne (Nat.ne_of_lt (Nat.lt_of_lt_of_le (fpOld b hb) hT))]
    exact (hf b hb).1
  done := by
    intro X hP hw hK hc i pins s σ H E I hf st hg
    obtain ⟨fp', wr, n, Pt, St, Mid, W, hst, hsub⟩ := (last X hP hw hK hc i pins s σ H I st hg).how
    subst hP hw hK
    exact W.done s _ _ hst fun h' tk hk => ⟨rfl, I.turnedL (t' := tk) (ch := fp) (fun b o hb e => hk b o (fun z => hb (hsub b z)) e) hf⟩
def SqB (K : PySem.W.Frag) (H : Hp) (b : Bool) (a : Addr) (xs : List V) : Prop := match b with
  | true => SqL K H a xs
  | false => SqT K H a xs
def ItrB (h : Heap) (b : Bool) (it a : Addr) (i : Nat) : Prop := match b with
  | true => h.IsListIter it a i
  | false => h.IsTupleIter it a i
def HasB (h : Heap) (b : Bool) (a : Addr) (items : Array Value) : Prop := match b with
  | true => h.IsList a items
  | false => h.IsTuple a items
def objB (b : Bool) (a : Addr) : Obj := match b with
  | true => { cls := .type "list_iterator", data := .fields #[.ref a, .int 0 0] }
  | false => { cls := .type "tuple_iterator", data := .fields #[.ref a, .int 0 0] }
theorem beginsB (b : Bool) (a : Addr) (items : Array Value) : Begins (.ref a) (objB b a) fun h => HasB h b a items := by
  cases b with
  | true => exact begins_list a items
  | false => exact begins_tuple a items
theorem itrB_new {h : Heap} {b : Bool} {it a : Addr} (e : h.get? it = some (objB b a)) : ItrB h b it a 0 := by
  cases b with
  | true => exact ⟨_, e, rfl, rfl⟩
  | false => exact ⟨_, e, rfl, rfl⟩
theorem ItrB.at {h h' : Heap} {b : Bool} {it a : Addr} {i : Nat} (x : ItrB h b it a i) (k : ∀ o, h.get? it = some o -> h'.get? it = some o) : ItrB h' b it a i := by
  cases b with
  | true => exact Heap.IsListIter.at x k
  | false => exact Heap.IsTupleIter.at x k
theorem ItrB.obj {h : Heap} {b : Bool} {it a : Addr} {i : Nat} (x : ItrB h b it a i) : ∃ o, h.get? it = some o /\ ∀ v, o.data ≠ .cell v := by
  cases b with
  | true =>
    obtain ⟨o, e, _, d⟩ := (show h.IsListIter it a i from x)
    exact ⟨o, e, fun v z => by rw [d] at z; cases z⟩
  | false =>
    obtain ⟨o, e, _, d⟩ := (show h.IsTupleIter it a i from x)
    exact ⟨o, e, fun v z => by rw [d] at z; cases z⟩
theorem drawsB {P : Program} {w : World} {A : Around} (hh : A.handled = none) (b : Bool) (it a : Addr) (ne : a ≠ it) (items : Array Value) :
    Draws P w A it [it, a] items.size (fun i v => items[i]? = some v) (fun i h => ItrB h b it a i /\ HasB h b a items) := by
  cases b with
  | true => exact .list hh it a ne items
  | false => exact .tuple hh it a ne items
section
variable {X : Cx} {pins : List (Addr × Obj)} {σ : L2.St} {H : Hp} {s : Shared}
theorem seqB (I : Inv X pins σ H s) {b : Bool} {a : Addr} {xs : List V} (h : SqB X.K H b a xs) : ∃ its : List Value, Vals xs its /\ HasB s.heap b a its.toArray /\ xs.length <= sizeLine /\ a < s.heap.objs.size := by
  cases b with
  | true =>
    obtain ⟨its, r, p, z⟩ := I.list h
    exact ⟨its, r, p.isList, z, p.lt⟩
  | false =>
    obtain ⟨its, r, p, z⟩ := I.tuple h
    obtain ⟨o, e, _⟩ := id p
    exact ⟨its, r, p, z, Heap.lt_size e⟩
theorem injB (I : Inv X pins σ H s) {b : Bool} {a : Addr} {xs ys : List V} (h : SqB X.K H b a xs) (h2 : SqB X.K H b a ys) : xs = ys := by
  cases b with
  | true => exact I.list_inj h h2
  | false => exact I.tuple_inj h h2
end
def It3 (K : PySem.W.Frag) (b1 b2 b3 : Bool) (a1 a2 a3 : Addr) : It :=
  ⟨fun i H => ∃ xs ys zs x y z, SqB K H b1 a1 xs /\ SqB K H b2 a2 ys /\ SqB K H b3 a3 zs /\ xs[i]? = some x /\ ys[i]? = some y /\ zs[i]? = some z,
   fun i H v H' => ∃ T x y z, v = .ref T /\ H T = none /\ H' = upd H T (.tup [x, y, z]) /\ (∀ xs, SqB K H b1 a1 xs -> xs[i]? = some x) /\ (∀ ys, SqB K H b2 a2 ys -> ys[i]? = some y) /\ (∀ zs, SqB K H b3 a3 zs -> zs[i]? = some z),
   fun i H => ∃ xs ys zs, SqB K H b1 a1 xs /\ SqB K H b2 a2 ys /\ SqB K H b3 a3 zs /\ i <= xs.length /\ i <= ys.length /\ i <= zs.length /\ (i = xs.length ∨ i = ys.length ∨ i = zs.length)⟩
def tn3 (b1 b2 b3 : Bool) (a1 a2 a3 z TI TO i1 i2 i3 : Addr) (i : Nat) (h : Heap) : Prop :=
  IsZip h z TI TO .none /\ IsTupOf3 h TI (.ref i1) (.ref i2) (.ref i3) /\ (∃ x y u, IsTupOf3 h TO x y u) /\ ItrB h b1 i1 a1 i /\ ItrB h b2 i2 a2 i /\ ItrB h b3 i3 a3 i
theorem turn_zip3 {P : Program} {w : World} {K : PySem.W.Frag} {elts : List Expr} {kk : Nat} {tpos : Pos} {b1 b2 b3 : Bool} {a1 a2 a3 z TI TO i1 i2 i3 : Addr} (S : ZipSep3 z TI TO i1 i2 i3 [i1, a1] [i2, a2] [i3, a3])
    (n1 : a1 ≠ i1) (n2 : a2 ≠ i2) (n3 : a3 ≠ i3) :
    Turn P w K (.Tuple elts kk tpos) (It3 K b1 b2 b3 a1 a2 a3) [z, TI, TO, i1, i2, i3] z (tn3 b1 b2 b3 a1 a2 a3 z TI TO i1 i2 i3) := by
  refine turn_gives (by simp) (fun i h st c hc => ?_) (fun i h h' st k => ?_) (fun X hP hw hK hc i pins s σ H I st hg => ?_) (fun X hP hw hK hc i pins s σ H I st hg => ?_) (fun A i s Q E st h => wpAny_pyIter_zip st.1 h)
  · obtain ⟨hz, hTI, ⟨x, y, u, hTO⟩, q1, q2, q3⟩ := st
    have e' : c = z ∨ c = TI ∨ c = TO ∨ c = i1 ∨ c = i2 ∨ c = i3 := by simpa using hc
    rcases e' with q | q | q | q | q | q
    · rw [q]; exact ⟨_, hz, fun v => nofun⟩
    · rw [q]; exact ⟨_, hTI, fun v => nofun⟩
    · rw [q]; exact ⟨_, hTO, fun v => nofun⟩
    · rw [q]; exact q1.obj
    · rw [q]; exact q2.obj
    · rw [q]; exact q3.obj
  · obtain ⟨hz, hTI, ⟨x, y, u, hTO⟩, q1, q2, q3⟩ := st
    exact ⟨k z (by simp) _ hz, k TI (by simp) _ hTI, ⟨x, y, u, k TO (by simp) _ hTO⟩, q1.at fun o e => k i1 (by simp) o e, q2.at fun o e => k i2 (by simp) o e, q3.at fun o e => k i3 (by simp) o e⟩
  · obtain ⟨xs, ys, zs, x, y, u, s1, s2, s3, e1, e2, e3⟩ := hg
    subst hK
    obtain ⟨its1, r1, p1, z1, _⟩ := seqB I s1
    obtain ⟨its2, r2, p2, z2, _⟩ := seqB I s2
    obtain ⟨its3, r3, p3, z3, _⟩ := seqB I s3
    obtain ⟨v1, g1, rv1⟩ := r1.get e1
    obtain ⟨v2, g2, rv2⟩ := r2.get e2
    obtain ⟨v3, g3, rv3⟩ := r3.get e3
    have hh : X.A.in1.handled = none := I.ok.hd hc
    obtain ⟨hz, hTI, hTO, q1, q2, q3⟩ := st
    refine ⟨_, _, _, _, _, _, WalksT.zipD3 S (drawsB hh b1 i1 a1 n1 its1.toArray) (drawsB hh b2 i2 a2 n2 its2.toArray) (drawsB hh b3 i3 a3 n3 its3.toArray), ⟨hz, hTI, hTO, ⟨q1, p1⟩, ⟨q2, p2⟩, ⟨q3, p3⟩⟩, ?_, fun c hcm => ?_, fun h' st' => ?_, fun vals hv => ?_⟩
    · have l1 := (List.getElem?_eq_some_iff.mp g1).1
      have l2 := (List.getElem?_eq_some_iff.mp g2).1
      have l3 := (List.getElem?_eq_some_iff.mp g3).1
      simp only [List.size_toArray]
      omega
    · have e' : c = z ∨ c = TO ∨ c = i1 ∨ c = i2 ∨ c = i3 := by simpa using hcm
      rcases e' with q | q | q | q | q <;> simp [q]
    · obtain ⟨a, b, c, d1, d2, d3⟩ := st'
      exact ⟨a, b, c, d1.1, d2.1, d3.1⟩
    · obtain ⟨w1, w2, w3, h1, h2, h3, rfl⟩ := hv
      have f1 : w1 = v1 := by simp only [List.getElem?_toArray, g1] at h1; exact (Option.some.inj h1).symm
      have f2 : w2 = v2 := by simp only [List.getElem?_toArray, g2] at h2; exact (Option.some.inj h2).symm
      have f3 : w3 = v3 := by simp only [List.getElem?_toArray, g3] at h3; exact (Option.some.inj h3).symm
      subst f1 f2 f3
      refine ⟨[x, y, u], .cons rv1 (.cons rv2 (.cons rv3 .nil)), by show 3 <= sizeLine; decide, fun T hT => ⟨T, x, y, u, rfl, hT, rfl, fun l hl => ?_, fun l hl => ?_, fun l hl => ?_⟩⟩
      · rw [injB I hl s1]; exact e1
      · rw [injB I hl s2]; exact e2
      · rw [injB I hl s3]; exact e3
  · obtain ⟨xs, ys, zs, s1, s2, s3, k1, k2, k3, hend⟩ := hg
    subst hK
    obtain ⟨its1, r1, p1, z1, _⟩ := seqB I s1
    obtain ⟨its2, r2, p2, z2, _⟩ := seqB I s2
    obtain ⟨its3, r3, p3, z3, _⟩ := seqB I s3
    have l1 := r1.length
    have l2 := r2.length
    have l3 := r3.length
    have hh : X.A.in1.handled = none := I.ok.hd hc
    obtain ⟨hz, hTI, hTO, q1, q2, q3⟩ := st
    have en : min (min its1.toArray.size its2.toArray.size) its3.toArray.size = i := by
      simp only [List.size_toArray]
      omega
    refine ⟨_, _, _, _, _, _, WalksT.zipD3 S (drawsB hh b1 i1 a1 n1 its1.toArray) (drawsB hh b2 i2 a2 n2 its2.toArray) (drawsB hh b3 i3 a3 n3 its3.toArray), ?_, fun c hcm => ?_⟩
    · rw [en]
      exact ⟨hz, hTI, hTO, ⟨q1, p1⟩, ⟨q2, p2⟩, ⟨q3, p3⟩⟩
    · have e' : c = z ∨ c = TO ∨ c = i1 ∨ c = i2 ∨ c = i3 := by simpa using hcm
      rcases e' with q | q | q | q | q <;> simp [q]
def iZip3 (K : PySem.W.Frag) (ta : TA) : TI := fun σ H R => ta σ H fun vs H1 => ∃ a1 a2 a3 b1 b2 b3 xs ys zs, vs = [.ref a1, .ref a2, .ref a3] /\ SqB K H1 b1 a1 xs /\ SqB K H1 b2 a2 ys /\ SqB K H1 b3 a3 zs /\ R (It3 K b1 b2 b3 a1 a2 a3) H1
theorem pi_zip3 {X : Cx} {e e2 e3 : Expr} {ta : TA} {p pos tpos : Pos} {elts : List Expr} {kk : Nat} (hg : Gl X "zip") (hm : X.mg "zip" = none) (ha : PA X [e, e2, e3] ta)
    (hs : starEach [e, e2, e3] X.env = (false, eval e X.env) :: starEach [e2, e3] X.env := by rfl) (hpl : (backTo pos (starEach [e2, e3] X.env)).any (·.1) = false := by rfl) :
    PI X (.Tuple elts kk tpos) (.Call (.Name "zip" p) [e, e2, e3] [] pos) (iZip3 X.K ta) := by
  refine ⟨fun pins s σ H R I h => ?_⟩
  refine Call_ (ld_blt I hg hm PyProof.Rows.boot_zip (PyProof.Rows.callWith_type1 (thn (ha.run pos pins s σ H _ I h) fun us s1 ⟨vs, H1, I1, rel, q⟩ => ?_) hs hpl))
  obtain ⟨a1, a2, a3, b1, b2, b3, xs, ys, zs, ex, q1, q2, q3, hR⟩ := q
  subst ex
  obtain ⟨its1, _, p1, _, lt1⟩ := seqB I1 q1
  obtain ⟨its2, _, p2, _, lt2⟩ := seqB I1 q2
  obtain ⟨its3, _, p3, _, lt3⟩ := seqB I1 q3
  cases rel with
  | cons r rel =>
    cases rel with
    | cons r' rel =>
      cases rel with
      | cons r'' rel =>
        cases rel
        cases r
        cases r'
        cases r''
        refine zip_begins3 (beginsB b1 a1 its1.toArray) (beginsB b2 a2 its2.toArray) (beginsB b3 a3 its3.toArray) p1 p2 p3 fun h' hz hTI hTO o1 o2 o3 hsz hk => wpAny_pyIter_zip hz ?_
        have I2 : Inv X pins σ H1 { s1 with heap := h' } := I1.kept (t' := s1.toks) hk
        refine ⟨s1.heap.objs.size + 5, [s1.heap.objs.size + 5, s1.heap.objs.size + 3, s1.heap.objs.size + 4, s1.heap.objs.size, s1.heap.objs.size + 1, s1.heap.objs.size + 2], _, _, H1, rfl, I2,
          turn_zip3 (b1 := b1) (b2 := b2) (b3 := b3) (zip_sep3 (N := s1.heap.objs.size) (fp1 := [a1]) (fp2 := [a2]) (fp3 := [a3]) (fun b hb => by rw [List.mem_singleton.mp hb]; exact lt1) (fun b hb => by rw [List.mem_singleton.mp hb]; exact lt2) (fun b hb => by rw [List.mem_singleton.mp hb]; exact lt3))
            (Nat.ne_of_lt lt1) (Nat.ne_of_lt (Nat.lt_succ_of_lt lt2)) (Nat.ne_of_lt (Nat.lt_succ_of_lt (Nat.lt_succ_of_lt lt3))),
          ⟨hz, hTI, ⟨_, _, _, hTO⟩, itrB_new o1, itrB_new o2, itrB_new o3⟩, fun c hcm => ?_, hR⟩
        have hle : s1.heap.objs.size <= c := by
          have e' : c = s1.heap.objs.size + 5 ∨ c = s1.heap.objs.size + 3 ∨ c = s1.heap.objs.size + 4 ∨ c = s1.heap.objs.size ∨ c = s1.heap.objs.size + 1 ∨ c = s1.heap.objs.size + 2 := by simpa using hcm
          rcases e' with q | q | q | q | q | q <;> rw [q] <;> first | exact Nat.le_refl _ | exact Nat.le_add_right _ _
        exact I1.fpOk hle (I1.hok.fresh hle)
end Sa
namespace Sa
open PySem PySem.Spec PyProof.Rows L2
end Sa
namespace Sa
open PySem PySem.Spec PyProof.Rows L2
theorem walk_zip3 {K : PySem.W.Frag} {b1 b2 b3 : Bool} {a1 a2 a3 : Addr} {xs ys zs : List V} (e2 : xs.length = ys.length) (e3 : xs.length = zs.length) :
    Walk (It3 K b1 b2 b3 a1 a2 a3) xs.length (fun H => SqB K H b1 a1 xs /\ SqB K H b2 a2 ys /\ SqB K H b3 a3 zs)
      (fun i H v H' => ∃ T x y z, v = .ref T /\ H T = none /\ H' = upd H T (.tup [x, y, z]) /\ xs[i]? = some x /\ ys[i]? = some y /\ zs[i]? = some z) where
  goes := fun i H hi ⟨q1, q2, q3⟩ => ⟨xs, ys, zs, _, _, _, q1, q2, q3, List.getElem?_eq_getElem hi, List.getElem?_eq_getElem (by omega), List.getElem?_eq_getElem (by omega)⟩
  stops := fun H ⟨q1, q2, q3⟩ => ⟨xs, ys, zs, q1, q2, q3, Nat.le_refl _, by omega, by omega, .inl rfl⟩
  yields := fun i H v H' hi ⟨q1, q2, q3⟩ ⟨T, x, y, z, ev, nT, eH, f1, f2, f3⟩ => ⟨T, x, y, z, ev, nT, eH, f1 xs q1, f2 ys q2, f3 zs q3⟩
end Sa
set_option maxHeartbeats 1600000
namespace Sa
open PySem PySem.Spec PyProof.Rows L2 Builtin.Slice
end Sa
set_option maxHeartbeats 1000000
namespace Va
open PySem PySem.Spec PyProof.Rows L2 Sa
def EnvR (C : Ck) (φ : Nat -> Addr) (n : Nat) (H : Hp) (σ : L2.St) (ρ : Ev) : Prop :=
  σ.length = ρ.length /\ ∀ (i : Nat) (w : W), ρ[i]? = some (some w) -> ∃ v, σ[i]? = some (some v) /\ Rw C φ n H v w
section
variable {C : Ck} {φ φ' : Nat -> Addr} {M M' : Mem} {H H' : Hp} {σ : L2.St} {ρ : Ev}
theorem EnvR.step (e : EnvR C φ M.length H σ ρ) (s : Step C φ M H φ' M' H') : EnvR C φ' M'.length H' σ ρ :=
  ⟨e.1, fun i w h => let ⟨v, h1, h2⟩ := e.2 i w h; ⟨v, h1, h2.step s⟩⟩
theorem EnvR.set (e : EnvR C φ M.length H σ ρ) {v : V} {w : W} (r : Rw C φ M.length H v w) (i : Nat) : EnvR C φ M.length H (σ.set i (some v)) (ρ.set i (some w)) := by
  refine ⟨by simp [e.1], fun j w' h => ?_⟩
  by_cases z : i = j
  · subst z
    by_cases hl : i < ρ.length
    · rw [List.getElem?_set_self hl] at h
      cases h
      exact ⟨v, by rw [List.getElem?_set_self (by rw [e.1]; exact hl)], r⟩
    · have : ρ.length <= i := Nat.le_of_not_lt hl
      rw [List.getElem?_eq_none (by simpa using this)] at h
      cases h
  · rw [List.getElem?_set_ne z] at h
    obtain ⟨v', h1, h2⟩ := e.2 j w' h
    exact ⟨v', by rw [List.getElem?_set_ne z]; exact h1, h2⟩
end
def tOf (C : Ck) (f : EvE) : TE := fun σ H Q => ∃ ρ φ M w M', EnvR C φ M.length H σ ρ /\ Sim C φ M H /\ f ρ M = some (w, M') /\
  ∀ v φ' H', Step C φ M H φ' M' H' -> Rw C φ' M'.length H' v w -> Q v H'
def ttOf (C : Ck) (f : EvT) : TT := fun σ H Q => ∃ ρ φ M b M', EnvR C φ M.length H σ ρ /\ Sim C φ M H /\ f ρ M = some (b, M') /\
  ∀ φ' H', Step C φ M H φ' M' H' -> Q b H'
def taOf (C : Ck) (f : EvA) : TA := fun σ H Q => ∃ ρ φ M ws M', EnvR C φ M.length H σ ρ /\ Sim C φ M H /\ f ρ M = some (ws, M') /\
  ∀ vs φ' H', Step C φ M H φ' M' H' -> RwAll C φ' M'.length H' vs ws -> Q vs H'
theorem _root_.L2.PE.weak {X : Cx} {e : Expr} {t t' : TE} (h : PE X e t) (w : ∀ σ H Q, t' σ H Q -> t σ H Q) : PE X e t' := ⟨fun pins s σ H Q I q => h.run pins s σ H Q I (w _ _ _ q)⟩
theorem _root_.L2.PT.weak {X : Cx} {e : Expr} {t t' : TT} (h : PT X e t) (w : ∀ σ H Q, t' σ H Q -> t σ H Q) : PT X e t' := ⟨fun pins s σ H Q I q => h.run pins s σ H Q I (w _ _ _ q)⟩
theorem _root_.L2.PA.weak {X : Cx} {e : List Expr} {t t' : TA} (h : PA X e t) (w : ∀ σ H Q, t' σ H Q -> t σ H Q) : PA X e t' := ⟨fun pos pins s σ H Q I q => h.run pos pins s σ H Q I (w _ _ _ q)⟩
theorem _root_.L2.PW.weak {X : Cx} {e : Expr} {t t' : TT} (h : PW X e t) (w : ∀ σ H Q, t' σ H Q -> t σ H Q) : PW X e t' := ⟨fun wh pins s σ H Q I q => h.run wh pins s σ H Q I (w _ _ _ q)⟩
theorem bsome {α β : Type} {o : Option α} {f : α -> Option β} {r : β} (h : o.bind f = some r) : ∃ x, o = some x /\ f x = some r := by
  cases o with
  | none => cases h
  | some x => exact ⟨x, rfl, h⟩
abbrev O2 := W -> W -> Mem -> Option (W × Mem)
abbrev O1 := W -> Mem -> Option (W × Mem)
def VO2 (C : Ck) (r : R2) (f : O2) : Prop := ∀ φ M H x y a b w M' (Q : VK), Sim C φ M H -> Rw C φ M.length H x a -> Rw C φ M.length H y b -> f a b M = some (w, M') ->
  (∀ v φ' H', Step C φ M H φ' M' H' -> Rw C φ' M'.length H' v w -> Q v H') -> r x y H Q
def VO1 (C : Ck) (r : V -> Hp -> VK -> Prop) (f : O1) : Prop := ∀ φ M H x a w M' (Q : VK), Sim C φ M H -> Rw C φ M.length H x a -> f a M = some (w, M') ->
  (∀ v φ' H', Step C φ M H φ' M' H' -> Rw C φ' M'.length H' v w -> Q v H') -> r x H Q
def VC (C : Ck) (r : List V -> Hp -> VK -> Prop) (f : Fn) : Prop := ∀ φ M H xs as w M' (Q : VK), Sim C φ M H -> RwAll C φ M.length H xs as -> f as M = some (w, M') ->
  (∀ v φ' H', Step C φ M H φ' M' H' -> Rw C φ' M'.length H' v w -> Q v H') -> r xs H Q
def eVar (i : Nat) : EvE := fun ρ M => match ρ[i]? with
  | some (some w) => some (w, M)
  | _ => none
def eC (x : PyData) : EvE := fun _ M => some (.d x, M)
def eOp (f : O2) (a b : EvE) : EvE := fun ρ M => (a ρ M).bind fun p => (b ρ p.2).bind fun q => f p.1 q.1 q.2
def eUn (f : O1) (a : EvE) : EvE := fun ρ M => (a ρ M).bind fun p => f p.1 p.2
def aNil : EvA := fun _ M => some ([], M)
def aCons (a : EvE) (as : EvA) : EvA := fun ρ M => (a ρ M).bind fun p => (as ρ p.2).bind fun q => some (p.1 :: q.1, q.2)
def eCall (f : Fn) (a : EvA) : EvE := fun ρ M => (a ρ M).bind fun p => f p.1 p.2
def asB : W -> Option Bool
  | .d (.bool b) => some b
  | _ => none
def asI : W -> Option Int
  | .d (.int i) => some i
  | _ => none
def tVal (a : EvE) : EvT := fun ρ M => (a ρ M).bind fun p => (asB p.1).map (·, p.2)
def tNotE (a : EvT) : EvT := fun ρ M => (a ρ M).bind fun p => some (!p.1, p.2)
def tAndE (a b : EvT) : EvT := fun ρ M => (a ρ M).bind fun p => if p.1 = true then b ρ p.2 else some (false, p.2)
def tOrE (a b : EvT) : EvT := fun ρ M => (a ρ M).bind fun p => if p.1 = true then some (true, p.2) else b ρ p.2
def eAnd (a b : EvE) : EvE := fun ρ M => (a ρ M).bind fun p => (asB p.1).bind fun c => if c = true then b ρ p.2 else some (.d (.bool false), p.2)
def eOr (a b : EvE) : EvE := fun ρ M => (a ρ M).bind fun p => (asB p.1).bind fun c => if c = true then some (.d (.bool true), p.2) else b ρ p.2
def eNot (a : EvE) : EvE := fun ρ M => (a ρ M).bind fun p => (asB p.1).bind fun c => some (.d (.bool (!c)), p.2)
def eIf (c : EvT) (a b : EvE) : EvE := fun ρ M => (c ρ M).bind fun p => if p.1 = true then a ρ p.2 else b ρ p.2
def eTup (a : EvA) : EvE := fun ρ M => (a ρ M).bind fun p => if p.1.length <= sizeLine then some (mkTup p.1, p.2) else none
def eLst (a : EvA) : EvE := fun ρ M => (a ρ M).bind fun p => if p.1.length <= sizeLine then some (.obj p.2.length, p.2 ++ [.lst p.1]) else none
theorem asB_eq {w : W} {b : Bool} (h : asB w = some b) : w = .d (.bool b) := by
  cases w with
  | d x => cases x <;> simp [asB] at h; rw [h]
  | obj i => cases h
  | scr => cases h
  | pack ws => cases h
  | fn => cases h
theorem asI_eq {w : W} {b : Int} (h : asI w = some b) : w = .d (.int b) := by
  cases w with
  | d x => cases x <;> simp [asI] at h; rw [h]
  | obj i => cases h
  | scr => cases h
  | pack ws => cases h
  | fn => cases h
theorem Rw.isB {C : Ck} {φ : Nat -> Addr} {n : Nat} {H : Hp} {v : V} {b : Bool} (r : Rw C φ n H v (.d (.bool b))) : v = .bl b := by
  cases r with | d r => cases r; rfl
theorem isB_of {C : Ck} {φ : Nat -> Addr} {n : Nat} {H : Hp} {v : V} {w : W} {b : Bool} (h : asB w = some b) (r : Rw C φ n H v w) : v = .bl b := by
  rw [asB_eq h] at r
  exact r.isB
theorem Rw.isI {C : Ck} {φ : Nat -> Addr} {n : Nat} {H : Hp} {v : V} {b : Int} (r : Rw C φ n H v (.d (.int b))) : v = .int b := by
  cases r with | d r => cases r; rfl
theorem Rw.isS {C : Ck} {φ : Nat -> Addr} {n : Nat} {H : Hp} {v : V} {b : Str} (r : Rw C φ n H v (.d (.str b))) : v = .str b := by
  cases r with | d r => cases r; rfl
theorem Rw.isN {C : Ck} {φ : Nat -> Addr} {n : Nat} {H : Hp} {v : V} (r : Rw C φ n H v (.d .none)) : v = .non := by
  cases r with | d r => cases r; rfl
theorem Rw.isO {C : Ck} {φ : Nat -> Addr} {n : Nat} {H : Hp} {v : V} {i : Nat} (r : Rw C φ n H v (.obj i)) : v = .ref (φ i) /\ i < n := by
  cases r with | obj h => exact ⟨rfl, h⟩
section
variable {C : Ck} {X : Cx} {a b c e : Expr} {es : List Expr} {fa fb : EvE} {fc fd : EvT} {fs : EvA} {pos : Pos}
theorem q_var (i : Nat) {x : Str} (h : PE X (.Name x pos) (tVar i)) : PE X (.Name x pos) (tOf C (eVar i)) :=
  h.weak fun σ H Q ⟨ρ, φ, M, w, M', env, sim, e, q⟩ => by
    unfold eVar at e
    split at e
    · rename_i w' hw
      cases e
      obtain ⟨v, h1, h2⟩ := env.2 i w hw
      exact ⟨v, h1, q v φ H (.refl sim) h2⟩
    · cases e
theorem qv (i : Nat) {x : Str} {pos : Pos} (hN : X.N[i]? = some x := by rfl) (hv : Vis X.env.scope x := by first | exact Or.inl rfl | exact Or.inr (Or.inl rfl) | exact Or.inr (Or.inr rfl)) (hd : (x == ("__debug__" : Str)) = false := by decide)
    (hcd : (x == ("__classdict__" : Str)) = false := by decide) : PE X (.Name x pos) (tOf C (eVar i)) := q_var i (pe_var hN hv hd hcd)
theorem q_c {v : V} {x : PyData} (h : PE X e (tC v)) (r : ∀ H, Rp C.K H v x) : PE X e (tOf C (eC x)) :=
  h.weak fun σ H Q ⟨ρ, φ, M, w, M', env, sim, e, q⟩ => by
    cases e
    exact q v φ H (.refl sim) (.d (r H))
theorem q_int {i : Int} {j : Nat} : PE X (.Constant (.int i) j pos) (tOf C (eC (.int i))) := q_c pe_int fun _ => .int i
theorem q_bl {b : Bool} {j : Nat} : PE X (.Constant (.bool b) j pos) (tOf C (eC (.bool b))) := q_c pe_bl fun _ => .bl b
theorem q_non {j : Nat} : PE X (.Constant .none j pos) (tOf C (eC .none)) := q_c pe_non fun _ => .non
theorem q_str {x : Str} {j : Nat} : PE X (.Constant (.str x) j pos) (tOf C (eC (.str x))) := q_c pe_str fun _ => .str x
theorem two_of {f : O2} {r : R2} (hv : VO2 C r f) {σ : L2.St} {H : Hp} {Q : VK} (h : tOf C (eOp f fa fb) σ H Q) : tOp r (tOf C fa) (tOf C fb) σ H Q := by
  obtain ⟨ρ, φ, M, w, M', env, sim, e, q⟩ := h
  obtain ⟨⟨x, M1⟩, e1, e⟩ := bsome e
  obtain ⟨⟨y, M2⟩, e2, e⟩ := bsome e
  refine ⟨ρ, φ, M, x, M1, env, sim, e1, fun v1 φ1 H1 s1 r1 => ⟨ρ, φ1, M1, y, M2, env.step s1, s1.sim, e2, fun v2 φ2 H2 s2 r2 => ?_⟩⟩
  exact hv φ2 M2 H2 v1 v2 x y w M' Q s2.sim (r1.step s2) r2 e fun v3 φ3 H3 s3 r3 => q v3 φ3 H3 (s1.trans (s2.trans s3)) r3
theorem q_op {op : Operator} {r : R2} {f : O2} (ho : OpR X (binaryOp op) r) (hv : VO2 C r f) (ha : PE X a (tOf C fa)) (hb : PE X b (tOf C fb)) : PE X (.BinOp a op b pos) (tOf C (eOp f fa fb)) :=
  (pe_op ho ha hb).weak fun σ H Q h => two_of hv h
theorem q_cmp {op : CmpOp} {r : R2} {f : O2} (ho : OpR X (compareOp op) r) (hv : VO2 C r f) (ha : PE X a (tOf C fa)) (hb : PE X b (tOf C fb)) (hm : behindInMarks op b = false) : PE X (.Compare a [op] [b] pos) (tOf C (eOp f fa fb)) :=
  (pe_cmpR ho ha hb hm).weak fun σ H Q h => two_of hv h
theorem qt_cmp {op : CmpOp} {r : R2} {f : O2} (ho : OpR X (compareOp op) r) (hv : VO2 C r f) (ha : PE X a (tOf C fa)) (hb : PE X b (tOf C fb)) (hm : behindInMarks op b = false) : PT X (.Compare a [op] [b] pos) (ttOf C (tVal (eOp f fa fb))) :=
  (pt_cmpR ho ha hb hm).weak fun σ H Q ⟨ρ, φ, M, k, M', env, sim, e, q⟩ => by
    obtain ⟨⟨w, M1⟩, e1, e⟩ := bsome e
    simp only [Option.map_eq_some_iff] at e
    obtain ⟨k', hk, e⟩ := e
    cases e
    refine two_of hv ⟨ρ, φ, M, w, M', env, sim, e1, fun v φ' H' s r => ⟨k, ?_, q φ' H' s⟩⟩
    rw [asB_eq hk] at r
    exact r.isB
theorem qt_val (h : PE X e (tOf C fa)) (he : ∀ whole, isTrue e X.env whole = (do let v <- whole; standAt e.pos; holding [v] (truthy v)) := by intro _; rfl) : PT X e (ttOf C (tVal fa)) :=
  (pt_val h he).weak fun σ H Q ⟨ρ, φ, M, k, M', env, sim, e, q⟩ => by
    obtain ⟨⟨w, M1⟩, e1, e⟩ := bsome e
    simp only [Option.map_eq_some_iff] at e
    obtain ⟨k', hk, e⟩ := e
    cases e
    refine ⟨ρ, φ, M, w, M', env, sim, e1, fun v φ' H' s r => ⟨k, ?_, q φ' H' s⟩⟩
    rw [asB_eq hk] at r
    exact r.isB
theorem qt_not (h : PT X a (ttOf C fc)) : PT X (.UnaryOp .Not a pos) (ttOf C (tNotE fc)) :=
  (pt_not h).weak fun σ H Q ⟨ρ, φ, M, k, M', env, sim, e, q⟩ => by
    obtain ⟨⟨k1, M1⟩, e1, e⟩ := bsome e
    cases e
    exact ⟨ρ, φ, M, k1, _, env, sim, e1, q⟩
theorem tAnd_of {σ : L2.St} {H : Hp} {Q : Bool -> Hp -> Prop} (h : ttOf C (tAndE fc fd) σ H Q) : tAnd (ttOf C fc) (ttOf C fd) σ H Q := by
  obtain ⟨ρ, φ, M, k, M', env, sim, e, q⟩ := h
  obtain ⟨⟨k1, M1⟩, e1, e⟩ := bsome e
  refine ⟨ρ, φ, M, k1, M1, env, sim, e1, fun φ1 H1 s1 => ?_⟩
  cases k1 with
  | true => exact ⟨ρ, φ1, M1, k, M', env.step s1, s1.sim, e, fun φ2 H2 s2 => q φ2 H2 (s1.trans s2)⟩
  | false => cases e; exact q φ1 H1 s1
theorem tOr_of {σ : L2.St} {H : Hp} {Q : Bool -> Hp -> Prop} (h : ttOf C (tOrE fc fd) σ H Q) : tOr (ttOf C fc) (ttOf C fd) σ H Q := by
  obtain ⟨ρ, φ, M, k, M', env, sim, e, q⟩ := h
  obtain ⟨⟨k1, M1⟩, e1, e⟩ := bsome e
  refine ⟨ρ, φ, M, k1, M1, env, sim, e1, fun φ1 H1 s1 => ?_⟩
  cases k1 with
  | false => exact ⟨ρ, φ1, M1, k, M', env.step s1, s1.sim, e, fun φ2 H2 s2 => q φ2 H2 (s1.trans s2)⟩
  | true => cases e; exact q φ1 H1 s1
theorem qw_and1 (ha : PT X a (ttOf C fc)) : PW X (.BoolOp .And [a] pos) (ttOf C fc) := pw_and1 ha
theorem qw_or1 (ha : PT X a (ttOf C fc)) : PW X (.BoolOp .Or [a] pos) (ttOf C fc) := pw_or1 ha
theorem qw_and {rest : List Expr} (ha : PT X a (ttOf C fc)) (hb : PW X (.BoolOp .And (b :: rest) pos) (ttOf C fd)) : PW X (.BoolOp .And (a :: b :: rest) pos) (ttOf C (tAndE fc fd)) := (pw_and ha hb).weak fun _ _ _ h => tAnd_of h
theorem qw_or {rest : List Expr} (ha : PT X a (ttOf C fc)) (hb : PW X (.BoolOp .Or (b :: rest) pos) (ttOf C fd)) : PW X (.BoolOp .Or (a :: b :: rest) pos) (ttOf C (tOrE fc fd)) := (pw_or ha hb).weak fun _ _ _ h => tOr_of h
theorem q_one {op : BoolOp} (h : PE X a (tOf C fa)) : PE X (.BoolOp op [a] pos) (tOf C fa) := pe_one h
theorem q_and {rest : List Expr} (ha : PE X a (tOf C fa)) (hb : PE X (.BoolOp .And (b :: rest) pos) (tOf C fb)) : PE X (.BoolOp .And (a :: b :: rest) pos) (tOf C (eAnd fa fb)) :=
  (pe_and ha hb).weak fun σ H Q ⟨ρ, φ, M, w, M', env, sim, e, q⟩ => by
    obtain ⟨⟨x, M1⟩, e1, e⟩ := bsome e
    obtain ⟨k, hk, e⟩ := bsome e
    refine ⟨ρ, φ, M, x, M1, env, sim, e1, fun v φ1 H1 s1 r1 => ⟨k, (isB_of hk r1), ?_⟩⟩
    cases k with
    | true => exact ⟨ρ, φ1, M1, w, M', env.step s1, s1.sim, e, fun v φ2 H2 s2 r => q v φ2 H2 (s1.trans s2) r⟩
    | false => cases e; exact q _ φ1 H1 s1 (.d (.bl _))
theorem q_or {rest : List Expr} (ha : PE X a (tOf C fa)) (hb : PE X (.BoolOp .Or (b :: rest) pos) (tOf C fb)) : PE X (.BoolOp .Or (a :: b :: rest) pos) (tOf C (eOr fa fb)) :=
  (pe_or ha hb).weak fun σ H Q ⟨ρ, φ, M, w, M', env, sim, e, q⟩ => by
    obtain ⟨⟨x, M1⟩, e1, e⟩ := bsome e
    obtain ⟨k, hk, e⟩ := bsome e
    refine ⟨ρ, φ, M, x, M1, env, sim, e1, fun v φ1 H1 s1 r1 => ⟨k, (isB_of hk r1), ?_⟩⟩
    cases k with
    | false => exact ⟨ρ, φ1, M1, w, M', env.step s1, s1.sim, e, fun v φ2 H2 s2 r => q v φ2 H2 (s1.trans s2) r⟩
    | true => cases e; exact q _ φ1 H1 s1 (.d (.bl _))
theorem q_ifE (hc : PT X c (ttOf C fc)) (ha : PE X a (tOf C fa)) (hb : PE X b (tOf C fb)) : PE X (.IfExp c a b pos) (tOf C (eIf fc fa fb)) :=
  (pe_ifExp hc ha hb).weak fun σ H Q ⟨ρ, φ, M, w, M', env, sim, e, q⟩ => by
    obtain ⟨⟨k, M1⟩, e1, e⟩ := bsome e
    refine ⟨ρ, φ, M, k, M1, env, sim, e1, fun φ1 H1 s1 => ?_⟩
    cases k with
    | true => exact ⟨ρ, φ1, M1, w, M', env.step s1, s1.sim, e, fun v φ2 H2 s2 r => q v φ2 H2 (s1.trans s2) r⟩
    | false => exact ⟨ρ, φ1, M1, w, M', env.step s1, s1.sim, e, fun v φ2 H2 s2 r => q v φ2 H2 (s1.trans s2) r⟩
theorem q_un {op : UnaryOp} {r : V -> Hp -> VK -> Prop} {f : O1} (ho : UnR X (unaryOp op) r) (hv : VO1 C r f) (ha : PE X a (tOf C fa)) : PE X (.UnaryOp op a pos) (tOf C (eUn f fa)) :=
  (pe_un ho ha).weak fun σ H Q ⟨ρ, φ, M, w, M', env, sim, e, q⟩ => by
    obtain ⟨⟨x, M1⟩, e1, e⟩ := bsome e
    exact ⟨ρ, φ, M, x, M1, env, sim, e1, fun v φ1 H1 s1 r1 => hv φ1 M1 H1 v x w M' Q s1.sim r1 e fun v2 φ2 H2 s2 r2 => q v2 φ2 H2 (s1.trans s2) r2⟩
theorem qa_nil : PA X [] (taOf C aNil) := pa_nil.weak fun σ H Q ⟨ρ, φ, M, w, M', env, sim, e, q⟩ => by
  cases e
  exact q [] φ H (.refl sim) .nil
theorem qa_cons (ha : PE X e (tOf C fa)) (hr : PA X es (taOf C fs)) (hs : starEach (e :: es) X.env = (false, eval e X.env) :: starEach es X.env := by rfl) : PA X (e :: es) (taOf C (aCons fa fs)) :=
  (pa_cons ha hr hs).weak fun σ H Q ⟨ρ, φ, M, w, M', env, sim, e, q⟩ => by
    obtain ⟨⟨x, M1⟩, e1, e⟩ := bsome e
    obtain ⟨⟨xs, M2⟩, e2, e⟩ := bsome e
    cases e
    refine ⟨ρ, φ, M, x, M1, env, sim, e1, fun v φ1 H1 s1 r1 => ⟨ρ, φ1, M1, xs, _, env.step s1, s1.sim, e2, fun vs φ2 H2 s2 r2 => ?_⟩⟩
    exact q _ φ2 H2 (s1.trans s2) (.cons (r1.step s2) r2)
theorem q_tup {x1 : Nat} (h : PA X es (taOf C fs)) : PE X (.Tuple es x1 pos) (tOf C (eTup fs)) :=
  (pe_tup h).weak fun σ H Q ⟨ρ, φ, M, w, M', env, sim, e, q⟩ => by
    obtain ⟨⟨xs, M1⟩, e1, e⟩ := bsome e
    split at e
    · rename_i z
      cases e
      refine ⟨ρ, φ, M, xs, _, env, sim, e1, fun vs φ1 H1 s1 r1 => ⟨by rw [r1.length]; exact z, fun p np => ?_⟩⟩
      have s2 := Step.tup (o := .tup vs) s1.sim np
      exact q _ φ1 _ (s1.trans s2) (.tup (SqT.of upd_same) (r1.step s2))
    · cases e
theorem q_lst (h : PA X es (taOf C fs)) : PE X (.List es pos) (tOf C (eLst fs)) :=
  (pe_lst h).weak fun σ H Q ⟨ρ, φ, M, w, M', env, sim, e, q⟩ => by
    obtain ⟨⟨xs, M1⟩, e1, e⟩ := bsome e
    split at e
    · rename_i z
      cases e
      refine ⟨ρ, φ, M, xs, _, env, sim, e1, fun vs φ1 H1 s1 r1 => ⟨by rw [r1.length]; exact z, fun p np => ?_⟩⟩
      exact q _ _ _ (s1.trans (.list s1.sim np r1)) .new
    · cases e
theorem call_of {r : List V -> Hp -> VK -> Prop} {f : Fn} (hv : VC C r f) {σ : L2.St} {H : Hp} {Q : VK} (h : tOf C (eCall f fs) σ H Q) : tCB r (taOf C fs) σ H Q := by
  obtain ⟨ρ, φ, M, w, M', env, sim, e, q⟩ := h
  obtain ⟨⟨xs, M1⟩, e1, e⟩ := bsome e
  exact ⟨ρ, φ, M, xs, M1, env, sim, e1, fun v φ1 H1 s1 r1 => hv φ1 M1 H1 v xs w M' Q s1.sim r1 e fun v2 φ2 H2 s2 r2 => q v2 φ2 H2 (s1.trans s2) r2⟩
theorem q_callB {x : Str} {p : Pos} {id : String} {r : List V -> Hp -> VK -> Prop} {f : Fn} (hc : CallR X (.builtin id) r) (hf : VC C r f) (hg : Gl X x) (hm : X.mg x = none) (hv : bootBuiltins x = some (.builtin id)) (ha : PA X (e :: es) (taOf C fs)) (hn : x ≠ "__name__" := by decide) (hdb : (x == ("__debug__" : Str)) = false := by decide)
    (he : starEach (e :: es) X.env = (false, eval e X.env) :: starEach es X.env := by rfl) (hpl : (backTo pos (starEach es X.env)).any (·.1) = false := by rfl) : PE X (.Call (.Name x p) (e :: es) [] pos) (tOf C (eCall f fs)) :=
  (pe_callB hc hg hm hv ha hn hdb he hpl).weak fun _ _ _ h => call_of hf h
theorem q_callTy {x : Str} {p : Pos} {T : String} {r : List V -> Hp -> VK -> Prop} {f : Fn} (hc : CallR X (.type T) r) (hf : VC C r f) (hg : Gl X x) (hm : X.mg x = none) (hv : bootBuiltins x = some (.type T)) (ha : PA X (e :: es) (taOf C fs)) (hn : x ≠ "__name__" := by decide) (hdb : (x == ("__debug__" : Str)) = false := by decide)
    (he : starEach (e :: es) X.env = (false, eval e X.env) :: starEach es X.env := by rfl) (hpl : (backTo pos (starEach es X.env)).any (·.1) = false := by rfl) : PE X (.Call (.Name x p) (e :: es) [] pos) (tOf C (eCall f fs)) :=
  (pe_callTy hc hg hm hv ha hn hdb he hpl).weak fun _ _ _ h => call_of hf h
/-- a def's promise by its function -/
def spV (C : Ck) (n : Nat) (F : Fn) : Sp := fun vs H Q _ => ∃ φ M ws w M', RwAll C φ M.length H vs ws /\ vs.length = n /\ Sim C φ M H /\ F ws M = some (w, M') /\
  ∀ v φ' H', Step C φ M H φ' M' H' -> Rw C φ' M'.length H' v w -> Q v H'
def eDef (n : Nat) (F : Fn) (a : EvA) : EvE := fun ρ M => (a ρ M).bind fun p => if p.1.length = n then F p.1 p.2 else none
theorem q_df {k n : Nat} {ps : List Str} {F : Fn} {x : Str} {p : Pos} (D : Df X.prog X.w X.K X.mg X.base k x ps (spV C n F)) (hr : Room k X.A) (hf : Free X.A) (hg : Gl X x) (args : PA X (e :: es) (taOf C fs)) (nd : (x == ("__debug__" : Str)) = false := by decide)
    (he : starEach (e :: es) X.env = (false, eval e X.env) :: starEach es X.env := by rfl) (np : (backTo pos (starEach es X.env)).any (·.1) = false := by rfl) :
    PE X (.Call (.Name x p) (e :: es) [] pos) (tOf C (eDef n F fs)) :=
  (pe_df D hr hf hg args nd he np).weak fun σ H Q ⟨ρ, φ, M, w, M', env, sim, e, q⟩ => by
    obtain ⟨⟨xs, M1⟩, e1, e⟩ := bsome e
    split at e
    · rename_i z
      refine ⟨ρ, φ, M, xs, M1, env, sim, e1, fun vs φ1 H1 s1 r1 => ?_⟩
      show spV C n F (vs ++ []) H1 Q E0
      rw [List.append_nil]
      exact ⟨φ1, M1, xs, w, M', r1, by rw [r1.length]; exact z, s1.sim, e, fun v φ2 H2 s2 r2 => q v φ2 H2 (s1.trans s2) r2⟩
    · cases e
end
end Va
namespace Va
open PySem PySem.Spec PyProof.Rows L2 Sa
def Only (is : List Nat) (σ σ' : L2.St) : Prop := σ'.length = σ.length /\ ∀ i, i ∉ is -> σ'[i]? = σ[i]?
theorem Only.refl {is : List Nat} {σ : L2.St} : Only is σ σ := ⟨rfl, fun _ _ => rfl⟩
theorem Only.trans {is js : List Nat} {σ σ1 σ2 : L2.St} (a : Only is σ σ1) (b : Only js σ1 σ2) : Only (is ++ js) σ σ2 :=
  ⟨b.1.trans a.1, fun i h => (b.2 i fun z => h (List.mem_append_right _ z)).trans (a.2 i fun z => h (List.mem_append_left _ z))⟩
def tgOf (C : Ck) (is : List Nat) (g : EvG) : TG := fun v σ H Q => ∃ ρ φ M w ρ', EnvR C φ M.length H σ ρ /\ Sim C φ M H /\ Rw C φ M.length H v w /\ g w ρ = some ρ' /\
  ∀ σ', EnvR C φ M.length H σ' ρ' -> Only is σ σ' -> Q σ' H
def tgsOf (C : Ck) (is : List Nat) (g : List W -> Ev -> Option Ev) : TGs := fun vs σ H Q => ∃ ρ φ M ws ρ', EnvR C φ M.length H σ ρ /\ Sim C φ M H /\ RwAll C φ M.length H vs ws /\ g ws ρ = some ρ' /\
  ∀ σ', EnvR C φ M.length H σ' ρ' -> Only is σ σ' -> Q σ' H
theorem _root_.L2.PG.weak {X : Cx} {e : Expr} {t t' : TG} (h : PG X e t) (w : ∀ v σ H Q, t' v σ H Q -> t v σ H Q) : PG X e t' := ⟨fun pins s σ H v u Q I r q => h.run pins s σ H v u Q I r (w _ _ _ _ q)⟩
theorem _root_.L2.PGs.weak {X : Cx} {e : List Expr} {t t' : TGs} (h : PGs X e t) (w : ∀ v σ H Q, t' v σ H Q -> t v σ H Q) : PGs X e t' := ⟨fun pins s σ H v u Q I r q => h.run pins s σ H v u Q I r (w _ _ _ _ q)⟩
def gN (i : Nat) : EvG := fun w ρ => some (ρ.set i (some w))
def gs0 : List W -> Ev -> Option Ev := fun ws ρ => match ws with
  | [] => some ρ
  | _ => none
def gsC (g : EvG) (gs : List W -> Ev -> Option Ev) : List W -> Ev -> Option Ev := fun ws ρ => match ws with
  | [] => none
  | w :: r => (g w ρ).bind fun ρ1 => gs r ρ1
def gT (n : Nat) (gs : List W -> Ev -> Option Ev) : EvG := fun w ρ => (tupOf w).bind fun ws => if ws.length = n then gs ws ρ else none
section
variable {C : Ck} {X : Cx} {pos : Pos} {is js : List Nat}
theorem qg_name {i : Nat} {x : Str} (hN : X.N.Nodup) (hi : X.N[i]? = some x) (hx : Loc X.env.scope x) (hf : X.fn x = true ∨ X.env.scope.names.lookup x = some .local := by first | exact .inl rfl | exact .inr rfl | assumption) :
    PG X (.Name x pos) (tgOf C [i] (gN i)) :=
  (pg_name hN hi hx hf).weak fun v σ H Q ⟨ρ, φ, M, w, ρ', env, sim, r, e, q⟩ => by
    cases e
    exact q _ (env.set r i) ⟨by simp, fun j h => List.getElem?_set_ne fun z => h (by rw [z]; exact List.mem_singleton.mpr rfl)⟩
theorem qgs_nil : PGs X [] (tgsOf C [] gs0) := pgs_nil.weak fun v σ H Q ⟨ρ, φ, M, w, ρ', env, sim, r, e, q⟩ => by
  cases w with
  | nil =>
    cases e
    cases r
    exact ⟨rfl, q σ env .refl⟩
  | cons => cases e
theorem qgs_cons {e : Expr} {es : List Expr} {g : EvG} {gs : List W -> Ev -> Option Ev} (h1 : PG X e (tgOf C is g)) (h2 : PGs X es (tgsOf C js gs)) (hs : (assignEach (e :: es) X.env).map (·.2) = assign e X.env :: (assignEach es X.env).map (·.2) := by rfl) : PGs X (e :: es) (tgsOf C (is ++ js) (gsC g gs)) :=
  (pgs_cons h1 h2 hs).weak fun v σ H Q ⟨ρ, φ, M, w, ρ', env, sim, r, e, q⟩ => by
    cases w with
    | nil => cases e
    | cons w ws =>
      obtain ⟨ρ1, e1, e⟩ := bsome e
      cases r with
      | cons r1 r2 => exact ⟨_, _, rfl, ρ, φ, M, w, ρ1, env, sim, r1, e1, fun σ1 env1 o1 => ⟨ρ1, φ, M, ws, ρ', env1, sim, r2, e, fun σ2 env2 o2 => q σ2 env2 (o1.trans o2)⟩⟩
theorem qg_tup {es : List Expr} {k n : Nat} {gs : List W -> Ev -> Option Ev} (hc : X.calm = true) (hK : X.K = C.K) (h : PGs X es (tgsOf C is gs))
    (hn : (assignEach es X.env).length = n := by rfl) (hst : (assignEach es X.env).findIdx? (·.1) = none := by rfl) : PG X (.Tuple es k pos) (tgOf C is (gT n gs)) :=
  (pg_tup hc h hn hst).weak fun v σ H Q ⟨ρ, φ, M, w, ρ', env, sim, r, e, q⟩ => by
    obtain ⟨ws, e1, e⟩ := bsome e
    split at e
    · rename_i hl
      have hl : ws.length = n := hl
      obtain ⟨a, vs, rfl, sq, r2⟩ := r.un e1
      exact ⟨a, vs, rfl, by rw [hK]; exact sq, by rw [r2.length]; exact hl, ρ, φ, M, ws, ρ', env, sim, r2, e, q⟩
    · cases e
end
def Fin' (C : Ck) (D : Ends) (φ : Nat -> Addr) (M : Mem) (H : Hp) : Out -> Prop
  | .nx ρ' M' => ∀ σ' φ' H', Step C φ M H φ' M' H' -> EnvR C φ' M'.length H' σ' ρ' -> D.nx σ' H'
  | .bk ρ' M' => ∀ σ' φ' H', Step C φ M H φ' M' H' -> EnvR C φ' M'.length H' σ' ρ' -> D.bk σ' H'
  | .ct ρ' M' => ∀ σ' φ' H', Step C φ M H φ' M' H' -> EnvR C φ' M'.length H' σ' ρ' -> D.ct σ' H'
  | .rt w M' => ∀ v φ' H', Step C φ M H φ' M' H' -> Rw C φ' M'.length H' v w -> D.rt v H'
theorem Fin'.step {C : Ck} {D : Ends} {φ φ' : Nat -> Addr} {M M' : Mem} {H H' : Hp} {o : Out} (s : Step C φ M H φ' M' H') (h : Fin' C D φ M H o) : Fin' C D φ' M' H' o := by
  cases o with
  | nx ρ M1 => exact fun σ1 φ1 H1 s1 e => h σ1 φ1 H1 (s.trans s1) e
  | bk ρ M1 => exact fun σ1 φ1 H1 s1 e => h σ1 φ1 H1 (s.trans s1) e
  | ct ρ M1 => exact fun σ1 φ1 H1 s1 e => h σ1 φ1 H1 (s.trans s1) e
  | rt w M1 => exact fun v φ1 H1 s1 e => h v φ1 H1 (s.trans s1) e
def tsOf (C : Ck) (g : EvS) : TS := fun D σ H => ∃ ρ φ M o, EnvR C φ M.length H σ ρ /\ Sim C φ M H /\ g ρ M = some o /\ Fin' C D φ M H o
theorem _root_.L2.PS.weak {X : Cx} {e : Stmt} {t t' : TS} (h : PS X e t) (w : ∀ D σ H, t' D σ H -> t D σ H) : PS X e t' := ⟨fun pins s σ H D I q => h.run pins s σ H D I (w _ _ _ q)⟩
theorem _root_.L2.PSs.weak {X : Cx} {e : List Stmt} {t t' : TS} (h : PSs X e t) (w : ∀ D σ H, t' D σ H -> t D σ H) : PSs X e t' := ⟨fun pins s σ H D I q => h.run pins s σ H D I (w _ _ _ q)⟩
def sNil : EvS := fun ρ M => some (.nx ρ M)
def sSeq (a b : EvS) : EvS := fun ρ M => (a ρ M).bind fun o => match o with
  | .nx ρ1 M1 => b ρ1 M1
  | o => some o
def sIf (c : EvT) (a b : EvS) : EvS := fun ρ M => (c ρ M).bind fun p => if p.1 = true then a ρ p.2 else b ρ p.2
def sRet (a : EvE) : EvS := fun ρ M => (a ρ M).bind fun p => some (.rt p.1 p.2)
def sSet (i : Nat) (a : EvE) : EvS := fun ρ M => (a ρ M).bind fun p => some (.nx (ρ.set i (some p.1)) p.2)
def sAsg (a : EvE) (g : EvG) : EvS := fun ρ M => (a ρ M).bind fun p => (g p.1 ρ).bind fun ρ1 => some (.nx ρ1 p.2)
def sPar (i j : Nat) (a : EvA) : EvS := fun ρ M => (a ρ M).bind fun p => match p.1 with
  | [x, y] => some (.nx ((ρ.set i (some x)).set j (some y)) p.2)
  | _ => none
def sExpr (a : EvE) : EvS := fun ρ M => (a ρ M).bind fun p => some (.nx ρ p.2)
def lstAt (M : Mem) : W -> Option (Nat × List W)
  | .obj i => match M[i]? with
    | some (.lst ws) => some (i, ws)
    | _ => none
  | _ => none
theorem lstAt_eq {M : Mem} {w : W} {i : Nat} {ws : List W} (h : lstAt M w = some (i, ws)) : w = .obj i /\ M[i]? = some (.lst ws) := by
  cases w with
  | obj j =>
    simp only [lstAt] at h
    split at h
    · rename_i ws' e; cases h; exact ⟨rfl, e⟩
    · cases h
  | d x => cases h
  | scr => cases h
  | pack ws => cases h
  | fn => cases h
/-- o[i] = e -/
def sPut (e o i : EvE) : EvS := fun ρ M => (e ρ M).bind fun p => (o ρ p.2).bind fun q => (i ρ q.2).bind fun r => (asI r.1).bind fun k => (lstAt r.2 q.1).bind fun l =>
  (ixN l.2.length k).bind fun j => some (.nx ρ (r.2.set l.1 (.lst (l.2.set j p.1))))
/-- o.append(e) -/
def sApp (o e : EvE) : EvE := fun ρ M => (o ρ M).bind fun q => (lstAt q.2 q.1).bind fun _ => (e ρ q.2).bind fun p => (lstAt p.2 q.1).bind fun l => if l.2.length < sizeLine then some (.d .none, p.2.set l.1 (.lst (l.2 ++ [p.1]))) else none
section
variable {C : Ck} {X : Cx} {pos : Pos} {a b c e : Expr} {st : Stmt} {sts s2 : List Stmt} {fa : EvE} {fc : EvT} {ga gb : EvS} {fs : EvA} {is : List Nat}
theorem qs_nil : PSs X [] (tsOf C sNil) := pss_nil.weak fun D σ H ⟨ρ, φ, M, o, env, sim, e, q⟩ => by
  cases e
  exact q σ φ H (.refl sim) env
theorem seq_of {t u : TS} (h1 : ∀ D σ H, tsOf C ga D σ H -> t D σ H) (h2 : ∀ D σ H, tsOf C gb D σ H -> u D σ H) {D : Ends} {σ : L2.St} {H : Hp} (h : tsOf C (sSeq ga gb) D σ H) : tSeq t u D σ H := by
  obtain ⟨ρ, φ, M, o, env, sim, e, q⟩ := h
  obtain ⟨o1, e1, e⟩ := bsome e
  refine h1 _ _ _ ⟨ρ, φ, M, o1, env, sim, e1, ?_⟩
  cases o1 with
  | nx ρ1 M1 => exact fun σ1 φ1 H1 s1 env1 => h2 _ _ _ ⟨ρ1, φ1, M1, o, env1, s1.sim, e, q.step s1⟩
  | bk ρ1 M1 => cases e; exact q
  | ct ρ1 M1 => cases e; exact q
  | rt w M1 => cases e; exact q
theorem qs_cons (h1 : PS X st (tsOf C ga)) (h2 : PSs X sts (tsOf C gb)) : PSs X (st :: sts) (tsOf C (sSeq ga gb)) :=
  (pss_cons h1 h2).weak fun D σ H h => seq_of (fun _ _ _ z => z) (fun _ _ _ z => z) h
theorem qs_one (h1 : PS X st (tsOf C ga)) : PSs X [st] (tsOf C ga) := pss_one h1
theorem q_if (hc : PT X c (ttOf C fc)) (ha : PSs X sts (tsOf C ga)) (hb : PSs X s2 (tsOf C gb)) : PS X (.If c sts s2 pos) (tsOf C (sIf fc ga gb)) :=
  (ps_if hc ha hb).weak fun D σ H ⟨ρ, φ, M, o, env, sim, e, q⟩ => by
    obtain ⟨⟨k, M1⟩, e1, e⟩ := bsome e
    refine ⟨ρ, φ, M, k, M1, env, sim, e1, fun φ1 H1 s1 => ?_⟩
    cases k with
    | true => exact ⟨ρ, φ1, M1, o, env.step s1, s1.sim, e, q.step s1⟩
    | false => exact ⟨ρ, φ1, M1, o, env.step s1, s1.sim, e, q.step s1⟩
theorem q_ret (he : PE X e (tOf C fa)) : PS X (.Return (some e) pos) (tsOf C (sRet fa)) :=
  (ps_ret he).weak fun D σ H ⟨ρ, φ, M, o, env, sim, e, q⟩ => by
    obtain ⟨⟨x, M1⟩, e1, e⟩ := bsome e
    cases e
    exact ⟨ρ, φ, M, x, M1, env, sim, e1, q⟩
theorem set_of {i : Nat} {D : Ends} {σ : L2.St} {H : Hp} (h : tsOf C (sSet i fa) D σ H) : tAsg (tOf C fa) (gName i) D σ H := by
  obtain ⟨ρ, φ, M, o, env, sim, e, q⟩ := h
  obtain ⟨⟨x, M1⟩, e1, e⟩ := bsome e
  cases e
  exact ⟨ρ, φ, M, x, M1, env, sim, e1, fun v φ1 H1 s1 r1 => q _ φ1 H1 s1 ((env.step s1).set r1 i)⟩
theorem q_set {i : Nat} {x : Str} {pos' : Pos} (hN : X.N.Nodup) (hi : X.N[i]? = some x) (hx : Loc X.env.scope x) (he : PE X e (tOf C fa)) (hs : swapsWith e (some (.Name x pos')) pos.line X.env = pure false := by rfl) (hf : X.fn x = true ∨ X.env.scope.names.lookup x = some .local := by first | exact .inl rfl | exact .inr rfl | assumption) :
    PS X (.Assign [.Name x pos'] e pos) (tsOf C (sSet i fa)) := (ps_set hN hi hx he hs hf).weak fun _ _ _ h => set_of h
theorem q_asg {tg : Expr} {g : EvG} (he : PE X e (tOf C fa)) (hg : PG X tg (tgOf C is g)) (hs : swapsWithSole [tg] e pos.line X.env = pure false := by rfl) (hw : swappedStores [tg] e X.env = pure none := by rfl)
    (h1 : (assignEach [tg] X.env).map (·.2) = [assign tg X.env] := by rfl) : PS X (.Assign [tg] e pos) (tsOf C (sAsg fa g)) :=
  (ps_asg he hg hs hw h1).weak fun D σ H ⟨ρ, φ, M, o, env, sim, e, q⟩ => by
    obtain ⟨⟨x, M1⟩, e1, e⟩ := bsome e
    obtain ⟨ρ1, e2, e⟩ := bsome e
    cases e
    exact ⟨ρ, φ, M, x, M1, env, sim, e1, fun v φ1 H1 s1 r1 => ⟨ρ, φ1, M1, x, ρ1, env.step s1, s1.sim, r1, e2, fun σ1 env1 _ => q σ1 φ1 H1 s1 env1⟩⟩
theorem q_par {i j : Nat} {x y : Str} {px py pt : Pos} {kt k2 : Nat} {pt2 : Pos} (hc : X.calm = true) (hN : X.N.Nodup) (hi : X.N[i]? = some x) (hj : X.N[j]? = some y) (hij : i ≠ j)
    (hx : X.env.scope.names.lookup x = some .local) (hy : X.env.scope.names.lookup y = some .local) (ha : PA X [a, b] (taOf C fs))
    (hw : swappedStores [.Tuple [.Name x px, .Name y py] kt pt] (.Tuple [a, b] k2 pt2) X.env = pure (some [x, y]))
    (hs : swapsWithSole [.Tuple [.Name x px, .Name y py] kt pt] (.Tuple [a, b] k2 pt2) pos.line X.env = pure false := by rfl) :
    PS X (.Assign [.Tuple [.Name x px, .Name y py] kt pt] (.Tuple [a, b] k2 pt2) pos) (tsOf C (sPar i j fs)) :=
  (ps_par hc hN hi hj hij hx hy ha hw hs).weak fun D σ H ⟨ρ, φ, M, o, env, sim, e, q⟩ => by
    obtain ⟨⟨ws, M1⟩, e1, e⟩ := bsome e
    refine ⟨ρ, φ, M, ws, M1, env, sim, e1, fun vs φ1 H1 s1 r1 => ?_⟩
    simp only at e
    split at e
    · rename_i w1 w2
      cases e
      cases r1 with
      | cons r1 r => cases r with
        | cons r2 r => cases r; exact ⟨_, _, rfl, q _ φ1 H1 s1 (((env.step s1).set r1 i).set r2 j)⟩
    · cases e
theorem q_expr (he : PE X e (tOf C fa)) (hs : swapsWith e none pos.line X.env = pure false := by rfl) : PS X (.Expr e pos) (tsOf C (sExpr fa)) :=
  (ps_expr he hs).weak fun D σ H ⟨ρ, φ, M, o, env, sim, e, q⟩ => by
    obtain ⟨⟨x, M1⟩, e1, e⟩ := bsome e
    cases e
    exact ⟨ρ, φ, M, x, M1, env, sim, e1, fun v φ1 H1 s1 r1 => q _ φ1 H1 s1 (env.step s1)⟩
theorem q_put {fo fi fe : EvE} {o i : Expr} {po : Pos} (he : PE X e (tOf C fe)) (ho : PE X o (tOf C fo)) (hi : PE X i (tOf C fi)) (hg : PG X (.Subscript o i po) (gSub (tOf C fo) (tOf C fi) rSetL)) (hs : swapsWithSole [.Subscript o i po] e pos.line X.env = pure false := by rfl) (hw : swappedStores [.Subscript o i po] e X.env = pure none := by rfl)
    (h1 : (assignEach [.Subscript o i po] X.env).map (·.2) = [assign (.Subscript o i po) X.env] := by rfl) : PS X (.Assign [.Subscript o i po] e pos) (tsOf C (sPut fe fo fi)) :=
  (ps_asg he hg hs hw h1).weak fun D σ H ⟨ρ, φ, M, o, env, sim, e, q⟩ => by
    obtain ⟨⟨x, M1⟩, e1, e⟩ := bsome e
    obtain ⟨⟨y, M2⟩, e2, e⟩ := bsome e
    obtain ⟨⟨z, M3⟩, e3, e⟩ := bsome e
    obtain ⟨k, hk, e⟩ := bsome e
    obtain ⟨⟨l, ws⟩, hl, e⟩ := bsome e
    obtain ⟨j, hj, e⟩ := bsome e
    cases e
    obtain ⟨ey, el⟩ := lstAt_eq hl
    simp only at ey el hj
    have ez := asI_eq hk
    simp only at ez
    subst ey ez
    refine ⟨ρ, φ, M, x, M1, env, sim, e1, fun v φ1 H1 s1 r1 => ⟨ρ, φ1, M1, _, M2, env.step s1, s1.sim, e2, fun v2 φ2 H2 s2 r2 => ⟨ρ, φ2, M2, _, M3, (env.step s1).step s2, s2.sim, e3, fun v3 φ3 H3 s3 r3 => ?_⟩⟩⟩
    obtain ⟨rfl, _⟩ := (r2.step s3).isO
    obtain rfl := r3.isI
    obtain ⟨us, hu, ru⟩ := s3.sim.ob l _ el
    have rx := (r1.step s2).step s3
    refine ⟨φ3 l, us, k, j, rfl, rfl, hu, by rw [ru.length]; exact hj, ?_⟩
    have s4 := Step.set s3.sim el (RwAll.set rx j ru)
    have s5 := s1.trans (s2.trans (s3.trans s4))
    exact q _ φ3 _ s5 (env.step s5)
end
end Va
namespace Va
open PySem PySem.Spec PyProof.Rows L2 Sa
def Deps (deps : List (Nat × MO)) (M : Mem) : Prop := ∀ p ∈ deps, M[p.1]? = some p.2
@[simp] theorem Deps.nil {M : Mem} : Deps [] M := fun p h => by simp at h
@[simp] theorem Deps.one {i : Nat} {mo : MO} {M : Mem} : Deps [(i, mo)] M ↔ M[i]? = some mo := by simp [Deps]
/-- the walk gives these -/
def ItOk (C : Ck) (J : It) (items : List W) (deps : List (Nat × MO)) (φ0 : Nat -> Addr) (M0 : Mem) (H0 : Hp) : Prop :=
  ∀ φ M H, Step C φ0 M0 H0 φ M H -> Deps deps M ->
    (∀ (k : Nat) (w : W), items[k]? = some w -> J.go k H /\ ∀ x H', J.yld k H x H' -> Step C φ M H φ M H' /\ Rw C φ M.length H' x w) /\ J.stop items.length H
def tiOf (C : Ck) (fi : EvI) : TI := fun σ H R => ∃ ρ φ M s M', EnvR C φ M.length H σ ρ /\ Sim C φ M H /\ fi ρ M = some (s, M') /\
  ∀ J φ' H', Step C φ M H φ' M' H' -> ItOk C J s.1 s.2 φ' M' H' -> R J H'
theorem _root_.L2.PI.weak {X : Cx} {tg e : Expr} {t t' : TI} (h : PI X tg e t) (w : ∀ σ H R, t' σ H R -> t σ H R) : PI X tg e t' := ⟨fun pins s σ H R I q => h.run pins s σ H R I (w _ _ _ q)⟩
open Classical in
noncomputable def forL (deps : List (Nat × MO)) (g : EvG) (body : EvS) : List W -> Ev -> Mem -> Option Out
  | [], ρ, M => if Deps deps M then some (.nx ρ M) else none
  | w :: ws, ρ, M => if Deps deps M then (g w ρ).bind fun ρ1 => (body ρ1 M).bind fun o => match o with
    | .nx ρ2 M2 => forL deps g body ws ρ2 M2
    | .ct ρ2 M2 => forL deps g body ws ρ2 M2
    | .bk ρ2 M2 => some (.nx ρ2 M2)
    | .rt w M2 => some (.rt w M2)
    else none
noncomputable def sFor (fi : EvI) (g : EvG) (body : EvS) : EvS := fun ρ M => (fi ρ M).bind fun p => forL p.1.2 g body p.1.1 ρ p.2
section
variable {C : Ck} {X : Cx} {pos : Pos} {tg iter e : Expr} {body : List Stmt} {fi : EvI} {g : EvG} {gb : EvS} {is : List Nat}
theorem for_of {D : Ends} {σ : L2.St} {H : Hp} (h : tsOf C (sFor fi g gb) D σ H) : tFor (tiOf C fi) (tgOf C is g) (tsOf C gb) D σ H := by
  obtain ⟨ρ, φ, M, o, env, sim, e, q⟩ := h
  obtain ⟨⟨⟨items, deps⟩, M1⟩, e1, e⟩ := bsome e
  refine ⟨ρ, φ, M, _, M1, env, sim, e1, fun J φ1 H1 s1 ok => ?_⟩
  refine ⟨fun i m σ H => ∃ ρ φ M ws, m = ws.length /\ items.drop i = ws /\ i <= items.length /\ EnvR C φ M.length H σ ρ /\ Step C φ1 M1 H1 φ M H /\ forL deps g gb ws ρ M = some o,
    ⟨items.length, ρ, φ1, M1, items, rfl, rfl, Nat.zero_le _, env.step s1, .refl s1.sim, e⟩, ?_⟩
  intro i m σ2 H2 hw
  obtain ⟨ρ2, φ2, M2, ws, hm, hd, hi, env2, s2, e2⟩ := hw
  cases ws with
  | nil =>
    have hn : i = items.length := by
      have := congrArg List.length hd
      simp at this
      omega
    simp only [forL] at e2
    split at e2
    · rename_i dp
      cases e2
      refine .inl ⟨?_, q σ2 φ2 H2 (s1.trans s2) env2⟩
      rw [hn]
      exact (ok φ2 M2 H2 s2 dp).2
    · cases e2
  | cons w ws =>
    simp only [forL] at e2
    split at e2
    · rename_i dp
      obtain ⟨ρ3, e3, e2⟩ := bsome e2
      obtain ⟨o1, e4, e2⟩ := bsome e2
      have hk : items[i]? = some w := by
        have : (items.drop i)[0]? = some w := by rw [hd]; rfl
        simpa using this
      have hlt : i < items.length := (List.getElem?_eq_some_iff.mp hk).1
      have hd' : items.drop (i + 1) = ws := by
        rw [<- List.drop_drop, hd]; rfl
      obtain ⟨go, yl⟩ := (ok φ2 M2 H2 s2 dp).1 i w hk
      refine .inr ⟨go, fun σ' H' => ∃ ρ φ M, EnvR C φ M.length H' σ' ρ /\ Step C φ1 M1 H1 φ M H' /\ forL deps g gb ws ρ M = some o, fun σ' H' ⟨ρ, φ, M, h1, h2, h3⟩ => ⟨ws.length, ?_, ρ, φ, M, ws, rfl, hd', hlt, h1, h2, h3⟩, fun x H' hy => ?_⟩
      · rw [hm]; exact Nat.lt_succ_self _
      · obtain ⟨st, rx⟩ := yl x H' hy
        refine ⟨ρ2, φ2, M2, w, ρ3, env2.step st, st.sim, rx, e3, fun σ' env' _ => ⟨ρ3, φ2, M2, o1, env', st.sim, e4, ?_⟩⟩
        cases o1 with
        | nx ρ4 M4 => exact fun σ5 φ5 H5 s5 env5 => ⟨ρ4, φ5, M4, env5, s2.trans (st.trans s5), e2⟩
        | ct ρ4 M4 => exact fun σ5 φ5 H5 s5 env5 => ⟨ρ4, φ5, M4, env5, s2.trans (st.trans s5), e2⟩
        | bk ρ4 M4 => cases e2; exact fun σ5 φ5 H5 s5 env5 => q σ5 φ5 H5 (s1.trans (s2.trans (st.trans s5))) env5
        | rt w4 M4 => cases e2; exact fun σ5 φ5 H5 s5 env5 => q σ5 φ5 H5 (s1.trans (s2.trans (st.trans s5))) env5
    · cases e2
theorem q_for (hp : PassesOwn (model X.prog X.w) X.A X.env X.xe) (hc : X.calm = true) (hi : PI X tg iter (tiOf C fi)) (hg : PG X tg (tgOf C is g)) (hb : PSs X body (tsOf C gb))
    (hs : ∀ x, foldedSetIterable iter X.env x = pure x := by intro _; rfl) : PS X (.For tg iter body [] pos) (tsOf C (sFor fi g gb)) :=
  (ps_for hp hc hi hg hb hs).weak fun _ _ _ h => for_of h
def whN (c : EvT) (b : EvS) : Nat -> Ev -> Mem -> Option Out
  | 0, _, _ => none
  | k + 1, ρ, M => (c ρ M).bind fun p => if p.1 = true then (b ρ p.2).bind fun o => match o with
    | .nx ρ2 M2 => whN c b k ρ2 M2
    | .ct ρ2 M2 => whN c b k ρ2 M2
    | .bk ρ2 M2 => some (.nx ρ2 M2)
    | .rt w M2 => some (.rt w M2)
    else some (.nx ρ p.2)
theorem q_while (n : Nat) {c : Expr} {fc : EvT} (hp : PassesOwn (model X.prog X.w) X.A X.env X.xe) (hc : PT X c (ttOf C fc)) (hb : PSs X body (tsOf C gb)) : PS X (.While c body [] pos) (tsOf C (whN fc gb n)) :=
  (ps_while hp hc hb).weak fun D σ H0 ⟨ρ, φ, M, o, env, sim, e, q⟩ => by
    refine ⟨fun m σ H => ∃ ρ φ' M', EnvR C φ' M'.length H σ ρ /\ Step C φ M H0 φ' M' H /\ whN fc gb m ρ M' = some o, ⟨n, ρ, φ, M, env, .refl sim, e⟩, ?_⟩
    intro m σ2 H2 ⟨ρ2, φ2, M2, env2, s2, e2⟩
    cases m with
    | zero => cases e2
    | succ m =>
      obtain ⟨⟨k, M3⟩, e3, e2⟩ := bsome e2
      refine ⟨ρ2, φ2, M2, k, M3, env2, s2.sim, e3, fun φ3 H3 s3 => ?_⟩
      cases k with
      | false => cases e2; exact q σ2 φ3 H3 (s2.trans s3) (env2.step s3)
      | true =>
        obtain ⟨o1, e4, e2⟩ := bsome e2
        refine ⟨fun σ' H' => ∃ ρ φ' M', EnvR C φ' M'.length H' σ' ρ /\ Step C φ M H0 φ' M' H' /\ whN fc gb m ρ M' = some o, fun σ' H' h => ⟨m, Nat.lt_succ_self _, h⟩, ρ2, φ3, M3, o1, env2.step s3, s3.sim, e4, ?_⟩
        cases o1 with
        | nx ρ4 M4 => exact fun σ5 φ5 H5 s5 env5 => ⟨ρ4, φ5, M4, env5, s2.trans (s3.trans s5), e2⟩
        | ct ρ4 M4 => exact fun σ5 φ5 H5 s5 env5 => ⟨ρ4, φ5, M4, env5, s2.trans (s3.trans s5), e2⟩
        | bk ρ4 M4 => cases e2; exact fun σ5 φ5 H5 s5 env5 => q σ5 φ5 H5 (s2.trans (s3.trans s5)) env5
        | rt w4 M4 => cases e2; exact fun σ5 φ5 H5 s5 env5 => q σ5 φ5 H5 (s2.trans (s3.trans s5)) env5
def wipeW (ρ : Ev) : List Nat -> Ev
  | [] => ρ
  | v :: vs => (wipeW ρ vs).set v none
theorem EnvR.clear {φ : Nat -> Addr} {n : Nat} {H : Hp} {σ : L2.St} {ρ : Ev} (h : EnvR C φ n H σ ρ) (i : Nat) : EnvR C φ n H (σ.set i none) (ρ.set i none) := by
  refine ⟨by simp [h.1], fun j w hj => ?_⟩
  by_cases z : i = j
  · subst z
    by_cases hl : i < ρ.length
    · rw [List.getElem?_set_self hl] at hj; cases hj
    · rw [List.getElem?_eq_none (by simpa using Nat.le_of_not_lt hl)] at hj; cases hj
  · rw [List.getElem?_set_ne z] at hj
    obtain ⟨v, h1, h2⟩ := h.2 j w hj
    exact ⟨v, by rw [List.getElem?_set_ne z]; exact h1, h2⟩
theorem EnvR.wipe {φ : Nat -> Addr} {n : Nat} {H : Hp} {σ : L2.St} {ρ : Ev} (h : EnvR C φ n H σ ρ) : ∀ vs, EnvR C φ n H (wipe σ vs) (wipeW ρ vs)
  | [] => h
  | v :: vs => (EnvR.wipe h vs).clear v
theorem wipe_get (σ : L2.St) (i : Nat) : ∀ vs, (wipe σ vs)[i]? = if i ∈ vs then (if i < σ.length then some none else none) else σ[i]?
  | [] => by simp [wipe]
  | v :: vs => by
    have ih := wipe_get σ i vs
    have hl := wipe_length σ vs
    show ((wipe σ vs).set v none)[i]? = _
    by_cases z : v = i
    · subst z
      by_cases hl2 : v < σ.length
      · rw [List.getElem?_set_self (by rw [hl]; exact hl2)]
        simp [hl2]
      · rw [List.getElem?_eq_none (by simp [hl]; omega)]
        simp [hl2]
    · rw [List.getElem?_set_ne z, ih]
      have : (i ∈ v :: vs) ↔ i ∈ vs := by simp [Ne.symm z]
      simp only [this]
theorem wipe_only {vs : List Nat} {σ σ2 : L2.St} (hv : ∀ i ∈ is, i ∈ vs) (h : Only is (wipe σ vs) σ2) : wipe σ2 vs = wipe σ vs := by
  refine List.ext_getElem? fun i => ?_
  have l2 : σ2.length = σ.length := h.1.trans (wipe_length σ vs)
  rw [wipe_get, wipe_get, l2]
  by_cases z : i ∈ vs
  · simp [z]
  · have := h.2 i fun q => z (hv i q)
    rw [this, wipe_get]
    simp [z]
open Classical in
noncomputable def lcL (deps : List (Nat × MO)) (g : EvG) (t : EvT) (e : EvE) (ρ0 : Ev) (n : Nat) : List W -> Mem -> Option Mem
  | [], M => if Deps deps M then some M else none
  | w :: ws, M => if Deps deps M then (g w ρ0).bind fun ρ1 => (t ρ1 M).bind fun p => if p.1 = true then (e ρ1 p.2).bind fun y => (lstAt y.2 (.obj n)).bind fun l =>
      if l.2.length < sizeLine then lcL deps g t e ρ0 n ws (y.2.set n (.lst (l.2 ++ [y.1]))) else none
    else lcL deps g t e ρ0 n ws p.2 else none
noncomputable def eLc (fi : EvI) (g : EvG) (t : EvT) (e : EvE) (vs : List Nat) : EvE := fun ρ M => (fi ρ M).bind fun p =>
  (lcL p.1.2 g t e (wipeW ρ vs) p.2.length p.1.1 (p.2 ++ [.lst []])).bind fun M' => some (.obj p.2.length, M')
def tTrue : EvT := fun _ M => some (true, M)
theorem lc_of {ft : EvT} {fe : EvE} {vs : List Nat} (hv : ∀ i ∈ is, i ∈ vs) {σ : L2.St} {H : Hp} {Q : VK} (h : tOf C (eLc fi g ft fe vs) σ H Q) : tLc (tiOf C fi) (tgOf C is g) (ttOf C ft) (tOf C fe) vs σ H Q := by
  obtain ⟨ρ, φ, M, w, M', env, sim, e, q⟩ := h
  obtain ⟨⟨⟨items, deps⟩, M1⟩, e1, e⟩ := bsome e
  obtain ⟨Mz, e2, e⟩ := bsome e
  cases e
  refine ⟨ρ, φ, M, _, M1, env, sim, e1, fun J φ1 H1 s1 ok D nD => ?_⟩
  have s2 := Step.list (vs := []) (ws := []) s1.sim nD .nil
  generalize hφ : phi φ1 M1.length D = φ2 at s2
  have hD : φ2 M1.length = D := by rw [<- hφ]; exact phi_at
  refine ⟨fun i m Hx => ∃ φ M ws, m = ws.length /\ items.drop i = ws /\ i <= items.length /\ Step C φ2 (M1 ++ [.lst []]) (upd H1 D (.lst [])) φ M Hx /\ lcL deps g ft fe (wipeW ρ vs) M1.length ws M = some M',
    ⟨items.length, φ2, _, items, rfl, rfl, Nat.zero_le _, .refl s2.sim, e2⟩, ?_⟩
  intro i m Hx ⟨φ3, M3, ws, hm, hd, hi, s3, e3⟩
  have s13 : Step C φ1 M1 H1 φ3 M3 Hx := s2.trans s3
  have s03 : Step C φ M H φ3 M3 Hx := s1.trans s13
  have lt3 : M1.length < M3.length := by have := s3.le; simp at this; omega
  have at3 : φ3 M1.length = D := by rw [s3.ext M1.length (by simp)]; exact hD
  cases ws with
  | nil =>
    have hn : i = items.length := by
      have := congrArg List.length hd
      simp at this
      omega
    simp only [lcL] at e3
    split at e3
    · rename_i dp
      cases e3
      refine .inl ⟨by rw [hn]; exact (ok φ3 M' Hx s13 dp).2, q _ φ3 Hx s03 ?_⟩
      rw [<- at3]
      exact .obj lt3
    · cases e3
  | cons w ws =>
    simp only [lcL] at e3
    split at e3
    · rename_i dp
      obtain ⟨ρ4, e4, e3⟩ := bsome e3
      obtain ⟨⟨k, M5⟩, e5, e3⟩ := bsome e3
      have hk : items[i]? = some w := by
        have : (items.drop i)[0]? = some w := by rw [hd]; rfl
        simpa using this
      have hlt : i < items.length := (List.getElem?_eq_some_iff.mp hk).1
      have hd' : items.drop (i + 1) = ws := by
        rw [<- List.drop_drop, hd]; rfl
      obtain ⟨go, yl⟩ := (ok φ3 M3 Hx s13 dp).1 i w hk
      refine .inr ⟨go, fun H' => ∃ φ M, Step C φ2 (M1 ++ [.lst []]) (upd H1 D (.lst [])) φ M H' /\ lcL deps g ft fe (wipeW ρ vs) M1.length ws M = some M', fun H' ⟨φ, M, h1, h2⟩ => ⟨ws.length, by rw [hm]; exact Nat.lt_succ_self _, φ, M, ws, rfl, hd', hlt, h1, h2⟩, fun x H' hy => ?_⟩
      obtain ⟨st, rx⟩ := yl x H' hy
      have s0 : Step C φ M H φ3 M3 H' := s03.trans st
      refine ⟨wipeW ρ vs, φ3, M3, w, ρ4, (env.step s0).wipe vs, st.sim, rx, e4, fun σ4 env4 on4 => ⟨wipe_only hv on4, ρ4, φ3, M3, k, M5, env4, st.sim, e5, fun φ5 H5 s5 => ?_⟩⟩
      cases k with
      | false => exact ⟨φ5, M5, s3.trans (st.trans s5), e3⟩
      | true =>
        obtain ⟨⟨y, M6⟩, e6, e3⟩ := bsome e3
        obtain ⟨⟨l, acc⟩, hl, e3⟩ := bsome e3
        obtain ⟨el, hacc⟩ := lstAt_eq hl
        cases el
        split at e3
        · rename_i small
          refine ⟨ρ4, φ5, M5, y, M6, env4.step s5, s5.sim, e6, fun v φ6 H6 s6 r6 => ?_⟩
          have s26 := s3.trans (st.trans (s5.trans s6))
          obtain ⟨us, hu, ru⟩ := s6.sim.ob _ _ hacc
          have at6 : φ6 M1.length = D := by rw [s26.ext M1.length (by simp)]; exact hD
          rw [at6] at hu
          refine ⟨us, hu, by rw [ru.length]; exact small, φ6, _, s26.trans ?_, e3⟩
          have := Step.set s6.sim hacc (ru.append (.cons r6 .nil))
          rw [at6] at this
          exact this
        · cases e3
    · cases e3
theorem qts_nil : PTs X [] (ttOf C tTrue) := ⟨fun pins s σ H Q I ⟨ρ, φ, M, b, M', env, sim, e, q⟩ => by
  cases e
  exact pts_nil.run pins s σ H Q I (q φ H (.refl sim))⟩
section
variable {elt : Expr} {ifs : List Expr} {scope : Scope} {own : List (Str × Nat)} {ft : EvT} {fe : EvE}
theorem q_lc (hc : X.calm = true) (hN : X.N.Nodup) (hi : PI X tg iter (tiOf C fi)) (ok : BlkOk X.N X.env.scope scope own) (hv : ∀ i ∈ is, i ∈ own.map (·.2))
    (hg : ∀ (s : Shared) (H : Hp) (D : Addr) (cl : List (Str × Addr)) (fp : List Addr), PG (X.blk s H scope (compEnvC scope cl D X.env) fp) tg (tgOf C is g)) (ht : ∀ (s : Shared) (H : Hp) (D : Addr) (cl : List (Str × Addr)) (fp : List Addr), PTs (X.blk s H scope (compEnvC scope cl D X.env) fp) ifs (ttOf C ft))
    (he : ∀ (s : Shared) (H : Hp) (D : Addr) (cl : List (Str × Addr)) (fp : List Addr), PE (X.blk s H scope (compEnvC scope cl D X.env) fp) elt (tOf C fe)) (hs : ∀ x, foldedSetIterable iter X.env x = pure x := by intro _; rfl) :
    PE X (.ListComp elt [⟨tg, iter, ifs, 0⟩] scope pos) (tOf C (eLc fi g ft fe (own.map (·.2)))) :=
  (pe_lc hc hN hi ok hg ht he hs).weak fun _ _ _ h => lc_of hv h
theorem q_setLc {i : Nat} {y : Str} {py spos : Pos} (hc : X.calm = true) (hN : X.N.Nodup) (hy : X.N[i]? = some y) (hyl : X.env.scope.names.lookup y = some .local)
    (hsw : swapsWith (.ListComp elt [⟨tg, iter, ifs, 0⟩] scope pos) (some (.Name y py)) spos.line X.env = pure true) (hi : PI X tg iter (tiOf C fi)) (ok : BlkOk X.N X.env.scope scope own) (hv : ∀ i ∈ is, i ∈ own.map (·.2))
    (hg : ∀ (s : Shared) (H : Hp) (D : Addr) (cl : List (Str × Addr)) (fp : List Addr), PG (X.blk s H scope (compEnvC scope cl D X.env) fp) tg (tgOf C is g)) (ht : ∀ (s : Shared) (H : Hp) (D : Addr) (cl : List (Str × Addr)) (fp : List Addr), PTs (X.blk s H scope (compEnvC scope cl D X.env) fp) ifs (ttOf C ft))
    (he : ∀ (s : Shared) (H : Hp) (D : Addr) (cl : List (Str × Addr)) (fp : List Addr), PE (X.blk s H scope (compEnvC scope cl D X.env) fp) elt (tOf C fe)) (hs : ∀ x, foldedSetIterable iter X.env x = pure x := by intro _; rfl) :
    PS X (.Assign [.Name y py] (.ListComp elt [⟨tg, iter, ifs, 0⟩] scope pos) spos) (tsOf C (sSet i (eLc fi g ft fe (own.map (·.2))))) :=
  (ps_setLc hc hN hy hyl hsw hi ok hg ht he hs).weak fun D σ H ⟨ρ, φ, M, o, env, sim, e, q⟩ => by
    obtain ⟨⟨x, M1⟩, e1, e⟩ := bsome e
    cases e
    exact lc_of hv ⟨ρ, φ, M, x, M1, env, sim, e1, fun v φ1 H1 s1 r1 => q _ φ1 H1 s1 ((env.step s1).set r1 i)⟩
end
end
end Va
namespace Va
open PySem PySem.Spec PyProof.Rows L2 Sa
def oI (g : Int -> Int -> PyData) : O2 := fun a b M => (asI a).bind fun i => (asI b).bind fun j => some (.d (g i j), M)
open Classical in
noncomputable def oIc (c : Int -> Int -> Prop) (g : Int -> Int -> PyData) : O2 := fun a b M => (asI a).bind fun i => (asI b).bind fun j => if c i j then some (.d (g i j), M) else none
def oU (g : Int -> PyData) : O1 := fun a M => (asI a).bind fun i => some (.d (g i), M)
section
variable {C : Ck}
theorem vo_I {g : Int -> Int -> V} {g' : Int -> Int -> PyData} (h : ∀ K H i j, Rp K H (g i j) (g' i j)) : VO2 C (rI0 g) (oI g') := by
  intro φ M H x y a b w M' Q sim rx ry e q
  obtain ⟨i, ei, e⟩ := bsome e
  obtain ⟨j, ej, e⟩ := bsome e
  cases e
  rw [asI_eq ei] at rx
  rw [asI_eq ej] at ry
  obtain rfl := rx.isI
  obtain rfl := ry.isI
  exact ⟨i, j, rfl, rfl, q _ φ H (.refl sim) (.d (h _ _ _ _))⟩
theorem vo_Ic {c : Int -> Int -> Prop} {g : Int -> Int -> V} {g' : Int -> Int -> PyData} (h : ∀ K H i j, Rp K H (g i j) (g' i j)) : VO2 C (rI c g) (oIc c g') := by
  intro φ M H x y a b w M' Q sim rx ry e q
  obtain ⟨i, ei, e⟩ := bsome e
  obtain ⟨j, ej, e⟩ := bsome e
  split at e
  · rename_i hc
    cases e
    rw [asI_eq ei] at rx
    rw [asI_eq ej] at ry
    obtain rfl := rx.isI
    obtain rfl := ry.isI
    exact ⟨i, j, rfl, rfl, hc, q _ φ H (.refl sim) (.d (h _ _ _ _))⟩
  · cases e
abbrev oAdd : O2 := oI fun i j => .int (i + j)
abbrev oSub : O2 := oI fun i j => .int (i - j)
noncomputable abbrev oMul : O2 := oIc CMul fun i j => .int (i * j)
noncomputable abbrev oDiv : O2 := oIc CDivW fun i j => .int (i / j)
noncomputable abbrev oMod : O2 := oIc (fun _ j => 0 < j) fun i j => .int (i % j)
noncomputable abbrev oPow : O2 := oIc CPow fun i j => .int (i ^ j.toNat)
abbrev oLt : O2 := oI fun i j => .bool (decide (i < j))
abbrev oGt : O2 := oI fun i j => .bool (decide (j < i))
abbrev oGe : O2 := oI fun i j => .bool (decide (j <= i))
abbrev oNeg : O1 := oU fun i => .int (-i)
theorem vo_add : VO2 C (rI0 fun i j => .int (i + j)) oAdd := vo_I fun _ _ _ _ => .int _
theorem vo_sub : VO2 C (rI0 fun i j => .int (i - j)) oSub := vo_I fun _ _ _ _ => .int _
theorem vo_mul : VO2 C (rI CMul fun i j => .int (i * j)) oMul := vo_Ic fun _ _ _ _ => .int _
theorem vo_div : VO2 C (rI CDivW fun i j => .int (i / j)) oDiv := vo_Ic fun _ _ _ _ => .int _
theorem vo_mod : VO2 C (rI (fun _ j => 0 < j) fun i j => .int (i % j)) oMod := vo_Ic fun _ _ _ _ => .int _
theorem vo_pow : VO2 C (rI CPow fun i j => .int (i ^ j.toNat)) oPow := vo_Ic fun _ _ _ _ => .int _
theorem vo_lt : VO2 C (rI0 fun i j => .bl (decide (i < j))) oLt := vo_I fun _ _ _ _ => .bl _
theorem vo_gt : VO2 C (rI0 fun i j => .bl (decide (j < i))) oGt := vo_I fun _ _ _ _ => .bl _
theorem vo_ge : VO2 C (rI0 fun i j => .bl (decide (j <= i))) oGe := vo_I fun _ _ _ _ => .bl _
theorem vu_neg : VO1 C (rU fun i => .int (-i)) oNeg := by
  intro φ M H x a w M' Q sim rx e q
  obtain ⟨i, ei, e⟩ := bsome e
  cases e
  rw [asI_eq ei] at rx
  obtain rfl := rx.isI
  exact ⟨i, rfl, q _ φ H (.refl sim) (.d (.int _))⟩
def eqD : PyData -> PyData -> Option Bool
  | .int i, .int j => some (decide (i = j))
  | .str x, .str y => some (decide (x = y))
  | .bool x, .bool y => some (decide (x = y))
  | .tuple xs, .tuple ys => if (SeqAt.shaped (.tuple xs) && SeqAt.shaped (.tuple ys)) = true then some (PyData.eqv (.tuple xs) (.tuple ys)) else none
  | _, _ => none
def oEq : O2 := fun a b M => match a, b with
  | .d x, .d y => (eqD x y).map fun k => (.d (.bool k), M)
  | _, _ => none
def oNe : O2 := fun a b M => match a, b with
  | .d x, .d y => (eqD x y).map fun k => (.d (.bool (!k)), M)
  | _, _ => none
theorem dInt (x y : Int) : decide (V.int x = V.int y) = decide (x = y) := by simp
theorem dStr (x y : Str) : decide (V.str x = V.str y) = decide (x = y) := by simp
theorem dBl (x y : Bool) : decide (V.bl x = V.bl y) = decide (x = y) := by simp
theorem eq_both {K : PySem.W.Frag} {H : Hp} {v u : V} {x y : PyData} {k : Bool} (rx : Rp K H v x) (ry : Rp K H u y) (e : eqD x y = some k) (Q : Bool -> Prop) (q : Q k) :
    (scal v u = true /\ Q (decide (v = u))) ∨ (∃ d e, Dp K H v d /\ Dp K H u e /\ SeqAt.shaped d = true /\ SeqAt.shaped e = true /\ Q (PyData.eqv d e)) := by
  cases rx with
  | non => cases ry <;> simp [eqD] at e
  | bl b => cases ry with
    | bl c => simp only [eqD, Option.some.injEq] at e; exact .inl ⟨rfl, by rw [dBl, e]; exact q⟩
    | _ => simp [eqD] at e
  | int b => cases ry with
    | int c => simp only [eqD, Option.some.injEq] at e; exact .inl ⟨rfl, by rw [dInt, e]; exact q⟩
    | _ => simp [eqD] at e
  | str b => cases ry with
    | str c => simp only [eqD, Option.some.injEq] at e; exact .inl ⟨rfl, by rw [dStr, e]; exact q⟩
    | _ => simp [eqD] at e
  | tup s r => cases ry with
    | tup s2 r2 =>
      simp only [eqD] at e
      split at e
      · rename_i hs
        cases e
        rw [Bool.and_eq_true] at hs
        exact .inr ⟨_, _, (Rp.tup s r).dp, (Rp.tup s2 r2).dp, hs.1, hs.2, q⟩
      · cases e
    | _ => simp [eqD] at e
theorem vo_eq : VO2 C (fun x y H Q => rEq x y H Q ∨ rEqD C.K x y H Q) oEq := by
  intro φ M H x y a b w M' Q sim rx ry e q
  cases rx with
  | d rx => cases ry with
    | d ry =>
      simp only [oEq, Option.map_eq_some_iff] at e
      obtain ⟨k, ek, e⟩ := e
      cases e
      exact eq_both rx ry ek (fun k => Q (.bl k) H) (q _ φ H (.refl sim) (.d (.bl _)))
    | _ => simp [oEq] at e
  | _ => simp [oEq] at e
theorem vo_ne : VO2 C (fun x y H Q => rNe x y H Q ∨ rNeD C.K x y H Q) oNe := by
  intro φ M H x y a b w M' Q sim rx ry e q
  cases rx with
  | d rx => cases ry with
    | d ry =>
      simp only [oNe, Option.map_eq_some_iff] at e
      obtain ⟨k, ek, e⟩ := e
      cases e
      exact eq_both rx ry ek (fun k => Q (.bl (!k)) H) (q _ φ H (.refl sim) (.d (.bl _)))
    | _ => simp [oNe] at e
  | _ => simp [oNe] at e
/-- is None -/
def oIsN : O2 := fun a b M => match a, b with
  | .d .none, .d .none => some (.d (.bool true), M)
  | _, .d .none => some (.d (.bool false), M)
  | _, _ => none
theorem vo_isN : VO2 C (fun x y H Q => y = .non /\ Q (.bl (decide (x = .non))) H) oIsN := by
  intro φ M H x y a b w M' Q sim rx ry e q
  have hb : b = .d .none := by
    unfold oIsN at e
    split at e <;> first | rfl | cases e
  subst hb
  refine ⟨ry.isN, ?_⟩
  cases rx with
  | d rx => cases rx <;> (simp only [oIsN, Option.some.injEq] at e; cases e; exact q _ φ H (.refl sim) (.d (.bl _)))
  | obj h => simp only [oIsN, Option.some.injEq] at e; cases e; exact q _ φ H (.refl sim) (.d (.bl _))
  | scr => simp only [oIsN, Option.some.injEq] at e; cases e; exact q _ φ H (.refl sim) (.d (.bl _))
  | pack s r => simp only [oIsN, Option.some.injEq] at e; cases e; exact q _ φ H (.refl sim) (.d (.bl _))
  | fn h => simp only [oIsN, Option.some.injEq] at e; cases e; exact q _ φ H (.refl sim) (.d (.bl _))
def seqOf (M : Mem) (w : W) : Option (List W) := match w with
  | .obj i => match M[i]? with
    | some (.lst ws) => some ws
    | _ => none
  | w => tupOf w
theorem seq_cases {φ : Nat -> Addr} {M : Mem} {H : Hp} {v : V} {w : W} {ws : List W} (sim : Sim C φ M H) (r : Rw C φ M.length H v w) (e : seqOf M w = some ws) :
    ∃ a vs, v = .ref a /\ (SqL C.K H a vs ∨ SqT C.K H a vs) /\ RwAll C φ M.length H vs ws := by
  cases r with
  | obj h =>
    simp only [seqOf] at e
    split at e
    · rename_i ws' he
      cases e
      obtain ⟨vs, hv, r⟩ := sim.ob _ _ he
      exact ⟨_, vs, rfl, .inl (SqL.of hv), r⟩
    · cases e
  | d r =>
    obtain ⟨a, vs, rfl, s, r⟩ := (Rw.d (φ := φ) (n := M.length) r).un e
    exact ⟨a, vs, rfl, .inr s, r⟩
  | scr => cases e
  | pack s r => cases e; exact ⟨_, _, rfl, .inr s, r⟩
  | fn h => cases e
def oIx : O2 := fun a b M => (asI b).bind fun i => (seqOf M a).bind fun ws => (atI ws i).bind fun w => some (w, M)
theorem atI_rel {φ : Nat -> Addr} {n : Nat} {H : Hp} {vs : List V} {ws : List W} (r : RwAll C φ n H vs ws) {i : Int} {w : W} (e : atI ws i = some w) : ∃ v, atI vs i = some v /\ Rw C φ n H v w := by
  unfold atI at e ⊢
  obtain ⟨j, hj, e⟩ := bsome e
  obtain ⟨v, h1, h2⟩ := r.get e
  exact ⟨v, by rw [r.length, hj]; exact h1, h2⟩
theorem vo_ix : VO2 C (fun x y H Q => rIxL C.K x y H Q ∨ rIxT C.K x y H Q) oIx := by
  intro φ M H x y a b w M' Q sim rx ry e q
  obtain ⟨i, ei, e⟩ := bsome e
  obtain ⟨ws, es, e⟩ := bsome e
  obtain ⟨w2, ew, e⟩ := bsome e
  cases e
  rw [asI_eq ei] at ry
  obtain rfl := ry.isI
  obtain ⟨ad, vs, rfl, sq, r⟩ := seq_cases sim rx es
  obtain ⟨v, hv, rv⟩ := atI_rel r ew
  rcases sq with sq | sq
  · exact .inl ⟨ad, vs, i, v, rfl, rfl, sq, hv, q v φ H (.refl sim) rv⟩
  · exact .inr ⟨ad, vs, i, v, rfl, rfl, sq, hv, q v φ H (.refl sim) rv⟩
/-- the script's item -/
def oIxS (ns : List Int) : O2 := fun a b M => match a with
  | .scr => (asI b).bind fun i => (atI ns i).bind fun w => some (.d (.int w), M)
  | _ => none
theorem atI_map {α β : Type} (f : α -> β) (xs : List α) (i : Int) : atI (xs.map f) i = (atI xs i).map f := by
  unfold atI
  rw [List.length_map]
  cases ixN xs.length i with
  | none => rfl
  | some j => simp
theorem vo_ixS : VO2 C (fun x y H Q => rIxL C.K x y H Q ∨ rIxT C.K x y H Q) (oIxS C.ns) := by
  intro φ M H x y a b w M' Q sim rx ry e q
  cases rx with
  | scr =>
    obtain ⟨i, ei, e⟩ := bsome e
    obtain ⟨n, en, e⟩ := bsome e
    cases e
    rw [asI_eq ei] at ry
    obtain rfl := ry.isI
    exact .inl ⟨_, _, i, .int n, rfl, rfl, sim.scr.sq, by rw [atI_map, en]; rfl, q _ φ H (.refl sim) (.d (.int _))⟩
  | _ => simp [oIxS] at e
def cutG {α : Type} (xs : List α) (lo hi : Option Int) : List α := (xs.drop (HT.sIx xs.length 0 lo)).take (HT.sIx xs.length xs.length hi - HT.sIx xs.length 0 lo)
theorem cut_rel {φ : Nat -> Addr} {n : Nat} {H : Hp} {vs : List V} {ws : List W} (r : RwAll C φ n H vs ws) (lo hi : Option Int) : RwAll C φ n H (cutV vs lo hi) (cutG ws lo hi) := by
  unfold cutV cutG
  rw [r.length]
  exact (r.drop _).take _
end
/-- a part of a slice: a written number, or none -/
def poOf (C : Ck) (o : Option Int) : TO := fun σ H Q => Q o H
def eSlT (lo hi : Option Int) (a : EvE) : EvE := fun ρ M => (a ρ M).bind fun p => (tupOf p.1).bind fun ws => some (mkTup (cutG ws lo hi), p.2)
def eSlS (ns : List Int) (lo hi : Option Int) (a : EvE) : EvE := fun ρ M => (a ρ M).bind fun p => match p.1 with
  | .scr => some (.obj p.2.length, p.2 ++ [.lst ((cutG ns lo hi).map fun i => .d (.int i))])
  | _ => none
def eRev (a : EvE) : EvE := fun ρ M => (a ρ M).bind fun p => (tupOf p.1).bind fun ws => some (mkTup ws.reverse, p.2)
section
variable {C : Ck} {X : Cx} {a b e : Expr} {lo hi : Option Expr} {fa fb : EvE} {pos p2 : Pos} {l u : Option Int}
theorem q_ix (hK : X.K = C.K) (ha : PE X a (tOf C fa)) (hb : PE X b (tOf C fb)) (hs : PlainIx b) : PE X (.Subscript a b pos) (tOf C (eOp oIx fa fb)) :=
  (pe_ix (ix_list.or ix_tup) ha hb hs).weak fun σ H Q h => two_of (by rw [hK]; exact vo_ix) h
theorem q_ixS (hK : X.K = C.K) (ha : PE X a (tOf C fa)) (hb : PE X b (tOf C fb)) (hs : PlainIx b) : PE X (.Subscript a b pos) (tOf C (eOp (oIxS C.ns) fa fb)) :=
  (pe_ix (ix_list.or ix_tup) ha hb hs).weak fun σ H Q h => two_of (by rw [hK]; exact vo_ixS) h
theorem qo_none : PO X none (poOf C none) := ⟨fun pins s σ H Q I h => po_none.run pins s σ H Q I h⟩
theorem qo_int {i : Int} {j : Nat} {p : Pos} : PO X (some (.Constant (.int i) j p)) (poOf C (some i)) := ⟨fun pins s σ H Q I h => (po_some pe_int).run pins s σ H Q I ⟨i, rfl, h⟩⟩
theorem q_slT (hK : X.K = C.K) (he : PE X e (tOf C fa)) (hl : PO X lo (poOf C l)) (hu : PO X hi (poOf C u)) : PE X (.Subscript e (.Slice lo hi none p2) pos) (tOf C (eSlT l u fa)) :=
  (pe_slice sl_tupA he hl hu).weak fun σ H Q ⟨ρ, φ, M, w, M', env, sim, e, q⟩ => by
    obtain ⟨⟨x, M1⟩, e1, e⟩ := bsome e
    obtain ⟨ws, ew, e⟩ := bsome e
    cases e
    refine ⟨ρ, φ, M, x, _, env, sim, e1, fun v φ1 H1 s1 r1 => ?_⟩
    obtain ⟨ad, vs, rfl, sq, r⟩ := r1.un ew
    refine ⟨ad, vs, rfl, by rw [hK]; exact sq, fun h => ?_, fun h p np => ?_⟩
    · have hc : cutG ws l u = ws := by
        unfold cutG
        rw [<- r.length, h.1, h.2]
        simp [r.length]
      refine q _ φ1 H1 s1 ?_
      rw [hc]
      exact .tup sq r
    · have s2 := Step.tup (o := .tup (cutV vs l u)) s1.sim np
      exact q _ φ1 _ (s1.trans s2) (.tup (SqT.of upd_same) ((cut_rel r l u).step s2))
end
end Va
namespace Va
open PySem PySem.Spec PyProof.Rows L2 Sa
section
variable {C : Ck}
def fLen : Fn := fun as M => match as with
  | [a] => (seqOf M a).bind fun ws => some (.d (.int ws.length), M)
  | _ => none
def fLenS (ns : List Int) : Fn := fun as M => match as with
  | [.scr] => some (.d (.int ns.length), M)
  | _ => none
def fAbs : Fn := fun as M => match as with
  | [.d (.int i)] => some (.d (.int (if i < 0 then -i else i)), M)
  | _ => none
def fMax2 : Fn := fun as M => match as with
  | [.d (.int i), .d (.int j)] => some (.d (.int (if j > i then j else i)), M)
  | _ => none
def fMin2 : Fn := fun as M => match as with
  | [.d (.int i), .d (.int j)] => some (.d (.int (if j < i then j else i)), M)
  | _ => none
def fInt : Fn := fun as M => match as with
  | [.d (.int i)] => some (.d (.int i), M)
  | [.d (.bool k)] => some (.d (.int (if k then 1 else 0)), M)
  | _ => none
def fTuple : Fn := fun as M => match as with
  | [.obj i] => (lstAt M (.obj i)).bind fun l => some (mkTup l.2, M)
  | [a] => (tupOf a).bind fun ws => some (mkTup ws, M)
  | _ => none
theorem two_args {φ : Nat -> Addr} {n : Nat} {H : Hp} {xs : List V} {a b : W} (r : RwAll C φ n H xs [a, b]) : ∃ x y, xs = [x, y] /\ Rw C φ n H x a /\ Rw C φ n H y b := by
  cases r with | cons r1 r => cases r with | cons r2 r => cases r; exact ⟨_, _, rfl, r1, r2⟩
theorem one_arg {φ : Nat -> Addr} {n : Nat} {H : Hp} {xs : List V} {a : W} (r : RwAll C φ n H xs [a]) : ∃ x, xs = [x] /\ Rw C φ n H x a := by
  cases r with | cons r1 r => cases r; exact ⟨_, rfl, r1⟩
theorem vc_len : VC C (fun xs H Q => ∃ p ys, xs = [.ref p] /\ (SqL C.K H p ys ∨ SqT C.K H p ys) /\ Q (.int ys.length) H) fLen := by
  intro φ M H xs as w M' Q sim r e q
  unfold fLen at e
  split at e
  · obtain ⟨ws, es, e⟩ := bsome e
    cases e
    obtain ⟨x, rfl, r1⟩ := one_arg r
    obtain ⟨a, vs, rfl, sq, r2⟩ := seq_cases sim r1 es
    refine ⟨a, vs, rfl, sq, q _ φ H (.refl sim) ?_⟩
    rw [r2.length]
    exact .d (.int _)
  · cases e
theorem vc_lenS : VC C (fun xs H Q => ∃ p ys, xs = [.ref p] /\ (SqL C.K H p ys ∨ SqT C.K H p ys) /\ Q (.int ys.length) H) (fLenS C.ns) := by
  intro φ M H xs as w M' Q sim r e q
  unfold fLenS at e
  split at e
  · cases e
    obtain ⟨x, rfl, r1⟩ := one_arg r
    cases r1
    refine ⟨_, _, rfl, .inl sim.scr.sq, q _ φ H (.refl sim) ?_⟩
    rw [List.length_map]
    exact .d (.int _)
  · cases e
theorem vc_abs : VC C (fun xs H Q => ∃ i, xs = [.int i] /\ Q (.int (if i < 0 then -i else i)) H) fAbs := by
  intro φ M H xs as w M' Q sim r e q
  unfold fAbs at e
  split at e
  · cases e
    obtain ⟨x, rfl, r1⟩ := one_arg r
    obtain rfl := r1.isI
    exact ⟨_, rfl, q _ φ H (.refl sim) (.d (.int _))⟩
  · cases e
theorem vc_max2 : VC C (fun xs H Q => ∃ i j, xs = [.int i, .int j] /\ Q (.int (if j > i then j else i)) H) fMax2 := by
  intro φ M H xs as w M' Q sim r e q
  unfold fMax2 at e
  split at e
  · cases e
    obtain ⟨x, y, rfl, r1, r2⟩ := two_args r
    obtain rfl := r1.isI
    obtain rfl := r2.isI
    exact ⟨_, _, rfl, q _ φ H (.refl sim) (.d (.int _))⟩
  · cases e
theorem vc_min2 : VC C (fun xs H Q => ∃ i j, xs = [.int i, .int j] /\ Q (.int (if j < i then j else i)) H) fMin2 := by
  intro φ M H xs as w M' Q sim r e q
  unfold fMin2 at e
  split at e
  · cases e
    obtain ⟨x, y, rfl, r1, r2⟩ := two_args r
    obtain rfl := r1.isI
    obtain rfl := r2.isI
    exact ⟨_, _, rfl, q _ φ H (.refl sim) (.d (.int _))⟩
  · cases e
theorem vc_int : VC C (fun xs H Q => (∃ i, xs = [.int i] /\ Q (.int i) H) ∨ ∃ k, xs = [.bl k] /\ Q (.int (if k then 1 else 0)) H) fInt := by
  intro φ M H xs as w M' Q sim r e q
  unfold fInt at e
  split at e
  · cases e
    obtain ⟨x, rfl, r1⟩ := one_arg r
    obtain rfl := r1.isI
    exact .inl ⟨_, rfl, q _ φ H (.refl sim) (.d (.int _))⟩
  · cases e
    obtain ⟨x, rfl, r1⟩ := one_arg r
    obtain rfl := r1.isB
    exact .inr ⟨_, rfl, q _ φ H (.refl sim) (.d (.int _))⟩
  · cases e
theorem vc_tuple : VC C (fun xs H Q => ∃ p ys, xs = [.ref p] /\ ((SqL C.K H p ys /\ ∀ l, H l = none -> Q (.ref l) (upd H l (.tup ys))) ∨ (SqT C.K H p ys /\ Q (.ref p) H))) fTuple := by
  intro φ M H xs as w M' Q sim r e q
  unfold fTuple at e
  split at e
  · obtain ⟨⟨i, ws⟩, es, e⟩ := bsome e
    cases e
    obtain ⟨x, rfl, r1⟩ := one_arg r
    obtain ⟨e1, e2⟩ := lstAt_eq es
    cases e1
    obtain ⟨rfl, _⟩ := r1.isO
    obtain ⟨vs, hv, r2⟩ := sim.ob _ _ e2
    refine ⟨_, vs, rfl, .inl ⟨SqL.of hv, fun l nl => ?_⟩⟩
    have s2 := Step.tup (o := .tup vs) sim nl
    exact q _ φ _ s2 (.tup (SqT.of upd_same) (r2.step s2))
  · obtain ⟨ws, es, e⟩ := bsome e
    cases e
    obtain ⟨x, rfl, r1⟩ := one_arg r
    obtain ⟨a, vs, rfl, sq, r2⟩ := r1.un es
    exact ⟨a, vs, rfl, .inr ⟨sq, q _ φ H (.refl sim) (.tup sq r2)⟩⟩
  · cases e
/-- ints, bools of values -/
def intsOf : List W -> Option (List Int)
  | [] => some []
  | w :: ws => (asI w).bind fun i => (intsOf ws).bind fun is => some (i :: is)
def boolsOf : List W -> Option (List Bool)
  | [] => some []
  | w :: ws => (asB w).bind fun i => (boolsOf ws).bind fun is => some (i :: is)
theorem intsOf_rel {φ : Nat -> Addr} {n : Nat} {H : Hp} : ∀ {vs : List V} {ws : List W} {is : List Int}, RwAll C φ n H vs ws -> intsOf ws = some is -> vs = is.map V.int
  | _, _, _, .nil, e => by cases e; rfl
  | _, _, _, .cons a r, e => by
    obtain ⟨i, h1, e⟩ := bsome e
    obtain ⟨is, h2, e⟩ := bsome e
    cases e
    rw [asI_eq h1] at a
    rw [a.isI, intsOf_rel r h2]
    rfl
def maxI : List Int -> Int
  | [] => 0
  | [n] => n
  | n :: m :: r => if maxI (m :: r) > n then maxI (m :: r) else n
theorem maxI_top : ∀ (ns : List Int), ns ≠ [] -> maxI ns ∈ ns /\ ∀ y ∈ ns, y <= maxI ns
  | [], h => absurd rfl h
  | [n], _ => by simp [maxI]
  | n :: m :: r, _ => by
    obtain ⟨h1, h2⟩ := maxI_top (m :: r) (by simp)
    unfold maxI
    split
    · rename_i z
      refine ⟨List.mem_cons_of_mem _ h1, fun y hy => ?_⟩
      rcases List.mem_cons.mp hy with rfl | hy
      · omega
      · exact h2 y hy
    · rename_i z
      refine ⟨List.mem_cons_self, fun y hy => ?_⟩
      rcases List.mem_cons.mp hy with rfl | hy
      · omega
      · have := h2 y hy; omega
theorem maxI_one {ns : List Int} {m : Int} (hm : m ∈ ns) (top : ∀ y ∈ ns, y <= m) : maxI ns = m := by
  obtain ⟨h1, h2⟩ := maxI_top ns (List.ne_nil_of_mem hm)
  exact Int.le_antisymm (top _ h1) (h2 _ hm)
def fMaxL : Fn := fun as M => match as with
  | [a] => (lstAt M a).bind fun l => (intsOf l.2).bind fun is => if is = [] then none else some (.d (.int (maxI is)), M)
  | _ => none
theorem vc_maxL : VC C (rMax C.K) fMaxL := by
  intro φ M H xs as w M' Q sim r e q
  unfold fMaxL at e
  split at e
  · obtain ⟨⟨i, ws⟩, es, e⟩ := bsome e
    obtain ⟨is, ei, e⟩ := bsome e
    split at e
    · cases e
    · rename_i ne
      cases e
      obtain ⟨x, rfl, r1⟩ := one_arg r
      obtain ⟨e1, e2⟩ := lstAt_eq es
      subst e1
      obtain ⟨rfl, _⟩ := r1.isO
      obtain ⟨vs, hv, r2⟩ := sim.ob _ _ e2
      have := intsOf_rel r2 ei
      subst this
      refine ⟨_, is, rfl, SqL.of hv, List.length_pos_iff.mpr ne, fun m hm top => q _ φ H (.refl sim) ?_⟩
      rw [maxI_one hm top]
      exact .d (.int _)
  · cases e
def fAll : Fn := fun as M => match as with
  | [a] => (lstAt M a).bind fun l => (boolsOf l.2).bind fun is => some (.d (.bool (is.all id)), M)
  | _ => none
def fSum : Fn := fun as M => match as with
  | [a] => (lstAt M a).bind fun l => (intsOf l.2).bind fun is => some (.d (.int is.sum), M)
  | _ => none
/-- list + list -/
def oCat : O2 := fun a b M => (lstAt M a).bind fun l => (lstAt M b).bind fun k => if l.2.length + k.2.length <= sizeLine then some (.obj M.length, M ++ [.lst (l.2 ++ k.2)]) else none
theorem vo_cat : VO2 C rCat oCat := by
  intro φ M H x y a b w M' Q sim rx ry e q
  obtain ⟨⟨i, ws⟩, e1, e⟩ := bsome e
  obtain ⟨⟨j, us⟩, e2, e⟩ := bsome e
  split at e
  · rename_i small
    cases e
    obtain ⟨h1, h2⟩ := lstAt_eq e1
    obtain ⟨h3, h4⟩ := lstAt_eq e2
    subst h1 h3
    obtain ⟨rfl, _⟩ := rx.isO
    obtain ⟨rfl, _⟩ := ry.isO
    obtain ⟨vs, hv, r1⟩ := sim.ob _ _ h2
    obtain ⟨vs2, hv2, r2⟩ := sim.ob _ _ h4
    exact ⟨_, _, vs, vs2, rfl, rfl, hv, hv2, by rw [r1.length, r2.length]; exact small, fun p np => q _ _ _ (.list sim np (r1.append r2)) .new⟩
  · cases e
end
def iSeq (a : EvE) : EvI := fun ρ M => (a ρ M).bind fun p => match p.1 with
  | .obj i => (lstAt p.2 (.obj i)).bind fun l => some ((l.2, [(i, .lst l.2)]), p.2)
  | w => (tupOf w).bind fun ws => some ((ws, []), p.2)
def InR (j : Int) : Prop := -(2 ^ 62) <= j /\ j < 2 ^ 62
theorem InR.of {j : Int} (h0 : -1000000000 <= j) (h1 : j <= 1000000000) : InR j := ⟨Int.le_trans (by decide) h0, Int.lt_of_le_of_lt h1 (by decide)⟩
open Classical in
noncomputable def iRange1 (a : EvA) : EvI := fun ρ M => (a ρ M).bind fun p => match p.1 with
  | [.d (.int j)] => if InR j then some (((List.range j.toNat).map fun (k : Nat) => .d (.int (0 + k)), []), p.2) else none
  | _ => none
open Classical in
noncomputable def iRange2 (a : EvA) : EvI := fun ρ M => (a ρ M).bind fun p => match p.1 with
  | [.d (.int i), .d (.int j)] => if InR i /\ InR j then some (((List.range (j - i).toNat).map fun (k : Nat) => .d (.int (i + k)), []), p.2) else none
  | _ => none
/-- a sequence with what must stay -/
def srcOf (M : Mem) (w : W) : Option (List W × List (Nat × MO)) := match w with
  | .obj i => (lstAt M (.obj i)).bind fun l => some (l.2, [(i, .lst l.2)])
  | w => (tupOf w).bind fun ws => some (ws, [])
def zip3W : List W -> List W -> List W -> List W
  | x :: xs, y :: ys, z :: zs => mkTup [x, y, z] :: zip3W xs ys zs
  | _, _, _ => []
def iZip3W (a : EvA) : EvI := fun ρ M => (a ρ M).bind fun p => match p.1 with
  | [x, y, z] => (srcOf p.2 x).bind fun s1 => (srcOf p.2 y).bind fun s2 => (srcOf p.2 z).bind fun s3 =>
    if s1.1.length = s2.1.length /\ s1.1.length = s3.1.length then some ((zip3W s1.1 s2.1 s3.1, s1.2 ++ s2.2 ++ s3.2), p.2) else none
  | _ => none
def zip2W : List W -> List W -> List W
  | x :: xs, y :: ys => mkTup [x, y] :: zip2W xs ys
  | _, _ => []
def enumW : Nat -> List W -> List W
  | _, [] => []
  | k, x :: xs => mkTup [.d (.int k), x] :: enumW (k + 1) xs
def iEnumW (a : EvA) : EvI := fun ρ M => (a ρ M).bind fun p => match p.1 with
  | [x] => (srcOf p.2 x).bind fun s1 => some ((enumW 0 s1.1, s1.2), p.2)
  | _ => none
section
variable {C : Ck} {X : Cx} {tg e a : Expr} {fa : EvE} {fs : EvA} {pos p : Pos}
theorem _root_.L2.PI.or {t t' : TI} (h : PI X tg e t) (h' : PI X tg e t') : PI X tg e (fun σ H R => t σ H R ∨ t' σ H R) := ⟨fun pins s σ H R I q => by
  rcases q with q | q
  · exact h.run pins s σ H R I q
  · exact h'.run pins s σ H R I q⟩
theorem ItOk.walk {J : It} {n : Nat} {G : Hp -> Prop} {Y : Nat -> Hp -> V -> Hp -> Prop} {items : List W} {deps : List (Nat × MO)} {φ0 : Nat -> Addr} {M0 : Mem} {H0 : Hp} (w : Walk J n G Y) (hn : items.length = n)
    (hG : ∀ φ M H, Step C φ0 M0 H0 φ M H -> Deps deps M -> G H)
    (hY : ∀ φ M H, Step C φ0 M0 H0 φ M H -> Deps deps M -> ∀ (k : Nat) (w : W) (x : V) (H' : Hp), items[k]? = some w -> Y k H x H' -> Step C φ M H φ M H' /\ Rw C φ M.length H' x w) : ItOk C J items deps φ0 M0 H0 := by
  intro φ M H s d
  refine ⟨fun k w' hk => ?_, by rw [hn]; exact w.stops H (hG φ M H s d)⟩
  have hl : k < n := by rw [<- hn]; exact (List.getElem?_eq_some_iff.mp hk).1
  exact ⟨w.goes k H hl (hG φ M H s d), fun x H' y => hY φ M H s d k w' x H' hk (w.yields k H x H' hl (hG φ M H s d) y)⟩
theorem ItOk.list {φ0 : Nat -> Addr} {M0 : Mem} {H0 : Hp} {i : Nat} {ws : List W} (sim : Sim C φ0 M0 H0) (e : M0[i]? = some (.lst ws)) : ∃ vs, H0 (φ0 i) = some (.lst vs) /\ ItOk C (Itl C.K (φ0 i)) ws [(i, .lst ws)] φ0 M0 H0 := by
  obtain ⟨vs0, h0, r0⟩ := sim.ob _ _ e
  have hi : i < M0.length := (List.getElem?_eq_some_iff.mp e).1
  refine ⟨vs0, h0, fun φ M H s d => ?_⟩
  have em : M[i]? = some (.lst ws) := Deps.one.mp d
  obtain ⟨vs, hv, r⟩ := s.sim.ob _ _ em
  rw [s.ext i hi] at hv
  have w := walk_list (K := C.K) (a := φ0 i) (xs := vs)
  refine ⟨fun k w' hk => ?_, by rw [<- r.length]; exact w.stops H (SqL.of hv)⟩
  have hl : k < vs.length := by rw [r.length]; exact (List.getElem?_eq_some_iff.mp hk).1
  refine ⟨w.goes k H hl (SqL.of hv), fun x H' y => ?_⟩
  obtain ⟨rfl, hx⟩ := w.yields k H x H' hl (SqL.of hv) y
  obtain ⟨w2, h2, r2⟩ := r.get' hx
  rw [hk] at h2
  cases h2
  exact ⟨.refl s.sim, r2⟩
theorem ItOk.tup {φ0 : Nat -> Addr} {M0 : Mem} {H0 : Hp} {ad : Addr} {vs : List V} {ws : List W} (sq : SqT C.K H0 ad vs) (r : RwAll C φ0 M0.length H0 vs ws) : ItOk C (Itt C.K ad) ws [] φ0 M0 H0 :=
  ItOk.walk walk_tup r.length.symm (fun φ M H s _ => s.keep _ _ sq) fun φ M H s _ k w x H' hk ⟨eH, hx⟩ => by
    subst eH
    obtain ⟨w2, h2, r2⟩ := (r.step s).get' hx
    rw [hk] at h2
    cases h2
    exact ⟨.refl s.sim, r2⟩
theorem qi_seq (hK : X.K = C.K) (he : PE X e (tOf C fa)) : PI X tg e (tiOf C (iSeq fa)) :=
  ((pi_list he).or (pi_tup he)).weak fun σ H R ⟨ρ, φ, M, s, M', env, sim, e, q⟩ => by
    obtain ⟨⟨w, M1⟩, e1, e⟩ := bsome e
    simp only at e
    split at e
    · rename_i i
      obtain ⟨⟨i', ws⟩, el, e⟩ := bsome e
      cases e
      obtain ⟨e2, e3⟩ := lstAt_eq el
      cases e2
      refine .inl ⟨ρ, φ, M, _, _, env, sim, e1, fun v φ1 H1 s1 r1 => ?_⟩
      obtain ⟨rfl, _⟩ := r1.isO
      obtain ⟨vs, hv, ok⟩ := ItOk.list s1.sim e3
      exact ⟨_, rfl, ⟨vs, SqL.of hv⟩, by rw [hK]; exact q _ φ1 H1 s1 ok⟩
    · obtain ⟨ws, el, e⟩ := bsome e
      cases e
      refine .inr ⟨ρ, φ, M, _, _, env, sim, e1, fun v φ1 H1 s1 r1 => ?_⟩
      obtain ⟨ad, vs, rfl, sq, r⟩ := r1.un el
      exact ⟨ad, rfl, ⟨vs, by rw [hK]; exact sq⟩, by rw [hK]; exact q _ φ1 H1 s1 (.tup sq r)⟩
theorem ItOk.range {φ0 : Nat -> Addr} {M0 : Mem} {H0 : Hp} {lo : Int} {n : Nat} : ItOk C (Itr lo n) ((List.range n).map fun (k : Nat) => .d (.int (lo + k))) [] φ0 M0 H0 :=
  ItOk.walk walk_range (by simp) (fun _ _ _ _ _ => trivial) fun φ M H s _ k w x H' hk ⟨eH, hx⟩ => by
    subst eH hx
    rw [List.getElem?_map] at hk
    obtain ⟨j, hj, rfl⟩ := Option.map_eq_some_iff.mp hk
    have := List.getElem?_eq_some_iff.mp hj
    obtain ⟨_, h2⟩ := this
    rw [List.getElem_range] at h2
    subst h2
    exact ⟨.refl s.sim, .d (.int _)⟩
theorem qi_range1 (hg : Gl X "range") (hm : X.mg "range" = none) (ha : PA X [a] (taOf C fs)) (hs : starEach [a] X.env = [(false, eval a X.env)] := by rfl) : PI X tg (.Call (.Name "range" p) [a] [] pos) (tiOf C (iRange1 fs)) :=
  (pi_range1 hg hm ha hs).weak fun σ H R ⟨ρ, φ, M, s, M', env, sim, e, q⟩ => by
    obtain ⟨⟨ws, M1⟩, e1, e⟩ := bsome e
    simp only at e
    split at e
    · rename_i j
      split at e
      · rename_i hj
        cases e
        refine ⟨ρ, φ, M, _, _, env, sim, e1, fun v φ1 H1 s1 r1 => ?_⟩
        obtain ⟨x, rfl, rx⟩ := one_arg r1
        obtain rfl := rx.isI
        exact ⟨j, rfl, hj.1, hj.2, q _ φ1 H1 s1 .range⟩
      · cases e
    · cases e
/-- a source stands, and goes on standing -/
theorem src_rel {φ : Nat -> Addr} {M : Mem} {H : Hp} {v : V} {w : W} {s : List W × List (Nat × MO)} (sim : Sim C φ M H) (r : Rw C φ M.length H v w) (e : srcOf M w = some s) :
    ∃ b ad vs, v = .ref ad /\ SqB C.K H b ad vs /\ RwAll C φ M.length H vs s.1 /\ ∀ φ' M' H', Step C φ M H φ' M' H' -> Deps s.2 M' -> ∃ vs', SqB C.K H' b ad vs' /\ RwAll C φ' M'.length H' vs' s.1 := by
  unfold srcOf at e
  split at e
  · rename_i i
    obtain ⟨⟨i', ws⟩, el, e⟩ := bsome e
    cases e
    obtain ⟨e2, e3⟩ := lstAt_eq el
    cases e2
    obtain ⟨rfl, hi⟩ := r.isO
    obtain ⟨vs, hv, r⟩ := sim.ob _ _ e3
    refine ⟨true, _, vs, rfl, SqL.of hv, r, fun φ' M' H' st d => ?_⟩
    obtain ⟨vs', hv', r'⟩ := st.sim.ob _ _ (Deps.one.mp d)
    rw [st.ext _ hi] at hv'
    exact ⟨vs', SqL.of hv', r'⟩
  · obtain ⟨ws, el, e⟩ := bsome e
    cases e
    obtain ⟨ad, vs, rfl, sq, r⟩ := r.un el
    exact ⟨false, ad, vs, rfl, sq, r, fun φ' M' H' st _ => ⟨vs, st.keep _ _ sq, r.step st⟩⟩
theorem zip3W_get : ∀ (xs ys zs : List W) (k : Nat) (w : W), (zip3W xs ys zs)[k]? = some w -> ∃ x y z, xs[k]? = some x /\ ys[k]? = some y /\ zs[k]? = some z /\ w = mkTup [x, y, z]
  | x :: xs, y :: ys, z :: zs, 0, w, e => by simp [zip3W] at e; subst e; exact ⟨x, y, z, rfl, rfl, rfl, rfl⟩
  | x :: xs, y :: ys, z :: zs, k + 1, w, e => by
    obtain ⟨a, b, c, h1, h2, h3, h4⟩ := zip3W_get xs ys zs k w (by simpa [zip3W] using e)
    exact ⟨a, b, c, by simpa using h1, by simpa using h2, by simpa using h3, h4⟩
  | [], _, _, _, _, e => by simp [zip3W] at e
  | _ :: _, [], _, _, _, e => by simp [zip3W] at e
  | _ :: _, _ :: _, [], _, _, e => by simp [zip3W] at e
theorem zip3W_length : ∀ (xs ys zs : List W), xs.length = ys.length -> xs.length = zs.length -> (zip3W xs ys zs).length = xs.length
  | [], [], [], _, _ => rfl
  | x :: xs, y :: ys, z :: zs, h1, h2 => by simp only [zip3W, List.length_cons]; rw [zip3W_length xs ys zs (by simpa using h1) (by simpa using h2)]
  | [], _ :: _, _, h, _ => by simp at h
  | _ :: _, [], _, h, _ => by simp at h
  | [], [], _ :: _, _, h => by simp at h
  | _ :: _, _ :: _, [], _, h => by simp at h
theorem Deps.left {a b : List (Nat × MO)} {M : Mem} (h : Deps (a ++ b) M) : Deps a M := fun p hp => h p (List.mem_append_left _ hp)
theorem Deps.right {a b : List (Nat × MO)} {M : Mem} (h : Deps (a ++ b) M) : Deps b M := fun p hp => h p (List.mem_append_right _ hp)
theorem qi_zip3 {e1 e2 e3 : Expr} {elts : List Expr} {kk : Nat} {tpos : Pos} (hK : X.K = C.K) (h : PI X (.Tuple elts kk tpos) (.Call (.Name "zip" p) [e1, e2, e3] [] pos) (iZip3 X.K (taOf C fs))) : PI X (.Tuple elts kk tpos) (.Call (.Name "zip" p) [e1, e2, e3] [] pos) (tiOf C (iZip3W fs)) :=
  h.weak fun σ H R ⟨ρ, φ, M, s, M', env, sim, e, q⟩ => by
    obtain ⟨⟨ws, M1⟩, ea, e⟩ := bsome e
    simp only at e
    split at e
    · rename_i x y z
      obtain ⟨s1, f1, e⟩ := bsome e
      obtain ⟨s2, f2, e⟩ := bsome e
      obtain ⟨s3, f3, e⟩ := bsome e
      split at e
      · rename_i hl
        cases e
        refine ⟨ρ, φ, M, _, _, env, sim, ea, fun v φ1 H1 st r1 => ?_⟩
        cases r1 with | cons r1 r => cases r with | cons r2 r => cases r with | cons r3 r =>
        cases r
        obtain ⟨b1, a1, v1, rfl, q1, w1, k1⟩ := src_rel st.sim r1 f1
        obtain ⟨b2, a2, v2, rfl, q2, w2, k2⟩ := src_rel st.sim r2 f2
        obtain ⟨b3, a3, v3, rfl, q3, w3, k3⟩ := src_rel st.sim r3 f3
        refine ⟨a1, a2, a3, b1, b2, b3, v1, v2, v3, rfl, by rw [hK]; exact q1, by rw [hK]; exact q2, by rw [hK]; exact q3, q _ φ1 H1 st ?_⟩
        rw [hK]
        intro φ2 M2 H2 s2' d
        obtain ⟨u1, t1, g1⟩ := k1 φ2 M2 H2 s2' d.left.left
        obtain ⟨u2, t2, g2⟩ := k2 φ2 M2 H2 s2' d.left.right
        obtain ⟨u3, t3, g3⟩ := k3 φ2 M2 H2 s2' d.right
        have l2 : u1.length = u2.length := by rw [g1.length, g2.length]; exact hl.1
        have l3 : u1.length = u3.length := by rw [g1.length, g3.length]; exact hl.2
        have w := walk_zip3 (K := C.K) (b1 := b1) (b2 := b2) (b3 := b3) (a1 := a1) (a2 := a2) (a3 := a3) l2 l3
        have lz : (zip3W s1.1 s2.1 s3.1).length = u1.length := by rw [zip3W_length _ _ _ hl.1 hl.2, g1.length]
        refine ⟨fun k w' hk => ?_, by rw [lz]; exact w.stops H2 ⟨t1, t2, t3⟩⟩
        have hlt : k < u1.length := by rw [<- lz]; exact (List.getElem?_eq_some_iff.mp hk).1
        refine ⟨w.goes k H2 hlt ⟨t1, t2, t3⟩, fun x H' y => ?_⟩
        obtain ⟨T, x1, x2, x3, rfl, nT, rfl, i1, i2, i3⟩ := w.yields k H2 x H' hlt ⟨t1, t2, t3⟩ y
        obtain ⟨z1, z2, z3, j1, j2, j3, rfl⟩ := zip3W_get _ _ _ _ _ hk
        have s3' := Step.tup (o := .tup [x1, x2, x3]) s2'.sim nT
        obtain ⟨m1, n1, o1⟩ := g1.get' i1
        obtain ⟨m2, n2, o2⟩ := g2.get' i2
        obtain ⟨m3, n3, o3⟩ := g3.get' i3
        rw [j1] at n1; cases n1
        rw [j2] at n2; cases n2
        rw [j3] at n3; cases n3
        exact ⟨s3', .tup (SqT.of upd_same) ((RwAll.cons o1 (.cons o2 (.cons o3 .nil))).step s3')⟩
      · cases e
    · cases e
end
end Va
namespace Va
open PySem PySem.Spec PyProof.Rows L2 Sa
/-- o.extend(e) -/
def sExt (o e : EvE) : EvE := fun ρ M => (o ρ M).bind fun q => (lstAt q.2 q.1).bind fun _ => (e ρ q.2).bind fun p => (lstAt p.2 q.1).bind fun l => (lstAt p.2 p.1).bind fun k => if l.2.length + k.2.length <= sizeLine then some (.d .none, p.2.set l.1 (.lst (l.2 ++ k.2))) else none
section
variable {C : Ck} {X : Cx} {o e : Expr} {fo fe : EvE} {apos cpos p : Pos} {x : Str} {k : Nat}
theorem q_app (hK : X.K = C.K) (h : PE X (.Call (.Attribute o "append" apos) [e] [] cpos) (tBM X.K "list" rAppend (tOf C fo) (tCons (tOf C fe) tNil))) :
    PE X (.Call (.Attribute o "append" apos) [e] [] cpos) (tOf C (sApp fo fe)) :=
  h.weak fun σ H Q ⟨ρ, φ, M, w, M', env, sim, e, q⟩ => by
    obtain ⟨⟨wo, M1⟩, e1, e⟩ := bsome e
    obtain ⟨⟨i1, ws1⟩, hl1, e⟩ := bsome e
    obtain ⟨⟨we, M2⟩, e2, e⟩ := bsome e
    obtain ⟨⟨i, ws⟩, el, e⟩ := bsome e
    split at e
    · rename_i small
      cases e
      obtain ⟨h1, h2⟩ := lstAt_eq el
      simp only at h1 h2 small
      subst h1
      obtain ⟨h3, h4⟩ := lstAt_eq hl1
      cases h3
      refine ⟨ρ, φ, M, _, M1, env, sim, e1, fun v φ1 H1 s1 r1 => ?_⟩
      obtain ⟨rfl, hi⟩ := r1.isO
      obtain ⟨vs1, hv1, _⟩ := s1.sim.ob _ _ h4
      refine ⟨.inl ⟨rfl, vs1, SqL.of hv1⟩, ρ, φ1, M1, we, M2, env.step s1, s1.sim, e2, fun v2 φ2 H2 s2 r2 => ?_⟩
      obtain ⟨vs, hv, r⟩ := s2.sim.ob _ _ h2
      rw [s2.ext _ hi] at hv
      refine ⟨_, vs, v2, rfl, rfl, hv, by rw [r.length]; exact small, ?_⟩
      have s3 := Step.set s2.sim h2 (r.append (.cons r2 .nil))
      rw [s2.ext _ hi] at s3
      exact q _ φ2 _ (s1.trans (s2.trans s3)) (.d .non)
    · cases e
theorem q_ext (hK : X.K = C.K) (h : PE X (.Call (.Attribute o "extend" apos) [e] [] cpos) (tBM X.K "list" rExtend (tOf C fo) (tCons (tOf C fe) tNil))) :
    PE X (.Call (.Attribute o "extend" apos) [e] [] cpos) (tOf C (sExt fo fe)) :=
  h.weak fun σ H Q ⟨ρ, φ, M, w, M', env, sim, e, q⟩ => by
    obtain ⟨⟨wo, M1⟩, e1, e⟩ := bsome e
    obtain ⟨⟨i1, ws1⟩, hl1, e⟩ := bsome e
    obtain ⟨⟨we, M2⟩, e2, e⟩ := bsome e
    obtain ⟨⟨i, ws⟩, el, e⟩ := bsome e
    obtain ⟨⟨j, us⟩, ek, e⟩ := bsome e
    split at e
    · rename_i small
      cases e
      obtain ⟨h1, h2⟩ := lstAt_eq el
      obtain ⟨h5, h6⟩ := lstAt_eq ek
      simp only at h1 h2 h5 h6 small
      subst h1 h5
      obtain ⟨h3, h4⟩ := lstAt_eq hl1
      cases h3
      refine ⟨ρ, φ, M, _, M1, env, sim, e1, fun v φ1 H1 s1 r1 => ?_⟩
      obtain ⟨rfl, hi⟩ := r1.isO
      obtain ⟨vs1, hv1, _⟩ := s1.sim.ob _ _ h4
      refine ⟨.inl ⟨rfl, vs1, SqL.of hv1⟩, ρ, φ1, M1, _, M2, env.step s1, s1.sim, e2, fun v2 φ2 H2 s2 r2 => ?_⟩
      obtain ⟨rfl, hj⟩ := r2.isO
      obtain ⟨vs, hv, r⟩ := s2.sim.ob _ _ h2
      obtain ⟨us', hu, ru⟩ := s2.sim.ob _ _ h6
      rw [s2.ext _ hi] at hv
      refine ⟨_, _, vs, us', rfl, rfl, hv, hu, by rw [r.length, ru.length]; exact small, ?_⟩
      have s3 := Step.set s2.sim h2 (r.append ru)
      rw [s2.ext _ hi] at s3
      exact q _ φ2 _ (s1.trans (s2.trans s3)) (.d .non)
    · cases e
/-- tuple(x[k] for x in e) -/
def itemsAt (k : Nat) : List W -> Option (List W)
  | [] => some []
  | w :: ws => (tupOf w).bind fun us => (us[k]?).bind fun u => (itemsAt k ws).bind fun r => some (u :: r)
def eTupIx (k : Nat) (a : EvE) : EvE := fun ρ M => (a ρ M).bind fun p => (seqOf p.2 p.1).bind fun ws => (itemsAt k ws).bind fun us => if us.length <= sizeLine then some (mkTup us, p.2) else none
/-- max(abs(x) for x in e) -/
def eMaxAbs (a : EvE) : EvE := fun ρ M => (a ρ M).bind fun p => (seqOf p.2 p.1).bind fun ws => (intsOf ws).bind fun is => if is = [] then none else if is.length <= sizeLine then some (.d (.int (maxI (is.map fun n => if n < 0 then -n else n))), p.2) else none
/-- all(x == (False, 0) for x in e) -/
def blanks : List W -> Option (List Bool)
  | [] => some []
  | .d (.tuple [.bool b, .int n]) :: ws => (blanks ws).bind fun r => some (PyData.eqv (.tuple [.bool b, .int n]) (.tuple [.bool false, .int 0]) :: r)
  | _ => none
def eAllBlank (a : EvE) : EvE := fun ρ M => (a ρ M).bind fun p => (seqOf p.2 p.1).bind fun ws => (blanks ws).bind fun bs => if bs.length <= sizeLine then some (.d (.bool (bs.all id)), p.2) else none
end
end Va
namespace Va
open PySem PySem.Spec PyProof.Rows L2 Sa
def Sub (L ds : List PyData) : Prop := (∀ d ∈ L, d ∈ ds) /\ (∀ d ∈ ds, nk d ∈ L.map nk) /\ (L.map nk).Nodup
structure SortsTo (ds R : List PyData) : Prop where
  keys : ∀ d ∈ ds, flat d = true /\ (nk d).depth <= 8 /\ (∃ y r, d = .tuple (y :: r)) /\ d.depth <= 60
  alike : PySem.W.AllAlike ds
  few : ∀ M : List NestedKey, M.Nodup -> (∀ k ∈ M, k ∈ ds.map nk) -> M.length + 1 < 64
  ex : ∃ L, Sub L ds
  one : ∀ L, Sub L ds -> L.mergeSort (PySem.W.dataLe false id) = R
theorem SortsTo.uniq {ds R R' : List PyData} (a : SortsTo ds R) (b : SortsTo ds R') : R = R' := by
  obtain ⟨L, h⟩ := a.ex
  rw [<- a.one L h, b.one L h]
open Classical in
noncomputable def fSortSet : Fn := fun as M => match as with
  | [a] => (lstAt M a).bind fun l => (datas l.2).bind fun ds => if h : ∃ R, SortsTo ds R then some (.obj M.length, M ++ [.lst (h.choose.map W.d)]) else none
  | _ => none
theorem fSortSet_eq {a : W} {M : Mem} {i : Nat} {ds R : List PyData} (ha : lstAt M a = some (i, ds.map W.d)) (h : SortsTo ds R) : fSortSet [a] M = some (.obj M.length, M ++ [.lst (R.map W.d)]) := by
  have hx : ∃ R, SortsTo ds R := ⟨R, h⟩
  simp only [fSortSet, ha, Option.bind_some, datas_map]
  rw [dif_pos hx, h.uniq hx.choose_spec]
section
variable {C : Ck} {X : Cx}
theorem pairs_of {φ : Nat -> Addr} {n : Nat} {H : Hp} : ∀ {vs : List V} {ds : List PyData}, RwAll C φ n H vs (ds.map W.d) -> (∀ d ∈ ds, ∃ y r, d = .tuple (y :: r)) -> ∃ L : List (Addr × PyData), vs = L.map (fun p => V.ref p.1) /\ L.map (·.2) = ds /\ ∀ p ∈ L, Rp C.K H (.ref p.1) p.2
  | [], [], _, _ => ⟨[], rfl, rfl, fun _ h => by simp at h⟩
  | v :: vs, d :: ds, .cons (.d a) r, h => by
    obtain ⟨L, h1, h2, h3⟩ := pairs_of r fun x hx => h x (List.mem_cons_of_mem _ hx)
    obtain ⟨y, t, rfl⟩ := h d List.mem_cons_self
    cases a with
    | tup s rr =>
      refine ⟨(_, .tuple (y :: t)) :: L, by rw [h1]; rfl, by simp [h2], fun p hp => ?_⟩
      rcases List.mem_cons.mp hp with rfl | hp
      · exact .tup s rr
      · exact h3 p hp
theorem rw_pairs {φ : Nat -> Addr} {n : Nat} {H : Hp} : ∀ (L : List (Addr × PyData)), (∀ p ∈ L, Rp C.K H (.ref p.1) p.2) -> RwAll C φ n H (L.map fun p => V.ref p.1) ((L.map (·.2)).map W.d)
  | [], _ => .nil
  | p :: L, h => .cons (.d (h p List.mem_cons_self)) (rw_pairs L fun q hq => h q (List.mem_cons_of_mem _ hq))
variable {e : Expr} {fe : EvE} {p1 p2 pos pos2 : Pos}
theorem q_sortSet (hK : X.K = C.K) (hw : X.w = C.w) (calm : X.calm = true) (hu : X.A.units + 64 < cLine) (h : PE X (.Call (.Name "sorted" p1) [.Call (.Name "set" p2) [e] [] pos2] [] pos) (tCB (rSortK X.K X.w) (tCons (tCB (rSetK X.K X.w) (tCons (tOf C fe) tNil)) tNil))) :
    PE X (.Call (.Name "sorted" p1) [.Call (.Name "set" p2) [e] [] pos2] [] pos) (tOf C (eCall fSortSet (aCons fe aNil))) :=
  h.weak fun σ H Q ⟨ρ, φ, M, w, M', env, sim, e, q⟩ => by
    obtain ⟨⟨ws0, M0⟩, e0, e⟩ := bsome e
    obtain ⟨⟨w1, M1⟩, e1, e0⟩ := bsome e0
    cases e0
    simp only [fSortSet] at e
    obtain ⟨⟨i, ws⟩, el, e⟩ := bsome e
    obtain ⟨ds, ed, e⟩ := bsome e
    split at e
    · rename_i hx
      cases e
      have ok := hx.choose_spec
      generalize hx.choose = R at ok q
      obtain ⟨h1, h2⟩ := lstAt_eq el
      simp only at h1 h2 ed
      subst h1
      have ed := datas_eq ed
      subst ed
      refine ⟨ρ, φ, M, _, _, env, sim, e1, fun v φ1 H1 s1 r1 => ?_⟩
      obtain ⟨rfl, _⟩ := r1.isO
      obtain ⟨vs, hv, r⟩ := s1.sim.ob _ _ h2
      obtain ⟨L, rfl, hL, hp⟩ := pairs_of r fun d hd => (ok.keys d hd).2.2.1
      have inL : ∀ p ∈ L, p.2 ∈ ds := fun p hp' => by rw [<- hL]; exact List.mem_map_of_mem hp'
      rw [hK, hw]
      refine ⟨_, L, rfl, SqL.of hv, fun p hp' => ⟨(hp p hp').dp, (ok.keys _ (inL p hp')).1, (ok.keys _ (inL p hp')).2.1⟩, fun ks nd sub => ok.few ks nd fun k hk => ?_, fun a L2 na sub2 cov nd2 => ?_⟩
      · have := sub k hk
        rw [List.map_map] at this
        rw [<- hL, List.map_map]
        exact this
      have s2 := Step.tup (o := KsO C.w a (L2.map keyOf)) s1.sim na
      have hp2 : ∀ p ∈ L2, Rp C.K H1 (.ref p.1) p.2 := fun p hp' => hp p (sub2 p hp')
      have in2 : ∀ p ∈ L2, p.2 ∈ ds := fun p hp' => inL p (sub2 p hp')
      have subD : Sub (L2.map (·.2)) ds := by
        refine ⟨fun d hd => ?_, fun d hd => ?_, by rw [List.map_map]; exact nd2⟩
        · obtain ⟨p, hp', rfl⟩ := List.mem_map.mp hd
          exact in2 p hp'
        · rw [<- hL] at hd
          obtain ⟨p, hp', rfl⟩ := List.mem_map.mp hd
          rw [List.map_map]
          exact cov p hp'
      refine ⟨a, L2, rfl, upd_same, fun p hp' => ((hp2 p hp').keep s2.keep).dp, fun d hd d' hd' => ok.alike d (subD.1 d hd) d' (subD.1 d' hd'), fun p hp' => (ok.keys _ (in2 p hp')).2.2.1, fun p hp' => (ok.keys _ (in2 p hp')).2.2.2, ?_, fun p3 L3 np perm => ?_⟩
      · have := ok.few (L2.map fun q => nk q.2) nd2 fun k hk => ?_
        · rw [List.length_map] at this
          omega
        · obtain ⟨p, hp', rfl⟩ := List.mem_map.mp hk
          exact List.mem_map_of_mem (in2 p hp')
      have sub3 : Sub (L3.map (·.2)) ds := by
        have pm : (L3.map (·.2)).Perm (L2.map (·.2)) := perm.map _
        refine ⟨fun d hd => subD.1 d (pm.mem_iff.mp hd), fun d hd => (pm.map nk).mem_iff.mpr (subD.2.1 d hd), (pm.map nk).nodup_iff.mpr subD.2.2⟩
      have key := ok.one _ sub3
      have mm : (L3.mergeSort (PySem.W.dataLe false (·.2))).map (·.2) = (L3.map (·.2)).mergeSort (PySem.W.dataLe false id) := List.map_mergeSort fun a _ b _ => rfl
      rw [key] at mm
      have hp3 : ∀ p ∈ L3.mergeSort (PySem.W.dataLe false (·.2)), Rp C.K (upd H1 a (KsO C.w a (L2.map keyOf))) (.ref p.1) p.2 := fun p hp' =>
        (hp2 p (perm.mem_iff.mp ((List.mergeSort_perm L3 _).mem_iff.mp hp'))).keep s2.keep
      have rr := rw_pairs (φ := φ1) (n := M1.length) _ hp3
      rw [mm] at rr
      have s3 := Step.list s2.sim np rr
      exact q _ _ _ (s1.trans (s2.trans s3)) .new
    · cases e
end
def fnV (n : Nat) (g : EvS) : Fn := fun ws M => (g (ws.map some ++ List.replicate (n - ws.length) none) M).bind fun o => match o with
  | .rt w M' => some (w, M')
  | .nx _ M' => some (.d .none, M')
  | _ => none
section
variable {P : Program} {w : World} {mg : Str -> Option Value} {base : Heap} {C : Ck} {k n : Nat} {x : Str} {st : Stmt} {N ps : List Str} {g : EvS} {F F' : Fn}
theorem start_rel {φ : Nat -> Addr} {M : Mem} {H : Hp} {vs : List V} {ws : List W} (r : RwAll C φ M.length H vs ws) : EnvR C φ M.length H (L2.start N vs) (ws.map some ++ List.replicate (N.length - ws.length) none) := by
  unfold L2.start
  refine ⟨by simp [r.length], fun i w' h => ?_⟩
  by_cases hl : i < ws.length
  · rw [List.getElem?_append_left (by simpa using hl), List.getElem?_map] at h
    obtain ⟨w2, h2, e⟩ := Option.map_eq_some_iff.mp h
    cases e
    obtain ⟨v, h3, h4⟩ := r.get h2
    exact ⟨v, by rw [List.getElem?_append_left (by simp [r.length, hl]), List.getElem?_map, h3]; rfl, h4⟩
  · rw [List.getElem?_append_right (by simpa using Nat.le_of_not_lt hl), List.getElem?_replicate] at h
    split at h <;> cases h
theorem run_body {H : Hp} {vs : List V} {Q : VK} {E : XK} (hn : n = N.length) (h : spV C ps.length (fnV n g) vs H Q E) : tsOf C g ⟨fun _ H' => Q .non H', Q, fun _ _ => False, fun _ _ => False⟩ (L2.start N vs) H := by
  obtain ⟨φ, M, ws, w', M', r, hl, sim, e, q⟩ := h
  obtain ⟨o, e1, e⟩ := bsome e
  subst hn
  refine ⟨_, φ, M, o, start_rel r, sim, e1, ?_⟩
  cases o with
  | rt w2 M2 => cases e; exact q
  | nx ρ2 M2 => cases e; exact fun σ' φ' H' s _ => q _ φ' H' s (.d .non)
  | bk ρ2 M2 => cases e
  | ct ρ2 M2 => cases e
/-- the body of a def by value -/
theorem Dv.of (S : Stands C.K mg x st ps) (sc : FnScope N ps (defScope st)) (hn : n = N.length)
    (walk : ∀ (f : Addr) (cdv : Value) (A : Around) (outer : List Env) (s : Shared) (H : Hp) (E : XK), Room k (A.deeper (envOfC x (defScope st) s.heap.objs.size f cdv)) -> Free A ->
      PSs (cxOf CX0 P w C.K mg base N x (defScope st) f cdv A outer s H E).nox (defBody st) (tsOf C g)) :
    Df P w C.K mg base (k + 1) x ps (spV C ps.length (fnV n g)) :=
  Df.of S sc (fun vs H Q E ⟨_, _, _, _, _, _, hl, _⟩ => hl) fun f cdv A outer s H vs Q E hr hf h => ⟨_, walk f cdv A outer s H E hr hf, run_body hn h⟩
theorem Dv.ofC {f0 c : Addr} {fd0 : FuncData} (F : Fun C.K x x st f0 fd0) (m : mg x = some (.ref f0)) (b : Binds C.K fd0 ps []) (hc : fd0.code = .ref c) (sc : FnScope N ps (defScope st)) (hn : n = N.length)
    (walk : ∀ (A : Around) (outer : List Env) (s : Shared) (H : Hp) (E : XK), Room k (A.deeper (envOfC x (defScope st) s.heap.objs.size f0 (.ref c))) -> Free A ->
      PSs (cxOf CX0 P w C.K mg base N x (defScope st) f0 (.ref c) A outer s H E).nox (defBody st) (tsOf C g)) :
    Df P w C.K mg base (k + 1) x ps (spV C ps.length (fnV n g)) :=
  Df.ofC F m b hc sc (fun vs H Q E ⟨_, _, _, _, _, _, hl, _⟩ => hl) fun A outer s H vs Q E hr hf h => ⟨_, walk A outer s H E hr hf, run_body hn h⟩
/-- a value without things of the memory -/
def isD : W -> Bool
  | .d _ => true
  | .scr => true
  | _ => false
def isDO : MO -> Bool
  | .lst ws => ws.all isD
  | .kset _ => true
  | .dic _ _ => true
  | .pot _ => true
/-- M1 is M but for lists of data -/
def Cut (M M1 : Mem) : Prop := M1.length = M.length /\ ∀ (k : Nat) (mo : MO), M1[k]? = some mo -> M[k]? = some mo ∨ isDO mo = true
theorem Cut.refl {M : Mem} : Cut M M := ⟨rfl, fun _ _ h => .inl h⟩
theorem Cut.set {M M1 : Mem} (h : Cut M M1) (i : Nat) {ws : List W} (d : ws.all isD = true) : Cut M (M1.set i (.lst ws)) := by
  refine ⟨by simp [h.1], fun k mo e => ?_⟩
  by_cases z : i = k
  · subst z
    by_cases hl : i < M1.length
    · rw [List.getElem?_set_self hl] at e; cases e; exact .inr d
    · rw [List.getElem?_eq_none (by simpa using Nat.le_of_not_lt hl)] at e; cases e
  · rw [List.getElem?_set_ne z] at e
    exact h.2 k mo e
theorem Rw.shrink {φ : Nat -> Addr} {m n : Nat} {H : Hp} {v : V} {w : W} (r : Rw C φ m H v w) (d : isD w = true) : Rw C φ n H v w := by
  cases r with
  | d r => exact .d r
  | scr => exact .scr
  | obj h => cases d
  | pack s r => cases d
  | fn h => cases d
theorem RwAll.shrink {φ : Nat -> Addr} {m n : Nat} {H : Hp} : ∀ {vs : List V} {ws : List W}, RwAll C φ m H vs ws -> ws.all isD = true -> RwAll C φ n H vs ws
  | _, _, .nil, _ => .nil
  | _, _, .cons a r, d => by
    rw [List.all_cons, Bool.and_eq_true] at d
    exact .cons (a.shrink d.1) (RwAll.shrink r d.2)
theorem RO.shrink {φ : Nat -> Addr} {m n : Nat} {H : Hp} {a : Addr} {mo : MO} (r : RO C φ m H a mo) (d : isDO mo = true) : RO C φ n H a mo := by
  cases mo with
  | lst ws => obtain ⟨vs, h, r⟩ := r; exact ⟨vs, h, r.shrink d⟩
  | kset ds => exact r
  | dic es n => exact r
  | pot es => exact r
/-- what was made on the way is forgotten -/
theorem Step.cut {φ φ' : Nat -> Addr} {M M1 J : Mem} {H H' : Hp} (S : Sim C φ M H) (s : Step C φ M H φ' (M1 ++ J) H') (c : Cut M M1) : Step C φ M H φ' M1 H' := by
  refine ⟨s.ext, by rw [c.1]; exact Nat.le_refl _, s.keep, ⟨fun i mo e => ?_, fun i j hi hj e => s.sim.inj i j (by simp; omega) (by simp; omega) e, s.sim.tab, s.sim.scr, fun q hq => ⟨(s.sim.lam q hq).1, (s.sim.lam q hq).2.move (fun ps h => h) fun c h n => ⟨h, fun i hi => n i (by simp; omega)⟩⟩⟩, fun i es n e => ?_⟩
  rotate_left
  · obtain ⟨es', n', e', r⟩ := s.dics i es n e
    have hi : i < M1.length := by rw [c.1]; exact (List.getElem?_eq_some_iff.mp e).1
    exact ⟨es', n', by rw [List.getElem?_append_left hi] at e'; exact e', r⟩
  have hi : i < M1.length := (List.getElem?_eq_some_iff.mp e).1
  have now := s.sim.ob i mo (by rw [List.getElem?_append_left hi]; exact e)
  rcases c.2 i mo e with old | d
  · have was := S.ob i mo old
    rw [c.1]
    -- its items speak of things that were there
    cases mo with
    | lst ws =>
      obtain ⟨vs, h1, r1⟩ := was
      obtain ⟨vs2, h2, r2⟩ := now
      exact ⟨vs2, h2, by
        have key : ∀ {us us2 : List V} {ws : List W}, RwAll C φ M.length H us ws -> RwAll C φ' (M1 ++ J).length H' us2 ws -> RwAll C φ' M.length H' us2 ws := by
          have one : ∀ (w : W) {u u2 : V}, Rw C φ M.length H u w -> Rw C φ' (M1 ++ J).length H' u2 w -> Rw C φ' M.length H' u2 w := by
            intro w
            refine W.rec (motive_1 := fun w => ∀ {u u2 : V}, Rw C φ M.length H u w -> Rw C φ' (M1 ++ J).length H' u2 w -> Rw C φ' M.length H' u2 w)
              (motive_2 := fun ws => ∀ {us us2 : List V}, RwAll C φ M.length H us ws -> RwAll C φ' (M1 ++ J).length H' us2 ws -> RwAll C φ' M.length H' us2 ws) ?_ ?_ ?_ ?_ ?_ ?_ ?_ w
            · intro x u u2 a b; cases b with | d b => exact .d b
            · intro i u u2 a b; cases a with | obj h => cases b; exact .obj h
            · intro u u2 a b; cases b; exact .scr
            · intro ws ih u u2 a b; cases a with | pack s1 r1 => cases b with | pack s2 r2 => exact .pack s2 (ih r1 r2)
            · intro u u2 a b; cases b with | fn h => exact .fn h
            · intro us us2 a b; cases b; exact .nil
            · intro w ws i1 i2 us us2 a b; cases a with | cons a1 a2 => cases b with | cons b1 b2 => exact .cons (i1 a1 b1) (i2 a2 b2)
          intro us us2 ws
          induction ws generalizing us us2 with
          | nil => intro a b; cases b; exact .nil
          | cons w ws ih => intro a b; cases a with | cons a1 a2 => cases b with | cons b1 b2 => exact .cons (one w a1 b1) (ih a2 b2)
        exact key r1 r2⟩
    | kset ds => exact now
    | dic es n => exact now
    | pot es => exact now
  · exact now.shrink d
/-- a def's promise, made handy: where F tells a value of data, what was made is forgotten -/
theorem spV_weak (h : ∀ ws M w M1, F' ws M = some (w, M1) -> F ws M = some (w, M1) ∨ (isD w = true /\ Cut M M1 /\ ∃ J, F ws M = some (w, M1 ++ J))) : ∀ vs H Q E, spV C n F' vs H Q E -> spV C n F vs H Q E := by
  intro vs H Q E ⟨φ, M, ws, w, M1, r, hl, sim, e, q⟩
  rcases h ws M w M1 e with e | ⟨d, c, J, e⟩
  · exact ⟨φ, M, ws, w, M1, r, hl, sim, e, q⟩
  · exact ⟨φ, M, ws, w, _, r, hl, sim, e, fun v φ' H' s rv => q v φ' H' (Step.cut sim s c) (rv.shrink d)⟩
theorem Dv.weak (D : Df P w C.K mg base k x ps (spV C n F)) (h : ∀ ws M w M1, F' ws M = some (w, M1) -> F ws M = some (w, M1) ∨ (isD w = true /\ Cut M M1 /\ ∃ J, F ws M = some (w, M1 ++ J))) : Df P w C.K mg base k x ps (spV C n F') :=
  D.weak (spV_weak h)
/-- the same where a new thing of data is told: it stands first of what is made -/
theorem spV_new {φ : Nat -> Addr} {M M0 J : Mem} {ws : List W} {mo : MO} {vs : List V} {H : Hp} {Q : VK} {E : XK} {j : Nat} (r : RwAll C φ M.length H vs ws) (hl : vs.length = n) (sim : Sim C φ M H) (e2 : F ws M = some (.obj (M.length + j), M0 ++ J)) (hj : J[j]? = some mo) (hd : isDO mo = true) (c : Cut M M0)
    (q : ∀ v φ' H', Step C φ M H φ' (M0 ++ [mo]) H' -> Rw C φ' (M0 ++ [mo]).length H' v (.obj M.length) -> Q v H') : spV C n F vs H Q E := by
  refine ⟨φ, M, ws, _, _, r, hl, sim, e2, fun v φ' H' s rv => ?_⟩
  have s0 := Step.cut sim s c
  have hjl : j < J.length := (List.getElem?_eq_some_iff.mp hj).1
  have atJ : (M0 ++ J)[M.length + j]? = some mo := by
    rw [List.getElem?_append_right (by rw [c.1]; omega), c.1, Nat.add_sub_cancel_left]; exact hj
  obtain ⟨rfl, hlt⟩ := rv.isO
  have r2 := s.sim.ob _ _ atJ
  -- the new numbering
  have hext : ∀ i, i < M.length -> phi φ' M.length (φ' (M.length + j)) i = φ' i := fun i hi => phi_lt hi
  refine q _ (phi φ' M.length (φ' (M.length + j))) H' ⟨fun i hi => (hext i hi).trans (s.ext i hi), by simp [c.1], s.keep, ⟨fun i mo' ei => ?_, fun a b ha hb eab => ?_, s.sim.tab, s.sim.scr, fun q hq => ⟨(s.sim.lam q hq).1, (s.sim.lam q hq).2.move (fun ps h => h) fun cc hc n2 => ⟨hc, fun i hi => ?_⟩⟩⟩, fun i es n ei => ?_⟩ ?_
  · by_cases hi : i < M0.length
    · rw [List.getElem?_append_left hi] at ei
      have := s0.sim.ob i mo' ei
      have hi' : i < M.length := by rw [<- c.1]; exact hi
      rw [hext i hi']
      exact this.move .refl (fun k hk => hext k (by rw [<- c.1]; exact hk)) (by simp) rfl
    · have hi2 : i = M0.length := by
        have := (List.getElem?_eq_some_iff.mp ei).1
        simp at this
        omega
      subst hi2
      rw [List.getElem?_append_right (Nat.le_refl _)] at ei
      simp at ei
      subst ei
      rw [c.1, phi_at]
      exact (r2.shrink (n := 0) hd).move .refl (fun k hk => absurd hk (Nat.not_lt_zero k)) (Nat.zero_le _) rfl
  · simp only [List.length_append, List.length_singleton, c.1] at ha hb
    have lt1 : ∀ {i}, i < M.length -> i < (M0 ++ J).length := fun {i} hi => by simp [c.1]; omega
    by_cases h1 : a < M.length <;> by_cases h2 : b < M.length
    · rw [hext a h1, hext b h2] at eab
      exact s.sim.inj a b (lt1 h1) (lt1 h2) eab
    · have : b = M.length := by omega
      subst this
      rw [hext a h1, phi_at] at eab
      have := s.sim.inj a _ (lt1 h1) hlt eab
      omega
    · have : a = M.length := by omega
      subst this
      rw [hext b h2, phi_at] at eab
      have := s.sim.inj _ b hlt (lt1 h2) eab
      omega
    · omega
  · simp only [List.length_append, List.length_singleton, c.1] at hi
    by_cases z : i = M.length
    · subst z
      rw [phi_at]
      exact n2 _ hlt
    · rw [hext i (by omega)]
      exact n2 i (by simp [c.1]; omega)
  · obtain ⟨es', n', e', r'⟩ := s0.dics i es n ei
    exact ⟨es', n', by rw [List.getElem?_append_left (List.getElem?_eq_some_iff.mp e').1]; exact e', r'⟩
  · have h : Rw C (phi φ' M.length (φ' (M.length + j))) (M0 ++ [mo]).length H' (.ref (phi φ' M.length (φ' (M.length + j)) M.length)) (.obj M.length) := .obj (by simp [c.1])
    rw [phi_at] at h
    exact h
end
end Va
namespace Va
open PySem PySem.Spec PyProof.Rows L2 Sa
open Classical in
/-- what a call leaves: data, or a new thing of data, without what was made on the way -/
noncomputable def norm (M : Mem) (p : W × Mem) : W × Mem :=
  if isD p.1 = true /\ M.length <= p.2.length /\ Cut M (p.2.take M.length) then (p.1, p.2.take M.length)
  else match p.1 with
    | .obj i => match p.2[i]? with
      | some mo => if M.length <= i /\ isDO mo = true /\ Cut M (p.2.take M.length) then (.obj M.length, p.2.take M.length ++ [mo]) else p
      | none => p
    | _ => p
noncomputable def nf (F : Fn) : Fn := fun ws M => (F ws M).map (norm M)
theorem norm_d {M M1 J : Mem} {w : W} (d : isD w = true) (c : Cut M M1) : norm M (w, M1 ++ J) = (w, M1) := by
  have t : (M1 ++ J).take M.length = M1 := by rw [<- c.1]; simp
  unfold norm
  rw [if_pos ⟨d, by simp [c.1], by rw [t]; exact c⟩]
  simp only [t]
theorem norm_o {M M1 J : Mem} {j : Nat} {mo : MO} (hj : J[j]? = some mo) (d : isDO mo = true) (c : Cut M M1) : norm M (.obj (M.length + j), M1 ++ J) = (.obj M.length, M1 ++ [mo]) := by
  have t : (M1 ++ J).take M.length = M1 := by rw [<- c.1]; simp
  have g : (M1 ++ J)[M.length + j]? = some mo := by
    rw [List.getElem?_append_right (by rw [c.1]; omega), c.1, Nat.add_sub_cancel_left]; exact hj
  unfold norm
  rw [if_neg (fun z => by cases z.1)]
  simp only [g]
  rw [if_pos ⟨Nat.le_add_right _ _, d, by rw [t]; exact c⟩, t]
theorem norm_l {M M1 J : Mem} {j : Nat} {us : List W} (hj : J[j]? = some (.lst us)) (d : us.all isD = true) (c : Cut M M1) : norm M (.obj (M.length + j), M1 ++ J) = (.obj M.length, M1 ++ [.lst us]) := norm_o hj d c
section
variable {P : Program} {w : World} {mg : Str -> Option Value} {base : Heap} {C : Ck} {k n : Nat} {x : Str} {st : Stmt} {N ps : List Str} {F : Fn}
theorem spV_nf {vs : List V} {H : Hp} {Q : VK} {E : XK} (h : spV C n (nf F) vs H Q E) : spV C n F vs H Q E := by
  obtain ⟨φ, M, ws, w1, M1, r, hl, sim, e, q⟩ := h
  obtain ⟨⟨w0, M0⟩, e0, e⟩ := Option.map_eq_some_iff.mp e
  unfold norm at e
  split at e
  · rename_i c
    obtain ⟨d, le, cut⟩ := c
    cases e
    have e1 : F ws M = some (w0, M0.take M.length ++ M0.drop M.length) := by rw [List.take_append_drop]; exact e0
    exact ⟨φ, M, ws, w0, _, r, hl, sim, e1, fun v φ' H' s rv => q v φ' H' (Step.cut sim s cut) (rv.shrink d)⟩
  · split at e
    · rename_i i hi
      simp only at hi
      subst hi
      split at e
      · rename_i us hu
        split at e
        · rename_i c
          obtain ⟨le, hd, cut⟩ := c
          cases e
          obtain ⟨j, rfl⟩ := Nat.le.dest le
          have e1 : F ws M = some (.obj (M.length + j), M0.take M.length ++ M0.drop M.length) := by rw [List.take_append_drop]; exact e0
          exact spV_new r hl sim e1 (by rw [List.getElem?_drop]; exact hu) hd cut q
        · cases e
          exact ⟨φ, M, ws, _, _, r, hl, sim, e0, q⟩
      · cases e
        exact ⟨φ, M, ws, _, _, r, hl, sim, e0, q⟩
    · cases e
      exact ⟨φ, M, ws, _, _, r, hl, sim, e0, q⟩
theorem Dv.nf (D : Df P w C.K mg base k x ps (spV C n F)) : Df P w C.K mg base k x ps (spV C n (nf F)) := D.weak fun vs H Q E h => spV_nf h
/-- the law's own def -/
theorem Dv.fn {f0 : Addr} {fd0 : FuncData} {g : EvS} (F : Fun C.K x x st f0 fd0) (sc : FnScope N ps (defScope st)) (hn : n = N.length)
    (walk : ∀ (f : Addr) (cdv : Value) (A : Around) (outer : List Env) (s : Shared) (H : Hp) (E : XK), Room k (A.deeper (envOfC x (defScope st) s.heap.objs.size f cdv)) -> Free A ->
      PSs (cxOf CX0 P w C.K mg base N x (defScope st) f cdv A outer s H E).nox (defBody st) (tsOf C g)) :
    FnG P w C.K mg base (k + 1) f0 fd0 ps (spV C ps.length (Va.nf (fnV n g))) :=
  okG F sc (fun vs H Q E ⟨_, _, _, _, _, _, hl, _⟩ => hl) fun cdv A outer s H vs Q E _ hr hf h => ⟨_, walk f0 cdv A outer s H E hr hf, run_body hn (spV_nf h)⟩
/-- a def that isn't asked -/
theorem Dv.never (S : Stands C.K mg x st ps) : Df P w C.K mg base k x ps (spV C n fun _ _ => none) := by
  refine Df.mk' S fun f fd F => ⟨fun vs H Q E h => ?_, fun A outer s H args us vs Q E _ _ _ _ _ h => ?_⟩
  · obtain ⟨_, _, _, _, _, _, _, _, e, _⟩ := h; cases e
  · obtain ⟨_, _, _, _, _, _, _, _, e, _⟩ := h; cases e
/-- [x] * n -/
def oRep : O2 := fun a b M => (lstAt M a).bind fun l => (asI b).bind fun k => if -(2 ^ 63) <= k /\ k < 2 ^ 63 /\ l.2.length * k.toNat <= sizeLine then some (.obj M.length, M ++ [.lst (List.replicate k.toNat l.2).flatten]) else none
theorem rep_rel {φ : Nat -> Addr} {m : Nat} {H : Hp} {vs : List V} {ws : List W} (r : RwAll C φ m H vs ws) : ∀ k, RwAll C φ m H (List.replicate k vs).flatten (List.replicate k ws).flatten
  | 0 => .nil
  | k + 1 => by
    simp only [List.replicate_succ, List.flatten_cons]
    exact r.append (rep_rel r k)
/-- tuple + tuple -/
def oCatT : O2 := fun a b M => (tupOf a).bind fun l => (tupOf b).bind fun k => if l.length + k.length <= sizeLine then some (mkTup (l ++ k), M) else none
end
end Va
namespace Va
open PySem PySem.Spec PyProof.Rows L2 Sa
def kindW (M : Mem) : W -> Option String
  | .d .none => some "NoneType"
  | .d (.bool _) => some "bool"
  | .d (.int _) => some "int"
  | .d (.str _) => some "str"
  | .d (.tuple _) => some "tuple"
  | .pack _ => some "tuple"
  | .obj i => match M[i]? with
    | some (.lst _) => some "list"
    | _ => none
  | _ => none
def isiB (T k : String) : Bool := k == T || (T == "int" && k == "bool")
theorem isiB_ok : ∀ T ∈ ["tuple", "str", "int", "bool"], ∀ k ∈ ["NoneType", "bool", "int", "str", "tuple", "list"], kitB k T = some (isiB T k) := by decide +kernel
def eIsi (T : String) (a : EvE) : EvE := fun ρ M => (a ρ M).bind fun p => (kindW p.2 p.1).bind fun k => some (.d (.bool (isiB T k)), p.2)
theorem kind_ty {C : Ck} {φ : Nat -> Addr} {M : Mem} {H : Hp} {v : V} {w : W} {k : String} (sim : Sim C φ M H) (r : Rw C φ M.length H v w) (e : kindW M w = some k) : TyX C.K H v (.type k) /\ k ∈ ["NoneType", "bool", "int", "str", "tuple", "list"] := by
  have tup : ∀ {a : Addr} {vs : List V}, SqT C.K H a vs -> TyX C.K H (.ref a) (.type "tuple") := fun {a vs} s => by
    rcases s with (s | ⟨o, s⟩) | ⟨o, its, n, h1, h2, _⟩
    · exact .base (.tup s)
    · exact .fTuple s
    · exact .kTuple h1 h2
  cases r with
  | d r => cases r with
    | non => cases e; exact ⟨.base .non, by simp⟩
    | bl b => cases e; exact ⟨.base (.bl b), by simp⟩
    | int i => cases e; exact ⟨.base (.int i), by simp⟩
    | str x => cases e; exact ⟨.base (.str x), by simp⟩
    | tup s r => cases e; exact ⟨tup s, by simp⟩
  | obj h =>
    simp only [kindW] at e
    split at e
    · rename_i ws he
      cases e
      obtain ⟨vs, hv, _⟩ := sim.ob _ _ he
      exact ⟨.base (.lst hv), by simp⟩
    · cases e
  | scr => cases e
  | pack s r => cases e; exact ⟨tup s, by simp⟩
  | fn h => cases e
def sPar3 (i j l : Nat) (a : EvA) : EvS := fun ρ M => (a ρ M).bind fun p => match p.1 with
  | [x, y, z] => some (.nx (((ρ.set i (some x)).set j (some y)).set l (some z)) p.2)
  | _ => none
section
variable {C : Ck} {X : Cx} {e : Expr} {fa : EvE} {pos p1 p2 : Pos}
theorem q_isi {T : String} (hT : T ∈ ["tuple", "str", "int", "bool"]) {y : Str} (hK : X.K = C.K) (h : PE X (.Call (.Name "isinstance" p1) [e, .Name y p2] [] pos) (tCB (rIsi X.K) (tCons (tOf C fa) (tCons (tC (.ty T)) tNil)))) :
    PE X (.Call (.Name "isinstance" p1) [e, .Name y p2] [] pos) (tOf C (eIsi T fa)) :=
  h.weak fun σ H Q ⟨ρ, φ, M, w, M', env, sim, e, q⟩ => by
    obtain ⟨⟨w1, M1⟩, e1, e⟩ := bsome e
    obtain ⟨k, ek, e⟩ := bsome e
    cases e
    refine ⟨ρ, φ, M, _, _, env, sim, e1, fun v φ1 H1 s1 r1 => ?_⟩
    obtain ⟨ty, hk⟩ := kind_ty s1.sim r1 ek
    exact ⟨v, .ty T, .type k, .type T, _, rfl, .ty T, by rw [hK]; exact ty, kit_ty (isiB_ok T hT k hk), q _ φ1 H1 s1 (.d (.bl _))⟩
end
/-- the promise of the law, whatever the script -/
def spLaw (K : PySem.W.Frag) (w : World) (T : List Addr) (TL : List (Addr × Str)) (F : List Int -> Fn) : Sp := fun vs H Q E => ∃ a ns, spV ⟨K, w, T, a, ns, TL, none⟩ 1 (F ns) vs H Q E
theorem law_fn {P : Program} {w : World} {K : PySem.W.Frag} {mg : Str -> Option Value} {base : Heap} {T : List Addr} {TL : List (Addr × Str)} {k : Nat} {f : Addr} {fd : FuncData} {x : Str} {F : List Int -> Fn} (h : ∀ a ns, FnG P w K mg base k f fd [x] (spV ⟨K, w, T, a, ns, TL, none⟩ 1 (F ns))) : FnG P w K mg base k f fd [x] (spLaw K w T TL F) :=
  ⟨fun vs H Q E ⟨a, ns, z⟩ => (h a ns).many vs H Q E z, fun A outer s H args us vs Q E r1 r2 r3 r4 r5 ⟨a, ns, z⟩ => (h a ns).runs A outer s H args us vs Q E r1 r2 r3 r4 r5 z⟩
theorem law_start {K : PySem.W.Frag} {w : World} {T : List Addr} {TL : List (Addr × Str)} {F : List Int -> Fn} {a : Addr} {ns : List Int} {H : Hp} {E : XK} {M' : Mem} (ht : ∀ P ∈ T, Tb H P) (hl : ∀ p ∈ TL, p.1 ∉ T /\ H p.1 = some (.tbl #[])) (hs : Scr K H a (ns.map V.int)) (e : F ns [.scr] [] = some (.d (.bool true), M')) :
    spLaw K w T TL F [.ref a] H (fun v _ => v = .bl true) E :=
  ⟨a, ns, fun _ => 0, [], [.scr], _, M', .cons .scr .nil, rfl, ⟨fun i mo e => by simp at e, fun i j hi => by simp at hi, ht, hs, fun p hp => ⟨(hl p hp).1, #[], (hl p hp).2, True.intro, fun pos cv hc => by have z : codeAmong pos [] = some cv := hc; simp [codeAmong] at z⟩⟩, e, fun v φ' H' s r => r.isB⟩
end Va
namespace Va
open PySem PySem.Spec PyProof.Rows L2 Sa
/-- a, b = [..] -/
def sAsgL (n : Nat) (a : EvE) (gs : List W -> Ev -> Option Ev) : EvS := fun ρ M => (a ρ M).bind fun p => (lstAt p.2 p.1).bind fun l => if l.2.length = n then (gs l.2 ρ).bind fun ρ1 => some (.nx ρ1 p.2) else none
section
variable {C : Ck} {X : Cx} {e : Expr} {es : List Expr} {fa : EvE} {pos tpos : Pos} {is : List Nat} {k n : Nat} {gs : List W -> Ev -> Option Ev}
theorem q_asgL (hc : X.calm = true) (hK : X.K = C.K) (he : PE X e (tOf C fa)) (h : PGs X es (tgsOf C is gs)) (hn : (assignEach es X.env).length = n := by rfl) (hst : (assignEach es X.env).findIdx? (·.1) = none := by rfl)
    (hs : swapsWithSole [.Tuple es k tpos] e pos.line X.env = pure false := by rfl) (hw : swappedStores [.Tuple es k tpos] e X.env = pure none := by rfl) (h1 : (assignEach [.Tuple es k tpos] X.env).map (·.2) = [assign (.Tuple es k tpos) X.env] := by rfl) :
    PS X (.Assign [.Tuple es k tpos] e pos) (tsOf C (sAsgL n fa gs)) :=
  (ps_asg he (pg_lst hc h hn hst) hs hw h1).weak fun D σ H ⟨ρ, φ, M, o, env, sim, e, q⟩ => by
    obtain ⟨⟨x, M1⟩, e1, e⟩ := bsome e
    obtain ⟨⟨i, ws⟩, el, e⟩ := bsome e
    split at e
    · rename_i hl
      obtain ⟨ρ1, e2, e⟩ := bsome e
      cases e
      refine ⟨ρ, φ, M, x, M1, env, sim, e1, fun v φ1 H1 s1 r1 => ?_⟩
      obtain ⟨h2, h3⟩ := lstAt_eq el
      simp only at h2 h3 hl e2
      subst h2
      obtain ⟨rfl, _⟩ := r1.isO
      obtain ⟨vs, hv, r⟩ := s1.sim.ob _ _ h3
      exact ⟨_, vs, rfl, SqL.of hv, by rw [r.length]; exact hl, ρ, φ1, M1, ws, ρ1, env.step s1, s1.sim, r, e2, fun σ1 env1 _ => q σ1 φ1 H1 s1 env1⟩
    · cases e
end
end Va
namespace Sa
open PySem PySem.Spec PyProof.Rows L2
end Sa
set_option maxHeartbeats 3200000
namespace Va
open PySem PySem.Spec PyProof.Rows L2 Sa
section
mutual
def deepD (M : Mem) : Nat -> W -> Option PyData
  | _, .d x => some x
  | n + 1, .obj i => match M[i]? with
    | some (.lst ws) => (deepAll M n ws).map PyData.list
    | _ => none
  | _, _ => none
def deepAll (M : Mem) : Nat -> List W -> Option (List PyData)
  | _, [] => some []
  | n, w :: ws => (deepD M n w).bind fun d => (deepAll M n ws).map fun ds => d :: ds
end
mutual
theorem deepD_rel {φ : Nat -> Addr} {M : Mem} {H : Hp} (sim : Sim C φ M H) : ∀ (n : Nat) (w : W) (v : V) (d : PyData), Rw C φ M.length H v w -> deepD M n w = some d -> Dp C.K H v d
  | n, .d x, v, d, r, e => by
    cases n <;> (simp only [deepD, Option.some.injEq] at e; subst e; cases r with | d r => exact r.dp)
  | n + 1, .obj i, v, d, r, e => by
    simp only [deepD] at e
    obtain ⟨rfl, _⟩ := r.isO
    split at e
    · rename_i ws hws
      rw [Option.map_eq_some_iff] at e
      obtain ⟨ds, e, rfl⟩ := e
      obtain ⟨vs, hv, rr⟩ := sim.ob _ _ hws
      exact .lst (SqL.of hv) (deepAll_rel sim n ws vs ds rr e)
    · cases e
  | 0, .obj i, v, d, r, e => by simp [deepD] at e
  | 0, .scr, v, d, r, e => by simp [deepD] at e
  | 0, .pack _, v, d, r, e => by simp [deepD] at e
  | 0, .fn, v, d, r, e => by simp [deepD] at e
  | n + 1, .scr, v, d, r, e => by simp [deepD] at e
  | n + 1, .pack _, v, d, r, e => by simp [deepD] at e
  | n + 1, .fn, v, d, r, e => by simp [deepD] at e
theorem deepAll_rel {φ : Nat -> Addr} {M : Mem} {H : Hp} (sim : Sim C φ M H) : ∀ (n : Nat) (ws : List W) (vs : List V) (ds : List PyData), RwAll C φ M.length H vs ws -> deepAll M n ws = some ds -> DpAll C.K H vs ds
  | n, [], vs, ds, r, e => by
    simp only [deepAll, Option.some.injEq] at e
    subst e
    cases r
    exact .nil
  | n, w :: ws, vs, ds, r, e => by
    simp only [deepAll] at e
    obtain ⟨d, e1, e3⟩ := bsome e
    rw [Option.map_eq_some_iff] at e3
    obtain ⟨ds, e2, rfl⟩ := e3
    cases r with
    | cons r1 r2 => exact .cons (deepD_rel sim n w _ d r1 e1) (deepAll_rel sim n ws _ ds r2 e2)
end
/-- == of lists of data -/
def eqL (M : Mem) (a b : W) : Option Bool := (deepD M 3 a).bind fun x => (deepD M 3 b).bind fun y => if (SeqAt.shaped x && SeqAt.shaped y) = true then some (PyData.eqv x y) else none
theorem eqL_of {φ : Nat -> Addr} {M : Mem} {H : Hp} {x y : V} {a b : W} {k : Bool} (sim : Sim C φ M H) (rx : Rw C φ M.length H x a) (ry : Rw C φ M.length H y b) (e : eqL M a b = some k) :
    ∃ d e, Dp C.K H x d /\ Dp C.K H y e /\ SeqAt.shaped d = true /\ SeqAt.shaped e = true /\ PyData.eqv d e = k := by
  obtain ⟨d, e1, e⟩ := bsome e
  obtain ⟨d2, e2, e⟩ := bsome e
  split at e
  · rename_i hs
    rw [Bool.and_eq_true] at hs
    cases e
    exact ⟨d, d2, deepD_rel sim 3 a x d rx e1, deepD_rel sim 3 b y d2 ry e2, hs.1, hs.2, rfl⟩
  · cases e
def oNeL : O2 := fun a b M => (eqL M a b).map fun k => (.d (.bool (!k)), M)
theorem vo_neL : VO2 C (rNeD C.K) oNeL := by
  intro φ M H x y a b w M' Q sim rx ry e q
  simp only [oNeL, Option.map_eq_some_iff] at e
  obtain ⟨k, ek, e⟩ := e
  cases e
  obtain ⟨d, d2, h1, h2, h3, h4, rfl⟩ := eqL_of sim rx ry ek
  exact ⟨d, d2, h1, h2, h3, h4, q _ φ H (.refl sim) (.d (.bl _))⟩
/-- x in l, l a list of data -/
def inL (M : Mem) (a b : W) : Option Bool := match a with
  | .d x => (lstAt M b).bind fun l => (deepAll M 0 l.2).bind fun ds => if (SeqAt.shaped x && SeqAt.shaped (.list ds)) = true then some (ds.any fun z => PyData.eqv z x) else none
  | _ => none
def oNotInL : O2 := fun a b M => (inL M a b).map fun k => (.d (.bool (!k)), M)
/-- a text in a tuple of texts -/
def strsOf : List PyData -> Option (List Str)
  | [] => some []
  | .str x :: r => (strsOf r).map fun xs => x :: xs
  | _ => none
theorem strs_rel {K : PySem.W.Frag} {H : Hp} : ∀ {vs : List V} {ds : List PyData} {xs : List Str}, RpAll K H vs ds -> strsOf ds = some xs -> vs = xs.map V.str
  | _, _, _, .nil, e => by simp only [strsOf, Option.some.injEq] at e; subst e; rfl
  | _, _, _, .cons (v := v) (d := d) a r, e => by
    cases a with
    | str x =>
      simp only [strsOf, Option.map_eq_some_iff] at e
      obtain ⟨ys, e, rfl⟩ := e
      rw [strs_rel r e]
      rfl
    | _ => simp [strsOf] at e
def oInT : O2 := fun a b M => match a, b with
  | .d (.str x), .d (.tuple ds) => (strsOf ds).map fun xs => (.d (.bool (decide (x ∈ xs))), M)
  | _, _ => none
theorem flat_strs : ∀ (xs : List Str), (xs.map V.str).all flatV = true
  | [] => rfl
  | x :: xs => by rw [List.map_cons, List.all_cons, flat_strs xs]; rfl
theorem in_strs (x : Str) : ∀ (xs : List Str), inV (.str x) (xs.map V.str) = decide (x ∈ xs)
  | [] => by simp [inV]
  | y :: xs => by
    have h := in_strs x xs
    simp only [inV] at h
    simp only [inV, List.map_cons, List.any_cons, h]
    have : eqV (V.str y) (V.str x) = decide (y = x) := by
      simp only [eqV]
      by_cases e : y = x
      · subst e; simp
      · rw [decide_eq_false e]; exact beq_eq_false_iff_ne.mpr e
    rw [this]
    by_cases e : y = x
    · subst e; simp
    · have e' : ¬ x = y := fun z => e z.symm
      simp [e, e']
theorem vo_inT : VO2 C (rIn C.K false) oInT := by
  intro φ M H x y a b w M' Q sim rx ry e q
  unfold oInT at e
  split at e
  · rename_i z ds
    rw [Option.map_eq_some_iff] at e
    obtain ⟨xs, e, e'⟩ := e
    cases e'
    cases rx with | d rx => cases ry with | d ry =>
    cases rx
    cases ry with
    | tup s r =>
      have := strs_rel r e
      subst this
      refine ⟨_, _, rfl, .inr s, rfl, flat_strs _, ?_⟩
      rw [if_neg (by simp), in_strs]
      exact q _ φ H (.refl sim) (.d (.bl _))
  · cases e
end
/-- sorted(l), l a list of unlike nested tuples -/
def rSortL (K : PySem.W.Frag) : List V -> Hp -> VK -> Prop := fun vs H Q => ∃ (a : Addr) (L : List (Addr × PyData)), vs = [.ref a] /\ SqL K H a (L.map fun p => V.ref p.1) /\ (∀ p ∈ L, Dp K H (.ref p.1) p.2) /\ PySem.W.AllAlike (L.map (·.2)) /\ (∀ p ∈ L, ∃ y r, p.2 = .tuple (y :: r)) /\ (∀ p ∈ L, p.2.depth <= 60) /\
  ∀ p, H p = none -> Q (.ref p) (upd H p (.lst ((L.mergeSort (PySem.W.dataLe false (·.2))).map fun q => V.ref q.1)))
section
variable {X : Cx} {C : Ck}
theorem cr_sortL (hu : X.A.units + 64 < cLine) : CallR X (.builtin "sorted") (rSortL X.K) := by
  intro pins s σ H vs us Q I rel h
  obtain ⟨a, L, rfl, hl, hd, al, tups, deep, q⟩ := h
  rw [Vals.ref1 rel]
  obtain ⟨its, rv, pl, hz⟩ := I.list hl
  have ei := refs_of rv
  subst ei
  rw [List.length_map] at hz
  refine PySem.W.sorted_data (R := fun v b => v = Value.ref b.1) (enc := fun b : Addr × PyData => b.2) (bs := L) pl.isList (each_refs L fun _ _ => rfl) (each_refs L fun p hp => Dp.reads I p.2 _ _ (hd p hp) (rfl : RelV (.ref p.1) (.ref p.1))) al (.inl fun d1 h1 => ?_) hz (fun b hb => by have z := deep b hb; omega) fun out len each => ?_
  · obtain ⟨p, hp, rfl⟩ := List.mem_map.mp h1
    exact tups p hp
  · have eo := refs_each each
    subst eo
    obtain ⟨ep, he'⟩ := PyProof.Rows.sortedAll_at s.heap (L.map fun p => Value.ref p.1) ((L.mergeSort (PySem.W.dataLe false (·.2))).map fun q => Value.ref q.1).toArray
    have hlen : ((L.mergeSort (PySem.W.dataLe false (·.2))).map fun q => V.ref q.1).length <= sizeLine := by rw [List.length_map, List.length_mergeSort]; exact hz
    exact ⟨.ref _, upd H (s.heap.objs.size + 1) (.lst ((L.mergeSort (PySem.W.dataLe false (·.2))).map fun q => V.ref q.1)), I.laid (t' := s.toks) (fun _ _ => PyProof.Rows.sortedAll_old) (Nat.le_succ _) ⟨hlen, _, ep, vals_of _, he'⟩, rfl, q _ (I.hok.fresh (Nat.le_succ _))⟩
open Classical in
/-- sorted(l) -/
noncomputable def fSortL : Fn := fun as M => match as with
  | [a] => (lstAt M a).bind fun l => (datas l.2).bind fun ds => if PySem.W.AllAlike ds /\ (∀ d ∈ ds, ∃ y r, d = .tuple (y :: r)) /\ (∀ d ∈ ds, d.depth <= 60) then some (.obj M.length, M ++ [.lst ((ds.mergeSort (PySem.W.dataLe false id)).map W.d)]) else none
  | _ => none
theorem vc_sortL : VC C (rSortL C.K) fSortL := by
  intro φ M H xs as w M' Q sim r e q
  unfold fSortL at e
  split at e
  · rename_i a
    obtain ⟨⟨i, ws⟩, e1, e⟩ := bsome e
    obtain ⟨ds, e2, e⟩ := bsome e
    split at e
    · rename_i ok
      cases e
      obtain ⟨x, rfl, r1⟩ := one_arg r
      obtain ⟨h1, h2⟩ := lstAt_eq e1
      subst h1
      simp only at h2 e2
      have := datas_eq e2
      subst this
      obtain ⟨rfl, _⟩ := r1.isO
      obtain ⟨vs, hv, rr⟩ := sim.ob _ _ h2
      obtain ⟨L, rfl, hL, hp⟩ := pairs_of rr ok.2.1
      have inL : ∀ p ∈ L, p.2 ∈ ds := fun p hp' => by rw [<- hL]; exact List.mem_map_of_mem hp'
      refine ⟨_, L, rfl, SqL.of hv, fun p hp' => (hp p hp').dp, by rw [hL]; exact ok.1, fun p hp' => ok.2.1 _ (inL p hp'), fun p hp' => ok.2.2 _ (inL p hp'), fun p np => ?_⟩
      have mm : (L.mergeSort (PySem.W.dataLe false (·.2))).map (·.2) = (L.map (·.2)).mergeSort (PySem.W.dataLe false id) := List.map_mergeSort fun a _ b _ => rfl
      rw [hL] at mm
      have hp3 : ∀ p ∈ L.mergeSort (PySem.W.dataLe false (·.2)), Rp C.K H (.ref p.1) p.2 := fun p hp' => hp p ((List.mergeSort_perm L _).mem_iff.mp hp')
      have rr := rw_pairs (φ := φ) (n := M.length) _ hp3
      rw [mm] at rr
      exact q _ _ _ (.list sim np rr) .new
    · cases e
  · cases e
end
def iZip2W (a : EvA) : EvI := fun ρ M => (a ρ M).bind fun p => match p.1 with
  | [x, y] => (srcOf p.2 x).bind fun s1 => (srcOf p.2 y).bind fun s2 =>
    if s1.1.length = s2.1.length then some ((zip2W s1.1 s2.1, s1.2 ++ s2.2), p.2) else none
  | _ => none
end Va
set_option maxHeartbeats 1000000
namespace Va
open PySem PySem.Spec PyProof.Rows L2 Sa
end Va
namespace Va
open PySem PySem.Spec PyProof.Rows L2 Sa Gn
open Classical in
/-- what the generator gives, one by one: acc ahead -/
noncomputable def gxL (deps : List (Nat × MO)) (g : EvG) (t : EvT) (e : EvE) (ρ0 : Ev) : List W -> List W -> Mem -> Option (List W × Mem)
  | [], acc, M => if Deps deps M then some (acc, M) else none
  | w :: ws, acc, M => if Deps deps M then (g w ρ0).bind fun ρ1 => (t ρ1 M).bind fun p => if p.1 = true then (e ρ1 p.2).bind fun y =>
      if acc.length < sizeLine then gxL deps g t e ρ0 ws (acc ++ [y.1]) y.2 else none
    else gxL deps g t e ρ0 ws acc p.2 else none
noncomputable def eTupX (fi : EvI) (g : EvG) (t : EvT) (e : EvE) (vs : List Nat) : EvE := fun ρ M => (fi ρ M).bind fun p =>
  (gxL p.1.2 g t e (wipeW ρ vs) p.1.1 [] p.2).bind fun q => if q.1.length <= sizeLine then some (mkTup q.1, q.2) else none
section
variable {C : Ck} {P : Addr} {fi : EvI} {g : EvG} {ft : EvT} {fe : EvE} {vs is : List Nat}
theorem tupX_of (hP : P ∈ C.T) (hv : ∀ i ∈ is, i ∈ vs) {σ : L2.St} {H : Hp} {Q : VK} (h : tOf C (eTupX fi g ft fe vs) σ H Q) : tGx P (tiOf C fi) (uTup (tgOf C is g) (ttOf C ft) (tOf C fe) vs) σ H Q := by
  obtain ⟨ρ, φ, M, w, M', env, sim, e, q⟩ := h
  obtain ⟨⟨⟨items, deps⟩, M1⟩, e1, e⟩ := bsome e
  obtain ⟨⟨rs, Mz⟩, e2, e⟩ := bsome e
  split at e
  case isFalse => cases e
  rename_i small
  cases e
  refine ⟨ρ, φ, M, _, M1, env, sim, e1, fun J φ1 H1 s1 ok => ⟨s1.sim.tab P hP, fun H2 tb => ?_⟩⟩
  have s2 := Step.tab s1.sim hP tb
  refine ⟨fun i m ys Hx => ∃ φ M ws acc, m = ws.length /\ items.drop i = ws /\ i <= items.length /\ Step C φ1 M1 H2 φ M Hx /\ RwAll C φ M.length Hx ys acc /\ gxL deps g ft fe (wipeW ρ vs) ws acc M = some (rs, Mz),
    ?_, items.length, φ1, M1, items, [], rfl, rfl, Nat.zero_le _, .refl s2.sim, .nil, e2⟩
  intro i m ys Hx ⟨φ3, M3, ws, acc, hm, hd, hi, s3, ra, e3⟩
  have s13 : Step C φ1 M1 H1 φ3 M3 Hx := s2.trans s3
  have s03 : Step C φ M H φ3 M3 Hx := s1.trans s13
  cases ws with
  | nil =>
    have hn : i = items.length := by
      have := congrArg List.length hd
      simp at this
      omega
    simp only [gxL] at e3
    split at e3
    case isFalse => cases e3
    rename_i dp
    cases e3
    refine .inl ⟨by rw [hn]; exact (ok φ3 _ Hx s13 dp).2, by rw [ra.length]; exact small, fun T nT => ?_⟩
    have s4 := Step.tup (o := .tup ys) s3.sim nT
    exact q _ φ3 _ (s03.trans s4) (.tup (SqT.of upd_same) (ra.step s4))
  | cons w ws =>
    simp only [gxL] at e3
    split at e3
    case isFalse => cases e3
    rename_i dp
    obtain ⟨ρ4, e4, e3⟩ := bsome e3
    obtain ⟨⟨k, M5⟩, e5, e3⟩ := bsome e3
    have hk : items[i]? = some w := by
      have : (items.drop i)[0]? = some w := by rw [hd]; rfl
      simpa using this
    have hlt : i < items.length := (List.getElem?_eq_some_iff.mp hk).1
    have hd' : items.drop (i + 1) = ws := by
      rw [<- List.drop_drop, hd]; rfl
    obtain ⟨go, yl⟩ := (ok φ3 M3 Hx s13 dp).1 i w hk
    refine .inr ⟨go, fun ys' H' => ∃ φ M acc, Step C φ1 M1 H2 φ M H' /\ RwAll C φ M.length H' ys' acc /\ gxL deps g ft fe (wipeW ρ vs) ws acc M = some (rs, Mz), fun ys' H' ⟨φ, M, acc, h1, h2, h3⟩ => ⟨ws.length, by rw [hm]; exact Nat.lt_succ_self _, φ, M, ws, acc, rfl, hd', hlt, h1, h2, h3⟩, fun x H' hy => ?_⟩
    obtain ⟨st, rx⟩ := yl x H' hy
    have s0 : Step C φ M H φ3 M3 H' := s03.trans st
    refine ⟨wipeW ρ vs, φ3, M3, w, ρ4, (env.step s0).wipe vs, st.sim, rx, e4, fun σ4 env4 on4 => ⟨wipe_only hv on4, ρ4, φ3, M3, k, M5, env4, st.sim, e5, fun φ5 H5 s5 => ?_⟩⟩
    cases k with
    | false => exact ⟨φ5, M5, acc, s3.trans (st.trans s5), ra.step (st.trans s5), e3⟩
    | true =>
      obtain ⟨⟨y, M6⟩, e6, e3⟩ := bsome e3
      split at e3
      case isFalse => cases e3
      rename_i fits
      refine ⟨ρ4, φ5, M5, y, M6, env4.step s5, s5.sim, e6, fun v φ6 H6 s6 r6 => ⟨by rw [ra.length]; exact fits, φ6, M6, acc ++ [y], s3.trans (st.trans (s5.trans s6)), ?_, e3⟩⟩
      exact (ra.step (st.trans (s5.trans s6))).append (.cons r6 .nil)
end
section
variable {C : Ck} {X : Cx} {c P : Addr} {elt tg iter : Expr} {ifs : List Expr} {gpos p pos : Pos} {scope : Scope} {own : List (Str × Nat)} {fi : EvI} {g : EvG} {ft : EvT} {fe : EvE} {is : List Nat} {k : Nat}
def gscC (scope : Scope) : Bool := !scope.isCoroutine && (scope.names.all fun y => match y.2 with | .cell => false | _ => true) && (match scope.names.lookup (".0" : Str) with | some .local => true | _ => false)
theorem gsc_by (h : gscC scope = true) : GSc scope := by
  unfold gscC at h
  simp only [Bool.and_eq_true, Bool.not_eq_true', List.all_eq_true] at h
  obtain ⟨⟨h1, h2⟩, h3⟩ := h
  refine ⟨h1, fun y hy e => ?_, ?_⟩
  · have := h2 y hy
    rw [e] at this
    cases this
  · split at h3
    · assumption
    · cases h3
theorem q_tupX (hr : Room (k + 1) X.A) (hf : Free X.A) (hc : X.calm = true) (hN : X.N.Nodup) (hgl : Gl X "tuple") (hm : X.mg "tuple" = none) (TB : LamX.TabB X.base X.mg c P) (hP : P ∈ C.T) (hcode : X.env.code = .ref c) (S : GSc scope) (ok : BlkOk X.N X.env.scope scope own) (hi : PI X tg iter (tiOf C fi)) (hv : ∀ i ∈ is, i ∈ own.map (·.2))
    (hg : InG X scope k fun Y => PG Y tg (tgOf C is g)) (ht : InG X scope k fun Y => PTs Y ifs (ttOf C ft)) (he : InG X scope k fun Y => PE Y elt (tOf C fe)) (hs : ∀ v, genFold iter X.env v = pure v := by intro _; rfl)
    (hz : starEach [gexp elt tg iter ifs scope gpos] X.env = (false, eval (gexp elt tg iter ifs scope gpos) X.env) :: starEach [] X.env := by rfl) :
    PE X (.Call (.Name "tuple" p) [gexp elt tg iter ifs scope gpos] [] pos) (tOf C (eTupX fi g ft fe (own.map (·.2)))) :=
  (pe_tupX hr hf hc hN hgl hm TB hcode S ok hi hg ht he hs hz).weak fun _ _ _ h => tupX_of hP hv h
end
end Va
set_option maxHeartbeats 3200000
namespace Gn
open PySem PySem.Spec PyProof.Rows L2 Sa
end Gn
namespace Va
open PySem PySem.Spec PyProof.Rows L2 Sa Gn
/-- an int, or a truth as one -/
def asN : W -> Option Int
  | .d (.int i) => some i
  | .d (.bool b) => some (b2i b)
  | _ => none
open Classical in
noncomputable def gsL (deps : List (Nat × MO)) (g : EvG) (t : EvT) (e : EvE) (ρ0 : Ev) : Nat -> Int -> List W -> Mem -> Option (Int × Mem)
  | _, acc, [], M => if Deps deps M then some (acc, M) else none
  | 0, _, _ :: _, _ => none
  | n + 1, acc, w :: ws, M => if Deps deps M then (g w ρ0).bind fun ρ1 => (t ρ1 M).bind fun p => if p.1 = true then (e ρ1 p.2).bind fun y => (asN y.1).bind fun i => gsL deps g t e ρ0 n (acc + i) ws y.2
    else gsL deps g t e ρ0 (n + 1) acc ws p.2 else none
noncomputable def eSumX (fi : EvI) (g : EvG) (t : EvT) (e : EvE) (vs : List Nat) : EvE := fun ρ M => (fi ρ M).bind fun p =>
  (gsL p.1.2 g t e (wipeW ρ vs) sizeLine 0 p.1.1 p.2).bind fun q => some (.d (.int q.1), q.2)
end Va
set_option maxHeartbeats 1000000
namespace Va
open PySem PySem.Spec PyProof.Rows L2 Sa Gn
open Classical in
/-- the ints that the generator gives, acc ahead -/
noncomputable def gmL (deps : List (Nat × MO)) (g : EvG) (t : EvT) (e : EvE) (ρ0 : Ev) : Nat -> List Int -> List W -> Mem -> Option (List Int × Mem)
  | _, acc, [], M => if Deps deps M then some (acc, M) else none
  | 0, _, _ :: _, _ => none
  | n + 1, acc, w :: ws, M => if Deps deps M then (g w ρ0).bind fun ρ1 => (t ρ1 M).bind fun p => if p.1 = true then (e ρ1 p.2).bind fun y => (asI y.1).bind fun i => gmL deps g t e ρ0 n (acc ++ [i]) ws y.2
    else gmL deps g t e ρ0 (n + 1) acc ws p.2 else none
noncomputable def eMaxX (fi : EvI) (g : EvG) (t : EvT) (e : EvE) (vs : List Nat) : EvE := fun ρ M => (fi ρ M).bind fun p =>
  (gmL p.1.2 g t e (wipeW ρ vs) sizeLine [] p.1.1 p.2).bind fun q => if q.1 = [] then none else some (.d (.int (maxI q.1)), q.2)
section
variable {C : Ck} {P : Addr} {fi : EvI} {g : EvG} {ft : EvT} {fe : EvE} {vs is : List Nat}
theorem ints_inj : ∀ {xs ys : List Int}, xs.map V.int = ys.map V.int -> xs = ys
  | [], [], _ => rfl
  | x :: xs, y :: ys, h => by
    simp only [List.map_cons, List.cons.injEq, V.int.injEq] at h
    rw [h.1, ints_inj h.2]
theorem maxX_of (hP : P ∈ C.T) (hv : ∀ i ∈ is, i ∈ vs) {σ : L2.St} {H : Hp} {Q : VK} (h : tOf C (eMaxX fi g ft fe vs) σ H Q) : tGx P (tiOf C fi) (uMax (tgOf C is g) (ttOf C ft) (tOf C fe) vs) σ H Q := by
  obtain ⟨ρ, φ, M, w, M', env, sim, e, q⟩ := h
  obtain ⟨⟨⟨items, deps⟩, M1⟩, e1, e⟩ := bsome e
  obtain ⟨⟨all, Mz⟩, e2, e⟩ := bsome e
  split at e
  case isTrue => cases e
  rename_i some'
  cases e
  refine ⟨ρ, φ, M, _, M1, env, sim, e1, fun J φ1 H1 s1 ok => ⟨s1.sim.tab P hP, fun H2 tb => ?_⟩⟩
  have s2 := Step.tab s1.sim hP tb
  -- i things are walked, ys of them came, acc are their ints
  refine ⟨fun i m ys Hx => ∃ φ M acc, m = items.length - i /\ i <= items.length /\ Step C φ1 M1 H2 φ M Hx /\ ys.length <= sizeLine /\ ys = acc.map V.int /\ gmL deps g ft fe (wipeW ρ vs) (sizeLine - ys.length) acc (items.drop i) M = some (all, Mz),
    ?_, items.length, φ1, M1, [], rfl, Nat.zero_le _, .refl s2.sim, Nat.zero_le _, rfl, e2⟩
  rintro i m ys Hx ⟨φ3, M3, acc, hm, hi, s3, le, ey, e3⟩
  have s13 : Step C φ1 M1 H1 φ3 M3 Hx := s2.trans s3
  have s03 : Step C φ M H φ3 M3 Hx := s1.trans s13
  rcases Nat.lt_or_ge i items.length with hlt | hge
  · have hd : items.drop i = items[i] :: items.drop (i + 1) := List.drop_eq_getElem_cons hlt
    have hk : items[i]? = some items[i] := List.getElem?_eq_getElem hlt
    rw [hd] at e3
    generalize items[i] = w at e3 hk
    cases room : sizeLine - ys.length with
    | zero => rw [room] at e3; unfold gmL at e3; cases e3
    | succ n =>
      rw [room] at e3
      unfold gmL at e3
      split at e3
      case isFalse => cases e3
      rename_i dp
      obtain ⟨ρ4, e4, e3⟩ := bsome e3
      obtain ⟨⟨k, M5⟩, e5, e3⟩ := bsome e3
      obtain ⟨go, yl⟩ := (ok φ3 M3 Hx s13 dp).1 i w hk
      refine .inr ⟨go, fun ys' H' => ∃ φ M acc, Step C φ1 M1 H2 φ M H' /\ ys'.length <= sizeLine /\ ys' = acc.map V.int /\ gmL deps g ft fe (wipeW ρ vs) (sizeLine - ys'.length) acc (items.drop (i + 1)) M = some (all, Mz),
        fun ys' H' ⟨φ, M, acc, h⟩ => ⟨items.length - (i + 1), by omega, φ, M, acc, rfl, hlt, h⟩, fun x H' hy => ?_⟩
      obtain ⟨st, rx⟩ := yl x H' hy
      refine ⟨wipeW ρ vs, φ3, M3, w, ρ4, (env.step (s03.trans st)).wipe vs, st.sim, rx, e4, fun σ4 env4 on4 => ⟨wipe_only hv on4, ρ4, φ3, M3, k, M5, env4, st.sim, e5, fun φ5 H5 s5 => ?_⟩⟩
      cases k with
      | false =>
        refine ⟨φ5, M5, acc, s3.trans (st.trans s5), le, ey, ?_⟩
        rw [room]
        exact e3
      | true =>
        obtain ⟨⟨y, M6⟩, e6, e3⟩ := bsome e3
        obtain ⟨j, ej, e3⟩ := bsome e3
        cases asI_eq ej
        refine ⟨ρ4, φ5, M5, _, M6, env4.step s5, s5.sim, e6, fun v φ6 H6 s6 r6 => ?_⟩
        cases r6.isI
        have n' : sizeLine - (ys ++ [V.int j]).length = n := by rw [List.length_append]; simp; omega
        exact ⟨by omega, ⟨j, rfl⟩, φ6, M6, acc ++ [j], s3.trans (st.trans (s5.trans s6)), by rw [List.length_append]; simp; omega, by rw [ey]; simp, by rw [n']; exact e3⟩
  · have hn : i = items.length := Nat.le_antisymm hi hge
    rw [List.drop_eq_nil_of_le hge] at e3
    unfold gmL at e3
    split at e3
    case isFalse => cases e3
    rename_i dp
    cases e3
    refine .inl ⟨by rw [hn]; exact (ok φ3 _ Hx s13 dp).2, fun none' => ?_, fun js m ej mem top => ?_⟩
    · rw [ey] at none'
      exact some' (List.map_eq_nil_iff.mp none')
    · rw [ey] at ej
      have same := ints_inj ej
      subst same
      have z := q (.int (maxI all)) φ3 _ s03 (.d (.int _))
      rwa [maxI_one mem top] at z
end
section
variable {C : Ck} {X : Cx} {c P : Addr} {elt tg iter : Expr} {ifs : List Expr} {gpos p pos : Pos} {scope : Scope} {own : List (Str × Nat)} {fi : EvI} {g : EvG} {ft : EvT} {fe : EvE} {is : List Nat} {k : Nat}
theorem q_maxX (hr : Room (k + 1) X.A) (hf : Free X.A) (hc : X.calm = true) (hN : X.N.Nodup) (hgl : Gl X "max") (hm : X.mg "max" = none) (TB : LamX.TabB X.base X.mg c P) (hP : P ∈ C.T) (hcode : X.env.code = .ref c) (S : GSc scope) (ok : BlkOk X.N X.env.scope scope own) (hi : PI X tg iter (tiOf C fi)) (hv : ∀ i ∈ is, i ∈ own.map (·.2))
    (hg : InG X scope k fun Y => PG Y tg (tgOf C is g)) (ht : InG X scope k fun Y => PTs Y ifs (ttOf C ft)) (he : InG X scope k fun Y => PE Y elt (tOf C fe)) (hs : ∀ v, genFold iter X.env v = pure v := by intro _; rfl)
    (hz : starEach [gexp elt tg iter ifs scope gpos] X.env = (false, eval (gexp elt tg iter ifs scope gpos) X.env) :: starEach [] X.env := by rfl) :
    PE X (.Call (.Name "max" p) [gexp elt tg iter ifs scope gpos] [] pos) (tOf C (eMaxX fi g ft fe (own.map (·.2)))) :=
  (pe_maxX hr hf hc hN hgl hm TB hcode S ok hi hg ht he hs hz).weak fun _ _ _ h => maxX_of hP hv h
end
section
variable {C : Ck} {X : Cx} {fi : EvE} {i : Nat} {x : Str} {e : Expr}
/-- a function may be put for another one that tells the same where the slots are there -/
theorem q_alt {f f' : EvE} (hx : X.N[i]? = some x) (h : PE X e (tOf C f)) (eq : ∀ ρ M r, i < ρ.length -> f' ρ M = some r -> f ρ M = some r) : PE X e (tOf C f') :=
  ⟨fun pins s σ H Q I ⟨ρ, φ, M, w, M', env, sim, er, q⟩ => h.run pins s σ H Q I ⟨ρ, φ, M, w, M', env, sim, eq ρ M _ (by
    have l1 : ρ.length = σ.length := env.1.symm
    have l2 := I.len
    have l3 := (List.getElem?_eq_some_iff.mp hx).1
    omega) er, q⟩⟩
/-- what is walked, and that it stays -/
theorem iSeq_of {ρ : Ev} {M M1 : Mem} {w : W} {ws : List W} (e : fi ρ M = some (w, M1)) (s : seqOf M1 w = some ws) : ∃ deps, iSeq fi ρ M = some ((ws, deps), M1) /\ Deps deps M1 := by
  unfold iSeq
  rw [e]
  cases w with
  | obj j =>
    have s : (match M1[j]? with | some (.lst us) => some us | _ => none) = some ws := s
    cases h : M1[j]? with
    | none => rw [h] at s; cases s
    | some o =>
      cases o with
      | lst us =>
        rw [h] at s
        cases s
        exact ⟨[(j, .lst ws)], by simp [lstAt, h], by simpa using h⟩
      | _ => rw [h] at s; cases s
  | d y => exact ⟨[], by simp only [Option.bind_some]; rw [show tupOf (.d y) = some ws from s]; rfl, .nil⟩
  | pack us => exact ⟨[], by simp only [Option.bind_some]; rw [show tupOf (.pack us) = some ws from s]; rfl, .nil⟩
  | scr => cases s
  | fn => cases s
theorem slot_set {ρ : Ev} {w : W} (h : i < ρ.length) : eVar i (ρ.set i (some w)) M = some (w, M) := by
  unfold eVar
  rw [List.getElem?_set_self h]
theorem gx_ix {deps : List (Nat × MO)} {ρ : Ev} {M : Mem} {k : Nat} (hρ : i < ρ.length) (dp : Deps deps M) : ∀ {ws us : List W} (acc : List W), itemsAt k ws = some us -> acc.length + us.length <= sizeLine ->
    gxL deps (gN i) tTrue (eOp oIx (eVar i) (eC (.int k))) ρ ws acc M = some (acc ++ us, M)
  | [], us, acc, h, _ => by
    cases h
    simp [gxL, dp]
  | w :: ws, us, acc, h, le => by
    obtain ⟨vs, h1, h⟩ := bsome h
    obtain ⟨u, h2, h⟩ := bsome h
    obtain ⟨r, h3, h⟩ := bsome h
    cases h
    have fits : acc.length < sizeLine := by rw [List.length_cons] at le; omega
    have here : eOp oIx (eVar i) (eC (.int k)) (ρ.set i (some w)) M = some (u, M) := by
      have sq : seqOf M w = some vs := by
        cases w with
        | obj j => cases h1
        | _ => exact h1
      have at' : atI vs (k : Int) = some u := by
        have lt := (List.getElem?_eq_some_iff.mp h2).1
        exact atI_nat h2
      show (eVar i (ρ.set i (some w)) M).bind _ = _
      rw [slot_set hρ]
      simp only [Option.bind_some]
      show (eC _ _ _).bind _ = _
      simp only [eC, Option.bind_some]
      unfold oIx
      simp [asI, sq, at']
    have ih := gx_ix hρ dp (acc ++ [u]) h3 (by rw [List.length_append]; simp only [List.length_cons, List.length_nil] at le ⊢; omega)
    simp only [gxL, if_pos dp, gN, Option.bind_some, tTrue, if_true, here, if_pos fits, ih]
    simp
theorem q_tupIx {k : Nat} (hx : X.N[i]? = some x) (h : PE X e (tOf C (eTupX (iSeq fi) (gN i) tTrue (eOp oIx (eVar i) (eC (.int k))) [i]))) : PE X e (tOf C (eTupIx k fi)) :=
  q_alt hx h fun ρ M r hρ er => by
    obtain ⟨⟨w, M1⟩, e1, er⟩ := bsome er
    obtain ⟨ws, e2, er⟩ := bsome er
    obtain ⟨us, e3, er⟩ := bsome er
    split at er
    case isFalse => cases er
    rename_i small
    cases er
    obtain ⟨deps, e4, dp⟩ := iSeq_of e1 e2
    have hρ' : i < (wipeW ρ [i]).length := by simpa [wipeW] using hρ
    show (iSeq fi ρ M).bind _ = _
    rw [e4]
    simp only [Option.bind_some]
    rw [gx_ix hρ' dp [] e3 (by simpa using small)]
    simp [small]
theorem gm_abs {deps : List (Nat × MO)} {ρ : Ev} {M : Mem} (hρ : i < ρ.length) (dp : Deps deps M) : ∀ {ws : List W} {is : List Int} (n : Nat) (acc : List Int), intsOf ws = some is -> is.length <= n ->
    gmL deps (gN i) tTrue (eCall fAbs (aCons (eVar i) aNil)) ρ n acc ws M = some (acc ++ is.map fun n => if n < 0 then -n else n, M)
  | [], is, n, acc, h, _ => by
    cases h
    cases n <;> simp [gmL, dp]
  | w :: ws, is, n, acc, h, le => by
    obtain ⟨j, h0, h⟩ := bsome h
    obtain ⟨r, h1, h⟩ := bsome h
    cases h
    cases asI_eq h0
    · cases n with
      | zero => simp at le
      | succ n =>
        have here : eCall fAbs (aCons (eVar i) aNil) (ρ.set i (some (.d (.int j)))) M = some (.d (.int (if j < 0 then -j else j)), M) := by
          show (((eVar i _ M).bind _).bind _) = _
          rw [slot_set hρ]
          rfl
        have ih := gm_abs hρ dp n (acc ++ [if j < 0 then -j else j]) h1 (by simpa using le)
        simp only [gmL, if_pos dp, gN, Option.bind_some, tTrue, if_true, here, asI, ih]
        simp
theorem q_maxAbs (hx : X.N[i]? = some x) (h : PE X e (tOf C (eMaxX (iSeq fi) (gN i) tTrue (eCall fAbs (aCons (eVar i) aNil)) [i]))) : PE X e (tOf C (eMaxAbs fi)) :=
  q_alt hx h fun ρ M r hρ er => by
    obtain ⟨⟨w, M1⟩, e1, er⟩ := bsome er
    obtain ⟨ws, e2, er⟩ := bsome er
    obtain ⟨is, e3, er⟩ := bsome er
    split at er
    case isTrue => cases er
    rename_i ne
    split at er
    case isFalse => cases er
    rename_i small
    cases er
    obtain ⟨deps, e4, dp⟩ := iSeq_of e1 e2
    have hρ' : i < (wipeW ρ [i]).length := by simpa [wipeW] using hρ
    show (iSeq fi ρ M).bind _ = _
    rw [e4]
    simp only [Option.bind_some]
    rw [gm_abs hρ' dp sizeLine [] e3 small]
    simp [ne]
end
end Va
namespace Va
open PySem PySem.Spec PyProof.Rows L2 Sa Gn
/-- it can be shown -/
def ShowOk (d : PyData) : Prop := match d with
  | .int i => i.natAbs.log2 < 1920
  | .bool _ => True
  | .none => True
  | .str _ => False
  | d => d.showable = true /\ d.hasDict = false /\ d.depth <= 60 /\ d.shown.length <= sizeLine
def rRep (K : PySem.W.Frag) : List V -> Hp -> VK -> Prop := fun xs H Q => ∃ (x : V) (d : PyData), xs = [x] /\ Dp K H x d /\ ShowOk d /\ Q (.str d.shown) H
theorem call_rep {X : Cx} (hf : Free X.A) (hu : X.A.units + 64 < cLine) : CallR X (.builtin "repr") (rRep X.K) := by
  intro pins s σ H xs us Q I rel h
  obtain ⟨x, d, rfl, hd, ok, q⟩ := h
  obtain ⟨u, rfl, r1⟩ := rel.one
  cases d with
  | none =>
    cases hd
    cases (show u = .none from r1)
    exact PySem.P.repr_of_none ⟨.str _, H, I.tok _, ⟨_, rfl⟩, q⟩
  | bool b =>
    cases hd
    cases (show u = .bool b from r1)
    refine PySem.P.repr_of_bool ⟨.str _, H, I.tok _, ⟨_, rfl⟩, ?_⟩
    cases b <;> exact q
  | int i =>
    cases hd
    obtain ⟨t, rfl⟩ := r1
    exact PySem.P.repr_of_int ok ⟨.str _, H, I.tok _, ⟨_, rfl⟩, q⟩
  | str x => exact ok.elim
  | dict kvs => cases hd
  | tuple ds =>
    cases hd with
    | tup sq al =>
      exact call_shown hf hu pins s σ H _ _ Q I (.cons r1 .nil) ⟨_, _, rfl, .tup sq al, ok.1, ok.2.1, ok.2.2.1, ok.2.2.2, q⟩
  | list ds =>
    cases hd with
    | lst sq al =>
      exact call_shown hf hu pins s σ H _ _ Q I (.cons r1 .nil) ⟨_, _, rfl, .lst sq al, ok.1, ok.2.1, ok.2.2.1, ok.2.2.2, q⟩
open Classical in
noncomputable def fRep : Fn := fun as M => match as with
  | [w] => (deepD M 4 w).bind fun d => if ShowOk d then some (.d (.str d.shown), M) else none
  | _ => none
end Va
namespace Va
open PySem PySem.Spec PyProof.Rows L2 Sa Gn
/-- + : ints, tuples, lists -/
def oAddG : O2 := fun a b M => match a, b with
  | .d (.int i), .d (.int j) => some (.d (.int (i + j)), M)
  | .obj i, .obj j => oCat (.obj i) (.obj j) M
  | a, b => oCatT a b M
end Va
namespace Va
open PySem PySem.Spec PyProof.Rows L2 Sa
end Va
namespace Va
open PySem PySem.Spec PyProof.Rows L2 Sa
def augI (g : Int -> Int -> Int) : Option (Option W) -> W -> Option W
  | some (some (.d (.int m))), .d (.int n) => some (.d (.int (g m n)))
  | _, _ => none
def sAug (g : Int -> Int -> Int) (i : Nat) (a : EvE) : EvS := fun ρ M => (a ρ M).bind fun p => (augI g ρ[i]? p.1).bind fun w => some (.nx (ρ.set i (some w)) p.2)
theorem augI_eq {g : Int -> Int -> Int} {o : Option (Option W)} {y w : W} (h : augI g o y = some w) : ∃ m n, o = some (some (.d (.int m))) /\ y = .d (.int n) /\ w = .d (.int (g m n)) := by
  unfold augI at h
  split at h
  · cases h; exact ⟨_, _, rfl, rfl, rfl⟩
  · cases h
section
variable {C : Ck} {X : Cx} {e : Expr} {fa : EvE} {pos : Pos}
theorem q_aug {g : Int -> Int -> Int} {i : Nat} {x : Str} {op : Operator} {pos' : Pos} (ho : PIp X op (ipI g)) (hN : X.N.Nodup) (hi : X.N[i]? = some x) (hx : Loc X.env.scope x) (he : PE X e (tOf C fa)) (hf : X.fn x = true ∨ X.env.scope.names.lookup x = some .local := by first | exact .inl rfl | exact .inr rfl | assumption) :
    PS X (.AugAssign (.Name x pos') op e pos) (tsOf C (sAug g i fa)) :=
  (ps_aug hN hi hx he ho hf).weak fun D σ H ⟨ρ, φ, M, o, env, sim, e, q⟩ => by
    obtain ⟨⟨y, M1⟩, e1, e⟩ := bsome e
    obtain ⟨w, e2, e⟩ := bsome e
    cases e
    obtain ⟨m, n, h1, rfl, rfl⟩ := augI_eq e2
    obtain ⟨v, h3, h4⟩ := env.2 i _ h1
    obtain rfl := h4.isI
    refine ⟨_, h3, ρ, φ, M, _, M1, env, sim, e1, fun v φ1 H1 s1 r1 => ?_⟩
    obtain rfl := r1.isI
    exact ⟨m, n, rfl, rfl, q _ φ1 H1 s1 ((env.step s1).set (.d (.int _)) i)⟩
end
end Va
namespace Va
open PySem PySem.Spec PyProof.Rows L2 L2.DX Sa
/-- the dict of the memory -/
def dicAt (M : Mem) : W -> Option (Nat × List (PyData × PyData))
  | .obj i => match M[i]? with
    | some (.dic es _) => some (i, es)
    | _ => none
  | _ => none
/-- how often it was touched -/
def stampAt (M : Mem) (i : Nat) : Nat := match M[i]? with
  | some (.dic _ n) => n
  | _ => 0
theorem dicAt_eq {M : Mem} {w : W} {i : Nat} {es : List (PyData × PyData)} (h : dicAt M w = some (i, es)) : w = .obj i /\ M[i]? = some (.dic es (stampAt M i)) := by
  cases w with
  | obj j =>
    have h : (match M[j]? with | some (.dic es _) => some (j, es) | _ => none) = some (i, es) := h
    cases e : M[j]? with
    | none => rw [e] at h; cases h
    | some o =>
      cases o with
      | dic es' n =>
        rw [e] at h
        cases h
        exact ⟨rfl, by rw [e]; unfold stampAt; rw [e]⟩
      | _ => rw [e] at h; cases h
  | _ => cases h
/-- a key of a dict: a tuple of flat data -/
def keyD : W -> Option PyData
  | .d (.tuple ds) => if flat (.tuple ds) = true /\ (nk (.tuple ds)).depth <= 8 then some (.tuple ds) else none
  | _ => none
theorem keyD_eq {w : W} {d : PyData} (h : keyD w = some d) : w = .d d /\ (∃ ds, d = .tuple ds) /\ flat d = true /\ (nk d).depth <= 8 := by
  unfold keyD at h
  split at h
  · rename_i ds
    split at h
    · rename_i c
      cases h
      exact ⟨rfl, ⟨ds, rfl⟩, c⟩
    · cases h
  · cases h
def asD : W -> Option PyData
  | .d x => some x
  | _ => none
theorem asD_eq {w : W} {d : PyData} (h : asD w = some d) : w = .d d := by
  cases w <;> cases h
  rfl
/-- what stands at a key; a key stored -/
def dGet (es : List (PyData × PyData)) (k : PyData) : Option PyData := (es.find? fun e => decide (nk e.1 = nk k)).map (·.2)
def dPut (es : List (PyData × PyData)) (k v : PyData) : List (PyData × PyData) := if (dGet es k).isSome then es.map fun e => if nk e.1 = nk k then (e.1, v) else e else es ++ [(k, v)]
section
variable {K : PySem.W.Frag} {H : Hp}
theorem Rp.isTup {v : V} {ds : List PyData} (r : Rp K H v (.tuple ds)) : ∃ a, v = .ref a := by
  cases r with | tup => exact ⟨_, rfl⟩
theorem DicR.length {L : List KEnt} {es : List (PyData × PyData)} (h : DicR K H L es) : L.length = es.length := by
  induction h with
  | nil => rfl
  | cons _ _ _ _ _ ih => simp [ih]
theorem DicR.keys {L : List KEnt} {es : List (PyData × PyData)} (h : DicR K H L es) : KeysAt K H L := by
  induction h with
  | nil => intro p hp; cases hp
  | cons a f d v _ ih =>
    intro p hp
    rcases List.mem_cons.mp hp with rfl | hp
    · exact ⟨_, a.dp, f, rfl, d⟩
    · exact ih p hp
theorem DicR.get {L : List KEnt} {es : List (PyData × PyData)} (h : DicR K H L es) (k : PyData) : (kdGet L (nk k) = none /\ dGet es k = none) ∨ ∃ v d, kdGet L (nk k) = some v /\ dGet es k = some d /\ Rp K H v d := by
  induction h with
  | nil => exact .inl ⟨rfl, rfl⟩
  | @cons a v L k' d es r f dp rv _ ih =>
    by_cases e : nk k' = nk k
    · exact .inr ⟨v, d, by simp [kdGet, e], by simp [dGet, e], rv⟩
    · rcases ih with ⟨h1, h2⟩ | ⟨v', d', h1, h2, h3⟩
      · exact .inl ⟨by simpa [kdGet, e] using h1, by simpa [dGet, e] using h2⟩
      · exact .inr ⟨v', d', by simpa [kdGet, e] using h1, by simpa [dGet, e] using h2, h3⟩
theorem DicR.maps {L : List KEnt} {es : List (PyData × PyData)} (h : DicR K H L es) (k : PyData) {v : V} {d : PyData} (rv : Rp K H v d) :
    DicR K H (L.map fun p => if p.2.1 = nk k then (p.1, p.2.1, v) else p) (es.map fun e => if nk e.1 = nk k then (e.1, d) else e) := by
  induction h with
  | nil => exact .nil
  | @cons a v' L k' d' es r f dp rv' _ ih =>
    simp only [List.map_cons]
    by_cases e : nk k' = nk k
    · rw [if_pos e, if_pos e]
      exact .cons r f dp rv ih
    · rw [if_neg e, if_neg e]
      exact .cons r f dp rv' ih
theorem DicR.snoc {L : List KEnt} {es : List (PyData × PyData)} (h : DicR K H L es) {a : Addr} {k : PyData} {v : V} {d : PyData} (r : Rp K H (.ref a) k) (f : flat k = true) (dp : (nk k).depth <= 8) (rv : Rp K H v d) : DicR K H (L ++ [(a, nk k, v)]) (es ++ [(k, d)]) := by
  induction h with
  | nil => exact .cons r f dp rv .nil
  | cons r' f' dp' rv' _ ih => exact .cons r' f' dp' rv' ih
theorem DicR.put {L : List KEnt} {es : List (PyData × PyData)} (h : DicR K H L es) {a : Addr} {k : PyData} {v : V} {d : PyData} (r : Rp K H (.ref a) k) (f : flat k = true) (dp : (nk k).depth <= 8) (rv : Rp K H v d) : DicR K H (kdPut L a (nk k) v) (dPut es k d) := by
  unfold kdPut dPut
  rcases h.get k with ⟨h1, h2⟩ | ⟨v', d', h1, h2, _⟩
  · rw [h1, h2, if_neg (by simp), if_neg (by simp)]
    exact h.snoc r f dp rv
  · rw [h1, h2, if_pos (by simp), if_pos (by simp)]
    exact h.maps k rv
end
section
variable {C : Ck} {φ : Nat -> Addr} {M : Mem} {H : Hp}
/-- a thing of the memory is another one from now on -/
theorem Step.setO (S : Sim C φ M H) {i : Nat} {mo0 mo : MO} {o : HO} (e : M[i]? = some mo0) (st : ∀ es n, mo0 = .dic es n -> ∃ es' n', mo = .dic es' n' /\ n < n') (hr : Keep C.K H (upd H (φ i) o) -> RO C φ M.length (upd H (φ i) o) (φ i) mo) : Step C φ M H φ (M.set i mo) (upd H (φ i) o) := by
  obtain ⟨o0, h0, k0⟩ := (S.ob i _ e).some
  have hi : i < M.length := (List.getElem?_eq_some_iff.mp e).1
  have other : ∀ {b : Addr} {ob : HO}, H b = some ob -> (∀ vs, ob ≠ .lst vs) -> (∀ p, ob ≠ .ext p) -> (∀ L, ob ≠ .dK L) -> b ≠ φ i := fun {b ob} hb n1 n2 n3 z => by
    rw [z, h0] at hb
    cases hb
    rcases k0 with ⟨vs, rfl⟩ | ⟨p, rfl⟩ | ⟨L, rfl⟩
    · exact n1 _ rfl
    · exact n2 _ rfl
    · exact n3 _ rfl
  have kp : Keep C.K H (upd H (φ i) o) := fun a us h => by
    rcases h with (h | ⟨ob, h⟩) | h
    · exact .inl (.inl (by rw [upd_ne (other h (fun _ z => nomatch z) (fun _ z => nomatch z) fun _ z => nomatch z)]; exact h))
    · exact .inl (.inr ⟨ob, by rw [upd_ne (other h (fun _ z => nomatch z) (fun _ z => nomatch z) fun _ z => nomatch z)]; exact h⟩)
    · exact .inr h
  refine ⟨fun _ _ => rfl, by simp, kp, ⟨fun j mo' ej => ?_, fun j k hj hk ejk => S.inj j k (by simpa using hj) (by simpa using hk) ejk, fun P hP => ?_, S.scr.keep fun ob e2 => ?_, fun q hq => ⟨(S.lam q hq).1, (S.lam q hq).2.move (fun ps h => by rw [upd_ne (other h (fun _ z => nomatch z) (fun _ z => nomatch z) fun _ z => nomatch z)]; exact h) fun c h n => ⟨by rw [upd_ne (Ne.symm (n i hi))]; exact h, fun j hj => n j (by simpa using hj)⟩⟩⟩, fun j es n ej => ?_⟩
  · rw [List.length_set]
    by_cases h : j = i
    · subst h
      rw [List.getElem?_set_self hi] at ej
      cases ej
      exact hr kp
    · rw [List.getElem?_set_ne (Ne.symm h)] at ej
      have hj : j < M.length := (List.getElem?_eq_some_iff.mp ej).1
      exact (S.ob j mo' ej).move kp (fun _ _ => rfl) (Nat.le_refl _) (upd_ne fun z => h (S.inj j i hj hi z))
  · obtain ⟨ps, h, q⟩ := S.tab P hP
    exact ⟨ps, by rw [upd_ne (other h (fun _ z => nomatch z) (fun _ z => nomatch z) fun _ z => nomatch z)]; exact h, q⟩
  · rw [upd_ne (other e2 (fun _ z => nomatch z) (fun _ z => nomatch z) fun _ z => nomatch z)]; exact e2
  · have hj : j < M.length := (List.getElem?_eq_some_iff.mp ej).1
    by_cases h : j = i
    · subst h
      rw [e] at ej
      cases ej
      obtain ⟨es', n', rfl, lt⟩ := st es n rfl
      exact ⟨es', n', List.getElem?_set_self hi, Nat.le_of_lt lt, fun z => by omega⟩
    · exact ⟨es, n, by rw [List.getElem?_set_ne (Ne.symm h)]; exact ej, Nat.le_refl _, fun _ => ⟨rfl, upd_ne fun z => h (S.inj j i hj hi z)⟩⟩
/-- more is tracked, nothing else -/
theorem Step.more (S : Sim C φ M H) {H' : Hp} (ext : ∀ b o, H b = some o -> H' b = some o) : Step C φ M H φ M H' := by
  have kp : Keep C.K H H' := fun a us h => by
    rcases h with (h | ⟨ob, h⟩) | h
    · exact .inl (.inl (ext _ _ h))
    · exact .inl (.inr ⟨ob, ext _ _ h⟩)
    · exact .inr h
  refine ⟨fun _ _ => rfl, Nat.le_refl _, kp, ⟨fun j mo ej => ?_, S.inj, fun P hP => ?_, S.scr.keep fun ob e => ext _ _ e, fun q hq => ⟨(S.lam q hq).1, (S.lam q hq).2.move (fun ps h => ext _ _ h) fun c h n => ⟨ext _ _ h, n⟩⟩⟩, .same fun j es n ej => ⟨ej, by obtain ⟨o, ho, _⟩ := (S.ob j _ ej).some; rw [ho]; exact ext _ _ ho⟩⟩
  · have r := S.ob j mo ej
    obtain ⟨o, ho, _⟩ := r.some
    exact r.move kp (fun _ _ => rfl) (Nat.le_refl _) (by rw [ho]; exact ext _ _ ho)
  · obtain ⟨ps, h, q⟩ := S.tab P hP
    exact ⟨ps, ext _ _ h, q⟩
end
theorem _root_.L2.Room.units128 {k : Nat} {A : Around} (hr : Room k A) : A.units + 128 < cLine := by
  have := hr.un
  omega
def eDict0 : EvE := fun _ M => some (.obj M.length, M ++ [.dic [] 0])
def sPutD (e o i : EvE) : EvS := fun ρ M => (e ρ M).bind fun p => (o ρ p.2).bind fun q => (i ρ q.2).bind fun r => (asD p.1).bind fun v => (keyD r.1).bind fun k => (dicAt r.2 q.1).bind fun l =>
  if l.2.length < sizeLine then some (.nx ρ (r.2.set l.1 (.dic (dPut l.2 k v) (stampAt r.2 l.1 + 1)))) else none
def oIxD : O2 := fun a b M => (dicAt M a).bind fun l => (keyD b).bind fun k => (dGet l.2 k).bind fun v => some (.d v, M)
open Classical in
/-- sorted(o.items()) -/
noncomputable def eSortIt (o : EvE) : EvE := fun ρ M => (o ρ M).bind fun q => (dicAt q.2 q.1).bind fun l =>
  if Rows (l.2.map itD) /\ (∀ e ∈ l.2, (itD e).depth <= 60) then some (.obj q.2.length, q.2 ++ [.lst (((l.2.map itD).mergeSort (PySem.W.dataLe false id)).map W.d)]) else none
section
variable {C : Ck} {X : Cx} {e o i f : Expr} {fe fo fi : EvE} {pos po : Pos}
theorem q_dict0 (hw : X.w = C.w) : PE X (.Dict [] [] pos) (tOf C eDict0) :=
  pe_kdNew.weak fun σ H Q ⟨ρ, φ, M, w, M', env, sim, e, q⟩ p np => by
    cases e
    rw [hw]
    exact q _ _ _ (Step.new sim np fun φ' _ => ⟨[], .of upd_same, .nil⟩) .new
theorem q_putD (hw : X.w = C.w) (hK : X.K = C.K) (hu : X.A.units + 64 < cLine) (he : PE X e (tOf C fe)) (ho : PE X o (tOf C fo)) (hi : PE X i (tOf C fi)) (hg : PG X (.Subscript o i po) (gSub (tOf C fo) (tOf C fi) (rKdSet X.K X.w)))
    (hs : swapsWithSole [.Subscript o i po] e pos.line X.env = pure false := by rfl) (hw' : swappedStores [.Subscript o i po] e X.env = pure none := by rfl)
    (h1 : (assignEach [.Subscript o i po] X.env).map (·.2) = [assign (.Subscript o i po) X.env] := by rfl) : PS X (.Assign [.Subscript o i po] e pos) (tsOf C (sPutD fe fo fi)) :=
  (ps_asg he hg hs hw' h1).weak fun D σ H ⟨ρ, φ, M, o, env, sim, e, q⟩ => by
    obtain ⟨⟨x, M1⟩, e1, e⟩ := bsome e
    obtain ⟨⟨y, M2⟩, e2, e⟩ := bsome e
    obtain ⟨⟨z, M3⟩, e3, e⟩ := bsome e
    obtain ⟨v, hv, e⟩ := bsome e
    obtain ⟨k, hk, e⟩ := bsome e
    obtain ⟨⟨l, es⟩, hl, e⟩ := bsome e
    split at e
    case isFalse => cases e
    rename_i small
    cases e
    obtain ⟨ey, el⟩ := dicAt_eq hl
    obtain ⟨ez, ⟨ds, ek⟩, fl, dp⟩ := keyD_eq hk
    have ex := asD_eq hv
    simp only at ey ez ex el small
    subst ey ez ex
    refine ⟨ρ, φ, M, _, M1, env, sim, e1, fun u φ1 H1 s1 r1 => ⟨ρ, φ1, M1, _, M2, env.step s1, s1.sim, e2, fun u2 φ2 H2 s2 r2 => ⟨ρ, φ2, M2, _, M3, (env.step s1).step s2, s2.sim, e3, fun u3 φ3 H3 s3 r3 => ?_⟩⟩⟩
    obtain ⟨rfl, hlt⟩ := (r2.step s3).isO
    cases r3 with | d r3 =>
    obtain ⟨ka, rfl⟩ := Rp.isTup (ek ▸ r3)
    cases (r1.step s2).step s3 with | d rx =>
    obtain ⟨L, hL, dr⟩ := s3.sim.ob l _ el
    refine ⟨φ3 l, L, ka, k, rfl, rfl, by rw [hw]; exact hL, by rw [hK]; exact dr.keys, by rw [hK]; exact r3.dp, fl, dp, by rw [dr.length]; exact small, ?_⟩
    rw [hw]
    have s4 := Step.setO (mo := .dic (dPut es k v) (stampAt M3 l + 1)) (o := KdO C.w (φ3 l) (kdPut L ka (nk k) u)) s3.sim el (fun es n e => ⟨_, _, rfl, by cases e; exact Nat.lt_succ_self _⟩) fun kp => ⟨_, .of upd_same, (dr.put r3 fl dp rx).keep kp⟩
    have s5 := s1.trans (s2.trans (s3.trans s4))
    exact q σ φ3 _ s5 (env.step s5)
/-- entries and data, side by side -/
theorem DicR.items {K : PySem.W.Frag} {H : Hp} {L : List KEnt} {es : List (PyData × PyData)} (h : DicR K H L es) : ∃ Z : List KItem, Z.map (·.1) = L /\ Z.map (·.2) = es /\ ∀ z ∈ Z, ItemOk K H z /\ Rp K H (.ref z.1.1) z.2.1 /\ Rp K H z.1.2.2 z.2.2 := by
  induction h with
  | nil => exact ⟨[], rfl, rfl, fun _ no => (nomatch no)⟩
  | @cons a v L k d es r f dp rv _ ih =>
    obtain ⟨Z, h1, h2, h3⟩ := ih
    refine ⟨((a, nk k, v), k, d) :: Z, by simp [h1], by simp [h2], fun z hz => ?_⟩
    rcases List.mem_cons.mp hz with rfl | hz
    · exact ⟨⟨r.dp, rv.dp, f, rfl⟩, r, rv⟩
    · exact h3 z hz
end
end Va
namespace Va
open PySem PySem.Spec PyProof.Rows L2 Sa
/-- t * 1 is t -/
theorem times_one {l : Addr} {items : Array Value} {u : Tok} : Meets (Builtin.«tuple.__mul__» ⟨[.ref l, .int 1 u], []⟩) fun _ R s => s.heap.IsTuple l items /\ R (.ok (.ret (.ref l))) s :=
  .of_wp fun prog w A R s ⟨isT, q⟩ => by
    have ix := AutoSeq1.idx_int
    show wpAny _ _ (asIndex (.int 1 u) >>= _) _ _ s
    have one : ∀ {Q : Int -> Shared -> Prop} {E : Value -> Shared -> Prop}, Q 1 s -> wpAny (model prog w) A.in1 (asIndex (.int 1 u)) Q E s := fun h => by
      unfold asIndex
      wp_walk
      exact h
    refine wpAny_bind (one ?_)
    rw [if_neg (by decide)]
    refine wpAny_bind (m := Builtin.Tuple.tupleItemsOf _) (tupleItemsOf_ isT ?_)
    rw [if_pos (by simp)]
    refine wpAny_bind (m := Builtin.Tuple.tupleIsExact _) (wpAny_bind (wpAny_typeOf isT.typeIs (wpAny_pure ?_)))
    rw [if_pos (by decide)]
    exact wpAny_bind (wpAny_rule (wpAny_bind (wpAny_pure (wpAny_pure ⟨_, rfl, q⟩))))
section
variable {X : Cx} {C : Ck}
def rOnce (K : PySem.W.Frag) : R2 := fun x y H Q => ∃ l xs, x = .ref l /\ y = .int 1 /\ SqT K H l xs /\ Q x H
theorem op_once : OpR X (binaryOp .Mult) (rOnce X.K) := by
  intro pins s σ H x y v u Q I rx ry ⟨l, xs, ex, ey, hT, q⟩
  subst ex ey
  cases rx
  obtain ⟨t, rfl⟩ := ry
  obtain ⟨its, rel, isT, _⟩ := I.tuple hT
  obtain ⟨⟨cls, dd, data, sl⟩, at', cl, n, dt⟩ := id isT
  simp only at cl dt
  subst cl dt
  refine wpAny_binaryOp_repeat_ref (T := "tuple") (U := "int") (by decide) isT.typeIs (fun s' => typeIs_int s' 1 t) noFill_tuple_mul F.fills_int_mul F.slot_int_rmul repeat_tuple F.slot_int_index.lookup ?_
  refine call_meets F.slot_int_rmul (typeIs_int s 1 t) F.entry_int_rmul (F.args_int_rmul_2 _ _) (int_rmul_tuple 1 t l its.toArray n dd sl) ⟨at', rfl, isT.typeIs, ?_⟩
  exact call_meets F.slot_tuple_mul isT.typeIs F.entry_tuple_mul (F.args_tuple_mul_2 _ _) times_one ⟨isT, .ref l, H, I, rfl, q⟩
/-- tuple * number -/
def oRepT : O2 := fun a b M => (tupOf a).bind fun ws => (asI b).bind fun k => if k = 1 then some (a, M) else if ws ≠ [] /\ 2 <= k /\ k <= 1000 /\ ws.length <= 1000 then some (mkTup (List.replicate k.toNat ws).flatten, M) else none
theorem vo_repT : VO2 C (fun x y H Q => rOnce C.K x y H Q ∨ rRepT C.K x y H Q) oRepT := by
  intro φ M H x y a b w M' Q sim rx ry e q
  obtain ⟨ws, e1, e⟩ := bsome e
  obtain ⟨k, e2, er⟩ := bsome e
  cases asI_eq e2
  cases ry.isI
  obtain ⟨ad, vs, rfl, sq, r⟩ := rx.un e1
  clear e
  split at er
  · rename_i one
    subst one
    cases er
    exact .inl ⟨ad, vs, rfl, rfl, sq, q _ φ H (.refl sim) rx⟩
  · split at er
    · rename_i c
      cases er
      refine .inr ⟨ad, k, vs, rfl, rfl, sq, fun z => c.1 (by cases r with | nil => rfl | cons => cases z), c.2.1, c.2.2.1, by rw [r.length]; exact c.2.2.2, fun p np => ?_⟩
      have s1 := Step.tup (o := .tup (List.replicate k.toNat vs).flatten) sim np
      exact q _ φ _ s1 (.tup (SqT.of upd_same) ((rep_rel r k.toNat).step s1))
    · cases er
def fSumT : Fn := fun as M => match as with
  | [a] => (tupOf a).bind fun l => (intsOf l).bind fun is => some (.d (.int is.sum), M)
  | _ => none
end
end Va
set_option maxHeartbeats 3200000
namespace Sa
open PySem PySem.Spec PyProof.Rows L2 L2.DX
section
variable {X : Cx} {pins : List (Addr × Obj)} {σ : L2.St}
/-- where the loop of the block is over, the def goes on -/
theorem back {s3 s6 : Shared} {H3 H5 : Hp} {B : Cx} {fp : List Addr} {τ : L2.St} (eb : ∃ scope ce, B = X.blk s3 H3 scope ce fp) (I3 : Inv X pins σ H3 s3) (f3 : ∀ b ∈ fp, FpOk X pins H3 b) (I6 : Inv B [] τ H5 s6) : Inv X pins σ H5 s6 := by
  obtain ⟨scope, ce, rfl⟩ := eb
  refine I3.call' (ch := fp) I6.os I6.base I6.hok I6.bare fun b hb => ?_
  obtain ⟨_, l, _, x, c, p⟩ := f3 b hb
  exact ⟨x, l, c, p⟩
end
end Sa
set_option maxHeartbeats 1600000
namespace Va
open PySem PySem.Spec PyProof.Rows L2 L2.DX Sa
open Classical in
noncomputable def dcL (deps : List (Nat × MO)) (g : EvG) (t : EvT) (ek ev : EvE) (ρ0 : Ev) (n : Nat) : List W -> Mem -> Option Mem
  | [], M => if Deps deps M then some M else none
  | w :: ws, M => if Deps deps M then (g w ρ0).bind fun ρ1 => (t ρ1 M).bind fun p => if p.1 = true then (ek ρ1 p.2).bind fun y => (ev ρ1 y.2).bind fun z => (asD z.1).bind fun v => (keyD y.1).bind fun k => (dicAt z.2 (.obj n)).bind fun l =>
      if l.2.length < sizeLine then dcL deps g t ek ev ρ0 n ws (z.2.set n (.dic (dPut l.2 k v) (stampAt z.2 n + 1))) else none
    else dcL deps g t ek ev ρ0 n ws p.2 else none
/-- {k: v for target in iter if ..} -/
noncomputable def eDc (fi : EvI) (g : EvG) (t : EvT) (ek ev : EvE) (vs : List Nat) : EvE := fun ρ M => (fi ρ M).bind fun p =>
  (dcL p.1.2 g t ek ev (wipeW ρ vs) p.2.length p.1.1 (p.2 ++ [.dic [] 0])).bind fun M' => some (.obj p.2.length, M')
end Va
namespace Sa
open PySem PySem.Spec PyProof.Rows L2 PySem.W DT L2.DX
end Sa
namespace Va
open PySem PySem.Spec PyProof.Rows L2 L2.DX Sa
section
/-- by value: the stamp says that it is held -/
def iItW (fo : EvE) : EvI := fun ρ M => (fo ρ M).bind fun q => (dicAt q.2 q.1).bind fun l => some ((l.2.map fun e => .d (itD e), [(l.1, .dic l.2 (stampAt q.2 l.1 + 1))]), q.2.set l.1 (.dic l.2 (stampAt q.2 l.1 + 1)))
end
end Va
namespace Gn
open PySem PySem.Spec PyProof.Rows L2 Sa PySem.W DT
end Gn
set_option maxHeartbeats 1000000
namespace Va
open PySem PySem.Spec PyProof.Rows L2 Sa Gn
open Classical in
noncomputable def eSortX (fi : EvI) (g : EvG) (t : EvT) (e : EvE) (vs : List Nat) : EvE := fun ρ M => (fi ρ M).bind fun p =>
  (gxL p.1.2 g t e (wipeW ρ vs) p.1.1 [] p.2).bind fun q => (datas q.1).bind fun ds => if Rows ds /\ (∀ d ∈ ds, d.depth <= 60) /\ ds.length <= sizeLine then some (.obj q.2.length, q.2 ++ [.lst ((ds.mergeSort (PySem.W.dataLe false id)).map W.d)]) else none
end Va
namespace Va
open PySem PySem.Spec PyProof.Rows L2 L2.DX Sa
section
def fAny : Fn := fun as M => match as with
  | [a] => (lstAt M a).bind fun l => (boolsOf l.2).bind fun is => some (.d (.bool (is.any id)), M)
  | _ => none
/-- o[i] op= e, of numbers -/
def sAugL (g : Int -> Int -> Int) (o i e : EvE) : EvS := fun ρ M => (o ρ M).bind fun q => (i ρ q.2).bind fun r => (asI r.1).bind fun k => (lstAt r.2 q.1).bind fun l =>
  if 0 <= k then (l.2[k.toNat]?).bind fun x => (asI x).bind fun m => (e ρ r.2).bind fun p => (asI p.1).bind fun n => (lstAt p.2 q.1).bind fun l2 => (ixN l2.2.length k).bind fun j =>
    some (.nx ρ (p.2.set l2.1 (.lst (l2.2.set j (.d (.int (g m n))))))) else none
/-- o.index(e) -/
def eIndex (o e : EvE) : EvE := fun ρ M => (o ρ M).bind fun q => (lstAt q.2 q.1).bind fun _ => (e ρ q.2).bind fun r => (lstAt r.2 q.1).bind fun l => (datas l.2).bind fun ds => (keyD r.1).bind fun k =>
  if flats ds = true /\ nk k ∈ nks ds then some (.d (.int ((nks ds).idxOf (nk k) : Nat)), r.2) else none
end
end Va
namespace Va
open PySem PySem.Spec PyProof.Rows L2 L2.DX Sa
end Va
set_option maxHeartbeats 1600000
namespace Sa
open PySem PySem.Spec PyProof.Rows L2 L2.DX
end Sa
namespace Va
open PySem PySem.Spec PyProof.Rows L2 L2.DX Sa
end Va
set_option maxHeartbeats 1000000
namespace Va
open PySem PySem.Spec PyProof.Rows L2 L2.DX Sa
end Va
namespace Va
open PySem PySem.Spec PyProof.Rows L2 L2.DX Sa
section
def oIsB : O2 := fun a b M => match a, b with
  | .d (.bool p), .d (.bool q) => some (.d (.bool (decide (p = q))), M)
  | _, _ => none
def oNotB : O2 := fun a b M => match a, b with
  | .d (.bool p), .d (.bool q) => some (.d (.bool (!decide (p = q))), M)
  | _, _ => none
end
end Va
namespace Va
open PySem PySem.Spec PyProof.Rows L2 L2.DX Sa
noncomputable abbrev oMulW : O2 := oIc CMulW fun i j => .int (i * j)
abbrev Pot := List (Key × PyData)
def potGet (es : Pot) (k : Key) : Option PyData := (es.find? fun e => decide (e.1 = k)).map (·.2)
def potPut (es : Pot) (k : Key) (d : PyData) : Pot := if (es.any fun e => decide (e.1 = k)) = true then es.map (fun e => if e.1 = k then (e.1, d) else e) else es ++ [(k, d)]
def keyW : W -> Option Key
  | .d (.int i) => some (.inl i)
  | .d (.str x) => some (.inr x)
  | _ => none
def potAt (M : Mem) : W -> Option (Nat × Pot)
  | .obj i => match M[i]? with
    | some (.pot es) => some (i, es)
    | _ => none
  | _ => none
section
variable {C : Ck} {φ : Nat -> Addr} {n : Nat} {M : Mem} {H : Hp}
theorem Rw.key {v : V} {w : W} {k : Key} (r : Rw C φ n H v w) (e : keyW w = some k) : v = kV k := by
  unfold keyW at e
  split at e
  · cases e; exact r.isI
  · cases e; exact r.isS
  · cases e
theorem PotR.any {K : PySem.W.Frag} {L : List (Key × V)} {es : Pot} (h : PotR K H L es) (k : Key) : (L.any fun kv => decide (kv.1 = k)) = es.any fun kv => decide (kv.1 = k) := by
  induction h with
  | nil => rfl
  | cons r _ ih => simp only [List.any_cons, ih]
theorem PotR.maps {K : PySem.W.Frag} {L : List (Key × V)} {es : Pot} (h : PotR K H L es) (k : Key) {v : V} {d : PyData} (r : Rp K H v d) : PotR K H (L.map fun kv => if kv.1 = k then (kv.1, v) else kv) (es.map fun kv => if kv.1 = k then (kv.1, d) else kv) := by
  induction h with
  | nil => exact .nil
  | @cons k0 v0 L d0 es r0 _ ih =>
    simp only [List.map_cons]
    by_cases e : k0 = k
    · rw [if_pos e, if_pos e]; exact .cons r ih
    · rw [if_neg e, if_neg e]; exact .cons r0 ih
theorem PotR.snoc {K : PySem.W.Frag} {L : List (Key × V)} {es : Pot} (h : PotR K H L es) {k : Key} {v : V} {d : PyData} (r : Rp K H v d) : PotR K H (L ++ [(k, v)]) (es ++ [(k, d)]) := by
  induction h with
  | nil => exact .cons r .nil
  | cons r0 _ ih => exact .cons r0 ih
theorem PotR.put {K : PySem.W.Frag} {L : List (Key × V)} {es : Pot} (h : PotR K H L es) (k : Key) {v : V} {d : PyData} (r : Rp K H v d) : PotR K H (putK L k v) (potPut es k d) := by
  unfold putK potPut
  rw [h.any k]
  split
  · exact h.maps k r
  · exact h.snoc r
theorem PotR.length {K : PySem.W.Frag} {L : List (Key × V)} {es : Pot} (h : PotR K H L es) : L.length = es.length := by
  induction h with
  | nil => rfl
  | cons _ _ ih => simp [ih]
section
variable {e o i : Expr}
/-- o[k] of a pot -/
def eIxP (o i : EvE) : EvE := fun ρ M => (o ρ M).bind fun p => (i ρ p.2).bind fun r => (potAt r.2 p.1).bind fun l => (keyW r.1).bind fun k => (potGet l.2 k).bind fun d => some (.d d, r.2)
/-- o[k] = e of a pot -/
def sPutP (e o i : EvE) : EvS := fun ρ M => (e ρ M).bind fun p => (o ρ p.2).bind fun q => (i ρ q.2).bind fun r => (asD p.1).bind fun v => (keyW r.1).bind fun k => (potAt r.2 q.1).bind fun l =>
  if l.2.length < sizeLine then some (.nx ρ (r.2.set l.1 (.pot (potPut l.2 k v)))) else none
end
end
end Va
namespace Va
open PySem PySem.Spec PyProof.Rows L2 L2.DX Sa
end Va
namespace Va
open PySem PySem.Spec PyProof.Rows L2 L2.DX Sa
section
variable {C : Ck} {X : Cx} {e : Expr} {fa : EvE} {pos p3 p1 : Pos} {k : Nat}
/-- xs[::-1] of a list -/
def eRevL (a : EvE) : EvE := fun ρ M => (a ρ M).bind fun p => (lstAt p.2 p.1).bind fun q => some (.obj p.2.length, p.2 ++ [.lst q.2.reverse])
theorem q_revL {p4 : Pos} (hK : X.K = C.K) (he : PE X e (tOf C fa)) : PE X (.Subscript e (.Slice none none (some (.UnaryOp .USub (.Constant (.int 1) k p1) p4)) p3) pos) (tOf C (eRevL fa)) :=
  (pe_revL he).weak fun σ H Q ⟨ρ, φ, M, w, M', env, sim, e, q⟩ => by
    obtain ⟨⟨x, M1⟩, e1, e⟩ := bsome e
    obtain ⟨⟨i, ws⟩, ew, e⟩ := bsome e
    cases e
    obtain ⟨ex, el⟩ := lstAt_eq ew
    simp only at ex el
    subst ex
    refine ⟨ρ, φ, M, _, M1, env, sim, e1, fun v φ1 H1 s1 r1 => ?_⟩
    obtain ⟨rfl, _⟩ := r1.isO
    obtain ⟨vs, hv, r⟩ := s1.sim.ob _ _ el
    exact ⟨_, vs, rfl, by rw [hK]; exact SqL.of hv, fun p np => q _ _ _ (s1.trans (.list s1.sim np r.reverse)) .new⟩
end
end Va
namespace Va
open PySem PySem.Spec PyProof.Rows L2 L2.DX Sa
end Va
namespace Va
open PySem PySem.Spec PyProof.Rows L2 L2.DX Sa
open Classical in
/-- sorted(d) -/
noncomputable def fSortK : Fn := fun as M => match as with
  | [a] => (dicAt M a).bind fun l => if Rows (l.2.map (·.1)) /\ (∀ e ∈ l.2, e.1.depth <= 60) then some (.obj M.length, M ++ [.lst (((l.2.map (·.1)).mergeSort (PySem.W.dataLe false id)).map W.d)]) else none
  | _ => none
theorem vc_sortK {C : Ck} : VC C (rKdKeys C.K C.w) fSortK := by
  intro φ M H xs as w M' Q sim r e q
  unfold fSortK at e
  split at e
  · rename_i a
    obtain ⟨⟨i, es⟩, e1, e⟩ := bsome e
    split at e
    case isFalse => cases e
    rename_i ok
    cases e
    obtain ⟨x, rfl, r1⟩ := one_arg r
    obtain ⟨h1, h2⟩ := dicAt_eq e1
    subst h1
    simp only at h2 ok
    obtain ⟨rfl, _⟩ := r1.isO
    obtain ⟨L, hL, dr⟩ := sim.ob _ _ h2
    obtain ⟨Z, z1, z2, z3⟩ := dr.items
    have f1 : ∀ z ∈ Z.map fun z => (z.1.1, z.2.1), Rp C.K H (.ref z.1) z.2 := fun z hz => by
      obtain ⟨y, hy, rfl⟩ := List.mem_map.mp hz
      exact (z3 y hy).2.1
    have f2 : (Z.map fun z => (z.1.1, z.2.1)).map (·.2) = es.map (·.1) := by rw [<- z2, List.map_map, List.map_map]; rfl
    have f3 : (Z.map fun z => (z.1.1, z.2.1)).map (·.1) = L.map (·.1) := by rw [<- z1, List.map_map, List.map_map]; rfl
    generalize (Z.map fun z => (z.1.1, z.2.1)) = Y at f1 f2 f3
    refine ⟨_, L, Y, rfl, hL, f3.symm, fun z hz => (f1 z hz).dp, by rw [f2]; exact ok.1, fun z hz => ?_, fun l nl => ?_⟩
    · have : z.2 ∈ es.map (·.1) := by rw [<- f2]; exact List.mem_map.mpr ⟨z, hz, rfl⟩
      obtain ⟨e0, he, e3⟩ := List.mem_map.mp this
      rw [<- e3]
      exact ok.2 e0 he
    · have e4 : ((es.map (·.1)).mergeSort (PySem.W.dataLe false id)) = (Y.mergeSort (PySem.W.dataLe false (·.2))).map (·.2) := by
        rw [<- f2]
        exact (List.map_mergeSort (f := fun z : Addr × PyData => z.2) (r := PySem.W.dataLe false (·.2)) (s := PySem.W.dataLe false id) fun a _ b _ => rfl).symm
      have f4 : ∀ z ∈ Y.mergeSort (PySem.W.dataLe false (·.2)), Rp C.K H (.ref z.1) z.2 := fun z hz => f1 z ((List.mergeSort_perm _ _).mem_iff.mp hz)
      have f5 : RwAll C φ M.length H ((Y.mergeSort (PySem.W.dataLe false (·.2))).map fun z => V.ref z.1) (((es.map (·.1)).mergeSort (PySem.W.dataLe false id)).map W.d) := by
        rw [e4]
        generalize (Y.mergeSort (PySem.W.dataLe false (·.2))) = ts at f4
        induction ts with
        | nil => exact .nil
        | cons t ts ih => exact .cons (.d (f4 t List.mem_cons_self)) (ih fun z hz => f4 z (List.mem_cons_of_mem _ hz))
      exact q _ _ _ (.list sim nl f5) .new
  · cases e
end Va
namespace Va
open PySem PySem.Spec PyProof.Rows L2 L2.DX Sa
end Va
namespace Va
open PySem PySem.Spec PyProof.Rows L2 L2.DX Sa
/-- the parameter kw behind ps: left out it is d, written it comes last -/
structure KwP (K : PySem.W.Frag) (fd : FuncData) (ps : List Str) (kw : Str) (d : V) : Prop where
  few : ∃ u, RelV d u /\ Binds K fd (ps ++ [kw]) [u]
  all : KBn K fd (ps ++ [kw]) ps.length [kw] (fun us ws => us ++ ws) (fun vs zs => vs ++ zs)
section
variable {K : PySem.W.Frag} {x : Str} {st : Stmt} {f D : Addr} {fd : FuncData} {ps : List Str} {kw : Str} {d : V} {u : Value}
theorem KwP.of (F : Fun K x x st f fd) (hD : fd.kwdefaults = .ref D) (hn : PySem.W.nsIn K D kw = some (some u)) (hr : RelV d u)
    (h1 : ∀ (D : Addr) (doc pm : Value) (an : Option Addr) (cdv ct : Value) (us : List Value) (z : Value), us.length = ps.length ->
      KwChain D [(kw, z)] (bindArgs (PySem.W.fnOf x x (defArgs st) (defBody st) (defScope st) .none (.ref D) doc pm an cdv ct) ⟨us, []⟩) ((ps ++ [kw]).zip (us ++ [z])))
    (h2 : ∀ (D : Addr) (doc pm : Value) (an : Option Addr) (cdv ct : Value) (us : List Value) (z : Value), us.length = ps.length ->
      bindArgs (PySem.W.fnOf x x (defArgs st) (defBody st) (defScope st) .none (.ref D) doc pm an cdv ct) ⟨us, [(kw, z)]⟩ = pure ((ps ++ [kw]).zip (us ++ [z]))) : KwP K fd ps kw d := by
  obtain ⟨oc, od, kV, doc, pm, an, cdv, ct, osl, e, lk, hcd⟩ := F.ex
  have ek : kV = .ref D := by rw [e] at hD; exact hD
  have G : FunD K x x (defArgs st) (defBody st) (defScope st) [] [(kw, d)] f fd := ⟨⟨oc, od, .none, kV, doc, pm, an, cdv, ct, osl, e, lk, hcd, .inl ⟨rfl, rfl⟩, .inr ⟨D, ek, fun q hq => by
    have : q = (kw, d) := by simpa using hq
    subst this
    exact ⟨u, hn, hr⟩⟩⟩, F.kp⟩
  constructor
  · obtain ⟨ds, rd, b⟩ := FunD.binds0 (ps := ps ++ [kw]) G ps.length (by simp) (by simp) fun D doc pm an cdv ct us ks l1 l2 => by
      match ks, l2 with
      | [z], _ => exact h1 D doc pm an cdv ct us z l1
    cases rd with | cons r1 r2 =>
    cases r2
    exact ⟨_, r1, b⟩
  · obtain ⟨mv, b⟩ := FunD.kbinds0 (ps := ps ++ [kw]) G ps.length [kw] [] (fun a _ c => a ++ c) (by simp) (by simp) (fun r1 _ r3 => r1.append r3) fun D doc pm an cdv ct us mv ws l1 l2 l3 => by
      match mv, ws, l2, l3 with
      | [], [z], _, _ => exact h2 D doc pm an cdv ct us z l1
    exact b
end
/-- such a def keeps the promise sp -/
structure DfK (P : Program) (w : World) (K : PySem.W.Frag) (mg : Str -> Option Value) (base : Heap) (k : Nat) (x : Str) (ps : List Str) (kw : Str) (d : V) (sp : Sp) : Prop where
  ex : ∃ f fd, FnG P w K mg base k f fd (ps ++ [kw]) sp /\ mg x = some (.ref f) /\ PySem.W.keepIn K (.ref f) = true /\ KwP K fd ps kw d
section
variable {P : Program} {w : World} {mg : Str -> Option Value} {base : Heap} {C : Ck} {k n : Nat} {x : Str} {st : Stmt} {N ps : List Str} {kw : Str} {d : V} {f0 : Addr} {fd0 : FuncData} {g : EvS}
theorem Dk.of (F : Fun C.K x x st f0 fd0) (m : mg x = some (.ref f0)) (b : KwP C.K fd0 ps kw d) (sc : FnScope N (ps ++ [kw]) (defScope st)) (hn : n = N.length)
    (walk : ∀ (f : Addr) (cdv : Value) (A : Around) (outer : List Env) (s : Shared) (H : Hp) (E : XK), Room k (A.deeper (envOfC x (defScope st) s.heap.objs.size f cdv)) -> Free A ->
      PSs (cxOf CX0 P w C.K mg base N x (defScope st) f cdv A outer s H E).nox (defBody st) (tsOf C g)) :
    DfK P w C.K mg base (k + 1) x ps kw d (spV C (ps ++ [kw]).length (Va.nf (fnV n g))) :=
  ⟨f0, fd0, okG F sc (fun vs H Q E ⟨_, _, _, _, _, _, hl, _⟩ => hl) fun cdv A outer s H vs Q E _ hr hf h => ⟨_, walk f0 cdv A outer s H E hr hf, run_body hn (spV_nf h)⟩, m, F.kp, b⟩
end
end Va
set_option maxHeartbeats 3200000
namespace Sa
open PySem PySem.Spec PyProof.Rows L2 L2.DX
end Sa
set_option maxHeartbeats 1000000
namespace Va
open PySem PySem.Spec PyProof.Rows L2 L2.DX Sa
end Va
namespace Va
open PySem PySem.Spec PyProof.Rows L2 L2.DX Sa
end Va
namespace Va
open PySem PySem.Spec PyProof.Rows L2 Sa
structure FnS (P : Program) (w : World) (K : PySem.W.Frag) (mg : Str -> Option Value) (base : Heap) (k : Nat) (f : Addr) (fd : FuncData) (ps : List Str) (pre : Shared -> Hp -> Prop) (sp : Sp) : Prop where
  many : ∀ vs H Q E, sp vs H Q E -> vs.length = ps.length
  runs : ∀ (A : Around) (outer : List Env) (s : Shared) (H : Hp) (args : Args) (us : List Value) (vs : List V) (Q : VK) (E : XK), Room k A -> Free A ->
    Env0 P w K mg base A outer s H -> BindsTo s fd args (ps.zip us) -> Vals vs us -> pre s H -> sp vs H Q E ->
    codeAny (model P w) A (.call (.ref f) args) (CR CX0 outer P w H s Q E) s
structure DfS (P : Program) (w : World) (K : PySem.W.Frag) (mg : Str -> Option Value) (base : Heap) (k : Nat) (x : Str) (ps : List Str) (pre : Shared -> Hp -> Prop) (sp : Sp) : Prop where
  ex : ∃ f fd, FnS P w K mg base k f fd ps pre sp /\ mg x = some (.ref f) /\ PySem.W.keepIn K (.ref f) = true /\ Binds K fd ps []
section
variable {P : Program} {w : World} {K : PySem.W.Frag} {mg : Str -> Option Value} {base : Heap}
theorem okS {x qual : Str} {st : Stmt} {f : Addr} {fd : FuncData} {N ps : List Str} {k : Nat} {pre : Shared -> Hp -> Prop} {sp : Sp} (F : Fun K x qual st f fd) (S : FnScope N ps (defScope st))
    (many : ∀ vs H Q E, sp vs H Q E -> vs.length = ps.length)
    (walk : ∀ (cdv : Value) (A : Around) (outer : List Env) (s : Shared) (H : Hp) (vs : List V) (Q : VK) (E : XK), Room k (A.deeper (envOfC qual (defScope st) s.heap.objs.size f cdv)) -> Free A ->
      pre s H -> sp vs H Q E -> ∃ t, PSs (cxOf CX0 P w K mg base N qual (defScope st) f cdv A outer s H E).nox (defBody st) t /\ t ⟨fun _ H' => Q .non H', Q, fun _ _ => False, fun _ _ => False⟩ (start N vs) H) :
    FnS P w K mg base (k + 1) f fd ps pre sp := by
  obtain ⟨oc, od, kV, doc, pm, an, cdv, ct, osl, rfl, lk, hcd⟩ := F.ex
  refine ⟨many, fun A outer s H args us vs Q E hr hfree e0 hb rel hp hsp => ?_⟩
  have old : ∀ b o, base.get? b = some o -> s.heap.get? b = some o := fun b o e => (e0.bs b o e).1
  have inK : K.In s.heap := e0.mod.kin.keeps old
  refine codeAny_call_function hr.depth (inK _ _ lk) rfl S.co S.gen rfl (PySem.W.codeRec_of inK hcd) (hb _ _ _ _ ?_)
  refine wpAny_newFunctionEnv_cells S.kind (fun y hy => ?_) fun env he s1 call => ?_
  · obtain ⟨n, v⟩ := y
    rcases S.par n (List.of_mem_zip hy).1 with z | z
    · exact .inl z
    · exact .inr ⟨z, PySem.W.cellsFrom_some _ _ _ (.inl z)⟩
  subst he
  refine ⟨(e0.mod.nolimit.keeps old).keeps call.toInCall.keep, codeAny_func ?_⟩
  obtain ⟨t, body, reading⟩ := walk cdv A outer s H vs Q E (hr.deeper _) hfree hp hsp
  have J0 : Inv (cxOf CX0 P w K mg base N qual (defScope st) f cdv A outer s H E) [] (start N vs) H s1 := inv_start S hr.hd e0 (many _ _ _ _ hsp) rel call
  refine wpAny_mono (body.nox.run [] s1 (start N vs) H _ J0 reading) (fun flow s' out => ?_) fun _ _ bad => bad
  cases flow with
  | ret u => obtain ⟨v, _, H', J, rv, q⟩ := out; exact ⟨v, H', J.os, J.bare, J.base, J.hok, rv, q⟩
  | next => obtain ⟨_, H', J, q⟩ := out; exact ⟨V.non, H', J.os, J.bare, J.base, J.hok, (rfl : Value.none = Value.none), q⟩
  | brk => obtain ⟨_, _, _, q⟩ := out; exact q.elim
  | cont => obtain ⟨_, _, _, q⟩ := out; exact q.elim
end
section
variable {P : Program} {w : World} {mg : Str -> Option Value} {base : Heap} {C : Ck} {k n : Nat} {x : Str} {st : Stmt} {N ps : List Str} {g : EvS} {pre : Shared -> Hp -> Prop}
theorem DfS.of (S : Stands C.K mg x st ps) (sc : FnScope N ps (defScope st)) (hn : n = N.length)
    (walk : ∀ (f : Addr) (cdv : Value) (A : Around) (outer : List Env) (s : Shared) (H : Hp) (E : XK), Room k (A.deeper (envOfC x (defScope st) s.heap.objs.size f cdv)) -> Free A -> pre s H ->
      PSs (cxOf CX0 P w C.K mg base N x (defScope st) f cdv A outer s H E).nox (defBody st) (tsOf C g)) :
    DfS P w C.K mg base (k + 1) x ps pre (spV C ps.length (Va.nf (fnV n g))) := by
  obtain ⟨f, fd, F, m, b⟩ := S.ex
  exact ⟨f, fd, okS F sc (fun vs H Q E ⟨_, _, _, _, _, _, hl, _⟩ => hl) fun cdv A outer s H vs Q E hr hf hp h => ⟨_, walk f cdv A outer s H E hr hf hp, run_body hn (spV_nf h)⟩, m, F.kp, b⟩
end
/-- the lambda at f: of these parameters, this body, this scope; it has caught cx, whose value is d -/
structure Clos (C : Ck) (q : Str) (params : Arguments) (body : Expr) (scope : Scope) (cx : Str) (d : PyData) (f : Addr) (s : Shared) (H : Hp) : Prop where
  ex : ∃ (o : Obj) (pm ctv : Value) (c1 c' T : Addr) (u : Value) (v : V) (ps : Array Value) (pos : Pos),
    s.heap.get? f = some o /\ o.data = .func (PySem.W.kla_fn "<lambda>" q params body scope [(cx, c1)] pm (.ref c') ctv) /\ H f = none /\
    s.heap.IsCell c1 (some u) /\ H c1 = none /\ RelV v u /\ Rp C.K H v d /\ (T, q) ∈ C.TL /\ H T = some (.tbl ps) /\ TriplesOk ps.toList /\ codeAmong pos ps.toList = some (.ref c')
theorem among_more {pos : Pos} {cv : Value} (l m : List Value) (h : TriplesOk l) (hc : codeAmong pos l = some cv) : codeAmong pos (l ++ m) = some cv := by
  fun_induction TriplesOk l with
  | case1 => simp [codeAmong] at hc
  | case2 a t b u x rest ih =>
    simp only [List.cons_append, codeAmong] at hc ⊢
    split at hc
    · rename_i q; rw [if_pos q]; exact hc
    · rename_i q; rw [if_neg q]; exact ih h hc
  | case3 l h1 h2 => exact h.elim
theorem keep_un {K : PySem.W.Frag} {fs ex : List Addr} {H H' : Hp} {h h' : Heap} (u : Un fs ex H H' h h') : Keep K H H' := fun a vs e => by
  rcases e with (e | ⟨ob, e⟩) | e
  · exact .inl (.inl (u.tups _ _ e))
  · exact .inl (.inr ⟨ob, u.frzs _ _ _ e⟩)
  · exact .inr e
section
variable {C : Ck} {q cx : Str} {params : Arguments} {body : Expr} {scope : Scope} {d : PyData} {f : Addr} {s s' : Shared} {H H' : Hp}
theorem Clos.next {fs : List Addr} (c : Clos C q params body scope cx d f s H) (u : Un fs [] H H' s.heap s'.heap) (ok : ∀ T q ps, (T, q) ∈ C.TL -> H' T = some (.tbl ps) -> TriplesOk ps.toList) : Clos C q params body scope cx d f s' H' := by
  obtain ⟨o, pm, ctv, c1, c', T, uv, v, ps, pos, h1, h2, h3, ⟨oc, h4, h4'⟩, h5, h6, h7, h8, h9, h10, h11⟩ := c.ex
  obtain ⟨sl, a1⟩ := u.any h1 h3 (by simp)
  obtain ⟨sl2, a2⟩ := u.any h4 h5 (by simp)
  obtain ⟨more, a3⟩ := u.tbls _ _ h9
  refine ⟨_, pm, ctv, c1, c', T, uv, v, _, pos, a1, h2, u.free _ _ h1 h3 (by simp), ⟨_, a2, h4'⟩, u.free _ _ h4 h5 (by simp), h6, h7.keep (keep_un u), h8, a3, ok _ _ _ h8 a3, ?_⟩
  rw [Array.toList_append]
  exact among_more _ _ h10 h11
end
/-- the lambda stands at a -/
def Ck.at (C : Ck) (a : Addr) : Ck := { C with fa := some a }
section
variable {C : Ck} {a : Addr} {φ φ' : Nat -> Addr} {H H' : Hp} {n : Nat} {w : W} {ws : List W}
mutual
theorem Rw.back (hfa : C.fa = none) {u : V} {w : W} (h : Rw C φ n H u w) : ∀ {u2 : V}, Rw (C.at a) φ' n H' u2 w -> Rw C φ' n H' u2 w := by
  intro u2 r
  cases h with
  | d _ => cases r with | d r => exact .d r
  | obj _ => cases r with | obj r => exact .obj r
  | scr => cases r; exact Rw.scr (C := C)
  | pack s l => cases r with | pack s2 l2 => exact .pack s2 (RwAll.back hfa l l2)
  | fn h => rw [hfa] at h; cases h
theorem RwAll.back (hfa : C.fa = none) {us : List V} {ws : List W} (h : RwAll C φ n H us ws) : ∀ {us2 : List V}, RwAll (C.at a) φ' n H' us2 ws -> RwAll C φ' n H' us2 ws := by
  intro us2 r
  cases h with
  | nil => cases r; exact .nil
  | cons x l => cases r with | cons y l2 => exact .cons (Rw.back hfa x y) (RwAll.back hfa l l2)
end
theorem Rw.backD {w : W} (d : isD w = true) {u2 : V} (r : Rw (C.at a) φ' n H' u2 w) : Rw C φ' n H' u2 w := by
  cases r with
  | d r => exact .d r
  | scr => exact Rw.scr (C := C)
  | obj h => cases d
  | pack s r => cases d
  | fn h => cases d
theorem RwAll.backD : ∀ {us : List V} {ws : List W}, ws.all isD = true -> RwAll (C.at a) φ' n H' us ws -> RwAll C φ' n H' us ws
  | _, _, _, .nil => .nil
  | _, _, d, .cons x l => by
    rw [List.all_cons, Bool.and_eq_true] at d
    exact .cons (x.backD d.1) (RwAll.backD d.2 l)
theorem RO.backD {mo : MO} {b : Addr} (d : isDO mo = true) (r : RO (C.at a) φ' n H' b mo) : RO C φ' n H' b mo := by
  cases mo with
  | lst ws => obtain ⟨vs, h, r⟩ := r; exact ⟨vs, h, r.backD d⟩
  | kset ds => exact r
  | dic es n => exact r
  | pot es => exact r
theorem RO.back (hfa : C.fa = none) {mo : MO} {b b' : Addr} (old : RO C φ n H b mo) (r : RO (C.at a) φ' n H' b' mo) : RO C φ' n H' b' mo := by
  cases mo with
  | lst ws =>
    obtain ⟨vs0, _, r0⟩ := old
    obtain ⟨vs, h, r⟩ := r
    exact ⟨vs, h, r0.back hfa r⟩
  | kset ds => exact r
  | dic es n => exact r
  | pot es => exact r
end
/-- what a call leaves that tells of no lambda: data, or one new thing of data -/
def plainR (M : Mem) (p : W × Mem) : Prop := (isD p.1 = true /\ Cut M p.2) ∨ ∃ M0 mo, p = (.obj M.length, M0 ++ [mo]) /\ isDO mo = true /\ Cut M M0
section
variable {C : Ck} {a : Addr} {φ φ' : Nat -> Addr} {M M1 : Mem} {H H' : Hp} {v : V} {w : W}
theorem sim_back (hfa : C.fa = none) (S : Sim C φ M H) (S' : Sim (C.at a) φ' M1 H') (h : ∀ (i : Nat) (mo : MO), M1[i]? = some mo -> isDO mo = true ∨ ∃ b, M1.length = M.length /\ RO C φ M.length H b mo) : Sim C φ' M1 H' := by
  refine ⟨fun i mo e => ?_, S'.inj, S'.tab, S'.scr, S'.lam⟩
  have r := S'.ob i mo e
  rcases h i mo e with d | ⟨b, l, old⟩
  · exact RO.backD d r
  · rw [l] at r ⊢
    exact RO.back hfa old r
theorem Step.back (hfa : C.fa = none) (S : Sim C φ M H) (s : Step (C.at a) φ M H φ' M1 H') (r : Rw (C.at a) φ' M1.length H' v w) (hp : plainR M (w, M1)) : Step C φ M H φ' M1 H' /\ Rw C φ' M1.length H' v w := by
  rcases hp with ⟨d, cut⟩ | ⟨M0, mo, e, d, cut⟩
  · refine ⟨⟨s.ext, s.le, s.keep, sim_back hfa S s.sim fun i mo ei => ?_, s.dics⟩, r.backD d⟩
    rcases cut.2 i mo ei with old | d
    · exact .inr ⟨φ i, cut.1, S.ob i mo old⟩
    · exact .inl d
  · cases e
    refine ⟨⟨s.ext, s.le, s.keep, ?_, s.dics⟩, ?_⟩
    · refine ⟨fun i mo' ei => ?_, s.sim.inj, s.sim.tab, s.sim.scr, s.sim.lam⟩
      have r1 := s.sim.ob i mo' ei
      by_cases hi : i < M0.length
      · rw [List.getElem?_append_left hi] at ei
        rcases cut.2 i mo' ei with old | d'
        · have o := S.ob i mo' old
          cases mo' with
          | lst ws =>
            obtain ⟨vs0, _, r0⟩ := o
            obtain ⟨vs, h, r⟩ := r1
            exact ⟨vs, h, (r0.move (n' := (M0 ++ [mo]).length) .refl (fun _ _ => rfl) (by simp [cut.1])).back hfa r⟩
          | kset ds => exact r1
          | dic es n => exact r1
          | pot es => exact r1
        · exact RO.backD d' r1
      · have hi2 : i = M0.length := by
          have := (List.getElem?_eq_some_iff.mp ei).1
          simp at this
          omega
        subst hi2
        rw [List.getElem?_append_right (Nat.le_refl _)] at ei
        simp at ei
        subst ei
        exact RO.backD d r1
    · cases r with | obj h => exact .obj h
end
end Va
namespace Va
open PySem PySem.Spec PyProof.Rows L2 Sa
/-- the def at a keeps the promise sp, its parameters are n, by whatever names -/
structure DfA (P : Program) (w : World) (K : PySem.W.Frag) (mg : Str -> Option Value) (base : Heap) (k : Nat) (a : Addr) (sp : Sp) : Prop where
  ex : ∃ fd ps, FnG P w K mg base k a fd ps sp /\ PySem.W.keepIn K (.ref a) = true /\ Binds K fd ps []
section
variable {P : Program} {w : World} {K : PySem.W.Frag} {mg : Str -> Option Value} {base : Heap} {k k' : Nat} {x : Str} {ps : List Str} {sp : Sp} {a : Addr}
theorem Df.has (D : Df P w K mg base k x ps sp) : ∃ a, mg x = some (.ref a) := by
  obtain ⟨f, fd, G, m, kp, b⟩ := D.ex
  exact ⟨f, m⟩
theorem DfA.mono (D : DfA P w K mg base k a sp) (h : k <= k') : DfA P w K mg base k' a sp := by
  obtain ⟨fd, ps, G, kp, b⟩ := D.ex
  exact ⟨fd, ps, ⟨G.many, fun A outer s H args us vs Q E r1 => G.runs A outer s H args us vs Q E (r1.mono h)⟩, kp, b⟩
end
end Va
namespace Va
open PySem PySem.Spec PyProof.Rows L2 L2.DX Sa PySem.W
end Va
namespace Va
open PySem PySem.Spec PyProof.Rows L2 L2.DX Sa
end Va
namespace Va
open PySem PySem.Spec PyProof.Rows L2 L2.DX Sa
end Va
namespace Sa
open PySem PySem.Spec PyProof.Rows L2
end Sa
namespace Sa
open PySem PySem.Spec PyProof.Rows L2
/-- the pairs that were made -/
structure Prs (P1 P2 : Nat -> Value -> Prop) (lo : Addr) (h : Heap) (as : List Addr) : Prop where
  rise : as.Pairwise (· < ·)
  above : ∀ a ∈ as, lo <= a
  at' : ∀ (j : Nat) (a : Addr), as[j]? = some a -> ∃ x y, P1 j x /\ P2 j y /\ IsTupOf2 h a x y
theorem Prs.lt {P1 P2 : Nat -> Value -> Prop} {lo : Addr} {h : Heap} {as : List Addr} (g : Prs P1 P2 lo h as) {a : Addr} (ha : a ∈ as) : a < h.objs.size := by
  obtain ⟨j, hj⟩ := List.mem_iff_getElem?.mp ha
  obtain ⟨_, _, _, _, e⟩ := g.at' j a hj
  exact Heap.lt_size e
theorem Prs.keep {P1 P2 : Nat -> Value -> Prop} {lo : Addr} {h h' : Heap} {as : List Addr} (g : Prs P1 P2 lo h as) (k : ∀ c o, lo <= c -> h.get? c = some o -> h'.get? c = some o) : Prs P1 P2 lo h' as :=
  ⟨g.rise, g.above, fun j a e => by
    obtain ⟨x, y, p, q, r⟩ := g.at' j a e
    exact ⟨x, y, p, q, k _ _ (g.above a (List.mem_of_getElem? e)) r⟩⟩
theorem Prs.more {P1 P2 : Nat -> Value -> Prop} {lo p : Addr} {h h' : Heap} {as : List Addr} {x y : Value} (g : Prs P1 P2 lo h as) (k : ∀ c o, lo <= c -> h.get? c = some o -> h'.get? c = some o) (hp : h.objs.size = p) (hlo : lo <= p)
    (h1 : P1 as.length x) (h2 : P2 as.length y) (ht : IsTupOf2 h' p x y) : Prs P1 P2 lo h' (as ++ [p]) := by
  have g' := g.keep k
  refine ⟨List.pairwise_append.mpr ⟨g.rise, List.pairwise_singleton _ _, fun a ha b hb => ?_⟩, fun a ha => ?_, fun j a e => ?_⟩
  · rw [List.mem_singleton.mp hb, <- hp]; exact g.lt ha
  · rcases List.mem_append.mp ha with ha | ha
    · exact g.above a ha
    · rw [List.mem_singleton.mp ha]; exact hlo
  · rcases Nat.lt_trichotomy j as.length with l | l | l
    · rw [List.getElem?_append_left l] at e; exact g'.at' j a e
    · subst l
      have : p = a := by simpa using e
      subst this
      exact ⟨x, y, h1, h2, ht⟩
    · have no : (as ++ [p])[j]? = none := List.getElem?_eq_none (by rw [List.length_append, List.length_singleton]; omega)
      rw [no] at e; cases e
end Sa
namespace Sa
open PySem PySem.Spec PyProof.Rows L2
end Sa
namespace Sa
open PySem PySem.Spec PyProof.Rows L2
theorem HasB.at {h h' : Heap} {b : Bool} {a : Addr} {items : Array Value} (x : HasB h b a items) (k : ∀ o, h.get? a = some o -> h'.get? a = some o) : HasB h' b a items := by
  cases b with
  | true => exact Heap.IsList.at x k
  | false => exact Heap.IsTuple.at x k
end Sa
namespace Va
open PySem PySem.Spec PyProof.Rows L2 Sa
end Va
set_option maxHeartbeats 3200000
namespace Gm
open PySem PySem.Spec PyProof.Rows L2 Sa Gn
end Gm
namespace Gm
open PySem PySem.Spec PyProof.Rows L2 Sa Gn
/-- where the generator sleeps: its slots, the cells of what is walked, their state, the index -/
structure Ix where
  σ : L2.St
  fp : List Addr
  tn : Nat -> Heap -> Prop
  i : Nat
structure G2 (Xg : Cx) (σw : L2.St) (gp : Addr × Obj) (ps : Pins) (x : Ix) (H : Hp) (s : Shared) : Prop where
  gg : GG Xg x.σ x.fp x.tn gp ps x.i H s
  keep : ∀ i h h', x.tn i h -> (∀ b ∈ x.fp, ∀ o, h.get? b = some o -> h'.get? b = some o) -> x.tn i h'
  obj : ∀ b ∈ x.fp, ∃ o, s.heap.get? b = some o
  len : σw.length = x.σ.length
  sub : ∀ (j : Nat) v, σw[j]? = some (some v) -> x.σ[j]? = some (some v)
theorem G2.inv {Xg : Cx} {σw : L2.St} {gp : Addr × Obj} {ps : Pins} {x : Ix} {H : Hp} {s : Shared} (G : G2 Xg σw gp ps x H s) : Inv Xg (gp :: ps) σw H s := G.gg.inv.weak G.len G.sub
def GY2 (G : Pins -> Ix -> Hp -> Shared -> Prop) (Pn : Pins -> List V -> Prop) (Yv : NX -> List V -> V -> Hp -> Prop) : Protocol := fun n s0 v s kap =>
  ∃ (ps : Pins) (ys : List V) (i : Ix) (y : V) (H : Hp) (Nx : NX), n + 1 + ys.length = sizeLine + 1 /\ ys.length < sizeLine /\ RelV y v /\ (∀ p ∈ ps, s0.heap.get? p.1 = some p.2) /\ Pn ps ys /\ G ps i H s /\ Yv Nx ys y H /\
    ∀ ps' s', Pn ps' (ys ++ [y]) -> G ps' i H s' -> Nx (ys ++ [y]) H -> kap (.send .none) s'
end Gm
namespace Gm
open PySem PySem.Spec PyProof.Rows L2 Sa Gn
end Gm
namespace Gm
open PySem PySem.Spec PyProof.Rows L2 Sa Gn
section
variable {Xg : Cx} {σw : L2.St} {gp : Addr × Obj} {ps : Pins} {x : Ix} {H : Hp} {s : Shared} {A : Around} {Pn : Pins -> List V -> Prop} {Yv : NX -> List V -> V -> Hp -> Prop} {Qe : NX}
theorem G2.gens {g' : Array GenState} (G : G2 Xg σw gp ps x H s) (h : AllBare g') : G2 Xg σw gp ps x H { s with gens := g' } := ⟨G.gg.gens h, G.keep, G.obj, G.len, G.sub⟩
theorem G2.lay {S : Addr} {obj : Obj} {h' : Heap} {t : Nat} (G : G2 Xg σw gp ps x H s) (k : ∀ b u, s.heap.get? b = some u -> h'.get? b = some u) (hS : h'.get? S = some obj) (new : s.heap.objs.size <= S) (nc : ∀ v, obj.data ≠ .cell v) :
    G2 Xg σw gp ((S, obj) :: ps) x H { s with heap := h', toks := t } :=
  ⟨GG.lay (t := t) G.keep (fun b hb => by obtain ⟨o, e⟩ := G.obj b hb; exact Heap.lt_size e) G.gg k hS new nc, G.keep, fun b hb => by obtain ⟨o, e⟩ := G.obj b hb; exact ⟨o, k b o e⟩, G.len, G.sub⟩
theorem G2.write {S : Addr} {obj ob' : Obj} {h' : Heap} {t : Nat} (G : G2 Xg σw gp ((S, obj) :: ps) x H s) (hpn : Xg.pn = []) (hg : gp.1 ≠ S) (hps : ∀ p ∈ ps, p.1 ≠ S) (old : Xg.s_0.heap.objs.size <= S)
    (k : ∀ b u, b ≠ S -> s.heap.get? b = some u -> h'.get? b = some u) (hS : h'.get? S = some ob') (nc : ∀ v, ob'.data ≠ .cell v) : G2 Xg σw gp ((S, ob') :: ps) x H { s with heap := h', toks := t } :=
  ⟨GG.write (t := t) G.keep G.gg hpn hg hps old k hS nc, G.keep, fun b hb => by
    obtain ⟨o, e⟩ := G.obj b hb
    exact ⟨o, k b o (fun z => G.gg.ap (S, obj) (List.mem_cons_of_mem _ List.mem_cons_self) (by rw [<- z]; exact hb)) e⟩, G.len, G.sub⟩
theorem G2.at {S : Addr} {obj : Obj} (G : G2 Xg σw gp ((S, obj) :: ps) x H s) : s.heap.get? S = some obj := G.gg.at
/-- ready to go on -/
def GT2 (Xg : Cx) (σw : L2.St) (gp : Addr × Obj) (Pn : Pins -> List V -> Prop) (Yv : NX -> List V -> V -> Hp -> Prop) (Qe : NX) (A : Around) (gi n : Nat) (ps : Pins) (ys : List V) (s : Shared) : Prop :=
  n + ys.length = sizeLine + 1 /\ ys.length <= sizeLine /\ Pn ps ys /\ ∃ (i : Ix) (H : Hp) (gs : GenState), G2 Xg σw gp ps i H s /\ s.gens[gi]? = some gs /\
    ∀ ps' s', Pn ps' ys -> G2 Xg σw gp ps' i H s' -> gs.Goes (model Xg.prog Xg.w) A.in1 (GRx Xg σw gp Pn Qe) (GY2 (G2 Xg σw gp) Pn Yv) n (.send .none) s'
end
end Gm
namespace Gm
open PySem PySem.Spec PyProof.Rows L2 Sa Gn
end Gm
namespace Gm
open PySem PySem.Spec PyProof.Rows L2 Sa Gn
section
variable {Xg : Cx} {gi : Nat}
def Wakes2 (Xg : Cx) (σw : L2.St) (gp : Addr × Obj) (gi : Nat) (A0 A : Around) : Prop :=
  ∀ (Pn : Pins -> List V -> Prop) (Yv : NX -> List V -> V -> Hp -> Prop) (Qe : NX) (n : Nat) (ps : Pins) (ys : List V) (s : Shared) (Q : Option Value -> Shared -> Prop) (E : Value -> Shared -> Prop), GT2 Xg σw gp Pn Yv Qe A0 gi n ps ys s ->
    (∀ m ps ys y v H i Nx s', n = m + 1 -> ys.length < sizeLine -> RelV y v -> (∀ p ∈ ps, s.heap.get? p.1 = some p.2) -> Pn ps ys -> G2 Xg σw gp ps i H s' -> Yv Nx ys y H ->
      (Nx (ys ++ [y]) H -> ∀ ps' s'', Pn ps' (ys ++ [y]) -> G2 Xg σw gp ps' i H s'' -> s''.gens = s'.gens -> GT2 Xg σw gp Pn Yv Qe A0 gi m ps' (ys ++ [y]) s'') -> Q (some v) s') ->
    (∀ ps ys H s', (∀ p ∈ ps, s.heap.get? p.1 = some p.2) -> Pn ps ys -> Inv Xg (gp :: ps) σw H s' -> Qe ys H -> Q none s') -> wpAny (model Xg.prog Xg.w) A (pyNext (.ref gp.1)) Q E s
theorem Wakes2.up {σw : L2.St} {gp : Addr × Obj} {A0 A : Around} (w : Wakes2 Xg σw gp gi A0 A.in1) : Wakes2 Xg σw gp gi A0 A :=
  fun Pn Yv Qe n ps ys s Q E st i d => wpAny_of_in1 (w Pn Yv Qe n ps ys s Q E st i d)
end
end Gm
set_option maxHeartbeats 1000000
namespace Va
open PySem PySem.Spec PyProof.Rows L2 Sa Gn Gm
end Va
set_option maxHeartbeats 1600000
namespace Sa
open PySem PySem.Spec PyProof.Rows L2
end Sa
namespace Va
open PySem PySem.Spec PyProof.Rows L2 Sa
end Va
namespace Sa
open PySem PySem.Spec PyProof.Rows L2
end Sa
namespace Va
open PySem PySem.Spec PyProof.Rows L2 Sa
end Va
namespace Sa
open PySem PySem.Spec PyProof.Rows L2 PySem.W DT L2.DX
end Sa
set_option maxHeartbeats 1000000
namespace Va
open PySem PySem.Spec PyProof.Rows L2 L2.DX Sa
end Va
namespace Va
open PySem PySem.Spec PyProof.Rows L2 Sa PySem.W DT
end Va
namespace Va
open PySem PySem.Spec PyProof.Rows L2 Sa PySem.W
end Va
namespace Va
open PySem PySem.Spec PyProof.Rows L2 L2.DX Sa
/-- list(d) -/
def fLstK : Fn := fun as M => match as with
  | [a] => (dicAt M a).bind fun l => some (.obj M.length, M ++ [.lst (l.2.map fun e => .d e.1)])
  | _ => none
theorem vc_lstK {C : Ck} : VC C (rKdAll C.K C.w) fLstK := by
  intro φ M H xs as w M' Q sim r e q
  unfold fLstK at e
  split at e
  · rename_i a
    obtain ⟨⟨i, es⟩, e1, e⟩ := bsome e
    cases e
    obtain ⟨x, rfl, r1⟩ := one_arg r
    obtain ⟨h1, h2⟩ := dicAt_eq e1
    subst h1
    obtain ⟨rfl, _⟩ := r1.isO
    obtain ⟨L, hL, dr⟩ := sim.ob _ _ h2
    obtain ⟨Z, z1, z2, z3⟩ := dr.items
    refine ⟨_, L, rfl, hL, fun l nl => ?_⟩
    have f5 : RwAll C φ M.length H (L.map fun p => V.ref p.1) (es.map fun e => W.d e.1) := by
      have g1 : (L.map fun p => V.ref p.1) = Z.map fun z => V.ref z.1.1 := by rw [<- z1, List.map_map]; rfl
      have g2 : (es.map fun e => W.d e.1) = Z.map fun z => W.d z.2.1 := by rw [<- z2, List.map_map]; rfl
      rw [g1, g2]
      clear g1 g2 z1 z2
      induction Z with
      | nil => exact .nil
      | cons z Z ih => exact .cons (.d (z3 z List.mem_cons_self).2.1) (ih fun y hy => z3 y (List.mem_cons_of_mem _ hy))
    exact q _ _ _ (.list sim nl f5) .new
  · cases e
end Va
namespace Va
open PySem PySem.Spec PyProof.Rows L2 Sa
/-- the mark of the exception of the class number c -/
def exW (c : Nat) : W := .pack [.fn, .d (.int c)]
def isX : W -> Bool
  | .pack (.fn :: _) => true
  | _ => false
def exN : W -> Nat
  | .pack [.fn, .d (.int c)] => c.toNat
  | _ => 0
@[simp] theorem isX_ex (c : Nat) : isX (exW c) = true := rfl
@[simp] theorem exN_ex (c : Nat) : exN (exW c) = c := rfl
@[simp] theorem isX_d (d : PyData) : isX (.d d) = false := rfl
@[simp] theorem isX_o (i : Nat) : isX (.obj i) = false := rfl
def FinX (C : Ck) (cl : Nat -> Value) (W : WX) (D : Ends) (φ : Nat -> Addr) (M : Mem) (H : Hp) : Out -> Prop
  | .rt w M' => (isX w = true -> ∀ σ' φ' H', Step C φ M H φ' M' H' -> W (cl (exN w)) none σ' H') /\ (isX w = false -> ∀ v φ' H', Step C φ M H φ' M' H' -> Rw C φ' M'.length H' v w -> D.rt v H')
  | .nx ρ' M' => ∀ σ' φ' H', Step C φ M H φ' M' H' -> EnvR C φ' M'.length H' σ' ρ' -> D.nx σ' H'
  | .bk ρ' M' => ∀ σ' φ' H', Step C φ M H φ' M' H' -> EnvR C φ' M'.length H' σ' ρ' -> D.bk σ' H'
  | .ct ρ' M' => ∀ σ' φ' H', Step C φ M H φ' M' H' -> EnvR C φ' M'.length H' σ' ρ' -> D.ct σ' H'
section
variable {C : Ck} {cl : Nat -> Value} {W : WX}
theorem FinX.step {D : Ends} {φ φ' : Nat -> Addr} {M M' : Mem} {H H' : Hp} {o : Out} (s : Step C φ M H φ' M' H') (h : FinX C cl W D φ M H o) : FinX C cl W D φ' M' H' o := by
  cases o with
  | nx ρ M1 => exact fun σ1 φ1 H1 s1 e => h σ1 φ1 H1 (s.trans s1) e
  | bk ρ M1 => exact fun σ1 φ1 H1 s1 e => h σ1 φ1 H1 (s.trans s1) e
  | ct ρ M1 => exact fun σ1 φ1 H1 s1 e => h σ1 φ1 H1 (s.trans s1) e
  | rt w M1 => exact ⟨fun x σ1 φ1 H1 s1 => h.1 x σ1 φ1 H1 (s.trans s1), fun x v φ1 H1 s1 e => h.2 x v φ1 H1 (s.trans s1) e⟩
end
def tsX (C : Ck) (cl : Nat -> Value) (W : WX) (g : EvS) : TS := fun D σ H => ∃ ρ φ M o, EnvR C φ M.length H σ ρ /\ Sim C φ M H /\ g ρ M = some o /\ FinX C cl W D φ M H o
/-- what gives back no mark -/
def sNX (g : EvS) : EvS := fun ρ M => (g ρ M).bind fun o => match o with
  | .rt w M1 => if isX w = true then none else some (.rt w M1)
  | o => some o
/-- raise -/
def sRaise (c : Nat) : EvS := fun _ M => some (.rt (exW c) M)
def sExprX (a : EvE) : EvS := fun ρ M => (a ρ M).bind fun p => if isX p.1 = true then some (.rt p.1 p.2) else some (.nx ρ p.2)
/-- try: x = f(..) except ..: h -/
def sTryX (i : Nat) (a : EvE) (h : EvS) : EvS := fun ρ M => (a ρ M).bind fun p => if isX p.1 = true then h ρ p.2 else some (.nx (ρ.set i (some p.1)) p.2)
section
variable {C : Ck} {cl : Nat -> Value} {W : WX} {X : Cx} {pos : Pos} {c e : Expr} {st : Stmt} {sts s2 : List Stmt} {fc : EvT} {ga gb : EvS}
theorem x_lift (h : PS X st (tsOf C ga)) : PS X st (tsX C cl W (sNX ga)) := h.weak fun D σ H ⟨ρ, φ, M, o, env, sim, e, q⟩ => by
  obtain ⟨o1, e1, e⟩ := bsome e
  refine ⟨ρ, φ, M, o1, env, sim, e1, ?_⟩
  cases o1 with
  | nx ρ1 M1 => cases e; exact q
  | bk ρ1 M1 => cases e; exact q
  | ct ρ1 M1 => cases e; exact q
  | rt w M1 =>
    simp only at e
    split at e
    · cases e
    · rename_i x
      cases e
      exact q.2 (by simpa using x)
theorem xs_nil : PSs X [] (tsX C cl W sNil) := pss_nil.weak fun D σ H ⟨ρ, φ, M, o, env, sim, e, q⟩ => by
  cases e
  exact q σ φ H (.refl sim) env
theorem seq_ofX {t u : TS} (h1 : ∀ D σ H, tsX C cl W ga D σ H -> t D σ H) (h2 : ∀ D σ H, tsX C cl W gb D σ H -> u D σ H) {D : Ends} {σ : L2.St} {H : Hp} (h : tsX C cl W (sSeq ga gb) D σ H) : tSeq t u D σ H := by
  obtain ⟨ρ, φ, M, o, env, sim, e, q⟩ := h
  obtain ⟨o1, e1, e⟩ := bsome e
  refine h1 _ _ _ ⟨ρ, φ, M, o1, env, sim, e1, ?_⟩
  cases o1 with
  | nx ρ1 M1 => exact fun σ1 φ1 H1 s1 env1 => h2 _ _ _ ⟨ρ1, φ1, M1, o, env1, s1.sim, e, q.step s1⟩
  | bk ρ1 M1 => cases e; exact q
  | ct ρ1 M1 => cases e; exact q
  | rt w M1 => cases e; exact q
theorem xs_cons (h1 : PS X st (tsX C cl W ga)) (h2 : PSs X sts (tsX C cl W gb)) : PSs X (st :: sts) (tsX C cl W (sSeq ga gb)) :=
  (pss_cons h1 h2).weak fun D σ H h => seq_ofX (fun _ _ _ z => z) (fun _ _ _ z => z) h
theorem xs_one (h1 : PS X st (tsX C cl W ga)) : PSs X [st] (tsX C cl W ga) := pss_one h1
theorem x_ifX (hc : PT X c (ttOf C fc)) (ha : PSs X sts (tsX C cl W ga)) (hb : PSs X s2 (tsX C cl W gb)) : PS X (.If c sts s2 pos) (tsX C cl W (sIf fc ga gb)) :=
  (ps_if hc ha hb).weak fun D σ H ⟨ρ, φ, M, o, env, sim, e, q⟩ => by
    obtain ⟨⟨k, M1⟩, e1, e⟩ := bsome e
    refine ⟨ρ, φ, M, k, M1, env, sim, e1, fun φ1 H1 s1 => ?_⟩
    cases k with
    | true => exact ⟨ρ, φ1, M1, o, env.step s1, s1.sim, e, q.step s1⟩
    | false => exact ⟨ρ, φ1, M1, o, env.step s1, s1.sim, e, q.step s1⟩
end
section
variable {C : Ck} {cl : Nat -> Value} {W : WX} {X : Cx} {pos : Pos} {tg iter e : Expr} {body : List Stmt} {fi : EvI} {g : EvG} {gb : EvS} {is : List Nat}
theorem for_ofX {D : Ends} {σ : L2.St} {H : Hp} (h : tsX C cl W (sFor fi g gb) D σ H) : tFor (tiOf C fi) (tgOf C is g) (tsX C cl W gb) D σ H := by
  obtain ⟨ρ, φ, M, o, env, sim, e, q⟩ := h
  obtain ⟨⟨⟨items, deps⟩, M1⟩, e1, e⟩ := bsome e
  refine ⟨ρ, φ, M, _, M1, env, sim, e1, fun J φ1 H1 s1 ok => ?_⟩
  refine ⟨fun i m σ H => ∃ ρ φ M ws, m = ws.length /\ items.drop i = ws /\ i <= items.length /\ EnvR C φ M.length H σ ρ /\ Step C φ1 M1 H1 φ M H /\ forL deps g gb ws ρ M = some o,
    ⟨items.length, ρ, φ1, M1, items, rfl, rfl, Nat.zero_le _, env.step s1, .refl s1.sim, e⟩, ?_⟩
  intro i m σ2 H2 hw
  obtain ⟨ρ2, φ2, M2, ws, hm, hd, hi, env2, s2, e2⟩ := hw
  cases ws with
  | nil =>
    have hn : i = items.length := by
      have := congrArg List.length hd
      simp at this
      omega
    simp only [forL] at e2
    split at e2
    · rename_i dp
      cases e2
      refine .inl ⟨?_, q σ2 φ2 H2 (s1.trans s2) env2⟩
      rw [hn]
      exact (ok φ2 M2 H2 s2 dp).2
    · cases e2
  | cons w ws =>
    simp only [forL] at e2
    split at e2
    · rename_i dp
      obtain ⟨ρ3, e3, e2⟩ := bsome e2
      obtain ⟨o1, e4, e2⟩ := bsome e2
      have hk : items[i]? = some w := by
        have : (items.drop i)[0]? = some w := by rw [hd]; rfl
        simpa using this
      have hlt : i < items.length := (List.getElem?_eq_some_iff.mp hk).1
      have hd' : items.drop (i + 1) = ws := by
        rw [<- List.drop_drop, hd]; rfl
      obtain ⟨go, yl⟩ := (ok φ2 M2 H2 s2 dp).1 i w hk
      refine .inr ⟨go, fun σ' H' => ∃ ρ φ M, EnvR C φ M.length H' σ' ρ /\ Step C φ1 M1 H1 φ M H' /\ forL deps g gb ws ρ M = some o, fun σ' H' ⟨ρ, φ, M, h1, h2, h3⟩ => ⟨ws.length, ?_, ρ, φ, M, ws, rfl, hd', hlt, h1, h2, h3⟩, fun x H' hy => ?_⟩
      · rw [hm]; exact Nat.lt_succ_self _
      · obtain ⟨st, rx⟩ := yl x H' hy
        refine ⟨ρ2, φ2, M2, w, ρ3, env2.step st, st.sim, rx, e3, fun σ' env' _ => ⟨ρ3, φ2, M2, o1, env', st.sim, e4, ?_⟩⟩
        cases o1 with
        | nx ρ4 M4 => exact fun σ5 φ5 H5 s5 env5 => ⟨ρ4, φ5, M4, env5, s2.trans (st.trans s5), e2⟩
        | ct ρ4 M4 => exact fun σ5 φ5 H5 s5 env5 => ⟨ρ4, φ5, M4, env5, s2.trans (st.trans s5), e2⟩
        | bk ρ4 M4 => cases e2; exact fun σ5 φ5 H5 s5 env5 => q σ5 φ5 H5 (s1.trans (s2.trans (st.trans s5))) env5
        | rt w4 M4 => cases e2; exact q.step (s1.trans (s2.trans st))
    · cases e2
theorem x_forX (hp : PassesOwn (model X.prog X.w) X.A X.env X.xe) (hc : X.calm = true) (hi : PI X tg iter (tiOf C fi)) (hg : PG X tg (tgOf C is g)) (hb : PSs X body (tsX C cl W gb))
    (hs : ∀ x, foldedSetIterable iter X.env x = pure x := by intro _; rfl) : PS X (.For tg iter body [] pos) (tsX C cl W (sFor fi g gb)) :=
  (ps_for hp hc hi hg hb hs).weak fun _ _ _ h => for_ofX h
theorem x_whileX (n : Nat) {c : Expr} {fc : EvT} (hp : PassesOwn (model X.prog X.w) X.A X.env X.xe) (hc : PT X c (ttOf C fc)) (hb : PSs X body (tsX C cl W gb)) : PS X (.While c body [] pos) (tsX C cl W (whN fc gb n)) :=
  (ps_while hp hc hb).weak fun D σ H0 ⟨ρ, φ, M, o, env, sim, e, q⟩ => by
    refine ⟨fun m σ H => ∃ ρ φ' M', EnvR C φ' M'.length H σ ρ /\ Step C φ M H0 φ' M' H /\ whN fc gb m ρ M' = some o, ⟨n, ρ, φ, M, env, .refl sim, e⟩, ?_⟩
    intro m σ2 H2 ⟨ρ2, φ2, M2, env2, s2, e2⟩
    cases m with
    | zero => cases e2
    | succ m =>
      obtain ⟨⟨k, M3⟩, e3, e2⟩ := bsome e2
      refine ⟨ρ2, φ2, M2, k, M3, env2, s2.sim, e3, fun φ3 H3 s3 => ?_⟩
      cases k with
      | false => cases e2; exact q σ2 φ3 H3 (s2.trans s3) (env2.step s3)
      | true =>
        obtain ⟨o1, e4, e2⟩ := bsome e2
        refine ⟨fun σ' H' => ∃ ρ φ' M', EnvR C φ' M'.length H' σ' ρ /\ Step C φ M H0 φ' M' H' /\ whN fc gb m ρ M' = some o, fun σ' H' h => ⟨m, Nat.lt_succ_self _, h⟩, ρ2, φ3, M3, o1, env2.step s3, s3.sim, e4, ?_⟩
        cases o1 with
        | nx ρ4 M4 => exact fun σ5 φ5 H5 s5 env5 => ⟨ρ4, φ5, M4, env5, s2.trans (s3.trans s5), e2⟩
        | ct ρ4 M4 => exact fun σ5 φ5 H5 s5 env5 => ⟨ρ4, φ5, M4, env5, s2.trans (s3.trans s5), e2⟩
        | bk ρ4 M4 => cases e2; exact fun σ5 φ5 H5 s5 env5 => q σ5 φ5 H5 (s2.trans (s3.trans s5)) env5
        | rt w4 M4 => cases e2; exact q.step (s2.trans s3)
end
end Va
namespace Va
open PySem PySem.Spec PyProof.Rows L2 Sa
/-- as FnG, exceptions may leave it -/
structure FnGX (P : Program) (w : World) (K : PySem.W.Frag) (mg : Str -> Option Value) (base : Heap) (k : Nat) (f : Addr) (fd : FuncData) (ps : List Str) (sp : Sp) : Prop where
  many : ∀ vs H Q E, sp vs H Q E -> vs.length = ps.length
  runs : ∀ (A : Around) (outer : List Env) (s : Shared) (H : Hp) (args : Args) (us : List Value) (vs : List V) (Q : VK) (E : XK), Room k A -> Free A ->
    Env0 P w K mg base A outer s H -> BindsTo s fd args (ps.zip us) -> Vals vs us -> sp vs H Q E ->
    codeAny (model P w) A (.call (.ref f) args) (CR (L2N.CX P w) outer P w H s Q E) s
section
variable {P : Program} {w : World} {K : PySem.W.Frag} {mg : Str -> Option Value} {base : Heap}
theorem okGX {x qual : Str} {st : Stmt} {f : Addr} {fd : FuncData} {N ps : List Str} {k : Nat} {sp : Sp} (F : Fun K x qual st f fd) (S : FnScope N ps (defScope st))
    (many : ∀ vs H Q E, sp vs H Q E -> vs.length = ps.length)
    (walk : ∀ (cdv : Value) (A : Around) (outer : List Env) (s : Shared) (H : Hp) (vs : List V) (Q : VK) (E : XK), fd.code = cdv -> Room k (A.deeper (envOfC qual (defScope st) s.heap.objs.size f cdv)) -> Free A ->
      sp vs H Q E -> ∃ t, PSs (cxOf (L2N.CX P w) P w K mg base N qual (defScope st) f cdv A outer s H E) (defBody st) t /\ t ⟨fun _ H' => Q .non H', Q, fun _ _ => False, fun _ _ => False⟩ (start N vs) H) :
    FnGX P w K mg base (k + 1) f fd ps sp := by
  obtain ⟨oc, od, kV, doc, pm, an, cdv, ct, osl, rfl, lk, hcd⟩ := F.ex
  refine ⟨many, fun A outer s H args us vs Q E hr hfree e0 hb rel hsp => ?_⟩
  have keepB : ∀ b o, base.get? b = some o -> s.heap.get? b = some o := fun b o e => (e0.bs b o e).1
  have inH : K.In s.heap := e0.mod.kin.keeps keepB
  have noLim : s.heap.NoLimit := e0.mod.nolimit.keeps keepB
  refine codeAny_call_function hr.depth (inH _ _ lk) rfl S.co S.gen rfl (PySem.W.codeRec_of inH hcd) (hb _ _ _ _ ?_)
  refine wpAny_newFunctionEnv_cells S.kind (fun y hy => ?_) fun env he s1 call => ?_
  · obtain ⟨n, v⟩ := y
    rcases S.par n (List.of_mem_zip hy).1 with isLocal | isCell
    · exact .inl isLocal
    · exact .inr ⟨isCell, PySem.W.cellsFrom_some _ _ _ (.inl isCell)⟩
  subst he
  refine ⟨noLim.keeps call.toInCall.keep, codeAny_func ?_⟩
  obtain ⟨t, body, reading⟩ := walk cdv A outer s H vs Q E rfl (hr.deeper _) hfree hsp
  have J0 : Inv (cxOf (L2N.CX P w) P w K mg base N qual (defScope st) f cdv A outer s H E) [] (start N vs) H s1 := inv_start S hr.hd e0 (many _ _ _ _ hsp) rel call
  refine wpAny_mono (body.run [] s1 (start N vs) H _ J0 reading) (fun flow s' out => ?_) fun _ _ bad => bad
  cases flow with
  | ret u =>
    obtain ⟨v, _, H', J, rv, q⟩ := out
    exact ⟨v, H', J.os, J.bare, J.base, J.hok, rv, q⟩
  | next =>
    obtain ⟨_, H', J, q⟩ := out
    exact ⟨V.non, H', J.os, J.bare, J.base, J.hok, (rfl : Value.none = Value.none), q⟩
  | brk =>
    obtain ⟨_, _, _, q⟩ := out
    exact q.elim
  | cont =>
    obtain ⟨_, _, _, q⟩ := out
    exact q.elim
end
structure DfX (P : Program) (w : World) (K : PySem.W.Frag) (mg : Str -> Option Value) (base : Heap) (k : Nat) (x : Str) (ps : List Str) (sp : Sp) : Prop where
  ex : ∃ f fd, FnGX P w K mg base k f fd ps sp /\ mg x = some (.ref f) /\ PySem.W.keepIn K (.ref f) = true /\ Binds K fd ps []
/-- F may give back a mark -/
def spX (C : Ck) (cl : Nat -> Value) (n : Nat) (F : Fn) : Sp := fun vs H Q E => ∃ φ M ws w M', RwAll C φ M.length H vs ws /\ vs.length = n /\ Sim C φ M H /\ F ws M = some (w, M') /\
  (isX w = true -> ∀ φ' H', Step C φ M H φ' M' H' -> E (cl (exN w)) none H') /\ (isX w = false -> ∀ v φ' H', Step C φ M H φ' M' H' -> Rw C φ' M'.length H' v w -> Q v H')
/-- a def's wish about exceptions -/
abbrev wDef (E : XK) : WX := fun cls d _ H => E cls d H
section
variable {P : Program} {w : World} {mg : Str -> Option Value} {base : Heap} {C : Ck} {cl : Nat -> Value} {k n : Nat} {x : Str} {st : Stmt} {N ps : List Str} {F : Fn} {g : EvS}
theorem run_bodyX {H : Hp} {vs : List V} {Q : VK} {E : XK} (hn : n = N.length) (h : spX C cl ps.length (fnV n g) vs H Q E) : tsX C cl (wDef E) g ⟨fun _ H' => Q .non H', Q, fun _ _ => False, fun _ _ => False⟩ (L2.start N vs) H := by
  obtain ⟨φ, M, ws, w', M', r, hl, sim, e, q⟩ := h
  obtain ⟨o, e1, e⟩ := bsome e
  subst hn
  refine ⟨_, φ, M, o, start_rel r, sim, e1, ?_⟩
  cases o with
  | rt w2 M2 => cases e; exact ⟨fun x _ φ' H' s => q.1 x φ' H' s, q.2⟩
  | nx ρ2 M2 => cases e; exact fun σ' φ' H' s _ => q.2 rfl _ φ' H' s (.d .non)
  | bk ρ2 M2 => cases e
  | ct ρ2 M2 => cases e
theorem takes_def {f : Addr} {cdv : Value} {A : Around} {outer : List Env} {s : Shared} {H : Hp} {E : XK} {qual : Str} {sc : Scope} {K : PySem.W.Frag} :
    L2N.Takes (cxOf (L2N.CX P w) P w K mg base N qual sc f cdv A outer s H E) (wDef E) :=
  L2N.takes_of rfl rfl rfl rfl
theorem passes_def {f : Addr} {cdv : Value} {A : Around} {outer : List Env} {s : Shared} {H : Hp} {E : XK} {qual : Str} {sc : Scope} {K : PySem.W.Frag} :
    PassesOwn (model P w) (cxOf (L2N.CX P w) P w K mg base N qual sc f cdv A outer s H E).A (cxOf (L2N.CX P w) P w K mg base N qual sc f cdv A outer s H E).env (cxOf (L2N.CX P w) P w K mg base N qual sc f cdv A outer s H E).xe :=
  L2.passes_of rfl
theorem DfX.of (S : Stands C.K mg x st ps) (sc : FnScope N ps (defScope st)) (hn : n = N.length)
    (walk : ∀ (f : Addr) (cdv : Value) (A : Around) (outer : List Env) (s : Shared) (H : Hp) (E : XK), Room k (A.deeper (envOfC x (defScope st) s.heap.objs.size f cdv)) -> Free A ->
      PSs (cxOf (L2N.CX P w) P w C.K mg base N x (defScope st) f cdv A outer s H E) (defBody st) (tsX C cl (wDef E) g)) :
    DfX P w C.K mg base (k + 1) x ps (spX C cl ps.length (fnV n g)) := by
  obtain ⟨f, fd, F, m, b⟩ := S.ex
  exact ⟨f, fd, okGX F sc (fun vs H Q E ⟨_, _, _, _, _, _, hl, _⟩ => hl) fun cdv A outer s H vs Q E _ hr hf h => ⟨_, walk f cdv A outer s H E hr hf, run_bodyX hn h⟩, m, F.kp, b⟩
theorem DfX.weak {sp sp' : Sp} {K : PySem.W.Frag} (D : DfX P w K mg base k x ps sp) (h : ∀ vs H Q E, sp' vs H Q E -> sp vs H Q E) : DfX P w K mg base k x ps sp' := by
  obtain ⟨f, fd, G, m, kp, b⟩ := D.ex
  exact ⟨f, fd, ⟨fun vs H Q E q => G.many vs H Q E (h _ _ _ _ q), fun A outer s H args us vs Q E r1 r2 r3 r4 r5 r6 => G.runs A outer s H args us vs Q E r1 r2 r3 r4 r5 (h _ _ _ _ r6)⟩, m, kp, b⟩
/-- what is made on the way is let go where data is given back -/
noncomputable def nfX (F : Fn) : Fn := fun ws M => (F ws M).map fun p => if isD p.1 = true then norm M p else p
theorem spX_nf {vs : List V} {H : Hp} {Q : VK} {E : XK} (h : spX C cl n (nfX F) vs H Q E) : spX C cl n F vs H Q E := by
  obtain ⟨φ, M, ws, w1, M1, r, hl, sim, e, q⟩ := h
  obtain ⟨⟨w0, M0⟩, e0, e⟩ := Option.map_eq_some_iff.mp e
  split at e
  · rename_i dd
    have x0 : isX w0 = false := by
      cases w0 with
      | pack ws => cases dd
      | _ => rfl
    unfold norm at e
    split at e
    · rename_i c
      obtain ⟨d, le, cut⟩ := c
      cases e
      have e1 : F ws M = some (w0, M0.take M.length ++ M0.drop M.length) := by rw [List.take_append_drop]; exact e0
      exact ⟨φ, M, ws, w0, _, r, hl, sim, e1, ⟨fun x => (by rw [x0] at x; cases x), fun _ v φ' H' s rv => q.2 x0 v φ' H' (Step.cut sim s cut) (rv.shrink d)⟩⟩
    · split at e
      · rename_i i hi
        simp only at hi
        subst hi
        cases dd
      · cases e
        exact ⟨φ, M, ws, _, _, r, hl, sim, e0, q⟩
  · cases e
    exact ⟨φ, M, ws, _, _, r, hl, sim, e0, q⟩
theorem DfX.nf (D : DfX P w C.K mg base k x ps (spX C cl n F)) : DfX P w C.K mg base k x ps (spX C cl n (nfX F)) := D.weak fun vs H Q E h => spX_nf h
end
section
variable {C : Ck} {cl : Nat -> Value} {Wx : WX} {X : Cx} {k n : Nat} {ps : List Str} {F : Fn} {sp : Sp} {x : Str} {p pos : Pos} {e : Expr} {es : List Expr} {t : TA} {fs : EvA}
/-- a call of a def that may raise -/
def tCallX (sp : Sp) (Wx : WX) (t : TA) : TE := fun σ H Q => t σ H fun vs H1 => sp vs H1 Q fun cls d H' => Wx cls d σ H'
theorem pe_dfX (D : DfX X.prog X.w X.K X.mg X.base k x ps sp) (tk : L2N.Takes X Wx) (hr : Room k X.A) (hf : Free X.A) (hg : Gl X x) (args : PA X (e :: es) t) (nd : (x == ("__debug__" : Str)) = false := by decide)
    (he : starEach (e :: es) X.env = (false, eval e X.env) :: starEach es X.env := by rfl) (np : (backTo pos (starEach es X.env)).any (·.1) = false := by rfl) :
    PE X (.Call (.Name x p) (e :: es) [] pos) (tCallX sp Wx t) := by
  obtain ⟨f, fd, G, hm, kp, hb⟩ := D.ex
  refine ⟨fun pins s σ H Q I h => wpAny_Call_Name_kw (ld_glob I hg hm ?_ nd)⟩
  refine PySem.W.callWith_K (h₀ := X.base) I.ok.mod.kin kp (thn (args.run pos pins s σ H _ I h) fun us s1 ⟨vs, H1, I1, rel, q⟩ => ⟨I1.kIn, ?_⟩) he np
  have rel2 : Vals (vs ++ []) (us ++ []) := rel.append .nil
  have q2 : sp (vs ++ []) H1 Q fun cls d H' => Wx cls d σ H' := by rw [List.append_nil]; exact q
  have many : (us ++ []).length = ps.length := rel2.length.symm.trans (G.many _ _ _ _ q2)
  refine wpAny_call (codeAny_mono (G.runs X.A X.stack s1 H1 ⟨us, []⟩ (us ++ []) (vs ++ []) Q _ hr hf I1.env0 (hb s1 us I1.kIn many) rel2 q2) fun res s' out => ?_)
  cases res with
  | error er => exact tk er s' (L2N.XE.of_call I1 (fun cls d H' h => h) out)
  | ok flow =>
    cases flow with
    | ret _ => exact I1.after out
    | next => exact out.elim
    | brk => exact out.elim
    | cont => exact out.elim
/-- the call's reading, by value -/
theorem callX_of {σ : L2.St} {H : Hp} {ρ : Ev} {φ : Nat -> Addr} {M M' : Mem} {w : W} {Q : VK} (env : EnvR C φ M.length H σ ρ) (sim : Sim C φ M H) (e : eDef n F fs ρ M = some (w, M'))
    (hx : isX w = true -> ∀ φ' H', Step C φ M H φ' M' H' -> Wx (cl (exN w)) none σ H') (hq : isX w = false -> ∀ v φ' H', Step C φ M H φ' M' H' -> Rw C φ' M'.length H' v w -> Q v H') : tCallX (spX C cl n F) Wx (taOf C fs) σ H Q := by
  obtain ⟨⟨xs, M1⟩, e1, e⟩ := bsome e
  simp only at e
  split at e
  · rename_i z
    exact ⟨ρ, φ, M, xs, M1, env, sim, e1, fun vs φ1 H1 s1 r1 => ⟨φ1, M1, xs, w, M', r1, by rw [r1.length]; exact z, s1.sim, e, fun x φ2 H2 s2 => hx x φ2 H2 (s1.trans s2), fun x v φ2 H2 s2 r2 => hq x v φ2 H2 (s1.trans s2) r2⟩⟩
  · cases e
theorem x_exprC {pos2 : Pos} (D : DfX X.prog X.w X.K X.mg X.base k x ps (spX C cl n F)) (tk : L2N.Takes X Wx) (hr : Room k X.A) (hf : Free X.A) (hg : Gl X x) (args : PA X (e :: es) (taOf C fs)) (nd : (x == ("__debug__" : Str)) = false := by decide)
    (he : starEach (e :: es) X.env = (false, eval e X.env) :: starEach es X.env := by rfl) (np : (backTo pos (starEach es X.env)).any (·.1) = false := by rfl)
    (hs : swapsWith (.Call (.Name x p) (e :: es) [] pos) none pos2.line X.env = pure false := by rfl) :
    PS X (.Expr (.Call (.Name x p) (e :: es) [] pos) pos2) (tsX C cl Wx (sExprX (eDef n F fs))) :=
  (ps_expr (pe_dfX D tk hr hf hg args nd he np) hs).weak fun DD σ H ⟨ρ, φ, M, o, env, sim, e, q⟩ => by
    obtain ⟨⟨w, M1⟩, e1, e⟩ := bsome e
    refine callX_of env sim e1 (fun hw φ' H' s => ?_) fun hw v φ' H' s r => ?_
    · simp only [hw, if_true] at e
      cases e
      exact q.1 hw σ φ' H' s
    · simp only [hw, Bool.false_eq_true, if_false] at e
      cases e
      exact q _ φ' H' s (env.step s)
/-- raise of an own class without __init__ -/
theorem x_raise {c : Nat} {Ca : Addr} {B newId initId : String} {bmB : List Value} {m : Str} {j : Nat} {p2 pos' : Pos} (hc : X.calm = true) (tk : L2N.Takes X Wx) (FB : ExcBaseFacts B newId initId bmB) (q : PySem.W.excIn X.K Ca bmB newId = true) (gC : X.mg x = some (.ref Ca))
    (kC : PySem.W.keepIn X.K (.ref Ca) = true) (r : Raises X (.ref Ca)) (hg : Gl X x) (hcl : cl c = .ref Ca) (hdb : (x == ("__debug__" : Str)) = false := by decide) :
    PS X (.Raise (some (.Call (.Name x p) [.Constant (.str m) j p2] [] pos)) none pos') (tsX C cl Wx (sRaise c)) :=
  (L2N.ps_raise hc tk (L2N.pmk_own FB q gC kC r hg hdb)).weak fun DD σ H ⟨ρ, φ, M, o, env, sim, e, q⟩ => by
    cases e
    have := q.1 rfl σ φ H (.refl sim)
    rw [exN_ex, hcl] at this
    exact this
theorem takes_no : L2N.Takes X (fun _ _ _ _ => False) := fun u s' ⟨_, _, _, _, _, _, _, _, _, _, _, _, _, _, _, _, h⟩ => h.elim
/-- try: y = f(..), except of two classes; the first one takes all that f raises -/
theorem x_try2 {i : Nat} {y x1 x2 : Str} {c1 c2 : Value} {b1 b2 : Stmt} {s1 s2 : List Stmt} {np1 np2 q1 q2 : Pos} {gh gh2 : EvS} {pos' pos2 pos3 : Pos} (hst : X.stack = X.env :: X.outer) (hfr : X.env.frame = some X.env.locals)
    (D : DfX X.prog X.w X.K X.mg X.base k x ps (spX C cl n F)) (hr : Room k X.A) (hf : Free X.A) (hg : Gl X x) (args : ∀ (pn : List (Addr × Obj)) (xe : Value -> Shared -> Prop), PA (X.tr pn xe) (e :: es) (taOf C fs)) (hN : X.N.Nodup) (hi : X.N[i]? = some y) (hx : Loc X.env.scope y)
    (h1 : Names X x1 c1) (h2 : Names X x2 c2) (ex : ∀ m, PySem.W.exmOne X.K (cl m) c1 = some true)
    (su1 : ∀ (a : Addr) (oe : Obj) (pn : List (Addr × Obj)), PSs (X.suite a ((a, oe) :: pn)) (b1 :: s1) (tsOf C gh)) (su2 : ∀ (a : Addr) (oe : Obj) (pn : List (Addr × Obj)), PSs (X.suite a ((a, oe) :: pn)) (b2 :: s2) (tsOf C gh2)) (nd : (x == ("__debug__" : Str)) = false := by decide)
    (he : starEach (e :: es) X.env = (false, eval e X.env) :: starEach es X.env := by rfl) (np : (backTo pos (starEach es X.env)).any (·.1) = false := by rfl)
    (hs : swapsWith (.Call (.Name x p) (e :: es) [] pos) (some (.Name y pos')) pos2.line X.env = pure false := by rfl) (hl : X.fn y = true ∨ X.env.scope.names.lookup y = some .local := by first | exact .inl rfl | exact .inr rfl | assumption) :
    PS X (.Try [.Assign [.Name y pos'] (.Call (.Name x p) (e :: es) [] pos) pos2] [.ExceptHandler (some (.Name x1 np1)) none (b1 :: s1) q1, .ExceptHandler (some (.Name x2 np2)) none (b2 :: s2) q2] [] [] pos3) (tsOf C (sTryX i (eDef n F fs) gh)) :=
  (L2N.ps_try_many (Wout := fun _ _ _ _ => False) hst hfr takes_no (fun W pn xe tk _ => pss_one (ps_set (X := X.tr pn xe) hN hi hx (pe_dfX (X := X.tr pn xe) D tk hr hf hg (args pn xe) nd he np) hs hl))
    (.cons h1 (fun a oe cls d pn _ _ => su1 a oe pn) (.cons h2 (fun a oe cls d pn _ _ => su2 a oe pn) .nil))).weak fun DD σ H ⟨ρ, φ, M, o, env, sim, e, q⟩ => by
    obtain ⟨⟨w, M1⟩, e1, e⟩ := bsome e
    refine callX_of (C := C) (cl := cl) env sim e1 (fun hw φ' H' s => ?_) fun hw v φ' H' s r => ?_
    · simp only [hw, if_true] at e
      exact ⟨true, ex _, fun _ a _ => ⟨ρ, φ', M1, o, env.step s, s.sim, e, q.step s⟩, fun z => by cases z⟩
    · simp only [hw, Bool.false_eq_true, if_false] at e
      cases e
      exact q _ φ' H' s ((env.step s).set r i)
end
end Va
namespace Va
open PySem PySem.Spec PyProof.Rows L2 Sa
def sRetN : EvS := fun _ M => some (.rt (.d .none) M)
/-- [*a, ..] -/
def aStar (a : EvE) (as : EvA) : EvA := fun ρ M => (a ρ M).bind fun p => (seqOf p.2 p.1).bind fun xs => (as ρ p.2).bind fun q => some (xs ++ q.1, q.2)
section
variable {C : Ck} {cl : Nat -> Value} {Wx : WX} {X : Cx} {pos p : Pos} {e : Expr} {es : List Expr} {fa : EvE} {fs : EvA} {x : Str}
theorem q_retN : PS X (.Return none pos) (tsOf C sRetN) := ps_retN.weak fun D σ H ⟨ρ, φ, M, o, env, sim, e, q⟩ => by
  cases e
  exact q .non φ H (.refl sim) (.d .non)
theorem q_star (hK : X.K = C.K) (ha : PE X e (tOf C fa)) (hr : PA X es (taOf C fs)) (hs : starEach (.Starred e p :: es) X.env = (true, eval e X.env) :: starEach es X.env := by rfl) : PA X (.Starred e p :: es) (taOf C (aStar fa fs)) :=
  (StX.pa_star ha hr hs).weak fun σ H Q ⟨ρ, φ, M, w, M', env, sim, e, q⟩ => by
    obtain ⟨⟨y, M1⟩, e1, e⟩ := bsome e
    obtain ⟨xs, e2, e⟩ := bsome e
    obtain ⟨⟨ys, M2⟩, e3, e⟩ := bsome e
    cases e
    refine ⟨ρ, φ, M, y, M1, env, sim, e1, fun v φ1 H1 s1 r1 => ?_⟩
    obtain ⟨a, vs, rfl, sq, r2⟩ := seq_cases s1.sim r1 e2
    rw [<- hK] at sq
    exact ⟨a, vs, rfl, sq.symm, ρ, φ1, M1, ys, _, env.step s1, s1.sim, e3, fun us φ2 H2 s2 r3 => q _ φ2 H2 (s1.trans s2) ((r2.step s2).append r3)⟩
/-- what the head tells of an own exception class over ValueError that has no __init__ -/
structure ClsX (K : PySem.W.Frag) (mg : Str -> Option Value) (x : Str) (v : Value) : Prop where
  ex : ∃ (Ca : Addr) (bmB : List Value) (B newId initId : String), v = .ref Ca /\ ExcBaseFacts B newId initId bmB /\ PySem.W.excIn K Ca bmB newId = true /\ mg x = some (.ref Ca) /\ PySem.W.keepIn K (.ref Ca) = true /\ PySem.W.subIn K (.ref Ca) (.type "BaseException") = some true /\ PySem.W.typeIn K (.ref Ca) = some (.type "type")
theorem x_raiseC {c : Nat} {m : Str} {j : Nat} {p2 pos' : Pos} (hc : X.calm = true) (tk : L2N.Takes X Wx) (h : ClsX X.K X.mg x (cl c)) (hg : Gl X x) (hdb : (x == ("__debug__" : Str)) = false := by decide) :
    PS X (.Raise (some (.Call (.Name x p) [.Constant (.str m) j p2] [] pos)) none pos') (tsX C cl Wx (sRaise c)) := by
  obtain ⟨Ca, bmB, B, newId, initId, hcl, FB, q, gC, kC, sb, ty⟩ := h.ex
  exact x_raise hc tk FB q gC kC (raises_own sb ty) hg hcl hdb
theorem names_cls {v : Value} (h : X.mg x = some v) (hg : Gl X x) (hdb : (x == ("__debug__" : Str)) = false := by decide) : Names X x v := ⟨hg, hdb, .inl h⟩
end
end Va
namespace Va
open PySem PySem.Spec PyProof.Rows L2 L2.DX Sa
def oInK : O2 := fun a b M => (dicAt M b).bind fun l => (keyD a).bind fun k => some (.d (.bool (dGet l.2 k).isSome), M)
def oNotInK : O2 := fun a b M => (dicAt M b).bind fun l => (keyD a).bind fun k => some (.d (.bool !(dGet l.2 k).isSome), M)
/-- len(d) -/
def fLenK : Fn := fun as M => match as with
  | [a] => (dicAt M a).bind fun l => some (.d (.int (l.2.length : Int)), M)
  | _ => none
/-- l.pop() -/
def ePopL (o : EvE) : EvE := fun ρ M => (o ρ M).bind fun q => (lstAt q.2 q.1).bind fun l => (l.2[l.2.length - 1]?).bind fun y => some (y, q.2.set l.1 (.lst l.2.dropLast))
theorem RwAll.last {C : Ck} {φ : Nat -> Addr} {n : Nat} {H : Hp} : ∀ {vs : List V} {ws : List W}, RwAll C φ n H vs ws -> RwAll C φ n H vs.dropLast ws.dropLast
  | _, _, .nil => .nil
  | _, _, .cons a .nil => .nil
  | _, _, .cons a (.cons b r) => .cons a (RwAll.last (.cons b r))
section
variable {C : Ck}
theorem vc_lenK : VC C (rKdLen C.K C.w) fLenK := by
  intro φ M H xs as w M' Q sim r e q
  unfold fLenK at e
  split at e
  · obtain ⟨⟨i, es⟩, e1, e⟩ := bsome e
    cases e
    obtain ⟨x, rfl, r1⟩ := one_arg r
    obtain ⟨h1, h2⟩ := dicAt_eq e1
    subst h1
    obtain ⟨rfl, _⟩ := r1.isO
    obtain ⟨L, hL, dr⟩ := sim.ob _ _ h2
    refine ⟨_, L, rfl, hL, dr.keys, ?_⟩
    rw [dr.length]
    exact q _ φ H (.refl sim) (.d (.int _))
  · cases e
theorem q_popL {X : Cx} {o : Expr} {fo : EvE} {apos cpos : Pos} (h : PE X (.Call (.Attribute o "pop" apos) [] [] cpos) (tBM0 X.K "list" rPop (tOf C fo))) : PE X (.Call (.Attribute o "pop" apos) [] [] cpos) (tOf C (ePopL fo)) :=
  h.weak fun σ H Q ⟨ρ, φ, M, w, M', env, sim, e, q⟩ => by
    obtain ⟨⟨wo, M1⟩, e1, e⟩ := bsome e
    obtain ⟨⟨i, ws⟩, hl, e8⟩ := bsome e
    obtain ⟨h1, h2⟩ := lstAt_eq hl
    obtain ⟨y, hy, e9⟩ := bsome e8
    cases e9
    simp only at h1 h2 hy
    subst h1
    refine ⟨ρ, φ, M, _, M1, env, sim, e1, fun v φ1 H1 s1 r1 => ?_⟩
    obtain ⟨rfl, hi⟩ := r1.isO
    obtain ⟨vs, hv, r⟩ := s1.sim.ob _ _ h2
    obtain ⟨u, hu, ru⟩ := r.get hy
    have s3 := Step.set s1.sim h2 r.last
    refine ⟨.inl ⟨rfl, vs, SqL.of hv⟩, ⟨_, vs, u, rfl, rfl, hv, ?_, q _ φ1 _ (s1.trans s3) (ru.step s3)⟩⟩
    rw [r.length]
    exact hu
theorem inK_of {φ : Nat -> Addr} {M : Mem} {H : Hp} {x y : V} {a b : W} {neg : Bool} {l : Nat × List (PyData × PyData)} {k : PyData} {Q : VK} (sim : Sim C φ M H) (rx : Rw C φ M.length H x a) (ry : Rw C φ M.length H y b) (hl : dicAt M b = some l) (hk : keyD a = some k)
    (q : Q (.bl (if neg then !(dGet l.2 k).isSome else (dGet l.2 k).isSome)) H) : rKdIn C.K C.w neg x y H Q := by
  obtain ⟨i, es⟩ := l
  obtain ⟨ea, el⟩ := dicAt_eq hl
  obtain ⟨eb, ⟨ds, ek⟩, fl, dp⟩ := keyD_eq hk
  subst ea eb
  obtain ⟨rfl, _⟩ := ry.isO
  cases rx with | d rx =>
  obtain ⟨ka, rfl⟩ := Rp.isTup (ek ▸ rx)
  obtain ⟨L, hL, dr⟩ := sim.ob _ _ el
  refine ⟨_, L, ka, k, rfl, rfl, hL, dr.keys, rx.dp, fl, dp, ?_⟩
  rcases dr.get k with ⟨h1, h2⟩ | ⟨u, d, h1, h2, h3⟩
  · rw [h1]
    simp only at q
    rw [h2] at q
    exact q
  · rw [h1]
    simp only at q
    rw [h2] at q
    exact q
theorem vo_inK : VO2 C (rKdIn C.K C.w false) oInK := by
  intro φ M H x y a b w M' Q sim rx ry e q
  obtain ⟨l, hl, e⟩ := bsome e
  obtain ⟨k, hk, e⟩ := bsome e
  cases e
  exact inK_of sim rx ry hl hk (q _ φ H (.refl sim) (.d (.bl _)))
theorem vo_notInK : VO2 C (rKdIn C.K C.w true) oNotInK := by
  intro φ M H x y a b w M' Q sim rx ry e q
  obtain ⟨l, hl, e⟩ := bsome e
  obtain ⟨k, hk, e⟩ := bsome e
  cases e
  exact inK_of sim rx ry hl hk (q _ φ H (.refl sim) (.d (.bl _)))
end
end Va
namespace Va
open PySem PySem.Spec PyProof.Rows L2 L2.DX Sa
def sExtT (o e : EvE) : EvE := fun ρ M => (o ρ M).bind fun q => (lstAt q.2 q.1).bind fun _ => (e ρ q.2).bind fun p => (lstAt p.2 q.1).bind fun l => (tupOf p.1).bind fun k => if l.2.length + k.length <= sizeLine then some (.d .none, p.2.set l.1 (.lst (l.2 ++ k))) else none
section
variable {C : Ck} {X : Cx} {o e : Expr} {fo fe : EvE} {apos cpos : Pos}
theorem q_extT (hK : X.K = C.K) (h : PE X (.Call (.Attribute o "extend" apos) [e] [] cpos) (tBM X.K "list" (rExtendT X.K) (tOf C fo) (tCons (tOf C fe) tNil))) :
    PE X (.Call (.Attribute o "extend" apos) [e] [] cpos) (tOf C (sExtT fo fe)) :=
  h.weak fun σ H Q ⟨ρ, φ, M, w, M', env, sim, e, q⟩ => by
    obtain ⟨⟨wo, M1⟩, e1, e⟩ := bsome e
    obtain ⟨⟨i1, ws1⟩, hl1, e⟩ := bsome e
    obtain ⟨⟨we, M2⟩, e2, e⟩ := bsome e
    obtain ⟨⟨i, ws⟩, el, e⟩ := bsome e
    obtain ⟨us, ek, e⟩ := bsome e
    split at e
    · rename_i small
      cases e
      obtain ⟨h1, h2⟩ := lstAt_eq el
      simp only at h1 h2 small ek
      subst h1
      obtain ⟨h3, h4⟩ := lstAt_eq hl1
      cases h3
      refine ⟨ρ, φ, M, _, M1, env, sim, e1, fun v φ1 H1 s1 r1 => ?_⟩
      obtain ⟨rfl, hi⟩ := r1.isO
      obtain ⟨vs1, hv1, _⟩ := s1.sim.ob _ _ h4
      refine ⟨.inl ⟨rfl, vs1, SqL.of hv1⟩, ρ, φ1, M1, _, M2, env.step s1, s1.sim, e2, fun v2 φ2 H2 s2 r2 => ?_⟩
      obtain ⟨vs, hv, r⟩ := s2.sim.ob _ _ h2
      obtain ⟨a, us', rfl, sq, ru⟩ := r2.un ek
      rw [s2.ext _ hi] at hv
      rw [hK]
      refine ⟨_, _, vs, us', rfl, rfl, hv, sq, by rw [r.length, ru.length]; exact small, ?_⟩
      have s3 := Step.set s2.sim h2 (r.append ru)
      rw [s2.ext _ hi] at s3
      exact q _ φ2 _ (s1.trans (s2.trans s3)) (.d .non)
    · cases e
end
end Va
namespace Va
open PySem PySem.Spec PyProof.Rows L2 Sa Gn
/-- it can be shown -/
def ShowOkS (d : PyData) : Prop := match d with
  | .str x => (reprText x).length <= sizeLine
  | d => ShowOk d
theorem ShowOkS.of {d : PyData} (h : ShowOk d) : ShowOkS d := by
  cases d with
  | str x => exact h.elim
  | int i => exact h
  | bool b => exact h
  | none => exact h
  | tuple ds => exact h
  | list ds => exact h
  | dict ds => exact h
def rRepS (K : PySem.W.Frag) : List V -> Hp -> VK -> Prop := fun xs H Q => ∃ (x : V) (d : PyData), xs = [x] /\ Dp K H x d /\ ShowOkS d /\ Q (.str d.shown) H
theorem call_repS {X : Cx} (hf : Free X.A) (hu : X.A.units + 64 < cLine) : CallR X (.builtin "repr") (rRepS X.K) := by
  intro pins s σ H xs us Q I rel h
  obtain ⟨x, d, rfl, hd, ok, q⟩ := h
  cases d with
  | str y =>
    obtain ⟨u, rfl, r1⟩ := rel.one
    cases hd
    obtain ⟨t, rfl⟩ := r1
    exact PySem.P.repr_of_str ⟨.str _, H, I.tok _, ⟨_, rfl⟩, q⟩ ok
  | none => exact call_rep hf hu pins s σ H _ us Q I rel ⟨_, _, rfl, hd, ok, q⟩
  | bool b => exact call_rep hf hu pins s σ H _ us Q I rel ⟨_, _, rfl, hd, ok, q⟩
  | int i => exact call_rep hf hu pins s σ H _ us Q I rel ⟨_, _, rfl, hd, ok, q⟩
  | tuple ds => exact call_rep hf hu pins s σ H _ us Q I rel ⟨_, _, rfl, hd, ok, q⟩
  | list ds => exact call_rep hf hu pins s σ H _ us Q I rel ⟨_, _, rfl, hd, ok, q⟩
  | dict ds => exact call_rep hf hu pins s σ H _ us Q I rel ⟨_, _, rfl, hd, ok, q⟩
open Classical in
noncomputable def fRepS : Fn := fun as M => match as with
  | [w] => (deepD M 4 w).bind fun d => if ShowOkS d then some (.d (.str d.shown), M) else none
  | _ => none
theorem vc_repS {C : Ck} : VC C (rRepS C.K) fRepS := by
  intro φ M H xs as w M' Q sim r e q
  unfold fRepS at e
  split at e
  · rename_i w0
    obtain ⟨d, ed, e⟩ := bsome e
    split at e
    · rename_i ok
      cases e
      obtain ⟨x, rfl, r1⟩ := one_arg r
      exact ⟨x, d, rfl, deepD_rel sim 4 w0 x d r1 ed, ok, q _ φ H (.refl sim) (.d (.str _))⟩
    · cases e
  · cases e
end Va
namespace Pg
open PySem PySem.Spec PyProof.Rows L2 Sa Va
noncomputable def g_is_note : EvS :=
    (sRet (eOp oEq (eOp oIx (eVar 0) (eC (.int 0))) (eC (.str "note"))))
noncomputable def F_is_note : Fn := nf (fnV 1 (g_is_note))
noncomputable def g_size_of : EvS :=
    (sSeq (sIf (tVal (eOp oEq (eOp oIx (eVar 0) (eC (.int 0))) (eC (.str "rest")))) (sRet (eOp oSub (eOp oIx (eVar 0) (eC (.int 3))) (eC (.int 1)))) sNil)
    (sRet (eCall fMax2 (aCons (eOp oAdd (eC (.int 1)) (eCall fAbs (aCons (eOp oIx (eVar 0) (eC (.int 2))) aNil))) (aCons (eMaxAbs (eOp oIx (eVar 0) (eC (.int 1)))) aNil)))))
noncomputable def F_size_of : Fn := nf (fnV 2 (g_size_of))
noncomputable def g_left_by : EvS :=
    (sSeq (sIf (tVal (eOp oEq (eOp oIx (eVar 0) (eC (.int 0))) (eC (.str "rest")))) (sRet (eOp oMod (eVar 1) (eOp oIx (eVar 0) (eC (.int 3))))) sNil)
    (sRet (eVar 1)))
noncomputable def F_left_by : Fn := nf (fnV 2 (g_left_by))
noncomputable def g_cut : EvS :=
    (sSeq (sIf (tVal (eOp oEq (eOp oIx (eVar 0) (eC (.int 0))) (eC (.str "rest")))) (sRet (eTup (aCons (eDef 2 (F_left_by) (aCons (eVar 0) (aCons (eVar 1) aNil))) (aCons (eC (.int 0)) aNil)))) sNil)
    (sSeq (sSet 2 (eDef 1 (F_size_of) (aCons (eVar 0) aNil)))
    (sSeq (sSet 3 (eCall fMax2 (aCons (eUn oNeg (eVar 2)) (aCons (eCall fMin2 (aCons (eVar 2) (aCons (eVar 1) aNil))) aNil))))
    (sRet (eTup (aCons (eVar 3) (aCons (eOp oSub (eVar 1) (eVar 3)) aNil)))))))
noncomputable def F_cut : Fn := nf (fnV 4 (g_cut))
noncomputable def g_says : EvS :=
    (sSeq (sIf (tVal (eOp oEq (eOp oIx (eVar 0) (eC (.int 0))) (eC (.str "rest")))) (sRet (eOp oEq (eVar 1) (eOp oIx (eVar 0) (eC (.int 2))))) sNil)
    (sRet (eOp oGe (eVar 1) (eOp oIx (eVar 0) (eC (.int 2))))))
noncomputable def F_says : Fn := nf (fnV 2 (g_says))
noncomputable def g_members_met : EvS :=
    (sSeq (sIf (tAndE (tNotE (tVal (eOp oIx (eVar 1) (eC (.int 0))))) (tNotE (tVal (eOp oIx (eVar 2) (eC (.int 0)))))) (sRet (eTup (aCons (eVar 1) (aCons (eVar 2) aNil)))) sNil)
    (sSeq (sAsg (eDef 2 (F_cut) (aCons (eVar 0) (aCons (eOp oAdd (eOp oIx (eVar 1) (eC (.int 1))) (eOp oIx (eVar 2) (eC (.int 1)))) aNil))) (gT 2 (gsC (gN 3) (gsC (gN 4) gs0))))
    (sSeq (sSet 5 (eDef 2 (F_says) (aCons (eVar 0) (aCons (eVar 3) aNil))))
    (sSeq (sSet 6 (eTup (aCons (eC (.bool true)) (aCons (eVar 3) (aCons (eVar 5) aNil)))))
    (sSeq (sSet 7 (eTup (aCons (eC (.bool false)) (aCons (eVar 4) (aCons (eVar 5) aNil)))))
    (sSeq (sIf (tVal (eOp oIx (eVar 1) (eC (.int 0)))) (sRet (eTup (aCons (eVar 6) (aCons (eVar 7) aNil)))) sNil)
    (sRet (eTup (aCons (eVar 7) (aCons (eVar 6) aNil))))))))))
noncomputable def F_members_met : Fn := nf (fnV 8 (g_members_met))
noncomputable def g_holds_met : EvS :=
    (sSeq (sSet 3 (eLc (iZip3W (aCons (eVar 0) (aCons (eVar 1) (aCons (eVar 2) aNil)))) (gT 3 (gsC (gN 4) (gsC (gN 5) (gsC (gN 6) gs0)))) tTrue (eDef 3 (F_members_met) (aCons (eVar 4) (aCons (eVar 5) (aCons (eVar 6) aNil)))) [4, 5, 6]))
    (sRet (eTup (aCons (eTupIx 0 (eVar 3)) (aCons (eTupIx 1 (eVar 3)) aNil)))))
noncomputable def F_holds_met : Fn := nf (fnV 8 (g_holds_met))
noncomputable def g_is_tuple_of : EvS :=
    (sRet (eAnd (eIsi "tuple" (eVar 0)) (eOp oEq (eCall fLen (aCons (eVar 0) aNil)) (eVar 1))))
noncomputable def F_is_tuple_of : Fn := nf (fnV 2 (g_is_tuple_of))
noncomputable def g_is_headed : EvS :=
    (sRet (eAnd (eDef 2 (F_is_tuple_of) (aCons (eVar 0) (aCons (eVar 2) aNil))) (eAnd (eIsi "str" (eOp oIx (eVar 0) (eC (.int 0)))) (eOp oEq (eOp oIx (eVar 0) (eC (.int 0))) (eVar 1)))))
noncomputable def F_is_headed : Fn := nf (fnV 3 (g_is_headed))
noncomputable def g_is_joined : EvS :=
    (sRet (eOr (eDef 3 (F_is_headed) (aCons (eVar 0) (aCons (eC (.str "not")) (aCons (eC (.int 2)) aNil)))) (eOr (eDef 3 (F_is_headed) (aCons (eVar 0) (aCons (eC (.str "and")) (aCons (eC (.int 3)) aNil)))) (eDef 3 (F_is_headed) (aCons (eVar 0) (aCons (eC (.str "or")) (aCons (eC (.int 3)) aNil)))))))
noncomputable def F_is_joined : Fn := nf (fnV 1 (g_is_joined))
noncomputable def g_all_simples (self : Fn) : EvS :=
    (sSeq (sIf (tNotE (tVal (eDef 1 (F_is_joined) (aCons (eVar 0) aNil)))) (sRet (eLst (aCons (eVar 0) aNil))) sNil)
    (sSeq (sSet 1 (eLst aNil))
    (sSeq (sFor (iSeq (eSlT (some 1) none (eVar 0))) (gN 2) (sExpr (sExt (eVar 1) (eDef 1 self (aCons (eVar 2) aNil)))))
    (sRet (eVar 1)))))
noncomputable def F_all_simples : Nat -> Fn
  | 0 => fun _ _ => none
  | k + 1 => nf (fnV 3 (g_all_simples (F_all_simples k)))
noncomputable def g_simples : EvS :=
    (sRet (eCall fTuple (aCons (eCall fSortSet (aCons (eDef 1 (F_all_simples 9) (aCons (eVar 0) aNil)) aNil)) aNil)))
noncomputable def F_simples : Fn := nf (fnV 1 (g_simples))
end Pg
namespace K53
open PySem PySem.Spec PyProof.Rows L2 Sa Va
noncomputable def g__law_box (ns : List Int) : EvS :=
    (sSeq (sSet 2 (eIf (tVal (eOp oLt (eVar 1) (eCall (fLenS ns) (aCons (eVar 0) aNil)))) (eOp (oIxS ns) (eVar 0) (eVar 1)) (eC (.int 0))))
    (sSeq (sSet 3 (eOp oMod (eOp oMul (eOp oAdd (eOp oAdd (eOp oMod (eVar 2) (eC (.int 2305843009213693951))) (eOp oMul (eC (.int 104729)) (eVar 1))) (eC (.int 7))) (eC (.int 48271))) (eC (.int 2305843009213693921))))
    (sRet (eLst (aCons (eOp oMul (eCall fAbs (aCons (eVar 2) aNil)) (eCall fInt (aCons (eOp oGe (eCall fAbs (aCons (eVar 2) aNil)) (eOp oPow (eC (.int 10)) (eC (.int 18)))) aNil))) (aCons (eVar 3) (aCons (eC (.int 0)) aNil)))))))
noncomputable def F__law_box (ns : List Int) : Fn := nf (fnV 4 (g__law_box ns))
noncomputable def g__law_take : EvS :=
    (sSeq (sIf (tVal (eOp oGt (eOp oIx (eVar 0) (eC (.int 0))) (eC (.int 0)))) (sSeq (sSet 2 (eOp oMod (eOp oIx (eVar 0) (eC (.int 0))) (eVar 1)))
    (sSeq (sPut (eOp oDiv (eOp oIx (eVar 0) (eC (.int 0))) (eVar 1)) (eVar 0) (eC (.int 0)))
    (sRet (eVar 2)))) sNil)
    (sSeq (sPut (eOp oAdd (eOp oIx (eVar 0) (eC (.int 2))) (eC (.int 1))) (eVar 0) (eC (.int 2)))
    (sSeq (sSet 3 (eLst (aCons (eC (.int 2147483647)) (aCons (eC (.int 2147483629)) (aCons (eC (.int 2147483587)) (aCons (eC (.int 2147483579)) (aCons (eC (.int 2147483563)) (aCons (eC (.int 2147483549)) (aCons (eC (.int 2147483543)) aNil)))))))))
    (sSeq (sSet 4 (eOp oIx (eVar 3) (eOp oMod (eOp oIx (eVar 0) (eC (.int 2))) (eC (.int 7)))))
    (sSeq (sSet 5 (eOp oMod (eOp oPow (eOp oAdd (eOp oIx (eVar 0) (eC (.int 1))) (eOp oMul (eC (.int 7919)) (eOp oIx (eVar 0) (eC (.int 2))))) (eC (.int 5))) (eVar 4)))
    (sRet (eOp oMod (eOp oDiv (eOp oMod (eOp oMul (eVar 5) (eOp oAdd (eOp oMod (eVar 5) (eC (.int 1009))) (eOp oIx (eVar 0) (eC (.int 2))))) (eVar 4)) (eC (.int 7))) (eVar 1))))))))
noncomputable def F__law_take : Fn := nf (fnV 6 (g__law_take))
noncomputable def g__law_simple : EvS :=
    (sSeq (sSet 3 (eCall fTuple (aCons (eLc (iRange1 (aCons (eVar 1) aNil)) (gN 5) tTrue (eOp oSub (eDef 2 (F__law_take) (aCons (eVar 0) (aCons (eOp oAdd (eOp oMul (eC (.int 2)) (eVar 2)) (eC (.int 1))) aNil))) (eVar 2)) [5]) aNil)))
    (sSeq (sIf (tVal (eOp oEq (eDef 2 (F__law_take) (aCons (eVar 0) (aCons (eC (.int 3)) aNil))) (eC (.int 0)))) (sSeq (sSet 4 (eOp oAdd (eC (.int 2)) (eDef 2 (F__law_take) (aCons (eVar 0) (aCons (eC (.int 2)) aNil)))))
    (sRet (eTup (aCons (eC (.str "rest")) (aCons (eVar 3) (aCons (eDef 2 (F__law_take) (aCons (eVar 0) (aCons (eVar 4) aNil))) (aCons (eVar 4) aNil))))))) sNil)
    (sRet (eTup (aCons (eC (.str "sum")) (aCons (eVar 3) (aCons (eOp oSub (eDef 2 (F__law_take) (aCons (eVar 0) (aCons (eOp oAdd (eOp oMul (eC (.int 2)) (eVar 2)) (eC (.int 1))) aNil))) (eVar 2)) aNil)))))))
noncomputable def F__law_simple : Fn := nf (fnV 6 (g__law_simple))
noncomputable def g__law_saying : EvS :=
    (sSeq (sSet 3 (eDef 2 (F__law_take) (aCons (eVar 0) (aCons (eC (.int 6)) aNil))))
    (sSeq (sIf (tVal (eOp oLt (eVar 3) (eC (.int 3)))) (sSeq (sSet 4 (eDef 3 (F__law_simple) (aCons (eVar 0) (aCons (eVar 1) (aCons (eVar 2) aNil)))))
    (sRet (eIf (tVal (eOp oEq (eVar 3) (eC (.int 2)))) (eTup (aCons (eC (.str "not")) (aCons (eVar 4) aNil))) (eVar 4)))) sNil)
    (sSeq (sSet 5 (eLc (iRange1 (aCons (eC (.int 2)) aNil)) (gN 8) tTrue (eCall fTuple (aCons (eLc (iRange1 (aCons (eVar 1) aNil)) (gN 9) tTrue (eOp oSub (eDef 2 (F__law_take) (aCons (eVar 0) (aCons (eC (.int 3)) aNil))) (eC (.int 1))) [9]) aNil)) [8]))
    (sSeq (sSet 6 (eTup (aCons (eC (.str "rest")) (aCons (eOp oIx (eVar 5) (eC (.int 0))) (aCons (eDef 2 (F__law_take) (aCons (eVar 0) (aCons (eC (.int 2)) aNil))) (aCons (eC (.int 2)) aNil))))))
    (sSeq (sIf (tVal (eOp oEq (eDef 2 (F__law_take) (aCons (eVar 0) (aCons (eC (.int 2)) aNil))) (eC (.int 0)))) (sSet 7 (eTup (aCons (eC (.str "rest")) (aCons (eOp oIx (eVar 5) (eC (.int 1))) (aCons (eDef 2 (F__law_take) (aCons (eVar 0) (aCons (eC (.int 3)) aNil))) (aCons (eC (.int 3)) aNil)))))) (sSet 7 (eTup (aCons (eC (.str "sum")) (aCons (eOp oIx (eVar 5) (eC (.int 1))) (aCons (eDef 2 (F__law_take) (aCons (eVar 0) (aCons (eC (.int 2)) aNil))) aNil))))))
    (sRet (eOp oIx (eLst (aCons (eTup (aCons (eC (.str "and")) (aCons (eVar 6) (aCons (eVar 7) aNil)))) (aCons (eTup (aCons (eC (.str "or")) (aCons (eVar 7) (aCons (eVar 6) aNil)))) (aCons (eTup (aCons (eC (.str "and")) (aCons (eTup (aCons (eC (.str "not")) (aCons (eVar 6) aNil))) (aCons (eVar 7) aNil)))) aNil)))) (eOp oSub (eVar 3) (eC (.int 3))))))))))
noncomputable def F__law_saying : Fn := nf (fnV 10 (g__law_saying))
noncomputable def g__law_of : EvS :=
    (sRet (eOp oIx (eVar 1) (eDef 2 (F__law_take) (aCons (eVar 0) (aCons (eCall fLen (aCons (eVar 1) aNil)) aNil)))))
noncomputable def F__law_of : Fn := nf (fnV 2 (g__law_of))
noncomputable def g__law_about_sixty : EvS :=
    (sSeq (sSet 1 (eOp oAdd (eC (.int 8)) (eDef 2 (F__law_take) (aCons (eVar 0) (aCons (eC (.int 9)) aNil)))))
    (sSeq (sSet 2 (eDef 2 (F__law_of) (aCons (eVar 0) (aCons (eLst (aCons (eTup (aCons (eC (.int 1)) aNil)) (aCons (eTup (aCons (eC (.int 1)) (aCons (eUn oNeg (eC (.int 1))) aNil))) (aCons (eTup (aCons (eC (.int 2)) (aCons (eUn oNeg (eC (.int 1))) aNil))) (aCons (eTup (aCons (eC (.int 3)) (aCons (eUn oNeg (eC (.int 2))) aNil))) (aCons (eTup (aCons (eC (.int 9)) (aCons (eC (.int 1)) aNil))) aNil)))))) aNil))))
    (sRet (eTup (aCons (eC (.str "sum")) (aCons (eVar 2) (aCons (eDef 2 (F__law_of) (aCons (eVar 0) (aCons (eLst (aCons (eOp oSub (eVar 1) (eC (.int 1))) (aCons (eOp oSub (eC (.int 1)) (eVar 1)) aNil))) aNil))) aNil)))))))
noncomputable def F__law_about_sixty : Fn := nf (fnV 3 (g__law_about_sixty))
noncomputable def g__law_holds : EvS :=
    (sRet (eIf (tVal (eOp oEq (eOp oIx (eVar 0) (eC (.int 0))) (eC (.str "sum")))) (eOp oGe (eVar 1) (eOp oIx (eVar 0) (eC (.int 2)))) (eOp oEq (eVar 1) (eOp oIx (eVar 0) (eC (.int 2))))))
noncomputable def F__law_holds : Fn := nf (fnV 2 (g__law_holds))
noncomputable def g__law_fresh : EvS :=
    (sSeq (sSet 2 (eLst aNil))
    (sSeq (sFor (iSeq (eVar 0)) (gN 3) (sSeq (sSet 4 (eIf (tVal (eOp oEq (eOp oIx (eVar 3) (eC (.int 0))) (eC (.str "sum")))) (eOp oIx (eOp oIx (eVar 3) (eC (.int 1))) (eVar 1)) (eOp oMod (eOp oIx (eOp oIx (eVar 3) (eC (.int 1))) (eVar 1)) (eOp oIx (eVar 3) (eC (.int 3))))))
    (sExpr (sApp (eVar 2) (eTup (aCons (eC (.bool true)) (aCons (eVar 4) (aCons (eDef 2 (F__law_holds) (aCons (eVar 3) (aCons (eVar 4) aNil))) aNil))))))))
    (sRet (eCall fTuple (aCons (eVar 2) aNil)))))
noncomputable def F__law_fresh : Fn := nf (fnV 5 (g__law_fresh))
noncomputable def g__law_parted : EvS :=
    (sSeq (sIf (tVal (eOp oEq (eOp oIx (eVar 0) (eC (.int 0))) (eC (.str "rest")))) (sRet (eTup (aCons (eOp oMod (eVar 1) (eOp oIx (eVar 0) (eC (.int 3)))) (aCons (eC (.int 0)) aNil)))) sNil)
    (sSeq (sSet 2 (eCall fMaxL (aCons (eOp oCat (eLst (aCons (eOp oAdd (eCall fAbs (aCons (eOp oIx (eVar 0) (eC (.int 2))) aNil)) (eC (.int 1))) aNil)) (eLc (iSeq (eOp oIx (eVar 0) (eC (.int 1)))) (gN 4) tTrue (eCall fAbs (aCons (eVar 4) aNil)) [4])) aNil)))
    (sSeq (sSet 3 (eCall fMax2 (aCons (eOp oSub (eC (.int 0)) (eVar 2)) (aCons (eCall fMin2 (aCons (eVar 2) (aCons (eVar 1) aNil))) aNil))))
    (sRet (eTup (aCons (eVar 3) (aCons (eOp oSub (eVar 1) (eVar 3)) aNil)))))))
noncomputable def F__law_parted : Fn := nf (fnV 5 (g__law_parted))
noncomputable def g__law_met : EvS :=
    (sSeq (sPar 3 4 (aCons (eLst aNil) (aCons (eLst aNil) aNil)))
    (sSeq (sFor (iZip3W (aCons (eVar 0) (aCons (eVar 1) (aCons (eVar 2) aNil)))) (gT 3 (gsC (gN 5) (gsC (gN 6) (gsC (gN 7) gs0)))) (sSeq (sIf (tOrE (tVal (eOp oIx (eVar 6) (eC (.int 0)))) (tVal (eOp oIx (eVar 7) (eC (.int 0))))) (sSeq (sAsg (eDef 2 (F__law_parted) (aCons (eVar 5) (aCons (eOp oAdd (eOp oIx (eVar 6) (eC (.int 1))) (eOp oIx (eVar 7) (eC (.int 1)))) aNil))) (gT 2 (gsC (gN 8) (gsC (gN 9) gs0))))
    (sSeq (sSet 10 (eDef 2 (F__law_holds) (aCons (eVar 5) (aCons (eVar 8) aNil))))
    (sSeq (sSet 11 (eLst (aCons (eTup (aCons (eC (.bool true)) (aCons (eVar 8) (aCons (eVar 10) aNil)))) (aCons (eTup (aCons (eC (.bool false)) (aCons (eVar 9) (aCons (eVar 10) aNil)))) aNil))))
    (sAsgL 2 (eIf (tVal (eOp oIx (eVar 6) (eC (.int 0)))) (eVar 11) (eRevL (eVar 11))) (gsC (gN 6) (gsC (gN 7) gs0)))))) sNil)
    (sSeq (sExpr (sApp (eVar 3) (eVar 6)))
    (sExpr (sApp (eVar 4) (eVar 7))))))
    (sRet (eTup (aCons (eCall fTuple (aCons (eVar 3) aNil)) (aCons (eCall fTuple (aCons (eVar 4) aNil)) aNil))))))
noncomputable def F__law_met : Fn := nf (fnV 12 (g__law_met))
noncomputable def g__law_all : EvS :=
    (sSeq (sPar 3 4 (aCons (eLc (iRange1 (aCons (eVar 1) aNil)) (gN 7) tTrue (eDef 2 (F__law_fresh) (aCons (eVar 0) (aCons (eVar 7) aNil))) [7]) (aCons eDict0 aNil)))
    (sSeq (whN (tVal (eOp oNeL (eVar 3) (eLst aNil))) (sSeq (sSet 5 (ePopL (eVar 3)))
    (sSeq (sIf (tVal (eOp oNotInK (eVar 5) (eVar 4))) (sSeq (sPutD (eC (.bool true)) (eVar 4) (eVar 5))
    (sFor (iSeq (eCall fLstK (aCons (eVar 4) aNil))) (gN 6) (sSeq (sExpr (sExtT (eVar 3) (eDef 3 (F__law_met) (aCons (eVar 0) (aCons (eVar 5) (aCons (eVar 6) aNil))))))
    (sExpr (sExtT (eVar 3) (eDef 3 (F__law_met) (aCons (eVar 0) (aCons (eVar 6) (aCons (eVar 5) aNil))))))))) sNil)
    (sIf (tVal (eOp oGt (eCall fLenK (aCons (eVar 4) aNil)) (eVar 2))) (sRet (eC .none)) sNil))) 1000000)
    (sRet (eCall fTuple (aCons (eCall fSortK (aCons (eVar 4) aNil)) aNil)))))
noncomputable def F__law_all : Fn := nf (fnV 8 (g__law_all))
noncomputable def g__law_parts (self : Fn) : EvS :=
    (sSeq (sIf (tVal (eOp oInT (eOp oIx (eVar 0) (eC (.int 0))) (eTup (aCons (eC (.str "sum")) (aCons (eC (.str "rest")) aNil))))) (sRet (eLst (aCons (eVar 0) aNil))) sNil)
    (sSeq (sSet 1 (eLst aNil))
    (sSeq (sFor (iSeq (eSlT (some 1) none (eVar 0))) (gN 2) (sExpr (sExt (eVar 1) (eDef 1 self (aCons (eVar 2) aNil)))))
    (sRet (eCall fSortSet (aCons (eVar 1) aNil))))))
noncomputable def F__law_parts : Nat -> Fn
  | 0 => fun _ _ => none
  | k + 1 => nf (fnV 3 (g__law_parts (F__law_parts k)))
noncomputable def g_fresh_hold : EvS :=
    (sSeq (sSet 2 (eDef 2 (Pg.F_left_by) (aCons (eVar 0) (aCons (eOp oIx (eOp oIx (eVar 0) (eC (.int 1))) (eVar 1)) aNil))))
    (sRet (eTup (aCons (eC (.bool true)) (aCons (eVar 2) (aCons (eDef 2 (Pg.F_says) (aCons (eVar 0) (aCons (eVar 2) aNil))) aNil))))))
noncomputable def F_fresh_hold : Fn := nf (fnV 3 (g_fresh_hold))
noncomputable def g_fresh : EvS :=
    (sRet (eTup (aCons (eC (.str "member")) (aCons (eVar 1) (aCons (eTupX (iSeq (eDef 1 (Pg.F_simples) (aCons (eVar 0) aNil))) (gN 2) tTrue (eDef 2 (F_fresh_hold) (aCons (eVar 2) (aCons (eVar 1) aNil))) [2]) aNil)))))
noncomputable def F_fresh : Fn := nf (fnV 3 (g_fresh))
noncomputable def g_sorts_of : EvS :=
    (sSeq (whN (tVal (eDef 1 (Pg.F_is_joined) (aCons (eVar 0) aNil))) (sSet 0 (eOp oIx (eVar 0) (eC (.int 1)))) 1000000)
    (sRet (eCall fLen (aCons (eOp oIx (eVar 0) (eC (.int 1))) aNil))))
noncomputable def F_sorts_of : Fn := nf (fnV 1 (g_sorts_of))
noncomputable def g_first_holds : EvS :=
    (sRet (eLc (iRange1 (aCons (eDef 1 (F_sorts_of) (aCons (eVar 0) aNil)) aNil)) (gN 1) tTrue (eOp oIx (eDef 2 (F_fresh) (aCons (eVar 0) (aCons (eVar 1) aNil))) (eC (.int 2))) [1]))
noncomputable def F_first_holds : Fn := nf (fnV 2 (g_first_holds))
noncomputable def g_note_holds : EvS :=
    (sSeq (sIf (tVal (eOp oInK (eVar 2) (eVar 1))) (sNX sRetN) sNil)
    (sSeq (sIf (tVal (eOp oEq (eCall fLen (aCons (eVar 0) aNil)) (eC (.int 60)))) (sRaise 0) sNil)
    (sSeq (sNX (sPutD (eC (.bool true)) (eVar 1) (eVar 2)))
    (sNX (sExpr (sApp (eVar 0) (eVar 2)))))))
noncomputable def F_note_holds : Fn := nfX (fnV 3 (g_note_holds))
noncomputable def g_holds_between : EvS :=
    (sRet (eLst (aStar (eDef 3 (Pg.F_holds_met) (aCons (eVar 0) (aCons (eVar 1) (aCons (eVar 2) aNil)))) (aStar (eDef 3 (Pg.F_holds_met) (aCons (eVar 0) (aCons (eVar 2) (aCons (eVar 1) aNil)))) aNil))))
noncomputable def F_holds_between : Fn := nf (fnV 3 (g_holds_between))
noncomputable def g_holds_made : EvS :=
    (sSeq (sNX (sSet 1 (eDef 1 (Pg.F_simples) (aCons (eVar 0) aNil))))
    (sSeq (sNX (sSet 2 (eLst aNil)))
    (sSeq (sNX (sSet 3 eDict0))
    (sSeq (sFor (iSeq (eDef 1 (F_first_holds) (aCons (eVar 0) aNil))) (gN 4) (sExprX (eDef 3 (F_note_holds) (aCons (eVar 2) (aCons (eVar 3) (aCons (eVar 4) aNil))))))
    (sSeq (sNX (sSet 5 (eC (.int 0))))
    (sSeq (whN (tVal (eOp oLt (eVar 5) (eCall fLen (aCons (eVar 2) aNil)))) (sSeq (sFor (iRange1 (aCons (eOp oAdd (eVar 5) (eC (.int 1))) aNil)) (gN 6) (sSeq (sNX (sSet 7 (eOp oIx (eVar 2) (eVar 5))))
    (sSeq (sNX (sSet 8 (eOp oIx (eVar 2) (eVar 6))))
    (sFor (iSeq (eDef 3 (F_holds_between) (aCons (eVar 1) (aCons (eVar 7) (aCons (eVar 8) aNil))))) (gN 4) (sExprX (eDef 3 (F_note_holds) (aCons (eVar 2) (aCons (eVar 3) (aCons (eVar 4) aNil)))))))))
    (sNX (sAug (fun i j => i + j) 5 (eC (.int 1))))) 1000000)
    (sNX (sRet (eCall fTuple (aCons (eCall fSortL (aCons (eVar 2) aNil)) aNil))))))))))
noncomputable def F_holds_made : Fn := nfX (fnV 9 (g_holds_made))
noncomputable def g__law_heard : EvS :=
    (sSeq (sSet 1 (eC (.str "odd")))
    (sSeq (sTryX 1 (eDef 1 (F_holds_made) (aCons (eVar 0) aNil)) (sSet 1 (eC (.str "many"))))
    (sRet (eVar 1))))
noncomputable def F__law_heard : Fn := nf (fnV 2 (g__law_heard))
noncomputable def g_law (ns : List Int) : EvS :=
    (sSeq (sFor (iRange1 (aCons (eOp oAdd (eC (.int 1)) (eCall fMin2 (aCons (eC (.int 3)) (aCons (eCall (fLenS ns) (aCons (eVar 0) aNil)) aNil)))) aNil)) (gN 1) (sSeq (sSet 2 (eDef 2 (F__law_box ns) (aCons (eVar 0) (aCons (eVar 1) aNil))))
    (sSeq (sSet 3 (eOp oAdd (eC (.int 1)) (eDef 2 (F__law_take) (aCons (eVar 2) (aCons (eC (.int 3)) aNil)))))
    (sSeq (sSet 4 (eLst (aCons (eDef 3 (F__law_saying) (aCons (eVar 2) (aCons (eVar 3) (aCons (eC (.int 2)) aNil)))) (aCons (eDef 3 (F__law_simple) (aCons (eVar 2) (aCons (eVar 3) (aCons (eC (.int 4)) aNil)))) (aCons (eDef 3 (F__law_simple) (aCons (eVar 2) (aCons (eVar 3) (aCons (eC (.int 9)) aNil)))) aNil)))))
    (sSeq (sExpr (sApp (eVar 4) (eDef 1 (F__law_about_sixty) (aCons (eVar 2) aNil))))
    (sSeq (sSet 5 (eTup (aCons (eC (.str "rest")) (aCons (eOp oRepT (eTup (aCons (eC (.int 1)) aNil)) (eVar 3)) (aCons (eDef 2 (F__law_take) (aCons (eVar 2) (aCons (eC (.int 7)) aNil))) (aCons (eC (.int 7)) aNil))))))
    (sSeq (sExpr (sExt (eVar 4) (eLc (iSeq (eTup (aCons (eC (.int 8)) (aCons (eC (.int 9)) aNil)))) (gN 6) tTrue (eTup (aCons (eC (.str "and")) (aCons (eVar 5) (aCons (eTup (aCons (eC (.str "rest")) (aCons (eOp oRepT (eTup (aCons (eC (.int 1)) aNil)) (eVar 3)) (aCons (eDef 2 (F__law_take) (aCons (eVar 2) (aCons (eVar 6) aNil))) (aCons (eVar 6) aNil))))) aNil)))) [6])))
    (sSeq (sSet 6 (eOp oAdd (eC (.int 2)) (eDef 2 (F__law_take) (aCons (eVar 2) (aCons (eC (.int 8)) aNil)))))
    (sSeq (sSet 7 (eCall fTuple (aCons (eLc (iRange1 (aCons (eVar 3) aNil)) (gN 11) tTrue (eOp oSub (eDef 2 (F__law_take) (aCons (eVar 2) (aCons (eC (.int 19)) aNil))) (eC (.int 9))) [11]) aNil)))
    (sSeq (sExpr (sApp (eVar 4) (eTup (aCons (eC (.str "rest")) (aCons (eVar 7) (aCons (eDef 2 (F__law_take) (aCons (eVar 2) (aCons (eVar 6) aNil))) (aCons (eVar 6) aNil)))))))
    (sSeq (sExpr (sApp (eVar 4) (eTup (aCons (eC (.str "or")) (aCons (eDef 3 (F__law_saying) (aCons (eVar 2) (aCons (eVar 3) (aCons (eC (.int 1)) aNil)))) (aCons (eTup (aCons (eC (.str "not")) (aCons (eDef 3 (F__law_simple) (aCons (eVar 2) (aCons (eVar 3) (aCons (eC (.int 1)) aNil)))) aNil))) aNil))))))
    (sFor (iSeq (eVar 4)) (gN 8) (sSeq (sSet 9 (eCall fLen (aCons (eOp oIx (eOp oIx (eDef 1 (F__law_parts 4) (aCons (eVar 8) aNil)) (eC (.int 0))) (eC (.int 1))) aNil)))
    (sSeq (sSet 10 (eDef 3 (F__law_all) (aCons (eDef 1 (F__law_parts 4) (aCons (eVar 8) aNil)) (aCons (eVar 9) (aCons (eC (.int 60)) aNil)))))
    (sSeq (sSet 10 (eCall fRepS (aCons (eIf (tVal (eOp oIsN (eVar 10) (eC .none))) (eC (.str "many")) (eVar 10)) aNil)))
    (sIf (tOrE (tVal (eOp oNe (eCall fRepS (aCons (eDef 1 (F__law_heard) (aCons (eVar 8) aNil)) aNil)) (eVar 10))) (tVal (eOp oNe (eCall fRepS (aCons (eDef 1 (F__law_heard) (aCons (eVar 8) aNil)) aNil)) (eVar 10)))) (sRet (eC (.bool false))) sNil))))))))))))))))
    (sRet (eC (.bool true))))
noncomputable def F_law (ns : List Int) : Fn := nf (fnV 12 (g_law ns))
end K53
namespace Lw
open PySem PySem.Spec PyProof.Rows L2 Sa Va
noncomputable def g__law_hand (ns : List Int) : EvS :=
    (sSeq (sSet 2 (eIf (tVal (eOp oLt (eVar 1) (eCall (fLenS ns) (aCons (eVar 0) aNil)))) (eOp (oIxS ns) (eVar 0) (eVar 1)) (eC (.int 0))))
    (sSeq (sSet 3 (eOp oAdd (eC (.int 700001)) (eOp oMul (eC (.int 104729)) (eVar 1))))
    (sSeq (sFor (iSeq (eSlS ns none (some 60) (eVar 0))) (gN 4) (sSet 3 (eOp oMod (eOp oAdd (eOp oAdd (eOp oMul (eVar 3) (eC (.int 69621))) (eOp oMul (eC (.int 2)) (eCall fAbs (aCons (eVar 4) aNil)))) (eCall fInt (aCons (eOp oLt (eVar 4) (eC (.int 0))) aNil))) (eC (.int 2305843009213693951)))))
    (sRet (eLst (aCons (eIf (tVal (eOp oGe (eCall fAbs (aCons (eVar 2) aNil)) (eOp oPow (eC (.int 10)) (eC (.int 18))))) (eCall fAbs (aCons (eVar 2) aNil)) (eC (.int 0))) (aCons (eVar 3) (aCons (eC (.int 0)) aNil))))))))
noncomputable def F__law_hand (ns : List Int) : Fn := nf (fnV 5 (g__law_hand ns))
noncomputable def g__law_take : EvS :=
    (sSeq (sIf (tVal (eOp oGt (eOp oIx (eVar 0) (eC (.int 0))) (eC (.int 0)))) (sSeq (sSet 2 (eOp oMod (eOp oIx (eVar 0) (eC (.int 0))) (eVar 1)))
    (sSeq (sPut (eOp oDiv (eOp oIx (eVar 0) (eC (.int 0))) (eVar 1)) (eVar 0) (eC (.int 0)))
    (sRet (eVar 2)))) sNil)
    (sSeq (sPut (eOp oAdd (eOp oIx (eVar 0) (eC (.int 2))) (eC (.int 1))) (eVar 0) (eC (.int 2)))
    (sSeq (sSet 3 (eOp oIx (eLst (aCons (eC (.int 2305843009213693921)) (aCons (eC (.int 999999999989)) (aCons (eC (.int 2305843009213693907)) (aCons (eC (.int 67280421310721)) aNil))))) (eOp oMod (eOp oIx (eVar 0) (eC (.int 2))) (eC (.int 4)))))
    (sSeq (sSet 4 (eOp oAdd (eOp oIx (eVar 0) (eC (.int 1))) (eOp oMul (eOp oMul (eC (.int 15485863)) (eOp oIx (eVar 0) (eC (.int 2)))) (eOp oIx (eVar 0) (eC (.int 2))))))
    (sSeq (sSet 4 (eOp oMod (eOp oAdd (eVar 4) (eOp oMul (eC (.int 32452843)) (eOp oIx (eVar 0) (eC (.int 2))))) (eVar 3)))
    (sSeq (sSet 4 (eOp oMod (eOp oMul (eVar 4) (eOp oAdd (eOp oMod (eVar 4) (eC (.int 1000003))) (eOp oMul (eC (.int 7919)) (eOp oIx (eVar 0) (eC (.int 2)))))) (eVar 3)))
    (sRet (eOp oMod (eOp oAdd (eOp oDiv (eVar 4) (eC (.int 4099))) (eOp oDiv (eVar 4) (eC (.int 1000033)))) (eVar 1)))))))))
noncomputable def F__law_take : Fn := nf (fnV 5 (g__law_take))
noncomputable def g__law_of : EvS :=
    (sRet (eOp oIx (eVar 1) (eDef 2 (F__law_take) (aCons (eVar 0) (aCons (eCall fLen (aCons (eVar 1) aNil)) aNil)))))
noncomputable def F__law_of : Fn := nf (fnV 2 (g__law_of))
noncomputable def g__law_worth : EvS :=
    (sSeq (sSet 1 (eOp oSub (eDef 2 (F__law_take) (aCons (eVar 0) (aCons (eC (.int 19)) aNil))) (eC (.int 9))))
    (sRet (eDef 2 (F__law_of) (aCons (eVar 0) (aCons (eLst (aCons (eC (.int 0)) (aCons (eC (.int 1)) (aCons (eUn oNeg (eC (.int 1))) (aCons (eC (.int 2)) (aCons (eUn oNeg (eC (.int 3))) (aCons (eC (.int 9)) (aCons (eUn oNeg (eC (.int 9))) (aCons (eVar 1) aNil))))))))) aNil)))))
noncomputable def F__law_worth : Fn := nf (fnV 2 (g__law_worth))
noncomputable def g__law_simple : EvS :=
    (sSeq (sSet 2 (eCall fTuple (aCons (eLc (iRange1 (aCons (eVar 1) aNil)) (gN 5) tTrue (eDef 1 (F__law_worth) (aCons (eVar 0) aNil)) [5]) aNil)))
    (sSeq (sIf (tVal (eOp oEq (eDef 2 (F__law_take) (aCons (eVar 0) (aCons (eC (.int 3)) aNil))) (eC (.int 0)))) (sSeq (sSet 3 (eOp oAdd (eC (.int 2)) (eDef 2 (F__law_take) (aCons (eVar 0) (aCons (eC (.int 8)) aNil)))))
    (sRet (eTup (aCons (eC (.str "rest")) (aCons (eVar 2) (aCons (eDef 2 (F__law_take) (aCons (eVar 0) (aCons (eVar 3) aNil))) (aCons (eVar 3) aNil))))))) sNil)
    (sSeq (sSet 4 (eOp oSub (eDef 2 (F__law_take) (aCons (eVar 0) (aCons (eC (.int 41)) aNil))) (eC (.int 20))))
    (sRet (eTup (aCons (eC (.str "sum")) (aCons (eVar 2) (aCons (eDef 2 (F__law_of) (aCons (eVar 0) (aCons (eLst (aCons (eC (.int 0)) (aCons (eC (.int 1)) (aCons (eUn oNeg (eC (.int 1))) (aCons (eC (.int 2)) (aCons (eC (.int 5)) (aCons (eUn oNeg (eC (.int 7))) (aCons (eC (.int 20)) (aCons (eUn oNeg (eC (.int 20))) (aCons (eVar 4) aNil)))))))))) aNil))) aNil))))))))
noncomputable def F__law_simple : Fn := nf (fnV 6 (g__law_simple))
noncomputable def g__law_size : EvS :=
    (sSeq (sIf (tVal (eOp oEq (eOp oIx (eVar 0) (eC (.int 0))) (eC (.str "rest")))) (sRet (eOp oSub (eOp oIx (eVar 0) (eC (.int 3))) (eC (.int 1)))) sNil)
    (sSeq (sSet 1 (eLc (iSeq (eOp oIx (eVar 0) (eC (.int 1)))) (gN 2) tTrue (eCall fAbs (aCons (eVar 2) aNil)) [2]))
    (sRet (eCall fMaxL (aCons (eOp oCat (eVar 1) (eLst (aCons (eOp oAdd (eCall fAbs (aCons (eOp oIx (eVar 0) (eC (.int 2))) aNil)) (eC (.int 1))) aNil))) aNil)))))
noncomputable def F__law_size : Fn := nf (fnV 3 (g__law_size))
noncomputable def g__law_says : EvS :=
    (sSeq (sIf (tVal (eOp oEq (eOp oIx (eVar 0) (eC (.int 0))) (eC (.str "rest")))) (sRet (eOp oEq (eOp oMod (eVar 1) (eOp oIx (eVar 0) (eC (.int 3)))) (eOp oIx (eVar 0) (eC (.int 2))))) sNil)
    (sRet (eOp oGe (eVar 1) (eOp oIx (eVar 0) (eC (.int 2))))))
noncomputable def F__law_says : Fn := nf (fnV 2 (g__law_says))
noncomputable def g__law_member : EvS :=
    (sSeq (sSet 3 (eLst aNil))
    (sSeq (sFor (iSeq (eVar 1)) (gN 4) (sSeq (sPar 5 6 (aCons (eDef 1 (F__law_size) (aCons (eVar 4) aNil)) (aCons (eOp oEq (eDef 2 (F__law_take) (aCons (eVar 0) (aCons (eC (.int 2)) aNil))) (eC (.int 0))) aNil)))
    (sSeq (sSet 7 (eIf (tVal (eOp oEq (eOp oIx (eVar 4) (eC (.int 0))) (eC (.str "rest")))) (eC (.int 0)) (eUn oNeg (eVar 5))))
    (sSeq (sSet 8 (eOp oAdd (eVar 7) (eDef 2 (F__law_take) (aCons (eVar 0) (aCons (eOp oAdd (eOp oSub (eVar 5) (eVar 7)) (eC (.int 1))) aNil)))))
    (sSeq (sSet 9 (eDef 2 (F__law_of) (aCons (eVar 0) (aCons (eLst (aCons (eVar 7) (aCons (eVar 5) (aCons (eC (.int 0)) (aCons (eVar 8) (aCons (eVar 8) aNil)))))) aNil))))
    (sSeq (sSet 10 (eOp oEq (eDef 2 (F__law_take) (aCons (eVar 0) (aCons (eC (.int 2)) aNil))) (eC (.int 0))))
    (sSeq (sSet 10 (eIf (tVal (eVar 6)) (eDef 2 (F__law_says) (aCons (eVar 4) (aCons (eVar 9) aNil))) (eVar 10)))
    (sExpr (sApp (eVar 3) (eTup (aCons (eVar 6) (aCons (eVar 9) (aCons (eVar 10) aNil)))))))))))))
    (sRet (eTup (aCons (eC (.str "member")) (aCons (eVar 2) (aCons (eCall fTuple (aCons (eVar 3) aNil)) aNil)))))))
noncomputable def F__law_member : Fn := nf (fnV 11 (g__law_member))
noncomputable def g__law_note : EvS :=
    (sSeq (sSet 2 (eLst aNil))
    (sSeq (sFor (iSeq (eVar 1)) (gN 3) (sSeq (sSet 4 (eDef 1 (F__law_size) (aCons (eVar 3) aNil)))
    (sSeq (sAsg (eIf (tVal (eOp oEq (eOp oIx (eVar 3) (eC (.int 0))) (eC (.str "rest")))) (eTup (aCons (eC (.int 0)) (aCons (eVar 4) aNil))) (eTup (aCons (eOp oMul (eUn oNeg (eC (.int 2))) (eVar 4)) (aCons (eOp oMul (eC (.int 2)) (eVar 4)) aNil)))) (gT 2 (gsC (gN 5) (gsC (gN 6) gs0))))
    (sSeq (sSet 7 (eOp oAdd (eVar 5) (eDef 2 (F__law_take) (aCons (eVar 0) (aCons (eOp oAdd (eOp oSub (eVar 6) (eVar 5)) (eC (.int 1))) aNil)))))
    (sSeq (sSet 8 (eDef 2 (F__law_of) (aCons (eVar 0) (aCons (eLst (aCons (eC (.int 0)) (aCons (eVar 5) (aCons (eVar 6) (aCons (eVar 7) aNil))))) aNil))))
    (sExpr (sApp (eVar 2) (eTup (aCons (eOp oEq (eDef 2 (F__law_take) (aCons (eVar 0) (aCons (eC (.int 3)) aNil))) (eC (.int 0))) (aCons (eVar 8) aNil))))))))))
    (sSeq (sIf (tVal (eCall fAll (aCons (eLc (iSeq (eVar 2)) (gN 9) tTrue (eOp oEq (eVar 9) (eTup (aCons (eC (.bool false)) (aCons (eC (.int 0)) aNil)))) [9]) aNil))) (sPut (eTup (aCons (eC (.bool true)) (aCons (eC (.int 0)) aNil))) (eVar 2) (eC (.int 0))) sNil)
    (sRet (eTup (aCons (eC (.str "note")) (aCons (eCall fTuple (aCons (eVar 2) aNil)) aNil)))))))
noncomputable def F__law_note : Fn := nf (fnV 10 (g__law_note))
noncomputable def g__law_poured : EvS :=
    (sSeq (sIf (tVal (eOp oEq (eOp oIx (eVar 0) (eC (.int 0))) (eC (.str "rest")))) (sRet (eTup (aCons (eOp oMod (eOp oAdd (eVar 1) (eVar 2)) (eOp oIx (eVar 0) (eC (.int 3)))) (aCons (eC (.int 0)) aNil)))) sNil)
    (sSeq (sSet 3 (eDef 1 (F__law_size) (aCons (eVar 0) aNil)))
    (sSeq (whN (tAndE (tVal (eOp oGt (eVar 2) (eC (.int 0)))) (tVal (eOp oLt (eVar 1) (eVar 3)))) (sPar 1 2 (aCons (eOp oAdd (eVar 1) (eC (.int 1))) (aCons (eOp oSub (eVar 2) (eC (.int 1))) aNil))) 1000000)
    (sSeq (whN (tAndE (tVal (eOp oLt (eVar 2) (eC (.int 0)))) (tVal (eOp oGt (eVar 1) (eUn oNeg (eVar 3))))) (sPar 1 2 (aCons (eOp oSub (eVar 1) (eC (.int 1))) (aCons (eOp oAdd (eVar 2) (eC (.int 1))) aNil))) 1000000)
    (sRet (eTup (aCons (eVar 1) (aCons (eVar 2) aNil))))))))
noncomputable def F__law_poured : Fn := nf (fnV 4 (g__law_poured))
noncomputable def g__law_pair : EvS :=
    (sSeq (sIf (tAndE (tNotE (tVal (eOp oIx (eVar 1) (eC (.int 0))))) (tNotE (tVal (eOp oIx (eVar 2) (eC (.int 0)))))) (sRet (eTup (aCons (eVar 1) (aCons (eVar 2) aNil)))) sNil)
    (sSeq (sAsg (eIf (tVal (eOp oIx (eVar 1) (eC (.int 0)))) (eTup (aCons (eVar 1) (aCons (eVar 2) aNil))) (eTup (aCons (eVar 2) (aCons (eVar 1) aNil)))) (gT 2 (gsC (gN 3) (gsC (gN 4) gs0))))
    (sSeq (sAsg (eDef 3 (F__law_poured) (aCons (eVar 0) (aCons (eOp oIx (eVar 3) (eC (.int 1))) (aCons (eOp oIx (eVar 4) (eC (.int 1))) aNil)))) (gT 2 (gsC (gN 5) (gsC (gN 6) gs0))))
    (sSeq (sSet 7 (eDef 2 (F__law_says) (aCons (eVar 0) (aCons (eVar 5) aNil))))
    (sSeq (sSet 8 (eTup (aCons (eTup (aCons (eC (.bool true)) (aCons (eVar 5) (aCons (eVar 7) aNil)))) (aCons (eTup (aCons (eC (.bool false)) (aCons (eVar 6) (aCons (eVar 7) aNil)))) aNil))))
    (sRet (eIf (tVal (eOp oIx (eVar 1) (eC (.int 0)))) (eVar 8) (eRev (eVar 8)))))))))
noncomputable def F__law_pair : Fn := nf (fnV 9 (g__law_pair))
noncomputable def g__law_noted : EvS :=
    (sSeq (sAsg (eDef 3 (F__law_poured) (aCons (eVar 0) (aCons (eOp oIx (eVar 1) (eC (.int 1))) (aCons (eOp oIx (eVar 2) (eC (.int 1))) aNil)))) (gT 2 (gsC (gN 3) (gsC (gN 4) gs0))))
    (sSeq (sIf (tOrE (tVal (eOp oIx (eVar 1) (eC (.int 0)))) (tVal (eOp oIx (eVar 2) (eC (.int 0))))) (sRet (eTup (aCons (eTup (aCons (eC (.bool true)) (aCons (eVar 3) (aCons (eDef 2 (F__law_says) (aCons (eVar 0) (aCons (eVar 3) aNil))) aNil)))) (aCons (eTup (aCons (eC (.bool false)) (aCons (eVar 4) aNil))) aNil)))) sNil)
    (sRet (eTup (aCons (eTup (aCons (eC (.bool false)) (aCons (eVar 3) (aCons (eOp oIx (eVar 1) (eC (.int 2))) aNil)))) (aCons (eTup (aCons (eC (.bool false)) (aCons (eVar 4) aNil))) aNil))))))
noncomputable def F__law_noted : Fn := nf (fnV 5 (g__law_noted))
noncomputable def g__law_met (self : Fn) : EvS :=
    (sSeq (sIf (tVal (eOp oEq (eOp oIx (eVar 1) (eC (.int 0))) (eC (.str "note")))) (sSeq (sIf (tVal (eOp oEq (eOp oIx (eVar 2) (eC (.int 0))) (eC (.str "note")))) (sRet (eTup (aCons (eVar 1) (aCons (eVar 2) aNil)))) sNil)
    (sRet (eRev (eDef 3 self (aCons (eVar 0) (aCons (eVar 2) (aCons (eVar 1) aNil))))))) sNil)
    (sSeq (sPar3 3 4 5 (aCons (eLst aNil) (aCons (eLst aNil) (aCons (eOp oEq (eOp oIx (eVar 2) (eC (.int 0))) (eC (.str "note"))) aNil))))
    (sSeq (sFor (iZip3W (aCons (eVar 0) (aCons (eOp oIx (eVar 1) (eC (.int 2))) (aCons (eOp oIx (eVar 2) (eUn oNeg (eC (.int 1)))) aNil)))) (gT 3 (gsC (gN 6) (gsC (gN 7) (gsC (gN 8) gs0)))) (sSeq (sSet 9 (eDef 3 (F__law_pair) (aCons (eVar 6) (aCons (eVar 7) (aCons (eVar 8) aNil)))))
    (sSeq (sIf (tVal (eVar 5)) (sSet 9 (eDef 3 (F__law_noted) (aCons (eVar 6) (aCons (eVar 7) (aCons (eVar 8) aNil))))) sNil)
    (sSeq (sExpr (sApp (eVar 3) (eOp oIx (eVar 9) (eC (.int 0)))))
    (sExpr (sApp (eVar 4) (eOp oIx (eVar 9) (eC (.int 1)))))))))
    (sSeq (sSet 10 (eTup (aCons (eC (.str "member")) (aCons (eOp oIx (eVar 1) (eC (.int 1))) (aCons (eCall fTuple (aCons (eVar 3) aNil)) aNil)))))
    (sSeq (sIf (tNotE (tVal (eVar 5))) (sRet (eTup (aCons (eVar 10) (aCons (eTup (aCons (eC (.str "member")) (aCons (eOp oIx (eVar 2) (eC (.int 1))) (aCons (eCall fTuple (aCons (eVar 4) aNil)) aNil)))) aNil)))) sNil)
    (sSeq (sIf (tVal (eCall fAll (aCons (eLc (iSeq (eVar 4)) (gN 11) tTrue (eOp oEq (eVar 11) (eTup (aCons (eC (.bool false)) (aCons (eC (.int 0)) aNil)))) [11]) aNil))) (sRet (eTup (aCons (eVar 10) (aCons (eC .none) aNil)))) sNil)
    (sRet (eTup (aCons (eVar 10) (aCons (eTup (aCons (eC (.str "note")) (aCons (eCall fTuple (aCons (eVar 4) aNil)) aNil))) aNil))))))))))
noncomputable def F__law_met : Nat -> Fn
  | 0 => fun _ _ => none
  | k + 1 => nf (fnV 12 (g__law_met (F__law_met k)))
end Lw
namespace Ls
open PySem PySem.Spec PyProof.Rows L2 Sa Va
noncomputable def g__law_saying (self : Fn) : EvS :=
    (sSeq (sSet 3 (eDef 2 (Lw.F__law_take) (aCons (eVar 0) (aCons (eC (.int 4)) aNil))))
    (sSeq (sIf (tOrE (tVal (eOp oLt (eVar 2) (eC (.int 2)))) (tVal (eOp oEq (eVar 3) (eC (.int 0))))) (sRet (eDef 2 (Lw.F__law_simple) (aCons (eVar 0) (aCons (eVar 1) aNil)))) sNil)
    (sSeq (sSet 4 (eDef 3 self (aCons (eVar 0) (aCons (eVar 1) (aCons (eOp oSub (eVar 2) (eC (.int 1))) aNil)))))
    (sSeq (sIf (tVal (eOp oEq (eVar 3) (eC (.int 1)))) (sRet (eTup (aCons (eC (.str "not")) (aCons (eVar 4) aNil)))) sNil)
    (sRet (eTup (aCons (eOp oIx (eLst (aCons (eC (.str "and")) (aCons (eC (.str "or")) aNil))) (eOp oSub (eVar 3) (eC (.int 2)))) (aCons (eVar 4) (aCons (eDef 3 self (aCons (eVar 0) (aCons (eVar 1) (aCons (eOp oSub (eVar 2) (eC (.int 1))) aNil)))) aNil)))))))))
noncomputable def F__law_saying : Nat -> Fn
  | 0 => fun _ _ => none
  | k + 1 => nf (fnV 5 (g__law_saying (F__law_saying k)))
noncomputable def g__law_singles (self : Fn) : EvS :=
    (sSeq (sIf (tVal (eOp oInT (eOp oIx (eVar 0) (eC (.int 0))) (eTup (aCons (eC (.str "sum")) (aCons (eC (.str "rest")) aNil))))) (sRet (eLst (aCons (eVar 0) aNil))) sNil)
    (sSeq (sSet 1 (eLst aNil))
    (sSeq (sFor (iSeq (eSlT (some 1) none (eVar 0))) (gN 2) (sFor (iSeq (eDef 1 self (aCons (eVar 2) aNil))) (gN 3) (sSet 1 (eOp oCat (eVar 1) (eOp oRep (eLst (aCons (eVar 3) aNil)) (eCall fInt (aCons (eOp oNotInL (eVar 3) (eVar 1)) aNil)))))))
    (sRet (eCall fSortL (aCons (eVar 1) aNil))))))
noncomputable def F__law_singles : Nat -> Fn
  | 0 => fun _ _ => none
  | k + 1 => nf (fnV 4 (g__law_singles (F__law_singles k)))
end Ls
namespace K35
open PySem PySem.Spec PyProof.Rows L2 Sa Va
noncomputable def g__law_parts (self : Fn) : EvS :=
    (sSeq (sIf (tVal (eOp oInT (eOp oIx (eVar 0) (eC (.int 0))) (eTup (aCons (eC (.str "sum")) (aCons (eC (.str "rest")) aNil))))) (sRet (eLst (aCons (eVar 0) aNil))) sNil)
    (sSeq (sSet 1 (eLst aNil))
    (sSeq (sFor (iSeq (eSlT (some 1) none (eVar 0))) (gN 2) (sExpr (sExt (eVar 1) (eDef 1 self (aCons (eVar 2) aNil)))))
    (sRet (eCall fSortSet (aCons (eVar 1) aNil))))))
noncomputable def F__law_parts : Nat -> Fn
  | 0 => fun _ _ => none
  | k + 1 => nf (fnV 3 (g__law_parts (F__law_parts k)))
end K35
namespace Va
open PySem PySem.Spec PyProof.Rows L2 Sa
/-- it tells something of which Q is so -/
def Ok {α : Type} (o : Option α) (Q : α -> Prop) : Prop := ∃ x, o = some x /\ Q x
@[simp] theorem ok_some {α : Type} {x : α} {Q : α -> Prop} : Ok (some x) Q ↔ Q x := ⟨fun ⟨y, e, q⟩ => by cases e; exact q, fun q => ⟨x, rfl, q⟩⟩
@[simp] theorem ok_none {α : Type} {Q : α -> Prop} : Ok (none : Option α) Q ↔ False := ⟨(fun ⟨y, e, q⟩ => by cases e), False.elim⟩
@[simp] theorem ok_bind {α β : Type} {o : Option α} {f : α -> Option β} {Q : β -> Prop} : Ok (o.bind f) Q ↔ Ok o fun x => Ok (f x) Q :=
  ⟨fun ⟨y, e, q⟩ => let ⟨x, e1, e2⟩ := bsome e; ⟨x, e1, y, e2, q⟩, fun ⟨x, e, y, e2, q⟩ => ⟨y, by rw [e]; exact e2, q⟩⟩
@[simp] theorem ok_map {α β : Type} {o : Option α} {f : α -> β} {Q : β -> Prop} : Ok (o.map f) Q ↔ Ok o fun x => Q (f x) :=
  ⟨fun ⟨y, e, q⟩ => let ⟨x, e1, e2⟩ := Option.map_eq_some_iff.mp e; ⟨x, e1, by show Q (f x); rw [e2]; exact q⟩, fun ⟨x, e, q⟩ => ⟨f x, by rw [e]; rfl, q⟩⟩
theorem Ok.mono {α : Type} {o : Option α} {Q Q' : α -> Prop} (h : Ok o Q) (k : ∀ x, Q x -> Q' x) : Ok o Q' := let ⟨x, e, q⟩ := h; ⟨x, e, k x q⟩
theorem Ok.of {α : Type} {o : Option α} {x : α} {Q : α -> Prop} (h : o = some x) (q : Q x) : Ok o Q := ⟨x, h, q⟩
@[simp] theorem ok_ite {α : Type} {c : Prop} [Decidable c] {a b : Option α} {Q : α -> Prop} : Ok (if c then a else b) Q ↔ if c then Ok a Q else Ok b Q := by split <;> rfl
@[simp] theorem norm_data {M : Mem} {x : PyData} : norm M (.d x, M) = (.d x, M) := by
  have := norm_d (M := M) (M1 := M) (J := []) (w := .d x) rfl .refl
  simpa using this
@[simp] theorem norm_data' {M J : Mem} {x : PyData} : norm M (.d x, M ++ J) = (.d x, M) := norm_d rfl .refl
@[simp] theorem get_new0 {M J : Mem} : (M ++ J)[M.length]? = J[0]? := by
  rw [List.getElem?_append_right (Nat.le_refl _), Nat.sub_self]
@[simp] theorem get_newk {M J : Mem} {k : Nat} : (M ++ J)[M.length + k]? = J[k]? := by
  rw [List.getElem?_append_right (Nat.le_add_right _ _), Nat.add_sub_cancel_left]
@[simp] theorem set_new0 {M J : Mem} {x : MO} : (M ++ J).set M.length x = M ++ J.set 0 x := by
  rw [List.set_append_right _ _ (Nat.le_refl _), Nat.sub_self]
@[simp] theorem set_newk {M J : Mem} {k : Nat} {x : MO} : (M ++ J).set (M.length + k) x = M ++ J.set k x := by
  rw [List.set_append_right _ _ (Nat.le_add_right _ _), Nat.add_sub_cancel_left]
theorem get_old {M J : Mem} {i : Nat} {mo : MO} (h : M[i]? = some mo) : (M ++ J)[i]? = some mo := by
  rw [List.getElem?_append_left (List.getElem?_eq_some_iff.mp h).1]; exact h
@[simp] theorem datas_nil : datas [] = some [] := rfl
@[simp] theorem datas_cons {x : PyData} {ws : List W} : datas (.d x :: ws) = (datas ws).map (x :: ·) := rfl
@[simp] theorem datas_map' {ds : List PyData} : datas (ds.map W.d) = some ds := datas_map ds
@[simp] theorem mkTup_nil : mkTup [] = .d (.tuple []) := rfl
theorem mkTup_of {ws : List W} {ds : List PyData} (h : datas ws = some ds) : mkTup ws = .d (.tuple ds) := by unfold mkTup; rw [h]
@[simp] theorem mkTup_map {ds : List PyData} : mkTup (ds.map W.d) = .d (.tuple ds) := mkTup_of (datas_map ds)
@[simp] theorem mkTup1 {x : PyData} : mkTup [.d x] = .d (.tuple [x]) := rfl
@[simp] theorem mkTup2 {x y : PyData} : mkTup [.d x, .d y] = .d (.tuple [x, y]) := rfl
@[simp] theorem mkTup3 {x y z : PyData} : mkTup [.d x, .d y, .d z] = .d (.tuple [x, y, z]) := rfl
@[simp] theorem mkTup4 {x y z u : PyData} : mkTup [.d x, .d y, .d z, .d u] = .d (.tuple [x, y, z, u]) := rfl
@[simp] theorem asI_int {i : Int} : asI (.d (.int i)) = some i := rfl
@[simp] theorem asB_bool {b : Bool} : asB (.d (.bool b)) = some b := rfl
@[simp] theorem atI0 {α : Type} {x : α} {xs : List α} : atI (x :: xs) 0 = some x := by simp [atI, ixN]
theorem atI_nat' {α : Type} {xs : List α} {k : Nat} {x : α} (h : xs[k]? = some x) : atI xs (k : Int) = some x := by
  have hl := (List.getElem?_eq_some_iff.mp h).1
  have e : ixN xs.length (k : Int) = some k := by
    unfold ixN
    rw [if_pos (by omega), if_pos (by omega)]
    simp
  unfold atI
  rw [e]
  exact h
@[simp] theorem atI1 {α : Type} {x y : α} {xs : List α} : atI (x :: y :: xs) 1 = some y := atI_nat' (k := 1) rfl
@[simp] theorem atI2 {α : Type} {x y z : α} {xs : List α} : atI (x :: y :: z :: xs) 2 = some z := atI_nat' (k := 2) rfl
@[simp] theorem atI3 {α : Type} {x y z u : α} {xs : List α} : atI (x :: y :: z :: u :: xs) 3 = some u := atI_nat' (k := 3) rfl
@[simp] theorem small_size {n : Nat} (h : n <= 1000) : n <= sizeLine := Nat.le_trans h (by decide)
theorem sl : sizeLine = 16777216 := rfl
end Va
namespace Va
open PySem PySem.Spec PyProof.Rows L2 Sa
section
variable {ρ : Ev} {M M2 : Mem} {i j l n : Nat} {a b c o e : EvE} {f g : O2} {u : O1} {F : Fn} {as : EvA} {t s : EvT} {st st2 : EvS} {gg : EvG} {gs : List W -> Ev -> Option Ev} {w : W} {ws : List W} {x : PyData} {ns : List Int} {lo hi : Option Int} {fi : EvI} {vs : List Nat} {k : Nat} {T : String}
@[simp] theorem x_var (h : ρ[i]? = some (some w)) : eVar i ρ M = some (w, M) := by unfold eVar; rw [h]
@[simp] theorem x_c : eC x ρ M = some (.d x, M) := rfl
@[simp] theorem x_op : eOp f a b ρ M = (a ρ M).bind fun p => (b ρ p.2).bind fun q => f p.1 q.1 q.2 := rfl
@[simp] theorem x_un : eUn u a ρ M = (a ρ M).bind fun p => u p.1 p.2 := rfl
@[simp] theorem x_anil : aNil ρ M = some ([], M) := rfl
@[simp] theorem x_acons : aCons a as ρ M = (a ρ M).bind fun p => (as ρ p.2).bind fun q => some (p.1 :: q.1, q.2) := rfl
@[simp] theorem x_call : eCall F as ρ M = (as ρ M).bind fun p => F p.1 p.2 := rfl
@[simp] theorem x_def : eDef n F as ρ M = (as ρ M).bind fun p => if p.1.length = n then F p.1 p.2 else none := rfl
@[simp] theorem x_tval : tVal a ρ M = (a ρ M).bind fun p => (asB p.1).map (·, p.2) := rfl
@[simp] theorem x_tnot : tNotE t ρ M = (t ρ M).bind fun p => some (!p.1, p.2) := rfl
@[simp] theorem x_tand : tAndE t s ρ M = (t ρ M).bind fun p => if p.1 = true then s ρ p.2 else some (false, p.2) := rfl
@[simp] theorem x_tor : tOrE t s ρ M = (t ρ M).bind fun p => if p.1 = true then some (true, p.2) else s ρ p.2 := rfl
@[simp] theorem x_ttrue : tTrue ρ M = some (true, M) := rfl
@[simp] theorem x_and : eAnd a b ρ M = (a ρ M).bind fun p => (asB p.1).bind fun c => if c = true then b ρ p.2 else some (.d (.bool false), p.2) := rfl
@[simp] theorem x_or : eOr a b ρ M = (a ρ M).bind fun p => (asB p.1).bind fun c => if c = true then some (.d (.bool true), p.2) else b ρ p.2 := rfl
@[simp] theorem x_not : eNot a ρ M = (a ρ M).bind fun p => (asB p.1).bind fun c => some (.d (.bool (!c)), p.2) := rfl
@[simp] theorem x_ifE : eIf t a b ρ M = (t ρ M).bind fun p => if p.1 = true then a ρ p.2 else b ρ p.2 := rfl
@[simp] theorem x_tup : eTup as ρ M = (as ρ M).bind fun p => if p.1.length <= sizeLine then some (mkTup p.1, p.2) else none := rfl
@[simp] theorem x_lst : eLst as ρ M = (as ρ M).bind fun p => if p.1.length <= sizeLine then some (.obj p.2.length, p.2 ++ [.lst p.1]) else none := rfl
@[simp] theorem x_nil : sNil ρ M = some (.nx ρ M) := rfl
@[simp] theorem x_seq : sSeq st st2 ρ M = (st ρ M).bind fun o => match o with | .nx ρ1 M1 => st2 ρ1 M1 | o => some o := rfl
@[simp] theorem x_if : sIf t st st2 ρ M = (t ρ M).bind fun p => if p.1 = true then st ρ p.2 else st2 ρ p.2 := rfl
@[simp] theorem x_ret : sRet a ρ M = (a ρ M).bind fun p => some (.rt p.1 p.2) := rfl
@[simp] theorem x_set : sSet i a ρ M = (a ρ M).bind fun p => some (.nx (ρ.set i (some p.1)) p.2) := rfl
@[simp] theorem x_asg : sAsg a gg ρ M = (a ρ M).bind fun p => (gg p.1 ρ).bind fun ρ1 => some (.nx ρ1 p.2) := rfl
@[simp] theorem x_par : sPar i j as ρ M = (as ρ M).bind fun p => match p.1 with | [x, y] => some (.nx ((ρ.set i (some x)).set j (some y)) p.2) | _ => none := rfl
@[simp] theorem x_par3 : sPar3 i j l as ρ M = (as ρ M).bind fun p => match p.1 with | [x, y, z] => some (.nx (((ρ.set i (some x)).set j (some y)).set l (some z)) p.2) | _ => none := rfl
@[simp] theorem x_expr : sExpr a ρ M = (a ρ M).bind fun p => some (.nx ρ p.2) := rfl
@[simp] theorem x_put : sPut e o a ρ M = (e ρ M).bind fun p => (o ρ p.2).bind fun q => (a ρ q.2).bind fun r => (asI r.1).bind fun k => (lstAt r.2 q.1).bind fun l => (ixN l.2.length k).bind fun j => some (.nx ρ (r.2.set l.1 (.lst (l.2.set j p.1)))) := rfl
@[simp] theorem x_app : sApp o e ρ M = (o ρ M).bind fun q => (lstAt q.2 q.1).bind fun _ => (e ρ q.2).bind fun p => (lstAt p.2 q.1).bind fun l => if l.2.length < sizeLine then some (.d .none, p.2.set l.1 (.lst (l.2 ++ [p.1]))) else none := rfl
@[simp] theorem x_ext : sExt o e ρ M = (o ρ M).bind fun q => (lstAt q.2 q.1).bind fun _ => (e ρ q.2).bind fun p => (lstAt p.2 q.1).bind fun l => (lstAt p.2 p.1).bind fun k => if l.2.length + k.2.length <= sizeLine then some (.d .none, p.2.set l.1 (.lst (l.2 ++ k.2))) else none := rfl
@[simp] theorem x_gN : gN i w ρ = some (ρ.set i (some w)) := rfl
@[simp] theorem x_gs0 : gs0 [] ρ = some ρ := rfl
@[simp] theorem x_gsC : gsC gg gs (w :: ws) ρ = (gg w ρ).bind fun ρ1 => gs ws ρ1 := rfl
@[simp] theorem x_gT : gT n gs w ρ = (tupOf w).bind fun ws => if ws.length = n then gs ws ρ else none := rfl
@[simp] theorem x_for : sFor fi gg st ρ M = (fi ρ M).bind fun p => forL p.1.2 gg st p.1.1 ρ p.2 := rfl
@[simp] theorem x_lc : eLc fi gg t e vs ρ M = (fi ρ M).bind fun p => (lcL p.1.2 gg t e (wipeW ρ vs) p.2.length p.1.1 (p.2 ++ [.lst []])).bind fun M' => some (.obj p.2.length, M') := rfl
@[simp] theorem x_wipe0 : wipeW ρ [] = ρ := rfl
@[simp] theorem x_wipe : wipeW ρ (i :: vs) = (wipeW ρ vs).set i none := rfl
@[simp] theorem x_ix {k : Int} : oIx w (.d (.int k)) M = (seqOf M w).bind fun ws => (atI ws k).bind fun w => some (w, M) := rfl
@[simp] theorem x_ixS {k : Int} : oIxS ns .scr (.d (.int k)) M = (atI ns k).bind fun w => some (.d (.int w), M) := rfl
@[simp] theorem x_seqT {ds : List PyData} : seqOf M (.d (.tuple ds)) = some (ds.map W.d) := rfl
@[simp] theorem x_seqO (h : M[i]? = some (.lst ws)) : seqOf M (.obj i) = some ws := by simp only [seqOf, h]
@[simp] theorem x_lstAt (h : M[i]? = some (.lst ws)) : lstAt M (.obj i) = some (i, ws) := by simp only [lstAt, h]
@[simp] theorem x_I {g : Int -> Int -> PyData} {p q : Int} : oI g (.d (.int p)) (.d (.int q)) M = some (.d (g p q), M) := rfl
theorem x_Ic {c : Int -> Int -> Prop} {g : Int -> Int -> PyData} {p q : Int} (h : c p q) : oIc c g (.d (.int p)) (.d (.int q)) M = some (.d (g p q), M) := by simp [oIc, h]
@[simp] theorem x_mod {p q : Int} (h : 0 < q) : oMod (.d (.int p)) (.d (.int q)) M = some (.d (.int (p % q)), M) := x_Ic h
theorem x_divW {p q : Int} (h : CDivW p q) : oDiv (.d (.int p)) (.d (.int q)) M = some (.d (.int (p / q)), M) := x_Ic h
@[simp] theorem x_div {p q : Int} (h : 0 < q /\ q < 1073741824) : oDiv (.d (.int p)) (.d (.int q)) M = some (.d (.int (p / q)), M) := x_divW (wide_div (b := 30) h.1 (by omega) (by decide) (by decide))
@[simp] theorem x_mul {p q : Int} (h : CMul p q) : oMul (.d (.int p)) (.d (.int q)) M = some (.d (.int (p * q)), M) := x_Ic h
@[simp] theorem x_U {g : Int -> PyData} {p : Int} : oU g (.d (.int p)) M = some (.d (g p), M) := rfl
@[simp] theorem x_eqI {p q : Int} : oEq (.d (.int p)) (.d (.int q)) M = some (.d (.bool (decide (p = q))), M) := rfl
@[simp] theorem x_eqS {p q : Str} : oEq (.d (.str p)) (.d (.str q)) M = some (.d (.bool (decide (p = q))), M) := rfl
@[simp] theorem x_eqB {p q : Bool} : oEq (.d (.bool p)) (.d (.bool q)) M = some (.d (.bool (decide (p = q))), M) := rfl
@[simp] theorem x_neS {p q : Str} : oNe (.d (.str p)) (.d (.str q)) M = some (.d (.bool (!decide (p = q))), M) := rfl
@[simp] theorem x_neI {p q : Int} : oNe (.d (.int p)) (.d (.int q)) M = some (.d (.bool (!decide (p = q))), M) := rfl
@[simp] theorem x_abs {p : Int} : fAbs [.d (.int p)] M = some (.d (.int (if p < 0 then -p else p)), M) := rfl
@[simp] theorem x_max2 {p q : Int} : fMax2 [.d (.int p), .d (.int q)] M = some (.d (.int (if q > p then q else p)), M) := rfl
@[simp] theorem x_min2 {p q : Int} : fMin2 [.d (.int p), .d (.int q)] M = some (.d (.int (if q < p then q else p)), M) := rfl
@[simp] theorem x_intB {p : Bool} : fInt [.d (.bool p)] M = some (.d (.int (if p then 1 else 0)), M) := rfl
@[simp] theorem x_len : fLen [w] M = (seqOf M w).bind fun ws => some (.d (.int ws.length), M) := rfl
@[simp] theorem x_lenS : fLenS ns [.scr] M = some (.d (.int ns.length), M) := rfl
@[simp] theorem x_tupleL : fTuple [.obj i] M = (lstAt M (.obj i)).bind fun l => some (mkTup l.2, M) := rfl
@[simp] theorem x_isi : eIsi T a ρ M = (a ρ M).bind fun p => (kindW p.2 p.1).bind fun k => some (.d (.bool (isiB T k)), p.2) := rfl
@[simp] theorem x_iseqO : iSeq a ρ M = (a ρ M).bind fun p => match p.1 with | .obj i => (lstAt p.2 (.obj i)).bind fun l => some ((l.2, [(i, .lst l.2)]), p.2) | w => (tupOf w).bind fun ws => some ((ws, []), p.2) := rfl
theorem x_range1 {j : Int} (h : as ρ M = some ([.d (.int j)], M2)) (r : InR j) : iRange1 as ρ M = some (((List.range j.toNat).map fun (k : Nat) => .d (.int (k : Int)), []), M2) := by
  simp [iRange1, h, r]
theorem x_range2 {i j : Int} (h : as ρ M = some ([.d (.int i), .d (.int j)], M2)) (r : InR i) (r2 : InR j) : iRange2 as ρ M = some (((List.range (j - i).toNat).map fun (k : Nat) => .d (.int (i + (k : Int))), []), M2) := by
  simp [iRange2, h, r, r2]
@[simp] theorem ok_range1 {Q : (List W × List (Nat × MO)) × Mem -> Prop} : Ok (iRange1 as ρ M) Q ↔ Ok (as ρ M) fun p => ∃ j : Int, p.1 = [.d (.int j)] /\ InR j /\ Q (((List.range j.toNat).map fun (k : Nat) => .d (.int (k : Int)), []), p.2) := by
  constructor
  · intro ⟨x, e, q⟩
    obtain ⟨p, e1, e⟩ := bsome e
    refine ⟨p, e1, ?_⟩
    split at e
    · rename_i j hj
      split at e
      · rename_i r; cases e; refine ⟨j, hj, r, ?_⟩; simpa using q
      · cases e
    · cases e
  · intro ⟨p, e, j, hj, r, q⟩
    obtain ⟨p1, p2⟩ := p
    simp only at hj q
    subst hj
    exact ⟨_, x_range1 e r, q⟩
@[simp] theorem ok_range2 {Q : (List W × List (Nat × MO)) × Mem -> Prop} : Ok (iRange2 as ρ M) Q ↔ Ok (as ρ M) fun p => ∃ i j : Int, p.1 = [.d (.int i), .d (.int j)] /\ InR i /\ InR j /\ Q (((List.range (j - i).toNat).map fun (k : Nat) => .d (.int (i + (k : Int))), []), p.2) := by
  constructor
  · intro ⟨x, e, q⟩
    obtain ⟨p, e1, e⟩ := bsome e
    refine ⟨p, e1, ?_⟩
    split at e
    · rename_i i j hj
      split at e
      · rename_i r; cases e; exact ⟨i, j, hj, r.1, r.2, q⟩
      · cases e
    · cases e
  · intro ⟨p, e, i, j, hj, r, r2, q⟩
    obtain ⟨p1, p2⟩ := p
    simp only at hj q
    subst hj
    exact ⟨_, x_range2 e r r2, q⟩
@[simp] theorem x_slT : eSlT lo hi a ρ M = (a ρ M).bind fun p => (tupOf p.1).bind fun ws => some (mkTup (cutG ws lo hi), p.2) := rfl
@[simp] theorem x_slS : eSlS ns lo hi a ρ M = (a ρ M).bind fun p => match p.1 with | .scr => some (.obj p.2.length, p.2 ++ [.lst ((cutG ns lo hi).map fun i => .d (.int i))]) | _ => none := rfl
@[simp] theorem x_rev : eRev a ρ M = (a ρ M).bind fun p => (tupOf p.1).bind fun ws => some (mkTup ws.reverse, p.2) := rfl
@[simp] theorem x_tupIx : eTupIx k a ρ M = (a ρ M).bind fun p => (seqOf p.2 p.1).bind fun ws => (itemsAt k ws).bind fun us => if us.length <= sizeLine then some (mkTup us, p.2) else none := rfl
@[simp] theorem x_maxAbs : eMaxAbs a ρ M = (a ρ M).bind fun p => (seqOf p.2 p.1).bind fun ws => (intsOf ws).bind fun is => if is = [] then none else if is.length <= sizeLine then some (.d (.int (maxI (is.map fun n => if n < 0 then -n else n))), p.2) else none := rfl
@[simp] theorem x_allBlank : eAllBlank a ρ M = (a ρ M).bind fun p => (seqOf p.2 p.1).bind fun ws => (blanks ws).bind fun bs => if bs.length <= sizeLine then some (.d (.bool (bs.all id)), p.2) else none := rfl
@[simp] theorem x_zip3 : iZip3W as ρ M = (as ρ M).bind fun p => match p.1 with | [x, y, z] => (srcOf p.2 x).bind fun s1 => (srcOf p.2 y).bind fun s2 => (srcOf p.2 z).bind fun s3 => if s1.1.length = s2.1.length /\ s1.1.length = s3.1.length then some ((zip3W s1.1 s2.1 s3.1, s1.2 ++ s2.2 ++ s3.2), p.2) else none | _ => none := rfl
@[simp] theorem x_srcT {ds : List PyData} : srcOf M (.d (.tuple ds)) = some (ds.map W.d, []) := rfl
@[simp] theorem x_ints0 : intsOf [] = some [] := rfl
@[simp] theorem x_intsC {p : Int} : intsOf (.d (.int p) :: ws) = (intsOf ws).bind fun is => some (p :: is) := rfl
theorem x_intsM : ∀ (is : List Int), intsOf (is.map fun i => .d (.int i)) = some is
  | [] => rfl
  | i :: is => by simp [x_intsM is]
theorem x_intsM' (is : List Int) : intsOf ((is.map PyData.int).map W.d) = some is := by rw [List.map_map]; exact x_intsM is
end
theorem lc_ok {deps : List (Nat × MO)} {g : EvG} {t : EvT} {e : EvE} {ρ0 : Ev} {n : Nat} (I : Nat -> Mem -> Prop) {items0 : List W} (hd : ∀ k M, k <= items0.length -> I k M -> Deps deps M)
    (turn : ∀ (k : Nat) (w : W) (M : Mem), items0[k]? = some w -> I k M -> Ok (g w ρ0) fun ρ1 => Ok (t ρ1 M) fun p => if p.1 = true then Ok (e ρ1 p.2) fun y => ∃ acc, y.2[n]? = some (.lst acc) /\ acc.length < sizeLine /\ I (k + 1) (y.2.set n (.lst (acc ++ [y.1]))) else I (k + 1) p.2) :
    ∀ (items : List W) (k : Nat) (M : Mem), items0.drop k = items -> k <= items0.length -> I k M -> Ok (lcL deps g t e ρ0 n items M) (I items0.length)
  | [], k, M, hk, hl, h => by
    have : k = items0.length := by
      have := congrArg List.length hk
      simp at this
      omega
    subst this
    simp only [lcL]
    rw [if_pos (hd _ M hl h)]
    exact ok_some.mpr h
  | w :: ws, k, M, hk, hl, h => by
    have hw : items0[k]? = some w := by
      have : (items0.drop k)[0]? = some w := by rw [hk]; rfl
      simpa using this
    have hk' : items0.drop (k + 1) = ws := by rw [<- List.drop_drop, hk]; rfl
    have hl' : k + 1 <= items0.length := (List.getElem?_eq_some_iff.mp hw).1
    obtain ⟨ρ1, e1, p, e2, h2⟩ := turn k w M hw h
    simp only [lcL]
    rw [if_pos (hd _ M hl h), e1]
    simp only [Option.bind_some]
    rw [e2]
    simp only [Option.bind_some]
    cases hp : p.1 with
    | false =>
      rw [hp] at h2
      simp only [Bool.false_eq_true, if_false] at h2 ⊢
      exact lc_ok I hd turn ws (k + 1) _ hk' hl' h2
    | true =>
      rw [hp] at h2
      simp only [if_true] at h2 ⊢
      obtain ⟨y, e3, acc, h3, h4, h5⟩ := h2
      rw [e3]
      simp only [Option.bind_some]
      rw [x_lstAt h3]
      simp only [Option.bind_some]
      rw [if_pos h4]
      exact lc_ok I hd turn ws (k + 1) _ hk' hl' h5
/-- what a loop's body may come to -/
def forQ (I : Ev -> Mem -> Prop) (B : Ev -> Mem -> Prop) (R : W -> Mem -> Prop) : Out -> Prop
  | .nx ρ M => I ρ M
  | .ct ρ M => I ρ M
  | .bk ρ M => B ρ M
  | .rt w M => R w M
def endQ (N : Ev -> Mem -> Prop) (R : W -> Mem -> Prop) : Out -> Prop
  | .nx ρ M => N ρ M
  | .rt w M => R w M
  | _ => False
theorem for_ok {deps : List (Nat × MO)} {g : EvG} {b : EvS} (I : Nat -> Ev -> Mem -> Prop) (N : Ev -> Mem -> Prop) (R : W -> Mem -> Prop) {items0 : List W} (hd : ∀ k ρ M, k <= items0.length -> I k ρ M -> Deps deps M)
    (hN : ∀ ρ M, I items0.length ρ M -> N ρ M)
    (turn : ∀ (k : Nat) (w : W) (ρ : Ev) (M : Mem), items0[k]? = some w -> I k ρ M -> Ok (g w ρ) fun ρ1 => Ok (b ρ1 M) (forQ (I (k + 1)) N R)) :
    ∀ (items : List W) (k : Nat) (ρ : Ev) (M : Mem), items0.drop k = items -> k <= items0.length -> I k ρ M -> Ok (forL deps g b items ρ M) (endQ N R)
  | [], k, ρ, M, hk, hl, h => by
    have : k = items0.length := by
      have := congrArg List.length hk
      simp at this
      omega
    subst this
    simp only [forL]
    rw [if_pos (hd _ ρ M hl h)]
    exact ok_some.mpr (hN ρ M h)
  | w :: ws, k, ρ, M, hk, hl, h => by
    have hw : items0[k]? = some w := by
      have : (items0.drop k)[0]? = some w := by rw [hk]; rfl
      simpa using this
    have hk' : items0.drop (k + 1) = ws := by rw [<- List.drop_drop, hk]; rfl
    have hl' : k + 1 <= items0.length := (List.getElem?_eq_some_iff.mp hw).1
    obtain ⟨ρ1, e1, o, e2, h2⟩ := turn k w ρ M hw h
    simp only [forL]
    rw [if_pos (hd _ ρ M hl h), e1]
    simp only [Option.bind_some]
    rw [e2]
    simp only [Option.bind_some]
    cases o with
    | nx ρ2 M2 => exact for_ok I N R hd hN turn ws (k + 1) _ _ hk' hl' h2
    | ct ρ2 M2 => exact for_ok I N R hd hN turn ws (k + 1) _ _ hk' hl' h2
    | bk ρ2 M2 => exact ok_some.mpr h2
    | rt w2 M2 => exact ok_some.mpr h2
/-- a loop's end: the turns that are to come grow fewer -/
theorem wh_ok {c : EvT} {b : EvS} (I : Nat -> Ev -> Mem -> Prop) (N : Ev -> Mem -> Prop) (R : W -> Mem -> Prop) (turn : ∀ m ρ M, I m ρ M -> Ok (c ρ M) fun p => if p.1 = true then Ok (b ρ p.2) (forQ (fun ρ2 M2 => ∃ m', m' < m /\ I m' ρ2 M2) N R) else N ρ p.2) :
    ∀ (m k : Nat) (ρ : Ev) (M : Mem), m < k -> I m ρ M -> Ok (whN c b k ρ M) (endQ N R) := by
  intro m
  induction m using Nat.strongRecOn with
  | ind m ih =>
    intro k ρ M hk h
    cases k with
    | zero => omega
    | succ k =>
      obtain ⟨p, e1, h1⟩ := turn m ρ M h
      simp only [whN]
      rw [e1]
      simp only [Option.bind_some]
      cases hp : p.1 with
      | false =>
        rw [hp] at h1
        simp only [Bool.false_eq_true, if_false] at h1 ⊢
        exact ok_some.mpr h1
      | true =>
        rw [hp] at h1
        simp only [if_true] at h1 ⊢
        obtain ⟨o, e2, h2⟩ := h1
        rw [e2]
        simp only [Option.bind_some]
        cases o with
        | nx ρ2 M2 => obtain ⟨m', hm, h3⟩ := h2; exact ih m' hm k ρ2 M2 (by omega) h3
        | ct ρ2 M2 => obtain ⟨m', hm, h3⟩ := h2; exact ih m' hm k ρ2 M2 (by omega) h3
        | bk ρ2 M2 => exact ok_some.mpr h2
        | rt w2 M2 => exact ok_some.mpr h2
end Va
namespace Pg
open PySem PySem.Spec PyProof.Rows L2 Sa Va
inductive Simple where
  | sum (ws : List Int) (c : Int)
  | rest (ws : List Int) (r m : Int)
  deriving DecidableEq
abbrev wsD (ws : List Int) : PyData := .tuple (ws.map .int)
def sD : Simple -> PyData
  | .sum ws c => .tuple [.str "sum", wsD ws, .int c]
  | .rest ws r m => .tuple [.str "rest", wsD ws, .int r, .int m]
def Simple.ws : Simple -> List Int
  | .sum ws _ => ws
  | .rest ws _ _ => ws
def Simple.isRest : Simple -> Bool
  | .sum _ _ => false
  | .rest _ _ _ => true
abbrev absI (n : Int) : Int := if n < 0 then -n else n
def sizeM : Simple -> Int
  | .sum ws c => if maxI (ws.map absI) > 1 + absI c then maxI (ws.map absI) else 1 + absI c
  | .rest _ _ m => m - 1
def saysM : Simple -> Int -> Bool
  | .sum _ c, n => decide (c <= n)
  | .rest _ r _, n => decide (n = r)
def leftM : Simple -> Int -> Int
  | .sum _ _, n => n
  | .rest _ _ m, n => n % m
def clampI (s n : Int) : Int := if (if n < s then n else s) > -s then (if n < s then n else s) else -s
def cutM : Simple -> Int -> Int × Int
  | .sum ws c, n => (clampI (sizeM (.sum ws c)) n, n - clampI (sizeM (.sum ws c)) n)
  | .rest ws r m, n => (n % m, 0)
/-- as far as the program asks -/
structure Wf (S : Simple) : Prop where
  some : S.ws ≠ []
  pos : ∀ ws r m, S = .rest ws r m -> 0 < m
  few : S.ws.length <= 1000
theorem nsr : ¬ (Str.ofString "sum" = Str.ofString "rest") := by decide +kernel
section
variable {S : Simple} {ws : List Int} {c r m n : Int} {M : Mem}
theorem F_says_eq : F_says [.d (sD S), .d (.int n)] M = some (.d (.bool (saysM S n)), M) := by
  cases S <;> simp [F_says, nf, fnV, g_says, sD, saysM, nsr]
theorem F_left_by_eq (h : Wf S) : F_left_by [.d (sD S), .d (.int n)] M = some (.d (.int (leftM S n)), M) := by
  cases S with
  | sum ws c => simp [F_left_by, nf, fnV, g_left_by, sD, leftM, nsr]
  | rest ws r m => simp [F_left_by, nf, fnV, g_left_by, sD, leftM, h.pos ws r m rfl]
theorem F_size_of_eq (h : Wf S) : F_size_of [.d (sD S)] M = some (.d (.int (sizeM S)), M) := by
  cases S with
  | sum ws c =>
    have ne : ws ≠ [] := h.some
    have e := x_intsM' ws
    simp only [List.map_map] at e
    have few : ws.length <= sizeLine := small_size h.few
    simp [F_size_of, nf, fnV, g_size_of, sD, sizeM, nsr, e, ne, absI, few]
  | rest ws r m => simp [F_size_of, nf, fnV, g_size_of, sD, sizeM]
theorem F_cut_eq (h : Wf S) : F_cut [.d (sD S), .d (.int n)] M = some (.d (.tuple [.int (cutM S n).1, .int (cutM S n).2]), M) := by
  cases S with
  | sum ws c =>
    have e1 : ∀ M, F_size_of [.d (sD (.sum ws c))] M = _ := fun M => F_size_of_eq h
    simp only [sD] at e1
    simp [F_cut, nf, fnV, g_cut, sD, nsr, e1, cutM, clampI, small_size]
  | rest ws r m =>
    have e1 : ∀ M, F_left_by [.d (sD (.rest ws r m)), .d (.int n)] M = _ := fun M => F_left_by_eq h
    simp only [sD] at e1
    simp [F_cut, nf, fnV, g_cut, sD, e1, cutM, leftM, small_size]
end
structure Hold where
  leads : Bool
  number : Int
  word : Bool
def hD (h : Hold) : PyData := .tuple [.bool h.leads, .int h.number, .bool h.word]
def nD (h : Bool × Int) : PyData := .tuple [.bool h.1, .int h.2]
def metG (S : Simple) (x y : Hold) : Hold × Hold :=
  if (!x.leads && !y.leads) = true then (x, y)
  else
    let k := (cutM S (x.number + y.number)).1
    let v := (cutM S (x.number + y.number)).2
    if x.leads = true then (⟨true, k, saysM S k⟩, ⟨false, v, saysM S k⟩) else (⟨false, v, saysM S k⟩, ⟨true, k, saysM S k⟩)
def notG (S : Simple) (x : Hold) (y : Bool × Int) : Hold × (Bool × Int) :=
  let k := (cutM S (x.number + y.2)).1
  (⟨x.leads || y.1, k, if (x.leads || y.1) = true then saysM S k else x.word⟩, (false, (cutM S (x.number + y.2)).2))
section
variable {S : Simple} {M : Mem}
theorem F_members_met_eq (h : Wf S) {x y : Hold} : F_members_met [.d (sD S), .d (hD x), .d (hD y)] M = some (.d (.tuple [hD (metG S x y).1, hD (metG S x y).2]), M) := by
  have e1 : ∀ n M, F_cut [.d (sD S), .d (.int n)] M = _ := fun n M => F_cut_eq h
  obtain ⟨xl, xn, xw⟩ := x
  obtain ⟨yl, yn, yw⟩ := y
  cases xl <;> cases yl <;> simp [F_members_met, nf, fnV, g_members_met, hD, metG, e1, F_says_eq, small_size]
end
end Pg
namespace Va
open PySem PySem.Spec PyProof.Rows L2 Sa
theorem lc_map {τ : Type} {deps : List (Nat × MO)} {g : EvG} {e : EvE} {ρ0 : Ev} {M : Mem} (ts : List τ) (enc res : τ -> W) (hd : ∀ acc, Deps deps (M ++ [.lst acc])) (small : ts.length <= 1000000)
    (turn : ∀ t ∈ ts, ∃ ρ1, g (enc t) ρ0 = some ρ1 /\ ∀ acc, e ρ1 (M ++ [.lst acc]) = some (res t, M ++ [.lst acc])) : lcL deps g tTrue e ρ0 M.length (ts.map enc) (M ++ [.lst []]) = some (M ++ [.lst (ts.map res)]) := by
  obtain ⟨M', e1, h⟩ := lc_ok (deps := deps) (g := g) (t := tTrue) (e := e) (ρ0 := ρ0) (n := M.length) (items0 := ts.map enc) (fun k M' => M' = M ++ [.lst ((ts.take k).map res)]) (fun k M' _ h => by rw [h]; exact hd _) (fun k w M' hw h => by
    subst h
    rw [List.getElem?_map] at hw
    obtain ⟨t, ht, rfl⟩ := Option.map_eq_some_iff.mp hw
    obtain ⟨ρ1, h1, h2⟩ := turn t (List.mem_of_getElem? ht)
    refine ⟨ρ1, h1, _, rfl, ?_⟩
    simp only [if_true]
    refine ⟨_, h2 _, _, get_new0, ?_, ?_⟩
    · have : (ts.take k).length <= ts.length := by simp; omega
      simp only [List.length_map]
      exact Nat.lt_of_le_of_lt (Nat.le_trans this small) (by decide)
    · rw [set_new0]
      simp only [List.set_cons_zero]
      congr 3
      rw [List.take_succ, ht]
      simp) (ts.map enc) 0 (M ++ [.lst []]) rfl (Nat.zero_le _) (by simp)
  rw [e1, h]
  simp
theorem itemsAt_map {τ : Type} {k : Nat} (enc : τ -> List PyData) (res : τ -> PyData) : ∀ (ts : List τ), (∀ t ∈ ts, (enc t)[k]? = some (res t)) -> itemsAt k (ts.map fun t => .d (.tuple (enc t))) = some (ts.map fun t => .d (res t))
  | [], _ => rfl
  | t :: ts, h => by
    have ih := itemsAt_map enc res ts fun u hu => h u (List.mem_cons_of_mem _ hu)
    have h0 := h t List.mem_cons_self
    simp only [List.map_cons, itemsAt, tupOf, Option.bind_some, List.getElem?_map, h0, Option.map_some, ih]
theorem datas_of {τ : Type} (f : τ -> PyData) (ts : List τ) : datas (ts.map fun t => .d (f t)) = some (ts.map f) := by
  have := datas_map (ts.map f)
  rw [List.map_map] at this
  exact this
theorem mkTup_of' {τ : Type} (f : τ -> PyData) (ts : List τ) : mkTup (ts.map fun t => .d (f t)) = .d (.tuple (ts.map f)) := mkTup_of (datas_of f ts)
end Va
namespace Pg
open PySem PySem.Spec PyProof.Rows L2 Sa Va
def trip {α β γ : Type} : List α -> List β -> List γ -> List (α × β × γ)
  | x :: xs, y :: ys, z :: zs => (x, y, z) :: trip xs ys zs
  | _, _, _ => []
theorem trip_length {α β γ : Type} : ∀ {xs : List α} {ys : List β} {zs : List γ}, xs.length = ys.length -> xs.length = zs.length -> (trip xs ys zs).length = xs.length
  | [], [], [], _, _ => rfl
  | x :: xs, y :: ys, z :: zs, h1, h2 => by simp only [trip, List.length_cons]; rw [trip_length (by simpa using h1) (by simpa using h2)]
  | [], _ :: _, _, h, _ => by simp at h
  | _ :: _, [], _, h, _ => by simp at h
  | [], [], _ :: _, _, h => by simp at h
  | _ :: _, _ :: _, [], _, h => by simp at h
theorem zip3_trip {α β γ : Type} (f : α -> PyData) (g : β -> PyData) (h : γ -> PyData) : ∀ (xs : List α) (ys : List β) (zs : List γ), zip3W (xs.map fun x => .d (f x)) (ys.map fun x => .d (g x)) (zs.map fun x => .d (h x)) = (trip xs ys zs).map fun t => .d (.tuple [f t.1, g t.2.1, h t.2.2])
  | x :: xs, y :: ys, z :: zs => by simp only [List.map_cons, zip3W, trip, mkTup3]; rw [zip3_trip f g h xs ys zs]
  | [], _, _ => by simp [zip3W, trip]
  | _ :: _, [], _ => by simp [zip3W, trip]
  | _ :: _, _ :: _, [] => by simp [zip3W, trip]
theorem trip_mem {α β γ : Type} : ∀ {xs : List α} {ys : List β} {zs : List γ} {t : α × β × γ}, t ∈ trip xs ys zs -> t.1 ∈ xs /\ t.2.1 ∈ ys /\ t.2.2 ∈ zs
  | x :: xs, y :: ys, z :: zs, t, h => by
    simp only [trip, List.mem_cons] at h
    rcases h with rfl | h
    · exact ⟨List.mem_cons_self, List.mem_cons_self, List.mem_cons_self⟩
    · obtain ⟨a, b, c⟩ := trip_mem h
      exact ⟨List.mem_cons_of_mem _ a, List.mem_cons_of_mem _ b, List.mem_cons_of_mem _ c⟩
  | [], _, _, _, h => by simp [trip] at h
  | _ :: _, [], _, _, h => by simp [trip] at h
  | _ :: _, _ :: _, [], _, h => by simp [trip] at h
def metL (Ss : List Simple) (xs ys : List Hold) : List (Hold × Hold) := (trip Ss xs ys).map fun t => metG t.1 t.2.1 t.2.2
def notL (Ss : List Simple) (xs : List Hold) (ys : List (Bool × Int)) : List (Hold × (Bool × Int)) := (trip Ss xs ys).map fun t => notG t.1 t.2.1 t.2.2
section
variable {Ss : List Simple} {xs ys : List Hold} {M : Mem}
theorem F_holds_met_eq (h : ∀ S ∈ Ss, Wf S) (h1 : Ss.length = xs.length) (h2 : Ss.length = ys.length) (small : Ss.length <= 1000) :
    F_holds_met [.d (.tuple (Ss.map sD)), .d (.tuple (xs.map hD)), .d (.tuple (ys.map hD))] M = some (.d (.tuple [.tuple ((metL Ss xs ys).map fun p => hD p.1), .tuple ((metL Ss xs ys).map fun p => hD p.2)]), M) := by
  have hl := trip_length h1 h2
  have e : ∀ ρ0 : Ev, ρ0.length = 8 -> lcL [] (gT 3 (gsC (gN 4) (gsC (gN 5) (gsC (gN 6) gs0)))) tTrue (eDef 3 F_members_met (aCons (eVar 4) (aCons (eVar 5) (aCons (eVar 6) aNil)))) ρ0 M.length ((trip Ss xs ys).map fun t => .d (.tuple [sD t.1, hD t.2.1, hD t.2.2])) (M ++ [.lst []])
      = some (M ++ [.lst ((trip Ss xs ys).map fun t => .d (.tuple [hD (metG t.1 t.2.1 t.2.2).1, hD (metG t.1 t.2.1 t.2.2).2]))]) := by
    intro ρ0 hρ
    refine lc_map _ _ _ (fun _ => by simp) (by rw [hl]; omega) fun t ht => ?_
    have wf := h _ (trip_mem ht).1
    obtain ⟨r0, r1, r2, r3, r4, r5, r6, r7, rfl⟩ : ∃ r0 r1 r2 r3 r4 r5 r6 r7, ρ0 = [r0, r1, r2, r3, r4, r5, r6, r7] := by
      match ρ0, hρ with
      | [r0, r1, r2, r3, r4, r5, r6, r7], _ => exact ⟨r0, r1, r2, r3, r4, r5, r6, r7, rfl⟩
    refine ⟨_, by simp; rfl, fun acc => ?_⟩
    simp [F_members_met_eq wf]
  have i0 := itemsAt_map (k := 0) (fun t : Simple × Hold × Hold => [hD (metG t.1 t.2.1 t.2.2).1, hD (metG t.1 t.2.1 t.2.2).2]) (fun t => hD (metG t.1 t.2.1 t.2.2).1) (trip Ss xs ys) fun _ _ => rfl
  have i1 := itemsAt_map (k := 1) (fun t : Simple × Hold × Hold => [hD (metG t.1 t.2.1 t.2.2).1, hD (metG t.1 t.2.1 t.2.2).2]) (fun t => hD (metG t.1 t.2.1 t.2.2).2) (trip Ss xs ys) fun _ _ => rfl
  have z := zip3_trip sD hD hD Ss xs ys
  have h1' := h1.symm
  have h2' := h2.symm
  have sm : Ss.length <= sizeLine := small_size small
  simp [F_holds_met, nf, fnV, g_holds_met, z, h1', h2', e, i0, i1, hl, sm, small_size, mkTup_of', metL, Function.comp_def]
def isNo (p : Bool × Int) : Bool := !p.1 && decide (p.2 = 0)
end
end Pg
namespace Pg
open PySem PySem.Spec PyProof.Rows L2 Sa Va
inductive State where
  | mem (sort : Int) (xs : List Hold)
  | note (ns : List (Bool × Int))
def stD : State -> PyData
  | .mem i xs => .tuple [.str "member", .int i, .tuple (xs.map hD)]
  | .note ns => .tuple [.str "note", .tuple (ns.map nD)]
def State.many : State -> Nat
  | .mem _ xs => xs.length
  | .note ns => ns.length
/-- a note, or nothing where it bears nothing -/
def noteOr (ns : List (Bool × Int)) : Option State := if ns.all isNo = true then none else some (.note ns)
def metS (Ss : List Simple) : State -> State -> Option State × Option State
  | .mem i xs, .mem j ys => (some (.mem i ((metL Ss xs ys).map (·.1))), some (.mem j ((metL Ss xs ys).map (·.2))))
  | .mem i xs, .note ns => (some (.mem i ((notL Ss xs ns).map (·.1))), noteOr ((notL Ss xs ns).map (·.2)))
  | .note ns, .mem i xs => (noteOr ((notL Ss xs ns).map (·.2)), some (.mem i ((notL Ss xs ns).map (·.1))))
  | .note ns, .note ms => (some (.note ns), some (.note ms))
section
variable {M : Mem}
inductive Say where
  | one (S : Simple)
  | no (a : Say)
  | an (a b : Say)
  | or (a b : Say)
def yD : Say -> PyData
  | .one S => sD S
  | .no a => .tuple [.str "not", yD a]
  | .an a b => .tuple [.str "and", yD a, yD b]
  | .or a b => .tuple [.str "or", yD a, yD b]
def Say.leaves : Say -> List Simple
  | .one S => [S]
  | .no a => a.leaves
  | .an a b => a.leaves ++ b.leaves
  | .or a b => a.leaves ++ b.leaves
def Say.deep : Say -> Nat
  | .one _ => 1
  | .no a => a.deep + 1
  | .an a b => max a.deep b.deep + 1
  | .or a b => max a.deep b.deep + 1
def Say.joined : Say -> Bool
  | .one _ => false
  | _ => true
theorem F_is_tuple_of_eq {ds : List PyData} {n : Int} : F_is_tuple_of [.d (.tuple ds), .d (.int n)] M = some (.d (.bool (decide ((ds.length : Int) = n))), M) := by
  simp [F_is_tuple_of, nf, fnV, g_is_tuple_of, kindW, isiB]
theorem F_is_headed_eq {z x : Str} {ds : List PyData} {n : Int} : F_is_headed [.d (.tuple (.str z :: ds)), .d (.str x), .d (.int n)] M = some (.d (.bool (decide (((ds.length + 1 : Nat) : Int) = n) && decide (z = x))), M) := by
  have e : ∀ M, F_is_tuple_of [.d (.tuple (.str z :: ds)), .d (.int n)] M = _ := fun M => F_is_tuple_of_eq
  by_cases h : ((ds.length + 1 : Nat) : Int) = n
  · simp only [List.length_cons, h, decide_true] at e
    simp [F_is_headed, nf, fnV, g_is_headed, e, kindW, isiB, h]
  · simp only [List.length_cons, h, decide_false] at e
    simp [F_is_headed, nf, fnV, g_is_headed, e, kindW, isiB, h]
    intro q
    exact absurd (by omega) h
theorem words_unlike : ¬ (Str.ofString "sum" = Str.ofString "not") /\ ¬ (Str.ofString "sum" = Str.ofString "and") /\ ¬ (Str.ofString "sum" = Str.ofString "or") /\ ¬ (Str.ofString "rest" = Str.ofString "not") /\ ¬ (Str.ofString "rest" = Str.ofString "and") /\ ¬ (Str.ofString "rest" = Str.ofString "or") /\ ¬ (Str.ofString "and" = Str.ofString "not") /\ ¬ (Str.ofString "or" = Str.ofString "not") /\ ¬ (Str.ofString "or" = Str.ofString "and") := by decide +kernel
theorem F_is_joined_eq (y : Say) : F_is_joined [.d (yD y)] M = some (.d (.bool y.joined), M) := by
  obtain ⟨u1, u2, u3, u4, u5, u6, u7, u8, u9⟩ := words_unlike
  have e : ∀ {z x : Str} {ds : List PyData} {n : Int} (M : Mem), F_is_headed [.d (.tuple (.str z :: ds)), .d (.str x), .d (.int n)] M = some (.d (.bool (decide (((ds.length + 1 : Nat) : Int) = n) && decide (z = x))), M) := fun M => F_is_headed_eq
  cases y with
  | one S => cases S <;> simp [F_is_joined, nf, fnV, g_is_joined, yD, sD, e, Say.joined, u1, u2, u3, u4, u5, u6]
  | no a => simp [F_is_joined, nf, fnV, g_is_joined, yD, e, Say.joined]
  | an a b => simp [F_is_joined, nf, fnV, g_is_joined, yD, e, Say.joined, u7]
  | or a b => simp [F_is_joined, nf, fnV, g_is_joined, yD, e, Say.joined, u8, u9]
end
end Pg
namespace Pg
open PySem PySem.Spec PyProof.Rows L2 Sa Va
theorem flatInts : ∀ ws : List Int, flats (ws.map PyData.int) = true
  | [] => rfl
  | n :: ws => by
    show (flat (.int n) && flats (ws.map PyData.int)) = true
    rw [flatInts ws]
    rfl
theorem depthInts : ∀ ws : List Int, NestedKey.depthAll (nks (ws.map PyData.int)) = 0
  | [] => rfl
  | n :: ws => by
    show max (NestedKey.depth (.num n)) (NestedKey.depthAll (nks (ws.map PyData.int))) = 0
    rw [depthInts ws]
    rfl
theorem depthDInts : ∀ ws : List Int, PyData.depthAll (ws.map PyData.int) = 0
  | [] => rfl
  | n :: ws => by
    show max (PyData.depth (.int n)) (PyData.depthAll (ws.map PyData.int)) = 0
    rw [depthDInts ws]
    rfl
theorem sD_flat (S : Simple) : flat (sD S) = true := by
  cases S <;> (show (true && (flats _ && _)) = true; rw [flatInts]; rfl)
theorem sD_depth (S : Simple) : (sD S).depth <= 60 := by
  cases S with
  | sum ws c =>
    show max 0 (max (PyData.depthAll (ws.map PyData.int) + 1) (max 0 0)) + 1 <= 60
    rw [depthDInts]
    decide
  | rest ws r m =>
    show max 0 (max (PyData.depthAll (ws.map PyData.int) + 1) (max 0 (max 0 0))) + 1 <= 60
    rw [depthDInts]
    decide
theorem nksInts : ∀ {ws vs : List Int}, nks (ws.map PyData.int) = nks (vs.map PyData.int) -> ws = vs
  | [], [], _ => rfl
  | [], _ :: _, h => by cases h
  | _ :: _, [], h => by cases h
  | w :: ws, v :: vs, h => by
    have h' : NestedKey.num w :: nks (ws.map PyData.int) = NestedKey.num v :: nks (vs.map PyData.int) := h
    injection h' with h1 h2
    injection h1 with h1
    rw [h1, nksInts h2]
theorem nk_inj {S T : Simple} (h : nk (sD S) = nk (sD T)) : S = T := by
  cases S with
  | sum ws c =>
    cases T with
    | sum vs d =>
      have h' : NestedKey.tup [.text "sum", .tup (nks (ws.map PyData.int)), .num c] = .tup [.text "sum", .tup (nks (vs.map PyData.int)), .num d] := h
      injection h' with h'
      injection h' with _ h'
      injection h' with h1 h'
      injection h' with h2 _
      injection h1 with h1
      injection h2 with h2
      rw [nksInts h1, h2]
    | rest vs r m =>
      have h' : NestedKey.tup [.text "sum", .tup (nks (ws.map PyData.int)), .num c] = .tup [.text "rest", .tup (nks (vs.map PyData.int)), .num r, .num m] := h
      injection h' with h'
      injection h' with _ h'
      injection h' with _ h'
      injection h' with _ h'
      cases h'
  | rest ws r m =>
    cases T with
    | sum vs d =>
      have h' : NestedKey.tup [.text "rest", .tup (nks (ws.map PyData.int)), .num r, .num m] = .tup [.text "sum", .tup (nks (vs.map PyData.int)), .num d] := h
      injection h' with h'
      injection h' with _ h'
      injection h' with _ h'
      injection h' with _ h'
      cases h'
    | rest vs r' m' =>
      have h' : NestedKey.tup [.text "rest", .tup (nks (ws.map PyData.int)), .num r, .num m] = .tup [.text "rest", .tup (nks (vs.map PyData.int)), .num r', .num m'] := h
      injection h' with h'
      injection h' with _ h'
      injection h' with h1 h'
      injection h' with h2 h'
      injection h' with h3 _
      injection h1 with h1
      injection h2 with h2
      injection h3 with h3
      rw [nksInts h1, h2, h3]
theorem sD_key8 (S : Simple) : (nk (sD S)).depth <= 8 := by
  cases S with
  | sum ws c =>
    show max 0 (max (NestedKey.depthAll (nks (ws.map PyData.int)) + 1) (max 0 0)) + 1 <= 8
    rw [depthInts]
    decide
  | rest ws r m =>
    show max 0 (max (NestedKey.depthAll (nks (ws.map PyData.int)) + 1) (max 0 (max 0 0))) + 1 <= 8
    rw [depthInts]
    decide
theorem alikeInts2 : ∀ ws vs : List Int, PySem.W.alikeAll (ws.map PyData.int) (vs.map PyData.int) = true
  | [], _ => by simp [PySem.W.alikeAll]
  | _ :: _, [] => by simp [PySem.W.alikeAll]
  | w :: ws, v :: vs => by
    show (PySem.W.alike (.int w) (.int v) && PySem.W.alikeAll (ws.map PyData.int) (vs.map PyData.int)) = true
    rw [alikeInts2 ws vs]
    rfl
theorem sD_alike2 (S T : Simple) : PySem.W.alike (sD S) (sD T) = true := by
  cases S <;> cases T <;> (show (true && (PySem.W.alikeAll _ _ && _)) = true; rw [alikeInts2]; rfl)
def sLe (S T : Simple) : Bool := !PySem.W.dataLt (sD T) (sD S)
theorem toksInts : ∀ {ws vs : List Int} {r t : List (Int ⊕ List Nat)}, PySem.W.keyToksAll (ws.map PyData.int) ++ r = PySem.W.keyToksAll (vs.map PyData.int) ++ t -> ws = vs /\ r = t
  | [], [], r, t, h => by
    have h' : (Sum.inl 0 : Int ⊕ List Nat) :: r = Sum.inl 0 :: t := h
    injection h' with _ h'
    exact ⟨rfl, h'⟩
  | [], v :: vs, r, t, h => by
    have h' : (Sum.inl 0 : Int ⊕ List Nat) :: r = Sum.inl 1 :: ((Sum.inl v :: PySem.W.keyToksAll (vs.map PyData.int)) ++ t) := h
    injection h' with h' _
    injection h' with h'
    cases h'
  | w :: ws, [], r, t, h => by
    have h' : (Sum.inl 1 : Int ⊕ List Nat) :: ((Sum.inl w :: PySem.W.keyToksAll (ws.map PyData.int)) ++ r) = Sum.inl 0 :: t := h
    injection h' with h' _
    injection h' with h'
    cases h'
  | w :: ws, v :: vs, r, t, h => by
    have h' : (Sum.inl 1 : Int ⊕ List Nat) :: Sum.inl w :: (PySem.W.keyToksAll (ws.map PyData.int) ++ r) = Sum.inl 1 :: Sum.inl v :: (PySem.W.keyToksAll (vs.map PyData.int) ++ t) := h
    injection h' with _ h'
    injection h' with h1 h'
    injection h1 with h1
    obtain ⟨e1, e2⟩ := toksInts h'
    exact ⟨by rw [h1, e1], e2⟩
theorem toks_inj {S T : Simple} (h : PySem.W.keyToks (sD S) = PySem.W.keyToks (sD T)) : S = T := by
  have words : (Sum.inr (Str.ofString "sum").cps.toList : Int ⊕ List Nat) ≠ Sum.inr (Str.ofString "rest").cps.toList := by decide +kernel
  have eS : ∀ ws c, PySem.W.keyToks (sD (.sum ws c)) = Sum.inl 1 :: Sum.inr (Str.ofString "sum").cps.toList :: Sum.inl 1 :: (PySem.W.keyToksAll (ws.map PyData.int) ++ [Sum.inl 1, Sum.inl c, Sum.inl 0]) := fun _ _ => rfl
  have eR : ∀ ws r m, PySem.W.keyToks (sD (.rest ws r m)) = Sum.inl 1 :: Sum.inr (Str.ofString "rest").cps.toList :: Sum.inl 1 :: (PySem.W.keyToksAll (ws.map PyData.int) ++ [Sum.inl 1, Sum.inl r, Sum.inl 1, Sum.inl m, Sum.inl 0]) := fun _ _ _ => rfl
  cases S with
  | sum ws c =>
    cases T with
    | sum vs d =>
      rw [eS, eS] at h
      injection h with _ h
      injection h with _ h
      injection h with _ h
      obtain ⟨e1, e2⟩ := toksInts h
      injection e2 with _ e2
      injection e2 with e2 _
      injection e2 with e2
      rw [e1, e2]
    | rest vs r m =>
      rw [eS, eR] at h
      injection h with _ h
      injection h with h _
      exact absurd h words
  | rest ws r m =>
    cases T with
    | sum vs d =>
      rw [eR, eS] at h
      injection h with _ h
      injection h with h _
      exact absurd h.symm words
    | rest vs r' m' =>
      rw [eR, eR] at h
      injection h with _ h
      injection h with _ h
      injection h with _ h
      obtain ⟨e1, e2⟩ := toksInts h
      injection e2 with _ e2
      injection e2 with e3 e2
      injection e2 with _ e2
      injection e2 with e4 _
      injection e3 with e3
      injection e4 with e4
      rw [e1, e3, e4]
theorem sLe_antisymm {S T : Simple} (h1 : sLe S T = true) (h2 : sLe T S = true) : S = T := by
  unfold sLe at h1 h2
  rw [Bool.not_eq_true'] at h1 h2
  exact toks_inj (lex_total _ _ h2 h1)
theorem rising_one : ∀ {N M : List Simple}, N.Pairwise (fun S T => sLe S T = true) -> M.Pairwise (fun S T => sLe S T = true) -> N.Nodup -> M.Nodup -> (∀ S, S ∈ N ↔ S ∈ M) -> N = M
  | [], [], _, _, _, _, _ => rfl
  | [], T :: M, _, _, _, _, e => absurd ((e T).mpr List.mem_cons_self) (by simp)
  | S :: N, [], _, _, _, _, e => absurd ((e S).mp List.mem_cons_self) (by simp)
  | S :: N, T :: M, p1, p2, n1, n2, e => by
    obtain ⟨a1, p1⟩ := List.pairwise_cons.mp p1
    obtain ⟨a2, p2'⟩ := List.pairwise_cons.mp p2
    obtain ⟨b1, n1⟩ := List.nodup_cons.mp n1
    obtain ⟨b2, n2'⟩ := List.nodup_cons.mp n2
    have same : S = T := by
      rcases List.mem_cons.mp ((e S).mp List.mem_cons_self) with z | z
      · exact z
      · rcases List.mem_cons.mp ((e T).mpr List.mem_cons_self) with y | y
        · exact y.symm
        · exact sLe_antisymm (a1 T y) (a2 S z)
    subst same
    have rest : ∀ R, R ∈ N ↔ R ∈ M := fun R => by
      constructor
      · intro h
        rcases List.mem_cons.mp ((e R).mp (List.mem_cons_of_mem _ h)) with z | z
        · rw [z] at h; exact absurd h b1
        · exact z
      · intro h
        rcases List.mem_cons.mp ((e R).mpr (List.mem_cons_of_mem _ h)) with z | z
        · rw [z] at h; exact absurd h b2
        · exact z
    rw [rising_one p1 p2' n1 n2' rest]
/-- the unlike ones, rising -/
def rowOf (ls : List Simple) : List Simple := ls.eraseDups.mergeSort (PySem.W.dataLe false sD)
theorem sLe_total : PySem.W.TotalLe (PySem.W.dataLe false sD) := PySem.W.sortLe_total _ false _
theorem row_sorted (ls : List Simple) : (ls.mergeSort (PySem.W.dataLe false sD)).Pairwise fun S T => sLe S T = true := PySem.W.sort_pairwise sLe_total ls
theorem nodup_erase : ∀ (n : Nat) (ls : List Simple), ls.length <= n -> ls.eraseDups.Nodup
  | 0, ls, h => by
    have : ls = [] := List.length_eq_zero_iff.mp (by omega)
    rw [this]; simp
  | n + 1, [], _ => by simp
  | n + 1, x :: ls, h => by
    rw [List.eraseDups_cons, List.nodup_cons]
    refine ⟨fun z => ?_, nodup_erase n _ ?_⟩
    · have := List.mem_eraseDups.mp z
      simp at this
    · have := List.length_filter_le (fun b => !b == x) ls
      simp at h
      omega
theorem rowOf_nodup (ls : List Simple) : (rowOf ls).Nodup := (List.mergeSort_perm _ _).nodup_iff.mpr (nodup_erase _ ls (Nat.le_refl _))
theorem rowOf_mem (ls : List Simple) (S : Simple) : S ∈ rowOf ls ↔ S ∈ ls := ((List.mergeSort_perm _ _).mem_iff).trans List.mem_eraseDups
def FewS (ls : List Simple) : Prop := ∀ N : List Simple, N.Nodup -> (∀ S ∈ N, S ∈ ls) -> N.length + 1 < 64
theorem pre_list {L ls : List PyData} : ∀ {Ls : List Simple}, (∀ d ∈ L, d ∈ Ls.map sD) -> ∃ L0 : List Simple, L = L0.map sD /\ ∀ S ∈ L0, S ∈ Ls := by
  intro Ls
  induction L with
  | nil => exact fun _ => ⟨[], rfl, fun _ h => by simp at h⟩
  | cons d L ih =>
    intro h
    obtain ⟨L0, e, k⟩ := ih fun x hx => h x (List.mem_cons_of_mem _ hx)
    obtain ⟨S, hS, rfl⟩ := List.mem_map.mp (h d List.mem_cons_self)
    exact ⟨S :: L0, by rw [e]; rfl, fun T hT => by
      rcases List.mem_cons.mp hT with rfl | hT
      · exact hS
      · exact k T hT⟩
theorem nodup_of_map {α β : Type} {f : α -> β} : ∀ {l : List α}, (l.map f).Nodup -> l.Nodup
  | [], _ => List.nodup_nil
  | x :: l, h => by
    rw [List.map_cons, List.nodup_cons] at h
    exact List.nodup_cons.mpr ⟨fun z => h.1 (List.mem_map_of_mem z), nodup_of_map h.2⟩
theorem sortsTo {ls : List Simple} (few : FewS ls) : SortsTo (ls.map sD) ((rowOf ls).map sD) where
  keys := fun d hd => by
    obtain ⟨S, _, rfl⟩ := List.mem_map.mp hd
    exact ⟨sD_flat S, sD_key8 S, by cases S <;> exact ⟨_, _, rfl⟩, sD_depth S⟩
  alike := fun d hd d' hd' => by
    obtain ⟨S, _, rfl⟩ := List.mem_map.mp hd
    obtain ⟨T, _, rfl⟩ := List.mem_map.mp hd'
    exact sD_alike2 S T
  few := fun N nd sub => by
    have key : ∀ N : List NestedKey, (∀ k ∈ N, k ∈ (ls.map sD).map nk) -> ∃ N0 : List Simple, N = N0.map (fun S => nk (sD S)) /\ ∀ S ∈ N0, S ∈ ls := by
      intro N
      induction N with
      | nil => exact fun _ => ⟨[], rfl, fun _ h => by simp at h⟩
      | cons k N ih =>
        intro h
        obtain ⟨N0, e, q⟩ := ih fun x hx => h x (List.mem_cons_of_mem _ hx)
        have hk := h k List.mem_cons_self
        rw [List.map_map] at hk
        obtain ⟨S, hS, rfl⟩ := List.mem_map.mp hk
        exact ⟨S :: N0, by rw [e]; rfl, fun T hT => by
          rcases List.mem_cons.mp hT with rfl | hT
          · exact hS
          · exact q T hT⟩
    obtain ⟨N0, rfl, q⟩ := key N sub
    rw [List.length_map]
    exact few N0 (nodup_of_map nd) q
  ex := ⟨(ls.eraseDups).map sD, fun d hd => by
      obtain ⟨S, hS, rfl⟩ := List.mem_map.mp hd
      exact List.mem_map_of_mem (List.mem_eraseDups.mp hS), fun d hd => by
      obtain ⟨S, hS, rfl⟩ := List.mem_map.mp hd
      exact List.mem_map_of_mem (List.mem_map_of_mem (List.mem_eraseDups.mpr hS)), by
      rw [List.map_map]
      have nd := nodup_erase _ ls (Nat.le_refl _)
      generalize ls.eraseDups = q at nd
      induction q with
      | nil => exact List.nodup_nil
      | cons S q ih =>
        rw [List.nodup_cons] at nd
        rw [List.map_cons, List.nodup_cons]
        refine ⟨fun z => ?_, ih nd.2⟩
        obtain ⟨T, hT, e⟩ := List.mem_map.mp z
        exact nd.1 (by rw [<- nk_inj e]; exact hT)⟩
  one := fun L ⟨s1, s2, s3⟩ => by
    obtain ⟨L0, rfl, q⟩ := pre_list (ls := []) s1
    have mm : (L0.mergeSort (PySem.W.dataLe false sD)).map sD = (L0.map sD).mergeSort (PySem.W.dataLe false id) := List.map_mergeSort fun a _ b _ => rfl
    rw [<- mm]
    congr 1
    refine rising_one (row_sorted L0) (row_sorted _) ((List.mergeSort_perm _ _).nodup_iff.mpr (nodup_of_map (nodup_of_map s3))) (rowOf_nodup ls) fun S => ?_
    rw [(List.mergeSort_perm _ _).mem_iff, rowOf_mem]
    refine ⟨q S, fun h => ?_⟩
    have := s2 (sD S) (List.mem_map_of_mem h)
    rw [List.map_map] at this
    obtain ⟨T, hT, e⟩ := List.mem_map.mp this
    rw [<- nk_inj e]
    exact hT
theorem rowOf_congr {ls ms : List Simple} (h : ∀ S, S ∈ ls ↔ S ∈ ms) : rowOf ls = rowOf ms :=
  rising_one (row_sorted _) (row_sorted _) (rowOf_nodup ls) (rowOf_nodup ms) fun S => (rowOf_mem ls S).trans ((h S).trans (rowOf_mem ms S).symm)
theorem Say.leaves_pos : ∀ y : Say, 0 < y.leaves.length
  | .one _ => Nat.one_pos
  | .no a => Say.leaves_pos a
  | .an a b => by simp only [Say.leaves, List.length_append]; have := Say.leaves_pos a; omega
  | .or a b => by simp only [Say.leaves, List.length_append]; have := Say.leaves_pos a; omega
section
variable {M : Mem}
theorem norm_new {us : List W} {J : Mem} (d : us.all isD = true) : norm M (.obj M.length, M ++ .lst us :: J) = (.obj M.length, M ++ [.lst us]) := norm_l (j := 0) rfl d .refl
theorem all_isD {τ : Type} (f : τ -> PyData) (ts : List τ) : (ts.map fun t => W.d (f t)).all isD = true := by
  induction ts with
  | nil => rfl
  | cons t ts ih => simp only [List.map_cons, List.all_cons, ih]; rfl
theorem F_all_simples_eq : ∀ (k : Nat) (y : Say) (M : Mem), y.deep <= k -> y.leaves.length <= 1000 -> F_all_simples k [.d (yD y)] M = some (.obj M.length, M ++ [.lst (y.leaves.map fun S => .d (sD S))])
  | 0, y, M, h, _ => by cases y <;> simp [Say.deep] at h
  | k + 1, y, M, h, hs => by
    have j : ∀ M, F_is_joined [.d (yD y)] M = _ := fun M => F_is_joined_eq y
    have isd := all_isD sD
    cases y with
    | one S =>
      have n := norm_new (M := M) (us := [.d (yD (.one S))]) (J := []) rfl
      simp [F_all_simples, nf, fnV, g_all_simples, j, Say.joined, small_size, n]
      simp [yD, Say.leaves]
    | no a =>
      have e := fun M => F_all_simples_eq k a M (by simp [Say.deep] at h; omega) hs
      have hs' : a.leaves.length <= sizeLine := small_size hs
      have n := fun J => norm_new (M := M) (us := a.leaves.map fun S => .d (sD S)) (J := J) (isd _)
      simp only [yD] at j
      simp [F_all_simples, nf, fnV, g_all_simples, j, Say.joined, small_size, yD, forL, cutG, HT.sIx, e, hs', n, Say.leaves]
    | an a b =>
      have hl : a.leaves.length + b.leaves.length <= 1000 := by simpa [Say.leaves] using hs
      have ea := fun M => F_all_simples_eq k a M (by simp [Say.deep] at h; omega) (by omega)
      have eb := fun M => F_all_simples_eq k b M (by simp [Say.deep] at h; omega) (by omega)
      have hs1 : a.leaves.length <= sizeLine := small_size (by omega)
      have hs2 : a.leaves.length + b.leaves.length <= sizeLine := small_size hl
      have n := fun J => norm_new (M := M) (us := (a.leaves.map fun S => .d (sD S)) ++ (b.leaves.map fun S => .d (sD S))) (J := J) (by rw [List.all_append, isd, isd]; rfl)
      simp only [yD] at j
      simp [F_all_simples, nf, fnV, g_all_simples, j, Say.joined, small_size, yD, forL, cutG, HT.sIx, ea, eb, hs1, hs2, n, Say.leaves]
    | or a b =>
      have hl : a.leaves.length + b.leaves.length <= 1000 := by simpa [Say.leaves] using hs
      have ea := fun M => F_all_simples_eq k a M (by simp [Say.deep] at h; omega) (by omega)
      have eb := fun M => F_all_simples_eq k b M (by simp [Say.deep] at h; omega) (by omega)
      have hs1 : a.leaves.length <= sizeLine := small_size (by omega)
      have hs2 : a.leaves.length + b.leaves.length <= sizeLine := small_size hl
      have n := fun J => norm_new (M := M) (us := (a.leaves.map fun S => .d (sD S)) ++ (b.leaves.map fun S => .d (sD S))) (J := J) (by rw [List.all_append, isd, isd]; rfl)
      simp only [yD] at j
      simp [F_all_simples, nf, fnV, g_all_simples, j, Say.joined, small_size, yD, forL, cutG, HT.sIx, ea, eb, hs1, hs2, n, Say.leaves]
theorem F_simples_eq (y : Say) (hd : y.deep <= 9) (hs : y.leaves.length <= 1000) (few : FewS y.leaves) : F_simples [.d (yD y)] M = some (.d (.tuple ((rowOf y.leaves).map sD)), M) := by
  have e := fun M => F_all_simples_eq 9 y M hd hs
  have s : fSortSet [.obj M.length] (M ++ [.lst (y.leaves.map fun S => .d (sD S))]) = _ := fSortSet_eq (i := M.length) (ds := y.leaves.map sD) (by rw [List.map_map]; exact x_lstAt (by simp)) (sortsTo few)
  simp only [List.length_append, List.length_singleton] at s
  have mk : mkTup ((rowOf y.leaves).map (W.d ∘ sD)) = _ := mkTup_of' sD _
  simp [F_simples, nf, fnV, g_simples, e, s, mk]
end
end Pg
namespace Lw
open PySem PySem.Spec PyProof.Rows L2 Sa Va Pg
def HandAt (M : Mem) (h : Nat) (n : Int) : Prop := ∃ a b c : Int, M[h]? = some (.lst [.d (.int a), .d (.int b), .d (.int c)]) /\ 0 <= a /\ 0 <= b /\ b < 2 ^ 61 /\ 0 <= c /\ c <= n
/-- all but the thing at h is as it was -/
def Upd (h : Nat) (M M' : Mem) : Prop := M'.length = M.length /\ ∀ i, i ≠ h -> M'[i]? = M[i]?
theorem Upd.refl {h : Nat} {M : Mem} : Upd h M M := ⟨rfl, fun _ _ => rfl⟩
theorem Upd.trans {h : Nat} {M M1 M2 : Mem} (a : Upd h M M1) (b : Upd h M1 M2) : Upd h M M2 := ⟨b.1.trans a.1, fun i hi => (b.2 i hi).trans (a.2 i hi)⟩
theorem Upd.set {h : Nat} {M : Mem} {x : MO} : Upd h M (M.set h x) := ⟨by simp, fun i hi => List.getElem?_set_ne (Ne.symm hi)⟩
theorem HandAt.mono {M : Mem} {h : Nat} {n m : Int} (x : HandAt M h n) (le : n <= m) : HandAt M h m := let ⟨a, b, c, e, h1, h2, h3, h4, h5⟩ := x; ⟨a, b, c, e, h1, h2, h3, h4, by omega⟩
theorem HandAt.lt {M : Mem} {h : Nat} {n : Int} (x : HandAt M h n) : h < M.length := let ⟨_, _, _, e, _⟩ := x; (List.getElem?_eq_some_iff.mp e).1
theorem HandAt.app {M J : Mem} {h : Nat} {n : Int} (x : HandAt M h n) : HandAt (M ++ J) h n := let ⟨a, b, c, e, r⟩ := x; ⟨a, b, c, get_old e, r⟩
@[simp] theorem ix0 {n : Nat} : ixN (n + 1) 0 = some 0 := by unfold ixN; rw [if_pos (by omega), if_pos (by omega)]; rfl
@[simp] theorem ix2 {n : Nat} : ixN (n + 3) 2 = some 2 := by unfold ixN; rw [if_pos (by omega), if_pos (by omega)]; rfl
theorem cm_left {p q : Int} (h : -(2 ^ 64) < p /\ p < 2 ^ 64) : CMul p q := .inl h
theorem cm_right {p q : Int} (h : -(2 ^ 64) < q /\ q < 2 ^ 64) : CMul p q := .inr h
theorem norm_upd {M : Mem} {x : PyData} {h : Nat} {ws : List W} {J : Mem} (d : ws.all isD = true) : norm M (.d x, M.set h (.lst ws) ++ J) = (.d x, M.set h (.lst ws)) := norm_d rfl (Cut.refl.set h d)
theorem HandAt.cut {M M1 : Mem} {h : Nat} {n : Int} (hd : HandAt M1 h n) (up : Upd h M M1) : Cut M M1 := by
  refine ⟨up.1, fun k mo hk => ?_⟩
  by_cases z : k = h
  · subst z
    obtain ⟨a, b, c, e, _⟩ := hd
    rw [e] at hk
    cases hk
    exact .inr rfl
  · rw [up.2 k z] at hk
    exact .inl hk
/-- a def that draws and tells data -/
theorem HandAt.norm {M M1 J : Mem} {h : Nat} {n : Int} {w : W} (hd : HandAt M1 h n) (up : Upd h M M1) (d : isD w = true) : norm M (w, M1 ++ J) = (w, M1) := norm_d d (hd.cut up)
end Lw
namespace Lw
open PySem PySem.Spec PyProof.Rows L2 Sa Va Pg
theorem Upd.split {h : Nat} {M J M' : Mem} (hl : h < M.length) (up : Upd h (M ++ J) M') : ∃ M1, M' = M1 ++ J /\ Upd h M M1 := by
  have l1 : M'.length = M.length + J.length := by rw [up.1]; simp
  have split : M' = M'.take M.length ++ J := by
    refine List.ext_getElem? fun i => ?_
    by_cases hi : i < M.length
    · rw [List.getElem?_append_left (by simp [l1]; omega), List.getElem?_take_of_lt hi]
    · rw [up.2 i (by omega), List.getElem?_append_right (by omega), List.getElem?_append_right (by simp [l1]; omega), List.length_take]
      congr 1
      omega
  refine ⟨M'.take M.length, split, by simp [l1], fun i hi => ?_⟩
  by_cases h2 : i < M.length
  · rw [List.getElem?_take_of_lt h2, up.2 i hi, List.getElem?_append_left h2]
  · rw [List.getElem?_eq_none (by simp [l1]; omega), List.getElem?_eq_none (by omega)]
theorem HandAt.unapp {M J : Mem} {h : Nat} {n : Int} (hl : h < M.length) (x : HandAt (M ++ J) h n) : HandAt M h n := by
  obtain ⟨a, b, c, e, r⟩ := x
  exact ⟨a, b, c, by rw [List.getElem?_append_left hl] at e; exact e, r⟩
/-- a def that draws: at most so many times, and tells what P is so of -/
def Draws (F : Fn) (as : Nat -> List W) (cost : Int) (P : W -> Prop) : Prop := ∀ (M : Mem) (h : Nat) (n : Int) (Q : W × Mem -> Prop), HandAt M h n -> n + cost < 2 ^ 60 ->
  (∀ w M', P w -> HandAt M' h (n + cost) -> Upd h M M' -> Q (w, M')) -> Ok (F (as h) M) Q
theorem Draws.app {F : Fn} {as : Nat -> List W} {cost : Int} {P : W -> Prop} (D : Draws F as cost P) {M J : Mem} {h : Nat} {n : Int} {Q : W × Mem -> Prop} (hd : HandAt M h n) (nb : n + cost < 2 ^ 60)
    (k : ∀ w M', P w -> HandAt M' h (n + cost) -> Upd h M M' -> Q (w, M' ++ J)) : Ok (F (as h) (M ++ J)) Q :=
  D _ h n Q hd.app nb fun w M' hp hd' up => by
    obtain ⟨M1, rfl, up1⟩ := up.split hd.lt
    exact k w M1 hp (hd'.unapp (by rw [up1.1]; exact hd.lt)) up1
structure GoodS (S : Simple) (k : Nat) : Prop where
  many : S.ws.length = k
  worth : ∀ w ∈ S.ws, -9 <= w /\ w <= 9
  sum : ∀ ws c, S = .sum ws c -> -20 <= c /\ c <= 20
  rest : ∀ ws r m, S = .rest ws r m -> 2 <= m /\ m <= 9 /\ 0 <= r /\ r < m
  few : k <= 6
theorem GoodS.wf {S : Simple} {k : Nat} (h : GoodS S k) (hk : 0 < k) : Wf S := ⟨fun z => by
  have := h.many
  rw [z] at this
  simp at this
  omega, fun ws r m e => by have := h.rest ws r m e; omega, by rw [h.many]; have := h.few; omega⟩
end Lw
namespace Lw
open PySem PySem.Spec PyProof.Rows L2 Sa Va Pg
section
variable {S : Simple}
def saysL : Simple -> Int -> Bool
  | .sum _ c, n => decide (c <= n)
  | .rest _ r m, n => decide (n % m = r)
theorem absI_nn (c : Int) : 0 <= absI c := by unfold absI; split <;> omega
theorem size_pos (ge : ∀ ws r m, S = .rest ws r m -> 2 <= m) : 1 <= sizeM S := by
  cases S with
  | sum ws c =>
    have := absI_nn c
    show 1 <= if maxI (ws.map absI) > 1 + absI c then maxI (ws.map absI) else 1 + absI c
    split <;> omega
  | rest ws r m =>
    have := ge ws r m rfl
    show 1 <= m - 1
    omega
end
end Lw
namespace Lw
open PySem PySem.Spec PyProof.Rows L2 Sa Va Pg
section
theorem trip_zip {α β γ : Type} : ∀ {xs : List α} {ys : List β} {zs : List γ} {t : α × β × γ}, t ∈ trip xs ys zs -> (t.1, t.2.1) ∈ xs.zip ys /\ (t.1, t.2.2) ∈ xs.zip zs
  | x :: xs, y :: ys, z :: zs, t, h => by
    simp only [trip, List.mem_cons] at h
    rcases h with rfl | h
    · exact ⟨by simp, by simp⟩
    · obtain ⟨a, b⟩ := trip_zip h
      exact ⟨by simp [a], by simp [b]⟩
  | [], _, _, _, h => by simp [trip] at h
  | _ :: _, [], _, _, h => by simp [trip] at h
  | _ :: _, _ :: _, [], _, h => by simp [trip] at h
end
end Lw
namespace Lw
open PySem PySem.Spec PyProof.Rows L2 Sa Va Pg
@[simp] theorem ok_dup {α : Type} {o : Option α} {Q : α -> Prop} : Ok o (fun _ => Ok o Q) ↔ Ok o Q := ⟨fun ⟨_, _, h⟩ => h, fun h => let ⟨x, e, _⟩ := h; ⟨x, e, h⟩⟩
theorem abs_le {w : Int} (h0 : -9 <= w) (h1 : w <= 9) : absI w <= 9 := by unfold absI; split <;> omega
theorem size_le {S : Simple} {k : Nat} (h : GoodS S k) (hk : 0 < k) : 1 <= sizeM S /\ sizeM S <= 21 := by
  refine ⟨size_pos fun ws r m e => by have := h.rest ws r m e; omega, ?_⟩
  cases S with
  | sum ws c =>
    have hc := h.sum ws c rfl
    have : absI c <= 20 := by unfold absI; split <;> omega
    have ne : ws.map absI ≠ [] := by
      intro z
      have := h.many
      have z2 : ws = [] := by simpa using z
      rw [show (Simple.sum ws c).ws = ws from rfl, z2] at this
      simp at this
      omega
    have top := (maxI_top (ws.map absI) ne).1
    obtain ⟨w, hw, e⟩ := List.mem_map.mp top
    have hb := h.worth w hw
    have := abs_le hb.1 hb.2
    show (if maxI (ws.map absI) > 1 + absI c then maxI (ws.map absI) else 1 + absI c) <= 21
    split <;> omega
  | rest ws r m =>
    have := h.rest ws r m rfl
    show m - 1 <= 21
    omega
theorem head_word (S : Simple) : ∃ ds, sD S = .tuple (.str (if S.isRest = true then "rest" else "sum") :: ds) := by
  cases S with
  | sum ws c => exact ⟨_, rfl⟩
  | rest ws r m => exact ⟨_, rfl⟩
/-- a member's hold as it is drawn -/
def DrawnH (S : Simple) (x : Hold) : Prop := (if S.isRest = true then 0 else -sizeM S) <= x.number /\ x.number <= sizeM S
end Lw
namespace Lw
open PySem PySem.Spec PyProof.Rows L2 Sa Va Pg
def DrawnN (S : Simple) (y : Bool × Int) : Prop := (if S.isRest = true then 0 else -2 * sizeM S) <= y.2 /\ y.2 <= (if S.isRest = true then sizeM S else 2 * sizeM S)
end Lw
namespace Lw
open PySem PySem.Spec PyProof.Rows L2 Sa Va Pg
theorem x_pow {M : Mem} {p q : Int} (h : CPow p q) : oPow (.d (.int p)) (.d (.int q)) M = some (.d (.int (p ^ q.toNat)), M) := x_Ic h
theorem pow18 {M : Mem} : oPow (.d (.int 10)) (.d (.int 18)) M = some (.d (.int 1000000000000000000), M) := x_pow (p := 10) (q := 18) ⟨by decide, by decide, by decide⟩
theorem cell_ok {ns : List Int} {k : Int} (k0 : 0 <= k) (h : k < ns.length) : ∃ v, atI ns k = some v := by
  obtain ⟨j, rfl⟩ : ∃ j : Nat, k = j := ⟨k.toNat, by omega⟩
  exact ⟨ns[j]'(by omega), atI_nat' (by simp)⟩
end Lw
namespace Lx
open PySem PySem.Spec PyProof.Rows L2 Sa Va
noncomputable def g__law_hand (ns : List Int) : EvS :=
    (sSeq (sSet 2 (eIf (tVal (eOp oLt (eVar 1) (eCall (fLenS ns) (aCons (eVar 0) aNil)))) (eOp (oIxS ns) (eVar 0) (eVar 1)) (eC (.int 0))))
    (sSeq (sSet 3 (eOp oMul (eOp oMod (eCall fAbs (aCons (eVar 2) aNil)) (eOp oMulW (eOp oMulW (eOp oMulW (eOp oPow (eC (.int 10)) (eC (.int 60))) (eOp oPow (eC (.int 10)) (eC (.int 60)))) (eOp oPow (eC (.int 10)) (eC (.int 60)))) (eOp oPow (eC (.int 10)) (eC (.int 60))))) (eCall fInt (aCons (eOp oGe (eCall fAbs (aCons (eVar 2) aNil)) (eOp oPow (eC (.int 10)) (eC (.int 18)))) aNil))))
    (sRet (eLst (aCons (eVar 3) (aCons (eOp oAdd (eOp oAdd (eOp oMod (eVar 2) (eC (.int 2305843009213693951))) (eOp oMul (eC (.int 15485863)) (eVar 1))) (eC (.int 29))) (aCons (eC (.int 0)) aNil)))))))
noncomputable def F__law_hand (ns : List Int) : Fn := nf (fnV 4 (g__law_hand ns))
noncomputable def g__law_take : EvS :=
    (sSeq (sIf (tVal (eOp oGt (eOp oIx (eVar 0) (eC (.int 0))) (eC (.int 0)))) (sSeq (sSet 2 (eOp oMod (eOp oIx (eVar 0) (eC (.int 0))) (eVar 1)))
    (sSeq (sPut (eOp oDiv (eOp oIx (eVar 0) (eC (.int 0))) (eVar 1)) (eVar 0) (eC (.int 0)))
    (sRet (eVar 2)))) sNil)
    (sSeq (sPut (eOp oAdd (eOp oIx (eVar 0) (eC (.int 2))) (eC (.int 1))) (eVar 0) (eC (.int 2)))
    (sSeq (sSet 3 (eLst (aCons (eC (.int 2147483647)) (aCons (eC (.int 2147483629)) (aCons (eC (.int 2147483587)) (aCons (eC (.int 2147483579)) (aCons (eC (.int 2147483563)) (aCons (eC (.int 2147483549)) (aCons (eC (.int 2147483543)) (aCons (eC (.int 2147483497)) aNil))))))))))
    (sSeq (sSet 4 (eOp oIx (eVar 3) (eOp oMod (eOp oIx (eVar 0) (eC (.int 2))) (eC (.int 8)))))
    (sSeq (sSet 5 (eOp oMod (eOp oPow (eOp oAdd (eOp oIx (eVar 0) (eC (.int 1))) (eOp oMul (eC (.int 104729)) (eOp oIx (eVar 0) (eC (.int 2))))) (eC (.int 5))) (eVar 4)))
    (sRet (eOp oMod (eOp oDiv (eOp oMod (eOp oMul (eVar 5) (eOp oAdd (eOp oMod (eVar 5) (eC (.int 1013))) (eOp oIx (eVar 0) (eC (.int 2))))) (eVar 4)) (eC (.int 11))) (eVar 1))))))))
noncomputable def F__law_take : Fn := nf (fnV 6 (g__law_take))
noncomputable def g__law_saying (self : Fn) : EvS :=
    (sSeq (sPar 4 5 (aCons (eDef 2 (F__law_take) (aCons (eVar 0) (aCons (eC (.int 6)) aNil))) (aCons (eDef 2 (F__law_take) (aCons (eVar 0) (aCons (eCall fLen (aCons (eVar 1) aNil)) aNil))) aNil)))
    (sSeq (sPutP (eOp oSub (eIxP (eVar 3) (eC (.str "forms"))) (eC (.int 1))) (eVar 3) (eC (.str "forms")))
    (sSeq (sIf (tOrE (tVal (eOp oGt (eVar 4) (eC (.int 3)))) (tOrE (tVal (eOp oLt (eVar 2) (eC (.int 2)))) (tVal (eOp oLt (eIxP (eVar 3) (eC (.str "forms"))) (eC (.int 1)))))) (sRet (eOp oIx (eVar 1) (eVar 5))) sNil)
    (sSeq (sSet 6 (eDef 4 self (aCons (eVar 0) (aCons (eVar 1) (aCons (eOp oSub (eVar 2) (eC (.int 1))) (aCons (eVar 3) aNil))))))
    (sSeq (sIf (tVal (eOp oEq (eVar 4) (eC (.int 0)))) (sRet (eTup (aCons (eC (.str "not")) (aCons (eVar 6) aNil)))) sNil)
    (sRet (eTup (aCons (eOp oIx (eLst (aCons (eC (.str "and")) (aCons (eC (.str "or")) (aCons (eC (.str "and")) aNil)))) (eOp oSub (eVar 4) (eC (.int 1)))) (aCons (eVar 6) (aCons (eDef 4 self (aCons (eVar 0) (aCons (eVar 1) (aCons (eOp oSub (eVar 2) (eC (.int 1))) (aCons (eVar 3) aNil))))) aNil))))))))))
noncomputable def F__law_saying : Nat -> Fn
  | 0 => fun _ _ => none
  | k + 1 => nf (fnV 7 (g__law_saying (F__law_saying k)))
noncomputable def g__law_of : EvS :=
    (sRet (eOp oIx (eVar 1) (eDef 2 (F__law_take) (aCons (eVar 0) (aCons (eCall fLen (aCons (eVar 1) aNil)) aNil)))))
noncomputable def F__law_of : Fn := nf (fnV 2 (g__law_of))
noncomputable def g__law_simple : EvS :=
    (sSeq (sPar 2 3 (aCons (eDef 2 (F__law_take) (aCons (eVar 0) (aCons (eC (.int 5)) aNil))) (aCons (eDef 2 (F__law_take) (aCons (eVar 0) (aCons (eC (.int 4)) aNil))) aNil)))
    (sSeq (sSet 4 (eCall fTuple (aCons (eLc (iRange1 (aCons (eVar 1) aNil)) (gN 6) tTrue (eDef 2 (F__law_of) (aCons (eVar 0) (aCons (eLst (aCons (eC (.int 0)) (aCons (eC (.int 1)) (aCons (eUn oNeg (eC (.int 1))) (aCons (eC (.int 2)) (aCons (eC (.int 9)) (aCons (eUn oNeg (eC (.int 9))) (aCons (eOp oSub (eDef 2 (F__law_take) (aCons (eVar 0) (aCons (eC (.int 19)) aNil))) (eC (.int 9))) aNil)))))))) aNil))) [6]) aNil)))
    (sSeq (sIf (tVal (eOp oLt (eVar 2) (eC (.int 3)))) (sRet (eTup (aCons (eC (.str "sum")) (aCons (eVar 4) (aCons (eOp oIx (eLst (aCons (eOp oSub (eDef 2 (F__law_take) (aCons (eVar 0) (aCons (eC (.int 9)) aNil))) (eC (.int 4))) (aCons (eOp oSub (eDef 2 (F__law_take) (aCons (eVar 0) (aCons (eC (.int 41)) aNil))) (eC (.int 20))) (aCons (eC (.int 20)) (aCons (eUn oNeg (eC (.int 20))) aNil))))) (eVar 3)) aNil))))) sNil)
    (sSeq (sSet 5 (eOp oAdd (eC (.int 2)) (eDef 2 (F__law_take) (aCons (eVar 0) (aCons (eC (.int 8)) aNil)))))
    (sRet (eTup (aCons (eC (.str "rest")) (aCons (eVar 4) (aCons (eDef 2 (F__law_take) (aCons (eVar 0) (aCons (eVar 5) aNil))) (aCons (eVar 5) aNil))))))))))
noncomputable def F__law_simple : Fn := nf (fnV 7 (g__law_simple))
end Lx
namespace Lx
open PySem PySem.Spec PyProof.Rows L2 Sa Va Pg
open Lw (Upd GoodS norm_upd cm_left cm_right x_pow Upd.refl Upd.trans Upd.set Upd.split ix0 ix2)
def HandX (M : Mem) (h : Nat) (n : Int) : Prop := ∃ a b c : Int, M[h]? = some (.lst [.d (.int a), .d (.int b), .d (.int c)]) /\ 0 <= a /\ 0 <= b /\ b < 2 ^ 62 /\ 0 <= c /\ c <= n
theorem HandX.mono {M : Mem} {h : Nat} {n m : Int} (x : HandX M h n) (le : n <= m) : HandX M h m := let ⟨a, b, c, e, h1, h2, h3, h4, h5⟩ := x; ⟨a, b, c, e, h1, h2, h3, h4, by omega⟩
theorem HandX.lt {M : Mem} {h : Nat} {n : Int} (x : HandX M h n) : h < M.length := let ⟨_, _, _, e, _⟩ := x; (List.getElem?_eq_some_iff.mp e).1
theorem HandX.app {M J : Mem} {h : Nat} {n : Int} (x : HandX M h n) : HandX (M ++ J) h n := let ⟨a, b, c, e, r⟩ := x; ⟨a, b, c, get_old e, r⟩
theorem HandX.unapp {M J : Mem} {h : Nat} {n : Int} (hl : h < M.length) (x : HandX (M ++ J) h n) : HandX M h n := by
  obtain ⟨a, b, c, e, r⟩ := x
  exact ⟨a, b, c, by rw [List.getElem?_append_left hl] at e; exact e, r⟩
theorem HandX.cut {M M1 : Mem} {h : Nat} {n : Int} (hd : HandX M1 h n) (up : Upd h M M1) : Cut M M1 := by
  refine ⟨up.1, fun k mo hk => ?_⟩
  by_cases z : k = h
  · subst z
    obtain ⟨a, b, c, e, _⟩ := hd
    rw [e] at hk
    cases hk
    exact .inr rfl
  · rw [up.2 k z] at hk
    exact .inl hk
theorem HandX.norm {M M1 J : Mem} {h : Nat} {n : Int} {w : W} (hd : HandX M1 h n) (up : Upd h M M1) (d : isD w = true) : norm M (w, M1 ++ J) = (w, M1) := norm_d d (hd.cut up)
theorem HandX.norm0 {M M1 : Mem} {h : Nat} {n : Int} {w : W} (hd : HandX M1 h n) (up : Upd h M M1) (d : isD w = true) : Va.norm M (w, M1) = (w, M1) := by
  have := hd.norm (J := []) up d
  rwa [List.append_nil] at this
/-- a def that draws: at most so many times, and tells what P is so of -/
def DrawsX (F : Fn) (as : Nat -> List W) (cost : Int) (P : W -> Prop) : Prop := ∀ (M : Mem) (h : Nat) (n : Int) (Q : W × Mem -> Prop), HandX M h n -> n + cost < 2 ^ 40 ->
  (∀ w M', P w -> HandX M' h (n + cost) -> Upd h M M' -> Q (w, M')) -> Ok (F (as h) M) Q
theorem DrawsX.app {F : Fn} {as : Nat -> List W} {cost : Int} {P : W -> Prop} (D : DrawsX F as cost P) {M J : Mem} {h : Nat} {n : Int} {Q : W × Mem -> Prop} (hd : HandX M h n) (nb : n + cost < 2 ^ 40)
    (k : ∀ w M', P w -> HandX M' h (n + cost) -> Upd h M M' -> Q (w, M' ++ J)) : Ok (F (as h) (M ++ J)) Q :=
  D _ h n Q hd.app nb fun w M' hp hd' up => by
    obtain ⟨M1, rfl, up1⟩ := up.split hd.lt
    exact k w M1 hp (hd'.unapp (by rw [up1.1]; exact hd.lt)) up1
end Lx
namespace Lx
open PySem PySem.Spec PyProof.Rows L2 Sa Va Pg
open Lw (Upd GoodS norm_upd cm_left cm_right x_pow Upd.refl Upd.trans Upd.set Upd.split ix0 ix2 pow18 cell_ok)
noncomputable def cellE (ns : List Int) : EvE := (eIf (tVal (eOp oLt (eVar 1) (eCall (fLenS ns) (aCons (eVar 0) aNil)))) (eOp (oIxS ns) (eVar 0) (eVar 1)) (eC (.int 0)))
end Lx
namespace Va
open PySem PySem.Spec PyProof.Rows L2 Sa
/-- what is wanted behind the first of two statements: the second one is looked at later -/
def thenQ (b : EvS) (Q : Out -> Prop) : Out -> Prop
  | .nx ρ M => Ok (b ρ M) Q
  | o => Q o
theorem ok_seq {a b : EvS} {ρ : Ev} {M : Mem} {Q : Out -> Prop} : Ok (sSeq a b ρ M) Q ↔ Ok (a ρ M) (thenQ b Q) := by
  have e : sSeq a b ρ M = (a ρ M).bind fun o => match o with | .nx ρ M => b ρ M | o => some o := rfl
  rw [e, ok_bind]
  constructor
  · rintro ⟨x, h1, h2⟩
    refine ⟨x, h1, ?_⟩
    cases x <;> simpa [thenQ] using h2
  · rintro ⟨x, h1, h2⟩
    refine ⟨x, h1, ?_⟩
    cases x <;> simpa [thenQ] using h2
theorem thenQ_nx {b : EvS} {Q : Out -> Prop} {ρ : Ev} {M : Mem} : thenQ b Q (.nx ρ M) = Ok (b ρ M) Q := rfl
section
variable {deps : List (Nat × MO)} {g : EvG} {t : EvT} {e : EvE} {ρ0 : Ev} {M : Mem} {τ : Type}
theorem gx_map (inj f : τ -> W) (hd : Deps deps M) : ∀ (xs : List τ) (acc : List W), acc.length + xs.length <= 1000000 -> (∀ x ∈ xs, ∃ ρ1, g (inj x) ρ0 = some ρ1 /\ t ρ1 M = some (true, M) /\ e ρ1 M = some (f x, M)) ->
    gxL deps g t e ρ0 (xs.map inj) acc M = some (acc ++ xs.map f, M)
  | [], acc, _, _ => by simp [gxL, hd]
  | x :: xs, acc, small, turn => by
    obtain ⟨ρ1, h1, h2, h3⟩ := turn x List.mem_cons_self
    have fits : acc.length < sizeLine := Nat.lt_of_lt_of_le (by simp at small; omega : acc.length < 1000001) (by decide)
    have ih := gx_map inj f hd xs (acc ++ [f x]) (by simp at small ⊢; omega) fun y hy => turn y (List.mem_cons_of_mem _ hy)
    simp [gxL, hd, h1, h2, h3, fits, ih]
end
end Va
namespace Va
open PySem PySem.Spec PyProof.Rows L2 Sa
structure Tame (d : PyData) (D N : Nat) : Prop where
  sh : d.showable = true
  lay : d.canLay0 = true
  dp : d.depth <= D
  wt : d.weight <= N
  sm : d.intsShort 13 = true
theorem Tame.mono {d : PyData} {D N D' N' : Nat} (t : Tame d D N) (h1 : D <= D') (h2 : N <= N') : Tame d D' N' := ⟨t.sh, t.lay, Nat.le_trans t.dp h1, Nat.le_trans t.wt h2, t.sm⟩
theorem small_all : ∀ k : Fin 201, PyData.weight (.int ((k.val : Int) - 100)) <= 50 /\ ((k.val : Int) - 100).natAbs.log2 < 1920 := by decide +kernel
theorem Tame.int {i : Int} (h0 : -100 <= i) (h1 : i <= 100) : Tame (.int i) 0 50 := by
  have q := small_all ⟨(i + 100).toNat, by omega⟩
  have e : (((i + 100).toNat : Nat) : Int) - 100 = i := by omega
  dsimp only at q
  rw [e] at q
  refine ⟨?_, rfl, Nat.le_refl _, q.1, ?_⟩
  · show decide (i.natAbs.log2 < 1920) = true
    exact decide_eq_true q.2
  · show decide ((PyData.shown (.int i)).length <= 13) = true
    exact decide_eq_true (PyData.shown_int_le2 (by omega) (by omega))
theorem Tame.bool (b : Bool) : Tame (.bool b) 0 50 := ⟨rfl, rfl, Nat.le_refl _, by cases b <;> decide +kernel, rfl⟩
theorem Tame.none : Tame .none 0 50 := ⟨rfl, rfl, Nat.le_refl _, by decide +kernel, rfl⟩
theorem Tame.tuple {D N : Nat} : ∀ {ds : List PyData}, (∀ d ∈ ds, Tame d D N) -> Tame (.tuple ds) (D + 1) (ds.length * (N + 1))
  | [], _ => ⟨rfl, rfl, by simp [PyData.depth, PyData.depthAll], by simp [PyData.weight, PyData.weightAll], rfl⟩
  | d :: ds, h => by
    have t := h d List.mem_cons_self
    have r := Tame.tuple (ds := ds) fun x hx => h x (List.mem_cons_of_mem _ hx)
    refine ⟨?_, ?_, ?_, ?_, ?_⟩
    · have := r.sh
      simp only [PyData.showable, PyData.showableAll, Bool.and_eq_true] at this ⊢
      exact ⟨t.sh, this⟩
    · have := r.lay
      simp only [PyData.canLay0, PyData.canLayAll0, Bool.and_eq_true] at this ⊢
      exact ⟨t.lay, this⟩
    · have := r.dp
      have := t.dp
      simp only [PyData.depth, PyData.depthAll] at *
      omega
    · have h1 := r.wt
      have h2 := t.wt
      simp only [PyData.weight, PyData.weightAll, List.length_cons] at *
      rw [Nat.succ_mul]
      omega
    · have := r.sm
      simp only [PyData.intsShort, PyData.intsShortAll, Bool.and_eq_true] at this ⊢
      exact ⟨t.sm, this⟩
theorem Tame.cons {D N D' N' : Nat} {d : PyData} {ds : List PyData} (t : Tame d D N) (r : Tame (.tuple ds) D' N') : Tame (.tuple (d :: ds)) (max (D + 1) D') (N + 1 + N') := by
  refine ⟨?_, ?_, ?_, ?_, ?_⟩
  · have := r.sh
    simp only [PyData.showable, PyData.showableAll, Bool.and_eq_true] at this ⊢
    exact ⟨t.sh, this⟩
  · have := r.lay
    simp only [PyData.canLay0, PyData.canLayAll0, Bool.and_eq_true] at this ⊢
    exact ⟨t.lay, this⟩
  · have := r.dp
    have := t.dp
    simp only [PyData.depth, PyData.depthAll] at *
    omega
  · have h1 := r.wt
    have h2 := t.wt
    simp only [PyData.weight, PyData.weightAll] at *
    omega
  · have := r.sm
    simp only [PyData.intsShort, PyData.intsShortAll, Bool.and_eq_true] at this ⊢
    exact ⟨t.sm, this⟩
theorem Tame.nil : Tame (.tuple []) 1 0 := ⟨rfl, rfl, by simp [PyData.depth, PyData.depthAll], by simp [PyData.weight, PyData.weightAll], rfl⟩
end Va
namespace Pg
open PySem PySem.Spec PyProof.Rows L2 Sa Va
/-- a state that can be shown -/
def ShownS : State -> Prop
  | .mem i xs => (-100 <= i /\ i <= 100) /\ xs.length <= 10 /\ ∀ x ∈ xs, -100 <= x.number /\ x.number <= 100
  | .note ns => ns.length <= 10 /\ ∀ x ∈ ns, -100 <= x.2 /\ x.2 <= 100
end Pg
namespace Va
open PySem PySem.Spec PyProof.Rows L2 Sa
/-- it can be shown: D deep, L signs long at most -/
structure Shw (d : PyData) (D L : Nat) : Prop where
  sh : d.showable = true
  lay : d.canLay0 = true
  dp : d.depth <= D
  ln : d.shown.length <= L
structure ShwA (ds : List PyData) (D L : Nat) : Prop where
  sh : PyData.showableAll ds = true
  lay : PyData.canLayAll0 ds = true
  dp : PyData.depthAll ds <= D
  ln : piled (PyData.shownAll ds) <= L
theorem Shw.mono {d : PyData} {D L D' L' : Nat} (t : Shw d D L) (h1 : D <= D') (h2 : L <= L') : Shw d D' L' := ⟨t.sh, t.lay, Nat.le_trans t.dp h1, Nat.le_trans t.ln h2⟩
theorem ShwA.mono {d : List PyData} {D L D' L' : Nat} (t : ShwA d D L) (h1 : D <= D') (h2 : L <= L') : ShwA d D' L' := ⟨t.sh, t.lay, Nat.le_trans t.dp h1, Nat.le_trans t.ln h2⟩
theorem Shw.int {i : Int} (k : Nat) (hk : 0 < k) (k5 : k <= 500) (h : i.natAbs < 10 ^ k) : Shw (.int i) 0 (k + 1) := by
  have lg : i.natAbs.log2 < 1920 := by
    have : i.natAbs < 2 ^ (1919 + 1) := Nat.lt_of_lt_of_le h (Nat.le_trans (Nat.pow_le_pow_right (by decide) k5) (by decide +kernel))
    by_cases z : i.natAbs = 0
    · rw [z]; decide
    · exact Nat.lt_of_not_le fun q => absurd this (Nat.not_lt.mpr (Nat.le_trans (Nat.pow_le_pow_right (by decide) q) (Nat.log2_self_le z)))
  refine ⟨?_, rfl, Nat.le_refl _, ?_⟩
  · show decide (i.natAbs.log2 < 1920) = true
    exact decide_eq_true lg
  · show (Str.ofString (toString i)).length <= k + 1
    rw [PySem.ofString_length]
    exact int_text_length_le10 hk h
theorem Shw.bool (b : Bool) : Shw (.bool b) 0 5 := ⟨rfl, rfl, Nat.le_refl _, by cases b <;> decide +kernel⟩
theorem Shw.none : Shw .none 0 4 := ⟨rfl, rfl, Nat.le_refl _, by decide +kernel⟩
theorem ShwA.nil : ShwA [] 0 0 := ⟨rfl, rfl, Nat.le_refl _, Nat.le_refl _⟩
theorem ShwA.cons {D L : Nat} {d : PyData} {ds : List PyData} {D' L' : Nat} (t : Shw d D' L') (r : ShwA ds D L) : ShwA (d :: ds) (max D' D) (L' + 2 + L) := by
  refine ⟨?_, ?_, ?_, ?_⟩
  · simp only [PyData.showableAll, t.sh, r.sh, Bool.and_true]
  · simp only [PyData.canLayAll0, t.lay, r.lay, Bool.and_true]
  · simp only [PyData.depthAll]
    have := t.dp; have := r.dp
    omega
  · simp only [PyData.shownAll, piled_cons]
    have := t.ln; have := r.ln
    omega
theorem ShwA.all {D L : Nat} : ∀ {ds : List PyData}, (∀ d ∈ ds, Shw d D L) -> ShwA ds D (ds.length * (L + 2))
  | [], _ => ⟨rfl, rfl, Nat.zero_le _, Nat.zero_le _⟩
  | d :: ds, h => by
    have r := ShwA.all (ds := ds) fun x hx => h x (List.mem_cons_of_mem _ hx)
    exact (r.cons (h d List.mem_cons_self)).mono (by omega) (by simp only [List.length_cons, Nat.add_mul]; omega)
theorem tupleText_len (ts : List Str) : (tupleText ts).length <= piled ts + 3 := by
  unfold tupleText
  rw [strLen_append, strLen_append]
  have e1 : (Str.ofString "(").length = 1 := rfl
  have e2 : ((if ts.length == 1 then ",)" else ")" : String) : Str).length <= 2 := by split <;> decide +kernel
  cases ts with
  | nil => simp only [e1]; show 1 + (Str.join ", " []).length + _ <= _; have : (Str.join ", " []).length = 0 := rfl; omega
  | cons t ts =>
    have := join_length_add (t :: ts) (by simp)
    omega
theorem Shw.tup {ds : List PyData} {D L : Nat} (r : ShwA ds D L) : Shw (.tuple ds) (D + 1) (L + 3) := by
  refine ⟨?_, ?_, ?_, ?_⟩
  · simp only [PyData.showable]; exact r.sh
  · simp only [PyData.canLay0]; exact r.lay
  · simp only [PyData.depth]; have := r.dp; omega
  · simp only [PyData.shown]
    have := tupleText_len (PyData.shownAll ds)
    have := r.ln
    omega
theorem Shw.show {d : PyData} {D L : Nat} (t : Shw d D L) (hD : D <= 60) (hL : L <= 16777216) (ns : ∀ x, d ≠ .str x) : ShowOk d := by
  have nd : d.hasDict = false := PyData.hasDict_of_canLay _ t.lay
  have r : d.showable = true /\ d.hasDict = false /\ d.depth <= 60 /\ d.shown.length <= sizeLine := ⟨t.sh, nd, Nat.le_trans t.dp hD, Nat.le_trans t.ln hL⟩
  cases d with
  | int i => have := t.sh; simpa [PyData.showable, ShowOk] using this
  | str x => exact absurd rfl (ns x)
  | bool b => trivial
  | none => trivial
  | tuple ds => exact r
  | list ds => exact r
  | dict ds => exact r
theorem Shw.shaped {d : PyData} {D L : Nat} (t : Shw d D L) (h : D <= 64) : SeqAt.shaped d = true := by
  unfold SeqAt.shaped
  rw [t.lay, Bool.true_and, decide_eq_true_eq]
  exact Nat.le_trans t.dp h
end Va
namespace Pg
open PySem PySem.Spec PyProof.Rows L2 Sa Va
theorem shw_member : Shw (.str "member") 0 8 := ⟨rfl, by decide +kernel, Nat.le_refl _, by decide +kernel⟩
theorem shw_note : Shw (.str "note") 0 8 := ⟨rfl, by decide +kernel, Nat.le_refl _, by decide +kernel⟩
theorem shw_small {i : Int} (h0 : -100 <= i) (h1 : i <= 100) : Shw (.int i) 0 4 := .int 3 (by decide) (by decide) (by omega)
theorem shw_hold {h : Hold} (h0 : -100 <= h.number) (h1 : h.number <= 100) : Shw (hD h) 1 23 := (Shw.tup (ShwA.nil.cons (Shw.bool h.word) |>.cons (shw_small h0 h1) |>.cons (Shw.bool h.leads))).mono (by decide) (by decide)
theorem shw_nh {h : Bool × Int} (h0 : -100 <= h.2) (h1 : h.2 <= 100) : Shw (nD h) 1 23 := (Shw.tup (ShwA.nil.cons (shw_small h0 h1) |>.cons (Shw.bool h.1))).mono (by decide) (by decide)
theorem shw_state {s : State} (h : ShownS s) : Shw (stD s) 3 300 := by
  cases s with
  | mem i xs =>
    obtain ⟨hi, hl, hx⟩ := h
    have r : ShwA (xs.map hD) 1 250 := (ShwA.all fun d hd => by
      obtain ⟨x, mx, rfl⟩ := List.mem_map.mp hd
      exact shw_hold (hx x mx).1 (hx x mx).2).mono (Nat.le_refl _) (by simp; omega)
    exact (Shw.tup ((ShwA.nil.cons (Shw.tup r)).cons (shw_small hi.1 hi.2) |>.cons shw_member)).mono (by decide) (by decide)
  | note ns =>
    obtain ⟨hl, hx⟩ := h
    have r : ShwA (ns.map nD) 1 250 := (ShwA.all fun d hd => by
      obtain ⟨x, mx, rfl⟩ := List.mem_map.mp hd
      exact shw_nh (hx x mx).1 (hx x mx).2).mono (Nat.le_refl _) (by simp; omega)
    exact (Shw.tup ((ShwA.nil.cons (Shw.tup r)).cons shw_note)).mono (by decide) (by decide)
end Pg
namespace Va
open PySem PySem.Spec PyProof.Rows L2 Sa
theorem deepAll_data (M : Mem) : ∀ (n : Nat) (ds : List PyData), deepAll M n (ds.map W.d) = some ds
  | n, [] => by simp [deepAll]
  | n, d :: ds => by
    have : deepD M n (.d d) = some d := by cases n <;> simp [deepD]
    simp [deepAll, this, deepAll_data M n ds]
theorem deepD_lst {M : Mem} {i : Nat} {ds : List PyData} (h : M[i]? = some (.lst (ds.map W.d))) : deepD M 3 (.obj i) = some (.list ds) := by
  simp [deepD, h, deepAll_data]
theorem neL_nil {M : Mem} {i j : Nat} {ds : List PyData} (hi : M[i]? = some (.lst (ds.map W.d))) (hj : M[j]? = some (.lst [])) (sh : SeqAt.shaped (.list ds) = true) : oNeL (.obj i) (.obj j) M = some (.d (.bool (!ds.isEmpty)), M) := by
  have e2 : deepD M 3 (.obj j) = some (.list []) := deepD_lst (ds := []) hj
  have s2 : SeqAt.shaped (.list []) = true := by decide +kernel
  simp only [oNeL, eqL, deepD_lst hi, e2, Option.bind_some, sh, s2, Bool.and_self, if_true]
  cases ds with
  | nil => simp [PyData.eqv, PyData.eqvAll]
  | cons d ds => simp [PyData.eqv, PyData.eqvAll]
theorem shaped_list {ds : List PyData} {D : Nat} (h : ∀ d ∈ ds, d.canLay0 = true /\ d.depth <= D) (hD : D <= 60) : SeqAt.shaped (.list ds) = true := by
  have a : PyData.canLayAll0 ds = true := by
    induction ds with
    | nil => rfl
    | cons d ds ih => simp only [PyData.canLayAll0, (h d List.mem_cons_self).1, ih fun x hx => h x (List.mem_cons_of_mem _ hx), Bool.and_self]
  have b : PyData.depthAll ds <= D := by
    clear a
    induction ds with
    | nil => exact Nat.zero_le _
    | cons d ds ih =>
      simp only [PyData.depthAll]
      have := (h d List.mem_cons_self).2
      have := ih fun x hx => h x (List.mem_cons_of_mem _ hx)
      omega
  unfold SeqAt.shaped
  refine Bool.and_eq_true_iff.mpr ⟨a, decide_eq_true ?_⟩
  have e : (PyData.list ds).depth = PyData.depthAll ds + 1 := by simp only [PyData.depth]
  omega
@[simp] theorem x_isB {p q : Bool} {M : Mem} : oIsB (.d (.bool p)) (.d (.bool q)) M = some (.d (.bool (decide (p = q))), M) := rfl
@[simp] theorem x_notB {p q : Bool} {M : Mem} : oNotB (.d (.bool p)) (.d (.bool q)) M = some (.d (.bool (!decide (p = q))), M) := rfl
theorem Deps.app {deps : List (Nat × MO)} {M J : Mem} (h : Deps deps M) : Deps deps (M ++ J) := fun p hp => get_old (h p hp)
end Va
namespace Lx
open PySem PySem.Spec PyProof.Rows L2 Sa Va Pg
open Lw (Upd Upd.refl Upd.trans Upd.set Upd.split)
end Lx
namespace Lw
open PySem PySem.Spec PyProof.Rows L2 Sa Va Pg
theorem clamp_in {s n : Int} (h : 1 <= s) : -s <= clampI s n /\ clampI s n <= s := by
  unfold clampI
  split <;> split <;> omega
theorem clamp_off {s n b : Int} (h : 1 <= s) (h0 : -(s + b) <= n) (h1 : n <= s + b) (hb : 0 <= b) : -b <= n - clampI s n /\ n - clampI s n <= b := by
  unfold clampI
  split <;> split <;> omega
/-- states as the law draws them -/
def Drawn (Ss : List Simple) : State -> Prop
  | .mem i xs => (-100 <= i /\ i <= 100) /\ xs.length = Ss.length /\ ∀ t ∈ Ss.zip xs, DrawnH t.1 t.2
  | .note ns => ns.length = Ss.length /\ ∀ t ∈ Ss.zip ns, DrawnN t.1 t.2
section
variable {Ss : List Simple} {kk : Nat}
theorem Drawn.many {s : State} (h : Drawn Ss s) : s.many = Ss.length := by
  cases s with
  | mem i xs => exact h.2.1
  | note ns => exact h.1
theorem zip_right {α β : Type} : ∀ {xs : List α} {ys : List β}, ys.length = xs.length -> ∀ y ∈ ys, ∃ x, (x, y) ∈ xs.zip ys
  | [], [], _, y, h => by simp at h
  | x :: xs, y' :: ys, e, y, h => by
    rcases List.mem_cons.mp h with rfl | h
    · exact ⟨x, by simp⟩
    · obtain ⟨x', hx⟩ := zip_right (by simpa using e) y h
      exact ⟨x', by simp [hx]⟩
  | [], _ :: _, e, _, _ => by simp at e
  | _ :: _, [], e, _, _ => by simp at e
theorem drawnH_num {S : Simple} {x : Hold} (g : GoodS S kk) (hk : 0 < kk) (h : DrawnH S x) : -21 <= x.number /\ x.number <= 21 := by
  have := size_le g hk
  obtain ⟨h1, h2⟩ := h
  exact ⟨by split at h1 <;> omega, by omega⟩
theorem drawnN_num {S : Simple} {x : Bool × Int} (g : GoodS S kk) (hk : 0 < kk) (h : DrawnN S x) : -42 <= x.2 /\ x.2 <= 42 := by
  have := size_le g hk
  obtain ⟨h1, h2⟩ := h
  exact ⟨by split at h1 <;> omega, by split at h2 <;> omega⟩
theorem Drawn.shown (g : ∀ S ∈ Ss, GoodS S kk) (hk : 0 < kk) (few : Ss.length <= 10) {s : State} (h : Drawn Ss s) : ShownS s := by
  cases s with
  | mem i xs =>
    refine ⟨h.1, by rw [h.2.1]; exact few, fun x hx => ?_⟩
    obtain ⟨S, hS⟩ := zip_right h.2.1 x hx
    have := drawnH_num (g S (List.of_mem_zip hS).1) hk (h.2.2 _ hS)
    simp only at this
    omega
  | note ns =>
    refine ⟨by rw [h.1]; exact few, fun x hx => ?_⟩
    obtain ⟨S, hS⟩ := zip_right h.1 x hx
    have := drawnN_num (g S (List.of_mem_zip hS).1) hk (h.2 _ hS)
    simp only at this
    omega
end
/-- a saying and its simple ones, as the law has them -/
structure Said (y : Say) (Ss : List Simple) (kk : Nat) : Prop where
  row : Ss = rowOf y.leaves
  deep : y.deep <= 9
  many : y.leaves.length <= 1000
  good : ∀ S ∈ y.leaves, GoodS S kk
  pos : 0 < kk
  few : kk <= 6
  ten : Ss.length <= 10
theorem nodup_le {α : Type} [DecidableEq α] : ∀ {N ls : List α}, N.Nodup -> (∀ x ∈ N, x ∈ ls) -> N.length <= ls.length
  | [], _, _, _ => by simp
  | x :: N, ls, nd, h => by
    rw [List.nodup_cons] at nd
    have hx := h x List.mem_cons_self
    have := nodup_le (N := N) (ls := ls.erase x) nd.2 fun y hy => (List.mem_erase_of_ne fun z => nd.1 (by rw [<- z]; exact hy)).mpr (h y (List.mem_cons_of_mem _ hy))
    rw [List.length_erase_of_mem hx] at this
    have : 0 < ls.length := List.length_pos_of_mem hx
    simp only [List.length_cons]
    omega
theorem fewS {ls : List Simple} (h : ls.length <= 10) : FewS ls := fun N nd sub => by have := nodup_le nd sub; omega
theorem Said.goodS {y : Say} {Ss : List Simple} {kk : Nat} (sd : Said y Ss kk) : ∀ S ∈ Ss, GoodS S kk := fun S hS => sd.good S (by have := sd.row; rw [this] at hS; exact (rowOf_mem _ S).mp hS)
theorem Said.len {y : Say} {Ss : List Simple} {kk : Nat} (sd : Said y Ss kk) : Ss.length <= 10 := sd.ten
theorem row_ten {ls : List Simple} (h : ls.length <= 10) : (rowOf ls).length <= 10 := Nat.le_trans (nodup_le (rowOf_nodup _) fun S hS => (rowOf_mem _ S).mp hS) h
theorem Said.fewS {y : Say} {Ss : List Simple} {kk : Nat} (sd : Said y Ss kk) : FewS y.leaves := fun N nd sub => by
  have := nodup_le nd fun S hS => (rowOf_mem _ S).mpr (sub S hS)
  rw [<- sd.row] at this
  have := sd.ten
  omega
theorem Said.some {y : Say} {Ss : List Simple} {kk : Nat} (sd : Said y Ss kk) : 0 < Ss.length := by
  have h1 := y.leaves_pos
  obtain ⟨S, hS⟩ : ∃ S, S ∈ y.leaves := by
    cases e : y.leaves with
    | nil => rw [e] at h1; simp at h1
    | cons S r => exact ⟨S, List.mem_cons_self⟩
  have : S ∈ Ss := by rw [sd.row]; exact (rowOf_mem _ S).mpr hS
  exact List.length_pos_of_mem this
theorem rowOf_one (S : Simple) : rowOf [S] = [S] := by
  refine rising_one (row_sorted _) (List.pairwise_singleton _ _) (rowOf_nodup _) (by simp) fun T => ?_
  rw [rowOf_mem]
end Lw
namespace Lx
open PySem PySem.Spec PyProof.Rows L2 Sa Va Pg
open Lw (Upd Upd.refl Upd.trans Upd.set Upd.split GoodS)
def PotAt (M : Mem) (p : Nat) : Prop := ∃ f : Int, M[p]? = some (.pot [(.inr "forms", .int f)])
/-- all but the things at h and p is as it was -/
def Upd2 (h p : Nat) (M M' : Mem) : Prop := M'.length = M.length /\ ∀ i, i ≠ h -> i ≠ p -> M'[i]? = M[i]?
theorem Upd2.refl {h p : Nat} {M : Mem} : Upd2 h p M M := ⟨rfl, fun _ _ _ => rfl⟩
theorem Upd2.trans {h p : Nat} {M M1 M2 : Mem} (a : Upd2 h p M M1) (b : Upd2 h p M1 M2) : Upd2 h p M M2 := ⟨b.1.trans a.1, fun i hi hp => (b.2 i hi hp).trans (a.2 i hi hp)⟩
theorem Upd2.of {h p : Nat} {M M1 : Mem} (a : Upd h M M1) : Upd2 h p M M1 := ⟨a.1, fun i hi _ => a.2 i hi⟩
theorem Upd2.split {h p : Nat} {M J M' : Mem} (hl : h < M.length) (pl : p < M.length) (up : Upd2 h p (M ++ J) M') : ∃ M1, M' = M1 ++ J /\ Upd2 h p M M1 := by
  have l1 : M'.length = M.length + J.length := by rw [up.1]; simp
  have split : M' = M'.take M.length ++ J := by
    refine List.ext_getElem? fun i => ?_
    by_cases hi : i < M.length
    · rw [List.getElem?_append_left (by simp [l1]; omega), List.getElem?_take_of_lt hi]
    · rw [up.2 i (by omega) (by omega), List.getElem?_append_right (by omega), List.getElem?_append_right (by simp [l1]; omega), List.length_take]
      congr 1
      omega
  refine ⟨M'.take M.length, split, by simp [l1], fun i hi hp => ?_⟩
  by_cases h2 : i < M.length
  · rw [List.getElem?_take_of_lt h2, up.2 i hi hp, List.getElem?_append_left h2]
  · rw [List.getElem?_eq_none (by simp [l1]; omega), List.getElem?_eq_none (by omega)]
theorem PotAt.lt {M : Mem} {p : Nat} (x : PotAt M p) : p < M.length := let ⟨_, e⟩ := x; (List.getElem?_eq_some_iff.mp e).1
theorem PotAt.app {M J : Mem} {p : Nat} (x : PotAt M p) : PotAt (M ++ J) p := let ⟨f, e⟩ := x; ⟨f, get_old e⟩
theorem PotAt.unapp {M J : Mem} {p : Nat} (hl : p < M.length) (x : PotAt (M ++ J) p) : PotAt M p := by
  obtain ⟨f, e⟩ := x
  exact ⟨f, by rw [List.getElem?_append_left hl] at e; exact e⟩
end Lx
namespace Va
open PySem PySem.Spec PyProof.Rows L2 Sa
@[simp] theorem addG_int {M : Mem} {p q : Int} : oAddG (.d (.int p)) (.d (.int q)) M = some (.d (.int (p + q)), M) := rfl
end Va
namespace Lx
open PySem PySem.Spec PyProof.Rows L2 Sa Va Pg
open Lw (Upd Upd.refl Upd.trans Upd.set Upd.split)
end Lx
namespace K35
open PySem PySem.Spec PyProof.Rows L2 Sa Va Pg
open Lw (Upd GoodS cm_left cm_right Upd.refl Upd.trans Upd.set Upd.split norm_upd x_pow)
open Lx (HandX HandX.mono HandX.lt HandX.app HandX.unapp HandX.cut HandX.norm HandX.norm0)
section
variable {M : Mem} {h : Nat} {n many : Int}
/-- a def that draws: at most so many times, and tells what P is so of -/
def DrawsY (F : Fn) (as : Nat -> List W) (cost : Int) (P : W -> Prop) : Prop := ∀ (M : Mem) (h : Nat) (n : Int) (Q : W × Mem -> Prop), HandX M h n -> n + cost < 2 ^ 24 ->
  (∀ w M', P w -> HandX M' h (n + cost) -> Upd h M M' -> Q (w, M')) -> Ok (F (as h) M) Q
theorem DrawsY.app {F : Fn} {as : Nat -> List W} {cost : Int} {P : W -> Prop} (D : DrawsY F as cost P) {M J : Mem} {h : Nat} {n : Int} {Q : W × Mem -> Prop} (hd : HandX M h n) (nb : n + cost < 2 ^ 24)
    (k : ∀ w M', P w -> HandX M' h (n + cost) -> Upd h M M' -> Q (w, M' ++ J)) : Ok (F (as h) (M ++ J)) Q :=
  D _ h n Q hd.app nb fun w M' hp hd' up => by
    obtain ⟨M1, rfl, up1⟩ := up.split hd.lt
    exact k w M1 hp (hd'.unapp (by rw [up1.1]; exact hd.lt)) up1
end
end K35
namespace Ls
open PySem PySem.Spec PyProof.Rows L2 Sa Va Pg Lw
/-- who leads and the numbers -/
def bareL : State -> List (Bool × Int)
  | .mem _ xs => xs.map fun h => (h.leads, h.number)
  | .note ns => ns
theorem shaped_of {d : PyData} {D N : Nat} (t : Tame d D N) (h : D <= 64) : SeqAt.shaped d = true := by
  unfold SeqAt.shaped
  rw [t.lay, Bool.true_and, decide_eq_true_eq]
  exact Nat.le_trans t.dp h
end Ls
namespace Ls
open PySem PySem.Spec PyProof.Rows L2 Sa Va Pg Lw
variable {M : Mem}
theorem deepAll_d {τ : Type} (f : τ -> PyData) (n : Nat) : ∀ (xs : List τ), deepAll M n (xs.map fun p => W.d (f p)) = some (xs.map f)
  | [] => by simp [deepAll]
  | x :: xs => by
    have : deepD M n (W.d (f x)) = some (f x) := by cases n <;> simp [deepD]
    simp [deepAll, this, deepAll_d f n xs]
theorem shaped_list {ds : List PyData} : SeqAt.shaped (.list ds) = SeqAt.shaped (.tuple ds) := by
  simp [SeqAt.shaped, PyData.canLay0, PyData.depth]
end Ls
namespace Ls
open PySem PySem.Spec PyProof.Rows L2 Sa Va Pg Lw
/-- what is drawn -/
def SayOk (d sorts : Nat) (w : W) : Prop := ∃ y : Say, w = .d (yD y) /\ y.deep <= d + 1 /\ y.leaves.length <= 2 ^ d /\ ∀ S ∈ y.leaves, GoodS S sorts
end Ls
namespace Ls
open PySem PySem.Spec PyProof.Rows L2 Sa Va Pg Lw
theorem eqvAll_int : ∀ (xs ys : List Int), PyData.eqvAll (xs.map .int) (ys.map .int) = decide (xs = ys)
  | [], [] => by simp [PyData.eqvAll]
  | [], y :: ys => by simp [PyData.eqvAll]
  | x :: xs, [] => by simp [PyData.eqvAll]
  | x :: xs, y :: ys => by
    simp only [List.map_cons, PyData.eqvAll, eqvAll_int xs ys, PyData.eqv]
    by_cases h1 : x = y <;> by_cases h2 : xs = ys <;> simp [h1, h2]
theorem eqv_sD (S T : Simple) : PyData.eqv (sD S) (sD T) = decide (S = T) := by
  cases S with
  | sum ws c =>
    cases T with
    | sum vs d =>
      simp only [sD, wsD, PyData.eqv, PyData.eqvAll, eqvAll_int, Bool.and_true]
      by_cases h1 : ws = vs <;> by_cases h2 : c = d <;> simp [h1, h2]
    | rest vs r m => simp [sD, PyData.eqv, PyData.eqvAll]
  | rest ws r m =>
    cases T with
    | sum vs d => simp [sD, PyData.eqv, PyData.eqvAll]
    | rest vs q k =>
      simp only [sD, wsD, PyData.eqv, PyData.eqvAll, eqvAll_int, Bool.and_true]
      by_cases h1 : ws = vs <;> by_cases h2 : r = q <;> by_cases h3 : m = k <;> simp [h1, h2, h3]
theorem any_sD (F : List Simple) (S : Simple) : ((F.map sD).any fun z => PyData.eqv z (sD S)) = decide (S ∈ F) := by
  induction F with
  | nil => simp
  | cons T F ih =>
    simp only [List.map_cons, List.any_cons, ih, eqv_sD]
    by_cases h1 : T = S
    · simp [h1]
    · have h2 : ¬ S = T := fun z => h1 z.symm
      simp [h1, h2]
theorem tame_sum : Tame (.str "sum") 0 50 := ⟨rfl, by decide +kernel, Nat.le_refl _, by decide +kernel, rfl⟩
theorem tame_rest : Tame (.str "rest") 0 50 := ⟨rfl, by decide +kernel, Nat.le_refl _, by decide +kernel, rfl⟩
theorem tame_sD {S : Simple} {k : Nat} (g : GoodS S k) (h6 : k <= 6) : Tame (sD S) 3 1000 := by
  have tw : Tame (wsD S.ws) 1 400 := by
    refine (Tame.tuple (D := 0) (N := 50) fun d hd => ?_).mono (by decide) (by rw [List.length_map, g.many]; omega)
    obtain ⟨w, hw, rfl⟩ := List.mem_map.mp hd
    have := g.worth w hw
    exact Tame.int (by omega) (by omega)
  cases S with
  | sum ws c =>
    have := g.sum ws c rfl
    exact (tame_sum.cons (tw.cons ((Tame.int (i := c) (by omega) (by omega)).cons .nil))).mono (by decide) (by decide)
  | rest ws r m =>
    have := g.rest ws r m rfl
    exact (tame_rest.cons (tw.cons ((Tame.int (i := r) (by omega) (by omega)).cons ((Tame.int (i := m) (by omega) (by omega)).cons .nil)))).mono (by decide) (by decide)
theorem shaped_sDs {F : List Simple} {k : Nat} (g : ∀ S ∈ F, GoodS S k) (h6 : k <= 6) : SeqAt.shaped (.list (F.map sD)) = true := by
  rw [shaped_list]
  refine shaped_of (D := 4) (N := (F.map sD).length * 1001) (Tame.tuple (D := 3) (N := 1000) fun d hd => ?_) (by decide)
  obtain ⟨S, hS, rfl⟩ := List.mem_map.mp hd
  exact tame_sD (g S hS) h6
/-- put in what isn't there yet -/
def ins (F : List Simple) (S : Simple) : List Simple := if S ∈ F then F else F ++ [S]
variable {M : Mem}
abbrev lstS (F : List Simple) : MO := .lst (F.map fun S => W.d (sD S))
theorem notIn_eq {F : List Simple} {S : Simple} {k i : Nat} (hi : M[i]? = some (lstS F)) (gF : ∀ S ∈ F, GoodS S k) (gS : GoodS S k) (h6 : k <= 6) : oNotInL (.d (sD S)) (.obj i) M = some (.d (.bool (!decide (S ∈ F))), M) := by
  have s1 := shaped_of (tame_sD gS h6) (by decide)
  have s2 := shaped_sDs gF h6
  have e := deepAll_d (M := M) sD 0 F
  have a := any_sD F S
  rw [List.any_map] at a
  simp [oNotInL, inL, hi, e, s1, s2, a]
theorem rep0 {l : Nat} {w : W} (h : M[l]? = some (.lst [w])) : oRep (.obj l) (.d (.int 0)) M = some (.obj M.length, M ++ [.lst []]) := by
  have e : lstAt M (.obj l) = some (l, [w]) := x_lstAt h
  simp only [oRep, e, asI, Option.bind_some]
  rw [if_pos ⟨by decide, by decide, by simp⟩]
  rfl
theorem rep1 {l : Nat} {w : W} (h : M[l]? = some (.lst [w])) : oRep (.obj l) (.d (.int 1)) M = some (.obj M.length, M ++ [.lst [w]]) := by
  have e : lstAt M (.obj l) = some (l, [w]) := x_lstAt h
  simp only [oRep, e, asI, Option.bind_some]
  rw [if_pos ⟨by decide, by decide, by show 1 <= sizeLine; decide⟩]
  rfl
theorem cat_eq {i j : Nat} {us vs : List W} (h1 : M[i]? = some (.lst us)) (h2 : M[j]? = some (.lst vs)) (small : us.length + vs.length <= 2000) : oCat (.obj i) (.obj j) M = some (.obj M.length, M ++ [.lst (us ++ vs)]) := by
  simp only [oCat, x_lstAt h1, x_lstAt h2, Option.bind_some]
  rw [if_pos (Nat.le_trans small (by decide))]
theorem ins_turn {F : List Simple} {S : Simple} {k i : Nat} {y0 z0 : Option W} (hi : M[i]? = some (lstS F)) (gF : ∀ S ∈ F, GoodS S k) (gS : GoodS S k) (h6 : k <= 6) (few : F.length <= 1000) :
    ∃ J i', (sSet 1 (eOp oCat (eVar 1) (eOp oRep (eLst (aCons (eVar 3) aNil)) (eCall fInt (aCons (eOp oNotInL (eVar 3) (eVar 1)) aNil))))) [y0, some (.obj i), z0, some (.d (sD S))] M = some (.nx [y0, some (.obj i'), z0, some (.d (sD S))] (M ++ J)) /\ (M ++ J)[i']? = some (lstS (ins F S)) := by
  have ni := notIn_eq (M := M ++ [.lst [W.d (sD S)]]) (get_old hi) gF gS h6
  have at0 : (M ++ [MO.lst [W.d (sD S)]])[M.length]? = some (.lst [W.d (sD S)]) := by simp
  by_cases h : S ∈ F
  · simp only [h, decide_true, Bool.not_true] at ni
    have r := rep0 at0
    have c := cat_eq (M := M ++ [MO.lst [W.d (sD S)]] ++ [.lst []]) (i := i) (j := M.length + 1) (us := F.map fun S => W.d (sD S)) (vs := []) (get_old (get_old hi)) (by simp) (by simp; omega)
    simp only [List.length_append, List.length_singleton, List.append_assoc, List.cons_append, List.nil_append] at r c
    refine ⟨[MO.lst [W.d (sD S)], .lst [], .lst (F.map fun S => W.d (sD S))], M.length + 2, ?_, ?_⟩
    · simp [ni, r, c]
    · simp [ins, h]
  · simp only [h, decide_false, Bool.not_false] at ni
    have r := rep1 at0
    have c := cat_eq (M := M ++ [MO.lst [W.d (sD S)]] ++ [.lst [W.d (sD S)]]) (i := i) (j := M.length + 1) (us := F.map fun S => W.d (sD S)) (vs := [W.d (sD S)]) (get_old (get_old hi)) (by simp) (by simp; omega)
    simp only [List.length_append, List.length_singleton, List.append_assoc, List.cons_append, List.nil_append] at r c
    refine ⟨[MO.lst [W.d (sD S)], .lst [W.d (sD S)], .lst ((F.map fun S => W.d (sD S)) ++ [W.d (sD S)])], M.length + 2, ?_, ?_⟩
    · simp [ni, r, c]
    · simp [ins, h]
theorem ins_mem (F : List Simple) (S T : Simple) : T ∈ ins F S ↔ T ∈ F ∨ T = S := by
  unfold ins
  split
  · rename_i h
    exact ⟨.inl, fun z => by rcases z with z | z; exact z; rw [z]; exact h⟩
  · simp
theorem ins_nodup {F : List Simple} {S : Simple} (nd : F.Nodup) : (ins F S).Nodup := by
  unfold ins
  split
  · exact nd
  · rename_i h
    rw [List.nodup_append]
    exact ⟨nd, by simp, fun a ha b hb => by simp at hb; rw [hb]; exact fun z => h (by rw [<- z]; exact ha)⟩
theorem ins_len (F : List Simple) (S : Simple) : (ins F S).length <= F.length + 1 := by
  unfold ins
  split <;> simp
/-- a found row, of what ls has -/
structure Found (F ls : List Simple) (k : Nat) : Prop where
  nd : F.Nodup
  mem : ∀ S, S ∈ F ↔ S ∈ ls
  good : ∀ S ∈ F, GoodS S k
  few : F.length <= ls.length
theorem Found.ins {F ls : List Simple} {k : Nat} (f : Found F ls k) {S : Simple} (g : GoodS S k) : Found (ins F S) (ls ++ [S]) k :=
  ⟨ins_nodup f.nd, fun T => by rw [ins_mem, f.mem]; simp, fun T hT => by
    rcases (ins_mem F S T).mp hT with z | z
    · exact f.good T z
    · rw [z]; exact g, by have := ins_len F S; have := f.few; simp; omega⟩
abbrev insB : EvS := sSet 1 (eOp oCat (eVar 1) (eOp oRep (eLst (aCons (eVar 3) aNil)) (eCall fInt (aCons (eOp oNotInL (eVar 3) (eVar 1)) aNil))))
/-- what the inner loop does: M grows, slot 1 holds the found row -/
def InI (y0 z0 : Option W) (M0 : Mem) (ls : List Simple) (k : Nat) (ρ : Ev) (M : Mem) : Prop := ∃ J i w F, M = M0 ++ J /\ ρ = [y0, some (.obj i), z0, w] /\ M[i]? = some (lstS F) /\ Found F ls k
theorem inner {y0 z0 : Option W} {M0 : Mem} {ls Ts : List Simple} {k l : Nat} {ρ : Ev} (h6 : k <= 6) (hl : M0[l]? = some (lstS Ts)) (gT : ∀ S ∈ Ts, GoodS S k) (few : ls.length + Ts.length <= 1000) (h0 : InI y0 z0 M0 ls k ρ M) :
    Ok (forL [(l, .lst (Ts.map fun S => W.d (sD S)))] (gN 3) insB (Ts.map fun S => W.d (sD S)) ρ M) fun o => ∃ ρ' M', o = .nx ρ' M' /\ InI y0 z0 M0 (ls ++ Ts) k ρ' M' := by
  refine Ok.mono (for_ok (items0 := Ts.map fun S => W.d (sD S)) (fun j ρ M => InI y0 z0 M0 (ls ++ Ts.take j) k ρ M) (fun ρ M => InI y0 z0 M0 (ls ++ Ts) k ρ M) (fun _ _ => False) (fun j ρ M _ h => ?_) (fun ρ M h => ?_) (fun j w ρ M hw h => ?_) _ 0 _ _ rfl (Nat.zero_le _) (by simpa using h0)) fun o ho => ?_
  · obtain ⟨J, i, w, F, rfl, _, _, _⟩ := h
    rw [Deps.one]
    exact get_old hl
  · simpa using h
  · rw [List.getElem?_map] at hw
    obtain ⟨S, hS, rfl⟩ := Option.map_eq_some_iff.mp hw
    obtain ⟨J, i, w, F, rfl, rfl, hi, f⟩ := h
    have gS := gT S (List.mem_of_getElem? hS)
    have tl : (Ts.take j).length <= Ts.length := by simp; omega
    have ff := f.few
    simp only [List.length_append] at ff
    obtain ⟨J', i', e, hi'⟩ := ins_turn (y0 := y0) (z0 := z0) hi f.good gS h6 (by omega)
    refine ⟨_, rfl, _, e, J ++ J', i', _, ins F S, by simp, rfl, hi', ?_⟩
    have := f.ins gS
    have tk : ls ++ List.take (j + 1) Ts = ls ++ List.take j Ts ++ [S] := by rw [List.take_succ, hS]; simp
    rw [tk]
    exact this
  · cases o with
    | nx ρ M' => exact ⟨ρ, M', rfl, ho⟩
    | bk ρ M' => exact ho.elim
    | ct ρ M' => exact ho.elim
    | rt w M' => exact ho.elim
end Ls
namespace Ls
open PySem PySem.Spec PyProof.Rows L2 Sa Va Pg Lw
variable {M : Mem}
theorem rowOf_len (ls : List Simple) : (rowOf ls).length <= ls.length := nodup_le (rowOf_nodup _) fun S hS => (rowOf_mem _ S).mp hS
theorem Found.row {F ls ms : List Simple} {k : Nat} (f : Found F (ls ++ rowOf ms) k) : Found F (ls ++ ms) k :=
  ⟨f.nd, fun S => by rw [f.mem]; simp [rowOf_mem], f.good, by have := f.few; have := rowOf_len ms; simp at *; omega⟩
def OutI (y0 : Option W) (M0 : Mem) (ls : List Simple) (k : Nat) (ρ : Ev) (M : Mem) : Prop := ∃ J i v w F, M = M0 ++ J /\ ρ = [y0, some (.obj i), v, w] /\ M[i]? = some (lstS F) /\ Found F ls k
theorem outer {self : Fn} {y0 : Option W} {M0 : Mem} {k : Nat} {ρ : Ev} (h6 : k <= 6) (ys : List Say) (hs : ∀ y ∈ ys, ∀ M, self [.d (yD y)] M = some (.obj M.length, M ++ [lstS (rowOf y.leaves)])) (g : ∀ y ∈ ys, ∀ S ∈ y.leaves, GoodS S k) (few : (ys.flatMap Say.leaves).length <= 500) (h0 : OutI y0 M0 [] k ρ M) :
    Ok (forL [] (gN 2) (sFor (iSeq (eDef 1 self (aCons (eVar 2) aNil))) (gN 3) insB) (ys.map fun y => W.d (yD y)) ρ M) fun o => ∃ ρ' M', o = .nx ρ' M' /\ OutI y0 M0 (ys.flatMap Say.leaves) k ρ' M' := by
  refine Ok.mono (for_ok (items0 := ys.map fun y => W.d (yD y)) (fun j ρ M => OutI y0 M0 ((ys.take j).flatMap Say.leaves) k ρ M) (fun ρ M => OutI y0 M0 (ys.flatMap Say.leaves) k ρ M) (fun _ _ => False) (fun j ρ M _ h => by simp) (fun ρ M h => ?_) (fun j w ρ M hw h => ?_) _ 0 _ _ rfl (Nat.zero_le _) (by simpa using h0)) fun o ho => ?_
  · simpa using h
  · rw [List.getElem?_map] at hw
    obtain ⟨y, hy, rfl⟩ := Option.map_eq_some_iff.mp hw
    have my := List.mem_of_getElem? hy
    obtain ⟨J, i, v, w, F, rfl, rfl, hi, f⟩ := h
    have e := hs y my (M0 ++ J)
    have tk : (ys.take (j + 1)).flatMap Say.leaves = (ys.take j).flatMap Say.leaves ++ y.leaves := by rw [List.take_succ, hy]; simp
    have le : ((ys.take j).flatMap Say.leaves).length + y.leaves.length <= 500 := by
      have : ys = ys.take j ++ y :: ys.drop (j + 1) := by
        obtain ⟨hj, ej⟩ := List.getElem?_eq_some_iff.mp hy
        rw [<- ej, List.getElem_cons_drop, List.take_append_drop]
      rw [this] at few
      simp only [List.flatMap_append, List.flatMap_cons, List.length_append] at few
      omega
    have rl := rowOf_len y.leaves
    have inn := inner (M := (M0 ++ J) ++ [lstS (rowOf y.leaves)]) (y0 := y0) (z0 := some (.d (yD y))) (M0 := (M0 ++ J) ++ [lstS (rowOf y.leaves)]) (ls := (ys.take j).flatMap Say.leaves) (Ts := rowOf y.leaves) (l := (M0 ++ J).length) (ρ := [y0, some (.obj i), some (.d (yD y)), w]) h6 (by simp) (fun S hS => g y my S ((rowOf_mem _ S).mp hS)) (by omega) ⟨[], i, w, F, by simp, rfl, get_old hi, f⟩
    refine ⟨_, rfl, ?_⟩
    have fo : (sFor (iSeq (eDef 1 self (aCons (eVar 2) aNil))) (gN 3) insB) [y0, some (.obj i), some (.d (yD y)), w] (M0 ++ J) = forL [((M0 ++ J).length, .lst ((rowOf y.leaves).map fun S => W.d (sD S)))] (gN 3) insB ((rowOf y.leaves).map fun S => W.d (sD S)) [y0, some (.obj i), some (.d (yD y)), w] ((M0 ++ J) ++ [lstS (rowOf y.leaves)]) := by
      simp only [sFor, iSeq, eDef, aCons, aNil, eVar]
      simp [e]
    show Ok ((sFor (iSeq (eDef 1 self (aCons (eVar 2) aNil))) (gN 3) insB) [y0, some (.obj i), some (.d (yD y)), w] (M0 ++ J)) _
    rw [fo]
    refine Ok.mono inn fun o ⟨ρ', M', eo, J', i', w', F', eM, eρ, hi', f'⟩ => ?_
    subst eo
    show OutI _ _ _ _ _ _
    rw [tk]
    exact ⟨J ++ [lstS (rowOf y.leaves)] ++ J', i', _, w', F', by rw [eM]; simp, eρ, hi', f'.row⟩
  · cases o with
    | nx ρ M' => exact ⟨ρ, M', rfl, ho⟩
    | bk ρ M' => exact ho.elim
    | ct ρ M' => exact ho.elim
    | rt w M' => exact ho.elim
end Ls
namespace Ls
open PySem PySem.Spec PyProof.Rows L2 Sa Va Pg Lw
end Ls
namespace K35
open PySem PySem.Spec PyProof.Rows L2 Sa Va Pg
open Lw (Upd GoodS cm_left cm_right Upd.refl Upd.trans Upd.set Upd.split Said rowOf_one fewS)
open Ls (lstS)
section
variable {M : Mem}
theorem row_len (a : List Simple) : (rowOf a).length <= a.length := Lw.nodup_le (rowOf_nodup a) fun T hT => (rowOf_mem a T).mp hT
theorem sorted_eq {i : Nat} {ls : List Simple} (hi : M[i]? = some (lstS ls)) (few : ls.length <= 10) : fSortSet [.obj i] M = some (.obj M.length, M ++ [lstS (rowOf ls)]) := by
  have s := fSortSet_eq (M := M) (i := i) (ds := ls.map sD) (by rw [List.map_map]; exact x_lstAt hi) (sortsTo (fewS few))
  rw [List.map_map] at s
  exact s
theorem parts_end {self : Fn} {word : Str} (hw : word ∉ [Str.ofString "sum", Str.ofString "rest"]) (ys : List Say) (hs : ∀ y ∈ ys, ∀ M, self [.d (yD y)] M = some (.obj M.length, M ++ [lstS (rowOf y.leaves)])) (few : (ys.flatMap Say.leaves).length <= 10) :
    nf (fnV 3 (g__law_parts self)) [.d (.tuple (.str word :: ys.map yD))] M = some (.obj M.length, M ++ [lstS (rowOf (ys.flatMap Say.leaves))]) := by
  have no : ∀ M : Mem, oInT (.d (.str word)) (.d (.tuple [.str (Str.ofString "sum"), .str (Str.ofString "rest")])) M = some (.d (.bool false), M) := fun M => by
    simp [oInT, strsOf]
    simpa using hw
  have cut : cutG (W.d (.str word) :: ys.map fun y => W.d (yD y)) (some 1) none = ys.map fun y => W.d (yD y) := by
    simp [cutG, HT.sIx]
    exact List.take_of_length_le (by simp)
  have mk : mkTup (ys.map fun y => W.d (yD y)) = _ := mkTup_of' yD ys
  have lp : ∀ (zs : List Say) (F : List Simple) (J : Mem) (v : Option W), (∀ y ∈ zs, ∀ M, self [.d (yD y)] M = some (.obj M.length, M ++ [lstS (rowOf y.leaves)])) -> F.length + (zs.flatMap Say.leaves).length <= 10 -> ∃ v' J', forL [] (gN 2) (sExpr (sExt (eVar 1) (eDef 1 self (aCons (eVar 2) aNil)))) (zs.map fun y => W.d (yD y)) [some (.d (.tuple (.str word :: ys.map yD))), some (.obj M.length), v] (M ++ lstS F :: J)
      = some (.nx [some (.d (.tuple (.str word :: ys.map yD))), some (.obj M.length), v'] (M ++ lstS (F ++ (zs.map fun y => rowOf y.leaves).flatten) :: J')) := by
    intro zs
    induction zs with
    | nil => intro F J v _ _; exact ⟨v, J, by simp [forL]⟩
    | cons z zs ih =>
      intro F J v hz sm
      simp only [List.flatMap_cons, List.length_append] at sm
      have rl := row_len z.leaves
      obtain ⟨v', J', e⟩ := ih (F ++ rowOf z.leaves) (J ++ [lstS (rowOf z.leaves)]) (some (.d (yD z))) (fun y hy => hz y (List.mem_cons_of_mem _ hy)) (by rw [List.length_append]; omega)
      have e0 := hz z List.mem_cons_self (M ++ lstS F :: J)
      refine ⟨v', J', ?_⟩
      have sz : F.length + (rowOf z.leaves).length <= sizeLine := Nat.le_trans (by omega : _ <= 10) (by decide)
      have s1 : ((M ++ lstS F :: J) ++ [lstS (rowOf z.leaves)]).set M.length (.lst ((F.map fun S => W.d (sD S)) ++ (rowOf z.leaves).map fun S => W.d (sD S))) = M ++ lstS (F ++ rowOf z.leaves) :: (J ++ [lstS (rowOf z.leaves)]) := by
        rw [List.append_assoc, List.set_append_right _ _ (Nat.le_refl _)]
        simp [lstS]
      have g1 : ((M ++ lstS F :: J) ++ [lstS (rowOf z.leaves)])[M.length]? = some (lstS F) := by simp
      have g2 : ((M ++ lstS F :: J) ++ [lstS (rowOf z.leaves)])[(M ++ lstS F :: J).length]? = some (lstS (rowOf z.leaves)) := by
        rw [List.getElem?_append_right (Nat.le_refl _)]
        simp
      have b : (sExpr (sExt (eVar 1) (eDef 1 self (aCons (eVar 2) aNil)))) [some (.d (.tuple (.str word :: ys.map yD))), some (.obj M.length), some (.d (yD z))] (M ++ lstS F :: J) = some (.nx [some (.d (.tuple (.str word :: ys.map yD))), some (.obj M.length), some (.d (yD z))] (M ++ lstS (F ++ rowOf z.leaves) :: (J ++ [lstS (rowOf z.leaves)]))) := by
        have l0 : lstAt (M ++ lstS F :: J) (.obj M.length) = some (M.length, F.map fun S => W.d (sD S)) := x_lstAt (by simp)
        have l1 := x_lstAt g1
        have l2 := x_lstAt g2
        generalize (M ++ lstS F :: J) ++ [lstS (rowOf z.leaves)] = N at *
        generalize (M ++ lstS F :: J).length = q at *
        rw [x_expr, x_ext, x_var (show ([some (.d (.tuple (.str word :: ys.map yD))), some (.obj M.length), some (.d (yD z))] : Ev)[1]? = some (some _) from rfl)]
        simp only [Option.bind_some, l0]
        rw [x_def, x_acons, x_var (show ([some (.d (.tuple (.str word :: ys.map yD))), some (.obj M.length), some (.d (yD z))] : Ev)[2]? = some (some _) from rfl)]
        simp only [Option.bind_some, x_anil, List.length_singleton]
        rw [if_pos trivial, e0]
        simp only [Option.bind_some, l1, l2]
        rw [if_pos (by simpa using sz), s1]
        rfl
      have fl : (F ++ ((z :: zs).map fun y => rowOf y.leaves).flatten) = (F ++ rowOf z.leaves) ++ (zs.map fun y => rowOf y.leaves).flatten := by simp
      rw [fl]
      generalize (sExpr (sExt (eVar 1) (eDef 1 self (aCons (eVar 2) aNil)))) = B at b e ⊢
      simp only [List.map_cons, forL]
      rw [if_pos (by simp)]
      simp only [gN, List.set_cons_succ, List.set_cons_zero]
      simp only [Option.bind_some, b, e]
  obtain ⟨v', J', e⟩ := lp ys [] [] none hs (by simpa using few)
  simp only [List.nil_append] at e
  rw [show (M ++ lstS [] :: []) = M ++ [MO.lst []] from rfl] at e
  have fl : ((ys.map fun y => rowOf y.leaves).flatten).length <= 10 := by
    clear e lp hs cut mk
    induction ys with
    | nil => simp
    | cons z zs ih =>
      simp only [List.flatMap_cons, List.length_append, List.map_cons, List.flatten_cons] at few ⊢
      have := row_len z.leaves
      have : ((zs.map fun y => rowOf y.leaves).flatten).length <= (zs.flatMap Say.leaves).length := by
        clear ih few
        induction zs with
        | nil => simp
        | cons w zs ih =>
          simp only [List.flatMap_cons, List.length_append, List.map_cons, List.flatten_cons]
          have := row_len w.leaves
          omega
      omega
  have so := sorted_eq (M := M ++ lstS ((ys.map fun y => rowOf y.leaves).flatten) :: J') (i := M.length) (ls := (ys.map fun y => rowOf y.leaves).flatten) (by simp) fl
  have rw1 : rowOf ((ys.map fun y => rowOf y.leaves).flatten) = rowOf (ys.flatMap Say.leaves) := rowOf_congr fun S => by
    simp only [List.mem_flatten, List.mem_map, List.mem_flatMap]
    constructor
    · rintro ⟨_, ⟨y, hy, rfl⟩, hS⟩
      exact ⟨y, hy, (rowOf_mem _ S).mp hS⟩
    · rintro ⟨y, hy, hS⟩
      exact ⟨_, ⟨y, hy, rfl⟩, (rowOf_mem _ S).mpr hS⟩
  rw [rw1] at so
  simp [nf, fnV, g__law_parts, no, Function.comp_def, cut, mk, e, so]
  have gl : (lstS ((ys.map fun y => rowOf y.leaves).flatten) :: (J' ++ [lstS (rowOf (ys.flatMap Say.leaves))]))[J'.length + 1]? = some (.lst ((rowOf (ys.flatMap Say.leaves)).map fun S => W.d (sD S))) := by simp
  exact norm_l (j := J'.length + 1) gl (all_isD sD _) .refl
theorem parts_eq : ∀ (k : Nat) (y : Say) (M : Mem), y.deep <= k -> y.leaves.length <= 10 -> F__law_parts k [.d (yD y)] M = some (.obj M.length, M ++ [lstS (rowOf y.leaves)])
  | 0, y, M, hd, _ => by cases y <;> simp [Say.deep] at hd
  | k + 1, .one S, M, hd, _ => by
    obtain ⟨ds, e⟩ := Lw.head_word S
    have yes : ∀ M : Mem, oInT (.d (.str (if S.isRest = true then "rest" else "sum"))) (.d (.tuple [.str (Str.ofString "sum"), .str (Str.ofString "rest")])) M = some (.d (.bool true), M) := fun M => by
      cases S.isRest <;> simp [oInT, strsOf]
    have nn := norm_new (M := M) (us := [W.d (sD S)]) (J := []) rfl
    rw [show yD (.one S) = sD S from rfl, show (Say.one S).leaves = [S] from rfl, rowOf_one]
    rw [e] at nn ⊢
    simp [F__law_parts, nf, fnV, g__law_parts, yes, lstS, e]
    simpa using nn
  | k + 1, .no a, M, hd, hl => by
    have ih := fun M => parts_eq k a M (by simp [Say.deep] at hd; omega) hl
    have := parts_end (M := M) (self := F__law_parts k) (word := Str.ofString "not") (by decide +kernel) [a] (fun y hy => by simp at hy; rw [hy]; exact ih) (by simpa [Say.leaves] using hl)
    simpa [F__law_parts, yD, Say.leaves] using this
  | k + 1, .an a b, M, hd, hl => by
    simp only [Say.leaves, List.length_append] at hl
    have ia := fun M => parts_eq k a M (by simp [Say.deep] at hd; omega) (by omega)
    have ib := fun M => parts_eq k b M (by simp [Say.deep] at hd; omega) (by omega)
    have := parts_end (M := M) (self := F__law_parts k) (word := Str.ofString "and") (by decide +kernel) [a, b] (fun y hy => by simp at hy; rcases hy with rfl | rfl; exact ia; exact ib) (by simp; omega)
    simpa [F__law_parts, yD, Say.leaves] using this
  | k + 1, .or a b, M, hd, hl => by
    simp only [Say.leaves, List.length_append] at hl
    have ia := fun M => parts_eq k a M (by simp [Say.deep] at hd; omega) (by omega)
    have ib := fun M => parts_eq k b M (by simp [Say.deep] at hd; omega) (by omega)
    have := parts_end (M := M) (self := F__law_parts k) (word := Str.ofString "or") (by decide +kernel) [a, b] (fun y hy => by simp at hy; rcases hy with rfl | rfl; exact ia; exact ib) (by simp; omega)
    simpa [F__law_parts, yD, Say.leaves] using this
end
end K35
namespace K53
open PySem PySem.Spec PyProof.Rows L2 Sa Va Pg Lw Ls Lx
open Lw (Upd GoodS norm_upd cm_left cm_right x_pow Upd.refl Upd.trans Upd.set Upd.split ix0 ix2)
open Lx (HandX)
section
variable {M : Mem} {h : Nat} {n many : Int}
theorem atI_nat7 {x0 x1 x2 x3 x4 x5 x6 : Int} {j : Int} (h0 : 0 <= j) (h8 : j < 7) (P : Int -> Prop) (p0 : P x0) (p1 : P x1) (p2 : P x2) (p3 : P x3) (p4 : P x4) (p5 : P x5) (p6 : P x6) :
    ∃ p : Int, atI [W.d (.int x0), .d (.int x1), .d (.int x2), .d (.int x3), .d (.int x4), .d (.int x5), .d (.int x6)] j = some (.d (.int p)) /\ P p := by
  have h : j = 0 ∨ j = 1 ∨ j = 2 ∨ j = 3 ∨ j = 4 ∨ j = 5 ∨ j = 6 := by omega
  rcases h with z | z | z | z | z | z | z <;> rw [z]
  · exact ⟨_, atI0, p0⟩
  · exact ⟨_, atI1, p1⟩
  · exact ⟨_, atI2, p2⟩
  · exact ⟨_, atI3, p3⟩
  · exact ⟨_, atI_nat' (k := 4) rfl, p4⟩
  · exact ⟨_, atI_nat' (k := 5) rfl, p5⟩
  · exact ⟨_, atI_nat' (k := 6) rfl, p6⟩
theorem take_b {Q : W × Mem -> Prop} (hd : HandX M h n) (nb : n < 2 ^ 40) (mp : 0 < many) (mb : many < 2 ^ 60)
    (k : ∀ v M', 0 <= v -> v < many -> HandX M' h (n + 1) -> Upd h M M' -> Q (.d (.int v), M')) : Ok (F__law_take [.obj h, .d (.int many)] M) Q := by
  have hl := hd.lt
  obtain ⟨a, b, c, e, a0, b0, b1, c0, c1⟩ := hd
  have post : ∀ x M', HandX M' h (n + 1) -> Upd h M M' -> Q (.d (.int (x % many)), M') := fun x M' => k _ M' (Int.emod_nonneg _ (by omega)) (Int.emod_lt_of_pos _ mp)
  by_cases ha : 0 < a
  · have nu := fun x => norm_upd (M := M) (x := x) (h := h) (ws := [.d (.int (a / many)), .d (.int b), .d (.int c)]) (J := []) rfl
    have dv : ∀ {M : Mem}, oDiv (.d (.int a)) (.d (.int many)) M = some (.d (.int (a / many)), M) := x_divW (wide_div (b := 128) mp (by omega) (by decide) (by decide))
    simp only [List.append_nil] at nu
    simp [F__law_take, nf, fnV, g__law_take, e, ha, mp, dv, x_mod, nu]
    exact post _ _ ⟨a / many, b, c, by rw [List.getElem?_set_self hl], Int.ediv_nonneg a0 (by omega), b0, b1, c0, by omega⟩ .set
  · have t1 : -(2 ^ 64) < c + 1 /\ c + 1 < 2 ^ 64 := by omega
    have ct : ∀ x, CMul x (c + 1) := fun x => cm_right t1
    obtain ⟨P, hP, P0, P1⟩ := atI_nat7 (x0 := 2147483647) (x1 := 2147483629) (x2 := 2147483587) (x3 := 2147483579) (x4 := 2147483563) (x5 := 2147483549) (x6 := 2147483543) (Int.emod_nonneg (c + 1) (b := 7) (by decide)) (Int.emod_lt_of_pos (c + 1) (b := 7) (by decide))
      (fun P => 0 < P /\ P < 2 ^ 62) (by decide) (by decide) (by decide) (by decide) (by decide) (by decide) (by decide)
    have cP : ∀ x y, CMul (x % P) y := fun x y => cm_left (by
      have := Int.emod_nonneg x (Int.ne_of_gt P0)
      have := Int.emod_lt_of_pos x P0
      omega)
    have pw : ∀ {M : Mem}, oPow (.d (.int (b + 7919 * (c + 1)))) (.d (.int 5)) M = some (.d (.int ((b + 7919 * (c + 1)) ^ 5)), M) := x_pow (q := 5) ⟨by decide, by decide, by omega⟩
    have nu := fun x J => norm_upd (M := M) (x := x) (h := h) (ws := [.d (.int a), .d (.int b), .d (.int (c + 1))]) (J := J) rfl
    have gs : (M.set h (.lst [.d (.int a), .d (.int b), .d (.int (c + 1))]))[h]? = some (.lst [.d (.int a), .d (.int b), .d (.int (c + 1))]) := List.getElem?_set_self hl
    have go := fun J => get_old (J := J) gs
    simp [F__law_take, nf, fnV, g__law_take, e, ha, mp, x_div, x_mod, x_mul, gs, go, hP, P0, ct, cP, pw, small_size, nu]
    exact post _ _ ⟨a, b, c + 1, gs, a0, b0, b1, by omega, by omega⟩ .set
theorem of_b {Q : W × Mem -> Prop} {l : Nat} {ws : List W} (hd : HandX M h n) (nb : n < 2 ^ 40) (hl : M[l]? = some (.lst ws)) (ne : l ≠ h) (sz : 0 < ws.length) (sb : ws.length < 100000) (isd : ws.all isD = true)
    (k : ∀ w M', w ∈ ws -> HandX M' h (n + 1) -> Upd h M M' -> Q (w, M')) : Ok (F__law_of [.obj h, .obj l] M) Q := by
  have big : (ws.length : Int) < 2 ^ 60 := by omega
  simp [F__law_of, nf, fnV, g__law_of, hl]
  refine take_b (many := ws.length) hd nb (by omega) big fun v M1 v0 v1 hd1 up => ?_
  have hl1 : M1[l]? = some (.lst ws) := by rw [up.2 l ne]; exact hl
  obtain ⟨j, rfl⟩ : ∃ j : Nat, v = j := ⟨v.toNat, by omega⟩
  have hv : j < ws.length := by omega
  have at1 : atI ws (j : Int) = some (ws[j]) := atI_nat' (by simp)
  have hw : isD (ws[j]) = true := List.all_eq_true.mp isd _ (List.getElem_mem hv)
  simp [hl1, at1, hd1.norm0 up hw]
  exact k _ _ (List.getElem_mem hv) hd1 up
/-- the box of a cell -/
theorem box_x {ns : List Int} {j : Int} {Q : W × Mem -> Prop} (j0 : 0 <= j) (jb : j <= 1000) (q : ∀ a b, 0 <= a -> 0 <= b -> b < 2 ^ 62 -> Q (.obj M.length, M ++ [.lst [.d (.int a), .d (.int b), .d (.int 0)]])) : Ok (F__law_box ns [.scr, .d (.int j)] M) Q := by
  have cells : ∃ cell : Int, ∀ M, Lx.cellE ns [some .scr, some (.d (.int j)), none, none] M = some (.d (.int cell), M) := by
    by_cases hk : j < (ns.length : Int)
    · obtain ⟨v, hv⟩ := cell_ok j0 hk
      exact ⟨v, fun M => by simp [Lx.cellE, hk, hv]⟩
    · exact ⟨0, fun M => by simp [Lx.cellE, hk]⟩
  obtain ⟨cell, hc⟩ := cells
  have ge : g__law_box ns = (sSeq (sSet 2 (Lx.cellE ns))
    (sSeq (sSet 3 (eOp oMod (eOp oMul (eOp oAdd (eOp oAdd (eOp oMod (eVar 2) (eC (.int 2305843009213693951))) (eOp oMul (eC (.int 104729)) (eVar 1))) (eC (.int 7))) (eC (.int 48271))) (eC (.int 2305843009213693921))))
    (sRet (eLst (aCons (eOp oMul (eCall fAbs (aCons (eVar 2) aNil)) (eCall fInt (aCons (eOp oGe (eCall fAbs (aCons (eVar 2) aNil)) (eOp oPow (eC (.int 10)) (eC (.int 18)))) aNil))) (aCons (eVar 3) (aCons (eC (.int 0)) aNil))))))) := rfl
  have abs0 : 0 <= (if cell < 0 then -cell else cell) := by split <;> omega
  generalize hA : (if cell < 0 then -cell else cell) = A at abs0
  have c1 : ∀ x, CMul x 1 := fun x => cm_right (by decide)
  have c0 : ∀ x, CMul x 0 := fun x => cm_right (by decide)
  have ck : CMul 104729 j := cm_left (by decide)
  have c4 : ∀ x, CMul x 48271 := fun x => cm_right (by decide)
  have nm := fun a b : Int => norm_l (M := M) (M1 := M) (j := 0) (us := [.d (.int a), .d (.int b), .d (.int 0)]) (J := [.lst [.d (.int a), .d (.int b), .d (.int 0)]]) rfl rfl .refl
  simp only [Nat.add_zero] at nm
  have b0 := Int.emod_nonneg ((cell % 2305843009213693951 + 104729 * j + 7) * 48271) (b := 2305843009213693921) (by decide)
  have b1 := Int.emod_lt_of_pos ((cell % 2305843009213693951 + 104729 * j + 7) * 48271) (b := 2305843009213693921) (by decide)
  by_cases hb : 1000000000000000000 <= A
  · have := q A _ abs0 b0 (Int.lt_trans b1 (by decide))
    simp [F__law_box, nf, fnV, ge, hc, hA, x_mod, pow18, hb, c1, x_mul, ck, c4, small_size, nm]
    exact this
  · have := q 0 _ (by decide) b0 (Int.lt_trans b1 (by decide))
    simp [F__law_box, nf, fnV, ge, hc, hA, x_mod, pow18, hb, c0, x_mul, ck, c4, small_size, nm]
    exact this
end
end K53
namespace K35
open PySem PySem.Spec PyProof.Rows L2 Sa Va Pg
open Lw (Upd GoodS cm_left cm_right Upd.refl Upd.trans Upd.set Upd.split Said rowOf_one fewS)
open Ls (lstS)
section
variable {y : Hold} {q : Bool × Int}
theorem maxI_cons {xs : List Int} {y : Int} (ne : xs ≠ []) : maxI (y :: xs) = if maxI xs > y then maxI xs else y := by
  obtain ⟨h1, h2⟩ := maxI_top xs ne
  split
  · rename_i z
    refine maxI_one (List.mem_cons_of_mem _ h1) fun q hq => ?_
    rcases List.mem_cons.mp hq with hq | hq
    · rw [hq]; omega
    · exact h2 q hq
  · rename_i z
    refine maxI_one List.mem_cons_self fun q hq => ?_
    rcases List.mem_cons.mp hq with hq | hq
    · rw [hq]; exact Int.le_refl _
    · have := h2 q hq; omega
end
end K35
namespace K31
open PySem PySem.Spec PyProof.Rows L2 Sa Va
noncomputable def g__law_fresh : EvS :=
    (sSeq (sSet 2 (eLst aNil))
    (sSeq (sFor (iSeq (eVar 0)) (gN 3) (sSeq (sSet 4 (eOp oIx (eOp oIx (eVar 3) (eC (.int 1))) (eVar 1)))
    (sSeq (sIf (tVal (eOp oEq (eOp oIx (eVar 3) (eC (.int 0))) (eC (.str "rest")))) (sSet 4 (eOp oMod (eVar 4) (eOp oIx (eVar 3) (eC (.int 3))))) sNil)
    (sExpr (sApp (eVar 2) (eTup (aCons (eC (.bool true)) (aCons (eVar 4) (aCons (eDef 2 (Lw.F__law_says) (aCons (eVar 3) (aCons (eVar 4) aNil))) aNil)))))))))
    (sRet (eTup (aCons (eC (.str "member")) (aCons (eVar 1) (aCons (eCall fTuple (aCons (eVar 2) aNil)) aNil)))))))
noncomputable def F__law_fresh : Fn := nf (fnV 5 (g__law_fresh))
noncomputable def g__law_some : EvS :=
    (sSeq (sSet 2 (eLst aNil))
    (sSeq (sFor (iSeq (eVar 0)) (gT 2 (gsC (gN 3) (gsC (gN 4) gs0))) (sIf (tVal (eCall fAll (aCons (eLc (iSeq (eOp oIx (eVar 3) (eUn oNeg (eC (.int 1))))) (gN 5) tTrue (eOp oEq (eOp oIx (eVar 5) (eC (.int 0))) (eVar 1)) [5]) aNil))) (sExpr (sApp (eVar 2) (eTup (aCons (eVar 3) (aCons (eVar 4) aNil))))) sNil))
    (sRet (eCall fTuple (aCons (eVar 2) aNil)))))
noncomputable def F__law_some : Fn := nf (fnV 6 (g__law_some))
noncomputable def g_lead_weight : EvS :=
    (sRet (eIf (tVal (eOp oEq (eOp oIx (eVar 0) (eC (.int 0))) (eC (.str "rest")))) (eC (.int 1)) (eOp oAdd (eC (.int 1)) (eDef 1 (Pg.F_size_of) (aCons (eVar 0) aNil)))))
noncomputable def F_lead_weight : Fn := nf (fnV 1 (g_lead_weight))
noncomputable def g_number_weight : EvS :=
    (sSeq (sIf (tVal (eOp oEq (eOp oIx (eVar 0) (eC (.int 0))) (eC (.str "rest")))) (sRet (eIf (tVal (eOp oEq (eVar 1) (eC (.int 0)))) (eC (.int 0)) (eC (.int 1)))) sNil)
    (sRet (eCall fAbs (aCons (eVar 1) aNil))))
noncomputable def F_number_weight : Fn := nf (fnV 2 (g_number_weight))
noncomputable def g_note_weight : EvS :=
    (sRet (eOp oAdd (eIf (tVal (eOp oIx (eVar 1) (eC (.int 0)))) (eC (.int 1)) (eC (.int 0))) (eOp oMul (eC (.int 2)) (eDef 2 (F_number_weight) (aCons (eVar 0) (aCons (eOp oIx (eVar 1) (eC (.int 1))) aNil))))))
noncomputable def F_note_weight : Fn := nf (fnV 2 (g_note_weight))
noncomputable def g_member_weight : EvS :=
    (sRet (eIf (tVal (eOp oIx (eVar 1) (eC (.int 0)))) (eC (.int 0)) (eDef 2 (F_number_weight) (aCons (eVar 0) (aCons (eOp oIx (eVar 1) (eC (.int 1))) aNil)))))
noncomputable def F_member_weight : Fn := nf (fnV 2 (g_member_weight))
noncomputable def g_measure_at : EvS :=
    (sSeq (sSet 3 (eC (.int 0)))
    (sSeq (sSet 4 (eC (.int 0)))
    (sSeq (sFor (iSeq (eVar 2)) (gT 2 (gsC (gN 5) (gsC (gN 6) gs0))) (sSeq (sSet 7 (eOp oIx (eOp oIx (eVar 5) (eUn oNeg (eC (.int 1)))) (eVar 1)))
    (sSeq (sIf (tVal (eOp oIx (eVar 7) (eC (.int 0)))) (sAug (fun i j => i + j) 3 (eVar 6)) sNil)
    (sAug (fun i j => i + j) 4 (eOp oMul (eVar 6) (eIf (tVal (eDef 1 (Pg.F_is_note) (aCons (eVar 5) aNil))) (eDef 2 (F_note_weight) (aCons (eVar 0) (aCons (eVar 7) aNil))) (eDef 2 (F_member_weight) (aCons (eVar 0) (aCons (eVar 7) aNil)))))))))
    (sRet (eOp oAdd (eOp oMul (eDef 1 (F_lead_weight) (aCons (eVar 0) aNil)) (eCall fMax2 (aCons (eC (.int 0)) (aCons (eOp oSub (eVar 3) (eC (.int 1))) aNil)))) (eVar 4))))))
noncomputable def F_measure_at : Fn := nf (fnV 8 (g_measure_at))
noncomputable def g_measures : EvS :=
    (sRet (eTupX (iEnumW (aCons (eDef 1 (Pg.F_simples) (aCons (eVar 0) aNil)) aNil)) (gT 2 (gsC (gN 2) (gsC (gN 3) gs0))) tTrue (eDef 3 (F_measure_at) (aCons (eVar 3) (aCons (eVar 2) (aCons (eVar 1) aNil)))) [2, 3]))
noncomputable def F_measures : Fn := nf (fnV 4 (g_measures))
noncomputable def g_measure : EvS :=
    (sRet (eCall fSumT (aCons (eDef 2 (F_measures) (aCons (eVar 0) (aCons (eVar 1) aNil))) aNil)))
noncomputable def F_measure : Fn := nf (fnV 2 (g_measure))
noncomputable def g__law_measure : EvS :=
    (sSeq (sAsg (eTup (aCons (eC (.int 0)) (aCons (eC (.int 0)) aNil))) (gT 2 (gsC (gN 3) (gsC (gN 4) gs0))))
    (sSeq (sFor (iSeq (eVar 2)) (gT 2 (gsC (gN 5) (gsC (gN 6) gs0))) (sSeq (sSet 7 (eOp oIx (eOp oIx (eVar 5) (eUn oNeg (eC (.int 1)))) (eVar 1)))
    (sSeq (sSet 8 (eIf (tVal (eOp oEq (eOp oIx (eVar 0) (eC (.int 0))) (eC (.str "sum")))) (eCall fAbs (aCons (eOp oIx (eVar 7) (eC (.int 1))) aNil)) (eCall fInt (aCons (eOp oNe (eOp oIx (eVar 7) (eC (.int 1))) (eC (.int 0))) aNil))))
    (sSeq (sSet 3 (eOp oAdd (eVar 3) (eOp oMul (eVar 6) (eCall fInt (aCons (eOp oIx (eVar 7) (eC (.int 0))) aNil)))))
    (sIf (tVal (eOp oEq (eOp oIx (eVar 5) (eC (.int 0))) (eC (.str "note")))) (sSeq (sSet 4 (eOp oAdd (eVar 4) (eOp oMul (eVar 6) (eCall fInt (aCons (eOp oIx (eVar 7) (eC (.int 0))) aNil)))))
    (sSet 4 (eOp oAdd (eVar 4) (eOp oMul (eOp oMul (eC (.int 2)) (eVar 6)) (eVar 8))))) (sIf (tNotE (tVal (eOp oIx (eVar 7) (eC (.int 0))))) (sSet 4 (eOp oAdd (eVar 4) (eOp oMul (eVar 6) (eVar 8)))) sNil))))))
    (sSeq (sIf (tVal (eOp oEq (eVar 3) (eC (.int 0)))) (sRet (eVar 4)) sNil)
    (sSeq (sSet 9 (eIf (tVal (eOp oEq (eOp oIx (eVar 0) (eC (.int 0))) (eC (.str "rest")))) (eC (.int 1)) (eOp oAdd (eC (.int 1)) (eDef 1 (Lw.F__law_size) (aCons (eVar 0) aNil)))))
    (sRet (eOp oAdd (eVar 4) (eOp oMul (eOp oSub (eVar 3) (eC (.int 1))) (eVar 9))))))))
noncomputable def F__law_measure : Fn := nf (fnV 10 (g__law_measure))
noncomputable def g__law_is_right : EvS :=
    (sSeq (sPar 3 4 (aCons (eCall fRep (aCons (eVar 2) aNil)) (aCons (eLc (iEnumW (aCons (eVar 1) aNil)) (gT 2 (gsC (gN 5) (gsC (gN 6) gs0))) tTrue (eDef 3 (F__law_measure) (aCons (eVar 6) (aCons (eVar 5) (aCons (eVar 2) aNil)))) [5, 6]) aNil)))
    (sSeq (sIf (tVal (eOp oNe (eCall fRep (aCons (eLst (aCons (eDef 2 (F_measures) (aCons (eVar 0) (aCons (eVar 2) aNil))) (aCons (eDef 2 (F_measure) (aCons (eVar 0) (aCons (eVar 2) aNil))) aNil))) aNil)) (eCall fRep (aCons (eLst (aCons (eCall fTuple (aCons (eVar 4) aNil)) (aCons (eCall fSum (aCons (eVar 4) aNil)) aNil))) aNil)))) (sRet (eC (.bool false))) sNil)
    (sRet (eOp oEq (eCall fRep (aCons (eVar 2) aNil)) (eVar 3)))))
noncomputable def F__law_is_right : Fn := nf (fnV 7 (g__law_is_right))
noncomputable def g__law_drawn_bag : EvS :=
    (sSeq (sSet 5 eDict0)
    (sSeq (sFor (iRange1 (aCons (eDef 2 (Lw.F__law_take) (aCons (eVar 0) (aCons (eOp oAdd (eVar 3) (eC (.int 1))) aNil))) aNil)) (gN 6) (sSeq (sSet 7 (eDef 3 (Lw.F__law_member) (aCons (eVar 0) (aCons (eVar 1) (aCons (eDef 2 (Lw.F__law_take) (aCons (eVar 0) (aCons (eVar 2) aNil))) aNil)))))
    (sSeq (sSet 8 (eIf (tVal (eOp oEq (eDef 2 (Lw.F__law_take) (aCons (eVar 0) (aCons (eC (.int 3)) aNil))) (eC (.int 0)))) (eDef 2 (Lw.F__law_note) (aCons (eVar 0) (aCons (eVar 1) aNil))) (eVar 7)))
    (sPutD (eOp oAdd (eC (.int 1)) (eDef 2 (Lw.F__law_of) (aCons (eVar 0) (aCons (eLst (aCons (eC (.int 0)) (aCons (eC (.int 0)) (aCons (eC (.int 1)) (aCons (eC (.int 2)) (aCons (eDef 2 (Lw.F__law_take) (aCons (eVar 0) (aCons (eOp oSub (eVar 4) (eC (.int 1))) aNil))) (aCons (eOp oSub (eVar 4) (eC (.int 2))) aNil))))))) aNil)))) (eVar 5) (eVar 8)))))
    (sRet (eVar 5))))
noncomputable def F__law_drawn_bag : Fn := nf (fnV 9 (g__law_drawn_bag))
noncomputable def g_law (ns : List Int) : EvS :=
    (sSeq (sFor (iRange1 (aCons (eCall fMax2 (aCons (eC (.int 1)) (aCons (eCall fMin2 (aCons (eC (.int 3)) (aCons (eCall (fLenS ns) (aCons (eVar 0) aNil)) aNil))) aNil))) aNil)) (gN 1) (sSeq (sSet 2 (eDef 2 (Lw.F__law_hand ns) (aCons (eVar 0) (aCons (eVar 1) aNil))))
    (sSeq (sSet 3 (eOp oAdd (eC (.int 1)) (eDef 2 (Lw.F__law_take) (aCons (eVar 2) (aCons (eC (.int 6)) aNil)))))
    (sSeq (sSet 4 (eDef 3 (Ls.F__law_saying 4) (aCons (eVar 2) (aCons (eVar 3) (aCons (eC (.int 3)) aNil)))))
    (sSeq (sSet 5 (eDef 1 (Ls.F__law_singles 4) (aCons (eVar 4) aNil)))
    (sSeq (sSet 6 (eTup (aCons (eTup (aCons (eDef 2 (F__law_fresh) (aCons (eVar 5) (aCons (eDef 2 (Lw.F__law_take) (aCons (eVar 2) (aCons (eVar 3) aNil))) aNil))) (aCons (eC (.int 1)) aNil))) aNil)))
    (sSeq (sIf (tOrE (tVal (eOp oNe (eCall fRep (aCons (eDef 2 (F_measures) (aCons (eVar 4) (aCons (eVar 6) aNil))) aNil)) (eCall fRep (aCons (eOp oRepT (eTup (aCons (eC (.int 0)) aNil)) (eCall fLen (aCons (eVar 5) aNil))) aNil)))) (tVal (eOp oNe (eCall fRep (aCons (eDef 2 (F_measure) (aCons (eVar 4) (aCons (eTup aNil) aNil))) aNil)) (eC (.str "0"))))) (sRet (eC (.bool false))) sNil)
    (sFor (iRange1 (aCons (eC (.int 8)) aNil)) (gN 7) (sSeq (sSet 8 (eCall fTuple (aCons (eSortIt (eDef 5 (F__law_drawn_bag) (aCons (eVar 2) (aCons (eVar 5) (aCons (eVar 3) (aCons (eC (.int 8)) (aCons (eOp oPow (eC (.int 10)) (eC (.int 30))) aNil))))))) aNil)))
    (sSeq (sSet 9 (eCall fTuple (aCons (eLc (iSeq (eVar 8)) (gN 11) (tVal (eOp oEq (eOp oIx (eOp oIx (eVar 11) (eC (.int 0))) (eC (.int 0))) (eC (.str "note")))) (eVar 11) [11]) aNil)))
    (sFor (iSeq (eTup (aCons (eVar 8) (aCons (eVar 9) (aCons (eDef 2 (F__law_some) (aCons (eVar 8) (aCons (eC (.bool true)) aNil))) (aCons (eDef 2 (F__law_some) (aCons (eVar 8) (aCons (eC (.bool false)) aNil))) (aCons (eTup aNil) aNil))))))) (gN 10) (sIf (tNotE (tVal (eDef 3 (F__law_is_right) (aCons (eVar 4) (aCons (eVar 5) (aCons (eVar 10) aNil)))))) (sRet (eC (.bool false))) sNil))))))))))))
    (sRet (eC (.bool true))))
noncomputable def F_law (ns : List Int) : Fn := nf (fnV 12 (g_law ns))
end K31
namespace Lw
open PySem PySem.Spec PyProof.Rows L2 Sa Va Pg
/-- what stood below stays, but for the hand h -/
def Ext (h : Nat) (M M' : Mem) : Prop := M.length <= M'.length /\ ∀ i, i < M.length -> i ≠ h -> M'[i]? = M[i]?
theorem Ext.refl {h : Nat} {M : Mem} : Ext h M M := ⟨Nat.le_refl _, fun _ _ _ => rfl⟩
theorem Ext.trans {h : Nat} {M M1 M2 : Mem} (a : Ext h M M1) (b : Ext h M1 M2) : Ext h M M2 := ⟨Nat.le_trans a.1 b.1, fun i hi ne => (b.2 i (Nat.lt_of_lt_of_le hi a.1) ne).trans (a.2 i hi ne)⟩
theorem Upd.ext {h : Nat} {M M' : Mem} (u : Upd h M M') : Ext h M M' := ⟨Nat.le_of_eq u.1.symm, fun i _ ne => u.2 i ne⟩
theorem Ext.app {h : Nat} {M M' J : Mem} (e : Ext h M M') : Ext h M (M' ++ J) := ⟨by have := e.1; simp; omega, fun i hi ne => by rw [List.getElem?_append_left (Nat.lt_of_lt_of_le hi e.1)]; exact e.2 i hi ne⟩
theorem Ext.new {h : Nat} {M J : Mem} : Ext h M (M ++ J) := Ext.refl.app
theorem Ext.set {h i : Nat} {M M' : Mem} {x : MO} (e : Ext h M M') (hi : M.length <= i) : Ext h M (M'.set i x) := ⟨by simpa using e.1, fun j hj ne => by rw [List.getElem?_set_ne (by omega)]; exact e.2 j hj ne⟩
theorem Ext.at {h l : Nat} {M M' : Mem} {x : MO} (e : Ext h M M') (hl : M[l]? = some x) (ne : l ≠ h) : M'[l]? = some x := by rw [e.2 l (List.getElem?_eq_some_iff.mp hl).1 ne]; exact hl
/-- what a def leaves behind is forgotten -/
theorem Ext.norm {h : Nat} {M M' : Mem} {n : Int} {w : W} (e : Ext h M M') (hd : HandAt M' h n) (hl : h < M.length) (d : isD w = true) : ∃ M1, Va.norm M (w, M') = (w, M1) /\ HandAt M1 h n /\ Upd h M M1 := by
  have eq : M' = M'.take M.length ++ M'.drop M.length := (List.take_append_drop _ _).symm
  have len : (M'.take M.length).length = M.length := by rw [List.length_take]; have := e.1; omega
  have up : Upd h M (M'.take M.length) := ⟨len, fun i ne => by
    by_cases hi : i < M.length
    · rw [List.getElem?_take_of_lt hi]
      exact e.2 i hi ne
    · rw [List.getElem?_eq_none (by omega), List.getElem?_eq_none (by omega)]⟩
  have hd1 : HandAt (M'.take M.length) h n := by
    rw [eq] at hd
    exact hd.unapp (by omega)
  refine ⟨M'.take M.length, ?_, hd1, up⟩
  rw [eq]
  simp only [List.take_append_drop]
  conv => lhs; rw [eq]
  exact hd1.norm up d
theorem HandAt.set {h i : Nat} {M : Mem} {n : Int} {x : MO} (hd : HandAt M h n) (ne : i ≠ h) : HandAt (M.set i x) h n := by
  obtain ⟨a, b, c, e, r⟩ := hd
  exact ⟨a, b, c, by rw [List.getElem?_set_ne ne]; exact e, r⟩
end Lw
namespace K31
open PySem PySem.Spec PyProof.Rows L2 Sa Va Pg Lw Ls
abbrev Row := State × Int
/-- what is borne at a place -/
def at_ (s : State) (j : Nat) : Bool × Int := (bareL s).getD j (false, 0)
section
variable {s : State} {j : Nat}
theorem at_small (h : ShownS s) : -100 <= (at_ s j).2 /\ (at_ s j).2 <= 100 := by
  unfold at_
  by_cases hj : j < (bareL s).length
  · rw [show (bareL s).getD j (false, 0) = (bareL s)[j] by simp [List.getD, hj]]
    have m := List.getElem_mem hj
    generalize (bareL s)[j] = p at m
    cases s with
    | mem i xs =>
      obtain ⟨x, mx, rfl⟩ := List.mem_map.mp m
      exact h.2.2 x mx
    | note ns => exact h.2 p m
  · rw [show (bareL s).getD j (false, 0) = (false, 0) by simp [List.getD, List.getElem?_eq_none (Nat.le_of_not_lt hj)]]
    decide
end
end K31
namespace K31
open PySem PySem.Spec PyProof.Rows L2 Sa Va Pg Lw Ls
structure RowOk (Ss : List Simple) (kk : Nat) (p : Row) : Prop where
  dr : Drawn Ss p.1
  lo : 1 <= p.2
  hi : p.2 <= 10 ^ 30
  srt : ∀ i xs, p.1 = .mem i xs -> 0 <= i /\ i < kk
section
variable {y : Say} {Ss : List Simple} {kk : Nat} {j : Nat}
theorem RowOk.small {p : Row} (sd : Said y Ss kk) (r : RowOk Ss kk p) (j : Nat) : -100 <= (at_ p.1 j).2 /\ (at_ p.1 j).2 <= 100 := at_small (r.dr.shown sd.goodS sd.pos sd.len)
end
end K31
namespace K31
open PySem PySem.Spec PyProof.Rows L2 Sa Va Pg Lw Ls
def nb (t : Simple × Nat) : PyData := .tuple [.int (t.2 : Int), sD t.1]
section
noncomputable def L1 : EvS := (sSeq (sSet 7 (eOp oIx (eOp oIx (eVar 5) (eUn oNeg (eC (.int 1)))) (eVar 1)))
    (sSeq (sSet 8 (eIf (tVal (eOp oEq (eOp oIx (eVar 0) (eC (.int 0))) (eC (.str "sum")))) (eCall fAbs (aCons (eOp oIx (eVar 7) (eC (.int 1))) aNil)) (eCall fInt (aCons (eOp oNe (eOp oIx (eVar 7) (eC (.int 1))) (eC (.int 0))) aNil))))
    (sSeq (sSet 3 (eOp oAdd (eVar 3) (eOp oMul (eVar 6) (eCall fInt (aCons (eOp oIx (eVar 7) (eC (.int 0))) aNil)))))
    (sIf (tVal (eOp oEq (eOp oIx (eVar 5) (eC (.int 0))) (eC (.str "note")))) (sSeq (sSet 4 (eOp oAdd (eVar 4) (eOp oMul (eVar 6) (eCall fInt (aCons (eOp oIx (eVar 7) (eC (.int 0))) aNil)))))
    (sSet 4 (eOp oAdd (eVar 4) (eOp oMul (eOp oMul (eC (.int 2)) (eVar 6)) (eVar 8))))) (sIf (tNotE (tVal (eOp oIx (eVar 7) (eC (.int 0))))) (sSet 4 (eOp oAdd (eVar 4) (eOp oMul (eVar 6) (eVar 8)))) sNil)))))
end
end K31
namespace K31
open PySem PySem.Spec PyProof.Rows L2 Sa Va Pg Lw Ls
end K31
namespace K31
open PySem PySem.Spec PyProof.Rows L2 Sa Va Pg Lw Ls
/-- what a fresh member bears -/
def freshN (i : Nat) (S : Simple) : Int := match S with
  | .sum ws c => ws.getD i 0
  | .rest ws r m => ws.getD i 0 % m
def freshH (i : Nat) (S : Simple) : Hold := ⟨true, freshN i S, saysL S (freshN i S)⟩
def freshS (Ss : List Simple) (i : Nat) : State := .mem i (Ss.map (freshH i))
noncomputable def FB : EvS := (sSeq (sSet 4 (eOp oIx (eOp oIx (eVar 3) (eC (.int 1))) (eVar 1)))
    (sSeq (sIf (tVal (eOp oEq (eOp oIx (eVar 3) (eC (.int 0))) (eC (.str "rest")))) (sSet 4 (eOp oMod (eVar 4) (eOp oIx (eVar 3) (eC (.int 3))))) sNil)
    (sExpr (sApp (eVar 2) (eTup (aCons (eC (.bool true)) (aCons (eVar 4) (aCons (eDef 2 (Lw.F__law_says) (aCons (eVar 3) (aCons (eVar 4) aNil))) aNil))))))))
theorem g_fresh_eq : g__law_fresh = (sSeq (sSet 2 (eLst aNil))
    (sSeq (sFor (iSeq (eVar 0)) (gN 3) FB)
    (sRet (eTup (aCons (eC (.str "member")) (aCons (eVar 1) (aCons (eCall fTuple (aCons (eVar 2) aNil)) aNil))))))) := rfl
section
variable {y : Say} {Ss : List Simple} {kk i : Nat} {S : Simple}
theorem max_ge {ns : List Int} {n : Int} (h : n ∈ ns) : n <= maxI ns := (maxI_top ns (by intro z; rw [z] at h; cases h)).2 n h
theorem fresh_drawn (sd : Said y Ss kk) (hi : i < kk) : Drawn Ss (freshS Ss i) := by
  have k6 := sd.few
  refine ⟨⟨by omega, by omega⟩, by simp, fun t ht => ?_⟩
  obtain ⟨S, x⟩ := t
  have ms := List.of_mem_zip ht
  obtain ⟨n, hn, e1⟩ := List.mem_iff_getElem.mp ht
  simp at e1
  obtain ⟨rfl, rfl⟩ := e1
  have g := sd.goodS _ ms.1
  have ln := g.many
  have hn' : n < Ss.length := by simpa using hn
  generalize Ss[n]'hn' = S at g ln
  show (if S.isRest = true then 0 else -sizeM S) <= freshN i S /\ freshN i S <= sizeM S
  cases S with
  | sum ws c =>
    have ln : ws.length = kk := ln
    have e : freshN i (.sum ws c) = ws[i] := by simp [freshN, List.getD, ln, hi]
    have m : ws[i] ∈ ws := List.getElem_mem _
    have t := max_ge (List.mem_map_of_mem (f := absI) m)
    have z : maxI (ws.map absI) <= sizeM (.sum ws c) := by
      show _ <= (if maxI (ws.map absI) > 1 + absI c then maxI (ws.map absI) else 1 + absI c)
      split <;> omega
    rw [e]
    generalize sizeM (.sum ws c) = s at z
    generalize ws[i] = w at t
    have a : (Simple.sum ws c).isRest = false := rfl
    rw [a]
    simp only [Bool.false_eq_true, if_false]
    have t := Int.le_trans t z
    unfold absI at t
    split at t <;> omega
  | rest ws r m =>
    have h := g.rest ws r m rfl
    have e : freshN i (.rest ws r m) = ws.getD i 0 % m := rfl
    have s : sizeM (.rest ws r m) = m - 1 := rfl
    have a : (Simple.rest ws r m).isRest = true := rfl
    rw [e, s, a]
    have h1 := Int.emod_nonneg (ws.getD i 0) (show m ≠ 0 by omega)
    have h2 := Int.emod_lt_of_pos (ws.getD i 0) (show 0 < m by omega)
    simp only [if_true]
    omega
end
end K31
namespace K53
open PySem PySem.Spec PyProof.Rows L2 Sa Va Pg
open Lw (Upd GoodS cm_left cm_right Said)
open Ls (lstS)
open K31 (freshH freshN)
section
variable {M : Mem} {h l kk i : Nat} {n m many : Int} {S : Simple} {Ss : List Simple} {x y : Hold} {xs ys : List Hold}
theorem holds_eq : F__law_holds [.d (sD S), .d (.int n)] M = some (.d (.bool (saysM S n)), M) := by
  have nrs : ¬ (Str.ofString "rest" = Str.ofString "sum") := by decide +kernel
  cases S with
  | sum ws c => simp [F__law_holds, nf, fnV, g__law_holds, sD, saysM]
  | rest ws r m => simp [F__law_holds, nf, fnV, g__law_holds, sD, nrs, saysM]
theorem parted_eq (g : GoodS S kk) (hk : 0 < kk) : F__law_parted [.d (sD S), .d (.int n)] M = some (.d (.tuple [.int (cutM S n).1, .int (cutM S n).2]), M) := by
  have h := g.wf hk
  have k6 := g.few
  have small : S.ws.length <= 1000 := by rw [g.many]; omega
  cases S with
  | sum ws c =>
    have ne : ws ≠ [] := h.some
    have sm : ws.length <= 1000 := small
    have e : ∀ (M : Mem) (ρ0 : Ev), ρ0.length = 5 -> lcL [] (gN 4) tTrue (eCall fAbs (aCons (eVar 4) aNil)) ρ0 M.length (ws.map fun w => .d (.int w)) (M ++ [.lst []]) = some (M ++ [.lst (ws.map fun w => .d (.int (absI w)))]) := by
      intro M ρ0 hρ
      refine lc_map _ _ _ (fun _ => by simp) (by omega) fun t ht => ?_
      match ρ0, hρ with
      | [r0, r1, r2, r3, r4], _ => exact ⟨_, by simp; rfl, fun acc => by simp⟩
    have e := fun ρ0 hρ => e (M ++ [.lst [W.d (.int (absI c + 1))]]) ρ0 hρ
    simp only [List.length_append, List.length_singleton, List.append_assoc, List.cons_append, List.nil_append] at e
    have iis : intsOf (W.d (.int (absI c + 1)) :: (ws.map fun w => W.d (.int (absI w)))) = some ((absI c + 1) :: ws.map absI) := by
      have := x_intsM ((absI c + 1) :: ws.map absI)
      simpa [List.map_map, Function.comp_def] using this
    have s2 : 1 + ws.length <= sizeLine := Nat.le_trans (by omega : _ <= 1001) (by decide)
    have mx := K35.maxI_cons (xs := ws.map absI) (y := absI c + 1) (by simpa using ne)
    have sz : (if maxI (ws.map absI) > absI c + 1 then maxI (ws.map absI) else absI c + 1) = sizeM (.sum ws c) := by
      show _ = (if maxI (ws.map absI) > 1 + absI c then maxI (ws.map absI) else 1 + absI c)
      rw [Int.add_comm 1 (absI c)]
    have f2 : ∀ (a b : Int) (M : Mem), fMax2 [.d (.int a), .d (.int b)] M = some (.d (.int (if a < b then b else a)), M) := fun _ _ _ => rfl
    have f3 : ∀ (a b : Int) (M : Mem), fMin2 [.d (.int a), .d (.int b)] M = some (.d (.int (if b < a then b else a)), M) := fun _ _ _ => rfl
    have cl : (if 0 - sizeM (.sum ws c) < (if n < sizeM (.sum ws c) then n else sizeM (.sum ws c)) then (if n < sizeM (.sum ws c) then n else sizeM (.sum ws c)) else 0 - sizeM (.sum ws c)) = clampI (sizeM (.sum ws c)) n := by
      unfold clampI
      rw [Int.zero_sub]
    simp only [cutM]
    have go : F__law_parted [.d (sD (.sum ws c)), .d (.int n)] M = some (.d (.tuple [.int (if 0 - (if maxI (ws.map absI) > absI c + 1 then maxI (ws.map absI) else absI c + 1) < (if n < (if maxI (ws.map absI) > absI c + 1 then maxI (ws.map absI) else absI c + 1) then n else (if maxI (ws.map absI) > absI c + 1 then maxI (ws.map absI) else absI c + 1)) then (if n < (if maxI (ws.map absI) > absI c + 1 then maxI (ws.map absI) else absI c + 1) then n else (if maxI (ws.map absI) > absI c + 1 then maxI (ws.map absI) else absI c + 1)) else 0 - (if maxI (ws.map absI) > absI c + 1 then maxI (ws.map absI) else absI c + 1)), .int (n - (if 0 - (if maxI (ws.map absI) > absI c + 1 then maxI (ws.map absI) else absI c + 1) < (if n < (if maxI (ws.map absI) > absI c + 1 then maxI (ws.map absI) else absI c + 1) then n else (if maxI (ws.map absI) > absI c + 1 then maxI (ws.map absI) else absI c + 1)) then (if n < (if maxI (ws.map absI) > absI c + 1 then maxI (ws.map absI) else absI c + 1) then n else (if maxI (ws.map absI) > absI c + 1 then maxI (ws.map absI) else absI c + 1)) else 0 - (if maxI (ws.map absI) > absI c + 1 then maxI (ws.map absI) else absI c + 1)))]), M) := by
      generalize (if maxI (ws.map absI) > absI c + 1 then maxI (ws.map absI) else absI c + 1) = s at *
      simp [F__law_parted, nf, fnV, g__law_parted, sD, nsr, Function.comp_def, e, oCat, small_size, s2, fMaxL, iis, mx, f2, f3, oSub, mkTup, datas]
    rw [go, sz, cl]
  | rest ws r m => simp [F__law_parted, nf, fnV, g__law_parted, sD, h.pos ws r m rfl, cutM, small_size, mkTup, datas]
noncomputable def BM : EvS := (sSeq (sIf (tOrE (tVal (eOp oIx (eVar 6) (eC (.int 0)))) (tVal (eOp oIx (eVar 7) (eC (.int 0))))) (sSeq (sAsg (eDef 2 (F__law_parted) (aCons (eVar 5) (aCons (eOp oAdd (eOp oIx (eVar 6) (eC (.int 1))) (eOp oIx (eVar 7) (eC (.int 1)))) aNil))) (gT 2 (gsC (gN 8) (gsC (gN 9) gs0))))
    (sSeq (sSet 10 (eDef 2 (F__law_holds) (aCons (eVar 5) (aCons (eVar 8) aNil))))
    (sSeq (sSet 11 (eLst (aCons (eTup (aCons (eC (.bool true)) (aCons (eVar 8) (aCons (eVar 10) aNil)))) (aCons (eTup (aCons (eC (.bool false)) (aCons (eVar 9) (aCons (eVar 10) aNil)))) aNil))))
    (sAsgL 2 (eIf (tVal (eOp oIx (eVar 6) (eC (.int 0)))) (eVar 11) (eRevL (eVar 11))) (gsC (gN 6) (gsC (gN 7) gs0)))))) sNil)
    (sSeq (sExpr (sApp (eVar 3) (eVar 6)))
    (sExpr (sApp (eVar 4) (eVar 7)))))
theorem g_met_eq : g__law_met = (sSeq (sPar 3 4 (aCons (eLst aNil) (aCons (eLst aNil) aNil)))
    (sSeq (sFor (iZip3W (aCons (eVar 0) (aCons (eVar 1) (aCons (eVar 2) aNil)))) (gT 3 (gsC (gN 5) (gsC (gN 6) (gsC (gN 7) gs0)))) BM)
    (sRet (eTup (aCons (eCall fTuple (aCons (eVar 3) aNil)) (aCons (eCall fTuple (aCons (eVar 4) aNil)) aNil)))))) := rfl
theorem bm_eq (g : GoodS S kk) (hk : 0 < kk) {us vs : List W} {J : Mem} {v0 v1 v2 v8 v9 v10 v11 : Option W} (u1 : us.length <= 1000) (u2 : vs.length <= 1000) : ∃ J' w6 w7 w8 w9 w10 w11,
    BM [v0, v1, v2, some (.obj M.length), some (.obj (M.length + 1)), some (.d (sD S)), some (.d (hD x)), some (.d (hD y)), v8, v9, v10, v11] (M ++ (.lst us :: .lst vs :: J)) = some (.nx [v0, v1, v2, some (.obj M.length), some (.obj (M.length + 1)), some (.d (sD S)), w6, w7, w8, w9, w10, w11] (M ++ (.lst (us ++ [.d (hD (metG S x y).1)]) :: .lst (vs ++ [.d (hD (metG S x y).2)]) :: J'))) := by
  have ul : us.length < sizeLine := Nat.lt_of_le_of_lt u1 (by decide)
  have vl : vs.length < sizeLine := Nat.lt_of_le_of_lt u2 (by decide)
  have pt := fun M n => parted_eq (M := M) (n := n) g hk
  have ho := fun M n => holds_eq (M := M) (S := S) (n := n)
  obtain ⟨xl, xn, xw⟩ := x
  obtain ⟨yl, yn, yw⟩ := y
  simp only [metG, hD]
  have pt := fun M => pt M (xn + yn)
  have ho := fun M => ho M (cutM S (xn + yn)).1
  generalize (cutM S (xn + yn)).2 = c2 at *
  generalize (cutM S (xn + yn)).1 = c1 at *
  generalize sD S = sd at *
  generalize saysM S c1 = sy at *
  cases xl <;> cases yl
  · refine ⟨J, some (.d (.tuple [.bool false, .int xn, .bool xw])), some (.d (.tuple [.bool false, .int yn, .bool yw])), v8, v9, v10, v11, ?_⟩
    simp [BM, ul, vl]
  · refine ⟨J ++ [.lst [.d (.tuple [.bool true, .int c1, .bool sy]), .d (.tuple [.bool false, .int c2, .bool sy])], .lst [.d (.tuple [.bool false, .int c2, .bool sy]), .d (.tuple [.bool true, .int c1, .bool sy])]], some (.d (.tuple [.bool false, .int c2, .bool sy])), some (.d (.tuple [.bool true, .int c1, .bool sy])), some (.d (.int c1)), some (.d (.int c2)), some (.d (.bool sy)), some (.obj (M.length + (J.length + 2))), ?_⟩
    simp [BM, ul, vl, pt, ho, small_size, mkTup, datas, tupOf, eRevL, sAsgL]
  · refine ⟨J ++ [.lst [.d (.tuple [.bool true, .int c1, .bool sy]), .d (.tuple [.bool false, .int c2, .bool sy])]], some (.d (.tuple [.bool true, .int c1, .bool sy])), some (.d (.tuple [.bool false, .int c2, .bool sy])), some (.d (.int c1)), some (.d (.int c2)), some (.d (.bool sy)), some (.obj (M.length + (J.length + 2))), ?_⟩
    simp [BM, ul, vl, pt, ho, small_size, mkTup, datas, tupOf, sAsgL]
  · refine ⟨J ++ [.lst [.d (.tuple [.bool true, .int c1, .bool sy]), .d (.tuple [.bool false, .int c2, .bool sy])]], some (.d (.tuple [.bool true, .int c1, .bool sy])), some (.d (.tuple [.bool false, .int c2, .bool sy])), some (.d (.int c1)), some (.d (.int c2)), some (.d (.bool sy)), some (.obj (M.length + (J.length + 2))), ?_⟩
    simp [BM, ul, vl, pt, ho, small_size, mkTup, datas, tupOf, sAsgL]
theorem met_loop (hl : M[l]? = some (lstS Ss)) (hk : 0 < kk) {v0 v1 v2 : Option W} : ∀ (ts : List (Simple × Hold × Hold)) (us vs : List W) (J : Mem) (v5 v6 v7 v8 v9 v10 v11 : Option W), (∀ t ∈ ts, GoodS t.1 kk) -> us.length + ts.length <= 1000 -> vs.length + ts.length <= 1000 ->
    ∃ J' w5 w6 w7 w8 w9 w10 w11, forL [(l, lstS Ss)] (gT 3 (gsC (gN 5) (gsC (gN 6) (gsC (gN 7) gs0)))) BM (ts.map fun t => .d (.tuple [sD t.1, hD t.2.1, hD t.2.2])) [v0, v1, v2, some (.obj M.length), some (.obj (M.length + 1)), v5, v6, v7, v8, v9, v10, v11] (M ++ (.lst us :: .lst vs :: J))
      = some (.nx [v0, v1, v2, some (.obj M.length), some (.obj (M.length + 1)), w5, w6, w7, w8, w9, w10, w11] (M ++ (.lst (us ++ ts.map fun t => .d (hD (metG t.1 t.2.1 t.2.2).1)) :: .lst (vs ++ ts.map fun t => .d (hD (metG t.1 t.2.1 t.2.2).2)) :: J')))
  | [], us, vs, J, v5, v6, v7, v8, v9, v10, v11, _, _, _ => ⟨J, v5, v6, v7, v8, v9, v10, v11, by simp only [List.map_nil, forL, List.append_nil]; rw [if_pos (by rw [Deps.one]; exact get_old hl)]⟩
  | t :: ts, us, vs, J, v5, v6, v7, v8, v9, v10, v11, g, h1, h2 => by
    obtain ⟨J1, a6, a7, a8, a9, a10, a11, e⟩ := bm_eq (M := M) (x := t.2.1) (y := t.2.2) (us := us) (vs := vs) (J := J) (v0 := v0) (v1 := v1) (v2 := v2) (v8 := v8) (v9 := v9) (v10 := v10) (v11 := v11) (g t List.mem_cons_self) hk (by simp at h1; omega) (by simp at h2; omega)
    obtain ⟨J2, b5, b6, b7, b8, b9, b10, b11, e2⟩ := met_loop hl hk (v0 := v0) (v1 := v1) (v2 := v2) ts (us ++ [.d (hD (metG t.1 t.2.1 t.2.2).1)]) (vs ++ [.d (hD (metG t.1 t.2.1 t.2.2).2)]) J1 (some (.d (sD t.1))) a6 a7 a8 a9 a10 a11 (fun q hq => g q (List.mem_cons_of_mem _ hq)) (by simp at h1 ⊢; omega) (by simp at h2 ⊢; omega)
    refine ⟨J2, b5, b6, b7, b8, b9, b10, b11, ?_⟩
    simp only [List.append_assoc, List.cons_append, List.nil_append] at e2
    rw [List.map_cons, List.map_cons, List.map_cons, <- e2]
    simp only [forL]
    rw [if_pos (by rw [Deps.one]; exact get_old hl)]
    rw [show gT 3 (gsC (gN 5) (gsC (gN 6) (gsC (gN 7) gs0))) (.d (.tuple [sD t.1, hD t.2.1, hD t.2.2])) [v0, v1, v2, some (.obj M.length), some (.obj (M.length + 1)), v5, v6, v7, v8, v9, v10, v11] = some [v0, v1, v2, some (.obj M.length), some (.obj (M.length + 1)), some (.d (sD t.1)), some (.d (hD t.2.1)), some (.d (hD t.2.2)), v8, v9, v10, v11] from by simp [tupOf]]
    simp only [Option.bind_some]
    rw [e]
    rfl
abbrev hsD (xs : List Hold) : PyData := .tuple (xs.map hD)
/-- both behind a meeting, of holds alone -/
def met1 (Ss : List Simple) (xs ys : List Hold) : List Hold := (metL Ss xs ys).map (·.1)
def met2 (Ss : List Simple) (xs ys : List Hold) : List Hold := (metL Ss xs ys).map (·.2)
theorem met_eq (hl : M[l]? = some (lstS Ss)) (hk : 0 < kk) (g : ∀ S ∈ Ss, GoodS S kk) (h1 : Ss.length = xs.length) (h2 : Ss.length = ys.length) (few : Ss.length <= 1000) : F__law_met [.obj l, .d (hsD xs), .d (hsD ys)] M = some (.d (.tuple [hsD (met1 Ss xs ys), hsD (met2 Ss xs ys)]), M) := by
  have tl := trip_length h1 h2
  have it : iZip3W (aCons (eVar 0) (aCons (eVar 1) (aCons (eVar 2) aNil))) [some (.obj l), some (.d (hsD xs)), some (.d (hsD ys)), some (.obj M.length), some (.obj (M.length + 1)), none, none, none, none, none, none, none] (M ++ [.lst [], .lst []]) = some (((trip Ss xs ys).map fun t => .d (.tuple [sD t.1, hD t.2.1, hD t.2.2]), [(l, lstS Ss)]), M ++ [.lst [], .lst []]) := by
    have s1 : srcOf (M ++ [.lst [], .lst []]) (.obj l) = some (Ss.map fun S => .d (sD S), [(l, lstS Ss)]) := by
      have e1 : (M ++ [MO.lst [], .lst []])[l]? = some (.lst (Ss.map fun S => .d (sD S))) := get_old hl
      rw [show srcOf (M ++ [MO.lst [], .lst []]) (.obj l) = (lstAt (M ++ [.lst [], .lst []]) (.obj l)).bind fun l_1 => some (l_1.snd, [(l, MO.lst l_1.snd)]) from rfl, x_lstAt e1]
      rfl
    have s2 : ∀ zs : List Hold, srcOf (M ++ [.lst [], .lst []]) (.d (hsD zs)) = some (zs.map fun z => .d (hD z), []) := fun zs => by
      show some (((zs.map hD).map W.d), []) = _
      rw [List.map_map]
      rfl
    simp only [iZip3W]
    rw [show aCons (eVar 0) (aCons (eVar 1) (aCons (eVar 2) aNil)) [some (.obj l), some (.d (hsD xs)), some (.d (hsD ys)), some (.obj M.length), some (.obj (M.length + 1)), none, none, none, none, none, none, none] (M ++ [.lst [], .lst []]) = some ([.obj l, .d (hsD xs), .d (hsD ys)], M ++ [.lst [], .lst []]) from rfl]
    simp only [Option.bind_some, s1, s2, List.length_map, h1.symm, h2.symm, and_self, if_true, List.append_nil]
    rw [zip3_trip sD hD hD]
  obtain ⟨J, w5, w6, w7, w8, w9, w10, w11, lp⟩ := met_loop hl hk (v0 := some (.obj l)) (v1 := some (.d (hsD xs))) (v2 := some (.d (hsD ys))) (trip Ss xs ys) [] [] [] none none none none none none none (fun t ht => g _ (trip_mem ht).1) (by simp; omega) (by simp; omega)
  simp only [List.nil_append] at lp
  have gg : g__law_met [some (.obj l), some (.d (hsD xs)), some (.d (hsD ys)), none, none, none, none, none, none, none, none, none] M = some (.rt (.d (.tuple [hsD (met1 Ss xs ys), hsD (met2 Ss xs ys)])) (M ++ (.lst ((trip Ss xs ys).map fun t => .d (hD (metG t.1 t.2.1 t.2.2).1)) :: .lst ((trip Ss xs ys).map fun t => .d (hD (metG t.1 t.2.1 t.2.2).2)) :: J))) := by
    rw [g_met_eq, x_seq]
    generalize BM = B at *
    rw [show sPar 3 4 (aCons (eLst aNil) (aCons (eLst aNil) aNil)) [some (W.obj l), some (.d (hsD xs)), some (.d (hsD ys)), none, none, none, none, none, none, none, none, none] M = some (.nx [some (.obj l), some (.d (hsD xs)), some (.d (hsD ys)), some (.obj M.length), some (.obj (M.length + 1)), none, none, none, none, none, none, none] (M ++ [.lst [], .lst []])) from by simp [small_size]]
    simp only [Option.bind_some]
    rw [x_seq, x_for, it]
    simp only [Option.bind_some]
    rw [lp]
    simp only [Option.bind_some]
    have mk1 : mkTup ((trip Ss xs ys).map fun t => W.d (hD (metG t.1 t.2.1 t.2.2).1)) = .d (hsD (met1 Ss xs ys)) := by
      rw [mkTup_of' (fun t : Simple × Hold × Hold => hD (metG t.1 t.2.1 t.2.2).1)]
      simp [hsD, met1, metL, Function.comp_def]
    have mk2 : mkTup ((trip Ss xs ys).map fun t => W.d (hD (metG t.1 t.2.1 t.2.2).2)) = .d (hsD (met2 Ss xs ys)) := by
      rw [mkTup_of' (fun t : Simple × Hold × Hold => hD (metG t.1 t.2.1 t.2.2).2)]
      simp [hsD, met2, metL, Function.comp_def]
    generalize hsD (met1 Ss xs ys) = d1 at *
    generalize hsD (met2 Ss xs ys) = d2 at *
    generalize (trip Ss xs ys).map (fun t => W.d (hD (metG t.1 t.2.1 t.2.2).1)) = R1 at *
    generalize (trip Ss xs ys).map (fun t => W.d (hD (metG t.1 t.2.1 t.2.2).2)) = R2 at *
    have mk3 : mkTup [W.d d1, W.d d2] = .d (.tuple [d1, d2]) := rfl
    simp [fTuple, lstAt, mk1, mk2, mk3, small_size]
  have nm : ∀ J, norm M (.d (.tuple [hsD (met1 Ss xs ys), hsD (met2 Ss xs ys)]), M ++ J) = (.d (.tuple [hsD (met1 Ss xs ys), hsD (met2 Ss xs ys)]), M) := fun J => norm_data'
  show nf (fnV 12 g__law_met) _ _ = _
  unfold nf fnV
  change ((g__law_met [some (.obj l), some (.d (hsD xs)), some (.d (hsD ys)), none, none, none, none, none, none, none, none, none] M).bind _).map _ = _
  rw [gg]
  simp only [Option.bind_some, Option.map_some, nm]
noncomputable def BF : EvS := (sSeq (sSet 4 (eIf (tVal (eOp oEq (eOp oIx (eVar 3) (eC (.int 0))) (eC (.str "sum")))) (eOp oIx (eOp oIx (eVar 3) (eC (.int 1))) (eVar 1)) (eOp oMod (eOp oIx (eOp oIx (eVar 3) (eC (.int 1))) (eVar 1)) (eOp oIx (eVar 3) (eC (.int 3))))))
    (sExpr (sApp (eVar 2) (eTup (aCons (eC (.bool true)) (aCons (eVar 4) (aCons (eDef 2 (F__law_holds) (aCons (eVar 3) (aCons (eVar 4) aNil))) aNil)))))))
theorem g_fresh_eq : g__law_fresh = (sSeq (sSet 2 (eLst aNil)) (sSeq (sFor (iSeq (eVar 0)) (gN 3) BF) (sRet (eCall fTuple (aCons (eVar 2) aNil))))) := rfl
theorem says_fresh (S : Simple) (g : GoodS S kk) (hk : 0 < kk) : saysM S (freshN i S) = Lw.saysL S (freshN i S) := by
  cases S with
  | sum ws c => rfl
  | rest ws r m =>
    have := (g.rest ws r m rfl).1
    have e : freshN i (.rest ws r m) % m = freshN i (.rest ws r m) := Int.emod_emod_of_dvd _ (Int.dvd_refl _)
    show decide (_ = r) = decide (_ % m = r)
    rw [e]
theorem bf_eq (g : GoodS S kk) (hk : 0 < kk) (hi : i < kk) {v0 v4 : Option W} {us : List W} (few : us.length <= 1000) : ∃ w4,
    BF [v0, some (.d (.int (i : Int))), some (.obj M.length), some (.d (sD S)), v4] (M ++ [.lst us]) = some (.nx [v0, some (.d (.int (i : Int))), some (.obj M.length), some (.d (sD S)), w4] (M ++ [.lst (us ++ [.d (hD (freshH i S))])])) := by
  have ul : us.length < sizeLine := Nat.lt_of_le_of_lt few (by decide)
  have sy := fun M n => holds_eq (M := M) (S := S) (n := n)
  have fr : freshH i S = ⟨true, freshN i S, saysM S (freshN i S)⟩ := by rw [says_fresh S g hk]; rfl
  refine ⟨some (.d (.int (freshN i S))), ?_⟩
  have ln := g.many
  rw [fr]
  cases S with
  | sum ws c =>
    have ln : ws.length = kk := ln
    have e : atI (ws.map fun n => W.d (.int n)) (i : Int) = some (.d (.int (freshN i (.sum ws c)))) := atI_nat' (by simp [freshN, List.getD, ln, hi])
    generalize hn : freshN i (.sum ws c) = n at e
    simp only [sD] at sy ⊢
    simp [BF, e, nsr, sy, ul, hD, Function.comp_def]
  | rest ws r m =>
    have ln : ws.length = kk := ln
    have e : atI (ws.map fun n => W.d (.int n)) (i : Int) = some (.d (.int (ws.getD i 0))) := atI_nat' (by simp [List.getD, ln, hi])
    have mp : 0 < m := by have := g.rest ws r m rfl; omega
    have n3 : ∀ a b c d : W, atI [a, b, c, d] 3 = some d := fun _ _ _ _ => rfl
    have nrs : ¬ (Str.ofString "rest" = Str.ofString "sum") := by decide +kernel
    have fn : freshN i (.rest ws r m) = ws.getD i 0 % m := rfl
    rw [fn]
    generalize ws.getD i 0 = n at *
    simp only [sD] at sy ⊢
    simp [BF, e, nrs, sy, ul, hD, Function.comp_def, x_mod, mp, n3]
theorem fresh_loop (hl : M[l]? = some (lstS Ss)) (hk : 0 < kk) (hi : i < kk) {v0 : Option W} : ∀ (ts : List Simple) (us : List W) (v3 v4 : Option W), (∀ S ∈ ts, GoodS S kk) -> us.length + ts.length <= 1000 ->
    ∃ w3 w4, forL [(l, lstS Ss)] (gN 3) BF (ts.map fun S => .d (sD S)) [v0, some (.d (.int (i : Int))), some (.obj M.length), v3, v4] (M ++ [.lst us]) = some (.nx [v0, some (.d (.int (i : Int))), some (.obj M.length), w3, w4] (M ++ [.lst (us ++ ts.map fun S => .d (hD (freshH i S)))]))
  | [], us, v3, v4, _, _ => ⟨v3, v4, by simp only [List.map_nil, forL, List.append_nil]; rw [if_pos (by rw [Deps.one]; exact get_old hl)]⟩
  | S :: ts, us, v3, v4, g, h1 => by
    obtain ⟨a4, e⟩ := bf_eq (M := M) (us := us) (v0 := v0) (v4 := v4) (g S List.mem_cons_self) hk hi (by simp at h1; omega)
    obtain ⟨b3, b4, e2⟩ := fresh_loop hl hk hi (v0 := v0) ts (us ++ [.d (hD (freshH i S))]) (some (.d (sD S))) a4 (fun q hq => g q (List.mem_cons_of_mem _ hq)) (by simp at h1 ⊢; omega)
    refine ⟨b3, b4, ?_⟩
    simp only [List.append_assoc, List.cons_append, List.nil_append] at e2
    rw [List.map_cons, List.map_cons, <- e2]
    simp only [forL]
    rw [if_pos (by rw [Deps.one]; exact get_old hl)]
    rw [show gN 3 (.d (sD S)) [v0, some (.d (.int (i : Int))), some (.obj M.length), v3, v4] = some [v0, some (.d (.int (i : Int))), some (.obj M.length), some (.d (sD S)), v4] from rfl]
    simp only [Option.bind_some]
    rw [e]
    rfl
def frL (Ss : List Simple) (i : Nat) : List Hold := Ss.map (freshH i)
theorem fresh_eq (hl : M[l]? = some (lstS Ss)) (hk : 0 < kk) (hi : i < kk) (g : ∀ S ∈ Ss, GoodS S kk) (few : Ss.length <= 1000) : F__law_fresh [.obj l, .d (.int (i : Int))] M = some (.d (hsD (frL Ss i)), M) := by
  obtain ⟨w3, w4, lp⟩ := fresh_loop hl hk hi (v0 := some (.obj l)) Ss [] none none g (by simp; omega)
  simp only [List.nil_append] at lp
  have gg : g__law_fresh [some (.obj l), some (.d (.int (i : Int))), none, none, none] M = some (.rt (.d (hsD (frL Ss i))) (M ++ [.lst (Ss.map fun S => .d (hD (freshH i S)))])) := by
    rw [g_fresh_eq, x_seq]
    generalize BF = B at *
    rw [show sSet 2 (eLst aNil) [some (W.obj l), some (.d (.int (i : Int))), none, none, none] M = some (.nx [some (.obj l), some (.d (.int (i : Int))), some (.obj M.length), none, none] (M ++ [.lst []])) from by simp [small_size]]
    simp only [Option.bind_some]
    rw [x_seq, x_for]
    have it : iSeq (eVar 0) [some (.obj l), some (.d (.int (i : Int))), some (.obj M.length), none, none] (M ++ [.lst []]) = some ((Ss.map fun S => .d (sD S), [(l, lstS Ss)]), M ++ [.lst []]) := by
      have e1 : (M ++ [MO.lst []])[l]? = some (.lst (Ss.map fun S => .d (sD S))) := get_old hl
      simp [iSeq, srcOf, lstAt, e1]
    rw [it]
    simp only [Option.bind_some]
    rw [lp]
    simp only [Option.bind_some]
    have mk1 : mkTup (Ss.map fun S => W.d (hD (freshH i S))) = .d (hsD (frL Ss i)) := by
      rw [mkTup_of' (fun S : Simple => hD (freshH i S))]
      simp [hsD, frL, Function.comp_def]
    generalize hsD (frL Ss i) = d1 at *
    generalize Ss.map (fun S => W.d (hD (freshH i S))) = R1 at *
    simp [fTuple, lstAt, mk1]
  have nm : ∀ J, norm M (.d (hsD (frL Ss i)), M ++ J) = (.d (hsD (frL Ss i)), M) := fun J => norm_data'
  show nf (fnV 5 g__law_fresh) _ _ = _
  unfold nf fnV
  change ((g__law_fresh [some (.obj l), some (.d (.int (i : Int))), none, none, none] M).bind _).map _ = _
  rw [gg]
  simp only [Option.bind_some, Option.map_some, nm]
end
end K53
namespace K23
open PySem PySem.Spec PyProof.Rows L2 Sa Va
noncomputable def g_gathered : EvS :=
    (sRet (eCall fTuple (aCons (eSortX (iItW (eVar 0)) (gT 2 (gsC (gN 1) (gsC (gN 2) gs0))) (tVal (eOp oGt (eVar 2) (eC (.int 0)))) (eTup (aCons (eVar 1) (aCons (eVar 2) aNil))) [1, 2]) aNil)))
noncomputable def F_gathered : Fn := nf (fnV 3 (g_gathered))
noncomputable def g_fresh_hold : EvS :=
    (sSeq (sSet 2 (eDef 2 (Pg.F_left_by) (aCons (eVar 0) (aCons (eOp oIx (eOp oIx (eVar 0) (eC (.int 1))) (eVar 1)) aNil))))
    (sRet (eTup (aCons (eC (.bool true)) (aCons (eVar 2) (aCons (eDef 2 (Pg.F_says) (aCons (eVar 0) (aCons (eVar 2) aNil))) aNil))))))
noncomputable def F_fresh_hold : Fn := nf (fnV 3 (g_fresh_hold))
noncomputable def g_fresh : EvS :=
    (sRet (eTup (aCons (eC (.str "member")) (aCons (eVar 1) (aCons (eTupX (iSeq (eDef 1 (Pg.F_simples) (aCons (eVar 0) aNil))) (gN 2) tTrue (eDef 2 (F_fresh_hold) (aCons (eVar 2) (aCons (eVar 1) aNil))) [2]) aNil)))))
noncomputable def F_fresh : Fn := nf (fnV 3 (g_fresh))
noncomputable def g_crowd_of : EvS :=
    (sRet (eDef 1 (F_gathered) (aCons (eDc (iEnumW (aCons (eVar 1) aNil)) (gT 2 (gsC (gN 2) (gsC (gN 3) gs0))) tTrue (eDef 2 (F_fresh) (aCons (eVar 0) (aCons (eVar 2) aNil))) (eVar 3) [2, 3]) aNil)))
noncomputable def F_crowd_of : Fn := nf (fnV 4 (g_crowd_of))
noncomputable def g__law_drawn_bag : EvS :=
    (sSeq (sSet 5 eDict0)
    (sSeq (sFor (iRange1 (aCons (eDef 2 (Lw.F__law_take) (aCons (eVar 0) (aCons (eOp oAdd (eVar 3) (eC (.int 1))) aNil))) aNil)) (gN 6) (sSeq (sSet 7 (eDef 3 (Lw.F__law_member) (aCons (eVar 0) (aCons (eVar 1) (aCons (eDef 2 (Lw.F__law_take) (aCons (eVar 0) (aCons (eVar 2) aNil))) aNil)))))
    (sSeq (sSet 8 (eIf (tVal (eOp oEq (eDef 2 (Lw.F__law_take) (aCons (eVar 0) (aCons (eC (.int 3)) aNil))) (eC (.int 0)))) (eDef 2 (Lw.F__law_note) (aCons (eVar 0) (aCons (eVar 1) aNil))) (eVar 7)))
    (sPutD (eOp oAdd (eC (.int 1)) (eDef 2 (Lw.F__law_of) (aCons (eVar 0) (aCons (eLst (aCons (eC (.int 0)) (aCons (eC (.int 0)) (aCons (eC (.int 1)) (aCons (eC (.int 2)) (aCons (eDef 2 (Lw.F__law_take) (aCons (eVar 0) (aCons (eOp oSub (eVar 4) (eC (.int 1))) aNil))) (aCons (eOp oSub (eVar 4) (eC (.int 2))) aNil))))))) aNil)))) (eVar 5) (eVar 8)))))
    (sRet (eVar 5))))
noncomputable def F__law_drawn_bag : Fn := nf (fnV 9 (g__law_drawn_bag))
noncomputable def g_sorts_of : EvS :=
    (sSeq (whN (tVal (eDef 1 (Pg.F_is_joined) (aCons (eVar 0) aNil))) (sSet 0 (eOp oIx (eVar 0) (eC (.int 1)))) 1000000)
    (sRet (eCall fLen (aCons (eOp oIx (eVar 0) (eC (.int 1))) aNil))))
noncomputable def F_sorts_of : Fn := nf (fnV 1 (g_sorts_of))
noncomputable def g_counts_of : EvS :=
    (sSeq (sSet 2 (eOp oRep (eLst (aCons (eC (.int 0)) aNil)) (eDef 1 (F_sorts_of) (aCons (eVar 0) aNil))))
    (sSeq (sFor (iSeq (eVar 1)) (gT 2 (gsC (gN 3) (gsC (gN 4) gs0))) (sIf (tNotE (tVal (eDef 1 (Pg.F_is_note) (aCons (eVar 3) aNil)))) (sAugL (fun i j => i + j) (eVar 2) (eOp oIx (eVar 3) (eC (.int 1))) (eVar 4)) sNil))
    (sRet (eCall fTuple (aCons (eVar 2) aNil)))))
noncomputable def F_counts_of : Fn := nf (fnV 5 (g_counts_of))
noncomputable def g_notes_in : EvS :=
    (sRet (eSumX (iSeq (eVar 0)) (gT 2 (gsC (gN 1) (gsC (gN 2) gs0))) (tVal (eDef 1 (Pg.F_is_note) (aCons (eVar 1) aNil))) (eVar 2) [1, 2]))
noncomputable def F_notes_in : Fn := nf (fnV 3 (g_notes_in))
noncomputable def g_is_so (self : Fn) : EvS :=
    (sSeq (sIf (tVal (eOp oEq (eOp oIx (eVar 0) (eC (.int 0))) (eC (.str "not")))) (sRet (eNot (eDef 2 self (aCons (eOp oIx (eVar 0) (eC (.int 1))) (aCons (eVar 1) aNil))))) sNil)
    (sSeq (sIf (tVal (eOp oEq (eOp oIx (eVar 0) (eC (.int 0))) (eC (.str "and")))) (sRet (eAnd (eDef 2 self (aCons (eOp oIx (eVar 0) (eC (.int 1))) (aCons (eVar 1) aNil))) (eDef 2 self (aCons (eOp oIx (eVar 0) (eC (.int 2))) (aCons (eVar 1) aNil))))) sNil)
    (sSeq (sIf (tVal (eOp oEq (eOp oIx (eVar 0) (eC (.int 0))) (eC (.str "or")))) (sRet (eOr (eDef 2 self (aCons (eOp oIx (eVar 0) (eC (.int 1))) (aCons (eVar 1) aNil))) (eDef 2 self (aCons (eOp oIx (eVar 0) (eC (.int 2))) (aCons (eVar 1) aNil))))) sNil)
    (sRet (eOp oIxD (eVar 1) (eVar 0))))))
noncomputable def F_is_so : Nat -> Fn
  | 0 => fun _ _ => none
  | k + 1 => nf (fnV 2 (g_is_so (F_is_so k)))
noncomputable def g_by_words : EvS :=
    (sRet (eDef 2 (F_is_so 9) (aCons (eVar 0) (aCons (eDc (iZip2W (aCons (eDef 1 (Pg.F_simples) (aCons (eVar 0) aNil)) (aCons (eVar 1) aNil))) (gT 2 (gsC (gN 2) (gsC (gN 3) gs0))) tTrue (eVar 2) (eVar 3) [2, 3]) aNil))))
noncomputable def F_by_words : Fn := nf (fnV 4 (g_by_words))
noncomputable def g_word_of : EvS :=
    (sRet (eDef 2 (F_by_words) (aCons (eVar 0) (aCons (eTupIx 2 (eOp oIx (eVar 1) (eC (.int 2)))) aNil))))
noncomputable def F_word_of : Fn := nf (fnV 3 (g_word_of))
noncomputable def g_words_in : EvS :=
    (sSeq (sSet 2 (eLc (iSeq (eVar 1)) (gT 2 (gsC (gN 4) (gsC (gN 5) gs0))) (tNotE (tVal (eDef 1 (Pg.F_is_note) (aCons (eVar 4) aNil)))) (eTup (aCons (eVar 4) (aCons (eVar 5) aNil))) [4, 5]))
    (sSeq (sSet 3 (eSumX (iSeq (eVar 2)) (gT 2 (gsC (gN 4) (gsC (gN 5) gs0))) (tVal (eDef 2 (F_word_of) (aCons (eVar 0) (aCons (eVar 4) aNil)))) (eVar 5) [4, 5]))
    (sRet (eTup (aCons (eVar 3) (aCons (eOp oSub (eSumX (iSeq (eVar 2)) (gT 2 (gsC (gN 4) (gsC (gN 5) gs0))) tTrue (eVar 5) [4, 5]) (eVar 3)) aNil))))))
noncomputable def F_words_in : Fn := nf (fnV 6 (g_words_in))
noncomputable def g__law_value (self : Fn) : EvS :=
    (sSeq (sIf (tVal (eOp oEq (eOp oIx (eVar 0) (eC (.int 0))) (eC (.str "not")))) (sRet (eNot (eDef 3 self (aCons (eOp oIx (eVar 0) (eC (.int 1))) (aCons (eVar 1) (aCons (eVar 2) aNil)))))) sNil)
    (sSeq (sIf (tVal (eOp oInT (eOp oIx (eVar 0) (eC (.int 0))) (eTup (aCons (eC (.str "and")) (aCons (eC (.str "or")) aNil))))) (sSeq (sSet 3 (eLc (iSeq (eSlT (some 1) none (eVar 0))) (gN 4) tTrue (eDef 3 self (aCons (eVar 4) (aCons (eVar 1) (aCons (eVar 2) aNil)))) [4]))
    (sRet (eIf (tVal (eOp oEq (eOp oIx (eVar 0) (eC (.int 0))) (eC (.str "and")))) (eCall fAll (aCons (eVar 3) aNil)) (eCall fAny (aCons (eVar 3) aNil))))) sNil)
    (sRet (eOp oIx (eVar 2) (eIndex (eVar 1) (eVar 0))))))
noncomputable def F__law_value : Nat -> Fn
  | 0 => fun _ _ => none
  | k + 1 => nf (fnV 5 (g__law_value (F__law_value k)))
noncomputable def g__law_told_right : EvS :=
    (sSeq (sAsg (eTup (aCons (eCall fRep (aCons (eVar 3) aNil)) (aCons (eOp oRep (eLst (aCons (eC (.int 0)) aNil)) (eVar 2)) (aCons (eC (.int 0)) (aCons (eC (.int 0)) (aCons (eC (.int 0)) aNil)))))) (gT 5 (gsC (gN 4) (gsC (gN 5) (gsC (gN 6) (gsC (gN 7) (gsC (gN 8) gs0)))))))
    (sSeq (sFor (iSeq (eVar 3)) (gT 2 (gsC (gN 9) (gsC (gN 10) gs0))) (sIf (tVal (eOp oEq (eOp oIx (eVar 9) (eC (.int 0))) (eC (.str "note")))) (sSet 6 (eOp oAdd (eVar 6) (eVar 10))) (sSeq (sPut (eOp oAdd (eOp oIx (eVar 5) (eOp oIx (eVar 9) (eC (.int 1)))) (eVar 10)) (eVar 5) (eOp oIx (eVar 9) (eC (.int 1))))
    (sSeq (sSet 11 (eDef 3 (F__law_value 4) (aCons (eVar 0) (aCons (eVar 1) (aCons (eLc (iSeq (eOp oIx (eVar 9) (eC (.int 2)))) (gN 14) tTrue (eOp oIx (eVar 14) (eC (.int 2))) [14]) aNil)))))
    (sPar 7 8 (aCons (eOp oAdd (eVar 7) (eOp oMul (eVar 10) (eCall fInt (aCons (eVar 11) aNil)))) (aCons (eOp oAdd (eVar 8) (eOp oMul (eVar 10) (eCall fInt (aCons (eNot (eVar 11)) aNil)))) aNil)))))))
    (sSeq (sSet 12 (eLst (aCons (eCall fTuple (aCons (eVar 5) aNil)) (aCons (eVar 6) (aCons (eTup (aCons (eVar 7) (aCons (eVar 8) aNil))) aNil)))))
    (sSeq (sSet 13 (eLst (aCons (eDef 2 (F_counts_of) (aCons (eVar 0) (aCons (eVar 3) aNil))) (aCons (eDef 1 (F_notes_in) (aCons (eVar 3) aNil)) (aCons (eDef 2 (F_words_in) (aCons (eVar 0) (aCons (eVar 3) aNil))) aNil)))))
    (sRet (eAnd (eOp oEq (eCall fRep (aCons (eVar 13) aNil)) (eCall fRep (aCons (eVar 12) aNil))) (eOp oEq (eCall fRep (aCons (eVar 3) aNil)) (eVar 4))))))))
noncomputable def F__law_told_right : Fn := nf (fnV 15 (g__law_told_right))
noncomputable def g__law_fresh : EvS :=
    (sSeq (sSet 2 (eLst aNil))
    (sSeq (sFor (iSeq (eVar 0)) (gN 3) (sSeq (sSet 4 (eOp oIx (eOp oIx (eVar 3) (eC (.int 1))) (eVar 1)))
    (sSeq (sIf (tVal (eOp oEq (eOp oIx (eVar 3) (eC (.int 0))) (eC (.str "rest")))) (sSet 4 (eOp oMod (eVar 4) (eOp oIx (eVar 3) (eC (.int 3))))) sNil)
    (sExpr (sApp (eVar 2) (eTup (aCons (eC (.bool true)) (aCons (eVar 4) (aCons (eDef 2 (Lw.F__law_says) (aCons (eVar 3) (aCons (eVar 4) aNil))) aNil)))))))))
    (sRet (eTup (aCons (eC (.str "member")) (aCons (eVar 1) (aCons (eCall fTuple (aCons (eVar 2) aNil)) aNil)))))))
noncomputable def F__law_fresh : Fn := nf (fnV 5 (g__law_fresh))
noncomputable def g_law (ns : List Int) : EvS :=
    (sSeq (sFor (iRange1 (aCons (eCall fMax2 (aCons (eC (.int 1)) (aCons (eCall fMin2 (aCons (eC (.int 3)) (aCons (eCall (fLenS ns) (aCons (eVar 0) aNil)) aNil))) aNil))) aNil)) (gN 1) (sSeq (sSet 2 (eDef 2 (Lw.F__law_hand ns) (aCons (eVar 0) (aCons (eVar 1) aNil))))
    (sSeq (sSet 3 (eOp oAdd (eC (.int 1)) (eDef 2 (Lw.F__law_take) (aCons (eVar 2) (aCons (eC (.int 6)) aNil)))))
    (sSeq (sSet 4 (eDef 3 (Ls.F__law_saying 4) (aCons (eVar 2) (aCons (eVar 3) (aCons (eC (.int 3)) aNil)))))
    (sSeq (sSet 5 (eDef 1 (Ls.F__law_singles 4) (aCons (eVar 4) aNil)))
    (sSeq (sFor (iRange1 (aCons (eC (.int 6)) aNil)) (gN 6) (sSeq (sPar 7 8 (aCons eDict0 (aCons (eLst aNil) aNil)))
    (sSeq (sFor (iRange1 (aCons (eVar 3) aNil)) (gN 9) (sSeq (sSet 10 (eDef 2 (Lw.F__law_take) (aCons (eVar 2) (aCons (eOp oPow (eC (.int 10)) (eC (.int 30))) aNil))))
    (sSeq (sExpr (sApp (eVar 8) (eDef 2 (Lw.F__law_of) (aCons (eVar 2) (aCons (eLst (aCons (eC (.int 0)) (aCons (eC (.int 1)) (aCons (eC (.int 3)) (aCons (eVar 10) (aCons (eOp oSub (eOp oPow (eC (.int 10)) (eC (.int 30))) (eC (.int 1))) aNil)))))) aNil)))))
    (sIf (tVal (eOp oGt (eOp oIx (eVar 8) (eUn oNeg (eC (.int 1)))) (eC (.int 0)))) (sPutD (eOp oIx (eVar 8) (eUn oNeg (eC (.int 1)))) (eVar 7) (eDef 2 (F__law_fresh) (aCons (eVar 5) (aCons (eVar 9) aNil)))) sNil))))
    (sSeq (sSet 11 (eDef 2 (F_crowd_of) (aCons (eVar 4) (aCons (eCall fTuple (aCons (eVar 8) aNil)) aNil))))
    (sSeq (sIf (tVal (eOp oNe (eCall fRep (aCons (eVar 11) aNil)) (eCall fRep (aCons (eCall fTuple (aCons (eSortIt (eVar 7)) aNil)) aNil)))) (sRet (eC (.bool false))) sNil)
    (sSeq (sIf (tNotE (tVal (eDef 4 (F__law_told_right) (aCons (eVar 4) (aCons (eVar 5) (aCons (eVar 3) (aCons (eVar 11) aNil))))))) (sRet (eC (.bool false))) sNil)
    (sSeq (sSet 12 (eDef 5 (F__law_drawn_bag) (aCons (eVar 2) (aCons (eVar 5) (aCons (eVar 3) (aCons (eC (.int 8)) (aCons (eOp oPow (eC (.int 10)) (eC (.int 30))) aNil)))))))
    (sIf (tNotE (tVal (eDef 4 (F__law_told_right) (aCons (eVar 4) (aCons (eVar 5) (aCons (eVar 3) (aCons (eCall fTuple (aCons (eSortIt (eVar 12)) aNil)) aNil))))))) (sRet (eC (.bool false))) sNil))))))))
    (sIf (tOrE (tVal (eOp oNe (eDef 2 (F_crowd_of) (aCons (eVar 4) (aCons (eOp oRepT (eTup (aCons (eC (.int 0)) aNil)) (eVar 3)) aNil))) (eTup aNil))) (tNotE (tVal (eDef 4 (F__law_told_right) (aCons (eVar 4) (aCons (eVar 5) (aCons (eVar 3) (aCons (eTup aNil) aNil)))))))) (sRet (eC (.bool false))) sNil)))))))
    (sRet (eC (.bool true))))
noncomputable def F_law (ns : List Int) : Fn := nf (fnV 13 (g_law ns))
end K23
namespace K31
open PySem PySem.Spec PyProof.Rows L2 Sa Va Pg Lw Ls
end K31
namespace Va
open PySem PySem.Spec PyProof.Rows L2 Sa
theorem piled_sum (ts : List Str) : piled ts = (ts.map (·.length)).sum + 2 * ts.length := by
  induction ts with
  | nil => rfl
  | cons t ts ih => rw [piled_cons, ih]; simp; omega
theorem Shw.lst {ds : List PyData} {D L : Nat} (r : ShwA ds D L) : Shw (.list ds) (D + 1) (L + 3) := by
  refine ⟨?_, ?_, ?_, ?_⟩
  · simp only [PyData.showable]; exact r.sh
  · simp only [PyData.canLay0]; exact r.lay
  · simp only [PyData.depth]; have := r.dp; omega
  · simp only [PyData.shown]
    have h1 := textFrom_len_le (PyData.shownAll ds) 0 "["
    have h2 := r.ln
    rw [piled_sum] at h2
    have e1 : (Str.ofString "[").length = 1 := rfl
    have e2 : (Str.ofString "]").length = 1 := rfl
    rw [e1] at h1
    unfold listText
    rw [strLen_append, e2]
    omega
end Va
namespace K31
open PySem PySem.Spec PyProof.Rows L2 Sa Va Pg Lw Ls
end K31
namespace Va
open PySem PySem.Spec PyProof.Rows L2 Sa
mutual
theorem nk_depth : ∀ d : PyData, (nk d).depth <= d.depth
  | .none => Nat.zero_le _
  | .bool _ => Nat.zero_le _
  | .int _ => Nat.zero_le _
  | .str _ => Nat.zero_le _
  | .tuple ds => by
    show NestedKey.depthAll (nks ds) + 1 <= _
    have := nks_depth ds
    simp only [PyData.depth]
    omega
  | .list _ => Nat.zero_le _
  | .dict _ => Nat.zero_le _
theorem nks_depth : ∀ ds : List PyData, NestedKey.depthAll (nks ds) <= PyData.depthAll ds
  | [] => Nat.zero_le _
  | d :: ds => by
    show max (nk d).depth (NestedKey.depthAll (nks ds)) <= _
    have h1 := nk_depth d
    have h2 := nks_depth ds
    simp only [PyData.depthAll]
    omega
end
theorem flats_map {τ : Type} {f : τ -> PyData} (h : ∀ t, flat (f t) = true) : ∀ ts : List τ, flats (ts.map f) = true
  | [] => rfl
  | t :: ts => by
    show (flat (f t) && flats (ts.map f)) = true
    rw [h t, flats_map h ts]
    rfl
theorem near_list {τ : Type} {f : τ -> PyData} (h : ∀ a b, near (f a) (f b) = true) : ∀ xs ys : List τ, nearAll (xs.map f) (ys.map f) = true
  | [], _ => by simp [nearAll]
  | _ :: _, [] => by simp [nearAll]
  | x :: xs, y :: ys => by
    show (if PyData.eqv (f x) (f y) = true then nearAll (xs.map f) (ys.map f) else near (f x) (f y)) = true
    rw [near_list h xs ys, h x y]
    simp
theorem near_two {x y : PyData} {xs ys : List PyData} (h1 : near x y = true) (h2 : PyData.eqv x y = true -> nearAll xs ys = true) : nearAll (x :: xs) (y :: ys) = true := by
  rw [nearAll]
  split
  · rename_i h; exact h2 h
  · exact h1
end Va
namespace K31
open PySem PySem.Spec PyProof.Rows L2 Sa Va Pg Lw Ls
theorem near_nil : nearAll ([] : List PyData) [] = true := by simp [nearAll]
theorem near_bools (a b : Bool) : near (.bool a) (.bool b) = true := rfl
theorem near_ints (a b : Int) : near (.int a) (.int b) = true := rfl
theorem near_h (a b : Hold) : near (hD a) (hD b) = true := near_two (near_bools _ _) fun _ => near_two (near_ints _ _) fun _ => near_two (near_bools _ _) fun _ => near_nil
theorem flat_st (s : State) : flat (stD s) = true := by
  cases s with
  | mem i xs =>
    show (true && (true && (flats (xs.map hD) && true))) = true
    rw [flats_map (fun _ => rfl)]
    rfl
  | note xs =>
    show (true && (flats (xs.map nD) && true)) = true
    rw [flats_map (fun _ => rfl)]
    rfl
section
variable {Ss : List Simple} {kk : Nat}
theorem st_depth (s : ShownS (t : State)) : (stD t).depth <= 3 := (shw_state s).dp
theorem key_st {s : State} (sh : ShownS s) : keyD (.d (stD s)) = some (stD s) := by
  have f := flat_st s
  have d := Nat.le_trans (nk_depth (stD s)) (st_depth sh)
  cases s <;> exact if_pos ⟨f, Nat.le_trans d (by decide)⟩
/-- entries of a bag -/
def BagOk (Ss : List Simple) (kk : Nat) (es : List (PyData × PyData)) : Prop := ∀ e ∈ es, ∃ p : Row, RowOk Ss kk p /\ e = (stD p.1, .int p.2)
theorem BagOk.put {es : List (PyData × PyData)} (b : BagOk Ss kk es) {p : Row} (r : RowOk Ss kk p) : BagOk Ss kk (dPut es (stD p.1) (.int p.2)) /\ (dPut es (stD p.1) (.int p.2)).length <= es.length + 1 := by
  unfold dPut
  split
  · refine ⟨fun e he => ?_, by simp⟩
    obtain ⟨e0, h0, rfl⟩ := List.mem_map.mp he
    obtain ⟨q, rq, eq⟩ := b e0 h0
    split
    · exact ⟨(q.1, p.2), ⟨rq.dr, r.lo, r.hi, rq.srt⟩, by rw [eq]⟩
    · exact ⟨q, rq, eq⟩
  · refine ⟨fun e he => ?_, by simp⟩
    rcases List.mem_append.mp he with he | he
    · exact b e he
    · rw [List.mem_singleton.mp he]
      exact ⟨p, r, rfl⟩
end
end K31
namespace K31
open PySem PySem.Spec PyProof.Rows L2 Sa Va Pg Lw Ls
/-- a dict stands at c -/
def DicAt (N : Mem) (c : Nat) (es : List (PyData × PyData)) : Prop := ∃ m, N[c]? = some (.dic es m)
theorem DicAt.lt {N : Mem} {c : Nat} {es : List (PyData × PyData)} (d : DicAt N c es) : c < N.length := let ⟨_, e⟩ := d; (List.getElem?_eq_some_iff.mp e).1
theorem DicAt.dic {N : Mem} {c : Nat} {es : List (PyData × PyData)} (d : DicAt N c es) : dicAt N (.obj c) = some (c, es) := by obtain ⟨m, e⟩ := d; simp [dicAt, e]
end K31
namespace K23
open PySem PySem.Spec PyProof.Rows L2 Sa Va Pg Lw Ls
open K31 (RowOk)
abbrev Rw := State × Int
section
variable {M : Mem} {y : Say} {Ss : List Simple} {kk : Nat}
theorem joined_one (S : Simple) : (Say.one S).joined = false := rfl
theorem sorts_loop : ∀ (y : Say) (k : Nat), y.deep <= k -> (∀ S ∈ y.leaves, GoodS S kk) -> ∃ S, GoodS S kk /\ whN (tVal (eDef 1 (Pg.F_is_joined) (aCons (eVar 0) aNil))) (sSet 0 (eOp oIx (eVar 0) (eC (.int 1)))) k [some (.d (yD y))] M = some (.nx [some (.d (sD S))] M)
  | .one S, 0, h, _ => by simp [Say.deep] at h
  | .one S, k + 1, h, g => ⟨S, g S (by simp [Say.leaves]), by
      have e := fun M => F_is_joined_eq (M := M) (.one S)
      simp only [yD, joined_one] at e
      simp [whN, yD, e]⟩
  | .no a, 0, h, _ => by simp [Say.deep] at h
  | .no a, k + 1, h, g => by
    obtain ⟨S, gS, e⟩ := sorts_loop a k (by simp [Say.deep] at h; omega) g
    have j := fun M => F_is_joined_eq (M := M) (.no a)
    simp only [yD] at j
    exact ⟨S, gS, by simp [whN, yD, j, Say.joined]; exact e⟩
  | .an a b, 0, h, _ => by simp [Say.deep] at h
  | .an a b, k + 1, h, g => by
    obtain ⟨S, gS, e⟩ := sorts_loop a k (by simp [Say.deep] at h; omega) fun S hS => g S (by simp [Say.leaves, hS])
    have j := fun M => F_is_joined_eq (M := M) (.an a b)
    simp only [yD] at j
    exact ⟨S, gS, by simp [whN, yD, j, Say.joined]; exact e⟩
  | .or a b, 0, h, _ => by simp [Say.deep] at h
  | .or a b, k + 1, h, g => by
    obtain ⟨S, gS, e⟩ := sorts_loop a k (by simp [Say.deep] at h; omega) fun S hS => g S (by simp [Say.leaves, hS])
    have j := fun M => F_is_joined_eq (M := M) (.or a b)
    simp only [yD] at j
    exact ⟨S, gS, by simp [whN, yD, j, Say.joined]; exact e⟩
theorem F_sorts_of_eq (sd : Said y Ss kk) : F_sorts_of [.d (yD y)] M = some (.d (.int (kk : Int)), M) := by
  obtain ⟨S, gS, e⟩ := sorts_loop (M := M) y 1000000 (Nat.le_trans sd.deep (by decide)) sd.good
  have ln := gS.many
  cases S with
  | sum ws c =>
    have ln : ws.length = kk := ln
    simp only [sD] at e
    simp [F_sorts_of, nf, fnV, g_sorts_of, e, ln]
  | rest ws r m =>
    have ln : ws.length = kk := ln
    simp only [sD] at e
    simp [F_sorts_of, nf, fnV, g_sorts_of, e, ln]
end
end K23
namespace Va
open PySem PySem.Spec PyProof.Rows L2 Sa
end Va
namespace K23
open PySem PySem.Spec PyProof.Rows L2 Sa Va Pg Lw Ls
open K31 (RowOk)
/-- what a saying says, the words of its simple ones given -/
def val (wd : Simple -> Bool) : Say -> Bool
  | .one S => wd S
  | .no a => !val wd a
  | .an a b => val wd a && val wd b
  | .or a b => val wd a || val wd b
end K23
namespace K23
open PySem PySem.Spec PyProof.Rows L2 Sa Va Pg Lw Ls
open K31 (RowOk)
end K23
namespace K23
open PySem PySem.Spec PyProof.Rows L2 Sa Va Pg Lw Ls
open K31 (RowOk)
end K23
namespace K23
open PySem PySem.Spec PyProof.Rows L2 Sa Va Pg Lw Ls
open K31 (RowOk)
noncomputable def TB : EvS := (sIf (tVal (eOp oEq (eOp oIx (eVar 9) (eC (.int 0))) (eC (.str "note")))) (sSet 6 (eOp oAdd (eVar 6) (eVar 10))) (sSeq (sPut (eOp oAdd (eOp oIx (eVar 5) (eOp oIx (eVar 9) (eC (.int 1)))) (eVar 10)) (eVar 5) (eOp oIx (eVar 9) (eC (.int 1))))
    (sSeq (sSet 11 (eDef 3 (F__law_value 4) (aCons (eVar 0) (aCons (eVar 1) (aCons (eLc (iSeq (eOp oIx (eVar 9) (eC (.int 2)))) (gN 14) tTrue (eOp oIx (eVar 14) (eC (.int 2))) [14]) aNil)))))
    (sPar 7 8 (aCons (eOp oAdd (eVar 7) (eOp oMul (eVar 10) (eCall fInt (aCons (eVar 11) aNil)))) (aCons (eOp oAdd (eVar 8) (eOp oMul (eVar 10) (eCall fInt (aCons (eNot (eVar 11)) aNil)))) aNil))))))
end K23
namespace K23
open PySem PySem.Spec PyProof.Rows L2 Sa Va Pg Lw Ls
open K31 (RowOk)
end K23
namespace Va
open PySem PySem.Spec PyProof.Rows L2 Sa
theorem Cut.dic {M : Mem} (i : Nat) (es : List (PyData × PyData)) (n : Nat) : Cut M (M.set i (.dic es n)) := by
  refine ⟨by simp, fun k mo e => ?_⟩
  by_cases z : i = k
  · subst z
    by_cases hl : i < M.length
    · rw [List.getElem?_set_self hl] at e; cases e; exact .inr rfl
    · rw [List.getElem?_eq_none (by simpa using Nat.le_of_not_lt hl)] at e; cases e
  · rw [List.getElem?_set_ne z] at e
    exact .inl e
end Va
namespace K23
open PySem PySem.Spec PyProof.Rows L2 Sa Va Pg Lw Ls
open K31 (RowOk freshN freshH freshS BagOk)
theorem says_fresh {S : Simple} {i kk : Nat} (g : GoodS S kk) : saysM S (freshN i S) = saysL S (freshN i S) := by
  cases S with
  | sum ws c => rfl
  | rest ws r m =>
    show decide (ws.getD i 0 % m = r) = decide (ws.getD i 0 % m % m = r)
    rw [Int.emod_emod]
section
variable {M : Mem} {y : Say} {Ss : List Simple} {kk i d n : Nat}
theorem F_fresh_hold_eq {S : Simple} (g : GoodS S kk) (hk : 0 < kk) (hi : i < kk) : F_fresh_hold [.d (sD S), .d (.int (i : Int))] M = some (.d (hD (freshH i S)), M) := by
  have lb := fun M n => F_left_by_eq (M := M) (n := n) (g.wf hk)
  have sy := fun M n => F_says_eq (M := M) (S := S) (n := n)
  have sf := says_fresh (i := i) g
  have ln := g.many
  cases S with
  | sum ws c =>
    have ln : ws.length = kk := ln
    have e : atI (ws.map fun n => W.d (.int n)) (i : Int) = some (.d (.int (freshN i (.sum ws c)))) := atI_nat' (by simp [freshN, List.getD, ln, hi])
    have lf : leftM (.sum ws c) (freshN i (.sum ws c)) = freshN i (.sum ws c) := rfl
    generalize hn : freshN i (.sum ws c) = n at e lf sf
    have lb := fun M => lb M n
    have sy := fun M => sy M n
    rw [lf] at lb
    rw [sf] at sy
    simp only [sD] at lb sy ⊢
    simp [F_fresh_hold, nf, fnV, g_fresh_hold, Function.comp_def, e, lb, sy, freshH, hD, hn, small_size]
  | rest ws r m =>
    have ln : ws.length = kk := ln
    have e : atI (ws.map fun n => W.d (.int n)) (i : Int) = some (.d (.int (ws.getD i 0))) := atI_nat' (by simp [List.getD, ln, hi])
    have lb := fun M => lb M (ws.getD i 0)
    have lf : leftM (.rest ws r m) (ws.getD i 0) = freshN i (.rest ws r m) := rfl
    rw [lf] at lb
    generalize hn : freshN i (.rest ws r m) = n at lb sf
    have sy := fun M => sy M n
    rw [sf] at sy
    generalize ws.getD i 0 = x at e lb
    simp only [sD] at lb sy ⊢
    simp [F_fresh_hold, nf, fnV, g_fresh_hold, Function.comp_def, e, lb, sy, freshH, hD, hn, small_size]
theorem F_fresh_eq (sd : Said y Ss kk) (hi : i < kk) : F_fresh [.d (yD y), .d (.int (i : Int))] M = some (.d (stD (freshS Ss i)), M) := by
  have s := fun M => F_simples_eq (M := M) y sd.deep (Nat.le_trans sd.many (by decide)) sd.fewS
  rw [<- sd.row] at s
  have sl := sd.len
  have e := gx_map (deps := []) (g := gN 2) (t := tTrue) (e := eDef 2 (F_fresh_hold) (aCons (eVar 2) (aCons (eVar 1) aNil))) (ρ0 := [some (.d (yD y)), some (.d (.int (i : Int))), none]) (M := M) (fun S : Simple => .d (sD S)) (fun S => .d (hD (freshH i S))) (by simp) Ss [] (by simp; omega)
    fun S hS => ⟨[some (.d (yD y)), some (.d (.int (i : Int))), some (.d (sD S))], by simp, rfl, by simp [F_fresh_hold_eq (sd.goodS S hS) sd.pos hi]⟩
  have mk : mkTup (Ss.map fun S => W.d (hD (freshH i S))) = _ := mkTup_of' (fun S => hD (freshH i S)) Ss
  have sm : Ss.length <= sizeLine := small_size (by omega)
  simp only [List.nil_append] at e
  simp [F_fresh, nf, fnV, g_fresh, eTupX, s, Function.comp_def, wipeW, e, mk, sm, small_size, freshS, stD]
end
end K23
namespace K23
open PySem PySem.Spec PyProof.Rows L2 Sa Va Pg Lw Ls
open K31 (RowOk freshN freshH freshS BagOk)
end K23
namespace Dd
open PySem PySem.Spec PyProof.Rows L2 Sa Va
noncomputable def g__law_fresh : EvS :=
    (sSeq (sSet 2 (eLst aNil))
    (sSeq (sFor (iSeq (eVar 0)) (gN 3) (sSeq (sSet 4 (eOp oIx (eOp oIx (eVar 3) (eC (.int 1))) (eVar 1)))
    (sSeq (sIf (tVal (eOp oEq (eOp oIx (eVar 3) (eC (.int 0))) (eC (.str "rest")))) (sSet 4 (eOp oMod (eVar 4) (eOp oIx (eVar 3) (eC (.int 3))))) sNil)
    (sExpr (sApp (eVar 2) (eTup (aCons (eC (.bool true)) (aCons (eVar 4) (aCons (eDef 2 (Lw.F__law_says) (aCons (eVar 3) (aCons (eVar 4) aNil))) aNil)))))))))
    (sRet (eTup (aCons (eC (.str "member")) (aCons (eVar 1) (aCons (eCall fTuple (aCons (eVar 2) aNil)) aNil)))))))
noncomputable def F__law_fresh : Fn := nf (fnV 5 (g__law_fresh))
noncomputable def g_gathered : EvS :=
    (sRet (eCall fTuple (aCons (eSortX (iItW (eVar 0)) (gT 2 (gsC (gN 1) (gsC (gN 2) gs0))) (tVal (eOp oGt (eVar 2) (eC (.int 0)))) (eTup (aCons (eVar 1) (aCons (eVar 2) aNil))) [1, 2]) aNil)))
noncomputable def F_gathered : Fn := nf (fnV 3 (g_gathered))
noncomputable def g_fresh_hold : EvS :=
    (sSeq (sSet 2 (eDef 2 (Pg.F_left_by) (aCons (eVar 0) (aCons (eOp oIx (eOp oIx (eVar 0) (eC (.int 1))) (eVar 1)) aNil))))
    (sRet (eTup (aCons (eC (.bool true)) (aCons (eVar 2) (aCons (eDef 2 (Pg.F_says) (aCons (eVar 0) (aCons (eVar 2) aNil))) aNil))))))
noncomputable def F_fresh_hold : Fn := nf (fnV 3 (g_fresh_hold))
noncomputable def g_fresh : EvS :=
    (sRet (eTup (aCons (eC (.str "member")) (aCons (eVar 1) (aCons (eTupX (iSeq (eDef 1 (Pg.F_simples) (aCons (eVar 0) aNil))) (gN 2) tTrue (eDef 2 (F_fresh_hold) (aCons (eVar 2) (aCons (eVar 1) aNil))) [2]) aNil)))))
noncomputable def F_fresh : Fn := nf (fnV 3 (g_fresh))
noncomputable def g_sorts_of : EvS :=
    (sSeq (whN (tVal (eDef 1 (Pg.F_is_joined) (aCons (eVar 0) aNil))) (sSet 0 (eOp oIx (eVar 0) (eC (.int 1)))) 1000000)
    (sRet (eCall fLen (aCons (eOp oIx (eVar 0) (eC (.int 1))) aNil))))
noncomputable def F_sorts_of : Fn := nf (fnV 1 (g_sorts_of))
noncomputable def g_counts_of : EvS :=
    (sSeq (sSet 2 (eOp oRep (eLst (aCons (eC (.int 0)) aNil)) (eDef 1 (F_sorts_of) (aCons (eVar 0) aNil))))
    (sSeq (sFor (iSeq (eVar 1)) (gT 2 (gsC (gN 3) (gsC (gN 4) gs0))) (sIf (tNotE (tVal (eDef 1 (Pg.F_is_note) (aCons (eVar 3) aNil)))) (sAugL (fun i j => i + j) (eVar 2) (eOp oIx (eVar 3) (eC (.int 1))) (eVar 4)) sNil))
    (sRet (eCall fTuple (aCons (eVar 2) aNil)))))
noncomputable def F_counts_of : Fn := nf (fnV 5 (g_counts_of))
end Dd
namespace Dd
open PySem PySem.Spec PyProof.Rows L2 Sa Va Pg Lw Ls K31 K23
theorem nks_inj {τ : Type} {f : τ -> PyData} (hf : ∀ x y, nk (f x) = nk (f y) -> x = y) : ∀ {xs ys : List τ}, nks (xs.map f) = nks (ys.map f) -> xs = ys
  | [], [], _ => rfl
  | [], _ :: _, h => by cases h
  | _ :: _, [], h => by cases h
  | x :: xs, y :: ys, h => by
    have h' : nk (f x) :: nks (xs.map f) = nk (f y) :: nks (ys.map f) := h
    injection h' with h1 h2
    rw [hf _ _ h1, nks_inj hf h2]
theorem nk_bool {a b : Bool} (h : nk (.bool a) = nk (.bool b)) : a = b := by
  cases a <;> cases b <;> first | rfl | (exfalso; revert h; decide)
theorem nk_int {a b : Int} (h : nk (.int a) = nk (.int b)) : a = b := by
  have h' : NestedKey.num a = .num b := h
  injection h'
theorem nk_h (x y : Hold) (h : nk (hD x) = nk (hD y)) : x = y := by
  obtain ⟨a, n, w⟩ := x
  obtain ⟨b, m, u⟩ := y
  have h' : NestedKey.tup [nk (.bool a), nk (.int n), nk (.bool w)] = .tup [nk (.bool b), nk (.int m), nk (.bool u)] := h
  injection h' with h'
  injection h' with h1 h'
  injection h' with h2 h'
  injection h' with h3 _
  rw [nk_bool h1, nk_int h2, nk_bool h3]
abbrev Tk := Int ⊕ List Nat
theorem tks_inj {τ : Type} {f : τ -> PyData} (hf : ∀ x y (r t : List Tk), PySem.W.keyToks (f x) ++ r = PySem.W.keyToks (f y) ++ t -> x = y /\ r = t) : ∀ {xs ys : List τ} {r t : List Tk}, PySem.W.keyToksAll (xs.map f) ++ r = PySem.W.keyToksAll (ys.map f) ++ t -> xs = ys /\ r = t
  | [], [], r, t, h => by
    have h' : (Sum.inl 0 : Tk) :: r = Sum.inl 0 :: t := h
    injection h' with _ h'
    exact ⟨rfl, h'⟩
  | [], y :: ys, r, t, h => by
    have h' : (Sum.inl 0 : Tk) :: r = Sum.inl 1 :: ((PySem.W.keyToks (f y) ++ PySem.W.keyToksAll (ys.map f)) ++ t) := h
    injection h' with h' _
    injection h' with h'
    cases h'
  | x :: xs, [], r, t, h => by
    have h' : (Sum.inl 1 : Tk) :: ((PySem.W.keyToks (f x) ++ PySem.W.keyToksAll (xs.map f)) ++ r) = Sum.inl 0 :: t := h
    injection h' with h' _
    injection h' with h'
    cases h'
  | x :: xs, y :: ys, r, t, h => by
    have h' : (Sum.inl 1 : Tk) :: ((PySem.W.keyToks (f x) ++ PySem.W.keyToksAll (xs.map f)) ++ r) = Sum.inl 1 :: ((PySem.W.keyToks (f y) ++ PySem.W.keyToksAll (ys.map f)) ++ t) := h
    injection h' with _ h'
    rw [List.append_assoc, List.append_assoc] at h'
    obtain ⟨e1, e2⟩ := hf _ _ _ _ h'
    obtain ⟨e3, e4⟩ := tks_inj hf e2
    exact ⟨by rw [e1, e3], e4⟩
theorem tk_bool {a b : Bool} {r t : List Tk} (h : PySem.W.keyToks (.bool a) ++ r = PySem.W.keyToks (.bool b) ++ t) : a = b /\ r = t := by
  cases a <;> cases b <;> simp [PySem.W.keyToks] at h <;> first | exact ⟨rfl, h⟩ | cases h
theorem tk_int {a b : Int} {r t : List Tk} (h : PySem.W.keyToks (.int a) ++ r = PySem.W.keyToks (.int b) ++ t) : a = b /\ r = t := by
  have h' : (Sum.inl a : Tk) :: r = Sum.inl b :: t := h
  injection h' with h1 h2
  injection h1 with h1
  exact ⟨h1, h2⟩
theorem tk_tup3 {a b e c d f : PyData} {r t : List Tk} (h : PySem.W.keyToks (.tuple [a, b, e]) ++ r = PySem.W.keyToks (.tuple [c, d, f]) ++ t) : PySem.W.keyToks a ++ (Sum.inl 1 :: (PySem.W.keyToks b ++ (Sum.inl 1 :: (PySem.W.keyToks e ++ (Sum.inl 0 :: r))))) = PySem.W.keyToks c ++ (Sum.inl 1 :: (PySem.W.keyToks d ++ (Sum.inl 1 :: (PySem.W.keyToks f ++ (Sum.inl 0 :: t))))) := by
  have h' : (Sum.inl 1 : Tk) :: ((PySem.W.keyToks a ++ (Sum.inl 1 :: (PySem.W.keyToks b ++ (Sum.inl 1 :: (PySem.W.keyToks e ++ [Sum.inl 0]))))) ++ r) = Sum.inl 1 :: ((PySem.W.keyToks c ++ (Sum.inl 1 :: (PySem.W.keyToks d ++ (Sum.inl 1 :: (PySem.W.keyToks f ++ [Sum.inl 0]))))) ++ t) := h
  injection h' with _ h'
  simpa using h'
theorem cons_tail {x : Tk} {r t : List Tk} (h : x :: r = x :: t) : r = t := by injection h
theorem tk_h (x y : Hold) (r t : List Tk) (h : PySem.W.keyToks (hD x) ++ r = PySem.W.keyToks (hD y) ++ t) : x = y /\ r = t := by
  obtain ⟨a, n, w⟩ := x
  obtain ⟨b, m, u⟩ := y
  obtain ⟨e1, h1⟩ := tk_bool (tk_tup3 h)
  obtain ⟨e2, h2⟩ := tk_int (cons_tail h1)
  obtain ⟨e3, h3⟩ := tk_bool (cons_tail h2)
  exact ⟨congr (congr (congrArg Hold.mk e1) e2) e3, cons_tail h3⟩
end Dd
namespace Dd
open PySem PySem.Spec PyProof.Rows L2 Sa Va Pg Lw Ls K31 K23
noncomputable instance stDec : DecidableEq State := fun _ _ => Classical.propDecidable _
/-- how many are in a state -/
noncomputable def cnt (c : List Rw) (s : State) : Int := ((c.find? fun p => decide (p.1 = s)).map (·.2)).getD 0
noncomputable def putR (c : List Rw) (s : State) (v : Int) : List Rw := if (c.find? fun p => decide (p.1 = s)).isSome = true then c.map fun p => if p.1 = s then (s, v) else p else c ++ [(s, v)]
def Nod (c : List Rw) : Prop := (c.map (·.1)).Nodup
section
variable {c : List Rw} {s : State} {v : Int} {p : Rw}
theorem cnt_cons : cnt (p :: c) s = if p.1 = s then p.2 else cnt c s := by
  unfold cnt
  rw [List.find?_cons]
  by_cases e : p.1 = s <;> simp [e]
theorem mem_cnt (h : cnt c s ≠ 0) : (s, cnt c s) ∈ c := by
  induction c with
  | nil => exact absurd rfl h
  | cons q c ih =>
    rw [cnt_cons] at h ⊢
    split
    · rename_i e
      rw [<- e]
      exact List.mem_cons_self
    · rename_i e
      rw [if_neg e] at h
      exact List.mem_cons_of_mem _ (ih h)
theorem find_some_iff : (c.find? fun p => decide (p.1 = s)).isSome = true ↔ ∃ p ∈ c, p.1 = s := by
  rw [List.find?_isSome]
  simp
theorem mem_put (h : p ∈ putR c s v) : p = (s, v) ∨ p ∈ c := by
  unfold putR at h
  split at h
  · obtain ⟨q, hq, rfl⟩ := List.mem_map.mp h
    split
    · exact .inl rfl
    · exact .inr hq
  · rcases List.mem_append.mp h with h | h
    · exact .inr h
    · exact .inl (List.mem_singleton.mp h)
theorem len_put : (putR c s v).length <= c.length + 1 := by
  unfold putR
  split <;> simp
theorem nod_put (n : Nod c) : Nod (putR c s v) := by
  unfold putR Nod
  split
  · rename_i h
    have e : (c.map fun p => if p.1 = s then (s, v) else p).map (·.1) = c.map (·.1) := by
      rw [List.map_map]
      apply List.map_congr_left
      intro p _
      simp only [Function.comp_def]
      split
      · rename_i z; exact z.symm
      · rfl
    rw [e]
    exact n
  · rename_i h
    rw [find_some_iff] at h
    rw [List.map_append]
    refine List.nodup_append.mpr ⟨n, by simp, fun a ha b hb z => ?_⟩
    obtain ⟨p, hp, rfl⟩ := List.mem_map.mp ha
    simp at hb
    exact h ⟨p, hp, z.trans hb⟩
theorem nod_nil : Nod [] := List.nodup_nil
theorem Nod.nd (n : Nod c) : c.Nodup := Pg.nodup_of_map n
end
end Dd
namespace Dd
open PySem PySem.Spec PyProof.Rows L2 Sa Va Pg Lw Ls K31 K23
section
variable {y : Say} {Ss : List Simple} {kk d : Nat} {s : State} {v : Int} {i : EvE}
/-- a state that may stand in a crowd -/
structure StOk (Ss : List Simple) (kk : Nat) (s : State) : Prop where
  dr : Drawn Ss s
  srt : ∀ i xs, s = .mem i xs -> 0 <= i /\ i < kk
theorem StOk.key (sd : Said y Ss kk) (h : StOk Ss kk s) : keyD (.d (stD s)) = some (stD s) := K31.key_st (h.dr.shown sd.goodS sd.pos sd.len)
theorem RowOk.st {p : Rw} (h : RowOk Ss kk p) : StOk Ss kk p.1 := ⟨h.dr, h.srt⟩
theorem StOk.row (h : StOk Ss kk s) (lo : 1 <= v) (hi : v <= 10 ^ 30) : RowOk Ss kk (s, v) := ⟨h.dr, lo, hi, h.srt⟩
end
end Dd
namespace Dd
open PySem PySem.Spec PyProof.Rows L2 Sa Va Pg Lw Ls K31 K23
/-- a bag of such states: at most N of them, at most N in each -/
structure Bag (Ss : List Simple) (kk N : Nat) (c : List Rw) : Prop where
  nod : Nod c
  st : ∀ p ∈ c, StOk Ss kk p.1
  lo : ∀ p ∈ c, 0 <= p.2
  hi : ∀ p ∈ c, p.2 <= N
  len : c.length <= N
section
variable {y : Say} {Ss : List Simple} {kk N N' i : Nat} {c : List Rw} {s : State} {v : Int}
theorem Bag.nil : Bag Ss kk N [] := ⟨nod_nil, fun p h => (by cases h), fun p h => (by cases h), fun p h => (by cases h), Nat.zero_le _⟩
theorem Bag.put (b : Bag Ss kk N c) (hs : StOk Ss kk s) (h0 : 0 <= v) (h1 : v <= N') (hN : N + 1 <= N') : Bag Ss kk N' (putR c s v) :=
  ⟨nod_put b.nod, fun p hp => by rcases mem_put hp with rfl | h; exact hs; exact b.st p h, fun p hp => by rcases mem_put hp with rfl | h; exact h0; exact b.lo p h,
    fun p hp => by
      rcases mem_put hp with rfl | h
      · exact h1
      · have := b.hi p h; omega, by have := len_put (c := c) (s := s) (v := v); have := b.len; omega⟩
theorem Bag.mono (b : Bag Ss kk N c) (hN : N <= N') : Bag Ss kk N' c := ⟨b.nod, b.st, b.lo, fun p h => by have := b.hi p h; omega, Nat.le_trans b.len hN⟩
theorem Bag.has (b : Bag Ss kk N c) (h : 1 <= Dd.cnt c s) : ∃ p ∈ c, p.1 = s := ⟨_, mem_cnt (by omega), rfl⟩
theorem fresh_is : F_fresh = K23.F_fresh := rfl
theorem fresh_ok (sd : Said y Ss kk) (hi : i < kk) : StOk Ss kk (freshS Ss i) := ⟨fresh_drawn sd hi, fun j xs e => by cases e; omega⟩
end
end Dd
namespace Dd
open PySem PySem.Spec PyProof.Rows L2 Sa Va Pg Lw Ls K31 K23
/-- what a sort is worth -/
def wt (S : Simple) (i : Nat) : Int := S.ws.getD i 0
section
variable {Ss : List Simple} {kk i : Nat} {xs : List Hold} {ns : List (Bool × Int)}
theorem note_ok' (h : Drawn Ss (.note ns)) : StOk Ss kk (.note ns) := ⟨h, fun i xs e => by cases e⟩
end
end Dd
namespace Dd
open PySem PySem.Spec PyProof.Rows L2 Sa Va Pg Lw Ls K31 K23
section
variable {Ss : List Simple} {kk i j : Nat} {xs : List Hold}
theorem mem_to (hs : StOk Ss kk (.mem (i : Int) xs)) (hj : j < kk) (k6 : kk <= 6) : StOk Ss kk (.mem (j : Int) xs) := ⟨⟨⟨by omega, by omega⟩, hs.dr.2⟩, fun k zs e => by cases e; omega⟩
end
end Dd
namespace Dd
open PySem PySem.Spec PyProof.Rows L2 Sa Va Pg Lw Ls K31 K23
section
variable {y : Say} {Ss : List Simple} {kk n : Nat} {c : List Rw} {s t a b : State} {u v : Int} {S : Simple} {x z : Hold} {xs ys : List Hold} {ns : List (Bool × Int)} {w : Bool × Int}
theorem cut_rest (g : GoodS S kk) (h : S.isRest = true) (n : Int) : 0 <= (cutM S n).1 /\ (cutM S n).1 <= sizeM S /\ (cutM S n).2 = 0 := by
  cases S with
  | sum ws c => cases h
  | rest ws r m =>
    have m2 := (g.rest ws r m rfl).1
    have h1 := Int.emod_nonneg n (by omega : m ≠ 0)
    have h2 := Int.emod_lt_of_pos n (by omega : 0 < m)
    show 0 <= n % m /\ n % m <= m - 1 /\ (0 : Int) = 0
    omega
theorem cut_sum (g : GoodS S kk) (hk : 0 < kk) (h : S.isRest = false) (n b : Int) (hb : 0 <= b) (h0 : -(sizeM S + b) <= n) (h1 : n <= sizeM S + b) : (-sizeM S <= (cutM S n).1 /\ (cutM S n).1 <= sizeM S) /\ -b <= (cutM S n).2 /\ (cutM S n).2 <= b := by
  have sz := (size_le g hk).1
  cases S with
  | rest ws r m => cases h
  | sum ws c => exact ⟨clamp_in sz, clamp_off sz h0 h1 hb⟩
theorem met_drawn (g : GoodS S kk) (hk : 0 < kk) (hx : DrawnH S x) (hz : DrawnH S z) : DrawnH S (metG S x z).1 /\ DrawnH S (metG S x z).2 := by
  have sz := (size_le g hk).1
  unfold metG
  by_cases h : (!x.leads && !z.leads) = true
  · rw [if_pos h]
    exact ⟨hx, hz⟩
  · rw [if_neg h]
    unfold DrawnH at hx hz ⊢
    cases r : S.isRest with
    | true =>
      have cu := cut_rest g r (x.number + z.number)
      cases x.leads <;> simp <;> omega
    | false =>
      rw [r] at hx hz
      simp at hx hz
      have cu := cut_sum g hk r (x.number + z.number) (sizeM S) (by omega) (by omega) (by omega)
      cases x.leads <;> simp <;> omega
theorem not_drawn (g : GoodS S kk) (hk : 0 < kk) (hx : DrawnH S x) (hw : DrawnN S w) : DrawnH S (notG S x w).1 /\ DrawnN S (notG S x w).2 := by
  have sz := (size_le g hk).1
  unfold DrawnH at hx ⊢
  unfold DrawnN at hw ⊢
  unfold notG
  cases r : S.isRest with
  | true =>
    have cu := cut_rest g r (x.number + w.2)
    simp; omega
  | false =>
    rw [r] at hx hw
    simp at hx hw
    have cu := cut_sum g hk r (x.number + w.2) (2 * sizeM S) (by omega) (by omega) (by omega)
    simp; omega
theorem zip_trip {β γ τ : Type} (f : Simple × β × γ -> τ) : ∀ (As : List Simple) (bs : List β) (cs : List γ) (t : Simple × τ), t ∈ As.zip ((trip As bs cs).map f) -> ∃ x y, (t.1, x, y) ∈ trip As bs cs /\ t.2 = f (t.1, x, y)
  | [], _, _, t, h => by simp at h
  | A :: As, [], cs, t, h => by simp [trip] at h
  | A :: As, b :: bs, [], t, h => by simp [trip] at h
  | A :: As, b :: bs, c :: cs, t, h => by
    simp only [trip, List.map_cons, List.zip_cons_cons, List.mem_cons] at h
    rcases h with rfl | h
    · exact ⟨b, c, by simp [trip], rfl⟩
    · obtain ⟨x, y, h1, h2⟩ := zip_trip f As bs cs t h
      exact ⟨x, y, by simp only [trip, List.mem_cons]; exact .inr h1, h2⟩
theorem mem_mem (sd : Said y Ss kk) (ha : Drawn Ss (.mem u xs)) (hb : Drawn Ss (.mem v ys)) : Drawn Ss (.mem u ((metL Ss xs ys).map (·.1))) /\ Drawn Ss (.mem v ((metL Ss xs ys).map (·.2))) := by
  have ln : (trip Ss xs ys).length = Ss.length := trip_length ha.2.1.symm hb.2.1.symm
  refine ⟨⟨ha.1, by simp [metL, ln], fun t ht => ?_⟩, ⟨hb.1, by simp [metL, ln], fun t ht => ?_⟩⟩
  · rw [metL, List.map_map] at ht
    obtain ⟨x, z, h1, h2⟩ := zip_trip _ Ss xs ys t ht
    obtain ⟨z1, z2⟩ := trip_zip h1
    rw [h2]
    exact (met_drawn (sd.goodS _ (List.of_mem_zip z1).1) sd.pos (ha.2.2 (t.1, x) z1) (hb.2.2 (t.1, z) z2)).1
  · rw [metL, List.map_map] at ht
    obtain ⟨x, z, h1, h2⟩ := zip_trip _ Ss xs ys t ht
    obtain ⟨z1, z2⟩ := trip_zip h1
    rw [h2]
    exact (met_drawn (sd.goodS _ (List.of_mem_zip z1).1) sd.pos (ha.2.2 (t.1, x) z1) (hb.2.2 (t.1, z) z2)).2
theorem mem_note (sd : Said y Ss kk) (ha : Drawn Ss (.mem u xs)) (hb : Drawn Ss (.note ns)) : Drawn Ss (.mem u ((notL Ss xs ns).map (·.1))) /\ Drawn Ss (.note ((notL Ss xs ns).map (·.2))) := by
  have ln : (trip Ss xs ns).length = Ss.length := trip_length ha.2.1.symm hb.1.symm
  refine ⟨⟨ha.1, by simp [notL, ln], fun t ht => ?_⟩, ⟨by simp [notL, ln], fun t ht => ?_⟩⟩
  · rw [notL, List.map_map] at ht
    obtain ⟨x, z, h1, h2⟩ := zip_trip _ Ss xs ns t ht
    obtain ⟨z1, z2⟩ := trip_zip h1
    rw [h2]
    exact (not_drawn (sd.goodS _ (List.of_mem_zip z1).1) sd.pos (ha.2.2 (t.1, x) z1) (hb.2 (t.1, z) z2)).1
  · rw [notL, List.map_map] at ht
    obtain ⟨x, z, h1, h2⟩ := zip_trip _ Ss xs ns t ht
    obtain ⟨z1, z2⟩ := trip_zip h1
    rw [h2]
    exact (not_drawn (sd.goodS _ (List.of_mem_zip z1).1) sd.pos (ha.2.2 (t.1, x) z1) (hb.2 (t.1, z) z2)).2
def OkO (Ss : List Simple) (kk : Nat) (o : Option State) : Prop := ∀ s, o = some s -> StOk Ss kk s
theorem noteOr_ok (h : Drawn Ss (.note ns)) : OkO Ss kk (noteOr ns) := fun s e => by
  unfold noteOr at e
  split at e
  · cases e
  · cases e; exact note_ok' h
/-- both behind a meeting may stand in a crowd -/
theorem met_ok (sd : Said y Ss kk) (ha : StOk Ss kk a) (hb : StOk Ss kk b) : OkO Ss kk (metS Ss a b).1 /\ OkO Ss kk (metS Ss a b).2 := by
  cases a with
  | mem p xs =>
    cases b with
    | mem q ys =>
      have h := mem_mem sd ha.dr hb.dr
      exact ⟨fun s e => by cases e; exact ⟨h.1, fun k zs e => by cases e; exact ha.srt p xs rfl⟩, fun s e => by cases e; exact ⟨h.2, fun k zs e => by cases e; exact hb.srt q ys rfl⟩⟩
    | note ns =>
      have h := mem_note sd ha.dr hb.dr
      exact ⟨fun s e => by cases e; exact ⟨h.1, fun k zs e => by cases e; exact ha.srt p xs rfl⟩, noteOr_ok h.2⟩
  | note ns =>
    cases b with
    | mem q ys =>
      have h := mem_note sd hb.dr ha.dr
      exact ⟨noteOr_ok h.2, fun s e => by cases e; exact ⟨h.1, fun k zs e => by cases e; exact hb.srt q ys rfl⟩⟩
    | note ms => exact ⟨fun s e => by cases e; exact ha, fun s e => by cases e; exact hb⟩
/-- what of a state is one -/
noncomputable def isO (o : Option State) (s : State) : Int := if o = some s then 1 else 0
end
end Dd
namespace K53
open PySem PySem.Spec PyProof.Rows L2 Sa Va Pg
open Lw (GoodS Said)
open K31 (freshH freshN freshS)
open Dd (StOk OkO tks_inj tk_h nks_inj nk_h Tk)
open Classical
section
variable {M N : Mem} {y : Say} {Ss : List Simple} {kk i n d : Nat} {a b x : List Hold} {F K : List (List Hold)}
/-- what comes of fresh ones by meetings of members -/
inductive Cl (Ss : List Simple) (kk : Nat) : List Hold -> Prop
  | fresh (i : Nat) (h : i < kk) : Cl Ss kk (frL Ss i)
  | one {a b : List Hold} : Cl Ss kk a -> Cl Ss kk b -> Cl Ss kk (met1 Ss a b)
  | two {a b : List Hold} : Cl Ss kk a -> Cl Ss kk b -> Cl Ss kk (met2 Ss a b)
theorem Cl.ok (sd : Said y Ss kk) (h : Cl Ss kk a) : StOk Ss kk (.mem 0 a) := by
  have kp := sd.pos
  induction h with
  | fresh i hi =>
    have st := Dd.fresh_ok sd hi
    exact Dd.mem_to (xs := frL Ss i) st (j := 0) kp sd.few
  | @one a b _ _ ha hb => exact (Dd.met_ok sd ha hb).1 _ rfl
  | @two a b _ _ ha hb => exact (Dd.met_ok sd ha hb).2 _ rfl
theorem Cl.len (sd : Said y Ss kk) (h : Cl Ss kk a) : a.length = Ss.length := (h.ok sd).dr.2.1
theorem hs_nk (h : nk (hsD a) = nk (hsD b)) : a = b := by
  have h' : NestedKey.tup (nks (a.map hD)) = .tup (nks (b.map hD)) := h
  injection h' with h'
  exact nks_inj nk_h h'
theorem key_hs (sd : Said y Ss kk) (h : Cl Ss kk a) : keyD (.d (hsD a)) = some (hsD a) := by
  have f : flat (hsD a) = true := by
    show flats (a.map hD) = true
    exact flats_map (f := hD) (fun _ => rfl) a
  have sh := (h.ok sd).dr.shown sd.goodS sd.pos sd.len
  have d1 := K31.st_depth sh
  have d2 : (hsD a).depth <= 3 := by
    simp only [stD, PyData.depth, PyData.depthAll] at d1
    simp only [hsD, PyData.depth]
    omega
  exact if_pos ⟨f, Nat.le_trans (nk_depth _) (Nat.le_trans d2 (by decide))⟩
def kvD (x : List Hold) : PyData × PyData := (hsD x, .bool true)
theorem get_kv : ∀ F : List (List Hold), (dGet (F.map kvD) (hsD x)).isSome = decide (x ∈ F)
  | [] => rfl
  | f :: F => by
    have ih := get_kv F
    unfold dGet at ih ⊢
    rw [List.map_cons, List.find?_cons]
    by_cases e : f = x
    · subst e
      simp [kvD]
    · have ne : decide (nk (kvD f).1 = nk (hsD x)) = false := decide_eq_false fun z => e (hs_nk z)
      rw [ne]
      simp only [List.mem_cons, Option.isSome_map] at ih ⊢
      rw [ih]
      simp [Ne.symm e]
theorem put_kv (h : x ∉ F) : dPut (F.map kvD) (hsD x) (.bool true) = (F ++ [x]).map kvD := by
  unfold dPut
  rw [get_kv, decide_eq_false h]
  simp [kvD]
noncomputable def canonH (F : List (List Hold)) : List (List Hold) := F.mergeSort (PySem.W.dataLe false hsD)
theorem sort_hs (F : List (List Hold)) : (F.map hsD).mergeSort (PySem.W.dataLe false id) = (canonH F).map hsD :=
  (List.map_mergeSort (r := PySem.W.dataLe false hsD) (s := PySem.W.dataLe false id) (f := hsD) (fun a _ b _ => rfl)).symm
def hLe (p q : List Hold) : Bool := !PySem.W.dataLt (hsD q) (hsD p)
theorem hLe_antisymm {p q : List Hold} (h1 : hLe p q = true) (h2 : hLe q p = true) : p = q := by
  unfold hLe at h1 h2
  rw [Bool.not_eq_true'] at h1 h2
  have e : PySem.W.keyToks (hsD p) = PySem.W.keyToks (hsD q) := lex_total _ _ h2 h1
  have e2 : PySem.W.keyToksAll (p.map hD) = PySem.W.keyToksAll (q.map hD) := e
  exact (tks_inj (r := []) (t := []) tk_h (by rw [List.append_nil, List.append_nil]; exact e2)).1
theorem hTotal : PySem.W.TotalLe (PySem.W.dataLe false hsD) := PySem.W.sortLe_total _ false _
theorem canonH_pair (c : List (List Hold)) : (canonH c).Pairwise fun p q => hLe p q = true := PySem.W.sort_pairwise hTotal c
theorem canonH_perm (c : List (List Hold)) : (canonH c).Perm c := List.mergeSort_perm _ _
theorem rising_hs : ∀ {N M : List (List Hold)}, N.Pairwise (fun p q => hLe p q = true) -> M.Pairwise (fun p q => hLe p q = true) -> N.Nodup -> M.Nodup -> (∀ p, p ∈ N ↔ p ∈ M) -> N = M
  | [], [], _, _, _, _, _ => rfl
  | [], T :: M, _, _, _, _, e => absurd ((e T).mpr List.mem_cons_self) (by simp)
  | S :: N, [], _, _, _, _, e => absurd ((e S).mp List.mem_cons_self) (by simp)
  | S :: N, T :: M, p1, p2, n1, n2, e => by
    rw [List.pairwise_cons] at p1 p2
    rw [List.nodup_cons] at n1 n2
    have eq : S = T := by
      rcases List.mem_cons.mp ((e S).mp List.mem_cons_self) with h | h
      · exact h
      · rcases List.mem_cons.mp ((e T).mpr List.mem_cons_self) with k | k
        · exact k.symm
        · exact hLe_antisymm (p1.1 T k) (p2.1 S h)
    subst eq
    congr 1
    refine rising_hs p1.2 p2.2 n1.2 n2.2 fun p => ⟨fun h => ?_, fun h => ?_⟩
    · rcases List.mem_cons.mp ((e p).mp (List.mem_cons_of_mem _ h)) with k | k
      · subst k; exact absurd h n1.1
      · exact k
    · rcases List.mem_cons.mp ((e p).mpr (List.mem_cons_of_mem _ h)) with k | k
      · subst k; exact absurd h n2.1
      · exact k
theorem canonH_same (n1 : F.Nodup) (n2 : K.Nodup) (h : ∀ p, p ∈ F ↔ p ∈ K) : canonH F = canonH K :=
  rising_hs (canonH_pair F) (canonH_pair K) ((canonH_perm F).nodup_iff.mpr n1) ((canonH_perm K).nodup_iff.mpr n2) fun p => by rw [(canonH_perm F).mem_iff, (canonH_perm K).mem_iff]; exact h p
/-- more than sixty come -/
def Big (Ss : List Simple) (kk : Nat) : Prop := ∃ l : List (List Hold), l.Nodup /\ (∀ x ∈ l, Cl Ss kk x) /\ 60 < l.length
/-- just these come -/
structure All (Ss : List Simple) (kk : Nat) (F : List (List Hold)) : Prop where
  nod : F.Nodup
  few : F.length <= 60
  mem : ∀ x, x ∈ F ↔ Cl Ss kk x
theorem All.not (h : All Ss kk F) : ¬ Big Ss kk := fun ⟨l, n, c, m⟩ => by
  have := Lw.nodup_le n fun x hx => (h.mem x).mpr (c x hx)
  have := h.few
  omega
theorem All.same (h : All Ss kk F) (h2 : All Ss kk K) : canonH F = canonH K := canonH_same h.nod h2.nod fun p => by rw [h.mem, h2.mem]
/-- what is closed and holds the fresh ones holds all -/
theorem closed_all (fr : ∀ i < kk, frL Ss i ∈ F) (cl : ∀ a ∈ F, ∀ b ∈ F, met1 Ss a b ∈ F /\ met2 Ss a b ∈ F) (h : Cl Ss kk x) : x ∈ F := by
  induction h with
  | fresh i hi => exact fr i hi
  | @one a b _ _ ha hb => exact (cl a ha b hb).1
  | @two a b _ _ ha hb => exact (cl a ha b hb).2
end
end K53
namespace K53
open PySem PySem.Spec PyProof.Rows L2 Sa Va Pg
open Lw (GoodS Said)
open Classical
section
variable {M : Mem} {y : Say} {Ss : List Simple} {kk n d : Nat} {x : List Hold} {F : List (List Hold)} {J : Mem}
abbrev wsF (F : List (List Hold)) : List W := F.map fun x => .d (hsD x)
/-- found and known -/
def fk (M : Mem) (F : List (List Hold)) (n : Nat) (J : Mem) : Mem := M ++ (.lst (wsF F) :: .dic (F.map kvD) n :: J)
/-- what is found so far -/
structure FOk (Ss : List Simple) (kk : Nat) (F : List (List Hold)) : Prop where
  nod : F.Nodup
  few : F.length <= 60
  cl : ∀ x ∈ F, Cl Ss kk x
theorem FOk.add (h : FOk Ss kk F) (c : Cl Ss kk x) (nx : x ∉ F) (l : ¬ F.length = 60) : FOk Ss kk (F ++ [x]) :=
  ⟨List.nodup_append.mpr ⟨h.nod, by simp, fun u hu v hv => by
      simp only [List.mem_singleton] at hv
      subst hv
      exact fun e => nx (e ▸ hu)⟩, by have := h.few; simp; omega, fun u hu => by
    rcases List.mem_append.mp hu with k | k
    · exact h.cl u k
    · simp only [List.mem_singleton] at k
      exact k ▸ c⟩
theorem FOk.big (h : FOk Ss kk F) (c : Cl Ss kk x) (nx : x ∉ F) (l : F.length = 60) : Big Ss kk :=
  ⟨F ++ [x], List.nodup_append.mpr ⟨h.nod, by simp, fun u hu v hv => by
      simp only [List.mem_singleton] at hv
      subst hv
      exact fun e => nx (e ▸ hu)⟩, fun u hu => by
    rcases List.mem_append.mp hu with k | k
    · exact h.cl u k
    · simp only [List.mem_singleton] at k
      exact k ▸ c, by simp; omega⟩
theorem fk_f : (fk M F n J)[M.length]? = some (.lst (wsF F)) := by simp [fk]
theorem fk_k : (fk M F n J)[M.length + 1]? = some (.dic (F.map kvD) n) := by simp [fk]
theorem note_in (hx : x ∈ F) (key : keyD (.d (hsD x)) = some (hsD x)) : F_note_holds [.obj M.length, .obj (M.length + 1), .d (hsD x)] (fk M F n J) = some (.d .none, fk M F n J) := by
  have da : dicAt (fk M F n J) (.obj (M.length + 1)) = some (M.length + 1, F.map kvD) := by simp [dicAt, fk_k]
  have ik : oInK (.d (hsD x)) (.obj (M.length + 1)) (fk M F n J) = some (.d (.bool true), fk M F n J) := by
    simp only [oInK, da, key, Option.bind_some]
    rw [get_kv, decide_eq_true hx]
  generalize hsD x = d at *
  simp [F_note_holds, nfX, fnV, g_note_holds, ik, sNX, sRetN]
theorem note_no (hx : x ∉ F) (key : keyD (.d (hsD x)) = some (hsD x)) : oInK (.d (hsD x)) (.obj (M.length + 1)) (fk M F n J) = some (.d (.bool false), fk M F n J) := by
  have da : dicAt (fk M F n J) (.obj (M.length + 1)) = some (M.length + 1, F.map kvD) := by simp [dicAt, fk_k]
  simp only [oInK, da, key, Option.bind_some]
  rw [get_kv, decide_eq_false hx]
theorem note_big (hx : x ∉ F) (l : F.length = 60) (key : keyD (.d (hsD x)) = some (hsD x)) : F_note_holds [.obj M.length, .obj (M.length + 1), .d (hsD x)] (fk M F n J) = some (exW 0, fk M F n J) := by
  have ik := note_no (M := M) (n := n) (J := J) hx key
  have ln : lstAt (fk M F n J) (.obj M.length) = some (M.length, wsF F) := x_lstAt fk_f
  have fl : fLen [.obj M.length] (fk M F n J) = some (.d (.int 60), fk M F n J) := by
    simp [fLen, fk_f, l]
  have nd : isD (exW 0) = false := rfl
  generalize hsD x = d at *
  simp [F_note_holds, nfX, fnV, g_note_holds, ik, sNX, sRetN, fl, sRaise, nd]
theorem note_new (hx : x ∉ F) (l : ¬ F.length = 60) (f60 : F.length <= 60) (key : keyD (.d (hsD x)) = some (hsD x)) : F_note_holds [.obj M.length, .obj (M.length + 1), .d (hsD x)] (fk M F n J) = some (.d .none, fk M (F ++ [x]) (n + 1) J) := by
  have ik := note_no (M := M) (n := n) (J := J) hx key
  have fl : fLen [.obj M.length] (fk M F n J) = some (.d (.int (F.length : Int)), fk M F n J) := by
    simp [fLen, fk_f]
  have l' : ¬ ((F.length : Int) = 60) := by omega
  have da : dicAt (fk M F n J) (.obj (M.length + 1)) = some (M.length + 1, F.map kvD) := by simp [dicAt, fk_k]
  have st : stampAt (fk M F n J) (M.length + 1) = n := by simp [stampAt, fk_k]
  have s1 : (fk M F n J).set (M.length + 1) (.dic ((F ++ [x]).map kvD) (n + 1)) = M ++ (.lst (wsF F) :: .dic ((F ++ [x]).map kvD) (n + 1) :: J) := by
    simp [fk]
  have small : F.length < sizeLine := Nat.lt_of_le_of_lt f60 (by decide)
  have pk := put_kv hx
  have g1 : (M ++ (MO.lst (wsF F) :: .dic ((F ++ [x]).map kvD) (n + 1) :: J))[M.length]? = some (.lst (wsF F)) := by simp
  have s2 : (M ++ (MO.lst (wsF F) :: .dic ((F ++ [x]).map kvD) (n + 1) :: J)).set M.length (.lst (wsF F ++ [.d (hsD x)])) = fk M (F ++ [x]) (n + 1) J := by
    simp [fk, wsF]
  have wl : (wsF F).length = F.length := by simp
  have c1 : Cut (fk M F n J) (fk M (F ++ [x]) (n + 1) J) := by
    refine ⟨by simp [fk], fun k mo hk => ?_⟩
    unfold fk at hk ⊢
    rcases Nat.lt_or_ge k M.length with z | z
    · rw [List.getElem?_append_left z] at hk ⊢
      exact .inl hk
    · rw [List.getElem?_append_right z] at hk ⊢
      match hz : k - M.length with
      | 0 => rw [hz] at hk; cases hk; exact .inr (by simp [isDO, isD])
      | 1 => rw [hz] at hk; cases hk; exact .inr (by simp [isDO, isD])
      | j + 2 => rw [hz] at hk; exact .inl hk
  have nm : norm (fk M F n J) (.d .none, fk M (F ++ [x]) (n + 1) J) = (.d .none, fk M (F ++ [x]) (n + 1) J) := by
    have := norm_d (J := []) (w := .d .none) rfl c1
    rwa [List.append_nil] at this
  have sp : sPutD (eC (.bool true)) (eVar 1) (eVar 2) [some (.obj M.length), some (.obj (M.length + 1)), some (.d (hsD x))] (fk M F n J) = some (.nx [some (.obj M.length), some (.obj (M.length + 1)), some (.d (hsD x))] (M ++ (.lst (wsF F) :: .dic ((F ++ [x]).map kvD) (n + 1) :: J))) := by
    have gl : (F.map kvD).length < sizeLine := by rw [List.length_map]; exact small
    rw [<- s1, <- pk]
    simp only [sPutD, eC, eVar, List.getElem?_cons_zero, List.getElem?_cons_succ, Option.bind_some, Option.map_some, asD, key, da, st]
    rw [if_pos gl]
  have s3 : M ++ (MO.lst (wsF F ++ [.d (hsD x)]) :: .dic ((F ++ [x]).map kvD) (n + 1) :: J) = fk M (F ++ [x]) (n + 1) J := by
    simp [fk, wsF]
  have small2 : (wsF F).length < sizeLine := by rw [wl]; exact small
  generalize (F ++ [x]).map kvD = G at *
  generalize fk M (F ++ [x]) (n + 1) J = M2 at *
  generalize fk M F n J = M1 at *
  generalize F.map kvD = G1 at *
  generalize wsF F = ws at *
  generalize hsD x = d at *
  simp [F_note_holds, nfX, fnV, g_note_holds, ik, sNX, sRetN, fl, l', sp, small2, s3, nm]
noncomputable def BN : EvS := sExprX (eDef 3 F_note_holds (aCons (eVar 2) (aCons (eVar 3) (aCons (eVar 4) aNil))))
def env9 (v0 v1 : Option W) (M : Mem) (v4 v5 v6 v7 v8 : Option W) : Ev := [v0, v1, some (.obj M.length), some (.obj (M.length + 1)), v4, v5, v6, v7, v8]
/-- noted all, or too many came -/
def noteQ (v0 v1 v5 v6 v7 v8 : Option W) (M : Mem) (Ss : List Simple) (kk : Nat) (F xs : List (List Hold)) (J : Mem) : Out -> Prop
  | .nx ρ M1 => ∃ w4 R n, ρ = env9 v0 v1 M w4 v5 v6 v7 v8 /\ M1 = fk M (F ++ R) n J /\ FOk Ss kk (F ++ R) /\ ∀ x ∈ xs, x ∈ F ++ R
  | .rt w M1 => w = exW 0 /\ Big Ss kk /\ ∃ J, M1 = M ++ J
  | _ => False
theorem note_loop (sd : Said y Ss kk) {l : Nat} {us : List W} (hl : ∀ F n, (fk M F n J)[l]? = some (.lst us)) {v0 v1 v5 v6 v7 v8 : Option W} : ∀ (xs : List (List Hold)) (F : List (List Hold)) (n : Nat) (v4 : Option W), (∀ x ∈ xs, Cl Ss kk x) -> FOk Ss kk F ->
    Ok (forL [(l, .lst us)] (gN 4) BN (wsF xs) (env9 v0 v1 M v4 v5 v6 v7 v8) (fk M F n J)) (noteQ v0 v1 v5 v6 v7 v8 M Ss kk F xs J)
  | [], F, n, v4, _, ok => by
    have e : forL [(l, .lst us)] (gN 4) BN (wsF []) (env9 v0 v1 M v4 v5 v6 v7 v8) (fk M F n J) = some (.nx (env9 v0 v1 M v4 v5 v6 v7 v8) (fk M F n J)) := by
      simp only [List.map_nil, forL]
      rw [if_pos (by rw [Deps.one]; exact hl F n)]
    exact ⟨_, e, v4, [], n, rfl, by rw [List.append_nil], by rw [List.append_nil]; exact ok, by simp⟩
  | x :: xs, F, n, v4, cl, ok => by
    have cx := cl x List.mem_cons_self
    have key := key_hs sd cx
    have step : ∀ p : W × Mem, F_note_holds [.obj M.length, .obj (M.length + 1), .d (hsD x)] (fk M F n J) = some p -> forL [(l, .lst us)] (gN 4) BN (wsF (x :: xs)) (env9 v0 v1 M v4 v5 v6 v7 v8) (fk M F n J) = if isX p.1 = true then some (.rt p.1 p.2) else forL [(l, .lst us)] (gN 4) BN (wsF xs) (env9 v0 v1 M (some (.d (hsD x))) v5 v6 v7 v8) p.2 := by
      intro p e
      show forL _ _ _ (.d (hsD x) :: wsF xs) _ _ = _
      simp only [forL]
      rw [if_pos (by rw [Deps.one]; exact hl F n)]
      rw [show gN 4 (.d (hsD x)) (env9 v0 v1 M v4 v5 v6 v7 v8) = some (env9 v0 v1 M (some (.d (hsD x))) v5 v6 v7 v8) from rfl]
      simp only [Option.bind_some]
      have eb : BN (env9 v0 v1 M (some (.d (hsD x))) v5 v6 v7 v8) (fk M F n J) = if isX p.1 = true then some (.rt p.1 p.2) else some (.nx (env9 v0 v1 M (some (.d (hsD x))) v5 v6 v7 v8) p.2) := by
        have : (eDef 3 F_note_holds (aCons (eVar 2) (aCons (eVar 3) (aCons (eVar 4) aNil)))) (env9 v0 v1 M (some (.d (hsD x))) v5 v6 v7 v8) (fk M F n J) = some p := by
          rw [<- e]
          rfl
        simp only [BN, sExprX, this, Option.bind_some]
      rw [eb]
      split <;> rfl
    by_cases hx : x ∈ F
    · rw [step _ (note_in hx key)]
      simp only [isX_d, Bool.false_eq_true, if_false]
      refine (note_loop sd hl xs F n (some (.d (hsD x))) (fun z hz => cl z (List.mem_cons_of_mem _ hz)) ok).mono fun o q => ?_
      cases o with
      | nx ρ M1 =>
        obtain ⟨w4, R, n', e1, e2, ok2, al⟩ := q
        refine ⟨w4, R, n', e1, e2, ok2, fun z hz => ?_⟩
        rcases List.mem_cons.mp hz with rfl | k
        · exact List.mem_append_left _ hx
        · exact al z k
      | rt w M1 => exact q
      | bk ρ M1 => exact q
      | ct ρ M1 => exact q
    · by_cases l60 : F.length = 60
      · rw [step _ (note_big hx l60 key)]
        simp only [isX_ex, if_true]
        exact .of rfl ⟨rfl, ok.big cx hx l60, _, rfl⟩
      · rw [step _ (note_new hx l60 ok.few key)]
        simp only [isX_d, Bool.false_eq_true, if_false]
        refine (note_loop sd hl xs (F ++ [x]) (n + 1) (some (.d (hsD x))) (fun z hz => cl z (List.mem_cons_of_mem _ hz)) (ok.add cx hx l60)).mono fun o q => ?_
        cases o with
        | nx ρ M1 =>
          obtain ⟨w4, R, n', e1, e2, ok2, al⟩ := q
          rw [List.append_assoc] at e2 ok2 al
          refine ⟨w4, x :: R, n', e1, e2, ok2, fun z hz => ?_⟩
          rcases List.mem_cons.mp hz with rfl | k
          · simp
          · exact al z k
        | rt w M1 => exact q
        | bk ρ M1 => exact q
        | ct ρ M1 => exact q
end
end K53
namespace K53
open PySem PySem.Spec PyProof.Rows L2 Sa Va Pg
open Lw (GoodS Said)
open K31 (freshH freshN freshS)
open Classical
section
variable {M : Mem} {y : Say} {Ss : List Simple} {kk n d : Nat} {a b x : List Hold} {F : List (List Hold)} {J : Mem}
theorem alike_list {τ : Type} {f : τ -> PyData} (h : ∀ a b, PySem.W.alike (f a) (f b) = true) : ∀ xs ys : List τ, PySem.W.alikeAll (xs.map f) (ys.map f) = true
  | [], _ => by simp [PySem.W.alikeAll]
  | _ :: _, [] => by simp [PySem.W.alikeAll]
  | x :: xs, y :: ys => by
    have := alike_list h xs ys
    simp only [List.map_cons, PySem.W.alikeAll, h x y, this, Bool.and_self]
theorem alike_hs (a b : List Hold) : PySem.W.alike (hsD a) (hsD b) = true := by
  have := alike_list (f := hD) (fun p q => by simp [hD, PySem.W.alike, PySem.W.alikeAll]) a b
  simpa only [PySem.W.alike] using this
theorem hs_depth (sd : Said y Ss kk) (h : Cl Ss kk a) : (hsD a).depth <= 60 := by
  have sh := (h.ok sd).dr.shown sd.goodS sd.pos sd.len
  have d1 := K31.st_depth sh
  simp only [stD, PyData.depth, PyData.depthAll] at d1
  simp only [hsD, PyData.depth]
  omega
theorem hs_tup (sd : Said y Ss kk) (ne : 0 < Ss.length) (h : Cl Ss kk a) : ∃ p r, hsD a = .tuple (hD p :: r) := by
  have := h.len sd
  cases a with
  | nil => simp at this; omega
  | cons p a => exact ⟨p, _, rfl⟩
theorem datas_hs : datas (wsF F) = some (F.map hsD) := by
  have := datas_map (F.map hsD)
  simpa [List.map_map, Function.comp_def] using this
theorem sortL_eq (sd : Said y Ss kk) (ne : 0 < Ss.length) (cl : ∀ x ∈ F, Cl Ss kk x) {l : Nat} (hl : M[l]? = some (.lst (wsF F))) : fSortL [.obj l] M = some (.obj M.length, M ++ [.lst (wsF (canonH F))]) := by
  have la : lstAt M (.obj l) = some (l, wsF F) := x_lstAt hl
  simp only [fSortL, la, Option.bind_some, datas_hs]
  rw [if_pos ⟨fun d hd d' hd' => by
    obtain ⟨p, hp, rfl⟩ := List.mem_map.mp hd
    obtain ⟨p', hp', rfl⟩ := List.mem_map.mp hd'
    exact alike_hs p p', fun d hd => by
    obtain ⟨p, hp, rfl⟩ := List.mem_map.mp hd
    obtain ⟨u, r, e⟩ := hs_tup sd ne (cl p hp)
    exact ⟨_, _, e⟩, fun d hd => by
    obtain ⟨p, hp, rfl⟩ := List.mem_map.mp hd
    exact hs_depth sd (cl p hp)⟩, sort_hs, List.map_map]
  rfl
theorem sortK_eq (sd : Said y Ss kk) (ne : 0 < Ss.length) (cl : ∀ x ∈ F, Cl Ss kk x) {k : Nat} (hk : M[k]? = some (.dic (F.map kvD) n)) : fSortK [.obj k] M = some (.obj M.length, M ++ [.lst (wsF (canonH F))]) := by
  have da : dicAt M (.obj k) = some (k, F.map kvD) := by simp [dicAt, hk]
  have em : (F.map kvD).map (·.1) = F.map hsD := by rw [List.map_map]; rfl
  have fl : ∀ a : List Hold, flat (hsD a) = true := fun a => by
    show flats (a.map hD) = true
    exact flats_map (f := hD) (fun _ => rfl) a
  have nr : ∀ a b : List Hold, near (hsD a) (hsD b) = true := fun a b => near_list (f := hD) K31.near_h a b
  simp only [fSortK, da, Option.bind_some]
  rw [em]
  rw [if_pos ⟨⟨fun d hd => by
    obtain ⟨p, hp, rfl⟩ := List.mem_map.mp hd
    exact fl p, fun d hd d' hd' => by
    obtain ⟨p, hp, rfl⟩ := List.mem_map.mp hd
    obtain ⟨p', hp', rfl⟩ := List.mem_map.mp hd'
    exact nr p p', fun d hd => by
    obtain ⟨p, hp, rfl⟩ := List.mem_map.mp hd
    obtain ⟨u, r, e⟩ := hs_tup sd ne (cl p hp)
    exact ⟨_, _, e⟩, .type "tuple", rfl, fun u r hu => by
    obtain ⟨p, hp, e⟩ := List.mem_map.mp hu
    obtain ⟨u', r', e'⟩ := hs_tup sd ne (cl p hp)
    rw [e'] at e
    cases e
    rfl⟩, fun e he => by
    obtain ⟨p, hp, rfl⟩ := List.mem_map.mp he
    exact hs_depth sd (cl p hp)⟩, sort_hs, List.map_map]
  rfl
theorem tuple_hs {l : Nat} (hl : M[l]? = some (.lst (wsF F))) : fTuple [.obj l] M = some (.d (.tuple (F.map hsD)), M) := by
  have la : lstAt M (.obj l) = some (l, wsF F) := x_lstAt hl
  have mk : mkTup (wsF F) = .d (.tuple (F.map hsD)) := mkTup_of' hsD F
  simp [fTuple, la, mk]
abbrev btw (Ss : List Simple) (a b : List Hold) : List (List Hold) := [met1 Ss a b, met2 Ss a b, met1 Ss b a, met2 Ss b a]
theorem between_eq (sd : Said y Ss kk) (ha : a.length = Ss.length) (hb : b.length = Ss.length) : F_holds_between [.d (.tuple (Ss.map sD)), .d (hsD a), .d (hsD b)] M = some (.obj M.length, M ++ [.lst (wsF (btw Ss a b))]) := by
  have wf : ∀ S ∈ Ss, Wf S := fun S hS => (sd.goodS S hS).wf sd.pos
  have few : Ss.length <= 1000 := Nat.le_trans sd.len (by decide)
  have e1 := F_holds_met_eq (M := M) (Ss := Ss) (xs := a) (ys := b) wf ha.symm hb.symm few
  have e2 := F_holds_met_eq (M := M) (Ss := Ss) (xs := b) (ys := a) wf hb.symm ha.symm few
  have m1 : ∀ a b : List Hold, ((metL Ss a b).map fun p => hD p.1) = (met1 Ss a b).map hD := fun a b => by simp [met1, List.map_map, Function.comp_def]
  have m2 : ∀ a b : List Hold, ((metL Ss a b).map fun p => hD p.2) = (met2 Ss a b).map hD := fun a b => by simp [met2, List.map_map, Function.comp_def]
  rw [m1, m2] at e1 e2
  have e1 : F_holds_met [.d (.tuple (Ss.map sD)), .d (hsD a), .d (hsD b)] M = some (.d (.tuple [hsD (met1 Ss a b), hsD (met2 Ss a b)]), M) := e1
  have e2 : F_holds_met [.d (.tuple (Ss.map sD)), .d (hsD b), .d (hsD a)] M = some (.d (.tuple [hsD (met1 Ss b a), hsD (met2 Ss b a)]), M) := e2
  have nm := norm_l (M := M) (M1 := M) (j := 0) (us := wsF (btw Ss a b)) (J := [.lst (wsF (btw Ss a b))]) rfl (by simp [isD]) .refl
  simp only [Nat.add_zero, wsF, btw, List.map_cons, List.map_nil] at nm
  simp only [wsF, btw, List.map_cons, List.map_nil]
  generalize hsD (met1 Ss a b) = d1 at *
  generalize hsD (met2 Ss a b) = d2 at *
  generalize hsD (met1 Ss b a) = d3 at *
  generalize hsD (met2 Ss b a) = d4 at *
  generalize hsD a = da at *
  generalize hsD b = db at *
  simp [F_holds_between, nf, fnV, g_holds_between, aStar, e1, e2, small_size, nm]
theorem sorts_is : F_sorts_of = K23.F_sorts_of := rfl
theorem fresh_is : F_fresh = K23.F_fresh := rfl
theorem first_eq (sd : Said y Ss kk) : F_first_holds [.d (yD y)] M = some (.obj M.length, M ++ [.lst (wsF ((List.range kk).map (frL Ss)))]) := by
  have so := fun M => K23.F_sorts_of_eq (M := M) sd
  rw [<- sorts_is] at so
  have k6 := sd.few
  have e := lc_map (deps := []) (g := gN 1) (e := eOp oIx (eDef 2 F_fresh (aCons (eVar 0) (aCons (eVar 1) aNil))) (eC (.int 2))) (ρ0 := [some (.d (yD y)), none]) (M := M) (List.range kk) (fun k => .d (.int (k : Int))) (fun k => .d (hsD (frL Ss k))) (fun _ => by simp) (by simp; omega) fun k hk => by
    have hk : k < kk := List.mem_range.mp hk
    refine ⟨[some (.d (yD y)), some (.d (.int (k : Int)))], by simp, fun acc => ?_⟩
    have fe := K23.F_fresh_eq (M := M ++ [.lst acc]) sd hk
    rw [<- fresh_is] at fe
    have st : stD (freshS Ss k) = .tuple [.str "member", .int (k : Int), hsD (frL Ss k)] := rfl
    have a2 : atI [W.d (.str "member"), .d (.int (k : Int)), .d (hsD (frL Ss k))] 2 = some (.d (hsD (frL Ss k))) := rfl
    generalize hsD (frL Ss k) = dd at *
    simp [fe, st, a2]
  have nm := norm_l (M := M) (M1 := M) (j := 0) (us := wsF ((List.range kk).map (frL Ss))) (J := [.lst (wsF ((List.range kk).map (frL Ss)))]) rfl (by simp [isD]) .refl
  simp only [Nat.add_zero] at nm
  have ew : ((List.range kk).map fun k => W.d (hsD (frL Ss k))) = wsF ((List.range kk).map (frL Ss)) := by simp [List.map_map, Function.comp_def]
  rw [ew] at e
  have ir : InR (kk : Int) := InR.of (by omega) (by omega)
  have rg : iRange1 (aCons (eDef 1 F_sorts_of (aCons (eVar 0) aNil)) aNil) [some (.d (yD y)), none] M = some (((List.range kk).map fun (k : Nat) => .d (.int (k : Int)), []), M) := by
    have := x_range1 (M2 := M) (ρ := [some (.d (yD y)), none]) (M := M) (as := aCons (eDef 1 F_sorts_of (aCons (eVar 0) aNil)) aNil) (j := (kk : Int)) (by simp [so]) ir
    simpa using this
  generalize wsF ((List.range kk).map (frL Ss)) = ws at *
  simp [F_first_holds, nf, fnV, g_first_holds, rg, e, nm]
end
end K53
namespace K53
open PySem PySem.Spec PyProof.Rows L2 Sa Va Pg
open Lw (GoodS Said)
open Classical
section
variable {M : Mem} {y : Say} {Ss : List Simple} {kk i n d : Nat} {a b x : List Hold} {F R : List (List Hold)} {J : Mem}
theorem fk_app (us : List W) : fk M F n J ++ [.lst us] = fk M F n (J ++ [.lst us]) := by simp [fk]
theorem fk_new (us : List W) : (fk M F n (J ++ [.lst us]))[M.length + 2 + J.length]? = some (.lst us) := by
  have e : M.length + 2 + J.length = M.length + (J.length + 2) := by omega
  rw [e]
  simp [fk]
theorem fk_len : (fk M F n J).length = M.length + 2 + J.length := by
  simp [fk]
  omega
/-- the pair is done both ways -/
def Dn (Ss : List Simple) (F : List (List Hold)) (p q : Nat) : Prop := ∀ a b, F[p]? = some a -> F[q]? = some b -> ∀ x ∈ btw Ss a b, x ∈ F
theorem Dn.add (h : Dn Ss F p q) (hp : p < F.length) (hq : q < F.length) : Dn Ss (F ++ R) p q := fun a b ha hb x hx => by
  rw [List.getElem?_append_left hp] at ha
  rw [List.getElem?_append_left hq] at hb
  exact List.mem_append_left _ (h a b ha hb x hx)
theorem Cl.btw (ha : Cl Ss kk a) (hb : Cl Ss kk b) : ∀ x ∈ btw Ss a b, Cl Ss kk x := fun x hx => by
  simp only [K53.btw, List.mem_cons, List.not_mem_nil, or_false] at hx
  rcases hx with rfl | rfl | rfl | rfl
  · exact .one ha hb
  · exact .two ha hb
  · exact .one hb ha
  · exact .two hb ha
/-- so far -/
structure Far (Ss : List Simple) (kk : Nat) (F : List (List Hold)) (t u : Nat) : Prop where
  ok : FOk Ss kk F
  fr : ∀ i < kk, frL Ss i ∈ F
  done : ∀ p q, p < t -> q <= p -> Dn Ss F p q
  row : ∀ q < u, Dn Ss F t q
theorem Far.add (h : Far Ss kk F t u) (ok : FOk Ss kk (F ++ R)) (ht : t < F.length) (hu : u <= F.length) (nw : Dn Ss (F ++ R) t u) : Far Ss kk (F ++ R) t (u + 1) :=
  ⟨ok, fun i hi => List.mem_append_left _ (h.fr i hi), fun p q hp hq => (h.done p q hp hq).add (by omega) (by omega), fun q hq => by
    by_cases e : q = u
    · subst e; exact nw
    · exact (h.row q (by omega)).add ht (by omega)⟩
theorem Far.next (h : Far Ss kk F t (t + 1)) : Far Ss kk F (t + 1) 0 :=
  ⟨h.ok, h.fr, fun p q hp hq => by
    by_cases e : p = t
    · subst e; exact h.row q (by omega)
    · exact h.done p q (by omega) hq, fun q hq => by omega⟩
theorem Far.all (h : Far Ss kk F F.length 0) : All Ss kk F :=
  ⟨h.ok.nod, h.ok.few, fun x => ⟨h.ok.cl x, closed_all h.fr fun a ha b hb => by
    obtain ⟨p, hp, e⟩ := List.mem_iff_getElem.mp ha
    obtain ⟨q, hq, e2⟩ := List.mem_iff_getElem.mp hb
    have e := (List.getElem?_eq_getElem hp).trans (congrArg some e)
    have e2 := (List.getElem?_eq_getElem hq).trans (congrArg some e2)
    rcases Nat.le_total q p with z | z
    · have := h.done p q hp z a b e e2
      exact ⟨this _ (by simp), this _ (by simp)⟩
    · have := h.done q p hq z b a e2 e
      exact ⟨this _ (by simp), this _ (by simp)⟩⟩⟩
noncomputable def BI : EvS := (sSeq (sNX (sSet 7 (eOp oIx (eVar 2) (eVar 5)))) (sSeq (sNX (sSet 8 (eOp oIx (eVar 2) (eVar 6)))) (sFor (iSeq (eDef 3 (F_holds_between) (aCons (eVar 1) (aCons (eVar 7) (aCons (eVar 8) aNil))))) (gN 4) BN)))
noncomputable def BW : EvS := (sSeq (sFor (iRange1 (aCons (eOp oAdd (eVar 5) (eC (.int 1))) aNil)) (gN 6) BI) (sNX (sAug (fun i j => i + j) 5 (eC (.int 1)))))
noncomputable def CW : EvT := (tVal (eOp oLt (eVar 5) (eCall fLen (aCons (eVar 2) aNil))))
theorem g_holds_made_eq : g_holds_made = (sSeq (sNX (sSet 1 (eDef 1 (Pg.F_simples) (aCons (eVar 0) aNil)))) (sSeq (sNX (sSet 2 (eLst aNil))) (sSeq (sNX (sSet 3 eDict0))
    (sSeq (sFor (iSeq (eDef 1 (F_first_holds) (aCons (eVar 0) aNil))) (gN 4) BN) (sSeq (sNX (sSet 5 (eC (.int 0)))) (sSeq (whN CW BW 1000000) (sNX (sRet (eCall fTuple (aCons (eCall fSortL (aCons (eVar 2) aNil)) aNil)))))))))) := rfl
def v1W (Ss : List Simple) : Option W := some (.d (.tuple (Ss.map sD)))
def pairQ (v0 v5 v6 : Option W) (M : Mem) (Ss : List Simple) (kk : Nat) (F : List (List Hold)) (a b : List Hold) : Out -> Prop
  | .nx ρ M1 => ∃ w4 w7 w8 R n J, ρ = env9 v0 (v1W Ss) M w4 v5 v6 w7 w8 /\ M1 = fk M (F ++ R) n J /\ FOk Ss kk (F ++ R) /\ ∀ x ∈ btw Ss a b, x ∈ F ++ R
  | .rt w M1 => w = exW 0 /\ Big Ss kk /\ ∃ J, M1 = M ++ J
  | _ => False
theorem pair_ok (sd : Said y Ss kk) (ok : FOk Ss kk F) {t u : Nat} (ht : F[t]? = some a) (hu : F[u]? = some b) {v0 v4 v7 v8 : Option W} :
    Ok (BI (env9 v0 (v1W Ss) M v4 (some (.d (.int (t : Int)))) (some (.d (.int (u : Int)))) v7 v8) (fk M F n J)) (pairQ v0 (some (.d (.int (t : Int)))) (some (.d (.int (u : Int)))) M Ss kk F a b) := by
  have ca := ok.cl a (List.mem_of_getElem? ht)
  have cb := ok.cl b (List.mem_of_getElem? hu)
  have sq : seqOf (fk M F n J) (.obj M.length) = some (wsF F) := x_seqO fk_f
  have ix : ∀ (k : Nat) (z : List Hold), F[k]? = some z -> atI (wsF F) (k : Int) = some (.d (hsD z)) := fun k z hz => atI_nat' (by simp [wsF, hz])
  have i7 := ix t a ht
  have i8 := ix u b hu
  have be := between_eq (M := fk M F n J) sd (ca.len sd) (cb.len sd)
  rw [fk_app, fk_len] at be
  have nl := note_loop (M := M) (J := J ++ [.lst (wsF (btw Ss a b))]) sd (l := M.length + 2 + J.length) (us := wsF (btw Ss a b)) (fun F n => fk_new _) (v0 := v0) (v1 := v1W Ss) (v5 := some (.d (.int (t : Int)))) (v6 := some (.d (.int (u : Int)))) (v7 := some (.d (hsD a))) (v8 := some (.d (hsD b))) (btw Ss a b) F n v4 (ca.btw cb) ok
  have e : BI (env9 v0 (v1W Ss) M v4 (some (.d (.int (t : Int)))) (some (.d (.int (u : Int)))) v7 v8) (fk M F n J) = forL [(M.length + 2 + J.length, .lst (wsF (btw Ss a b)))] (gN 4) BN (wsF (btw Ss a b)) (env9 v0 (v1W Ss) M v4 (some (.d (.int (t : Int)))) (some (.d (.int (u : Int)))) (some (.d (hsD a))) (some (.d (hsD b)))) (fk M F n (J ++ [.lst (wsF (btw Ss a b))])) := by
    have la : lstAt (fk M F n (J ++ [.lst (wsF (btw Ss a b))])) (.obj (M.length + 2 + J.length)) = some (M.length + 2 + J.length, wsF (btw Ss a b)) := x_lstAt (fk_new _)
    unfold BI
    generalize BN = B at *
    generalize wsF (btw Ss a b) = ws at *
    generalize hsD a = da at *
    generalize hsD b = db at *
    generalize wsF F = wf at *
    generalize hM1 : fk M F n J = M1 at *
    generalize hM2 : fk M F n (J ++ [.lst ws]) = M2 at *
    unfold env9 v1W
    simp [sNX, sq, i7, i8, be, la]
  rw [e]
  refine nl.mono fun o q => ?_
  cases o with
  | nx ρ M1 =>
    obtain ⟨w4, R, n', e1, e2, ok2, al⟩ := q
    exact ⟨w4, _, _, R, n', _, e1, e2, ok2, al⟩
  | rt w M1 => exact q
  | bk ρ M1 => exact q
  | ct ρ M1 => exact q
def tooQ (M : Mem) (Ss : List Simple) (kk : Nat) (w : W) (M1 : Mem) : Prop := w = exW 0 /\ Big Ss kk /\ ∃ J, M1 = M ++ J
def rowI (v0 : Option W) (M : Mem) (Ss : List Simple) (kk t u : Nat) (ρ : Ev) (M1 : Mem) : Prop :=
  ∃ F w4 w6 w7 w8 n J, ρ = env9 v0 (v1W Ss) M w4 (some (.d (.int (t : Int)))) w6 w7 w8 /\ M1 = fk M F n J /\ Far Ss kk F t u /\ t < F.length
theorem row_turn (sd : Said y Ss kk) {v0 : Option W} {t u : Nat} (ut : u <= t) {ρ : Ev} {M1 : Mem} (h : rowI v0 M Ss kk t u ρ M1) :
    Ok (gN 6 (.d (.int (u : Int))) ρ) fun ρ1 => Ok (BI ρ1 M1) (forQ (rowI v0 M Ss kk t (u + 1)) (rowI v0 M Ss kk t (t + 1)) (tooQ M Ss kk)) := by
  obtain ⟨F, w4, w6, w7, w8, n, J, rfl, rfl, far, tF⟩ := h
  have ht : F[t]? = some F[t] := List.getElem?_eq_getElem tF
  have hu : F[u]? = some (F[u]'(by omega)) := List.getElem?_eq_getElem (by omega)
  refine ⟨env9 v0 (v1W Ss) M w4 (some (.d (.int (t : Int)))) (some (.d (.int (u : Int)))) w7 w8, rfl, ?_⟩
  refine (pair_ok (M := M) (n := n) (J := J) sd far.ok ht hu (v0 := v0) (v4 := w4) (v7 := w7) (v8 := w8)).mono fun o q => ?_
  cases o with
  | nx ρ M1 =>
    obtain ⟨w4, w7, w8, R, n', J', e1, e2, ok2, al⟩ := q
    refine ⟨F ++ R, w4, _, w7, w8, n', J', e1, e2, far.add ok2 tF (by omega) fun a b ha hb x hx => ?_, by simp; omega⟩
    rw [List.getElem?_append_left tF, ht] at ha
    rw [List.getElem?_append_left (by omega), hu] at hb
    cases ha
    cases hb
    exact al x hx
  | rt w M1 => exact q
  | bk ρ M1 => exact q.elim
  | ct ρ M1 => exact q.elim
theorem row_ok (sd : Said y Ss kk) {v0 : Option W} {t : Nat} {ρ : Ev} {M1 : Mem} (h : rowI v0 M Ss kk t 0 ρ M1) :
    Ok (sFor (iRange1 (aCons (eOp oAdd (eVar 5) (eC (.int 1))) aNil)) (gN 6) BI ρ M1) (endQ (rowI v0 M Ss kk t (t + 1)) (tooQ M Ss kk)) := by
  have t60 : t < 60 := by
    obtain ⟨F, w4, w6, w7, w8, n, J, rfl, rfl, far, tF⟩ := h
    have := far.ok.few
    omega
  have rg : iRange1 (aCons (eOp oAdd (eVar 5) (eC (.int 1))) aNil) ρ M1 = some (((List.range (t + 1)).map fun (k : Nat) => .d (.int (k : Int)), []), M1) := by
    obtain ⟨F, w4, w6, w7, w8, n, J, rfl, rfl, far, tF⟩ := h
    have := x_range1 (M2 := fk M F n J) (ρ := env9 v0 (v1W Ss) M w4 (some (.d (.int (t : Int)))) w6 w7 w8) (M := fk M F n J) (as := aCons (eOp oAdd (eVar 5) (eC (.int 1))) aNil) (j := ((t + 1 : Nat) : Int)) rfl (InR.of (by omega) (by omega))
    simpa using this
  have e : sFor (iRange1 (aCons (eOp oAdd (eVar 5) (eC (.int 1))) aNil)) (gN 6) BI ρ M1 = forL [] (gN 6) BI ((List.range (t + 1)).map fun (k : Nat) => .d (.int (k : Int))) ρ M1 := by
    rw [x_for, rg]
    rfl
  rw [e]
  refine for_ok (rowI v0 M Ss kk t) (rowI v0 M Ss kk t (t + 1)) (tooQ M Ss kk) (items0 := (List.range (t + 1)).map fun (k : Nat) => .d (.int (k : Int))) (fun _ _ _ _ _ => Deps.nil) (fun ρ M h => by simpa using h) (fun k w ρ M hw h => ?_) _ 0 ρ M1 rfl (Nat.zero_le _) h
  have kl : k < t + 1 := by
    have := (List.getElem?_eq_some_iff.mp hw).1
    simpa using this
  have : w = .d (.int (k : Int)) := by
    rw [List.getElem?_map, List.getElem?_range kl] at hw
    simpa using hw.symm
  subst this
  exact row_turn sd (by omega) h
def whI (v0 : Option W) (M : Mem) (Ss : List Simple) (kk m : Nat) (ρ : Ev) (M1 : Mem) : Prop :=
  ∃ (F : List (List Hold)) (t : Nat) (w4 w6 w7 w8 : Option W) (n : Nat) (J : Mem), ρ = env9 v0 (v1W Ss) M w4 (some (.d (.int (t : Int)))) w6 w7 w8 /\ M1 = fk M F n J /\ Far Ss kk F t 0 /\ t <= F.length /\ m = 60 - t
def whE (v0 : Option W) (M : Mem) (Ss : List Simple) (kk : Nat) (ρ : Ev) (M1 : Mem) : Prop :=
  ∃ F w4 w5 w6 w7 w8 n J, ρ = env9 v0 (v1W Ss) M w4 w5 w6 w7 w8 /\ M1 = fk M F n J /\ All Ss kk F
theorem rows_ok (sd : Said y Ss kk) {v0 : Option W} {m : Nat} {ρ : Ev} {M1 : Mem} (h : whI v0 M Ss kk m ρ M1) : Ok (whN CW BW 1000000 ρ M1) (endQ (whE v0 M Ss kk) (tooQ M Ss kk)) := by
  refine wh_ok (whI v0 M Ss kk) (whE v0 M Ss kk) (tooQ M Ss kk) (fun m ρ M1 h => ?_) m 1000000 ρ M1 (by obtain ⟨F, t, w4, w6, w7, w8, n, J, _, _, _, _, e⟩ := h; omega) h
  obtain ⟨F, t, w4, w6, w7, w8, n, J, rfl, rfl, far, tF, em⟩ := h
  have f60 := far.ok.few
  have cw : CW (env9 v0 (v1W Ss) M w4 (some (.d (.int (t : Int)))) w6 w7 w8) (fk M F n J) = some (decide (t < F.length), fk M F n J) := by
    have sq : seqOf (fk M F n J) (.obj M.length) = some (wsF F) := x_seqO fk_f
    have wl : (wsF F).length = F.length := by simp
    generalize wsF F = ws at *
    generalize fk M F n J = M1 at *
    unfold CW env9
    simp [sq, wl]
  refine .of cw ?_
  by_cases z : t < F.length
  · simp only [z, decide_true, if_true]
    unfold BW
    rw [ok_seq]
    refine (row_ok sd (v0 := v0) (t := t) ⟨F, w4, w6, w7, w8, n, J, rfl, rfl, far, z⟩).mono fun o q => ?_
    cases o with
    | nx ρ M1 =>
      obtain ⟨F, w4, w6, w7, w8, n, J, rfl, rfl, far, tF⟩ := q
      rw [thenQ_nx]
      have f60 := far.ok.few
      refine .of (x := .nx (env9 v0 (v1W Ss) M w4 (some (.d (.int ((t + 1 : Nat) : Int)))) w6 w7 w8) (fk M F n J)) rfl ?_
      exact ⟨60 - (t + 1), by omega, F, t + 1, w4, w6, w7, w8, n, J, rfl, rfl, far.next, tF, rfl⟩
    | rt w M1 => exact q
    | bk ρ M1 => exact q.elim
    | ct ρ M1 => exact q.elim
  · have e : t = F.length := by omega
    subst e
    rw [if_neg (by simp)]
    exact ⟨F, w4, _, w6, w7, w8, n, J, rfl, rfl, far.all⟩
theorem made_ok (sd : Said y Ss kk) (sm : F_simples [.d (yD y)] M = some (.d (.tuple (Ss.map sD)), M)) : Ok (F_holds_made [.d (yD y)] M) fun p => (p.1 = exW 0 /\ Big Ss kk /\ ∃ J, p.2 = M ++ J) ∨ ∃ F, All Ss kk F /\ p = (.d (.tuple ((canonH F).map hsD)), M) := by
  have gg : Ok (g_holds_made [some (.d (yD y)), none, none, none, none, none, none, none, none] M) fun o => match o with
      | .rt w M1 => (w = exW 0 /\ Big Ss kk /\ ∃ J, M1 = M ++ J) ∨ ∃ F, All Ss kk F /\ w = .d (.tuple ((canonH F).map hsD)) /\ ∃ J, M1 = M ++ J
      | _ => False := by
    rw [g_holds_made_eq]
    have e1 : sNX (sSet 1 (eDef 1 F_simples (aCons (eVar 0) aNil))) [some (.d (yD y)), none, none, none, none, none, none, none, none] M = some (.nx [some (.d (yD y)), v1W Ss, none, none, none, none, none, none, none] M) := by
      simp [sNX, sm, v1W]
    have e2 : sNX (sSet 2 (eLst aNil)) [some (.d (yD y)), v1W Ss, none, none, none, none, none, none, none] M = some (.nx [some (.d (yD y)), v1W Ss, some (.obj M.length), none, none, none, none, none, none] (M ++ [.lst []])) := by
      simp [sNX, small_size]
    have e3 : sNX (sSet 3 eDict0) [some (.d (yD y)), v1W Ss, some (.obj M.length), none, none, none, none, none, none] (M ++ [.lst []]) = some (.nx (env9 (some (.d (yD y))) (v1W Ss) M none none none none none) (fk M [] 0 [])) := by
      simp [sNX, eDict0, env9, fk]
    have fe := first_eq (M := fk M [] 0 []) sd
    rw [fk_app, fk_len] at fe
    have e4 : sFor (iSeq (eDef 1 (F_first_holds) (aCons (eVar 0) aNil))) (gN 4) BN (env9 (some (.d (yD y))) (v1W Ss) M none none none none none) (fk M [] 0 []) = forL [(M.length + 2 + 0, .lst (wsF ((List.range kk).map (frL Ss))))] (gN 4) BN (wsF ((List.range kk).map (frL Ss))) (env9 (some (.d (yD y))) (v1W Ss) M none none none none none) (fk M [] 0 ([] ++ [.lst (wsF ((List.range kk).map (frL Ss)))])) := by
      have la : lstAt (fk M [] 0 ([] ++ [.lst (wsF ((List.range kk).map (frL Ss)))])) (.obj (M.length + 2 + 0)) = some (M.length + 2 + 0, wsF ((List.range kk).map (frL Ss))) := x_lstAt (fk_new _)
      rw [x_for]
      have it : iSeq (eDef 1 (F_first_holds) (aCons (eVar 0) aNil)) (env9 (some (.d (yD y))) (v1W Ss) M none none none none none) (fk M [] 0 []) = some ((wsF ((List.range kk).map (frL Ss)), [(M.length + 2 + 0, .lst (wsF ((List.range kk).map (frL Ss))))]), fk M [] 0 ([] ++ [.lst (wsF ((List.range kk).map (frL Ss)))])) := by
        have ed : eDef 1 (F_first_holds) (aCons (eVar 0) aNil) (env9 (some (.d (yD y))) (v1W Ss) M none none none none none) (fk M [] 0 []) = some (.obj (M.length + 2 + 0), fk M [] 0 ([] ++ [.lst (wsF ((List.range kk).map (frL Ss)))])) := fe
        simp only [x_iseqO, ed, Option.bind_some, la]
      rw [it]
      rfl
    have nl := note_loop (M := M) (J := [] ++ [.lst (wsF ((List.range kk).map (frL Ss)))]) sd (l := M.length + 2 + 0) (us := wsF ((List.range kk).map (frL Ss))) (fun F n => fk_new (J := []) _) (v0 := some (.d (yD y))) (v1 := v1W Ss) (v5 := none) (v6 := none) (v7 := none) (v8 := none) ((List.range kk).map (frL Ss)) [] 0 none (fun x hx => by
      obtain ⟨i, hi, rfl⟩ := List.mem_map.mp hx
      exact .fresh i (List.mem_range.mp hi)) ⟨by simp, by simp, by simp⟩
    rw [ok_seq, e1, ok_some, thenQ_nx, ok_seq, e2, ok_some, thenQ_nx, ok_seq, e3, ok_some, thenQ_nx, ok_seq, e4]
    refine nl.mono fun o q => ?_
    cases o with
    | nx ρ M1 =>
      obtain ⟨w4, R, n, rfl, rfl, ok, al⟩ := q
      rw [List.nil_append] at ok al
      rw [List.nil_append, thenQ_nx, ok_seq]
      refine .of (x := .nx (env9 (some (.d (yD y))) (v1W Ss) M w4 (some (.d (.int ((0 : Nat) : Int)))) none none none) (fk M R n ([] ++ [.lst (wsF ((List.range kk).map (frL Ss)))]))) rfl ?_
      rw [thenQ_nx, ok_seq]
      refine (rows_ok sd (v0 := some (.d (yD y))) (m := 60 - 0) ⟨R, 0, w4, none, none, none, n, _, rfl, rfl, ⟨ok, fun i hi => al _ (List.mem_map.mpr ⟨i, List.mem_range.mpr hi, rfl⟩), fun p q hp => by omega, fun q hq => by omega⟩, Nat.zero_le _, rfl⟩).mono fun o q => ?_
      cases o with
      | nx ρ M1 =>
        obtain ⟨F, w4, w5, w6, w7, w8, n, J, rfl, rfl, all⟩ := q
        rw [thenQ_nx]
        have cl : ∀ x ∈ F, Cl Ss kk x := fun x hx => (all.mem x).mp hx
        have so := sortL_eq (M := fk M F n J) sd sd.some cl (l := M.length) fk_f
        have tu := tuple_hs (M := fk M F n J ++ [.lst (wsF (canonH F))]) (F := canonH F) (l := (fk M F n J).length) (by simp)
        have fin : sNX (sRet (eCall fTuple (aCons (eCall fSortL (aCons (eVar 2) aNil)) aNil))) (env9 (some (.d (yD y))) (v1W Ss) M w4 w5 w6 w7 w8) (fk M F n J) = some (.rt (.d (.tuple ((canonH F).map hsD))) (fk M F n J ++ [.lst (wsF (canonH F))])) := by
          generalize fk M F n J = M1 at *
          generalize wsF (canonH F) = ws at *
          generalize PyData.tuple ((canonH F).map hsD) = d at *
          unfold env9
          have ev : eCall fTuple (aCons (eCall fSortL (aCons (eVar 2) aNil)) aNil) [some (.d (yD y)), v1W Ss, some (.obj M.length), some (.obj (M.length + 1)), w4, w5, w6, w7, w8] M1 = some (.d d, M1 ++ [.lst ws]) := by
            simp only [eCall, aCons, aNil, eVar, List.getElem?_cons_zero, List.getElem?_cons_succ, Option.bind_some, Option.map_some, so, tu]
          simp only [sNX, x_ret, ev, Option.bind_some]
          rfl
        exact .of fin (.inr ⟨F, all, rfl, (.lst (wsF F) :: .dic (F.map kvD) n :: J) ++ [.lst (wsF (canonH F))], by simp [fk]⟩)
      | rt w M1 => exact .inl q
      | bk ρ M1 => exact q.elim
      | ct ρ M1 => exact q.elim
    | rt w M1 => exact .inl q
    | bk ρ M1 => exact q.elim
    | ct ρ M1 => exact q.elim
  obtain ⟨o, e, q⟩ := gg
  have fv : F_holds_made [.d (yD y)] M = (((g_holds_made [some (.d (yD y)), none, none, none, none, none, none, none, none] M).bind fun o => match o with
      | .rt w M' => some (w, M')
      | .nx ρ M' => some (.d .none, M')
      | _ => none).map fun p => if isD p.1 = true then norm M p else p) := rfl
  rw [fv, e]
  cases o with
  | rt w M1 =>
    rcases q with ⟨rfl, big, J, rfl⟩ | ⟨F, all, rfl, J, rfl⟩
    · exact .of rfl (.inl ⟨rfl, big, J, rfl⟩)
    · refine .of (x := (.d (.tuple ((canonH F).map hsD)), M)) ?_ (.inr ⟨F, all, rfl⟩)
      simp only [Option.bind_some, Option.map_some]
      rw [if_pos (show isD (W.d (PyData.tuple ((canonH F).map hsD))) = true from rfl), norm_data']
  | nx ρ M1 => exact q.elim
  | bk ρ M1 => exact q.elim
  | ct ρ M1 => exact q.elim
end
end K53
namespace K53
open PySem PySem.Spec PyProof.Rows L2 Sa Va Pg
open Lw (GoodS Said)
open Ls (lstS)
open Classical
section
variable {M : Mem} {y : Say} {Ss : List Simple} {kk i n d l : Nat} {a b x o : List Hold} {F K R W : List (List Hold)} {J : Mem}
theorem lay_hs : ∀ a : List Hold, PyData.canLayAll0 (a.map hD) = true
  | [] => rfl
  | p :: a => by
    have := lay_hs a
    simp [PyData.canLayAll0, this, hD, PyData.canLay0]
theorem shaped_hs (sd : Said y Ss kk) (h : ∀ x ∈ W, Cl Ss kk x) : SeqAt.shaped (.list (W.map hsD)) = true := Va.shaped_list (D := 60) (fun d hd => by
  obtain ⟨p, hp, rfl⟩ := List.mem_map.mp hd
  exact ⟨by simpa [hsD, PyData.canLay0] using lay_hs p, hs_depth sd (h p hp)⟩) (by decide)
/-- waiting and known -/
def wk (M : Mem) (W F : List (List Hold)) (n : Nat) (J : Mem) : Mem := M ++ (.lst (wsF W) :: .dic (F.map kvD) n :: J)
theorem wk_app (us : List Va.W) : wk M W F n J ++ [.lst us] = wk M W F n (J ++ [.lst us]) := by simp [wk]
theorem wk_new (us : List Va.W) : (wk M W F n (J ++ [.lst us]))[M.length + 2 + J.length]? = some (.lst us) := by
  have e : M.length + 2 + J.length = M.length + (J.length + 2) := by omega
  rw [e]
  simp [wk]
theorem wk_len : (wk M W F n J).length = M.length + 2 + J.length := by
  simp [wk]
  omega
theorem wk_w : (wk M W F n J)[M.length]? = some (.lst (wsF W)) := by simp [wk]
theorem wk_k : (wk M W F n J)[M.length + 1]? = some (.dic (F.map kvD) n) := by simp [wk]
theorem wk_old (h : M[l]? = some u) : (wk M W F n J)[l]? = some u := get_old h
theorem wk_set : (wk M W F n J).set M.length (.lst (wsF R)) = wk M R F n J := by simp [wk]
theorem wk_setk {m : Nat} : (wk M W F n J).set (M.length + 1) (.dic (K.map kvD) m) = wk M W K m J := by simp [wk]
def lenv (l kk : Nat) (M : Mem) (v5 v6 v7 : Option Va.W) : Ev := [some (.obj l), some (.d (.int (kk : Int))), some (.d (.int 60)), some (.obj M.length), some (.obj (M.length + 1)), v5, v6, v7]
noncomputable def BE : EvS := (sSeq (sExpr (sExtT (eVar 3) (eDef 3 (F__law_met) (aCons (eVar 0) (aCons (eVar 5) (aCons (eVar 6) aNil))))))
    (sExpr (sExtT (eVar 3) (eDef 3 (F__law_met) (aCons (eVar 0) (aCons (eVar 6) (aCons (eVar 5) aNil)))))))
noncomputable def BL : EvS := (sSeq (sSet 5 (ePopL (eVar 3)))
    (sSeq (sIf (tVal (eOp oNotInK (eVar 5) (eVar 4))) (sSeq (sPutD (eC (.bool true)) (eVar 4) (eVar 5))
    (sFor (iSeq (eCall fLstK (aCons (eVar 4) aNil))) (gN 6) BE)) sNil)
    (sIf (tVal (eOp oGt (eCall fLenK (aCons (eVar 4) aNil)) (eVar 2))) (sRet (eC .none)) sNil)))
noncomputable def CL : EvT := (tVal (eOp oNeL (eVar 3) (eLst aNil)))
theorem g__law_all_eq : g__law_all = (sSeq (sPar 3 4 (aCons (eLc (iRange1 (aCons (eVar 1) aNil)) (gN 7) tTrue (eDef 2 (F__law_fresh) (aCons (eVar 0) (aCons (eVar 7) aNil))) [7]) (aCons eDict0 aNil)))
    (sSeq (whN CL BL 1000000) (sRet (eCall fTuple (aCons (eCall fSortK (aCons (eVar 4) aNil)) aNil))))) := rfl
theorem ext_eq {e : EvE} {ρ : Ev} {p q : List Hold} (h3 : ρ[3]? = some (some (.obj M.length))) (he : e ρ (wk M W F n J) = some (.d (.tuple [hsD p, hsD q]), wk M W F n J)) (wl : W.length + 2 <= 1000000) : sExtT (eVar 3) e ρ (wk M W F n J) = some (.d .none, wk M (W ++ [p, q]) F n J) := by
  have la : lstAt (wk M W F n J) (.obj M.length) = some (M.length, wsF W) := x_lstAt wk_w
  have ev : eVar 3 ρ (wk M W F n J) = some (.obj M.length, wk M W F n J) := by
    unfold eVar
    rw [h3]
  have tu : tupOf (.d (.tuple [hsD p, hsD q])) = some [.d (hsD p), .d (hsD q)] := rfl
  simp only [sExtT, ev, Option.bind_some, la, he, tu]
  rw [if_pos (by simp only [List.length_map, List.length_cons, List.length_nil]; exact Nat.le_trans wl (by decide))]
  rw [show wsF W ++ [Va.W.d (hsD p), .d (hsD q)] = wsF (W ++ [p, q]) from by simp, wk_set]
theorem be_ok (sd : Said y Ss kk) (hl : M[l]? = some (lstS Ss)) (hx : x.length = Ss.length) (ho : o.length = Ss.length) (wl : W.length + 4 <= 1000000) {v7 : Option Va.W} :
    BE (lenv l kk M (some (.d (hsD x))) (some (.d (hsD o))) v7) (wk M W F n J) = some (.nx (lenv l kk M (some (.d (hsD x))) (some (.d (hsD o))) v7) (wk M (W ++ btw Ss x o) F n J)) := by
  have few : Ss.length <= 1000 := Nat.le_trans sd.len (by decide)
  have m1 := fun W => met_eq (M := wk M W F n J) (wk_old hl) sd.pos sd.goodS hx.symm ho.symm few
  have m2 := fun W => met_eq (M := wk M W F n J) (wk_old hl) sd.pos sd.goodS ho.symm hx.symm few
  have e1 := ext_eq (M := M) (W := W) (F := F) (n := n) (J := J) (e := eDef 3 (F__law_met) (aCons (eVar 0) (aCons (eVar 5) (aCons (eVar 6) aNil)))) (ρ := lenv l kk M (some (.d (hsD x))) (some (.d (hsD o))) v7) (p := met1 Ss x o) (q := met2 Ss x o) rfl (m1 W) (by omega)
  have e2 := ext_eq (M := M) (W := W ++ [met1 Ss x o, met2 Ss x o]) (F := F) (n := n) (J := J) (e := eDef 3 (F__law_met) (aCons (eVar 0) (aCons (eVar 6) (aCons (eVar 5) aNil)))) (ρ := lenv l kk M (some (.d (hsD x))) (some (.d (hsD o))) v7) (p := met1 Ss o x) (q := met2 Ss o x) rfl (m2 _) (by simp; omega)
  rw [List.append_assoc] at e2
  unfold BE
  rw [x_seq, x_expr, e1]
  simp only [Option.bind_some]
  rw [x_expr, e2]
  rfl
theorem ext_loop (sd : Said y Ss kk) (hl : M[l]? = some (lstS Ss)) (hx : x.length = Ss.length) {k : Nat} {us : List Va.W} (hk : ∀ W, (wk M W F n J)[k]? = some (.lst us)) {v7 : Option Va.W} : ∀ (os : List (List Hold)) (W : List (List Hold)) (v6 : Option Va.W), (∀ o ∈ os, o.length = Ss.length) -> W.length + 4 * os.length <= 1000000 ->
    ∃ w6, forL [(k, .lst us)] (gN 6) BE (wsF os) (lenv l kk M (some (.d (hsD x))) v6 v7) (wk M W F n J) = some (.nx (lenv l kk M (some (.d (hsD x))) w6 v7) (wk M (W ++ os.flatMap (btw Ss x)) F n J))
  | [], W, v6, _, _ => ⟨v6, by
    simp only [List.map_nil, forL, List.flatMap_nil, List.append_nil]
    rw [if_pos (by rw [Deps.one]; exact hk W)]⟩
  | o :: os, W, v6, ho, wl => by
    simp only [List.length_cons] at wl
    obtain ⟨w6, e⟩ := ext_loop sd hl hx hk (v7 := v7) os (W ++ btw Ss x o) (some (.d (hsD o))) (fun z hz => ho z (List.mem_cons_of_mem _ hz)) (by simp; omega)
    refine ⟨w6, ?_⟩
    show forL _ _ _ (.d (hsD o) :: wsF os) _ _ = _
    simp only [forL]
    rw [if_pos (by rw [Deps.one]; exact hk W)]
    rw [show gN 6 (.d (hsD o)) (lenv l kk M (some (.d (hsD x))) v6 v7) = some (lenv l kk M (some (.d (hsD x))) (some (.d (hsD o))) v7) from rfl]
    simp only [Option.bind_some]
    rw [be_ok sd hl hx (ho o List.mem_cons_self) (by omega)]
    simp only [Option.bind_some]
    rw [e, List.flatMap_cons, List.append_assoc]
structure Wt (Ss : List Simple) (kk : Nat) (F W : List (List Hold)) : Prop where
  ok : FOk Ss kk F
  clW : ∀ x ∈ W, Cl Ss kk x
  fr : ∀ i < kk, frL Ss i ∈ F ∨ frL Ss i ∈ W
  cls : ∀ a ∈ F, ∀ b ∈ F, ∀ x ∈ btw Ss a b, x ∈ F ∨ x ∈ W
theorem Wt.all (h : Wt Ss kk F []) : All Ss kk F :=
  ⟨h.ok.nod, h.ok.few, fun x => ⟨h.ok.cl x, closed_all (fun i hi => by simpa using h.fr i hi) fun a ha b hb => by
    have := h.cls a ha b hb
    exact ⟨by simpa using this (met1 Ss a b) (by simp), by simpa using this (met2 Ss a b) (by simp)⟩⟩⟩
theorem Wt.old (h : Wt Ss kk F (W ++ [x])) (hx : x ∈ F) : Wt Ss kk F W := by
  have mv : ∀ z, z ∈ F ∨ z ∈ W ++ [x] -> z ∈ F ∨ z ∈ W := fun z hz => by
    rcases hz with k | k
    · exact .inl k
    · rcases List.mem_append.mp k with k | k
      · exact .inr k
      · simp only [List.mem_singleton] at k
        exact .inl (k ▸ hx)
  exact ⟨h.ok, fun z hz => h.clW z (List.mem_append_left _ hz), fun i hi => mv _ (h.fr i hi), fun a ha b hb z hz => mv z (h.cls a ha b hb z hz)⟩
theorem Wt.new (h : Wt Ss kk F (W ++ [x])) (hx : x ∉ F) (f60 : ¬ F.length = 60) : Wt Ss kk (F ++ [x]) (W ++ (F ++ [x]).flatMap (btw Ss x)) := by
  have cx : Cl Ss kk x := h.clW x (by simp)
  have mv : ∀ z, z ∈ F ∨ z ∈ W ++ [x] -> z ∈ F ++ [x] ∨ z ∈ W ++ (F ++ [x]).flatMap (btw Ss x) := fun z hz => by
    rcases hz with k | k
    · exact .inl (List.mem_append_left _ k)
    · rcases List.mem_append.mp k with k | k
      · exact .inr (List.mem_append_left _ k)
      · exact .inl (List.mem_append_right _ k)
  have ok := h.ok.add cx hx f60
  refine ⟨ok, fun z hz => ?_, fun i hi => mv _ (h.fr i hi), fun a ha b hb z hz => ?_⟩
  · rcases List.mem_append.mp hz with k | k
    · exact h.clW z (List.mem_append_left _ k)
    · obtain ⟨o, ho, k⟩ := List.mem_flatMap.mp k
      exact cx.btw (ok.cl o ho) z k
  · rcases List.mem_append.mp ha with ka | ka
    · rcases List.mem_append.mp hb with kb | kb
      · exact mv z (h.cls a ka b kb z hz)
      · simp only [List.mem_singleton] at kb
        subst kb
        refine .inr (List.mem_append_right _ (List.mem_flatMap.mpr ⟨a, ha, ?_⟩))
        simp only [List.mem_cons, List.not_mem_nil, or_false] at hz ⊢
        rcases hz with h | h | h | h
        · exact .inr (.inr (.inl h))
        · exact .inr (.inr (.inr h))
        · exact .inl h
        · exact .inr (.inl h)
    · simp only [List.mem_singleton] at ka
      subst ka
      exact .inr (List.mem_append_right _ (List.mem_flatMap.mpr ⟨b, hb, hz⟩))
theorem btw_len (F : List (List Hold)) : (F.flatMap (btw Ss x)).length = 4 * F.length := by
  induction F with
  | nil => rfl
  | cons o F ih =>
    rw [List.flatMap_cons, List.length_append, ih]
    simp
    omega
end
end K53
namespace K53
open PySem PySem.Spec PyProof.Rows L2 Sa Va Pg
open Lw (GoodS Said)
open Ls (lstS)
open Classical
section
variable {M : Mem} {y : Say} {Ss : List Simple} {kk i n d l : Nat} {a x o : List Hold} {F W : List (List Hold)} {J : Mem} {v5 v6 v7 : Option Va.W}
theorem cl_eq (sd : Said y Ss kk) (h : ∀ x ∈ W, Cl Ss kk x) : CL (lenv l kk M v5 v6 v7) (wk M W F n J) = some (!W.isEmpty, wk M W F n (J ++ [.lst []])) := by
  have hi : (wk M W F n (J ++ [.lst []]))[M.length]? = some (.lst ((W.map hsD).map Va.W.d)) := by
    rw [wk_w, List.map_map]
    rfl
  have e := neL_nil hi (wk_new (M := M) (W := W) (F := F) (n := n) (J := J) []) (shaped_hs sd h)
  have ie : (W.map hsD).isEmpty = W.isEmpty := by cases W <;> rfl
  rw [ie] at e
  have en : eLst aNil (lenv l kk M v5 v6 v7) (wk M W F n J) = some (.obj (M.length + 2 + J.length), wk M W F n (J ++ [.lst []])) := by
    have : eLst aNil (lenv l kk M v5 v6 v7) (wk M W F n J) = some (.obj (wk M W F n J).length, wk M W F n J ++ [.lst []]) := rfl
    rw [this, wk_len, wk_app]
  have ev : eVar 3 (lenv l kk M v5 v6 v7) (wk M W F n J) = some (.obj M.length, wk M W F n J) := rfl
  unfold CL
  simp only [tVal, eOp, ev, en, Option.bind_some, e, asB, Option.map_some]
theorem pop_eq : ePopL (eVar 3) (lenv l kk M v5 v6 v7) (wk M (W ++ [x]) F n J) = some (.d (hsD x), wk M W F n J) := by
  have ev : eVar 3 (lenv l kk M v5 v6 v7) (wk M (W ++ [x]) F n J) = some (.obj M.length, wk M (W ++ [x]) F n J) := rfl
  have la : lstAt (wk M (W ++ [x]) F n J) (.obj M.length) = some (M.length, wsF (W ++ [x])) := x_lstAt wk_w
  have g : (wsF (W ++ [x]))[(wsF (W ++ [x])).length - 1]? = some (.d (hsD x)) := by simp [wsF]
  have dl : (wsF (W ++ [x])).dropLast = wsF W := by simp [wsF]
  simp only [ePopL, ev, Option.bind_some, la, g, dl, wk_set]
theorem lenK_eq : eCall fLenK (aCons (eVar 4) aNil) (lenv l kk M v5 v6 v7) (wk M W F n J) = some (.d (.int (F.length : Int)), wk M W F n J) := by
  have da : dicAt (wk M W F n J) (.obj (M.length + 1)) = some (M.length + 1, F.map kvD) := by simp [dicAt, wk_k]
  have : eCall fLenK (aCons (eVar 4) aNil) (lenv l kk M v5 v6 v7) (wk M W F n J) = fLenK [.obj (M.length + 1)] (wk M W F n J) := rfl
  rw [this]
  simp only [fLenK, da, Option.bind_some, List.length_map]
theorem gt_eq : tVal (eOp oGt (eCall fLenK (aCons (eVar 4) aNil)) (eVar 2)) (lenv l kk M v5 v6 v7) (wk M W F n J) = some (decide (60 < F.length), wk M W F n J) := by
  have ev : eVar 2 (lenv l kk M v5 v6 v7) (wk M W F n J) = some (.d (.int 60), wk M W F n J) := rfl
  simp only [tVal, eOp, lenK_eq, ev, Option.bind_some]
  have : oGt (.d (.int (F.length : Int))) (.d (.int 60)) (wk M W F n J) = some (.d (.bool (decide ((60 : Int) < F.length))), wk M W F n J) := rfl
  rw [this]
  simp only [Option.bind_some, asB, Option.map_some]
  congr 2
  simp only [decide_eq_decide]
  omega
theorem notin_eq (key : keyD (.d (hsD x)) = some (hsD x)) : tVal (eOp oNotInK (eVar 5) (eVar 4)) (lenv l kk M (some (.d (hsD x))) v6 v7) (wk M W F n J) = some (!decide (x ∈ F), wk M W F n J) := by
  have da : dicAt (wk M W F n J) (.obj (M.length + 1)) = some (M.length + 1, F.map kvD) := by simp [dicAt, wk_k]
  have e5 : eVar 5 (lenv l kk M (some (.d (hsD x))) v6 v7) (wk M W F n J) = some (.d (hsD x), wk M W F n J) := rfl
  have e4 : eVar 4 (lenv l kk M (some (.d (hsD x))) v6 v7) (wk M W F n J) = some (.obj (M.length + 1), wk M W F n J) := rfl
  simp only [tVal, eOp, e5, e4, Option.bind_some, oNotInK, da, key, get_kv, asB, Option.map_some]
theorem putk_eq (key : keyD (.d (hsD x)) = some (hsD x)) (hx : x ∉ F) (f : F.length <= 60) : sPutD (eC (.bool true)) (eVar 4) (eVar 5) (lenv l kk M (some (.d (hsD x))) v6 v7) (wk M W F n J) = some (.nx (lenv l kk M (some (.d (hsD x))) v6 v7) (wk M W (F ++ [x]) (n + 1) J)) := by
  have da : dicAt (wk M W F n J) (.obj (M.length + 1)) = some (M.length + 1, F.map kvD) := by simp [dicAt, wk_k]
  have st : stampAt (wk M W F n J) (M.length + 1) = n := by simp [stampAt, wk_k]
  have e5 : eVar 5 (lenv l kk M (some (.d (hsD x))) v6 v7) (wk M W F n J) = some (.d (hsD x), wk M W F n J) := rfl
  have e4 : eVar 4 (lenv l kk M (some (.d (hsD x))) v6 v7) (wk M W F n J) = some (.obj (M.length + 1), wk M W F n J) := rfl
  have ec : eC (.bool true) (lenv l kk M (some (.d (hsD x))) v6 v7) (wk M W F n J) = some (.d (.bool true), wk M W F n J) := rfl
  simp only [sPutD, ec, e5, e4, Option.bind_some, asD, key, da, st, put_kv hx]
  rw [if_pos (by rw [List.length_map]; exact Nat.lt_of_le_of_lt f (by decide)), wk_setk]
def lI (l kk : Nat) (M : Mem) (Ss : List Simple) (m : Nat) (ρ : Ev) (M1 : Mem) : Prop :=
  ∃ (F W : List (List Hold)) (v5 v6 v7 : Option Va.W) (n : Nat) (J : Mem), ρ = lenv l kk M v5 v6 v7 /\ M1 = wk M W F n J /\ Wt Ss kk F W /\ m = W.length + (60 - F.length) * 300 /\ m <= 20000
def lE (l kk : Nat) (M : Mem) (Ss : List Simple) (ρ : Ev) (M1 : Mem) : Prop :=
  ∃ (F : List (List Hold)) (v5 v6 v7 : Option Va.W) (n : Nat) (J : Mem), ρ = lenv l kk M v5 v6 v7 /\ M1 = wk M [] F n J /\ All Ss kk F
def lR (kk : Nat) (M : Mem) (Ss : List Simple) (w : Va.W) (M1 : Mem) : Prop := w = .d .none /\ Big Ss kk /\ ∃ J, M1 = M ++ J
theorem bl_ok (sd : Said y Ss kk) (hl : M[l]? = some (lstS Ss)) {m : Nat} (wt : Wt Ss kk F (W ++ [x])) (hm : m = (W ++ [x]).length + (60 - F.length) * 300) (m2 : m <= 20000) :
    Ok (BL (lenv l kk M v5 v6 v7) (wk M (W ++ [x]) F n J)) (forQ (fun ρ2 M2 => ∃ m', m' < m /\ lI l kk M Ss m' ρ2 M2) (lE l kk M Ss) (lR kk M Ss)) := by
  have cx : Cl Ss kk x := wt.clW x (by simp)
  have key := key_hs sd cx
  have f60 := wt.ok.few
  have e1 : sSet 5 (ePopL (eVar 3)) (lenv l kk M v5 v6 v7) (wk M (W ++ [x]) F n J) = some (.nx (lenv l kk M (some (.d (hsD x))) v6 v7) (wk M W F n J)) := by
    rw [x_set, pop_eq]
    rfl
  rw [List.length_append] at hm
  simp only [List.length_singleton] at hm
  unfold BL
  rw [ok_seq, e1, ok_some, thenQ_nx, ok_seq, x_if, notin_eq key]
  simp only [Option.bind_some]
  by_cases hx : x ∈ F
  · rw [if_neg (by simp [hx])]
    rw [show sNil (lenv l kk M (some (.d (hsD x))) v6 v7) (wk M W F n J) = some (.nx (lenv l kk M (some (.d (hsD x))) v6 v7) (wk M W F n J)) from rfl, ok_some, thenQ_nx, x_if, gt_eq]
    simp only [Option.bind_some]
    rw [if_neg (by simp; omega)]
    refine .of (x := .nx (lenv l kk M (some (.d (hsD x))) v6 v7) (wk M W F n J)) rfl ?_
    exact ⟨W.length + (60 - F.length) * 300, by omega, F, W, _, v6, v7, n, J, rfl, rfl, wt.old hx, rfl, by omega⟩
  · rw [if_pos (by simp [hx])]
    rw [ok_seq, putk_eq key hx f60, ok_some, thenQ_nx]
    have da : dicAt (wk M W (F ++ [x]) (n + 1) J) (.obj (M.length + 1)) = some (M.length + 1, (F ++ [x]).map kvD) := by simp [dicAt, wk_k]
    have cl2 : ∀ o ∈ F ++ [x], Cl Ss kk o := fun o ho => by
      rcases List.mem_append.mp ho with k | k
      · exact wt.ok.cl o k
      · simp only [List.mem_singleton] at k
        exact k ▸ cx
    have lk : eCall fLstK (aCons (eVar 4) aNil) (lenv l kk M (some (.d (hsD x))) v6 v7) (wk M W (F ++ [x]) (n + 1) J) = some (.obj (M.length + 2 + J.length), wk M W (F ++ [x]) (n + 1) (J ++ [.lst (wsF (F ++ [x]))])) := by
      have : eCall fLstK (aCons (eVar 4) aNil) (lenv l kk M (some (.d (hsD x))) v6 v7) (wk M W (F ++ [x]) (n + 1) J) = fLstK [.obj (M.length + 1)] (wk M W (F ++ [x]) (n + 1) J) := rfl
      rw [this]
      have ek : (((F ++ [x]).map kvD).map fun e => Va.W.d e.1) = wsF (F ++ [x]) := by rw [List.map_map]; rfl
      simp only [fLstK, da, Option.bind_some, ek, wk_len, wk_app]
    have it : iSeq (eCall fLstK (aCons (eVar 4) aNil)) (lenv l kk M (some (.d (hsD x))) v6 v7) (wk M W (F ++ [x]) (n + 1) J) = some ((wsF (F ++ [x]), [(M.length + 2 + J.length, .lst (wsF (F ++ [x])))]), wk M W (F ++ [x]) (n + 1) (J ++ [.lst (wsF (F ++ [x]))])) := by
      have la : lstAt (wk M W (F ++ [x]) (n + 1) (J ++ [.lst (wsF (F ++ [x]))])) (.obj (M.length + 2 + J.length)) = some (M.length + 2 + J.length, wsF (F ++ [x])) := x_lstAt (wk_new _)
      simp only [x_iseqO, lk, Option.bind_some, la]
    obtain ⟨w6, el⟩ := ext_loop (M := M) (F := F ++ [x]) (n := n + 1) (J := J ++ [.lst (wsF (F ++ [x]))]) sd hl (cx.len sd) (fun W => wk_new _) (v7 := v7) (F ++ [x]) W v6 (fun o ho => (cl2 o ho).len sd) (by simp; omega)
    rw [x_for, it]
    simp only [Option.bind_some]
    rw [el, ok_some, thenQ_nx, x_if, gt_eq]
    simp only [Option.bind_some]
    by_cases l60 : F.length = 60
    · rw [if_pos (by simp; omega)]
      refine .of (x := .rt (.d .none) (wk M (W ++ (F ++ [x]).flatMap (btw Ss x)) (F ++ [x]) (n + 1) (J ++ [.lst (wsF (F ++ [x]))]))) rfl ?_
      exact ⟨rfl, wt.ok.big cx hx l60, _, rfl⟩
    · rw [if_neg (by simp; omega)]
      refine .of (x := .nx (lenv l kk M (some (.d (hsD x))) w6 v7) (wk M (W ++ (F ++ [x]).flatMap (btw Ss x)) (F ++ [x]) (n + 1) (J ++ [.lst (wsF (F ++ [x]))]))) rfl ?_
      have bl := btw_len (Ss := Ss) (x := x) (F ++ [x])
      refine ⟨(W ++ (F ++ [x]).flatMap (btw Ss x)).length + (60 - (F ++ [x]).length) * 300, ?_, F ++ [x], _, _, w6, v7, n + 1, _, rfl, rfl, wt.new hx l60, rfl, ?_⟩
      · rw [List.length_append, bl]
        simp only [List.length_append, List.length_singleton]
        omega
      · rw [List.length_append, bl]
        simp only [List.length_append, List.length_singleton]
        omega
theorem wl_ok (sd : Said y Ss kk) (hl : M[l]? = some (lstS Ss)) {m : Nat} {ρ : Ev} {M1 : Mem} (h : lI l kk M Ss m ρ M1) : Ok (whN CL BL 1000000 ρ M1) (endQ (lE l kk M Ss) (lR kk M Ss)) := by
  refine wh_ok (lI l kk M Ss) (lE l kk M Ss) (lR kk M Ss) (fun m ρ M1 h => ?_) m 1000000 ρ M1 (by obtain ⟨F, W, v5, v6, v7, n, J, _, _, _, e, e2⟩ := h; omega) h
  obtain ⟨F, W, v5, v6, v7, n, J, rfl, rfl, wt, hm, m2⟩ := h
  refine .of (cl_eq sd wt.clW) ?_
  rcases List.eq_nil_or_concat W with rfl | ⟨W', x, rfl⟩
  · rw [if_neg (by simp)]
    exact ⟨F, v5, v6, v7, n, _, rfl, rfl, wt.all⟩
  · rw [List.concat_eq_append] at wt hm ⊢
    rw [if_pos (by simp)]
    exact bl_ok sd hl wt hm m2
theorem all_ok (sd : Said y Ss kk) (hl : M[l]? = some (lstS Ss)) : Ok (F__law_all [.obj l, .d (.int (kk : Int)), .d (.int 60)] M) fun p => (p = (.d .none, M) /\ Big Ss kk) ∨ ∃ F, All Ss kk F /\ p = (.d (.tuple ((canonH F).map hsD)), M) := by
  have k6 := sd.few
  have gg : Ok (g__law_all [some (.obj l), some (.d (.int (kk : Int))), some (.d (.int 60)), none, none, none, none, none] M) fun o => match o with
      | .rt w M1 => (w = .d .none /\ Big Ss kk /\ ∃ J, M1 = M ++ J) ∨ ∃ F, All Ss kk F /\ w = .d (.tuple ((canonH F).map hsD)) /\ ∃ J, M1 = M ++ J
      | _ => False := by
    have lc := lc_map (deps := []) (g := gN 7) (e := eDef 2 (F__law_fresh) (aCons (eVar 0) (aCons (eVar 7) aNil))) (ρ0 := [some (.obj l), some (.d (.int (kk : Int))), some (.d (.int 60)), none, none, none, none, none]) (M := M) (List.range kk) (fun k => .d (.int (k : Int))) (fun k => .d (hsD (frL Ss k))) (fun _ => by simp) (by simp; omega) fun k hk => by
      have hk : k < kk := List.mem_range.mp hk
      refine ⟨[some (.obj l), some (.d (.int (kk : Int))), some (.d (.int 60)), none, none, none, none, some (.d (.int (k : Int)))], by simp, fun acc => ?_⟩
      exact fresh_eq (get_old hl) sd.pos hk sd.goodS (Nat.le_trans sd.len (by decide))
    have ew : ((List.range kk).map fun k => Va.W.d (hsD (frL Ss k))) = wsF ((List.range kk).map (frL Ss)) := by simp [List.map_map, Function.comp_def]
    rw [ew] at lc
    have rg : iRange1 (aCons (eVar 1) aNil) [some (.obj l), some (.d (.int (kk : Int))), some (.d (.int 60)), none, none, none, none, none] M = some (((List.range kk).map fun (k : Nat) => .d (.int (k : Int)), []), M) := by
      have := x_range1 (M2 := M) (ρ := [some (.obj l), some (.d (.int (kk : Int))), some (.d (.int 60)), none, none, none, none, none]) (M := M) (as := aCons (eVar 1) aNil) (j := (kk : Int)) rfl (InR.of (by omega) (by omega))
      simpa using this
    have el : eLc (iRange1 (aCons (eVar 1) aNil)) (gN 7) tTrue (eDef 2 (F__law_fresh) (aCons (eVar 0) (aCons (eVar 7) aNil))) [7] [some (.obj l), some (.d (.int (kk : Int))), some (.d (.int 60)), none, none, none, none, none] M = some (.obj M.length, M ++ [.lst (wsF ((List.range kk).map (frL Ss)))]) := by
      rw [x_lc, rg]
      simp only [Option.bind_some]
      rw [show wipeW [some (Va.W.obj l), some (.d (.int (kk : Int))), some (.d (.int 60)), none, none, none, none, none] [7] = [some (.obj l), some (.d (.int (kk : Int))), some (.d (.int 60)), none, none, none, none, none] from rfl, lc]
      rfl
    have e1 : sPar 3 4 (aCons (eLc (iRange1 (aCons (eVar 1) aNil)) (gN 7) tTrue (eDef 2 (F__law_fresh) (aCons (eVar 0) (aCons (eVar 7) aNil))) [7]) (aCons eDict0 aNil)) [some (.obj l), some (.d (.int (kk : Int))), some (.d (.int 60)), none, none, none, none, none] M = some (.nx (lenv l kk M none none none) (wk M ((List.range kk).map (frL Ss)) [] 0 [])) := by
      rw [x_par, x_acons, el]
      generalize hw : wsF ((List.range kk).map (frL Ss)) = ws at *
      simp [eDict0, lenv, wk]
      rw [<- hw]
      simp [wsF]
    rw [g__law_all_eq, ok_seq, e1, ok_some, thenQ_nx, ok_seq]
    refine (wl_ok sd hl (m := ((List.range kk).map (frL Ss)).length + (60 - 0) * 300) ⟨[], _, none, none, none, 0, [], rfl, rfl, ⟨⟨by simp, by simp, by simp⟩, fun x hx => by
      obtain ⟨i, hi, rfl⟩ := List.mem_map.mp hx
      exact .fresh i (List.mem_range.mp hi), fun i hi => .inr (List.mem_map.mpr ⟨i, List.mem_range.mpr hi, rfl⟩), fun a ha => by cases ha⟩, rfl, by simp; omega⟩).mono fun o q => ?_
    cases o with
    | nx ρ M1 =>
      obtain ⟨F, v5, v6, v7, n, J, rfl, rfl, all⟩ := q
      rw [thenQ_nx]
      have cl : ∀ x ∈ F, Cl Ss kk x := fun x hx => (all.mem x).mp hx
      have so := sortK_eq (M := wk M [] F n J) sd sd.some cl wk_k
      have tu := tuple_hs (M := wk M [] F n J ++ [.lst (wsF (canonH F))]) (F := canonH F) (l := (wk M [] F n J).length) (by simp)
      have ev : eCall fTuple (aCons (eCall fSortK (aCons (eVar 4) aNil)) aNil) (lenv l kk M v5 v6 v7) (wk M [] F n J) = some (.d (.tuple ((canonH F).map hsD)), wk M [] F n J ++ [.lst (wsF (canonH F))]) := by
        unfold lenv
        simp only [eCall, aCons, aNil, eVar, List.getElem?_cons_zero, List.getElem?_cons_succ, Option.bind_some, Option.map_some, so, tu]
      rw [x_ret, ev]
      refine .of rfl (.inr ⟨F, all, rfl, (.lst (wsF []) :: .dic (F.map kvD) n :: J) ++ [.lst (wsF (canonH F))], by simp [wk]⟩)
    | rt w M1 => exact .inl q
    | bk ρ M1 => exact q.elim
    | ct ρ M1 => exact q.elim
  obtain ⟨o, e, q⟩ := gg
  have fv : F__law_all [.obj l, .d (.int (kk : Int)), .d (.int 60)] M = ((g__law_all [some (.obj l), some (.d (.int (kk : Int))), some (.d (.int 60)), none, none, none, none, none] M).bind fun o => match o with
      | .rt w M' => some (w, M')
      | .nx ρ M' => some (.d .none, M')
      | _ => none).map (norm M) := rfl
  rw [fv, e]
  cases o with
  | rt w M1 =>
    rcases q with ⟨rfl, big, J, rfl⟩ | ⟨F, all, rfl, J, rfl⟩
    · refine .of (x := (.d .none, M)) ?_ (.inl ⟨rfl, big⟩)
      simp only [Option.bind_some, Option.map_some]
      rw [norm_data']
    · refine .of (x := (.d (.tuple ((canonH F).map hsD)), M)) ?_ (.inr ⟨F, all, rfl⟩)
      simp only [Option.bind_some, Option.map_some]
      rw [norm_data']
  | nx ρ M1 => exact q.elim
  | bk ρ M1 => exact q.elim
  | ct ρ M1 => exact q.elim
end
end K53
namespace K53
open PySem PySem.Spec PyProof.Rows L2 Sa Va Pg
open Lw (Upd GoodS Upd.refl Upd.trans Upd.split)
open Lx (HandX DrawsX)
section
variable {M : Mem} {h kk j : Nat} {n m many : Int}
theorem b_take {many : Int} (mp : 0 < many) (mb : many < 2 ^ 60) : DrawsX F__law_take (fun h => [.obj h, .d (.int many)]) 1 (fun w => ∃ v, w = .d (.int v) /\ 0 <= v /\ v < many) :=
  fun M h n Q hd nb k => take_b hd (by omega) mp mb fun v M' v0 v1 hd' up => k _ M' ⟨v, rfl, v0, v1⟩ hd' up
theorem b_list {ws : List W} {Q : W × Mem -> Prop} {J1 J2 : Mem} (hd : HandX M h n) (nb : n < 2 ^ 40) (sz : 0 < ws.length) (sb : ws.length < 100000) (isd : ws.all isD = true)
    (k : ∀ w M', w ∈ ws -> HandX M' h (n + 1) -> Upd h M M' -> Q (w, M' ++ (J1 ++ .lst ws :: J2))) : Ok (F__law_of [.obj h, .obj (M.length + J1.length)] (M ++ (J1 ++ .lst ws :: J2))) Q := by
  refine of_b hd.app nb (by rw [get_newk]; simp) (by have := hd.lt; omega) sz sb isd fun w M' hw hd' up => ?_
  obtain ⟨M1, rfl, up1⟩ := up.split hd.lt
  exact k w M1 hw (hd'.unapp (by rw [up1.1]; exact hd.lt)) up1
theorem set_at {A B : Mem} {mo new : MO} : (A ++ (B ++ [mo])).set (A.length + B.length) new = A ++ (B ++ [new]) := by
  have e : ∀ A : Mem, (A ++ (B ++ [mo])).set (A.length + B.length) new = A ++ (B ++ [new]) := by
    intro A
    induction A with
    | nil =>
      simp only [List.nil_append, List.length_nil, Nat.zero_add]
      induction B with
      | nil => rfl
      | cons b B ih => simpa using ih
    | cons a A ih =>
      rw [List.length_cons, Nat.add_right_comm]
      simpa using ih
  exact e A
/-- draws a small number -/
def DrawI (e : EvE) (ρ : Ev) (h : Nat) : Prop := ∀ (M J : Mem) (n : Int) (Q : W × Mem -> Prop), HandX M h n -> n + 1 < 2 ^ 40 ->
  (∀ x M', -9 <= x -> x <= 9 -> HandX M' h (n + 1) -> Upd h M M' -> Q (.d (.int x), M' ++ J)) -> Ok (e ρ (M ++ J)) Q
theorem worths_b {e : EvE} {ρ0 : Ev} {sorts : Nat} {Q : Mem -> Prop} {J0 : Mem} (dr : ∀ w, DrawI e (ρ0.set j (some w)) h) (hj : j < ρ0.length) (hd : HandX M h n) (hs : sorts <= 6) (nb : n + 6 < 2 ^ 40)
    (k : ∀ (ws : List Int) M', ws.length = sorts -> (∀ w ∈ ws, -9 <= w /\ w <= 9) -> HandX M' h (n + 6) -> Upd h M M' -> Q (M' ++ (J0 ++ [.lst (ws.map fun i => .d (.int i))]))) :
    Ok (lcL [] (gN j) tTrue e ρ0 (M.length + J0.length) ((List.range sorts).map fun (k : Nat) => .d (.int (k : Int))) (M ++ (J0 ++ [.lst []]))) Q := by
  have len : ((List.range sorts).map fun (k : Nat) => W.d (.int (k : Int))).length = sorts := by simp
  refine Ok.mono (lc_ok (items0 := (List.range sorts).map fun (k : Nat) => .d (.int (k : Int))) (fun i M' => ∃ (ws : List Int) (M1 : Mem), M' = M1 ++ (J0 ++ [.lst (ws.map fun i => .d (.int i))]) /\ ws.length = i /\ (∀ w ∈ ws, -9 <= w /\ w <= 9) /\ HandX M1 h (n + i) /\ Upd h M M1)
    (fun _ _ _ _ => by simp) (fun i w M' hw ⟨ws, M1, e, l, r, hd1, up1⟩ => ?_) _ 0 _ rfl (Nat.zero_le _) ⟨[], M, rfl, rfl, fun _ h => by simp at h, by simpa using hd, .refl⟩) fun M' ⟨ws, M1, e, l, r, hd1, up1⟩ => ?_
  · subst e
    have hj' : i < sorts := by rw [<- len]; exact (List.getElem?_eq_some_iff.mp hw).1
    refine .of (x := ρ0.set j (some w)) (by simp [gN, hj]) (Ok.of rfl ?_)
    simp only [if_true]
    refine dr w M1 _ _ _ hd1 (by omega) fun x M2 x0 x1 hd2 up2 => ?_
    have l2 : M2.length = M.length := by rw [up2.1, up1.1]
    have g : (M2 ++ (J0 ++ [MO.lst (ws.map fun i => W.d (.int i))]))[M.length + J0.length]? = some (.lst (ws.map fun i => W.d (.int i))) := by
      rw [<- l2, get_newk]
      simp
    refine ⟨_, g, ?_, ws ++ [x], M2, ?_, by simp [l], fun y hy => ?_, hd2.mono (by omega), up1.trans up2⟩
    · simp only [List.length_map, l]
      exact Nat.lt_of_lt_of_le (Nat.lt_of_lt_of_le hj' hs) (by decide)
    · show (M2 ++ (J0 ++ [MO.lst (ws.map fun i => W.d (.int i))])).set (M.length + J0.length) (.lst ((ws.map fun i => W.d (.int i)) ++ [.d (.int x)])) = _
      rw [<- l2, set_at]
      simp
    · rcases List.mem_append.mp hy with hy | hy
      · exact r y hy
      · rw [List.mem_singleton.mp hy]; exact ⟨x0, x1⟩
  · rw [len] at l hd1
    subst e
    exact k ws M1 l r (hd1.mono (by omega)) up1
theorem simple_b {wide : Int} (w0 : 0 < wide) (w9 : wide <= 9) (hs : kk <= 6) : DrawsX F__law_simple (fun h => [.obj h, .d (.int (kk : Int)), .d (.int wide)]) 12 (fun w => ∃ S, w = .d (sD S) /\ GoodS S kk) := by
  intro M h n Q hd nb k
  have tn : ((kk : Int)).toNat = kk := by omega
  have c2 : CMul 2 wide := Lw.cm_left (by decide)
  have dr : ∀ (ρ : Ev), ρ[0]? = some (some (.obj h)) -> ρ[2]? = some (some (.d (.int wide))) -> DrawI (eOp oSub (eDef 2 (F__law_take) (aCons (eVar 0) (aCons (eOp oAdd (eOp oMul (eC (.int 2)) (eVar 2)) (eC (.int 1))) aNil))) (eVar 2)) ρ h := by
    intro ρ h0 h2 M J n Q hd nb k
    simp [h0, h2, x_mul, c2]
    refine (b_take (many := 2 * wide + 1) (by omega) (by omega)).app hd (by omega) fun w M1 ⟨v, ev, v0, v1⟩ hd1 up1 => ?_
    subst ev
    simp
    exact k _ M1 (by omega) (by omega) hd1 up1
  simp [F__law_simple, nf, fnV, g__law_simple, tn]
  refine ⟨.of (by omega) (by omega), worths_b (J0 := []) (fun w => dr _ rfl rfl) (by simp) hd hs (by omega) fun ws M1 wl wr hd1 up1 => ?_⟩
  have mk : mkTup (ws.map fun i => W.d (.int i)) = .d (wsD ws) := mkTup_of' .int ws
  have l1 : M.length = M1.length := up1.1.symm
  simp [l1, mk]
  refine (b_take (by decide) (by decide)).app hd1 (by omega) fun w M2 ⟨v, ev, v0, v1⟩ hd2 up2 => ?_
  subst ev
  simp
  split
  · refine (b_take (by decide) (by decide)).app hd2 (by omega) fun w M3 ⟨m, em, m0, m1⟩ hd3 up3 => ?_
    subst em
    simp
    refine (b_take (many := 2 + m) (by omega) (by omega)).app hd3 (by omega) fun w M4 ⟨r, er, r0, r1⟩ hd4 up4 => ?_
    subst er
    have up := up1.trans (up2.trans (up3.trans up4))
    have hd5 : HandX M4 h (n + 12) := hd4.mono (by omega)
    simp [mk, small_size]
    rw [hd5.norm up rfl]
    exact k _ M4 ⟨.rest ws r (2 + m), rfl, wl, wr, (fun _ _ z => by cases z), (fun _ _ _ z => by cases z; omega), hs⟩ hd5 up
  · simp [x_mul, c2]
    refine (b_take (many := 2 * wide + 1) (by omega) (by omega)).app hd2 (by omega) fun w M3 ⟨m, em, m0, m1⟩ hd3 up3 => ?_
    subst em
    have up := up1.trans (up2.trans up3)
    have hd5 : HandX M3 h (n + 12) := hd3.mono (by omega)
    simp [mk, small_size]
    rw [hd5.norm up rfl]
    exact k _ M3 ⟨.sum ws (m - wide), rfl, wl, wr, (fun _ _ z => by cases z; omega), (fun _ _ _ z => by cases z), hs⟩ hd5 up
noncomputable abbrev dE : EvE := eOp oSub (eDef 2 (F__law_take) (aCons (eVar 0) (aCons (eC (.int 3)) aNil))) (eC (.int 1))
noncomputable abbrev rowE : EvE := eCall fTuple (aCons (eLc (iRange1 (aCons (eVar 1) aNil)) (gN 9) tTrue dE [9]) aNil)
theorem dE_i {ρ : Ev} (h0 : ρ[0]? = some (some (.obj h))) : DrawI dE ρ h := by
  intro M J n Q hd nb k
  simp [h0]
  refine (b_take (by decide) (by decide)).app hd (by omega) fun w M1 ⟨v, ev, v0, v1⟩ hd1 up1 => ?_
  subst ev
  simp
  exact k _ M1 (by omega) (by omega) hd1 up1
theorem rows_b {ρ0 : Ev} {Q : Mem -> Prop} (h0 : ρ0[0]? = some (some (.obj h))) (h1 : ρ0[1]? = some (some (.d (.int (kk : Int))))) (h9 : 9 < ρ0.length) (hd : HandX M h n) (hs : kk <= 6) (nb : n + 12 < 2 ^ 40)
    (k : ∀ (w1 w2 : List Int) M' J, (w1.length = kk /\ ∀ w ∈ w1, -9 <= w /\ w <= 9) -> (w2.length = kk /\ ∀ w ∈ w2, -9 <= w /\ w <= 9) -> HandX M' h (n + 12) -> Upd h M M' -> Q (M' ++ (.lst [.d (wsD w1), .d (wsD w2)] :: J))) :
    Ok (lcL [] (gN 8) tTrue rowE ρ0 M.length ((List.range 2).map fun (k : Nat) => .d (.int (k : Int))) (M ++ [.lst []])) Q := by
  refine Ok.mono (lc_ok (items0 := (List.range 2).map fun (k : Nat) => .d (.int (k : Int))) (fun i M' => ∃ (rows : List (List Int)) (M1 J : Mem), M' = M1 ++ (.lst (rows.map fun r => .d (wsD r)) :: J) /\ rows.length = i /\ (∀ r ∈ rows, r.length = kk /\ ∀ w ∈ r, -9 <= w /\ w <= 9) /\ HandX M1 h (n + 6 * i) /\ Upd h M M1)
    (fun _ _ _ _ => by simp) (fun i w M' hw ⟨rows, M1, J, e, l, r, hd1, up1⟩ => ?_) _ 0 _ rfl (Nat.zero_le _) ⟨[], M, [], rfl, rfl, fun _ h => by simp at h, by simpa using hd, .refl⟩) fun M' ⟨rows, M1, J, e, l, r, hd1, up1⟩ => ?_
  · subst e
    have hi : i < 2 := by
      have := (List.getElem?_eq_some_iff.mp hw).1
      simpa using this
    refine .of (x := ρ0.set 8 (some w)) rfl (Ok.of rfl ?_)
    simp only [if_true]
    have g0 : (ρ0.set 8 (some w))[0]? = some (some (.obj h)) := by rw [List.getElem?_set_ne (by decide)]; exact h0
    have g1 : (ρ0.set 8 (some w))[1]? = some (some (.d (.int (kk : Int)))) := by rw [List.getElem?_set_ne (by decide)]; exact h1
    have rg : iRange1 (aCons (eVar 1) aNil) (ρ0.set 8 (some w)) (M1 ++ (.lst (rows.map fun r => .d (wsD r)) :: J)) = some (((List.range kk).map fun (k : Nat) => .d (.int (k : Int)), []), M1 ++ (.lst (rows.map fun r => .d (wsD r)) :: J)) := by
      have := x_range1 (M2 := M1 ++ (.lst (rows.map fun r => .d (wsD r)) :: J)) (ρ := ρ0.set 8 (some w)) (M := M1 ++ (.lst (rows.map fun r => .d (wsD r)) :: J)) (as := aCons (eVar 1) aNil) (j := (kk : Int)) (by simp [g1]) (InR.of (by omega) (by omega))
      simpa using this
    have el : ∀ Q, Ok (rowE (ρ0.set 8 (some w)) (M1 ++ (.lst (rows.map fun r => .d (wsD r)) :: J))) Q ↔ Ok (lcL [] (gN 9) tTrue dE (wipeW (ρ0.set 8 (some w)) [9]) (M1.length + (MO.lst (rows.map fun r => .d (wsD r)) :: J).length) ((List.range kk).map fun (k : Nat) => .d (.int (k : Int))) (M1 ++ ((MO.lst (rows.map fun r => .d (wsD r)) :: J) ++ [.lst []]))) fun M2 => Ok (fTuple [.obj (M1.length + (MO.lst (rows.map fun r => .d (wsD r)) :: J).length)] M2) Q := by
      intro Q
      unfold rowE
      rw [x_call, x_acons, x_lc, rg]
      simp only [Option.bind_some, List.length_append, List.append_assoc, ok_bind, ok_some, aNil]
    rw [el]
    refine worths_b (fun w2 => dE_i ?_) ?_ hd1 hs (by omega) fun ws M2 wl wr hd2 up2 => ?_
    · simp only [x_wipe, x_wipe0]
      rw [List.getElem?_set_ne (by decide), List.getElem?_set_ne (by decide)]
      exact g0
    · simp [x_wipe, x_wipe0]
      omega
    · have l2 : M2.length = M1.length := up2.1
      have l1 : M1.length = M.length := up1.1
      have la : lstAt (M2 ++ ((MO.lst (rows.map fun r => .d (wsD r)) :: J) ++ [.lst (ws.map fun i => .d (.int i))])) (.obj (M1.length + (MO.lst (rows.map fun r => .d (wsD r)) :: J).length)) = some (M1.length + (MO.lst (rows.map fun r => .d (wsD r)) :: J).length, ws.map fun i => .d (.int i)) := by
        refine x_lstAt ?_
        rw [<- l2, get_newk]
        simp
      have mk : mkTup (ws.map fun i => W.d (.int i)) = .d (wsD ws) := mkTup_of' .int ws
      have ft : fTuple [.obj (M1.length + (MO.lst (rows.map fun r => .d (wsD r)) :: J).length)] (M2 ++ ((MO.lst (rows.map fun r => .d (wsD r)) :: J) ++ [.lst (ws.map fun i => .d (.int i))])) = some (.d (wsD ws), M2 ++ ((MO.lst (rows.map fun r => .d (wsD r)) :: J) ++ [.lst (ws.map fun i => .d (.int i))])) := by
        simp only [fTuple, la, Option.bind_some, mk]
        try rfl
      refine .of ft ⟨rows.map fun r => .d (wsD r), ?_, ?_, rows ++ [ws], M2, J ++ [.lst (ws.map fun i => .d (.int i))], ?_, by simp [l], fun r' hr' => ?_, hd2.mono (by omega), up1.trans up2⟩
      · show (M2 ++ ((MO.lst (rows.map fun r => .d (wsD r)) :: J) ++ [.lst (ws.map fun i => .d (.int i))]))[M.length]? = _
        rw [<- l1, <- l2]
        simp
      · simp only [List.length_map, l]
        exact Nat.lt_trans hi (by decide)
      · show (M2 ++ ((MO.lst (rows.map fun r => W.d (wsD r)) :: J) ++ [MO.lst (ws.map fun i => W.d (.int i))])).set M.length (MO.lst ((rows.map fun r => W.d (wsD r)) ++ [W.d (wsD ws)])) = _
        rw [<- l1, <- l2]
        simp
      · rcases List.mem_append.mp hr' with z | z
        · exact r r' z
        · rw [List.mem_singleton.mp z]; exact ⟨wl, wr⟩
  · have l2 : rows.length = 2 := by simpa using l
    subst e
    match rows, l2 with
    | [w1, w2], _ => exact k w1 w2 M1 J (r w1 (by simp)) (r w2 (by simp)) (by simpa using hd1) up1
/-- the rows of a saying of rests and sums -/
theorem saying_b {wide : Int} (w0 : 0 < wide) (w9 : wide <= 9) (hs : kk <= 6) : DrawsX F__law_saying (fun h => [.obj h, .d (.int (kk : Int)), .d (.int wide)]) 30 (fun w => ∃ y, w = .d (yD y) /\ (∀ S ∈ y.leaves, GoodS S kk) /\ y.deep <= 3 /\ y.leaves.length <= 2) := by
  intro M h n Q hd nb k
  have tn : ((kk : Int)).toNat = kk := by omega
  simp [F__law_saying, nf, fnV, g__law_saying]
  refine b_take (by decide) (by decide) M h n _ hd (by omega) fun w M1 ⟨t, ev, t0, t6⟩ hd1 up1 => ?_
  subst ev
  simp
  split
  · refine simple_b w0 w9 hs M1 h _ _ hd1 (by omega) fun w M2 ⟨S, eS, gS⟩ hd2 up2 => ?_
    subst eS
    have up := up1.trans up2
    have hd3 : HandX M2 h (n + 30) := hd2.mono (by omega)
    by_cases t2 : t = 2
    · have mk : W.d (.tuple [.str (Str.ofString "not"), sD S]) = .d (yD (.no (.one S))) := rfl
      simp [t2, small_size]
      rw [mk, hd3.norm0 up rfl]
      exact k _ M2 ⟨.no (.one S), rfl, by simpa [Say.leaves] using gS, by simp [Say.deep], by simp [Say.leaves]⟩ hd3 up
    · simp [t2]
      rw [hd3.norm0 up rfl]
      exact k _ M2 ⟨.one S, rfl, by simpa [Say.leaves] using gS, by simp [Say.deep], by simp [Say.leaves]⟩ hd3 up
  · refine ⟨.of (by decide) (by decide), rows_b rfl rfl (by simp) hd1 hs (by omega) fun w1 w2 M2 J k1 k2 hd2 up2 => ?_⟩
    have l2 : M1.length = M2.length := up2.1.symm
    simp [l2]
    have fin : ∀ (S T : Simple) (M3 J' : Mem), GoodS S kk -> GoodS T kk -> HandX M3 h (n + 30) -> Upd h M M3 -> Q (norm M (.d (yD (.an (.one S) (.one T))), M3 ++ J')) /\ Q (norm M (.d (yD (.or (.one T) (.one S))), M3 ++ J')) /\ Q (norm M (.d (yD (.an (.no (.one S)) (.one T))), M3 ++ J')) := by
      intro S T M3 J' gS gT hd3 up
      refine ⟨?_, ?_, ?_⟩
      · rw [hd3.norm up rfl]
        exact k _ M3 ⟨.an (.one S) (.one T), rfl, fun U hU => by
          simp only [Say.leaves, List.mem_append, List.mem_singleton] at hU
          rcases hU with rfl | rfl
          · exact gS
          · exact gT, by simp [Say.deep], by simp [Say.leaves]⟩ hd3 up
      · rw [hd3.norm up rfl]
        exact k _ M3 ⟨.or (.one T) (.one S), rfl, fun U hU => by
          simp only [Say.leaves, List.mem_append, List.mem_singleton] at hU
          rcases hU with rfl | rfl
          · exact gT
          · exact gS, by simp [Say.deep], by simp [Say.leaves]⟩ hd3 up
      · rw [hd3.norm up rfl]
        exact k _ M3 ⟨.an (.no (.one S)) (.one T), rfl, fun U hU => by
          simp only [Say.leaves, List.mem_append, List.mem_singleton] at hU
          rcases hU with rfl | rfl
          · exact gS
          · exact gT, by simp [Say.deep], by simp [Say.leaves]⟩ hd3 up
    have t3 : t = 3 ∨ t = 4 ∨ t = 5 := by omega
    refine (b_take (by decide) (by decide)).app hd2 (by omega) fun w M3 ⟨r, er, r0, r1⟩ hd3 up3 => ?_
    subst er
    simp
    refine (b_take (by decide) (by decide)).app hd3 (by omega) fun w M4 ⟨q, eq, q0, q1⟩ hd4 up4 => ?_
    subst eq
    have a1 : ∀ a b : W, atI [a, b] 1 = some b := fun _ _ => rfl
    have a3 : ∀ a b c : W, atI [a, b, c] 0 = some a := fun _ _ _ => rfl
    have a4 : ∀ a b c : W, atI [a, b, c] 1 = some b := fun _ _ _ => rfl
    have a5 : ∀ a b c : W, atI [a, b, c] 2 = some c := fun _ _ _ => rfl
    have gS : GoodS (.rest w1 r 2) kk := ⟨k1.1, k1.2, (fun _ _ z => by cases z), (fun _ _ _ z => by cases z; omega), hs⟩
    have l4 : M2.length = M4.length := (up3.trans up4).1.symm
    simp [l4, a1]
    split
    · refine (b_take (by decide) (by decide)).app hd4 (by omega) fun w M5 ⟨p, ep, p0, p1⟩ hd5 up5 => ?_
      subst ep
      have f := fun J' => fin (.rest w1 r 2) (.rest w2 p 3) M5 J' gS ⟨k2.1, k2.2, (fun _ _ z => by cases z), (fun _ _ _ z => by cases z; omega), hs⟩ (hd5.mono (by omega)) (up1.trans (up2.trans (up3.trans (up4.trans up5))))
      rcases t3 with rfl | rfl | rfl
      · simp [a3]
        exact (f _).1
      · simp [a4]
        exact (f _).2.1
      · simp [a5]
        exact (f _).2.2
    · refine (b_take (by decide) (by decide)).app hd4 (by omega) fun w M5 ⟨p, ep, p0, p1⟩ hd5 up5 => ?_
      subst ep
      have f := fun J' => fin (.rest w1 r 2) (.sum w2 p) M5 J' gS ⟨k2.1, k2.2, (fun _ _ z => by cases z; omega), (fun _ _ _ z => by cases z), hs⟩ (hd5.mono (by omega)) (up1.trans (up2.trans (up3.trans (up4.trans up5))))
      rcases t3 with rfl | rfl | rfl
      · simp [a3]
        exact (f _).1
      · simp [a4]
        exact (f _).2.1
      · simp [a5]
        exact (f _).2.2
theorem about_b : DrawsX F__law_about_sixty (fun h => [.obj h]) 5 (fun w => ∃ (S : Simple) (k : Nat), w = .d (sD S) /\ GoodS S k /\ 0 < k) := by
  intro M h n Q hd nb k
  simp [F__law_about_sixty, nf, fnV, g__law_about_sixty]
  refine b_take (by decide) (by decide) M h n _ hd (by omega) fun w M1 ⟨t, ev, t0, t6⟩ hd1 up1 => ?_
  subst ev
  simp [small_size]
  have first : Ok (F__law_of [.obj h, .obj M1.length] (M1 ++ [MO.lst [W.d (PyData.tuple [PyData.int 1]), W.d (PyData.tuple [PyData.int 1, PyData.int (-1)]), W.d (PyData.tuple [PyData.int 2, PyData.int (-1)]), W.d (PyData.tuple [PyData.int 3, PyData.int (-2)]), W.d (PyData.tuple [PyData.int 9, PyData.int 1])]])) fun p =>
      ∃ (ws : List Int) (k' : Nat) (M2 : Mem) (A : MO), p = (.d (wsD ws), M2 ++ [A]) /\ (ws.length = k' /\ ∀ w ∈ ws, -9 <= w /\ w <= 9) /\ 0 < k' /\ k' <= 6 /\ HandX M2 h (n + 2) /\ Upd h M1 M2 := by
    refine b_list (J1 := []) (J2 := []) hd1 (by omega) (by simp) (by simp) rfl fun w M2 hw hd2 up2 => ?_
    have hd3 : HandX M2 h (n + 2) := hd2.mono (by omega)
    simp only [List.mem_cons, List.not_mem_nil, or_false] at hw
    rcases hw with rfl | rfl | rfl | rfl | rfl
    · exact ⟨[1], 1, M2, _, rfl, by simp, by decide, by decide, hd3, up2⟩
    · exact ⟨[1, -1], 2, M2, _, rfl, by simp, by decide, by decide, hd3, up2⟩
    · exact ⟨[2, -1], 2, M2, _, rfl, by simp, by decide, by decide, hd3, up2⟩
    · exact ⟨[3, -2], 2, M2, _, rfl, by simp, by decide, by decide, hd3, up2⟩
    · exact ⟨[9, 1], 2, M2, _, rfl, by simp, by decide, by decide, hd3, up2⟩
  refine first.mono fun p ⟨ws, k', M2, A, ep, kw, k0, kb, hd2, up2⟩ => ?_
  subst ep
  have second : Ok (F__law_of [.obj h, .obj (M2.length + [A].length)] (M2 ++ ([A] ++ MO.lst [W.d (.int (8 + t - 1)), W.d (.int (1 - (8 + t)))] :: []))) fun p =>
      ∃ (c : Int) (M3 J : Mem), p = (.d (.int c), M3 ++ J) /\ -20 <= c /\ c <= 20 /\ HandX M3 h (n + 5) /\ Upd h M2 M3 := by
    refine b_list hd2 (by omega) (by simp) (by simp) rfl fun w M3 hw hd3 up3 => ?_
    have hd5 : HandX M3 h (n + 5) := hd3.mono (by omega)
    simp only [List.mem_cons, List.not_mem_nil, or_false] at hw
    rcases hw with rfl | rfl
    · exact ⟨_, M3, _, rfl, by omega, by omega, hd5, up3⟩
    · exact ⟨_, M3, _, rfl, by omega, by omega, hd5, up3⟩
  have e : (M2 ++ [A]) ++ [MO.lst [W.d (.int (8 + t - 1)), W.d (.int (1 - (8 + t)))]] = M2 ++ ([A] ++ MO.lst [W.d (.int (8 + t - 1)), W.d (.int (1 - (8 + t)))] :: []) := by simp
  have e2 : (M2 ++ [A]).length = M2.length + [A].length := by simp
  simp only []
  rw [e, e2]
  refine second.mono fun p ⟨c, M3, J, ep, c0, c1, hd5, up3⟩ => ?_
  subst ep
  have up := up1.trans (up2.trans up3)
  have mk : mkTup [W.d (.str (Str.ofString "sum")), W.d (wsD ws), W.d (.int c)] = .d (sD (.sum ws c)) := rfl
  simp only []
  rw [mk, hd5.norm up rfl]
  exact k _ M3 ⟨.sum ws c, k', rfl, ⟨kw.1, kw.2, (fun _ _ z => by cases z; omega), (fun _ _ _ z => by cases z), kb⟩, k0⟩ hd5 up
end
end K53
namespace K53
open PySem PySem.Spec PyProof.Rows L2 Sa Va Pg
open Lw (GoodS Said)
open Ls (lstS)
section
variable {M : Mem} {y : Say} {Ss : List Simple} {kk d l : Nat} {a x : List Hold} {F : List (List Hold)} {J : Mem}
theorem parts_is : ∀ k, F__law_parts k = K35.F__law_parts k
  | 0 => rfl
  | k + 1 => by
    show Va.nf (Va.fnV 3 (g__law_parts (F__law_parts k))) = Va.nf (Va.fnV 3 (K35.g__law_parts (K35.F__law_parts k)))
    rw [parts_is k]
    rfl
theorem simples_eq (sd : Said y Ss kk) : F_simples [.d (yD y)] M = some (.d (.tuple (Ss.map sD)), M) := by
  have e := F_simples_eq (M := M) y sd.deep sd.many sd.fewS
  rwa [<- sd.row] at e
/-- what is told of a saying's holds -/
def Told (Ss : List Simple) (kk : Nat) (d : PyData) : Prop := (d = .str "many" /\ Big Ss kk) ∨ ∃ F, All Ss kk F /\ d = .tuple ((canonH F).map hsD)
theorem Told.same {d d' : PyData} (h : Told Ss kk d) (h' : Told Ss kk d') : d = d' := by
  rcases h with ⟨rfl, big⟩ | ⟨F, all, rfl⟩
  · rcases h' with ⟨rfl, _⟩ | ⟨F, all, rfl⟩
    · rfl
    · exact absurd big all.not
  · rcases h' with ⟨rfl, big⟩ | ⟨F', all', rfl⟩
    · exact absurd big all.not
    · rw [all.same all']
theorem shw_hs (sd : Said y Ss kk) (h : Cl Ss kk a) : Shw (hsD a) 2 253 := by
  have sh := (h.ok sd).dr.shown sd.goodS sd.pos sd.len
  obtain ⟨hi, hl, hx⟩ := sh
  have r : ShwA (a.map hD) 1 250 := (ShwA.all fun d hd => by
    obtain ⟨x, mx, rfl⟩ := List.mem_map.mp hd
    exact shw_hold (hx x mx).1 (hx x mx).2).mono (Nat.le_refl _) (by simp; omega)
  exact (Shw.tup r).mono (by decide) (by decide)
theorem Told.rep (sd : Said y Ss kk) {d : PyData} (h : Told Ss kk d) : fRepS [.d d] M = some (.d (.str d.shown), M) := by
  have ok : ShowOkS d := by
    rcases h with ⟨rfl, _⟩ | ⟨F, all, rfl⟩
    · show (reprText "many").length <= sizeLine
      exact Nat.le_trans (by decide +kernel : (reprText "many").length <= 100) (by decide)
    · have len : (canonH F).length <= 60 := by rw [(canonH_perm F).length_eq]; exact all.few
      have r : ShwA ((canonH F).map hsD) 2 15300 := (ShwA.all fun d hd => by
        obtain ⟨x, mx, rfl⟩ := List.mem_map.mp hd
        exact shw_hs sd ((all.mem x).mp ((canonH_perm F).mem_iff.mp mx))).mono (Nat.le_refl _) (by simp; omega)
      exact .of ((Shw.tup r).show (by decide) (by decide) fun x h => by cases h)
  unfold fRepS
  simp only [deepD, Option.bind_some]
  rw [if_pos ok]
theorem heard_eq (sd : Said y Ss kk) : ∃ d, F__law_heard [.d (yD y)] M = some (.d d, M) /\ Told Ss kk d := by
  obtain ⟨p, e, q⟩ := made_ok (M := M) sd (simples_eq sd)
  rcases q with ⟨hx, big, J, hJ⟩ | ⟨F, all, rfl⟩
  · refine ⟨.str "many", ?_, .inl ⟨rfl, big⟩⟩
    obtain ⟨w, M1⟩ := p
    simp only at hx hJ
    subst hx hJ
    simp [F__law_heard, nf, fnV, g__law_heard, sTryX, e]
  · refine ⟨_, ?_, .inr ⟨F, all, rfl⟩⟩
    simp [F__law_heard, nf, fnV, g__law_heard, sTryX, e]
theorem parts_eq (sd : Said y Ss kk) (d4 : y.deep <= 4) (l10 : y.leaves.length <= 10) : F__law_parts 4 [.d (yD y)] M = some (.obj M.length, M ++ [lstS Ss]) := by
  have e := K35.parts_eq 4 y M d4 l10
  rw [<- parts_is, <- sd.row] at e
  exact e
noncomputable def B2 : EvS := (sSeq (sSet 9 (eCall fLen (aCons (eOp oIx (eOp oIx (eDef 1 (F__law_parts 4) (aCons (eVar 8) aNil)) (eC (.int 0))) (eC (.int 1))) aNil)))
    (sSeq (sSet 10 (eDef 3 (F__law_all) (aCons (eDef 1 (F__law_parts 4) (aCons (eVar 8) aNil)) (aCons (eVar 9) (aCons (eC (.int 60)) aNil)))))
    (sSeq (sSet 10 (eCall fRepS (aCons (eIf (tVal (eOp oIsN (eVar 10) (eC .none))) (eC (.str "many")) (eVar 10)) aNil)))
    (sIf (tOrE (tVal (eOp oNe (eCall fRepS (aCons (eDef 1 (F__law_heard) (aCons (eVar 8) aNil)) aNil)) (eVar 10))) (tVal (eOp oNe (eCall fRepS (aCons (eDef 1 (F__law_heard) (aCons (eVar 8) aNil)) aNil)) (eVar 10)))) (sRet (eC (.bool false))) sNil))))
theorem b2_ok (sd : Said y Ss kk) (d4 : y.deep <= 4) (l10 : y.leaves.length <= 10) {v0 v1 v2 v3 v4 v5 v6 v7 v9 v10 v11 : Option W} : ∃ w9 w10 J,
    B2 [v0, v1, v2, v3, v4, v5, v6, v7, some (.d (yD y)), v9, v10, v11] M = some (.nx [v0, v1, v2, v3, v4, v5, v6, v7, some (.d (yD y)), w9, w10, v11] (M ++ J)) := by
  have pe := fun M => parts_eq (M := M) sd d4 l10
  have hd := fun M => heard_eq (M := M) sd
  obtain ⟨S0, r, hS⟩ : ∃ S0 r, Ss = S0 :: r := by
    have := sd.some
    cases Ss with
    | nil => simp at this
    | cons S0 r => exact ⟨S0, r, rfl⟩
  have g0 : GoodS S0 kk := sd.goodS S0 (by rw [hS]; simp)
  have e9 : sSet 9 (eCall fLen (aCons (eOp oIx (eOp oIx (eDef 1 (F__law_parts 4) (aCons (eVar 8) aNil)) (eC (.int 0))) (eC (.int 1))) aNil)) [v0, v1, v2, v3, v4, v5, v6, v7, some (.d (yD y)), v9, v10, v11] M = some (.nx [v0, v1, v2, v3, v4, v5, v6, v7, some (.d (yD y)), some (.d (.int (kk : Int))), v10, v11] (M ++ [lstS Ss])) := by
    have a0 : atI (Ss.map fun S => W.d (sD S)) 0 = some (.d (sD S0)) := by rw [hS]; exact atI_nat' (k := 0) rfl
    have sq : seqOf (M ++ [lstS Ss]) (.obj M.length) = some (Ss.map fun S => W.d (sD S)) := x_seqO (by simp [lstS])
    have a1 : ∃ ds, sD S0 = .tuple ds /\ atI (ds.map W.d) 1 = some (.d (.tuple (S0.ws.map .int))) := by
      cases S0 with
      | sum ws c => exact ⟨_, rfl, rfl⟩
      | rest ws r m => exact ⟨_, rfl, rfl⟩
    obtain ⟨ds, hds, a1⟩ := a1
    have ln : (S0.ws.map PyData.int).length = kk := by rw [List.length_map]; exact g0.many
    generalize S0.ws.map PyData.int = us at *
    generalize (Ss.map fun S => W.d (sD S)) = ws at *
    generalize lstS Ss = L at *
    generalize yD y = yd at *
    simp [pe, sq, a0, hds, a1, ln]
  obtain ⟨p, eA, qA⟩ := all_ok (M := M ++ [lstS Ss] ++ [lstS Ss]) (l := (M ++ [lstS Ss]).length) sd (by simp)
  have n1 : ∀ M : Mem, oIsN (.d .none) (.d .none) M = some (.d (.bool true), M) := fun _ => rfl
  have n2 : ∀ (ds : List PyData) (M : Mem), oIsN (.d (.tuple ds)) (.d .none) M = some (.d (.bool false), M) := fun _ _ => rfl
  obtain ⟨d0, hp, d1, ht, hd1⟩ : ∃ d0, p = (.d d0, M ++ [lstS Ss] ++ [lstS Ss]) /\ ∃ d1, Told Ss kk d1 /\ ∀ (ρ : Ev) (M : Mem), ρ[10]? = some (some (.d d0)) -> eIf (tVal (eOp oIsN (eVar 10) (eC .none))) (eC (.str "many")) (eVar 10) ρ M = some (.d d1, M) := by
    rcases qA with ⟨rfl, big⟩ | ⟨F, all, rfl⟩
    · exact ⟨_, rfl, .str "many", .inl ⟨rfl, big⟩, fun ρ M h => by simp [h, n1]⟩
    · exact ⟨_, rfl, _, .inr ⟨F, all, rfl⟩, fun ρ M h => by simp [h, n2]⟩
  subst hp
  have hh : ∀ M, F__law_heard [.d (yD y)] M = some (.d d1, M) := fun M => by
    obtain ⟨d, e, t⟩ := hd M
    rw [e, t.same ht]
  have re := fun M => ht.rep (M := M) sd
  have e10 : sSet 10 (eDef 3 (F__law_all) (aCons (eDef 1 (F__law_parts 4) (aCons (eVar 8) aNil)) (aCons (eVar 9) (aCons (eC (.int 60)) aNil)))) [v0, v1, v2, v3, v4, v5, v6, v7, some (.d (yD y)), some (.d (.int (kk : Int))), v10, v11] (M ++ [lstS Ss]) = some (.nx [v0, v1, v2, v3, v4, v5, v6, v7, some (.d (yD y)), some (.d (.int (kk : Int))), some (.d d0), v11] (M ++ [lstS Ss] ++ [lstS Ss])) := by
    have pe := pe (M ++ [lstS Ss])
    generalize hM1 : M ++ [lstS Ss] = M1 at *
    generalize hM2 : M1 ++ [lstS Ss] = M2 at *
    simp [pe, eA]
  refine ⟨some (.d (.int (kk : Int))), some (.d (.str d1.shown)), [lstS Ss, lstS Ss], ?_⟩
  have em : M ++ [lstS Ss] ++ [lstS Ss] = M ++ [lstS Ss, lstS Ss] := by simp
  unfold B2
  rw [x_seq, e9]
  simp only [Option.bind_some]
  rw [x_seq, e10]
  simp only [Option.bind_some]
  rw [em]
  generalize M ++ [lstS Ss, lstS Ss] = M2 at *
  have h1 := fun M => hd1 [v0, v1, v2, v3, v4, v5, v6, v7, some (.d (yD y)), some (.d (.int (kk : Int))), some (.d d0), v11] M rfl
  rw [x_seq, x_set, x_call, x_acons, h1]
  generalize yD y = yd at *
  generalize d1.shown = str at *
  simp [re, hh]
end
end K53
namespace K53
open PySem PySem.Spec PyProof.Rows L2 Sa Va Pg
open Lw (Upd GoodS Said Upd.refl Upd.trans)
open Lx (HandX)
section
variable {M J : Mem} {h kk : Nat} {n j : Int} {ys : List Say} {v0 v1 v2 v3 v4 v5 v6 v7 v8 v9 v10 v11 : Option W} {Q : Out -> Prop}
abbrev ysW (ys : List Say) : List W := ys.map fun y => .d (yD y)
/-- a saying that the law hears -/
def SayOk (y : Say) : Prop := ∃ k, 0 < k /\ k <= 6 /\ (∀ S ∈ y.leaves, GoodS S k) /\ y.deep <= 4 /\ y.leaves.length <= 3
theorem SayOk.said {y : Say} (h : SayOk y) : ∃ k, Said y (rowOf y.leaves) k /\ y.deep <= 4 /\ y.leaves.length <= 10 := by
  obtain ⟨k, k0, k6, g, d, l⟩ := h
  exact ⟨k, ⟨rfl, by omega, by omega, g, k0, k6, Lw.row_ten (by omega)⟩, d, by omega⟩
theorem s3_ok (hd : HandX M h n) (nb : n + 1 < 2 ^ 40) (q : ∀ (kk : Nat) M', 0 < kk -> kk <= 3 -> HandX M' h (n + 1) -> Upd h M M' -> Q (.nx [v0, v1, some (.obj h), some (.d (.int (kk : Int))), v4, v5, v6, v7, v8, v9, v10, v11] M')) :
    Ok (sSet 3 (eOp oAdd (eC (.int 1)) (eDef 2 (F__law_take) (aCons (eVar 2) (aCons (eC (.int 3)) aNil)))) [v0, v1, some (.obj h), v3, v4, v5, v6, v7, v8, v9, v10, v11] M) Q := by
  simp
  refine b_take (by decide) (by decide) M h n _ hd nb fun w M1 ⟨v, ev, a0, a1⟩ hd1 up1 => ?_
  subst ev
  obtain ⟨k, rfl⟩ : ∃ k : Nat, v = k := ⟨v.toNat, by omega⟩
  have := q (1 + k) M1 (by omega) (by omega) hd1 up1
  simpa using this
theorem s4_ok (k0 : 0 < kk) (k3 : kk <= 3) (hd : HandX M h n) (nb : n + 60 < 2 ^ 40) (q : ∀ (ys : List Say) M', ys.length = 3 -> (∀ y ∈ ys, SayOk y) -> HandX M' h (n + 60) -> Upd h M M' -> Q (.nx [v0, v1, some (.obj h), some (.d (.int (kk : Int))), some (.obj M'.length), v5, v6, v7, v8, v9, v10, v11] (M' ++ [.lst (ysW ys)]))) :
    Ok (sSet 4 (eLst (aCons (eDef 3 (F__law_saying) (aCons (eVar 2) (aCons (eVar 3) (aCons (eC (.int 2)) aNil)))) (aCons (eDef 3 (F__law_simple) (aCons (eVar 2) (aCons (eVar 3) (aCons (eC (.int 4)) aNil)))) (aCons (eDef 3 (F__law_simple) (aCons (eVar 2) (aCons (eVar 3) (aCons (eC (.int 9)) aNil)))) aNil)))) [v0, v1, some (.obj h), some (.d (.int (kk : Int))), v4, v5, v6, v7, v8, v9, v10, v11] M) Q := by
  simp
  refine saying_b (by decide) (by decide) (by omega) M h n _ hd (by omega) fun w M1 ⟨y, ey, g, d, l⟩ hd1 up1 => ?_
  subst ey
  simp
  refine simple_b (by decide) (by decide) (by omega) M1 h _ _ hd1 (by omega) fun w M2 ⟨S, eS, gS⟩ hd2 up2 => ?_
  subst eS
  simp
  refine simple_b (by decide) (by decide) (by omega) M2 h _ _ hd2 (by omega) fun w M3 ⟨T, eT, gT⟩ hd3 up3 => ?_
  subst eT
  simp [small_size]
  have := q [y, .one S, .one T] M3 rfl (fun z hz => by
    simp only [List.mem_cons, List.not_mem_nil, or_false] at hz
    rcases hz with rfl | rfl | rfl
    · exact ⟨kk, k0, by omega, g, by omega, by omega⟩
    · exact ⟨kk, k0, by omega, by simpa [Say.leaves] using gS, by simp [Say.deep], by simp [Say.leaves]⟩
    · exact ⟨kk, k0, by omega, by simpa [Say.leaves] using gT, by simp [Say.deep], by simp [Say.leaves]⟩) (hd3.mono (by omega)) (up1.trans (up2.trans up3))
  exact this
theorem app_ok {e : EvE} {c : Int} {Ev0 : Ev} (h4 : Ev0[4]? = some (some (.obj M.length))) (few : ys.length <= 100)
    (he : ∀ Q : W × Mem -> Prop, (∀ y M' J', SayOk y -> HandX M' h (n + c) -> Upd h M M' -> Q (.d (yD y), M' ++ (.lst (ysW ys) :: J'))) -> Ok (e Ev0 (M ++ (.lst (ysW ys) :: J))) Q)
    (q : ∀ y M' J', SayOk y -> HandX M' h (n + c) -> Upd h M M' -> Q (.nx Ev0 (M' ++ (.lst (ysW (ys ++ [y])) :: J')))) : Ok (sExpr (sApp (eVar 4) e) Ev0 (M ++ (.lst (ysW ys) :: J))) Q := by
  have ev : eVar 4 Ev0 (M ++ (.lst (ysW ys) :: J)) = some (.obj M.length, M ++ (.lst (ysW ys) :: J)) := by
    unfold eVar
    rw [h4]
  have la : lstAt (M ++ (.lst (ysW ys) :: J)) (.obj M.length) = some (M.length, ysW ys) := x_lstAt (by simp)
  rw [x_expr]
  simp only [sApp, ev, Option.bind_some, la, ok_bind, ok_some]
  refine he _ fun y M' J' so hd up => ?_
  have l1 : M'.length = M.length := up.1
  have la2 : lstAt (M' ++ (.lst (ysW ys) :: J')) (.obj M.length) = some (M.length, ysW ys) := x_lstAt (by rw [<- l1]; simp)
  simp only [la2, ok_some]
  rw [if_pos (by simp only [List.length_map]; exact Nat.lt_of_le_of_lt few (by decide)), ok_some]
  have := q y M' J' so hd up
  rw [<- l1]
  simpa using this
theorem repT_eq (h0 : 0 < kk) (h1 : kk <= 3) : oRepT (.d (.tuple [.int 1])) (.d (.int (kk : Int))) M = some (.d (.tuple ((List.replicate kk (1 : Int)).map .int)), M) := by
  have : kk = 1 ∨ kk = 2 ∨ kk = 3 := by omega
  rcases this with rfl | rfl | rfl <;> rfl
theorem one_good {m r : Int} (m0 : 2 <= m) (m9 : m <= 9) (r0 : 0 <= r) (r1 : r < m) (k3 : kk <= 3) : GoodS (.rest (List.replicate kk 1) r m) kk :=
  ⟨by show (List.replicate kk (1 : Int)).length = kk; simp, fun w hw => by
    have : w = 1 := List.eq_of_mem_replicate hw
    omega, (fun _ _ z => by cases z), (fun _ _ _ z => by cases z; omega), by omega⟩
/-- about sixty -/
theorem ab_ok {Ev0 : Ev} (h2 : Ev0[2]? = some (some (.obj h))) (hd : HandX M h n) (nb : n + 5 < 2 ^ 40) {R : W × Mem -> Prop} (q : ∀ y M' J', SayOk y -> HandX M' h (n + 5) -> Upd h M M' -> R (.d (yD y), M' ++ (.lst (ysW ys) :: J'))) :
    Ok (eDef 1 (F__law_about_sixty) (aCons (eVar 2) aNil) Ev0 (M ++ (.lst (ysW ys) :: J))) R := by
  simp [h2]
  refine about_b.app hd nb fun w M1 ⟨S, k, eS, gS, k0⟩ hd1 up1 => ?_
  subst eS
  exact q (.one S) M1 J ⟨k, k0, gS.few, by simpa [Say.leaves] using gS, by simp [Say.deep], by simp [Say.leaves]⟩ hd1 up1
theorem s5_ok (k0 : 0 < kk) (k3 : kk <= 3) (hd : HandX M h n) (nb : n + 1 < 2 ^ 40) (q : ∀ r M', 0 <= r -> r < 7 -> HandX M' h (n + 1) -> Upd h M M' -> Q (.nx [v0, v1, some (.obj h), some (.d (.int (kk : Int))), v4, some (.d (sD (.rest (List.replicate kk 1) r 7))), v6, v7, v8, v9, v10, v11] (M' ++ J))) :
    Ok (sSet 5 (eTup (aCons (eC (.str "rest")) (aCons (eOp oRepT (eTup (aCons (eC (.int 1)) aNil)) (eVar 3)) (aCons (eDef 2 (F__law_take) (aCons (eVar 2) (aCons (eC (.int 7)) aNil))) (aCons (eC (.int 7)) aNil))))) [v0, v1, some (.obj h), some (.d (.int (kk : Int))), v4, v5, v6, v7, v8, v9, v10, v11] (M ++ J)) Q := by
  have m1 : mkTup [W.d (.int 1)] = .d (.tuple [.int 1]) := rfl
  have rt := fun M => repT_eq (M := M) k0 k3
  simp [small_size, rt]
  refine (b_take (by decide) (by decide)).app hd nb fun w M1 ⟨v, ev, a0, a1⟩ hd1 up1 => ?_
  subst ev
  simp [small_size]
  have := q v M1 a0 a1 hd1 up1
  simpa [sD, wsD] using this
theorem says_b {e : EvE} {ρ0 : Ev} {i6 : Nat} {items : List W} {Q : Mem -> Prop} {J0 : Mem} (dr : ∀ w ∈ items, ∀ (M J : Mem) (n : Int) (Q : W × Mem -> Prop), HandX M h n -> n + 1 < 2 ^ 40 -> (∀ y M', SayOk y -> HandX M' h (n + 1) -> Upd h M M' -> Q (.d (yD y), M' ++ J)) -> Ok (e (ρ0.set i6 (some w)) (M ++ J)) Q)
    (hd : HandX M h n) (hs : items.length <= 6) (nb : n + 6 < 2 ^ 40)
    (k : ∀ (zs : List Say) M', zs.length = items.length -> (∀ y ∈ zs, SayOk y) -> HandX M' h (n + 6) -> Upd h M M' -> Q (M' ++ (J0 ++ [.lst (ysW zs)]))) :
    Ok (lcL [] (gN i6) tTrue e ρ0 (M.length + J0.length) items (M ++ (J0 ++ [.lst []]))) Q := by
  refine Ok.mono (lc_ok (items0 := items) (fun i M' => ∃ (ws : List Say) (M1 : Mem), M' = M1 ++ (J0 ++ [.lst (ysW ws)]) /\ ws.length = i /\ (∀ y ∈ ws, SayOk y) /\ HandX M1 h (n + i) /\ Upd h M M1)
    (fun _ _ _ _ => by simp) (fun i w M' hw ⟨ws, M1, e, l, r, hd1, up1⟩ => ?_) _ 0 _ rfl (Nat.zero_le _) ⟨[], M, rfl, rfl, fun _ h => by simp at h, by simpa using hd, .refl⟩) fun M' ⟨ws, M1, e, l, r, hd1, up1⟩ => ?_
  · subst e
    have hj' : i < items.length := (List.getElem?_eq_some_iff.mp hw).1
    refine .of (x := ρ0.set i6 (some w)) rfl (Ok.of rfl ?_)
    simp only [if_true]
    refine dr w (List.mem_of_getElem? hw) M1 _ _ _ hd1 (by omega) fun x M2 sx hd2 up2 => ?_
    have l2 : M2.length = M.length := by rw [up2.1, up1.1]
    have g : (M2 ++ (J0 ++ [MO.lst (ysW ws)]))[M.length + J0.length]? = some (.lst (ysW ws)) := by
      rw [<- l2, get_newk]
      simp
    refine ⟨_, g, ?_, ws ++ [x], M2, ?_, by simp [l], fun y hy => ?_, hd2.mono (by omega), up1.trans up2⟩
    · simp only [List.length_map, l]
      exact Nat.lt_of_lt_of_le (Nat.lt_of_lt_of_le hj' hs) (by decide)
    · show (M2 ++ (J0 ++ [MO.lst (ysW ws)])).set (M.length + J0.length) (.lst (ysW ws ++ [.d (yD x)])) = _
      rw [<- l2, set_at]
      simp
    · rcases List.mem_append.mp hy with hy | hy
      · exact r y hy
      · rw [List.mem_singleton.mp hy]; exact sx
  · subst e
    exact k ws M1 l r (hd1.mono (by omega)) up1
noncomputable abbrev E6 : EvE := eTup (aCons (eC (.str "and")) (aCons (eVar 5) (aCons (eTup (aCons (eC (.str "rest")) (aCons (eOp oRepT (eTup (aCons (eC (.int 1)) aNil)) (eVar 3)) (aCons (eDef 2 (F__law_take) (aCons (eVar 2) (aCons (eVar 6) aNil))) (aCons (eVar 6) aNil))))) aNil)))
theorem e6_ok {r m : Int} (k0 : 0 < kk) (k3 : kk <= 3) (r0 : 0 <= r) (r1 : r < 7) (m0 : 2 <= m) (m9 : m <= 9) (hd : HandX M h n) (nb : n + 1 < 2 ^ 40) {R : W × Mem -> Prop} (q : ∀ y M', SayOk y -> HandX M' h (n + 1) -> Upd h M M' -> R (.d (yD y), M' ++ J)) :
    Ok (E6 [v0, v1, some (.obj h), some (.d (.int (kk : Int))), v4, some (.d (sD (.rest (List.replicate kk 1) r 7))), some (.d (.int m)), v7, v8, v9, v10, v11] (M ++ J)) R := by
  have m1 : mkTup [W.d (.int 1)] = .d (.tuple [.int 1]) := rfl
  have rt := fun M => repT_eq (M := M) k0 k3
  simp [small_size, rt]
  refine (b_take (by omega) (by omega)).app hd nb fun w M1 ⟨v, ev, a0, a1⟩ hd1 up1 => ?_
  subst ev
  have := q (.an (.one (.rest (List.replicate kk 1) r 7)) (.one (.rest (List.replicate kk 1) v m))) M1 ⟨kk, k0, by omega, fun S hS => by
    simp only [Say.leaves, List.mem_append, List.mem_singleton] at hS
    rcases hS with rfl | rfl
    · exact one_good (by decide) (by decide) r0 r1 k3
    · exact one_good m0 m9 a0 a1 k3, by simp [Say.deep], by simp [Say.leaves]⟩ hd1 up1
  simp [small_size]
  simpa [yD, sD, wsD] using this
theorem ext6_ok {r : Int} (k0 : 0 < kk) (k3 : kk <= 3) (r0 : 0 <= r) (r1 : r < 7) (hd : HandX M h n) (nb : n + 6 < 2 ^ 40) (few : ys.length <= 100) (q : ∀ zs M' J', (∀ y ∈ zs, SayOk y) -> zs.length = 2 -> HandX M' h (n + 6) -> Upd h M M' -> Q (.nx [v0, v1, some (.obj h), some (.d (.int (kk : Int))), some (.obj M.length), some (.d (sD (.rest (List.replicate kk 1) r 7))), v6, v7, v8, v9, v10, v11] (M' ++ (.lst (ysW (ys ++ zs)) :: J')))) :
    Ok (sExpr (sExt (eVar 4) (eLc (iSeq (eTup (aCons (eC (.int 8)) (aCons (eC (.int 9)) aNil)))) (gN 6) tTrue E6 [6])) [v0, v1, some (.obj h), some (.d (.int (kk : Int))), some (.obj M.length), some (.d (sD (.rest (List.replicate kk 1) r 7))), v6, v7, v8, v9, v10, v11] (M ++ (.lst (ysW ys) :: J))) Q := by
  have ev : eVar 4 [v0, v1, some (.obj h), some (.d (.int (kk : Int))), some (.obj M.length), some (.d (sD (.rest (List.replicate kk 1) r 7))), v6, v7, v8, v9, v10, v11] (M ++ (.lst (ysW ys) :: J)) = some (.obj M.length, M ++ (.lst (ysW ys) :: J)) := rfl
  have la : lstAt (M ++ (.lst (ysW ys) :: J)) (.obj M.length) = some (M.length, ysW ys) := x_lstAt (by simp)
  have it : iSeq (eTup (aCons (eC (.int 8)) (aCons (eC (.int 9)) aNil))) [v0, v1, some (.obj h), some (.d (.int (kk : Int))), some (.obj M.length), some (.d (sD (.rest (List.replicate kk 1) r 7))), v6, v7, v8, v9, v10, v11] (M ++ (.lst (ysW ys) :: J)) = some (([.d (.int 8), .d (.int 9)], []), M ++ (.lst (ysW ys) :: J)) := rfl
  have wp : wipeW [v0, v1, some (.obj h), some (.d (.int (kk : Int))), some (.obj M.length), some (.d (sD (.rest (List.replicate kk 1) r 7))), v6, v7, v8, v9, v10, v11] [6] = [v0, v1, some (.obj h), some (.d (.int (kk : Int))), some (.obj M.length), some (.d (sD (.rest (List.replicate kk 1) r 7))), none, v7, v8, v9, v10, v11] := rfl
  have e1 : M ++ (.lst (ysW ys) :: J) ++ [.lst []] = M ++ ((MO.lst (ysW ys) :: J) ++ [.lst []]) := by simp
  have e2 : (M ++ (MO.lst (ysW ys) :: J)).length = M.length + (MO.lst (ysW ys) :: J).length := by simp
  rw [x_expr]
  simp only [sExt, ev, Option.bind_some, la, ok_bind, ok_some]
  rw [x_lc, it]
  simp only [Option.bind_some]
  rw [wp, e1, e2, ok_bind]
  refine says_b (J0 := .lst (ysW ys) :: J) (fun w hw M J n Q hd nb q => ?_) hd (by simp) nb fun zs M' lz so hd1 up1 => ?_
  · simp only [List.mem_cons, List.not_mem_nil, or_false] at hw
    rcases hw with rfl | rfl
    · exact e6_ok (m := 8) k0 k3 r0 r1 (by decide) (by decide) hd nb q
    · exact e6_ok (m := 9) k0 k3 r0 r1 (by decide) (by decide) hd nb q
  · have l1 : M'.length = M.length := up1.1
    have la2 : lstAt (M' ++ ((.lst (ysW ys) :: J) ++ [.lst (ysW zs)])) (.obj M.length) = some (M.length, ysW ys) := x_lstAt (by rw [<- l1]; simp)
    have la3 : lstAt (M' ++ ((.lst (ysW ys) :: J) ++ [.lst (ysW zs)])) (.obj (M.length + (MO.lst (ysW ys) :: J).length)) = some (M.length + (MO.lst (ysW ys) :: J).length, ysW zs) := x_lstAt (by rw [<- l1, get_newk]; simp)
    simp only [ok_some, la2, la3]
    have lz : zs.length = 2 := lz
    rw [if_pos (by simp only [List.length_map, lz]; exact Nat.le_trans (Nat.add_le_add_right few 2) (by decide)), ok_some]
    have := q zs M' (J ++ [.lst (ysW zs)]) so lz hd1 up1
    rw [<- l1] at this ⊢
    simpa using this
theorem s6_ok (hd : HandX M h n) (nb : n + 1 < 2 ^ 40) (q : ∀ m M', 2 <= m -> m <= 9 -> HandX M' h (n + 1) -> Upd h M M' -> Q (.nx [v0, v1, some (.obj h), v3, v4, v5, some (.d (.int m)), v7, v8, v9, v10, v11] (M' ++ J))) :
    Ok (sSet 6 (eOp oAdd (eC (.int 2)) (eDef 2 (F__law_take) (aCons (eVar 2) (aCons (eC (.int 8)) aNil)))) [v0, v1, some (.obj h), v3, v4, v5, v6, v7, v8, v9, v10, v11] (M ++ J)) Q := by
  simp
  refine (b_take (by decide) (by decide)).app hd nb fun w M1 ⟨v, ev, a0, a1⟩ hd1 up1 => ?_
  subst ev
  have := q (2 + v) M1 (by omega) (by omega) hd1 up1
  simpa using this
noncomputable abbrev d19 : EvE := eOp oSub (eDef 2 (F__law_take) (aCons (eVar 2) (aCons (eC (.int 19)) aNil))) (eC (.int 9))
theorem d19_i {ρ : Ev} (h2 : ρ[2]? = some (some (.obj h))) : DrawI d19 ρ h := by
  intro M J n Q hd nb k
  simp [h2]
  refine (b_take (by decide) (by decide)).app hd (by omega) fun w M1 ⟨v, ev, v0, v1⟩ hd1 up1 => ?_
  subst ev
  simp
  exact k _ M1 (by omega) (by omega) hd1 up1
theorem s7_ok (k3 : kk <= 3) (hd : HandX M h n) (nb : n + 6 < 2 ^ 40) (q : ∀ (ws : List Int) M' J', ws.length = kk -> (∀ w ∈ ws, -9 <= w /\ w <= 9) -> HandX M' h (n + 6) -> Upd h M M' -> Q (.nx [v0, v1, some (.obj h), some (.d (.int (kk : Int))), v4, v5, v6, some (.d (wsD ws)), v8, v9, v10, v11] (M' ++ (.lst (ysW ys) :: J')))) :
    Ok (sSet 7 (eCall fTuple (aCons (eLc (iRange1 (aCons (eVar 3) aNil)) (gN 11) tTrue d19 [11]) aNil)) [v0, v1, some (.obj h), some (.d (.int (kk : Int))), v4, v5, v6, v7, v8, v9, v10, v11] (M ++ (.lst (ysW ys) :: J))) Q := by
  have rg : iRange1 (aCons (eVar 3) aNil) [v0, v1, some (.obj h), some (.d (.int (kk : Int))), v4, v5, v6, v7, v8, v9, v10, v11] (M ++ (.lst (ysW ys) :: J)) = some (((List.range kk).map fun (k : Nat) => .d (.int (k : Int)), []), M ++ (.lst (ysW ys) :: J)) := by
    have := x_range1 (M2 := M ++ (.lst (ysW ys) :: J)) (ρ := [v0, v1, some (.obj h), some (.d (.int (kk : Int))), v4, v5, v6, v7, v8, v9, v10, v11]) (M := M ++ (.lst (ysW ys) :: J)) (as := aCons (eVar 3) aNil) (j := (kk : Int)) rfl (InR.of (by omega) (by omega))
    simpa using this
  have e1 : M ++ (.lst (ysW ys) :: J) ++ [.lst []] = M ++ ((MO.lst (ysW ys) :: J) ++ [.lst []]) := by simp
  have e2 : (M ++ (MO.lst (ysW ys) :: J)).length = M.length + (MO.lst (ysW ys) :: J).length := by simp
  rw [x_set, x_call, x_acons, x_lc, rg]
  simp only [Option.bind_some]
  rw [e1, e2]
  simp only [ok_bind]
  refine worths_b (J0 := .lst (ysW ys) :: J) (fun w => d19_i rfl) (by simp) hd (by omega) nb fun ws M' wl wr hd1 up1 => ?_
  have l1 : M'.length = M.length := up1.1
  have la3 : lstAt (M' ++ ((.lst (ysW ys) :: J) ++ [.lst (ws.map fun i => .d (.int i))])) (.obj (M.length + (MO.lst (ysW ys) :: J).length)) = some (M.length + (MO.lst (ysW ys) :: J).length, ws.map fun i => .d (.int i)) := x_lstAt (by rw [<- l1, get_newk]; simp)
  have mk : mkTup (ws.map fun i => W.d (.int i)) = .d (wsD ws) := mkTup_of' .int ws
  have ft : fTuple [.obj (M.length + (MO.lst (ysW ys) :: J).length)] (M' ++ ((.lst (ysW ys) :: J) ++ [.lst (ws.map fun i => .d (.int i))])) = some (.d (wsD ws), M' ++ ((.lst (ysW ys) :: J) ++ [.lst (ws.map fun i => .d (.int i))])) := by
    simp only [fTuple, la3, Option.bind_some, mk]
    try rfl
  have := q ws M' (J ++ [.lst (ws.map fun i => .d (.int i))]) wl wr hd1 up1
  simp only [ok_some, aNil]
  refine .of ft ?_
  simpa using this
/-- one more of rest -/
theorem ap8_ok {ws : List Int} {m : Int} (k0 : 0 < kk) (k3 : kk <= 3) (wl : ws.length = kk) (wr : ∀ w ∈ ws, -9 <= w /\ w <= 9) (m0 : 2 <= m) (m9 : m <= 9) (hd : HandX M h n) (nb : n + 1 < 2 ^ 40) {R : W × Mem -> Prop} (q : ∀ y M' J', SayOk y -> HandX M' h (n + 1) -> Upd h M M' -> R (.d (yD y), M' ++ (.lst (ysW ys) :: J'))) :
    Ok (eTup (aCons (eC (.str "rest")) (aCons (eVar 7) (aCons (eDef 2 (F__law_take) (aCons (eVar 2) (aCons (eVar 6) aNil))) (aCons (eVar 6) aNil)))) [v0, v1, some (.obj h), v3, v4, v5, some (.d (.int m)), some (.d (wsD ws)), v8, v9, v10, v11] (M ++ (.lst (ysW ys) :: J))) R := by
  simp
  refine (b_take (by omega) (by omega)).app hd nb fun w M1 ⟨v, ev, a0, a1⟩ hd1 up1 => ?_
  subst ev
  have := q (.one (.rest ws v m)) M1 J ⟨kk, k0, by omega, fun S hS => by
    simp only [Say.leaves, List.mem_singleton] at hS
    subst hS
    exact ⟨wl, wr, (fun _ _ z => by cases z), (fun _ _ _ z => by cases z; omega), by omega⟩, by simp [Say.deep], by simp [Say.leaves]⟩ hd1 up1
  simp [small_size]
  simpa [yD, sD, wsD] using this
theorem ap9_ok (k0 : 0 < kk) (k3 : kk <= 3) (hd : HandX M h n) (nb : n + 42 < 2 ^ 40) {R : W × Mem -> Prop} (q : ∀ y M' J', SayOk y -> HandX M' h (n + 42) -> Upd h M M' -> R (.d (yD y), M' ++ (.lst (ysW ys) :: J'))) :
    Ok (eTup (aCons (eC (.str "or")) (aCons (eDef 3 (F__law_saying) (aCons (eVar 2) (aCons (eVar 3) (aCons (eC (.int 1)) aNil)))) (aCons (eTup (aCons (eC (.str "not")) (aCons (eDef 3 (F__law_simple) (aCons (eVar 2) (aCons (eVar 3) (aCons (eC (.int 1)) aNil)))) aNil))) aNil))) [v0, v1, some (.obj h), some (.d (.int (kk : Int))), v4, v5, v6, v7, v8, v9, v10, v11] (M ++ (.lst (ysW ys) :: J))) R := by
  simp
  refine (saying_b (by decide) (by decide) (by omega)).app hd (by omega) fun w M1 ⟨y, ey, g, d, l⟩ hd1 up1 => ?_
  subst ey
  simp
  refine (simple_b (by decide) (by decide) (by omega)).app hd1 (by omega) fun w M2 ⟨S, eS, gS⟩ hd2 up2 => ?_
  subst eS
  have := q (.or y (.no (.one S))) M2 J ⟨kk, k0, by omega, fun U hU => by
    simp only [Say.leaves, List.mem_append, List.mem_singleton] at hU
    rcases hU with hU | rfl
    · exact g U hU
    · exact gS, by simp [Say.deep]; omega, by simp [Say.leaves]; omega⟩ (hd2.mono (by omega)) (up1.trans up2)
  simp [small_size]
  simpa [yD] using this
/-- all sayings are told both ways -/
theorem says_ok {l : Nat} {v0 v1 v2 v3 v4 v5 v6 v7 v11 : Option W} {us : List W} : ∀ (ys : List Say) (M : Mem) (v8 v9 v10 : Option W), (∀ y ∈ ys, SayOk y) -> M[l]? = some (.lst us) ->
    ∃ w8 w9 w10 J, forL [(l, .lst us)] (gN 8) B2 (ysW ys) [v0, v1, v2, v3, v4, v5, v6, v7, v8, v9, v10, v11] M = some (.nx [v0, v1, v2, v3, v4, v5, v6, v7, w8, w9, w10, v11] (M ++ J))
  | [], M, v8, v9, v10, _, hl => ⟨v8, v9, v10, [], by
    simp only [List.map_nil, forL, List.append_nil]
    rw [if_pos (by rw [Deps.one]; exact hl)]⟩
  | y :: ys, M, v8, v9, v10, so, hl => by
    obtain ⟨k, sd, d4, l10⟩ := (so y List.mem_cons_self).said
    obtain ⟨w9, w10, J, e⟩ := b2_ok (M := M) sd d4 l10 (v0 := v0) (v1 := v1) (v2 := v2) (v3 := v3) (v4 := v4) (v5 := v5) (v6 := v6) (v7 := v7) (v9 := v9) (v10 := v10) (v11 := v11)
    obtain ⟨u8, u9, u10, J2, e2⟩ := says_ok ys (M ++ J) (some (.d (yD y))) w9 w10 (fun z hz => so z (List.mem_cons_of_mem _ hz)) (get_old hl) (l := l) (us := us) (v0 := v0) (v1 := v1) (v2 := v2) (v3 := v3) (v4 := v4) (v5 := v5) (v6 := v6) (v7 := v7) (v11 := v11)
    refine ⟨u8, u9, u10, J ++ J2, ?_⟩
    show forL _ _ _ (.d (yD y) :: ysW ys) _ _ = _
    simp only [forL]
    rw [if_pos (by rw [Deps.one]; exact hl)]
    rw [show gN 8 (.d (yD y)) [v0, v1, v2, v3, v4, v5, v6, v7, v8, v9, v10, v11] = some [v0, v1, v2, v3, v4, v5, v6, v7, some (.d (yD y)), v9, v10, v11] from rfl]
    simp only [Option.bind_some]
    rw [e]
    simp only [Option.bind_some]
    rw [e2, List.append_assoc]
end
end K53
namespace K53
open PySem PySem.Spec PyProof.Rows L2 Sa Va Pg
open Lw (Upd GoodS Said Upd.refl Upd.trans)
open Lx (HandX)
section
variable {M J : Mem} {h kk : Nat} {n j : Int} {ys : List Say} {v1 v2 v3 v4 v5 v6 v7 v8 v9 v10 v11 : Option W}
noncomputable def B1 (ns : List Int) : EvS := (sSeq (sSet 2 (eDef 2 (F__law_box ns) (aCons (eVar 0) (aCons (eVar 1) aNil))))
    (sSeq (sSet 3 (eOp oAdd (eC (.int 1)) (eDef 2 (F__law_take) (aCons (eVar 2) (aCons (eC (.int 3)) aNil)))))
    (sSeq (sSet 4 (eLst (aCons (eDef 3 (F__law_saying) (aCons (eVar 2) (aCons (eVar 3) (aCons (eC (.int 2)) aNil)))) (aCons (eDef 3 (F__law_simple) (aCons (eVar 2) (aCons (eVar 3) (aCons (eC (.int 4)) aNil)))) (aCons (eDef 3 (F__law_simple) (aCons (eVar 2) (aCons (eVar 3) (aCons (eC (.int 9)) aNil)))) aNil)))))
    (sSeq (sExpr (sApp (eVar 4) (eDef 1 (F__law_about_sixty) (aCons (eVar 2) aNil))))
    (sSeq (sSet 5 (eTup (aCons (eC (.str "rest")) (aCons (eOp oRepT (eTup (aCons (eC (.int 1)) aNil)) (eVar 3)) (aCons (eDef 2 (F__law_take) (aCons (eVar 2) (aCons (eC (.int 7)) aNil))) (aCons (eC (.int 7)) aNil))))))
    (sSeq (sExpr (sExt (eVar 4) (eLc (iSeq (eTup (aCons (eC (.int 8)) (aCons (eC (.int 9)) aNil)))) (gN 6) tTrue (eTup (aCons (eC (.str "and")) (aCons (eVar 5) (aCons (eTup (aCons (eC (.str "rest")) (aCons (eOp oRepT (eTup (aCons (eC (.int 1)) aNil)) (eVar 3)) (aCons (eDef 2 (F__law_take) (aCons (eVar 2) (aCons (eVar 6) aNil))) (aCons (eVar 6) aNil))))) aNil)))) [6])))
    (sSeq (sSet 6 (eOp oAdd (eC (.int 2)) (eDef 2 (F__law_take) (aCons (eVar 2) (aCons (eC (.int 8)) aNil)))))
    (sSeq (sSet 7 (eCall fTuple (aCons (eLc (iRange1 (aCons (eVar 3) aNil)) (gN 11) tTrue (eOp oSub (eDef 2 (F__law_take) (aCons (eVar 2) (aCons (eC (.int 19)) aNil))) (eC (.int 9))) [11]) aNil)))
    (sSeq (sExpr (sApp (eVar 4) (eTup (aCons (eC (.str "rest")) (aCons (eVar 7) (aCons (eDef 2 (F__law_take) (aCons (eVar 2) (aCons (eVar 6) aNil))) (aCons (eVar 6) aNil)))))))
    (sSeq (sExpr (sApp (eVar 4) (eTup (aCons (eC (.str "or")) (aCons (eDef 3 (F__law_saying) (aCons (eVar 2) (aCons (eVar 3) (aCons (eC (.int 1)) aNil)))) (aCons (eTup (aCons (eC (.str "not")) (aCons (eDef 3 (F__law_simple) (aCons (eVar 2) (aCons (eVar 3) (aCons (eC (.int 1)) aNil)))) aNil))) aNil))))))
    (sFor (iSeq (eVar 4)) (gN 8) B2)))))))))))
theorem g_law_eq (ns : List Int) : g_law ns = (sSeq (sFor (iRange1 (aCons (eOp oAdd (eC (.int 1)) (eCall fMin2 (aCons (eC (.int 3)) (aCons (eCall (fLenS ns) (aCons (eVar 0) aNil)) aNil)))) aNil)) (gN 1) (B1 ns))
    (sRet (eC (.bool true)))) := rfl
def EnvL (ρ : Ev) : Prop := ∃ v1 v2 v3 v4 v5 v6 v7 v8 v9 v10 v11, ρ = [some .scr, v1, v2, v3, v4, v5, v6, v7, v8, v9, v10, v11]
theorem b1_ok {ns : List Int} (j0 : 0 <= j) (jb : j <= 1000) : Ok (B1 ns [some .scr, some (.d (.int j)), v2, v3, v4, v5, v6, v7, v8, v9, v10, v11] M) (forQ (fun ρ _ => EnvL ρ) (fun ρ _ => EnvL ρ) (fun _ _ => False)) := by
  unfold B1
  rw [ok_seq, x_set, ok_bind]
  show Ok (F__law_box ns [.scr, .d (.int j)] M) _
  refine box_x j0 jb fun a b a0 b0 b1 => ?_
  rw [ok_some, thenQ_nx, ok_seq]
  have hd : HandX (M ++ [.lst [.d (.int a), .d (.int b), .d (.int 0)]]) M.length 0 := ⟨a, b, 0, by simp, a0, b0, b1, by decide, by decide⟩
  simp only [List.set_cons_succ, List.set_cons_zero]
  generalize M ++ [MO.lst [W.d (.int a), .d (.int b), .d (.int 0)]] = M1 at *
  generalize M.length = h at *
  refine s3_ok hd (by omega) fun kk M2 k0 k3 hd2 up2 => ?_
  rw [thenQ_nx, ok_seq]
  refine s4_ok k0 k3 hd2 (by omega) fun ys M3 ly so hd3 up3 => ?_
  rw [thenQ_nx, ok_seq]
  refine app_ok (J := []) (h := h) (n := 0 + 1 + 60) (c := 5) rfl (by omega) (fun Q q => ab_ok rfl hd3 (by omega) q) fun y4 M4 J4 s4 hd4 up4 => ?_
  have l4 : M3.length = M4.length := up4.1.symm
  rw [thenQ_nx, ok_seq, l4]
  refine s5_ok k0 k3 hd4 (by omega) fun r M5 r0 r1 hd5 up5 => ?_
  have l5 : M4.length = M5.length := up5.1.symm
  rw [thenQ_nx, ok_seq, l5]
  refine ext6_ok k0 k3 r0 r1 hd5 (by omega) (by simp; omega) fun zs M6 J6 sz lz hd6 up6 => ?_
  have l6 : M5.length = M6.length := up6.1.symm
  rw [thenQ_nx, ok_seq, l6]
  refine s6_ok hd6 (by omega) fun m M7 m0 m9 hd7 up7 => ?_
  have l7 : M6.length = M7.length := up7.1.symm
  rw [thenQ_nx, ok_seq, l7]
  refine s7_ok k3 hd7 (by omega) fun ws M8 J8 wl wr hd8 up8 => ?_
  have l8 : M7.length = M8.length := up8.1.symm
  rw [thenQ_nx, ok_seq, l8]
  refine app_ok (h := h) (n := 0 + 1 + 60 + 5 + 1 + 6 + 1 + 6) (c := 1) rfl (by simp; omega) (fun Q q => ap8_ok k0 k3 wl wr m0 m9 hd8 (by omega) q) fun y9 M9 J9 s9 hd9 up9 => ?_
  have l9 : M8.length = M9.length := up9.1.symm
  rw [thenQ_nx, ok_seq, l9]
  refine app_ok (h := h) (n := 0 + 1 + 60 + 5 + 1 + 6 + 1 + 6 + 1) (c := 42) rfl (by simp; omega) (fun Q q => ap9_ok k0 k3 hd9 (by omega) q) fun y10 M10 J10 s10 hd10 up10 => ?_
  have l10 : M9.length = M10.length := up10.1.symm
  rw [thenQ_nx, l10]
  have all : ∀ y ∈ ys ++ [y4] ++ zs ++ [y9] ++ [y10], SayOk y := fun y hy => by
    simp only [List.mem_append, List.mem_singleton] at hy
    rcases hy with (((hy | rfl) | hy) | rfl) | rfl
    · exact so y hy
    · exact s4
    · exact sz y hy
    · exact s9
    · exact s10
  generalize ys ++ [y4] ++ zs ++ [y9] ++ [y10] = L at *
  have la : lstAt (M10 ++ (.lst (ysW L) :: J10)) (.obj M10.length) = some (M10.length, ysW L) := x_lstAt (by simp)
  obtain ⟨w8, w9, w10, J, e⟩ := says_ok (l := M10.length) (us := ysW L) (v0 := some .scr) (v1 := some (.d (.int j))) (v2 := some (.obj h)) (v3 := some (.d (.int (kk : Int)))) (v4 := some (.obj M10.length)) (v5 := some (.d (sD (.rest (List.replicate kk 1) r 7)))) (v6 := some (.d (.int m))) (v7 := some (.d (wsD ws))) (v11 := v11) L (M10 ++ (.lst (ysW L) :: J10)) v8 v9 v10 all (by simp)
  have it : iSeq (eVar 4) [some .scr, some (.d (.int j)), some (.obj h), some (.d (.int (kk : Int))), some (.obj M10.length), some (.d (sD (.rest (List.replicate kk 1) r 7))), some (.d (.int m)), some (.d (wsD ws)), v8, v9, v10, v11] (M10 ++ (.lst (ysW L) :: J10)) = some ((ysW L, [(M10.length, .lst (ysW L))]), M10 ++ (.lst (ysW L) :: J10)) := by
    rw [x_iseqO, x_var (show ([some W.scr, some (.d (.int j)), some (.obj h), some (.d (.int (kk : Int))), some (.obj M10.length), some (.d (sD (.rest (List.replicate kk 1) r 7))), some (.d (.int m)), some (.d (wsD ws)), v8, v9, v10, v11] : Ev)[4]? = some (some _) from rfl)]
    simp only [Option.bind_some, la]
  rw [x_for, it]
  simp only [Option.bind_some]
  rw [e]
  exact .of rfl ⟨_, _, _, _, _, _, _, _, _, _, _, rfl⟩
theorem law_true (ns : List Int) : ∃ M', F_law ns [.scr] [] = some (.d (.bool true), M') := by
  have lo : Ok (sFor (iRange1 (aCons (eOp oAdd (eC (.int 1)) (eCall fMin2 (aCons (eC (.int 3)) (aCons (eCall (fLenS ns) (aCons (eVar 0) aNil)) aNil)))) aNil)) (gN 1) (B1 ns) [some .scr, none, none, none, none, none, none, none, none, none, none, none] []) (endQ (fun ρ _ => EnvL ρ) (fun _ _ => False)) := by
    obtain ⟨t, t1, rg⟩ : ∃ t : Nat, t <= 4 /\ iRange1 (aCons (eOp oAdd (eC (.int 1)) (eCall fMin2 (aCons (eC (.int 3)) (aCons (eCall (fLenS ns) (aCons (eVar 0) aNil)) aNil)))) aNil) [some .scr, none, none, none, none, none, none, none, none, none, none, none] [] = some (((List.range t).map fun (k : Nat) => .d (.int (k : Int)), []), []) := by
      obtain ⟨m, hm, e⟩ : ∃ m : Nat, m <= 4 /\ (aCons (eOp oAdd (eC (.int 1)) (eCall fMin2 (aCons (eC (.int 3)) (aCons (eCall (fLenS ns) (aCons (eVar 0) aNil)) aNil)))) aNil) [some .scr, none, none, none, none, none, none, none, none, none, none, none] [] = some ([.d (.int (m : Int))], []) := by
        have f2 : ∀ (a b : Int) (M : Mem), fMin2 [.d (.int a), .d (.int b)] M = some (.d (.int (if b < a then b else a)), M) := fun _ _ _ => rfl
        by_cases z : (ns.length : Int) < 3
        · refine ⟨1 + ns.length, by omega, ?_⟩
          simp [f2, z]
        · refine ⟨4, by omega, ?_⟩
          simp [f2, z]
      refine ⟨m, hm, ?_⟩
      have := x_range1 e (InR.of (by omega) (by omega))
      simpa using this
    rw [x_for, rg]
    simp only [Option.bind_some]
    refine for_ok (fun _ ρ _ => EnvL ρ) (fun ρ _ => EnvL ρ) (fun _ _ => False) (items0 := (List.range t).map fun (k : Nat) => .d (.int (k : Int))) (fun _ _ _ _ _ => Deps.nil) (fun ρ M h => h) (fun k w ρ M hw h => ?_) _ 0 _ _ rfl (Nat.zero_le _) ⟨_, _, _, _, _, _, _, _, _, _, _, rfl⟩
    have kl : k < t := by
      have := (List.getElem?_eq_some_iff.mp hw).1
      simpa using this
    have hw' : w = .d (.int (k : Int)) := by
      rw [List.getElem?_map, List.getElem?_range kl] at hw
      simpa using hw.symm
    subst hw'
    obtain ⟨v1, v2, v3, v4, v5, v6, v7, v8, v9, v10, v11, rfl⟩ := h
    exact .of rfl (b1_ok (by omega) (by omega))
  obtain ⟨o, e, q⟩ := lo
  cases o with
  | nx ρ M1 =>
    have eg : g_law ns [some .scr, none, none, none, none, none, none, none, none, none, none, none] [] = some (.rt (.d (.bool true)) M1) := by
      rw [g_law_eq, x_seq, e]
      rfl
    have ef : F_law ns [.scr] [] = some (norm [] (.d (.bool true), M1)) := by
      show nf (fnV 12 (g_law ns)) [.scr] [] = _
      unfold nf fnV
      change ((g_law ns [some .scr, none, none, none, none, none, none, none, none, none, none, none] []).bind _).map _ = _
      rw [eg]
      rfl
    have nn : ∃ M', norm [] (W.d (.bool true), M1) = (.d (.bool true), M') := by
      have := norm_data' (M := []) (J := M1) (x := .bool true)
      exact ⟨[], by simpa using this⟩
    obtain ⟨M', hM⟩ := nn
    exact ⟨M', by rw [ef, hM]⟩
  | rt w M1 => exact q.elim
  | bk ρ M1 => exact q.elim
  | ct ρ M1 => exact q.elim
end
end K53
namespace K53
open PySem PySem.Spec PyProof.Rows L2 Sa Va
def topS (i : Nat) : Stmt := PySem.Challenge.pw_strangersay_k53_holds_of_made_tables.main.body.getD i (.Pass ⟨0, 0, 0, 0⟩)
structure Bn (mg : Str -> Option Value) : Prop where
  n_abs : mg "abs" = none
  n_int : mg "int" = none
  n_isinstance : mg "isinstance" = none
  n_len : mg "len" = none
  n_list : mg "list" = none
  n_max : mg "max" = none
  n_min : mg "min" = none
  n_range : mg "range" = none
  n_repr : mg "repr" = none
  n_set : mg "set" = none
  n_sorted : mg "sorted" = none
  n_str : mg "str" = none
  n_tuple : mg "tuple" = none
  n_zip : mg "zip" = none
  c_MOST_STATES : ∃ t, mg "MOST_STATES" = some (.int 60 t)
structure Xc (K : PySem.W.Frag) (mg : Str -> Option Value) (cl : Nat -> Value) (ce : Value) : Prop where
  x_TooMany : ClsX K mg "TooMany" (cl 0)
  m_TooMany : mg "TooMany" = some (cl 0)
  e_TooMany : ∀ m, PySem.W.exmOne K (cl m) (cl 0) = some true
  m_CrowdError : mg "CrowdError" = some ce
section
variable {P : Program} {w : World} {mg : Str -> Option Value} {base : Heap} {C : Ck} {cl : Nat -> Value} {ce : Value}
abbrev s__law_box : Stmt := topS 29
abbrev N__law_box : List Str := [("_law_script" : Str), ("_law_k" : Str), ("_law_cell" : Str), ("_law_mixed" : Str)]
theorem sc__law_box : FnScope N__law_box ["_law_script", "_law_k"] (defScope s__law_box) := ⟨rfl, rfl, rfl, by decide +kernel, rfl, by decide +kernel, by decide +kernel⟩
theorem ok__law_box (hw : C.w = w) (T : Bn mg) (S : Stands C.K mg "_law_box" s__law_box ["_law_script", "_law_k"]) : Df P w C.K mg base 1 "_law_box" ["_law_script", "_law_k"] (spV C 2 (F__law_box C.ns)) := by
  have sc := sc__law_box
  subst hw
  exact Dv.nf (Dv.of (k := 0) (g := g__law_box C.ns) S sc__law_box rfl fun f cdv A outer s H E hr hf =>
      (qs_cons (q_set (i := 2) sc.nd rfl (Or.inl rfl) (q_ifE (qt_cmp op_lt vo_lt (qv 1) (q_callB call_len_seq vc_lenS rfl T.n_len PySem.boot_len (qa_cons (qv 0) qa_nil)) (nomark _)) (q_ixS rfl (qv 0) (qv 1) (fun _ _ => rfl)) q_int))
      (qs_cons (q_set (i := 3) sc.nd rfl (Or.inl rfl) (q_op op_mod vo_mod (q_op op_mul vo_mul (q_op op_add vo_add (q_op op_add vo_add (q_op op_mod vo_mod (qv 2) q_int) (q_op op_mul vo_mul q_int (qv 1))) q_int) q_int) q_int))
      (qs_one (q_ret (q_lst (qa_cons (q_op op_mul vo_mul (q_callB call_abs vc_abs rfl T.n_abs (by decide +kernel) (qa_cons (qv 2) qa_nil)) (q_callTy call_int1 vc_int rfl T.n_int (by decide +kernel) (qa_cons (q_cmp op_ge vo_ge (q_callB call_abs vc_abs rfl T.n_abs (by decide +kernel) (qa_cons (qv 2) qa_nil)) (q_op op_pow vo_pow q_int q_int) (nomark _)) qa_nil))) (qa_cons (qv 3) (qa_cons q_int qa_nil)))))))))
abbrev s__law_take : Stmt := topS 30
abbrev N__law_take : List Str := [("_law_box_here" : Str), ("_law_count" : Str), ("_law_digit" : Str), ("_law_primes" : Str), ("_law_prime" : Str), ("_law_drawn" : Str)]
theorem sc__law_take : FnScope N__law_take ["_law_box_here", "_law_count"] (defScope s__law_take) := ⟨rfl, rfl, rfl, by decide +kernel, rfl, by decide +kernel, by decide +kernel⟩
theorem ok__law_take (hw : C.w = w) (T : Bn mg) (S : Stands C.K mg "_law_take" s__law_take ["_law_box_here", "_law_count"]) : Df P w C.K mg base 1 "_law_take" ["_law_box_here", "_law_count"] (spV C 2 (F__law_take)) := by
  have sc := sc__law_take
  subst hw
  exact Dv.nf (Dv.of (k := 0) (g := g__law_take) S sc__law_take rfl fun f cdv A outer s H E hr hf =>
      (qs_cons (q_if (qt_cmp op_gt vo_gt (q_ix rfl (qv 0) q_int (fun _ _ => rfl)) q_int (nomark _)) (qs_cons (q_set (i := 2) sc.nd rfl (Or.inl rfl) (q_op op_mod vo_mod (q_ix rfl (qv 0) q_int (fun _ _ => rfl)) (qv 1)))
      (qs_cons (q_put (q_op op_fdivW vo_div (q_ix rfl (qv 0) q_int (fun _ _ => rfl)) (qv 1)) (qv 0) q_int (pg_sub (qv 0) q_int set_list))
      (qs_one (q_ret (qv 2))))) qs_nil)
      (qs_cons (q_put (q_op op_add vo_add (q_ix rfl (qv 0) q_int (fun _ _ => rfl)) q_int) (qv 0) q_int (pg_sub (qv 0) q_int set_list))
      (qs_cons (q_set (i := 3) sc.nd rfl (Or.inl rfl) (q_lst (qa_cons q_int (qa_cons q_int (qa_cons q_int (qa_cons q_int (qa_cons q_int (qa_cons q_int (qa_cons q_int qa_nil)))))))))
      (qs_cons (q_set (i := 4) sc.nd rfl (Or.inl rfl) (q_ix rfl (qv 3) (q_op op_mod vo_mod (q_ix rfl (qv 0) q_int (fun _ _ => rfl)) q_int) (fun _ _ => rfl)))
      (qs_cons (q_set (i := 5) sc.nd rfl (Or.inl rfl) (q_op op_mod vo_mod (q_op op_pow vo_pow (q_op op_add vo_add (q_ix rfl (qv 0) q_int (fun _ _ => rfl)) (q_op op_mul vo_mul q_int (q_ix rfl (qv 0) q_int (fun _ _ => rfl)))) q_int) (qv 4)))
      (qs_one (q_ret (q_op op_mod vo_mod (q_op op_fdivW vo_div (q_op op_mod vo_mod (q_op op_mul vo_mul (qv 5) (q_op op_add vo_add (q_op op_mod vo_mod (qv 5) q_int) (q_ix rfl (qv 0) q_int (fun _ _ => rfl)))) (qv 4)) q_int) (qv 1))))))))))
abbrev s__law_simple : Stmt := topS 32
abbrev N__law_simple : List Str := [("_law_box_here" : Str), ("_law_sorts" : Str), ("_law_wide" : Str), ("_law_worths" : Str), ("_law_base" : Str), ("_law_sort" : Str)]
theorem sc__law_simple : FnScope N__law_simple ["_law_box_here", "_law_sorts", "_law_wide"] (defScope s__law_simple) := ⟨rfl, rfl, rfl, by decide +kernel, rfl, by decide +kernel, by decide +kernel⟩
theorem ok__law_simple (hw : C.w = w) (T : Bn mg) (S : Stands C.K mg "_law_simple" s__law_simple ["_law_box_here", "_law_sorts", "_law_wide"]) (d__law_take : Df P w C.K mg base 1 "_law_take" ["_law_box_here", "_law_count"] (spV C 2 (F__law_take))) : Df P w C.K mg base 2 "_law_simple" ["_law_box_here", "_law_sorts", "_law_wide"] (spV C 3 (F__law_simple)) := by
  have sc := sc__law_simple
  subst hw
  exact Dv.nf (Dv.of (k := 1) (g := g__law_simple) S sc__law_simple rfl fun f cdv A outer s H E hr hf =>
      (qs_cons (q_set (i := 3) sc.nd rfl (Or.inl rfl) (q_callTy call_tuple_of vc_tuple rfl T.n_tuple PyProof.Rows.boot_tuple (qa_cons (q_lc (own := [("_law_sort", 5)]) rfl sc.nd (qi_range1 rfl T.n_range (qa_cons (qv 1) qa_nil)) (blkOk_by (own := [("_law_sort", 5)]) (N := N__law_simple) (sc := defScope s__law_simple) (by decide +kernel)) (by decide) (fun _ _ _ _ _ => (qg_name (i := 5) sc.nd rfl (Or.inl rfl))) (fun _ _ _ _ _ => qts_nil) (fun _ _ _ _ _ => (q_op op_sub vo_sub (q_df d__law_take (hr.mono (by decide)) hf rfl (qa_cons (qv 0) (qa_cons (q_op op_add vo_add (q_op op_mul vo_mul q_int (qv 2)) q_int) qa_nil))) (qv 2)))) qa_nil)))
      (qs_cons (q_if (qt_cmp (op_eq.or (op_eqD hr.units)) vo_eq (q_df d__law_take (hr.mono (by decide)) hf rfl (qa_cons (qv 0) (qa_cons q_int qa_nil))) q_int (nomark _)) (qs_cons (q_set (i := 4) sc.nd rfl (Or.inl rfl) (q_op op_add vo_add q_int (q_df d__law_take (hr.mono (by decide)) hf rfl (qa_cons (qv 0) (qa_cons q_int qa_nil)))))
      (qs_one (q_ret (q_tup (qa_cons q_str (qa_cons (qv 3) (qa_cons (q_df d__law_take (hr.mono (by decide)) hf rfl (qa_cons (qv 0) (qa_cons (qv 4) qa_nil))) (qa_cons (qv 4) qa_nil)))))))) qs_nil)
      (qs_one (q_ret (q_tup (qa_cons q_str (qa_cons (qv 3) (qa_cons (q_op op_sub vo_sub (q_df d__law_take (hr.mono (by decide)) hf rfl (qa_cons (qv 0) (qa_cons (q_op op_add vo_add (q_op op_mul vo_mul q_int (qv 2)) q_int) qa_nil))) (qv 2)) qa_nil)))))))))
abbrev s__law_saying : Stmt := topS 39
abbrev N__law_saying : List Str := [("_law_box_here" : Str), ("_law_sorts" : Str), ("_law_wide" : Str), ("_law_way" : Str), ("_law_simple_here" : Str), ("_law_worths" : Str), ("_law_one" : Str), ("_law_other" : Str), ("_law_turn" : Str), ("_law_sort" : Str)]
theorem sc__law_saying : FnScope N__law_saying ["_law_box_here", "_law_sorts", "_law_wide"] (defScope s__law_saying) := ⟨rfl, rfl, rfl, by decide +kernel, rfl, by decide +kernel, by decide +kernel⟩
theorem ok__law_saying (hw : C.w = w) (T : Bn mg) (S : Stands C.K mg "_law_saying" s__law_saying ["_law_box_here", "_law_sorts", "_law_wide"]) (d__law_take : Df P w C.K mg base 1 "_law_take" ["_law_box_here", "_law_count"] (spV C 2 (F__law_take))) (d__law_simple : Df P w C.K mg base 2 "_law_simple" ["_law_box_here", "_law_sorts", "_law_wide"] (spV C 3 (F__law_simple))) : Df P w C.K mg base 3 "_law_saying" ["_law_box_here", "_law_sorts", "_law_wide"] (spV C 3 (F__law_saying)) := by
  have sc := sc__law_saying
  subst hw
  exact Dv.nf (Dv.of (k := 2) (g := g__law_saying) S sc__law_saying rfl fun f cdv A outer s H E hr hf =>
      (qs_cons (q_set (i := 3) sc.nd rfl (Or.inl rfl) (q_df d__law_take (hr.mono (by decide)) hf rfl (qa_cons (qv 0) (qa_cons q_int qa_nil))))
      (qs_cons (q_if (qt_cmp op_lt vo_lt (qv 3) q_int (nomark _)) (qs_cons (q_set (i := 4) sc.nd rfl (Or.inl rfl) (q_df d__law_simple (hr.mono (by decide)) hf rfl (qa_cons (qv 0) (qa_cons (qv 1) (qa_cons (qv 2) qa_nil)))))
      (qs_one (q_ret (q_ifE (qt_cmp (op_eq.or (op_eqD hr.units)) vo_eq (qv 3) q_int (nomark _)) (q_tup (qa_cons q_str (qa_cons (qv 4) qa_nil))) (qv 4))))) qs_nil)
      (qs_cons (q_setLc (i := 5) (own := [("_law_turn", 8)]) rfl sc.nd rfl rfl (sw_true rfl rfl rfl (by decide +kernel)) (qi_range1 rfl T.n_range (qa_cons q_int qa_nil)) (blkOk_by (own := [("_law_turn", 8)]) (N := N__law_saying) (sc := defScope s__law_saying) (by decide +kernel)) (by decide) (fun _ _ _ _ _ => (qg_name (i := 8) sc.nd rfl (Or.inl rfl))) (fun _ _ _ _ _ => qts_nil) (fun _ _ _ _ _ => (q_callTy call_tuple_of vc_tuple rfl T.n_tuple PyProof.Rows.boot_tuple (qa_cons (q_lc (own := [("_law_sort", 9)]) rfl sc.nd (qi_range1 rfl T.n_range (qa_cons (qv 1) qa_nil)) (by exact blkOk_by (own := [("_law_sort", 9)]) (N := N__law_saying) (sc := { kind := .function, names := [(Str.ofString ".0", .local), (Str.ofString "_law_turn", .local), (Str.ofString "tuple", .globalImplicit), (Str.ofString "range", .globalImplicit), (Str.ofString "_law_box_here", .cell), (Str.ofString "_law_sorts", .cell)], isGenerator := false, isCoroutine := false }) (scope := { kind := .function, names := [(Str.ofString ".0", .local), (Str.ofString "_law_sort", .local), (Str.ofString "_law_take", .globalImplicit), (Str.ofString "_law_box_here", .free)], isGenerator := false, isCoroutine := false }) (by decide +kernel)) (by decide) (fun _ _ _ _ _ => (qg_name (i := 9) sc.nd rfl (Or.inl rfl))) (fun _ _ _ _ _ => qts_nil) (fun _ _ _ _ _ => (q_op op_sub vo_sub (q_df d__law_take (hr.mono (by decide)) hf rfl (qa_cons (qv 0) (qa_cons q_int qa_nil))) q_int))) qa_nil))))
      (qs_cons (q_set (i := 6) sc.nd rfl (Or.inl rfl) (q_tup (qa_cons q_str (qa_cons (q_ix rfl (qv 5) q_int (fun _ _ => rfl)) (qa_cons (q_df d__law_take (hr.mono (by decide)) hf rfl (qa_cons (qv 0) (qa_cons q_int qa_nil))) (qa_cons q_int qa_nil))))))
      (qs_cons (q_if (qt_cmp (op_eq.or (op_eqD hr.units)) vo_eq (q_df d__law_take (hr.mono (by decide)) hf rfl (qa_cons (qv 0) (qa_cons q_int qa_nil))) q_int (nomark _)) (qs_one (q_set (i := 7) sc.nd rfl (Or.inl rfl) (q_tup (qa_cons q_str (qa_cons (q_ix rfl (qv 5) q_int (fun _ _ => rfl)) (qa_cons (q_df d__law_take (hr.mono (by decide)) hf rfl (qa_cons (qv 0) (qa_cons q_int qa_nil))) (qa_cons q_int qa_nil))))))) (qs_one (q_set (i := 7) sc.nd rfl (Or.inl rfl) (q_tup (qa_cons q_str (qa_cons (q_ix rfl (qv 5) q_int (fun _ _ => rfl)) (qa_cons (q_df d__law_take (hr.mono (by decide)) hf rfl (qa_cons (qv 0) (qa_cons q_int qa_nil))) qa_nil)))))))
      (qs_one (q_ret (q_ix rfl (q_lst (qa_cons (q_tup (qa_cons q_str (qa_cons (qv 6) (qa_cons (qv 7) qa_nil)))) (qa_cons (q_tup (qa_cons q_str (qa_cons (qv 7) (qa_cons (qv 6) qa_nil)))) (qa_cons (q_tup (qa_cons q_str (qa_cons (q_tup (qa_cons q_str (qa_cons (qv 6) qa_nil))) (qa_cons (qv 7) qa_nil)))) qa_nil)))) (q_op op_sub vo_sub (qv 3) q_int) (fun _ _ => rfl))))))))))
abbrev s__law_of : Stmt := topS 31
abbrev N__law_of : List Str := [("_law_box_here" : Str), ("_law_some" : Str)]
theorem sc__law_of : FnScope N__law_of ["_law_box_here", "_law_some"] (defScope s__law_of) := ⟨rfl, rfl, rfl, by decide +kernel, rfl, by decide +kernel, by decide +kernel⟩
theorem ok__law_of (hw : C.w = w) (T : Bn mg) (S : Stands C.K mg "_law_of" s__law_of ["_law_box_here", "_law_some"]) (d__law_take : Df P w C.K mg base 1 "_law_take" ["_law_box_here", "_law_count"] (spV C 2 (F__law_take))) : Df P w C.K mg base 2 "_law_of" ["_law_box_here", "_law_some"] (spV C 2 (F__law_of)) := by
  have sc := sc__law_of
  subst hw
  exact Dv.nf (Dv.of (k := 1) (g := g__law_of) S sc__law_of rfl fun f cdv A outer s H E hr hf =>
      (qs_one (q_ret (q_ix rfl (qv 1) (q_df d__law_take (hr.mono (by decide)) hf rfl (qa_cons (qv 0) (qa_cons (q_callB call_len_seq vc_len rfl T.n_len PySem.boot_len (qa_cons (qv 1) qa_nil)) qa_nil))) (fun _ _ => rfl)))))
abbrev s__law_about_sixty : Stmt := topS 41
abbrev N__law_about_sixty : List Str := [("_law_box_here" : Str), ("_law_size" : Str), ("_law_worths" : Str)]
theorem sc__law_about_sixty : FnScope N__law_about_sixty ["_law_box_here"] (defScope s__law_about_sixty) := ⟨rfl, rfl, rfl, by decide +kernel, rfl, by decide +kernel, by decide +kernel⟩
theorem ok__law_about_sixty (hw : C.w = w) (T : Bn mg) (S : Stands C.K mg "_law_about_sixty" s__law_about_sixty ["_law_box_here"]) (d__law_take : Df P w C.K mg base 1 "_law_take" ["_law_box_here", "_law_count"] (spV C 2 (F__law_take))) (d__law_of : Df P w C.K mg base 2 "_law_of" ["_law_box_here", "_law_some"] (spV C 2 (F__law_of))) : Df P w C.K mg base 3 "_law_about_sixty" ["_law_box_here"] (spV C 1 (F__law_about_sixty)) := by
  have sc := sc__law_about_sixty
  subst hw
  exact Dv.nf (Dv.of (k := 2) (g := g__law_about_sixty) S sc__law_about_sixty rfl fun f cdv A outer s H E hr hf =>
      (qs_cons (q_set (i := 1) sc.nd rfl (Or.inl rfl) (q_op op_add vo_add q_int (q_df d__law_take (hr.mono (by decide)) hf rfl (qa_cons (qv 0) (qa_cons q_int qa_nil)))))
      (qs_cons (q_set (i := 2) sc.nd rfl (Or.inl rfl) (q_df d__law_of (hr.mono (by decide)) hf rfl (qa_cons (qv 0) (qa_cons (q_lst (qa_cons (q_tup (qa_cons q_int qa_nil)) (qa_cons (q_tup (qa_cons q_int (qa_cons (q_un un_neg vu_neg q_int) qa_nil))) (qa_cons (q_tup (qa_cons q_int (qa_cons (q_un un_neg vu_neg q_int) qa_nil))) (qa_cons (q_tup (qa_cons q_int (qa_cons (q_un un_neg vu_neg q_int) qa_nil))) (qa_cons (q_tup (qa_cons q_int (qa_cons q_int qa_nil))) qa_nil)))))) qa_nil))))
      (qs_one (q_ret (q_tup (qa_cons q_str (qa_cons (qv 2) (qa_cons (q_df d__law_of (hr.mono (by decide)) hf rfl (qa_cons (qv 0) (qa_cons (q_lst (qa_cons (q_op op_sub vo_sub (qv 1) q_int) (qa_cons (q_op op_sub vo_sub q_int (qv 1)) qa_nil))) qa_nil))) qa_nil)))))))))
abbrev s__law_holds : Stmt := topS 34
abbrev N__law_holds : List Str := [("_law_simple_here" : Str), ("_law_number" : Str)]
theorem sc__law_holds : FnScope N__law_holds ["_law_simple_here", "_law_number"] (defScope s__law_holds) := ⟨rfl, rfl, rfl, by decide +kernel, rfl, by decide +kernel, by decide +kernel⟩
theorem ok__law_holds (hw : C.w = w) (T : Bn mg) (S : Stands C.K mg "_law_holds" s__law_holds ["_law_simple_here", "_law_number"]) : Df P w C.K mg base 1 "_law_holds" ["_law_simple_here", "_law_number"] (spV C 2 (F__law_holds)) := by
  have sc := sc__law_holds
  subst hw
  exact Dv.nf (Dv.of (k := 0) (g := g__law_holds) S sc__law_holds rfl fun f cdv A outer s H E hr hf =>
      (qs_one (q_ret (q_ifE (qt_cmp (op_eq.or (op_eqD hr.units)) vo_eq (q_ix rfl (qv 0) q_int (fun _ _ => rfl)) q_str (nomark _)) (q_cmp op_ge vo_ge (qv 1) (q_ix rfl (qv 0) q_int (fun _ _ => rfl)) (nomark _)) (q_cmp (op_eq.or (op_eqD hr.units)) vo_eq (qv 1) (q_ix rfl (qv 0) q_int (fun _ _ => rfl)) (nomark _))))))
abbrev s__law_fresh : Stmt := topS 36
abbrev N__law_fresh : List Str := [("_law_simples_here" : Str), ("_law_sort" : Str), ("_law_found" : Str), ("_law_simple_here" : Str), ("_law_number" : Str)]
theorem sc__law_fresh : FnScope N__law_fresh ["_law_simples_here", "_law_sort"] (defScope s__law_fresh) := ⟨rfl, rfl, rfl, by decide +kernel, rfl, by decide +kernel, by decide +kernel⟩
theorem ok__law_fresh (hw : C.w = w) (T : Bn mg) (S : Stands C.K mg "_law_fresh" s__law_fresh ["_law_simples_here", "_law_sort"]) (d__law_holds : Df P w C.K mg base 1 "_law_holds" ["_law_simple_here", "_law_number"] (spV C 2 (F__law_holds))) : Df P w C.K mg base 2 "_law_fresh" ["_law_simples_here", "_law_sort"] (spV C 2 (F__law_fresh)) := by
  have sc := sc__law_fresh
  subst hw
  exact Dv.nf (Dv.of (k := 1) (g := g__law_fresh) S sc__law_fresh rfl fun f cdv A outer s H E hr hf =>
      (qs_cons (q_set (i := 2) sc.nd rfl (Or.inl rfl) (q_lst qa_nil))
      (qs_cons (q_for PassesOwn.never rfl (qi_seq rfl (qv 0)) (qg_name (i := 3) sc.nd rfl (Or.inl rfl)) (qs_cons (q_set (i := 4) sc.nd rfl (Or.inl rfl) (q_ifE (qt_cmp (op_eq.or (op_eqD hr.units)) vo_eq (q_ix rfl (qv 3) q_int (fun _ _ => rfl)) q_str (nomark _)) (q_ix rfl (q_ix rfl (qv 3) q_int (fun _ _ => rfl)) (qv 1) (fun _ _ => rfl)) (q_op op_mod vo_mod (q_ix rfl (q_ix rfl (qv 3) q_int (fun _ _ => rfl)) (qv 1) (fun _ _ => rfl)) (q_ix rfl (qv 3) q_int (fun _ _ => rfl)))))
      (qs_one (q_expr (q_app rfl (pe_bm PySem.F.plainAttrs_list PySem.F.slot_list_append PySem.F.type_list_append mt_append (qv 2) (pa_cons (q_tup (qa_cons q_bl (qa_cons (qv 4) (qa_cons (q_df d__law_holds (hr.mono (by decide)) hf rfl (qa_cons (qv 3) (qa_cons (qv 4) qa_nil))) qa_nil)))) pa_nil)))))))
      (qs_one (q_ret (q_callTy call_tuple_of vc_tuple rfl T.n_tuple PyProof.Rows.boot_tuple (qa_cons (qv 2) qa_nil)))))))
abbrev s__law_parted : Stmt := topS 33
abbrev N__law_parted : List Str := [("_law_simple_here" : Str), ("_law_number" : Str), ("_law_size" : Str), ("_law_kept_here" : Str), ("_law_worth" : Str)]
theorem sc__law_parted : FnScope N__law_parted ["_law_simple_here", "_law_number"] (defScope s__law_parted) := ⟨rfl, rfl, rfl, by decide +kernel, rfl, by decide +kernel, by decide +kernel⟩
theorem ok__law_parted (hw : C.w = w) (T : Bn mg) (S : Stands C.K mg "_law_parted" s__law_parted ["_law_simple_here", "_law_number"]) : Df P w C.K mg base 1 "_law_parted" ["_law_simple_here", "_law_number"] (spV C 2 (F__law_parted)) := by
  have sc := sc__law_parted
  subst hw
  exact Dv.nf (Dv.of (k := 0) (g := g__law_parted) S sc__law_parted rfl fun f cdv A outer s H E hr hf =>
      (qs_cons (q_if (qt_cmp (op_eq.or (op_eqD hr.units)) vo_eq (q_ix rfl (qv 0) q_int (fun _ _ => rfl)) q_str (nomark _)) (qs_one (q_ret (q_tup (qa_cons (q_op op_mod vo_mod (qv 1) (q_ix rfl (qv 0) q_int (fun _ _ => rfl))) (qa_cons q_int qa_nil))))) qs_nil)
      (qs_cons (q_set (i := 2) sc.nd rfl (Or.inl rfl) (q_callB (cr_max rfl) vc_maxL rfl T.n_max (by decide +kernel) (qa_cons (q_op op_cat vo_cat (q_lst (qa_cons (q_op op_add vo_add (q_callB call_abs vc_abs rfl T.n_abs (by decide +kernel) (qa_cons (q_ix rfl (qv 0) q_int (fun _ _ => rfl)) qa_nil)) q_int) qa_nil)) (q_lc (own := [("_law_worth", 4)]) rfl sc.nd (qi_seq rfl (q_ix rfl (qv 0) q_int (fun _ _ => rfl))) (blkOk_by (own := [("_law_worth", 4)]) (N := N__law_parted) (sc := defScope s__law_parted) (by decide +kernel)) (by decide) (fun _ _ _ _ _ => (qg_name (i := 4) sc.nd rfl (Or.inl rfl))) (fun _ _ _ _ _ => qts_nil) (fun _ _ _ _ _ => (q_callB call_abs vc_abs rfl T.n_abs (by decide +kernel) (qa_cons (qv 4) qa_nil))))) qa_nil)))
      (qs_cons (q_set (i := 3) sc.nd rfl (Or.inl rfl) (q_callB (call_max2 rfl) vc_max2 rfl T.n_max (by decide +kernel) (qa_cons (q_op op_sub vo_sub q_int (qv 2)) (qa_cons (q_callB (call_min2 rfl) vc_min2 rfl T.n_min (by decide +kernel) (qa_cons (qv 2) (qa_cons (qv 1) qa_nil))) qa_nil))))
      (qs_one (q_ret (q_tup (qa_cons (qv 3) (qa_cons (q_op op_sub vo_sub (qv 1) (qv 3)) qa_nil)))))))))
abbrev s__law_met : Stmt := topS 35
abbrev N__law_met : List Str := [("_law_simples_here" : Str), ("_law_one" : Str), ("_law_other" : Str), ("_law_first" : Str), ("_law_second" : Str), ("_law_simple_here" : Str), ("_law_mine" : Str), ("_law_its" : Str), ("_law_kept_here" : Str), ("_law_over" : Str), ("_law_word" : Str), ("_law_pair" : Str)]
theorem sc__law_met : FnScope N__law_met ["_law_simples_here", "_law_one", "_law_other"] (defScope s__law_met) := ⟨rfl, rfl, rfl, by decide +kernel, rfl, by decide +kernel, by decide +kernel⟩
theorem ok__law_met (hw : C.w = w) (T : Bn mg) (S : Stands C.K mg "_law_met" s__law_met ["_law_simples_here", "_law_one", "_law_other"]) (d__law_parted : Df P w C.K mg base 1 "_law_parted" ["_law_simple_here", "_law_number"] (spV C 2 (F__law_parted))) (d__law_holds : Df P w C.K mg base 1 "_law_holds" ["_law_simple_here", "_law_number"] (spV C 2 (F__law_holds))) : Df P w C.K mg base 2 "_law_met" ["_law_simples_here", "_law_one", "_law_other"] (spV C 3 (F__law_met)) := by
  have sc := sc__law_met
  subst hw
  exact Dv.nf (Dv.of (k := 1) (g := g__law_met) S sc__law_met rfl fun f cdv A outer s H E hr hf =>
      (qs_cons (q_par (i := 3) (j := 4) rfl sc.nd rfl rfl (by decide) rfl rfl (qa_cons (q_lst qa_nil) (qa_cons (q_lst qa_nil) qa_nil)) rfl)
      (qs_cons (q_for PassesOwn.never rfl (qi_zip3 rfl (pi_zip3 rfl T.n_zip (qa_cons (qv 0) (qa_cons (qv 1) (qa_cons (qv 2) qa_nil))))) (qg_tup rfl rfl (qgs_cons (qg_name (i := 5) sc.nd rfl (Or.inl rfl)) (qgs_cons (qg_name (i := 6) sc.nd rfl (Or.inl rfl)) (qgs_cons (qg_name (i := 7) sc.nd rfl (Or.inl rfl)) qgs_nil)))) (qs_cons (q_if (PW.pt (qw_or (qt_val (q_ix rfl (qv 6) q_int (fun _ _ => rfl))) (qw_or1 (qt_val (q_ix rfl (qv 7) q_int (fun _ _ => rfl)))))) (qs_cons (q_asg (q_df d__law_parted (hr.mono (by decide)) hf rfl (qa_cons (qv 5) (qa_cons (q_op op_add vo_add (q_ix rfl (qv 6) q_int (fun _ _ => rfl)) (q_ix rfl (qv 7) q_int (fun _ _ => rfl))) qa_nil))) (qg_tup rfl rfl (qgs_cons (qg_name (i := 8) sc.nd rfl (Or.inl rfl)) (qgs_cons (qg_name (i := 9) sc.nd rfl (Or.inl rfl)) qgs_nil))))
      (qs_cons (q_set (i := 10) sc.nd rfl (Or.inl rfl) (q_df d__law_holds (hr.mono (by decide)) hf rfl (qa_cons (qv 5) (qa_cons (qv 8) qa_nil))))
      (qs_cons (q_set (i := 11) sc.nd rfl (Or.inl rfl) (q_lst (qa_cons (q_tup (qa_cons q_bl (qa_cons (qv 8) (qa_cons (qv 10) qa_nil)))) (qa_cons (q_tup (qa_cons q_bl (qa_cons (qv 9) (qa_cons (qv 10) qa_nil)))) qa_nil))))
      (qs_one (q_asgL rfl rfl (q_ifE (qt_val (q_ix rfl (qv 6) q_int (fun _ _ => rfl))) (qv 11) (q_revL rfl (qv 11))) (qgs_cons (qg_name (i := 6) sc.nd rfl (Or.inl rfl)) (qgs_cons (qg_name (i := 7) sc.nd rfl (Or.inl rfl)) qgs_nil))))))) qs_nil)
      (qs_cons (q_expr (q_app rfl (pe_bm PySem.F.plainAttrs_list PySem.F.slot_list_append PySem.F.type_list_append mt_append (qv 3) (pa_cons (qv 6) pa_nil))))
      (qs_one (q_expr (q_app rfl (pe_bm PySem.F.plainAttrs_list PySem.F.slot_list_append PySem.F.type_list_append mt_append (qv 4) (pa_cons (qv 7) pa_nil))))))))
      (qs_one (q_ret (q_tup (qa_cons (q_callTy call_tuple_of vc_tuple rfl T.n_tuple PyProof.Rows.boot_tuple (qa_cons (qv 3) qa_nil)) (qa_cons (q_callTy call_tuple_of vc_tuple rfl T.n_tuple PyProof.Rows.boot_tuple (qa_cons (qv 4) qa_nil)) qa_nil))))))))
abbrev s__law_all : Stmt := topS 37
abbrev N__law_all : List Str := [("_law_simples_here" : Str), ("_law_sorts" : Str), ("_law_most" : Str), ("_law_waiting" : Str), ("_law_known" : Str), ("_law_here" : Str), ("_law_other" : Str), ("_law_sort" : Str)]
theorem sc__law_all : FnScope N__law_all ["_law_simples_here", "_law_sorts", "_law_most"] (defScope s__law_all) := ⟨rfl, rfl, rfl, by decide +kernel, rfl, by decide +kernel, by decide +kernel⟩
theorem ok__law_all (hw : C.w = w) (T : Bn mg) (S : Stands C.K mg "_law_all" s__law_all ["_law_simples_here", "_law_sorts", "_law_most"]) (d__law_fresh : Df P w C.K mg base 2 "_law_fresh" ["_law_simples_here", "_law_sort"] (spV C 2 (F__law_fresh))) (d__law_met : Df P w C.K mg base 2 "_law_met" ["_law_simples_here", "_law_one", "_law_other"] (spV C 3 (F__law_met))) : Df P w C.K mg base 3 "_law_all" ["_law_simples_here", "_law_sorts", "_law_most"] (spV C 3 (F__law_all)) := by
  have sc := sc__law_all
  subst hw
  exact Dv.nf (Dv.of (k := 2) (g := g__law_all) S sc__law_all rfl fun f cdv A outer s H E hr hf =>
      (qs_cons (q_par (i := 3) (j := 4) rfl sc.nd rfl rfl (by decide) rfl rfl (qa_cons (q_lc (own := [("_law_sort", 7)]) rfl sc.nd (qi_range1 rfl T.n_range (qa_cons (qv 1) qa_nil)) (blkOk_by (own := [("_law_sort", 7)]) (N := N__law_all) (sc := defScope s__law_all) (by decide +kernel)) (by decide) (fun _ _ _ _ _ => (qg_name (i := 7) sc.nd rfl (Or.inl rfl))) (fun _ _ _ _ _ => qts_nil) (fun _ _ _ _ _ => (q_df d__law_fresh (hr.mono (by decide)) hf rfl (qa_cons (qv 0) (qa_cons (qv 7) qa_nil))))) (qa_cons (q_dict0 rfl) qa_nil)) rfl)
      (qs_cons (q_while 1000000 PassesOwn.never (qt_cmp (op_neD hr.units) vo_neL (qv 3) (q_lst qa_nil) (nomark _)) (qs_cons (q_set (i := 5) sc.nd rfl (Or.inl rfl) (q_popL (pe_bm0 PySem.F.plainAttrs_list PySem.F.slot_list_pop PySem.F.type_list_pop mt_pop (qv 3))))
      (qs_cons (q_if (qt_cmp (op_notInKd hr.units) vo_notInK (qv 5) (qv 4) rfl) (qs_cons (q_putD rfl rfl hr.units q_bl (qv 4) (qv 5) (pg_sub (qv 4) (qv 5) (set_kd hr.units)))
      (qs_one (q_for PassesOwn.never rfl (qi_seq rfl (q_callTy (cr_kdAll rfl) vc_lstK rfl T.n_list (by decide +kernel) (qa_cons (qv 4) qa_nil))) (qg_name (i := 6) sc.nd rfl (Or.inl rfl)) (qs_cons (q_expr (q_extT rfl (pe_bm PySem.F.plainAttrs_list PySem.F.slot_list_extend PySem.F.type_list_extend mt_extendT (qv 3) (pa_cons (q_df d__law_met (hr.mono (by decide)) hf rfl (qa_cons (qv 0) (qa_cons (qv 5) (qa_cons (qv 6) qa_nil)))) pa_nil))))
      (qs_one (q_expr (q_extT rfl (pe_bm PySem.F.plainAttrs_list PySem.F.slot_list_extend PySem.F.type_list_extend mt_extendT (qv 3) (pa_cons (q_df d__law_met (hr.mono (by decide)) hf rfl (qa_cons (qv 0) (qa_cons (qv 6) (qa_cons (qv 5) qa_nil)))) pa_nil))))))))) qs_nil)
      (qs_one (q_if (qt_cmp op_gt vo_gt (q_callB call_lenKd vc_lenK rfl T.n_len PySem.boot_len (qa_cons (qv 4) qa_nil)) (qv 2) (nomark _)) (qs_one (q_ret q_non)) qs_nil)))))
      (qs_one (q_ret (q_callTy call_tuple_of vc_tuple rfl T.n_tuple PyProof.Rows.boot_tuple (qa_cons (q_callB (cr_kdKeys rfl hr.units128) vc_sortK rfl T.n_sorted PyProof.Rows.boot_sorted (qa_cons (qv 4) qa_nil)) qa_nil)))))))
abbrev s__law_parts : Stmt := topS 38
abbrev N__law_parts : List Str := [("_law_saying_here" : Str), ("_law_found" : Str), ("_law_inner" : Str)]
theorem sc__law_parts : FnScope N__law_parts ["_law_saying_here"] (defScope s__law_parts) := ⟨rfl, rfl, rfl, by decide +kernel, rfl, by decide +kernel, by decide +kernel⟩
theorem ok__law_parts (hw : C.w = w) (T : Bn mg) (S : Stands C.K mg "_law_parts" s__law_parts ["_law_saying_here"]) : ∀ k, Df P w C.K mg base (1 + k) "_law_parts" ["_law_saying_here"] (spV C 1 (F__law_parts k))
  | 0 => Dv.never S
  | k + 1 => by
    have ih := ok__law_parts hw T S k
    have sc := sc__law_parts
    subst hw
    exact Dv.nf (Dv.of (k := 1 + k) (g := g__law_parts (F__law_parts k)) S sc__law_parts rfl fun f cdv A outer s H E hr hf =>
      (qs_cons (q_if (qt_cmp op_in_seq vo_inT (q_ix rfl (qv 0) q_int (fun _ _ => rfl)) (q_tup (qa_cons q_str (qa_cons q_str qa_nil))) rfl) (qs_one (q_ret (q_lst (qa_cons (qv 0) qa_nil)))) qs_nil)
      (qs_cons (q_set (i := 1) sc.nd rfl (Or.inl rfl) (q_lst qa_nil))
      (qs_cons (q_for PassesOwn.never rfl (qi_seq rfl (q_slT rfl (qv 0) qo_int qo_none)) (qg_name (i := 2) sc.nd rfl (Or.inl rfl)) (qs_one (q_expr (q_ext rfl (pe_bm PySem.F.plainAttrs_list PySem.F.slot_list_extend PySem.F.type_list_extend mt_extend (qv 1) (pa_cons (q_df ih (hr.mono (by omega)) hf rfl (qa_cons (qv 2) qa_nil)) pa_nil))))))
      (qs_one (q_ret (q_sortSet rfl rfl rfl hr.units (pe_callB (cr_sortK rfl hr.units) rfl T.n_sorted PyProof.Rows.boot_sorted (pa_cons (pe_callTy (cr_setK rfl hr.units) rfl T.n_set PyProof.Rows.boot_set (pa_cons (qv 1) pa_nil)) pa_nil)))))))))
abbrev s_is_tuple_of : Stmt := topS 4
abbrev N_is_tuple_of : List Str := [("thing" : Str), ("many" : Str)]
theorem sc_is_tuple_of : FnScope N_is_tuple_of ["thing", "many"] (defScope s_is_tuple_of) := ⟨rfl, rfl, rfl, by decide +kernel, rfl, by decide +kernel, by decide +kernel⟩
theorem ok_is_tuple_of (hw : C.w = w) (T : Bn mg) (S : Stands C.K mg "is_tuple_of" s_is_tuple_of ["thing", "many"]) : Df P w C.K mg base 1 "is_tuple_of" ["thing", "many"] (spV C 2 (Pg.F_is_tuple_of)) := by
  have sc := sc_is_tuple_of
  subst hw
  exact Dv.nf (Dv.of (k := 0) (g := Pg.g_is_tuple_of) S sc_is_tuple_of rfl fun f cdv A outer s H E hr hf =>
      (qs_one (q_ret (q_and (q_isi (T := "tuple") (by simp) rfl (pe_callB call_isi rfl T.n_isinstance (by decide +kernel) (pa_cons (qv 0) (pa_cons (pe_bltn (v := .ty "tuple") rfl T.n_tuple PyProof.Rows.boot_tuple rfl) pa_nil)))) (q_one (q_cmp (op_eq.or (op_eqD hr.units)) vo_eq (q_callB call_len_seq vc_len rfl T.n_len PySem.boot_len (qa_cons (qv 0) qa_nil)) (qv 1) (nomark _)))))))
abbrev s_is_headed : Stmt := topS 5
abbrev N_is_headed : List Str := [("thing" : Str), ("word" : Str), ("many" : Str)]
theorem sc_is_headed : FnScope N_is_headed ["thing", "word", "many"] (defScope s_is_headed) := ⟨rfl, rfl, rfl, by decide +kernel, rfl, by decide +kernel, by decide +kernel⟩
theorem ok_is_headed (hw : C.w = w) (T : Bn mg) (S : Stands C.K mg "is_headed" s_is_headed ["thing", "word", "many"]) (d_is_tuple_of : Df P w C.K mg base 1 "is_tuple_of" ["thing", "many"] (spV C 2 (Pg.F_is_tuple_of))) : Df P w C.K mg base 2 "is_headed" ["thing", "word", "many"] (spV C 3 (Pg.F_is_headed)) := by
  have sc := sc_is_headed
  subst hw
  exact Dv.nf (Dv.of (k := 1) (g := Pg.g_is_headed) S sc_is_headed rfl fun f cdv A outer s H E hr hf =>
      (qs_one (q_ret (q_and (q_df d_is_tuple_of (hr.mono (by decide)) hf rfl (qa_cons (qv 0) (qa_cons (qv 2) qa_nil))) (q_and (q_isi (T := "str") (by simp) rfl (pe_callB call_isi rfl T.n_isinstance (by decide +kernel) (pa_cons (q_ix rfl (qv 0) q_int (fun _ _ => rfl)) (pa_cons (pe_bltn (v := .ty "str") rfl T.n_str (by decide +kernel) rfl) pa_nil)))) (q_one (q_cmp (op_eq.or (op_eqD hr.units)) vo_eq (q_ix rfl (qv 0) q_int (fun _ _ => rfl)) (qv 1) (nomark _))))))))
abbrev s_is_joined : Stmt := topS 7
abbrev N_is_joined : List Str := [("thing" : Str)]
theorem sc_is_joined : FnScope N_is_joined ["thing"] (defScope s_is_joined) := ⟨rfl, rfl, rfl, by decide +kernel, rfl, by decide +kernel, by decide +kernel⟩
theorem ok_is_joined (hw : C.w = w) (T : Bn mg) (S : Stands C.K mg "is_joined" s_is_joined ["thing"]) (d_is_headed : Df P w C.K mg base 2 "is_headed" ["thing", "word", "many"] (spV C 3 (Pg.F_is_headed))) : Df P w C.K mg base 3 "is_joined" ["thing"] (spV C 1 (Pg.F_is_joined)) := by
  have sc := sc_is_joined
  subst hw
  exact Dv.nf (Dv.of (k := 2) (g := Pg.g_is_joined) S sc_is_joined rfl fun f cdv A outer s H E hr hf =>
      (qs_one (q_ret (q_or (q_df d_is_headed (hr.mono (by decide)) hf rfl (qa_cons (qv 0) (qa_cons q_str (qa_cons q_int qa_nil)))) (q_or (q_df d_is_headed (hr.mono (by decide)) hf rfl (qa_cons (qv 0) (qa_cons q_str (qa_cons q_int qa_nil)))) (q_one (q_df d_is_headed (hr.mono (by decide)) hf rfl (qa_cons (qv 0) (qa_cons q_str (qa_cons q_int qa_nil))))))))))
abbrev s_all_simples : Stmt := topS 8
abbrev N_all_simples : List Str := [("saying" : Str), ("found" : Str), ("part" : Str)]
theorem sc_all_simples : FnScope N_all_simples ["saying"] (defScope s_all_simples) := ⟨rfl, rfl, rfl, by decide +kernel, rfl, by decide +kernel, by decide +kernel⟩
theorem ok_all_simples (hw : C.w = w) (T : Bn mg) (S : Stands C.K mg "all_simples" s_all_simples ["saying"]) (d_is_joined : Df P w C.K mg base 3 "is_joined" ["thing"] (spV C 1 (Pg.F_is_joined))) : ∀ k, Df P w C.K mg base (4 + k) "all_simples" ["saying"] (spV C 1 (Pg.F_all_simples k))
  | 0 => Dv.never S
  | k + 1 => by
    have ih := ok_all_simples hw T S d_is_joined k
    have sc := sc_all_simples
    subst hw
    exact Dv.nf (Dv.of (k := 4 + k) (g := Pg.g_all_simples (Pg.F_all_simples k)) S sc_all_simples rfl fun f cdv A outer s H E hr hf =>
      (qs_cons (q_if (qt_not (qt_val (q_df d_is_joined (hr.mono (by omega)) hf rfl (qa_cons (qv 0) qa_nil)))) (qs_one (q_ret (q_lst (qa_cons (qv 0) qa_nil)))) qs_nil)
      (qs_cons (q_set (i := 1) sc.nd rfl (Or.inl rfl) (q_lst qa_nil))
      (qs_cons (q_for PassesOwn.never rfl (qi_seq rfl (q_slT rfl (qv 0) qo_int qo_none)) (qg_name (i := 2) sc.nd rfl (Or.inl rfl)) (qs_one (q_expr (q_ext rfl (pe_bm PySem.F.plainAttrs_list PySem.F.slot_list_extend PySem.F.type_list_extend mt_extend (qv 1) (pa_cons (q_df ih (hr.mono (by omega)) hf rfl (qa_cons (qv 2) qa_nil)) pa_nil))))))
      (qs_one (q_ret (qv 1)))))))
abbrev s_simples : Stmt := topS 10
abbrev N_simples : List Str := [("saying" : Str)]
theorem sc_simples : FnScope N_simples ["saying"] (defScope s_simples) := ⟨rfl, rfl, rfl, by decide +kernel, rfl, by decide +kernel, by decide +kernel⟩
theorem ok_simples (hw : C.w = w) (T : Bn mg) (S : Stands C.K mg "simples" s_simples ["saying"]) (d_all_simples : Df P w C.K mg base 13 "all_simples" ["saying"] (spV C 1 (Pg.F_all_simples 9))) : Df P w C.K mg base 14 "simples" ["saying"] (spV C 1 (Pg.F_simples)) := by
  have sc := sc_simples
  subst hw
  exact Dv.nf (Dv.of (k := 13) (g := Pg.g_simples) S sc_simples rfl fun f cdv A outer s H E hr hf =>
      (qs_one (q_ret (q_callTy call_tuple_of vc_tuple rfl T.n_tuple PyProof.Rows.boot_tuple (qa_cons (q_sortSet rfl rfl rfl hr.units (pe_callB (cr_sortK rfl hr.units) rfl T.n_sorted PyProof.Rows.boot_sorted (pa_cons (pe_callTy (cr_setK rfl hr.units) rfl T.n_set PyProof.Rows.boot_set (pa_cons (q_df d_all_simples (hr.mono (by decide)) hf rfl (qa_cons (qv 0) qa_nil)) pa_nil)) pa_nil))) qa_nil)))))
abbrev s_left_by : Stmt := topS 14
abbrev N_left_by : List Str := [("simple" : Str), ("number" : Str)]
theorem sc_left_by : FnScope N_left_by ["simple", "number"] (defScope s_left_by) := ⟨rfl, rfl, rfl, by decide +kernel, rfl, by decide +kernel, by decide +kernel⟩
theorem ok_left_by (hw : C.w = w) (T : Bn mg) (S : Stands C.K mg "left_by" s_left_by ["simple", "number"]) : Df P w C.K mg base 1 "left_by" ["simple", "number"] (spV C 2 (Pg.F_left_by)) := by
  have sc := sc_left_by
  subst hw
  exact Dv.nf (Dv.of (k := 0) (g := Pg.g_left_by) S sc_left_by rfl fun f cdv A outer s H E hr hf =>
      (qs_cons (q_if (qt_cmp (op_eq.or (op_eqD hr.units)) vo_eq (q_ix rfl (qv 0) q_int (fun _ _ => rfl)) q_str (nomark _)) (qs_one (q_ret (q_op op_mod vo_mod (qv 1) (q_ix rfl (qv 0) q_int (fun _ _ => rfl))))) qs_nil)
      (qs_one (q_ret (qv 1)))))
abbrev s_says : Stmt := topS 13
abbrev N_says : List Str := [("simple" : Str), ("number" : Str)]
theorem sc_says : FnScope N_says ["simple", "number"] (defScope s_says) := ⟨rfl, rfl, rfl, by decide +kernel, rfl, by decide +kernel, by decide +kernel⟩
theorem ok_says (hw : C.w = w) (T : Bn mg) (S : Stands C.K mg "says" s_says ["simple", "number"]) : Df P w C.K mg base 1 "says" ["simple", "number"] (spV C 2 (Pg.F_says)) := by
  have sc := sc_says
  subst hw
  exact Dv.nf (Dv.of (k := 0) (g := Pg.g_says) S sc_says rfl fun f cdv A outer s H E hr hf =>
      (qs_cons (q_if (qt_cmp (op_eq.or (op_eqD hr.units)) vo_eq (q_ix rfl (qv 0) q_int (fun _ _ => rfl)) q_str (nomark _)) (qs_one (q_ret (q_cmp (op_eq.or (op_eqD hr.units)) vo_eq (qv 1) (q_ix rfl (qv 0) q_int (fun _ _ => rfl)) (nomark _)))) qs_nil)
      (qs_one (q_ret (q_cmp op_ge vo_ge (qv 1) (q_ix rfl (qv 0) q_int (fun _ _ => rfl)) (nomark _))))))
abbrev s_fresh_hold : Stmt := topS 18
abbrev N_fresh_hold : List Str := [("simple" : Str), ("sort" : Str), ("number" : Str)]
theorem sc_fresh_hold : FnScope N_fresh_hold ["simple", "sort"] (defScope s_fresh_hold) := ⟨rfl, rfl, rfl, by decide +kernel, rfl, by decide +kernel, by decide +kernel⟩
theorem ok_fresh_hold (hw : C.w = w) (T : Bn mg) (S : Stands C.K mg "fresh_hold" s_fresh_hold ["simple", "sort"]) (d_left_by : Df P w C.K mg base 1 "left_by" ["simple", "number"] (spV C 2 (Pg.F_left_by))) (d_says : Df P w C.K mg base 1 "says" ["simple", "number"] (spV C 2 (Pg.F_says))) : Df P w C.K mg base 2 "fresh_hold" ["simple", "sort"] (spV C 2 (F_fresh_hold)) := by
  have sc := sc_fresh_hold
  subst hw
  exact Dv.nf (Dv.of (k := 1) (g := g_fresh_hold) S sc_fresh_hold rfl fun f cdv A outer s H E hr hf =>
      (qs_cons (q_set (i := 2) sc.nd rfl (Or.inl rfl) (q_df d_left_by (hr.mono (by decide)) hf rfl (qa_cons (qv 0) (qa_cons (q_ix rfl (q_ix rfl (qv 0) q_int (fun _ _ => rfl)) (qv 1) (fun _ _ => rfl)) qa_nil))))
      (qs_one (q_ret (q_tup (qa_cons q_bl (qa_cons (qv 2) (qa_cons (q_df d_says (hr.mono (by decide)) hf rfl (qa_cons (qv 0) (qa_cons (qv 2) qa_nil))) qa_nil))))))))
abbrev s_fresh : Stmt := topS 17
abbrev N_fresh : List Str := [("saying" : Str), ("sort" : Str), ("simple" : Str)]
theorem sc_fresh : FnScope N_fresh ["saying", "sort"] (defScope s_fresh) := ⟨rfl, rfl, rfl, by decide +kernel, rfl, by decide +kernel, by decide +kernel⟩
theorem ok_fresh (hw : C.w = w) (T : Bn mg) {f0 c0 P0 : Addr} {fd0 : FuncData} (S : Fun C.K "fresh" "fresh" s_fresh f0 fd0) (hm : mg "fresh" = some (.ref f0)) (hb : Binds C.K fd0 ["saying", "sort"] []) (hc : fd0.code = .ref c0) (TB : LamX.TabB base mg c0 P0) (hP : P0 ∈ C.T) (d_simples : Df P w C.K mg base 14 "simples" ["saying"] (spV C 1 (Pg.F_simples))) (d_fresh_hold : Df P w C.K mg base 2 "fresh_hold" ["simple", "sort"] (spV C 2 (F_fresh_hold))) : Df P w C.K mg base 15 "fresh" ["saying", "sort"] (spV C 2 (F_fresh)) := by
  have sc := sc_fresh
  subst hw
  exact Dv.nf (Dv.ofC (k := 14) (g := g_fresh) S hm hb hc sc_fresh rfl fun A outer s H E hr hf =>
      (qs_one (q_ret (q_tup (qa_cons q_str (qa_cons (qv 1) (qa_cons (q_tupX (own := [("simple", 2)]) (k := 13) (hr.mono (by decide)) hf rfl sc.nd rfl T.n_tuple TB hP rfl (gsc_by (by decide +kernel)) (blkOk_by (own := [("simple", 2)]) (N := N_fresh) (sc := defScope s_fresh) (by decide +kernel)) (qi_seq rfl (q_df d_simples (hr.mono (by decide)) hf rfl (qa_cons (qv 0) qa_nil))) (by decide) (fun _ _ _ _ _ _ _ hr hf => (qg_name (i := 2) sc.nd rfl (Or.inl rfl))) (fun _ _ _ _ _ _ _ hr hf => qts_nil) (fun _ _ _ _ _ _ _ hr hf => (q_df d_fresh_hold (hr.mono (by decide)) hf rfl (qa_cons (qv 2) (qa_cons (qv 1) qa_nil))))) qa_nil)))))))
abbrev s_sorts_of : Stmt := topS 9
abbrev N_sorts_of : List Str := [("saying" : Str)]
theorem sc_sorts_of : FnScope N_sorts_of ["saying"] (defScope s_sorts_of) := ⟨rfl, rfl, rfl, by decide +kernel, rfl, by decide +kernel, by decide +kernel⟩
theorem ok_sorts_of (hw : C.w = w) (T : Bn mg) (S : Stands C.K mg "sorts_of" s_sorts_of ["saying"]) (d_is_joined : Df P w C.K mg base 3 "is_joined" ["thing"] (spV C 1 (Pg.F_is_joined))) : Df P w C.K mg base 4 "sorts_of" ["saying"] (spV C 1 (F_sorts_of)) := by
  have sc := sc_sorts_of
  subst hw
  exact Dv.nf (Dv.of (k := 3) (g := g_sorts_of) S sc_sorts_of rfl fun f cdv A outer s H E hr hf =>
      (qs_cons (q_while 1000000 PassesOwn.never (qt_val (q_df d_is_joined (hr.mono (by decide)) hf rfl (qa_cons (qv 0) qa_nil))) (qs_one (q_set (i := 0) sc.nd rfl (Or.inl rfl) (q_ix rfl (qv 0) q_int (fun _ _ => rfl)))))
      (qs_one (q_ret (q_callB call_len_seq vc_len rfl T.n_len PySem.boot_len (qa_cons (q_ix rfl (qv 0) q_int (fun _ _ => rfl)) qa_nil))))))
abbrev s_first_holds : Stmt := topS 24
abbrev N_first_holds : List Str := [("saying" : Str), ("sort" : Str)]
theorem sc_first_holds : FnScope N_first_holds ["saying"] (defScope s_first_holds) := ⟨rfl, rfl, rfl, by decide +kernel, rfl, by decide +kernel, by decide +kernel⟩
theorem ok_first_holds (hw : C.w = w) (T : Bn mg) (S : Stands C.K mg "first_holds" s_first_holds ["saying"]) (d_sorts_of : Df P w C.K mg base 4 "sorts_of" ["saying"] (spV C 1 (F_sorts_of))) (d_fresh : Df P w C.K mg base 15 "fresh" ["saying", "sort"] (spV C 2 (F_fresh))) : Df P w C.K mg base 16 "first_holds" ["saying"] (spV C 1 (F_first_holds)) := by
  have sc := sc_first_holds
  subst hw
  exact Dv.nf (Dv.of (k := 15) (g := g_first_holds) S sc_first_holds rfl fun f cdv A outer s H E hr hf =>
      (qs_one (q_ret (q_lc (own := [("sort", 1)]) rfl sc.nd (qi_range1 rfl T.n_range (qa_cons (q_df d_sorts_of (hr.mono (by decide)) hf rfl (qa_cons (qv 0) qa_nil)) qa_nil)) (blkOk_by (own := [("sort", 1)]) (N := N_first_holds) (sc := defScope s_first_holds) (by decide +kernel)) (by decide) (fun _ _ _ _ _ => (qg_name (i := 1) sc.nd rfl (Or.inl rfl))) (fun _ _ _ _ _ => qts_nil) (fun _ _ _ _ _ => (q_ix rfl (q_df d_fresh (hr.mono (by decide)) hf rfl (qa_cons (qv 0) (qa_cons (qv 1) qa_nil))) q_int (fun _ _ => rfl)))))))
abbrev s_note_holds : Stmt := topS 25
abbrev N_note_holds : List Str := [("found" : Str), ("known" : Str), ("holds" : Str)]
theorem sc_note_holds : FnScope N_note_holds ["found", "known", "holds"] (defScope s_note_holds) := ⟨rfl, rfl, rfl, by decide +kernel, rfl, by decide +kernel, by decide +kernel⟩
theorem ok_note_holds (hw : C.w = w) (T : Bn mg) (S : Stands C.K mg "note_holds" s_note_holds ["found", "known", "holds"]) (XC : Xc C.K mg cl ce) : DfX P w C.K mg base 1 "note_holds" ["found", "known", "holds"] (spX C cl 3 (F_note_holds)) := by
  have sc := sc_note_holds
  subst hw
  exact DfX.nf (DfX.of (k := 0) (g := g_note_holds) S sc_note_holds rfl fun f cdv A outer s H E hr hf =>
      (xs_cons (x_ifX (qt_cmp (op_inKd hr.units) vo_inK (qv 2) (qv 1) rfl) (xs_one (x_lift q_retN)) xs_nil)
      (xs_cons (x_ifX (qt_cmp (op_eq.or (op_eqD hr.units)) vo_eq (q_callB call_len_seq vc_len rfl T.n_len PySem.boot_len (qa_cons (qv 0) qa_nil)) (q_c (pe_glob (v := .int 60) rfl T.c_MOST_STATES.choose_spec ⟨_, rfl⟩) fun _ => .int _) (nomark _)) (xs_one (x_raiseC (c := 0) rfl takes_def XC.x_TooMany rfl)) xs_nil)
      (xs_cons (x_lift (q_putD rfl rfl hr.units q_bl (qv 1) (qv 2) (pg_sub (qv 1) (qv 2) (set_kd hr.units))))
      (xs_one (x_lift (q_expr (q_app rfl (pe_bm PySem.F.plainAttrs_list PySem.F.slot_list_append PySem.F.type_list_append mt_append (qv 0) (pa_cons (qv 2) pa_nil))))))))))
abbrev s_size_of : Stmt := topS 12
abbrev N_size_of : List Str := [("simple" : Str), ("worth" : Str)]
theorem sc_size_of : FnScope N_size_of ["simple"] (defScope s_size_of) := ⟨rfl, rfl, rfl, by decide +kernel, rfl, by decide +kernel, by decide +kernel⟩
theorem ok_size_of (hw : C.w = w) (T : Bn mg) {f0 c0 P0 : Addr} {fd0 : FuncData} (S : Fun C.K "size_of" "size_of" s_size_of f0 fd0) (hm : mg "size_of" = some (.ref f0)) (hb : Binds C.K fd0 ["simple"] []) (hc : fd0.code = .ref c0) (TB : LamX.TabB base mg c0 P0) (hP : P0 ∈ C.T) : Df P w C.K mg base 2 "size_of" ["simple"] (spV C 1 (Pg.F_size_of)) := by
  have sc := sc_size_of
  subst hw
  exact Dv.nf (Dv.ofC (k := 1) (g := Pg.g_size_of) S hm hb hc sc_size_of rfl fun A outer s H E hr hf =>
      (qs_cons (q_if (qt_cmp (op_eq.or (op_eqD hr.units)) vo_eq (q_ix rfl (qv 0) q_int (fun _ _ => rfl)) q_str (nomark _)) (qs_one (q_ret (q_op op_sub vo_sub (q_ix rfl (qv 0) q_int (fun _ _ => rfl)) q_int))) qs_nil)
      (qs_one (q_ret (q_callB (call_max2 rfl) vc_max2 rfl T.n_max (by decide +kernel) (qa_cons (q_op op_add vo_add q_int (q_callB call_abs vc_abs rfl T.n_abs (by decide +kernel) (qa_cons (q_ix rfl (qv 0) q_int (fun _ _ => rfl)) qa_nil))) (qa_cons (q_maxAbs (i := 1) rfl (q_maxX (own := [("worth", 1)]) (k := 0) (hr.mono (by decide)) hf rfl sc.nd rfl T.n_max TB hP rfl (gsc_by (by decide +kernel)) (blkOk_by (own := [("worth", 1)]) (N := N_size_of) (sc := defScope s_size_of) (by decide +kernel)) (qi_seq rfl (q_ix rfl (qv 0) q_int (fun _ _ => rfl))) (by decide) (fun _ _ _ _ _ _ _ hr hf => (qg_name (i := 1) sc.nd rfl (Or.inl rfl))) (fun _ _ _ _ _ _ _ hr hf => qts_nil) (fun _ _ _ _ _ _ _ hr hf => (q_callB call_abs vc_abs rfl T.n_abs (by decide +kernel) (qa_cons (qv 1) qa_nil))))) qa_nil)))))))
abbrev s_cut : Stmt := topS 15
abbrev N_cut : List Str := [("simple" : Str), ("number" : Str), ("size" : Str), ("kept" : Str)]
theorem sc_cut : FnScope N_cut ["simple", "number"] (defScope s_cut) := ⟨rfl, rfl, rfl, by decide +kernel, rfl, by decide +kernel, by decide +kernel⟩
theorem ok_cut (hw : C.w = w) (T : Bn mg) (S : Stands C.K mg "cut" s_cut ["simple", "number"]) (d_left_by : Df P w C.K mg base 1 "left_by" ["simple", "number"] (spV C 2 (Pg.F_left_by))) (d_size_of : Df P w C.K mg base 2 "size_of" ["simple"] (spV C 1 (Pg.F_size_of))) : Df P w C.K mg base 3 "cut" ["simple", "number"] (spV C 2 (Pg.F_cut)) := by
  have sc := sc_cut
  subst hw
  exact Dv.nf (Dv.of (k := 2) (g := Pg.g_cut) S sc_cut rfl fun f cdv A outer s H E hr hf =>
      (qs_cons (q_if (qt_cmp (op_eq.or (op_eqD hr.units)) vo_eq (q_ix rfl (qv 0) q_int (fun _ _ => rfl)) q_str (nomark _)) (qs_one (q_ret (q_tup (qa_cons (q_df d_left_by (hr.mono (by decide)) hf rfl (qa_cons (qv 0) (qa_cons (qv 1) qa_nil))) (qa_cons q_int qa_nil))))) qs_nil)
      (qs_cons (q_set (i := 2) sc.nd rfl (Or.inl rfl) (q_df d_size_of (hr.mono (by decide)) hf rfl (qa_cons (qv 0) qa_nil)))
      (qs_cons (q_set (i := 3) sc.nd rfl (Or.inl rfl) (q_callB (call_max2 rfl) vc_max2 rfl T.n_max (by decide +kernel) (qa_cons (q_un un_neg vu_neg (qv 2)) (qa_cons (q_callB (call_min2 rfl) vc_min2 rfl T.n_min (by decide +kernel) (qa_cons (qv 2) (qa_cons (qv 1) qa_nil))) qa_nil))))
      (qs_one (q_ret (q_tup (qa_cons (qv 3) (qa_cons (q_op op_sub vo_sub (qv 1) (qv 3)) qa_nil)))))))))
abbrev s_members_met : Stmt := topS 20
abbrev N_members_met : List Str := [("simple" : Str), ("one" : Str), ("other" : Str), ("kept" : Str), ("over" : Str), ("word" : Str), ("leading" : Str), ("following" : Str)]
theorem sc_members_met : FnScope N_members_met ["simple", "one", "other"] (defScope s_members_met) := ⟨rfl, rfl, rfl, by decide +kernel, rfl, by decide +kernel, by decide +kernel⟩
theorem ok_members_met (hw : C.w = w) (T : Bn mg) (S : Stands C.K mg "members_met" s_members_met ["simple", "one", "other"]) (d_cut : Df P w C.K mg base 3 "cut" ["simple", "number"] (spV C 2 (Pg.F_cut))) (d_says : Df P w C.K mg base 1 "says" ["simple", "number"] (spV C 2 (Pg.F_says))) : Df P w C.K mg base 4 "members_met" ["simple", "one", "other"] (spV C 3 (Pg.F_members_met)) := by
  have sc := sc_members_met
  subst hw
  exact Dv.nf (Dv.of (k := 3) (g := Pg.g_members_met) S sc_members_met rfl fun f cdv A outer s H E hr hf =>
      (qs_cons (q_if (PW.pt (qw_and (qt_not (qt_val (q_ix rfl (qv 1) q_int (fun _ _ => rfl)))) (qw_and1 (qt_not (qt_val (q_ix rfl (qv 2) q_int (fun _ _ => rfl))))))) (qs_one (q_ret (q_tup (qa_cons (qv 1) (qa_cons (qv 2) qa_nil))))) qs_nil)
      (qs_cons (q_asg (q_df d_cut (hr.mono (by decide)) hf rfl (qa_cons (qv 0) (qa_cons (q_op op_add vo_add (q_ix rfl (qv 1) q_int (fun _ _ => rfl)) (q_ix rfl (qv 2) q_int (fun _ _ => rfl))) qa_nil))) (qg_tup rfl rfl (qgs_cons (qg_name (i := 3) sc.nd rfl (Or.inl rfl)) (qgs_cons (qg_name (i := 4) sc.nd rfl (Or.inl rfl)) qgs_nil))))
      (qs_cons (q_set (i := 5) sc.nd rfl (Or.inl rfl) (q_df d_says (hr.mono (by decide)) hf rfl (qa_cons (qv 0) (qa_cons (qv 3) qa_nil))))
      (qs_cons (q_set (i := 6) sc.nd rfl (Or.inl rfl) (q_tup (qa_cons q_bl (qa_cons (qv 3) (qa_cons (qv 5) qa_nil)))))
      (qs_cons (q_set (i := 7) sc.nd rfl (Or.inl rfl) (q_tup (qa_cons q_bl (qa_cons (qv 4) (qa_cons (qv 5) qa_nil)))))
      (qs_cons (q_if (qt_val (q_ix rfl (qv 1) q_int (fun _ _ => rfl))) (qs_one (q_ret (q_tup (qa_cons (qv 6) (qa_cons (qv 7) qa_nil))))) qs_nil)
      (qs_one (q_ret (q_tup (qa_cons (qv 7) (qa_cons (qv 6) qa_nil))))))))))))
abbrev s_holds_met : Stmt := topS 21
abbrev N_holds_met : List Str := [("ones" : Str), ("mine" : Str), ("yours" : Str), ("pairs" : Str), ("simple" : Str), ("one" : Str), ("other" : Str), ("pair" : Str)]
theorem sc_holds_met : FnScope N_holds_met ["ones", "mine", "yours"] (defScope s_holds_met) := ⟨rfl, rfl, rfl, by decide +kernel, rfl, by decide +kernel, by decide +kernel⟩
theorem ok_holds_met (hw : C.w = w) (T : Bn mg) {f0 c0 P0 : Addr} {fd0 : FuncData} (S : Fun C.K "holds_met" "holds_met" s_holds_met f0 fd0) (hm : mg "holds_met" = some (.ref f0)) (hb : Binds C.K fd0 ["ones", "mine", "yours"] []) (hc : fd0.code = .ref c0) (TB : LamX.TabB base mg c0 P0) (hP : P0 ∈ C.T) (d_members_met : Df P w C.K mg base 4 "members_met" ["simple", "one", "other"] (spV C 3 (Pg.F_members_met))) : Df P w C.K mg base 5 "holds_met" ["ones", "mine", "yours"] (spV C 3 (Pg.F_holds_met)) := by
  have sc := sc_holds_met
  subst hw
  exact Dv.nf (Dv.ofC (k := 4) (g := Pg.g_holds_met) S hm hb hc sc_holds_met rfl fun A outer s H E hr hf =>
      (qs_cons (q_setLc (i := 3) (own := [("simple", 4), ("one", 5), ("other", 6)]) rfl sc.nd rfl rfl (sw_true rfl rfl rfl (by decide +kernel)) (qi_zip3 rfl (pi_zip3 rfl T.n_zip (qa_cons (qv 0) (qa_cons (qv 1) (qa_cons (qv 2) qa_nil))))) (blkOk_by (own := [("simple", 4), ("one", 5), ("other", 6)]) (N := N_holds_met) (sc := defScope s_holds_met) (by decide +kernel)) (by decide) (fun _ _ _ _ _ => (qg_tup rfl rfl (qgs_cons (qg_name (i := 4) sc.nd rfl (Or.inl rfl)) (qgs_cons (qg_name (i := 5) sc.nd rfl (Or.inl rfl)) (qgs_cons (qg_name (i := 6) sc.nd rfl (Or.inl rfl)) qgs_nil))))) (fun _ _ _ _ _ => qts_nil) (fun _ _ _ _ _ => (q_df d_members_met (hr.mono (by decide)) hf rfl (qa_cons (qv 4) (qa_cons (qv 5) (qa_cons (qv 6) qa_nil))))))
      (qs_one (q_ret (q_tup (qa_cons (q_tupIx (k := 0) (i := 7) rfl (q_tupX (own := [("pair", 7)]) (k := 3) (hr.mono (by decide)) hf rfl sc.nd rfl T.n_tuple TB hP rfl (gsc_by (by decide +kernel)) (blkOk_by (own := [("pair", 7)]) (N := N_holds_met) (sc := defScope s_holds_met) (by decide +kernel)) (qi_seq rfl (qv 3)) (by decide) (fun _ _ _ _ _ _ _ hr hf => (qg_name (i := 7) sc.nd rfl (Or.inl rfl))) (fun _ _ _ _ _ _ _ hr hf => qts_nil) (fun _ _ _ _ _ _ _ hr hf => (q_ix rfl (qv 7) q_int (fun _ _ => rfl))))) (qa_cons (q_tupIx (k := 1) (i := 7) rfl (q_tupX (own := [("pair", 7)]) (k := 3) (hr.mono (by decide)) hf rfl sc.nd rfl T.n_tuple TB hP rfl (gsc_by (by decide +kernel)) (blkOk_by (own := [("pair", 7)]) (N := N_holds_met) (sc := defScope s_holds_met) (by decide +kernel)) (qi_seq rfl (qv 3)) (by decide) (fun _ _ _ _ _ _ _ hr hf => (qg_name (i := 7) sc.nd rfl (Or.inl rfl))) (fun _ _ _ _ _ _ _ hr hf => qts_nil) (fun _ _ _ _ _ _ _ hr hf => (q_ix rfl (qv 7) q_int (fun _ _ => rfl))))) qa_nil)))))))
abbrev s_holds_between : Stmt := topS 26
abbrev N_holds_between : List Str := [("ones" : Str), ("one" : Str), ("other" : Str)]
theorem sc_holds_between : FnScope N_holds_between ["ones", "one", "other"] (defScope s_holds_between) := ⟨rfl, rfl, rfl, by decide +kernel, rfl, by decide +kernel, by decide +kernel⟩
theorem ok_holds_between (hw : C.w = w) (T : Bn mg) (S : Stands C.K mg "holds_between" s_holds_between ["ones", "one", "other"]) (d_holds_met : Df P w C.K mg base 5 "holds_met" ["ones", "mine", "yours"] (spV C 3 (Pg.F_holds_met))) : Df P w C.K mg base 6 "holds_between" ["ones", "one", "other"] (spV C 3 (F_holds_between)) := by
  have sc := sc_holds_between
  subst hw
  exact Dv.nf (Dv.of (k := 5) (g := g_holds_between) S sc_holds_between rfl fun f cdv A outer s H E hr hf =>
      (qs_one (q_ret (q_lst (q_star rfl (q_df d_holds_met (hr.mono (by decide)) hf rfl (qa_cons (qv 0) (qa_cons (qv 1) (qa_cons (qv 2) qa_nil)))) (q_star rfl (q_df d_holds_met (hr.mono (by decide)) hf rfl (qa_cons (qv 0) (qa_cons (qv 2) (qa_cons (qv 1) qa_nil)))) qa_nil))))))
abbrev s_holds_made : Stmt := topS 27
abbrev N_holds_made : List Str := [("saying" : Str), ("ones" : Str), ("found" : Str), ("known" : Str), ("holds" : Str), ("at" : Str), ("before" : Str), ("one" : Str), ("other" : Str)]
theorem sc_holds_made : FnScope N_holds_made ["saying"] (defScope s_holds_made) := ⟨rfl, rfl, rfl, by decide +kernel, rfl, by decide +kernel, by decide +kernel⟩
theorem ok_holds_made (hw : C.w = w) (T : Bn mg) (S : Stands C.K mg "holds_made" s_holds_made ["saying"]) (XC : Xc C.K mg cl ce) (d_simples : Df P w C.K mg base 14 "simples" ["saying"] (spV C 1 (Pg.F_simples))) (d_first_holds : Df P w C.K mg base 16 "first_holds" ["saying"] (spV C 1 (F_first_holds))) (d_note_holds : DfX P w C.K mg base 1 "note_holds" ["found", "known", "holds"] (spX C cl 3 (F_note_holds))) (d_holds_between : Df P w C.K mg base 6 "holds_between" ["ones", "one", "other"] (spV C 3 (F_holds_between))) : DfX P w C.K mg base 17 "holds_made" ["saying"] (spX C cl 1 (F_holds_made)) := by
  have sc := sc_holds_made
  subst hw
  exact DfX.nf (DfX.of (k := 16) (g := g_holds_made) S sc_holds_made rfl fun f cdv A outer s H E hr hf =>
      (xs_cons (x_lift (q_set (i := 1) sc.nd rfl (Or.inl rfl) (q_df d_simples (hr.mono (by decide)) hf rfl (qa_cons (qv 0) qa_nil))))
      (xs_cons (x_lift (q_set (i := 2) sc.nd rfl (Or.inl rfl) (q_lst qa_nil)))
      (xs_cons (x_lift (q_set (i := 3) sc.nd rfl (Or.inl rfl) (q_dict0 rfl)))
      (xs_cons (x_forX passes_def rfl (qi_seq rfl (q_df d_first_holds (hr.mono (by decide)) hf rfl (qa_cons (qv 0) qa_nil))) (qg_name (i := 4) sc.nd rfl (Or.inl rfl)) (xs_one (x_exprC d_note_holds takes_def (hr.mono (by decide)) hf rfl (qa_cons (qv 2) (qa_cons (qv 3) (qa_cons (qv 4) qa_nil))))))
      (xs_cons (x_lift (q_set (i := 5) sc.nd rfl (Or.inl rfl) q_int))
      (xs_cons (x_whileX 1000000 passes_def (qt_cmp op_lt vo_lt (qv 5) (q_callB call_len_seq vc_len rfl T.n_len PySem.boot_len (qa_cons (qv 2) qa_nil)) (nomark _)) (xs_cons (x_forX passes_def rfl (qi_range1 rfl T.n_range (qa_cons (q_op op_add vo_add (qv 5) q_int) qa_nil)) (qg_name (i := 6) sc.nd rfl (Or.inl rfl)) (xs_cons (x_lift (q_set (i := 7) sc.nd rfl (Or.inl rfl) (q_ix rfl (qv 2) (qv 5) (fun _ _ => rfl))))
      (xs_cons (x_lift (q_set (i := 8) sc.nd rfl (Or.inl rfl) (q_ix rfl (qv 2) (qv 6) (fun _ _ => rfl))))
      (xs_one (x_forX passes_def rfl (qi_seq rfl (q_df d_holds_between (hr.mono (by decide)) hf rfl (qa_cons (qv 1) (qa_cons (qv 7) (qa_cons (qv 8) qa_nil))))) (qg_name (i := 4) sc.nd rfl (Or.inl rfl)) (xs_one (x_exprC d_note_holds takes_def (hr.mono (by decide)) hf rfl (qa_cons (qv 2) (qa_cons (qv 3) (qa_cons (qv 4) qa_nil))))))))))
      (xs_one (x_lift (q_aug (i := 5) ip_add sc.nd rfl (Or.inl rfl) q_int)))))
      (xs_one (x_lift (q_ret (q_callTy call_tuple_of vc_tuple rfl T.n_tuple PyProof.Rows.boot_tuple (qa_cons (q_callB (cr_sortL hr.units) vc_sortL rfl T.n_sorted PyProof.Rows.boot_sorted (qa_cons (qv 2) qa_nil)) qa_nil))))))))))))
abbrev s__law_heard : Stmt := topS 40
abbrev N__law_heard : List Str := [("_law_saying_here" : Str), ("_law_found" : Str)]
theorem sc__law_heard : FnScope N__law_heard ["_law_saying_here"] (defScope s__law_heard) := ⟨rfl, rfl, rfl, by decide +kernel, rfl, by decide +kernel, by decide +kernel⟩
theorem ok__law_heard (hw : C.w = w) (T : Bn mg) (S : Stands C.K mg "_law_heard" s__law_heard ["_law_saying_here"]) (XC : Xc C.K mg cl ce) (d_holds_made : DfX P w C.K mg base 17 "holds_made" ["saying"] (spX C cl 1 (F_holds_made))) : Df P w C.K mg base 18 "_law_heard" ["_law_saying_here"] (spV C 1 (F__law_heard)) := by
  have sc := sc__law_heard
  subst hw
  exact Dv.nf (Dv.of (k := 17) (g := g__law_heard) S sc__law_heard rfl fun f cdv A outer s H E hr hf =>
      (qs_cons (q_set (i := 1) sc.nd rfl (Or.inl rfl) q_str)
      (qs_cons (x_try2 (i := 1) rfl rfl d_holds_made (hr.mono (by decide)) hf rfl (fun _ _ => (qa_cons (qv 0) qa_nil)) sc.nd rfl (Or.inl rfl) (names_cls XC.m_TooMany rfl) (names_cls XC.m_CrowdError rfl) XC.e_TooMany (fun _ _ _ => (qs_one (q_set (i := 1) sc.nd rfl (Or.inl rfl) q_str))) (fun _ _ _ => (qs_one (q_set (i := 1) sc.nd rfl (Or.inl rfl) q_str))))
      (qs_one (q_ret (qv 1))))))
abbrev s_law : Stmt := topS 42
abbrev N_law : List Str := [("_law_script" : Str), ("_law_k" : Str), ("_law_box_here" : Str), ("_law_sorts" : Str), ("_law_some" : Str), ("_law_one" : Str), ("_law_base" : Str), ("_law_worths" : Str), ("_law_saying_here" : Str), ("_law_sorts_here" : Str), ("_law_due" : Str), ("_law_sort" : Str)]
theorem sc_law : FnScope N_law ["_law_script"] (defScope s_law) := ⟨rfl, rfl, rfl, by decide +kernel, rfl, by decide +kernel, by decide +kernel⟩
theorem ok_law (hw : C.w = w) (T : Bn mg) {f0 : Addr} {fd0 : FuncData} (S : Fun C.K "law" "law" s_law f0 fd0) (d__law_box : Df P w C.K mg base 1 "_law_box" ["_law_script", "_law_k"] (spV C 2 (F__law_box C.ns))) (d__law_take : Df P w C.K mg base 1 "_law_take" ["_law_box_here", "_law_count"] (spV C 2 (F__law_take))) (d__law_simple : Df P w C.K mg base 2 "_law_simple" ["_law_box_here", "_law_sorts", "_law_wide"] (spV C 3 (F__law_simple))) (d__law_saying : Df P w C.K mg base 3 "_law_saying" ["_law_box_here", "_law_sorts", "_law_wide"] (spV C 3 (F__law_saying))) (d__law_about_sixty : Df P w C.K mg base 3 "_law_about_sixty" ["_law_box_here"] (spV C 1 (F__law_about_sixty))) (d__law_parts : Df P w C.K mg base 5 "_law_parts" ["_law_saying_here"] (spV C 1 (F__law_parts 4))) (d__law_all : Df P w C.K mg base 3 "_law_all" ["_law_simples_here", "_law_sorts", "_law_most"] (spV C 3 (F__law_all))) (d__law_heard : Df P w C.K mg base 18 "_law_heard" ["_law_saying_here"] (spV C 1 (F__law_heard))) : FnG P w C.K mg base 19 f0 fd0 ["_law_script"] (spV C 1 (F_law C.ns)) := by
  have sc := sc_law
  subst hw
  exact Dv.fn (k := 18) (g := g_law C.ns) S sc_law rfl fun f cdv A outer s H E hr hf =>
      (qs_cons (q_for PassesOwn.never rfl (qi_range1 rfl T.n_range (qa_cons (q_op op_add vo_add q_int (q_callB (call_min2 rfl) vc_min2 rfl T.n_min (by decide +kernel) (qa_cons q_int (qa_cons (q_callB call_len_seq vc_lenS rfl T.n_len PySem.boot_len (qa_cons (qv 0) qa_nil)) qa_nil)))) qa_nil)) (qg_name (i := 1) sc.nd rfl (Or.inl rfl)) (qs_cons (q_set (i := 2) sc.nd rfl (Or.inr rfl) (q_df d__law_box (hr.mono (by decide)) hf rfl (qa_cons (qv 0) (qa_cons (qv 1) qa_nil))))
      (qs_cons (q_set (i := 3) sc.nd rfl (Or.inr rfl) (q_op op_add vo_add q_int (q_df d__law_take (hr.mono (by decide)) hf rfl (qa_cons (qv 2) (qa_cons q_int qa_nil)))))
      (qs_cons (q_set (i := 4) sc.nd rfl (Or.inl rfl) (q_lst (qa_cons (q_df d__law_saying (hr.mono (by decide)) hf rfl (qa_cons (qv 2) (qa_cons (qv 3) (qa_cons q_int qa_nil)))) (qa_cons (q_df d__law_simple (hr.mono (by decide)) hf rfl (qa_cons (qv 2) (qa_cons (qv 3) (qa_cons q_int qa_nil)))) (qa_cons (q_df d__law_simple (hr.mono (by decide)) hf rfl (qa_cons (qv 2) (qa_cons (qv 3) (qa_cons q_int qa_nil)))) qa_nil)))))
      (qs_cons (q_expr (q_app rfl (pe_bm PySem.F.plainAttrs_list PySem.F.slot_list_append PySem.F.type_list_append mt_append (qv 4) (pa_cons (q_df d__law_about_sixty (hr.mono (by decide)) hf rfl (qa_cons (qv 2) qa_nil)) pa_nil))))
      (qs_cons (q_set (i := 5) sc.nd rfl (Or.inr rfl) (q_tup (qa_cons q_str (qa_cons (q_op (op_once.or op_repT) vo_repT (q_tup (qa_cons q_int qa_nil)) (qv 3)) (qa_cons (q_df d__law_take (hr.mono (by decide)) hf rfl (qa_cons (qv 2) (qa_cons q_int qa_nil))) (qa_cons q_int qa_nil))))))
      (qs_cons (q_expr (q_ext rfl (pe_bm PySem.F.plainAttrs_list PySem.F.slot_list_extend PySem.F.type_list_extend mt_extend (qv 4) (pa_cons (q_lc (own := [("_law_base", 6)]) rfl sc.nd (qi_seq rfl (q_tup (qa_cons q_int (qa_cons q_int qa_nil)))) (blkOk_by (own := [("_law_base", 6)]) (N := N_law) (sc := defScope s_law) (by decide +kernel)) (by decide) (fun _ _ _ _ _ => (qg_name (i := 6) sc.nd rfl (Or.inl rfl))) (fun _ _ _ _ _ => qts_nil) (fun _ _ _ _ _ => (q_tup (qa_cons q_str (qa_cons (qv 5) (qa_cons (q_tup (qa_cons q_str (qa_cons (q_op (op_once.or op_repT) vo_repT (q_tup (qa_cons q_int qa_nil)) (qv 3)) (qa_cons (q_df d__law_take (hr.mono (by decide)) hf rfl (qa_cons (qv 2) (qa_cons (qv 6) qa_nil))) (qa_cons (qv 6) qa_nil))))) qa_nil)))))) pa_nil))))
      (qs_cons (q_set (i := 6) sc.nd rfl (Or.inl rfl) (q_op op_add vo_add q_int (q_df d__law_take (hr.mono (by decide)) hf rfl (qa_cons (qv 2) (qa_cons q_int qa_nil)))))
      (qs_cons (q_set (i := 7) sc.nd rfl (Or.inl rfl) (q_callTy call_tuple_of vc_tuple rfl T.n_tuple PyProof.Rows.boot_tuple (qa_cons (q_lc (own := [("_law_sort", 11)]) rfl sc.nd (qi_range1 rfl T.n_range (qa_cons (qv 3) qa_nil)) (blkOk_by (own := [("_law_sort", 11)]) (N := N_law) (sc := defScope s_law) (by decide +kernel)) (by decide) (fun _ _ _ _ _ => (qg_name (i := 11) sc.nd rfl (Or.inl rfl))) (fun _ _ _ _ _ => qts_nil) (fun _ _ _ _ _ => (q_op op_sub vo_sub (q_df d__law_take (hr.mono (by decide)) hf rfl (qa_cons (qv 2) (qa_cons q_int qa_nil))) q_int))) qa_nil)))
      (qs_cons (q_expr (q_app rfl (pe_bm PySem.F.plainAttrs_list PySem.F.slot_list_append PySem.F.type_list_append mt_append (qv 4) (pa_cons (q_tup (qa_cons q_str (qa_cons (qv 7) (qa_cons (q_df d__law_take (hr.mono (by decide)) hf rfl (qa_cons (qv 2) (qa_cons (qv 6) qa_nil))) (qa_cons (qv 6) qa_nil))))) pa_nil))))
      (qs_cons (q_expr (q_app rfl (pe_bm PySem.F.plainAttrs_list PySem.F.slot_list_append PySem.F.type_list_append mt_append (qv 4) (pa_cons (q_tup (qa_cons q_str (qa_cons (q_df d__law_saying (hr.mono (by decide)) hf rfl (qa_cons (qv 2) (qa_cons (qv 3) (qa_cons q_int qa_nil)))) (qa_cons (q_tup (qa_cons q_str (qa_cons (q_df d__law_simple (hr.mono (by decide)) hf rfl (qa_cons (qv 2) (qa_cons (qv 3) (qa_cons q_int qa_nil)))) qa_nil))) qa_nil)))) pa_nil))))
      (qs_one (q_for PassesOwn.never rfl (qi_seq rfl (qv 4)) (qg_name (i := 8) sc.nd rfl (Or.inl rfl)) (qs_cons (q_set (i := 9) sc.nd rfl (Or.inl rfl) (q_callB call_len_seq vc_len rfl T.n_len PySem.boot_len (qa_cons (q_ix rfl (q_ix rfl (q_df d__law_parts (hr.mono (by decide)) hf rfl (qa_cons (qv 8) qa_nil)) q_int (fun _ _ => rfl)) q_int (fun _ _ => rfl)) qa_nil)))
      (qs_cons (q_set (i := 10) sc.nd rfl (Or.inl rfl) (q_df d__law_all (hr.mono (by decide)) hf rfl (qa_cons (q_df d__law_parts (hr.mono (by decide)) hf rfl (qa_cons (qv 8) qa_nil)) (qa_cons (qv 9) (qa_cons q_int qa_nil)))))
      (qs_cons (q_set (i := 10) sc.nd rfl (Or.inl rfl) (q_callB (call_repS hf hr.units) vc_repS rfl T.n_repr (by decide +kernel) (qa_cons (q_ifE (qt_cmp op_isN vo_isN (qv 10) q_non (nomark _)) q_str (qv 10)) qa_nil)))
      (qs_one (q_if (PW.pt (qw_or (qt_cmp (op_ne.or (op_neD hr.units)) vo_ne (q_callB (call_repS hf hr.units) vc_repS rfl T.n_repr (by decide +kernel) (qa_cons (q_df d__law_heard (hr.mono (by decide)) hf rfl (qa_cons (qv 8) qa_nil)) qa_nil)) (qv 10) (nomark _)) (qw_or1 (qt_cmp (op_ne.or (op_neD hr.units)) vo_ne (q_callB (call_repS hf hr.units) vc_repS rfl T.n_repr (by decide +kernel) (qa_cons (q_df d__law_heard (hr.mono (by decide)) hf rfl (qa_cons (qv 8) qa_nil)) qa_nil)) (qv 10) (nomark _))))) (qs_one (q_ret q_bl)) qs_nil))))))))))))))))))
      (qs_one (q_ret q_bl)))
end
end K53
set_option maxHeartbeats 4000000
namespace K53
open PySem PySem.Spec PyProof.Rows L2 Sa Va
/-- what the top has written of a def -/
structure Wr (K : PySem.W.Frag) (x : Str) (st : Stmt) (f : Addr) (fd : FuncData) : Prop where
  ns : PySem.W.nsIn K mainGlobals x = some (some (.ref f))
  fn : Fun K x x st f fd
section
variable {l : PySem.W.OpenLaw} {w : World} {K : PySem.W.Frag} {h : Heap} {mg : Str -> Option Value}
theorem Wr.stands {x : Str} {st : Stmt} {f : Addr} {fd : FuncData} {ps : List Str} (W : Wr K x st f fd) (X : K.In h) (G : h.Ns mainGlobals mg)
    (hb : ∀ (kV doc pm : Value) (an : Option Addr) (cdv ct : Value) (us : List Value), us.length = ps.length -> bindArgs (PySem.W.fnOf x x (defArgs st) (defBody st) (defScope st) .none kV doc pm an cdv ct) ⟨us, []⟩ = pure (ps.zip us)) :
    Stands K mg x st ps := ⟨f, fd, W.fn, PySem.W.mg_of X G W.ns, W.fn.binds hb⟩
/-- a def's code table, empty as the law begins -/
theorem tab_of {q : Program} {x : Str} {st : Stmt} {f c Tp : Addr} {fd : FuncData} {eC : Value} {dC : Option Addr} {vC : Array Value} {sC : Array (Option Value)} (X : K.In h) (G : h.Ns mainGlobals mg) (tabs : TabsOf q mg h) (W : Wr K x st f fd) (hc : fd.code = .ref c)
    (lC : K.lookup c = some ⟨eC, dC, .fields vC, sC⟩) (v11 : vC[11]? = some (.ref Tp)) (hrec : ((recsOf q).any fun e => e.name == x) = true) : h.get? Tp = some noTab /\ PySem.W.CodeHd h c Tp := by
  obtain ⟨dL, hm, hn1⟩ := List.any_eq_true.mp hrec
  have hn2 : dL.name = x := beq_iff_eq.mp hn1
  obtain ⟨a', o', fd', c', P', h1, h2, h3, h4, h5, h6⟩ := tabs dL hm
  rw [hn2, PySem.W.mg_of X G W.ns] at h1
  cases h1
  obtain ⟨oc, od, kV, doc, pm, an, cdv, ct, osl, rfl, lk, hcd⟩ := W.fn.ex
  rw [X _ _ lk] at h2
  cases h2
  cases h3
  rw [hc] at h4
  cases h4
  have h7 := PySem.W.CodeHd.of h5 h6
  obtain ⟨⟨o1, v1, e1, _, e3, e4⟩, hP⟩ := h6
  rw [X _ _ lC] at e1
  cases e1
  cases e3
  rw [v11] at e4
  cases e4
  exact ⟨hP, h7⟩
theorem exI {α : Type} {p : α -> Prop} {a : α} (h : p a) : ∃ x, p x := ⟨a, h⟩
theorem all_mk {q : Program} {fa f29 f30 f32 f39 f31 f41 f34 f36 f33 f35 f37 f38 f4 f5 f7 f8 f10 f14 f13 f18 f17 f9 f24 f25 f12 f15 f20 f21 f26 f27 f40 f42 c17 T17 c12 T12 c21 T21 : Addr} {fd29 fd30 fd32 fd39 fd31 fd41 fd34 fd36 fd33 fd35 fd37 fd38 fd4 fd5 fd7 fd8 fd10 fd14 fd13 fd18 fd17 fd9 fd24 fd25 fd12 fd15 fd20 fd21 fd26 fd27 fd40 fd42 : FuncData}
    (X : K.In h) (G : h.Ns mainGlobals mg) (hfa : mg "law" = some (.ref fa)) (tabs : TabsOf q mg h) (T : Bn mg) {Ca : Addr} {ce : Value} (cx : ClsX K mg "TooMany" (.ref Ca)) (mt : mg "TooMany" = some (.ref Ca)) (mc : mg "CrowdError" = some ce) (ex : PySem.W.exmOne K (.ref Ca) (.ref Ca) = some true)
    (w29 : Wr K "_law_box" s__law_box f29 fd29)
    (w30 : Wr K "_law_take" s__law_take f30 fd30)
    (w32 : Wr K "_law_simple" s__law_simple f32 fd32)
    (w39 : Wr K "_law_saying" s__law_saying f39 fd39)
    (w31 : Wr K "_law_of" s__law_of f31 fd31)
    (w41 : Wr K "_law_about_sixty" s__law_about_sixty f41 fd41)
    (w34 : Wr K "_law_holds" s__law_holds f34 fd34)
    (w36 : Wr K "_law_fresh" s__law_fresh f36 fd36)
    (w33 : Wr K "_law_parted" s__law_parted f33 fd33)
    (w35 : Wr K "_law_met" s__law_met f35 fd35)
    (w37 : Wr K "_law_all" s__law_all f37 fd37)
    (w38 : Wr K "_law_parts" s__law_parts f38 fd38)
    (w4 : Wr K "is_tuple_of" s_is_tuple_of f4 fd4)
    (w5 : Wr K "is_headed" s_is_headed f5 fd5)
    (w7 : Wr K "is_joined" s_is_joined f7 fd7)
    (w8 : Wr K "all_simples" s_all_simples f8 fd8)
    (w10 : Wr K "simples" s_simples f10 fd10)
    (w14 : Wr K "left_by" s_left_by f14 fd14)
    (w13 : Wr K "says" s_says f13 fd13)
    (w18 : Wr K "fresh_hold" s_fresh_hold f18 fd18)
    (w17 : Wr K "fresh" s_fresh f17 fd17) (hc17 : fd17.code = .ref c17)
    (w9 : Wr K "sorts_of" s_sorts_of f9 fd9)
    (w24 : Wr K "first_holds" s_first_holds f24 fd24)
    (w25 : Wr K "note_holds" s_note_holds f25 fd25)
    (w12 : Wr K "size_of" s_size_of f12 fd12) (hc12 : fd12.code = .ref c12)
    (w15 : Wr K "cut" s_cut f15 fd15)
    (w20 : Wr K "members_met" s_members_met f20 fd20)
    (w21 : Wr K "holds_met" s_holds_met f21 fd21) (hc21 : fd21.code = .ref c21)
    (w26 : Wr K "holds_between" s_holds_between f26 fd26)
    (w27 : Wr K "holds_made" s_holds_made f27 fd27)
    (w40 : Wr K "_law_heard" s__law_heard f40 fd40)
    (w42 : Wr K "law" s_law f42 fd42)
    {eC17 : Value} {dC17 : Option Addr} {vC17 : Array Value} {sC17 : Array (Option Value)} (lC17 : K.lookup c17 = some ⟨eC17, dC17, .fields vC17, sC17⟩) (v17 : vC17[11]? = some (.ref T17)) (nT17 : K.lookup T17 = none) (rec17 : ((recsOf q).any fun e => e.name == ("fresh" : Str)) = true)
    {eC12 : Value} {dC12 : Option Addr} {vC12 : Array Value} {sC12 : Array (Option Value)} (lC12 : K.lookup c12 = some ⟨eC12, dC12, .fields vC12, sC12⟩) (v12 : vC12[11]? = some (.ref T12)) (nT12 : K.lookup T12 = none) (rec12 : ((recsOf q).any fun e => e.name == ("size_of" : Str)) = true)
    {eC21 : Value} {dC21 : Option Addr} {vC21 : Array Value} {sC21 : Array (Option Value)} (lC21 : K.lookup c21 = some ⟨eC21, dC21, .fields vC21, sC21⟩) (v21 : vC21[11]? = some (.ref T21)) (nT21 : K.lookup T21 = none) (rec21 : ((recsOf q).any fun e => e.name == ("holds_met" : Str)) = true)
    : LawSa l w K 19 63 "_law_script" mg fa h := by
  have e := hfa.symm.trans (PySem.W.mg_of X G w42.ns)
  cases e
  obtain ⟨hT17, hd17⟩ := tab_of X G tabs w17 hc17 lC17 v17 rec17
  obtain ⟨hT12, hd12⟩ := tab_of X G tabs w12 hc12 lC12 v12 rec12
  obtain ⟨hT21, hd21⟩ := tab_of X G tabs w21 hc21 lC21 v21 rec21
  refine ⟨fd42, [(c17, T17), (c12, T12), (c21, T21)], spLaw K w [T17, T12, T21] [] F_law, fun p hp => ?_, fun p hp => ?_, fun p hp => ?_, fun s u => ?_, fun H a ns hl hb hH hS => ?_, fun base KB GB TB => ?_⟩
  · simp only [List.mem_cons, List.not_mem_nil, or_false] at hp
    rcases hp with rfl | rfl | rfl
    · exact hT17
    · exact hT12
    · exact hT21
  · simp only [List.mem_cons, List.not_mem_nil, or_false] at hp
    rcases hp with rfl | rfl | rfl
    · exact nT17
    · exact nT12
    · exact nT21
  · simp only [List.mem_cons, List.not_mem_nil, or_false] at hp
    rcases hp with rfl | rfl | rfl
    · exact hd17
    · exact hd12
    · exact hd21
  · obtain ⟨oc, od, kV, doc, pm, an, cdv, ct, osl, rfl, lk, hcd⟩ := w42.fn.ex
    exact .of_eq rfl
  · obtain ⟨M2, e⟩ := law_true ns
    refine law_start (fun P hP => ?_) (fun p hp => absurd hp (by simp)) hS e
    simp only [List.mem_cons, List.not_mem_nil, or_false] at hP
    rcases hP with rfl | rfl | rfl
    · exact ⟨#[], hH _ List.mem_cons_self, trivial⟩
    · exact ⟨#[], hH _ (List.mem_cons_of_mem _ List.mem_cons_self), trivial⟩
    · exact ⟨#[], hH _ (List.mem_cons_of_mem _ (List.mem_cons_of_mem _ List.mem_cons_self)), trivial⟩
  · have TB17 := TB _ List.mem_cons_self
    have TB12 := TB _ (List.mem_cons_of_mem _ List.mem_cons_self)
    have TB21 := TB _ (List.mem_cons_of_mem _ (List.mem_cons_of_mem _ List.mem_cons_self))
    refine law_fn fun a ns => ?_
    generalize hC : (⟨K, w, [T17, T12, T21], a, ns, [], none⟩ : Ck) = C
    have hK : C.K = K := by rw [<- hC]
    have hw : C.w = w := by rw [<- hC]
    have hTs : C.T = [T17, T12, T21] := by rw [<- hC]
    have hns : C.ns = ns := by rw [<- hC]
    have hTL : C.TL = [] := by rw [<- hC]
    have hfa : C.fa = none := by rw [<- hC]
    subst hK hns
    have XC : Xc C.K mg (fun _ => .ref Ca) ce := ⟨cx, mt, fun _ => ex, mc⟩
    have d29 := ok__law_box (P := l.prog) (base := base) hw T (w29.stands X G fun _ _ _ _ _ _ us hl => match us, hl with | [_, _], _ => rfl)
    have d30 := ok__law_take (P := l.prog) (base := base) hw T (w30.stands X G fun _ _ _ _ _ _ us hl => match us, hl with | [_, _], _ => rfl)
    have d32 := ok__law_simple (P := l.prog) (base := base) hw T (w32.stands X G fun _ _ _ _ _ _ us hl => match us, hl with | [_, _, _], _ => rfl) d30
    have d39 := ok__law_saying (P := l.prog) (base := base) hw T (w39.stands X G fun _ _ _ _ _ _ us hl => match us, hl with | [_, _, _], _ => rfl) d30 d32
    have d31 := ok__law_of (P := l.prog) (base := base) hw T (w31.stands X G fun _ _ _ _ _ _ us hl => match us, hl with | [_, _], _ => rfl) d30
    have d41 := ok__law_about_sixty (P := l.prog) (base := base) hw T (w41.stands X G fun _ _ _ _ _ _ us hl => match us, hl with | [_], _ => rfl) d30 d31
    have d34 := ok__law_holds (P := l.prog) (base := base) hw T (w34.stands X G fun _ _ _ _ _ _ us hl => match us, hl with | [_, _], _ => rfl)
    have d36 := ok__law_fresh (P := l.prog) (base := base) hw T (w36.stands X G fun _ _ _ _ _ _ us hl => match us, hl with | [_, _], _ => rfl) d34
    have d33 := ok__law_parted (P := l.prog) (base := base) hw T (w33.stands X G fun _ _ _ _ _ _ us hl => match us, hl with | [_, _], _ => rfl)
    have d35 := ok__law_met (P := l.prog) (base := base) hw T (w35.stands X G fun _ _ _ _ _ _ us hl => match us, hl with | [_, _, _], _ => rfl) d33 d34
    have d37 := ok__law_all (P := l.prog) (base := base) hw T (w37.stands X G fun _ _ _ _ _ _ us hl => match us, hl with | [_, _, _], _ => rfl) d36 d35
    have d38 := ok__law_parts (P := l.prog) (base := base) hw T (w38.stands X G fun _ _ _ _ _ _ us hl => match us, hl with | [_], _ => rfl) 4
    have d4 := ok_is_tuple_of (P := l.prog) (base := base) hw T (w4.stands X G fun _ _ _ _ _ _ us hl => match us, hl with | [_, _], _ => rfl)
    have d5 := ok_is_headed (P := l.prog) (base := base) hw T (w5.stands X G fun _ _ _ _ _ _ us hl => match us, hl with | [_, _, _], _ => rfl) d4
    have d7 := ok_is_joined (P := l.prog) (base := base) hw T (w7.stands X G fun _ _ _ _ _ _ us hl => match us, hl with | [_], _ => rfl) d5
    have d8 := ok_all_simples (P := l.prog) (base := base) hw T (w8.stands X G fun _ _ _ _ _ _ us hl => match us, hl with | [_], _ => rfl) d7 9
    have d10 := ok_simples (P := l.prog) (base := base) hw T (w10.stands X G fun _ _ _ _ _ _ us hl => match us, hl with | [_], _ => rfl) d8
    have d14 := ok_left_by (P := l.prog) (base := base) hw T (w14.stands X G fun _ _ _ _ _ _ us hl => match us, hl with | [_, _], _ => rfl)
    have d13 := ok_says (P := l.prog) (base := base) hw T (w13.stands X G fun _ _ _ _ _ _ us hl => match us, hl with | [_, _], _ => rfl)
    have d18 := ok_fresh_hold (P := l.prog) (base := base) hw T (w18.stands X G fun _ _ _ _ _ _ us hl => match us, hl with | [_, _], _ => rfl) d14 d13
    have d17 := ok_fresh (P := l.prog) (base := base) hw T w17.fn (PySem.W.mg_of X G w17.ns) (w17.fn.binds fun _ _ _ _ _ _ us hl => match us, hl with | [_, _], _ => rfl) hc17 TB17 (by rw [hTs]; exact List.mem_cons_self) d10 d18
    have d9 := ok_sorts_of (P := l.prog) (base := base) hw T (w9.stands X G fun _ _ _ _ _ _ us hl => match us, hl with | [_], _ => rfl) d7
    have d24 := ok_first_holds (P := l.prog) (base := base) hw T (w24.stands X G fun _ _ _ _ _ _ us hl => match us, hl with | [_], _ => rfl) d9 d17
    have d25 := ok_note_holds (P := l.prog) (base := base) hw T (w25.stands X G fun _ _ _ _ _ _ us hl => match us, hl with | [_, _, _], _ => rfl) XC
    have d12 := ok_size_of (P := l.prog) (base := base) hw T w12.fn (PySem.W.mg_of X G w12.ns) (w12.fn.binds fun _ _ _ _ _ _ us hl => match us, hl with | [_], _ => rfl) hc12 TB12 (by rw [hTs]; exact (List.mem_cons_of_mem _ List.mem_cons_self))
    have d15 := ok_cut (P := l.prog) (base := base) hw T (w15.stands X G fun _ _ _ _ _ _ us hl => match us, hl with | [_, _], _ => rfl) d14 d12
    have d20 := ok_members_met (P := l.prog) (base := base) hw T (w20.stands X G fun _ _ _ _ _ _ us hl => match us, hl with | [_, _, _], _ => rfl) d15 d13
    have d21 := ok_holds_met (P := l.prog) (base := base) hw T w21.fn (PySem.W.mg_of X G w21.ns) (w21.fn.binds fun _ _ _ _ _ _ us hl => match us, hl with | [_, _, _], _ => rfl) hc21 TB21 (by rw [hTs]; exact (List.mem_cons_of_mem _ (List.mem_cons_of_mem _ List.mem_cons_self))) d20
    have d26 := ok_holds_between (P := l.prog) (base := base) hw T (w26.stands X G fun _ _ _ _ _ _ us hl => match us, hl with | [_, _, _], _ => rfl) d21
    have d27 := ok_holds_made (P := l.prog) (base := base) hw T (w27.stands X G fun _ _ _ _ _ _ us hl => match us, hl with | [_], _ => rfl) XC d10 d24 d25 d26
    have d40 := ok__law_heard (P := l.prog) (base := base) hw T (w40.stands X G fun _ _ _ _ _ _ us hl => match us, hl with | [_], _ => rfl) XC d27
    exact ok_law hw T w42.fn d29 d30 d32 d39 d41 d38 d37 d40
end
end K53
open PySem PySem.W PyProof.Rows
set_option maxRecDepth 100000 in
set_option maxHeartbeats 0 in
theorem PySem.Challenge.cw_strangersay_k53_holds_of_made_tables_holds : PySem.Challenge.rw_strangersay_k53_holds_of_made_tables.Holds := by
  w_on; o_law; k_head; (case hw => w_witness2)
  k_fill
  refine Sa.walk_sa (l := PySem.Challenge.rw_strangersay_k53_holds_of_made_tables) (n := 63) (k := 19) (x := "_law_script") rfl (by decide) rfl ⟨rfl, by decide, by decide⟩ (fun w h Y => PySem.W.kIn_of Y) ?F
  case F =>
    intro w mg fa h Y KX G hmg tb
    refine' K53.all_mk KX G hmg tb ⟨PySem.W.mg_none_of KX G ?z1, PySem.W.mg_none_of KX G ?z2, PySem.W.mg_none_of KX G ?z3, PySem.W.mg_none_of KX G ?z4, PySem.W.mg_none_of KX G ?z5, PySem.W.mg_none_of KX G ?z6, PySem.W.mg_none_of KX G ?z7, PySem.W.mg_none_of KX G ?z8, PySem.W.mg_none_of KX G ?z9, PySem.W.mg_none_of KX G ?z10, PySem.W.mg_none_of KX G ?z11, PySem.W.mg_none_of KX G ?z12, PySem.W.mg_none_of KX G ?z13, PySem.W.mg_none_of KX G ?z14, (K53.exI (PySem.W.mg_of KX G ?y1))⟩ ⟨⟨_, _, _, _, _, rfl, PySem.F.excBase_ValueError, ?xq, PySem.W.mg_of KX G ?xg, ?xk, ?xs, ?xt⟩⟩ (PySem.W.mg_of KX G ?xg2) (PySem.W.mg_of KX G ?xc) ?xe ⟨?a29, L2.fun_mk ?l29 ?c29 ?k29⟩ ⟨?a30, L2.fun_mk ?l30 ?c30 ?k30⟩ ⟨?a32, L2.fun_mk ?l32 ?c32 ?k32⟩ ⟨?a39, L2.fun_mk ?l39 ?c39 ?k39⟩ ⟨?a31, L2.fun_mk ?l31 ?c31 ?k31⟩ ⟨?a41, L2.fun_mk ?l41 ?c41 ?k41⟩ ⟨?a34, L2.fun_mk ?l34 ?c34 ?k34⟩ ⟨?a36, L2.fun_mk ?l36 ?c36 ?k36⟩ ⟨?a33, L2.fun_mk ?l33 ?c33 ?k33⟩ ⟨?a35, L2.fun_mk ?l35 ?c35 ?k35⟩ ⟨?a37, L2.fun_mk ?l37 ?c37 ?k37⟩ ⟨?a38, L2.fun_mk ?l38 ?c38 ?k38⟩ ⟨?a4, L2.fun_mk ?l4 ?c4 ?k4⟩ ⟨?a5, L2.fun_mk ?l5 ?c5 ?k5⟩ ⟨?a7, L2.fun_mk ?l7 ?c7 ?k7⟩ ⟨?a8, L2.fun_mk ?l8 ?c8 ?k8⟩ ⟨?a10, L2.fun_mk ?l10 ?c10 ?k10⟩ ⟨?a14, L2.fun_mk ?l14 ?c14 ?k14⟩ ⟨?a13, L2.fun_mk ?l13 ?c13 ?k13⟩ ⟨?a18, L2.fun_mk ?l18 ?c18 ?k18⟩ ⟨?a17, L2.fun_mk ?l17 ?c17 ?k17⟩ ?code17 ⟨?a9, L2.fun_mk ?l9 ?c9 ?k9⟩ ⟨?a24, L2.fun_mk ?l24 ?c24 ?k24⟩ ⟨?a25, L2.fun_mk ?l25 ?c25 ?k25⟩ ⟨?a12, L2.fun_mk ?l12 ?c12 ?k12⟩ ?code12 ⟨?a15, L2.fun_mk ?l15 ?c15 ?k15⟩ ⟨?a20, L2.fun_mk ?l20 ?c20 ?k20⟩ ⟨?a21, L2.fun_mk ?l21 ?c21 ?k21⟩ ?code21 ⟨?a26, L2.fun_mk ?l26 ?c26 ?k26⟩ ⟨?a27, L2.fun_mk ?l27 ?c27 ?k27⟩ ⟨?a40, L2.fun_mk ?l40 ?c40 ?k40⟩ ⟨?a42, L2.fun_mk ?l42 ?c42 ?k42⟩ ?lC17 ?v17 ?nT17 ?rec17 ?lC12 ?v12 ?nT12 ?rec12 ?lC21 ?v21 ?nT21 ?rec21
    (case xg => k_is); (case xq => kernel_rfl); (case xk => k_is); (case xs => k_is); (case xt => k_is); (case xg2 => k_is); (case xc => k_is); (case xe => kts_exm)
    (case a29 => k_is); (case l29 => k_is); (case c29 => k_is); (case k29 => k_is)
    (case a30 => k_is); (case l30 => k_is); (case c30 => k_is); (case k30 => k_is)
    (case a32 => k_is); (case l32 => k_is); (case c32 => k_is); (case k32 => k_is)
    (case a39 => k_is); (case l39 => k_is); (case c39 => k_is); (case k39 => k_is)
    (case a31 => k_is); (case l31 => k_is); (case c31 => k_is); (case k31 => k_is)
    (case a41 => k_is); (case l41 => k_is); (case c41 => k_is); (case k41 => k_is)
    (case a34 => k_is); (case l34 => k_is); (case c34 => k_is); (case k34 => k_is)
    (case a36 => k_is); (case l36 => k_is); (case c36 => k_is); (case k36 => k_is)
    (case a33 => k_is); (case l33 => k_is); (case c33 => k_is); (case k33 => k_is)
    (case a35 => k_is); (case l35 => k_is); (case c35 => k_is); (case k35 => k_is)
    (case a37 => k_is); (case l37 => k_is); (case c37 => k_is); (case k37 => k_is)
    (case a38 => k_is); (case l38 => k_is); (case c38 => k_is); (case k38 => k_is)
    (case a4 => k_is); (case l4 => k_is); (case c4 => k_is); (case k4 => k_is)
    (case a5 => k_is); (case l5 => k_is); (case c5 => k_is); (case k5 => k_is)
    (case a7 => k_is); (case l7 => k_is); (case c7 => k_is); (case k7 => k_is)
    (case a8 => k_is); (case l8 => k_is); (case c8 => k_is); (case k8 => k_is)
    (case a10 => k_is); (case l10 => k_is); (case c10 => k_is); (case k10 => k_is)
    (case a14 => k_is); (case l14 => k_is); (case c14 => k_is); (case k14 => k_is)
    (case a13 => k_is); (case l13 => k_is); (case c13 => k_is); (case k13 => k_is)
    (case a18 => k_is); (case l18 => k_is); (case c18 => k_is); (case k18 => k_is)
    (case a17 => k_is); (case l17 => k_is); (case c17 => k_is); (case k17 => k_is)
    (case a9 => k_is); (case l9 => k_is); (case c9 => k_is); (case k9 => k_is)
    (case a24 => k_is); (case l24 => k_is); (case c24 => k_is); (case k24 => k_is)
    (case a25 => k_is); (case l25 => k_is); (case c25 => k_is); (case k25 => k_is)
    (case a12 => k_is); (case l12 => k_is); (case c12 => k_is); (case k12 => k_is)
    (case a15 => k_is); (case l15 => k_is); (case c15 => k_is); (case k15 => k_is)
    (case a20 => k_is); (case l20 => k_is); (case c20 => k_is); (case k20 => k_is)
    (case a21 => k_is); (case l21 => k_is); (case c21 => k_is); (case k21 => k_is)
    (case a26 => k_is); (case l26 => k_is); (case c26 => k_is); (case k26 => k_is)
    (case a27 => k_is); (case l27 => k_is); (case c27 => k_is); (case k27 => k_is)
    (case a40 => k_is); (case l40 => k_is); (case c40 => k_is); (case k40 => k_is)
    (case a42 => k_is); (case l42 => k_is); (case c42 => k_is); (case k42 => k_is)
    (case z1 => k_is); (case z2 => k_is); (case z3 => k_is); (case z4 => k_is); (case z5 => k_is); (case z6 => k_is); (case z7 => k_is); (case z8 => k_is); (case z9 => k_is); (case z10 => k_is); (case z11 => k_is); (case z12 => k_is); (case z13 => k_is); (case z14 => k_is)
    (case y1 => k_is)
    (case code17 => rfl); (case lC17 => k_is); (case v17 => rfl); (case nT17 => rfl); (case rec17 => rfl)
    (case code12 => rfl); (case lC12 => k_is); (case v12 => rfl); (case nT12 => rfl); (case rec12 => rfl)
    (case code21 => rfl); (case lC21 => k_is); (case v21 => rfl); (case nT21 => rfl); (case rec21 => rfl)
